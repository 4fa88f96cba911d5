import PyProof.Rows.All
import Wide.All
import OpenK.AllK
import Wide.FinOn
import Lean
import PyProof.EqAt
import PyProof.EqKinds
import PyProof.TupleCall
import PyProof.NeKinds
import OpenK.KOwn
import KE.KTryMore
import KE.RegKTryMore
import PyProof.NsDelKeeps
import KE.KIntText
import PySem.Challenge.RW_lockhouse_k36_read
set_option Elab.async false
set_option linter.all false
set_option maxRecDepth 100000
namespace L2
open PySem PySem.Spec PyProof.Rows
abbrev kT:=Sum Int Str
def nA:kT→Value→Bool
 |.inl k,v=>Value.isInt k v
 |.inr x,v=>Value.isStrOf x v
def DK (w:World):kT→Int
 |.inl k=>hashInt k
 |.inr x=>hashStr w x
theorem yW:∀{k:kT} {v:Value},nA k v=true→(∃i t,k=Sum.inl i∧v=Value.int i t)∨(∃x t,k=Sum.inr x∧v=Value.str x t)
 |.inl i,v,h=>by
  obtain ⟨t,e⟩:=Value.isInt_shape (k:=i) (v:=v) h
  exact .inl ⟨i,t,rfl,e⟩
 |.inr x,v,h=>by
  obtain ⟨t,e⟩:=Value.isStrOf_shape (x:=x) (v:=v) h
  exact .inr ⟨x,t,rfl,e⟩
theorem BZ (a b:Int):decide ((Sum.inl a:kT)=Sum.inl b)=(a == b):=by
 by_cases e:a=b
 ·subst e;simp
 ·have h:¬(Sum.inl a:kT)=Sum.inl b:=fun q=>e (Sum.inl.inj q)
  rw [decide_eq_false h]
  exact (beq_eq_false_iff_ne.mpr e).symm
theorem BW (a b:Str):decide ((Sum.inr a:kT)=Sum.inr b)=decide (a=b):=by
 by_cases e:a=b
 ·subst e;simp
 ·have h:¬(Sum.inr a:kT)=Sum.inr b:=fun q=>e (Sum.inr.inj q)
  rw [decide_eq_false h,decide_eq_false e]
theorem BY (a:Int) (b:Str):decide ((Sum.inl a:kT)=Sum.inr b)=false:=decide_eq_false (fun q=>nomatch q)
theorem BX (a:Str) (b:Int):decide ((Sum.inr a:kT)=Sum.inl b)=false:=decide_eq_false (fun q=>nomatch q)
def eT (prog:Program) (w:World):PySem.KeyKind prog w kT where
 is:=nA
 hash:=DK w
 inj:=fun v a b ha hb=>by
  rcases yW ha with ⟨i,t,rfl,rfl⟩|⟨x,t,rfl,rfl⟩
  ·rcases yW hb with ⟨j,u,rfl,e⟩|⟨y,u,rfl,e⟩
   ·injection e with e1 _;rw [e1]
   ·exact nomatch e
  ·rcases yW hb with ⟨j,u,rfl,e⟩|⟨y,u,rfl,e⟩
   ·exact nomatch e
   ·injection e with e1 _;rw [e1]
 byValue:=fun k v h=>by
  rcases yW h with ⟨i,t,rfl,rfl⟩|⟨x,t,rfl,rfl⟩<;>rfl
 pyHash:=fun hv h=>by
  rcases yW hv with ⟨i,t,rfl,rfl⟩|⟨x,t,rfl,rfl⟩
  ·exact wpAny_pyHash_int h
  ·exact wpAny_pyHash_str h
 eqBool:=fun hu hv h=>by
  rcases yW hu with ⟨i,t,rfl,rfl⟩|⟨x,t,rfl,rfl⟩
  ·rcases yW hv with ⟨j,u,rfl,rfl⟩|⟨y,u,rfl,rfl⟩
   ·rw [BZ] at h;exact wpAny_eqBool_int h
   ·rw [BY] at h;exact SeqAt.EqAt.int_str i t y u _ _ _ _ h
  ·rcases yW hv with ⟨j,u,rfl,rfl⟩|⟨y,u,rfl,rfl⟩
   ·rw [BX] at h;exact SeqAt.EqAt.str_int x t j u _ _ _ _ h
   ·rw [BW] at h;exact wpAny_eqBool_str h
 «strs»:=fun k x t v h=>by
  rcases yW h with ⟨i,u,rfl,e⟩|⟨y,u,rfl,e⟩
  ·exact nomatch e
  ·injection e with e1 _
   subst e1
   cases v<;>rfl
end L2
namespace L2
open PySem PySem.Spec PyProof.Rows
inductive V where
 |non|bl (b:Bool)|int (i:Int)|str (x:Str)|byt (b:Array UInt8)|flt (b:UInt64)|ref (a:Addr)|ty (n:String)
 deriving DecidableEq
def RelV:V→Value→Prop
 |.non,u=>u=Value.none
 |.bl b,u=>u=Value.bool b
 |.int i,u=>∃t,u=Value.int i t
 |.str x,u=>∃t,u=Value.str x t
 |.byt b,u=>∃t,u=Value.bytes b t
 |.flt b,u=>∃t,u=Value.float b t
 |.ref a,u=>u=Value.ref a
 |.ty n,u=>u=Value.type n
abbrev Vals:List V→List Value→Prop:=Paired RelV
theorem Vals.length {xs:List V} {us:List Value} (r:Vals xs us):xs.length=us.length:=Paired.length r
theorem Vals.get:∀{xs:List V} {us:List Value} {i:Nat} {x:V},Vals xs us→xs[i]?=some x→∃u,us[i]?=some u∧RelV x u
 |_,_,_,_,.nil,e=>by simp at e
 |_,_,0,_,.cons r _,e=>by simp at e;subst e;exact ⟨_,rfl,r⟩
 |_,_,i+1,x,.cons _ t,e=>by
  obtain ⟨u,h1,h2⟩:=Vals.get (i:=i) (x:=x) t (by simpa using e)
  exact ⟨u,by simpa using h1,h2⟩
theorem Vals.set {x:V} {u:Value} (r:RelV x u):∀{xs:List V} {us:List Value} (i:Nat),Vals xs us→Vals (xs.set i x) (us.set i u)
 |_,_,_,.nil=>.nil
 |_,_,0,.cons _ t=>.cons r t
 |_,_,i+1,.cons q t=>.cons q (Vals.set r i t)
theorem Vals.append:∀{xs ys:List V} {us ws:List Value},Vals xs us→Vals ys ws→Vals (xs++ys) (us++ws)
 |_,_,_,_,.nil,s=>s
 |_,_,_,_,.cons r t,s=>.cons r (Vals.append t s)
theorem Vals.take:∀{xs:List V} {us:List Value} (n:Nat),Vals xs us→Vals (xs.take n) (us.take n)
 |_,_,0,_=>.nil
 |_,_,_+1,.nil=>.nil
 |_,_,n+1,.cons r t=>.cons r (Vals.take n t)
theorem Vals.drop:∀{xs:List V} {us:List Value} (n:Nat),Vals xs us→Vals (xs.drop n) (us.drop n)
 |_,_,0,r=>r
 |_,_,_+1,.nil=>.nil
 |_,_,n+1,.cons _ t=>Vals.drop n t
def RelO:Option V→Option Value→Prop
 |some v,some u=>RelV v u
 |none,none=>True
 |_,_=>False
def KV {κ:Type}:List (κ×V)→List (κ×Value)→Prop:=Paired fun (p:κ×V) (q:κ×Value)=>p.1=q.1∧RelV p.2 q.2
def kV:kT→V
 |.inl i=>.int i
 |.inr x=>.str x
inductive HO where
 /-- a list -/
 |lst (xs:List V)
 /-- a tuple (never changes) -/
 |tup (xs:List V)
 /-- a dict whose keys are ints and texts;one whose keys are tuples of ints and texts (the empty one is both) -/
 |dK (kvs:List (kT×V))|dT (kvs:List (List kT×V))
 /-- a set of ints: its members,its size -/
 |set (S:Int→Bool) (n:Nat)
 /-- an instance of the class at C,its dict at dx,its attributes -/
 |ins (C dx:Addr) (fs:List (Str×V))
 /-- the dict of the instance at x -/
 |own (x:Addr)
 /-- the dict of an exception -/
 |xd (fs:List (Str×V))
 /-- a bound method,f of x -/
 |met (f x:Addr)
 /-- a range object lo,lo+1,.. below hi -/
 |rng (lo hi:Int)
 /-- a thing that is known to the object (the script;a dict while a loop walks it): read,never written while it is so -/
 |frz (o:Obj) (u:HO)
 /-- a code object's table -/
 |tbl (ps:Array Value)
 /-- any other thing,by what is true of its one object (a def of one's own: SetO a S n:=HO.ext fun h=>..) -/
 |ext (φ:Heap→Prop)
abbrev Hp:=Addr→Option HO
def upd (H:Hp) (a:Addr) (o:HO):Hp:=fun b=>if b=a then some o else H b
theorem jD {H:Hp} {a:Addr} {o:HO}:upd H a o a=some o:=by unfold upd;rw [if_pos rfl]
theorem jY {H:Hp} {a b:Addr} {o:HO} (h:b≠a):upd H a o b=H b:=by unfold upd;rw [if_neg h]
theorem vK {H:Hp} {a b:Addr} {o u:HO} (h:H a=some o) (h':H b=some u) (d:o≠u):a≠b:=by
 intro e;subst e;rw [h] at h';exact d (Option.some.inj h')
theorem j8 {H:Hp} {a b:Addr} {o:HO} (h:H a=some o) (h':H b=none):a≠b:=by
 intro e;subst e;rw [h] at h';cases h'
section
variable (P:Program) (w:World)
def ObjOk (H:Hp) (h:Heap) (a:Addr):HO→Prop
 |.lst xs=>xs.length≤sizeLine∧∃(its:List Value) (n:Nat),Vals xs its∧h.get? a=some {cls:=.type "list",data:=.seq its.toArray n}
 |.tup xs=>xs.length≤sizeLine∧∃its:List Value,Vals xs its∧IsTup h a its.toArray
 |.dK kvs=>kvs.length≤sizeLine∧(a == sysModules)=false∧∃vs,KV kvs vs∧h.DictOf (eT P w) a vs
 |.dT kvs=>kvs.length≤sizeLine∧(a == sysModules)=false∧∃xs:List (List kT×Addr×Value),
   Paired (fun (p:List kT×V) (q:List kT×Addr×Value)=>p.1=q.1∧H q.2.1=some (.tup (p.1.map kV))∧RelV p.2 q.2.2) kvs xs∧
   ∃o es ep,h.get? a=some o∧o.ExactDict∧o.data=.dict es ep∧es.toList=xs.map (entryOfKey (tupleKind (eT P w)))∧(xs.map (·.1)).Nodup
 |.set S n=>h.SetOf (intKind P w) a S n
 |.ins C dx fs=>H dx=some (.own a)∧fs.length≤1000∧dx≠a∧h.get? a=some (PySem.W.instObj C dx)∧
   ∃mA,h.Ns1 dx mA∧(∀f,RelO (fs.lookup f) (mA f))∧PySem.Within mA (fs.map (·.1))
 |.own _=>∃o,h.get? a=some o
 |.xd fs=>∃mA,h.Ns1 a mA∧∀f,RelO (fs.lookup f) (mA f)
 |.rng lo hi=>∃t u v,h.get? a=some {cls:=.type "range",data:=.fields #[.int lo t,.int hi u,.int 1 v]}
 |.frz o u=>h.get? a=some o∧ObjOk H h a u
 |.tbl ps=>h.get? a=some {cls:=.none,data:=.fields ps}
 |.met f x=>h.get? a=some (PySem.W.methodObj (.ref f) (.ref x))
 |.ext φ=>φ h∧(∃o,h.get? a=some o)∧∀h1 h2:Heap,φ h1→(∀o,h1.get? a=some o→h2.get? a=some o)→φ h2
def HOk (H:Hp) (h:Heap):Prop:=∀a o,H a=some o→ObjOk P w H h a o
end
section
variable {P:Program} {w:World} {H H':Hp} {h h':Heap} {a:Addr} {o:HO}
theorem ObjOk.lt (x:ObjOk P w H h a o):a<h.objs.size:=by
 cases o with
 |lst xs=>obtain ⟨_,_,_,_,e⟩:=x;exact Heap.lt_size e
 |tup xs=>obtain ⟨_,_,_,p⟩:=x;exact p.lt
 |dK kvs=>obtain ⟨_,_,_,_,o,_,_,e,_⟩:=x;exact Heap.lt_size e
 |dT kvs=>obtain ⟨_,_,_,_,o,_,_,e,_⟩:=x;exact Heap.lt_size e
 |set S n=>obtain ⟨o,_,_,_,e,_⟩:=x;exact Heap.lt_size e
 |ins C dx fs=>obtain ⟨_,_,_,e,_⟩:=x;exact Heap.lt_size e
 |own y=>obtain ⟨_,e⟩:=x;exact Heap.lt_size e
 |xd fs=>obtain ⟨_,⟨_,_,_,e,_⟩,_⟩:=x;exact Heap.lt_size e
 |rng lo hi=>obtain ⟨_,_,_,e⟩:=x;exact Heap.lt_size e
 |frz ob u=>obtain ⟨e,_⟩:=x;exact Heap.lt_size e
 |tbl ps=>exact Heap.lt_size (show h.get? a=some _ from x)
 |met f y=>exact Heap.lt_size (show h.get? a=some _ from x)
 |ext φ=>obtain ⟨_,⟨_,e⟩,_⟩:=x;exact Heap.lt_size e
theorem Paired.mapP {α β:Type} {F G:α→β→Prop}:∀{l₁:List α} {l₂:List β},Paired F l₁ l₂→(∀a b,F a b→G a b)→Paired G l₁ l₂
 |_,_,.nil,_=>.nil
 |_,_,.cons r t,f=>.cons (f _ _ r) (Paired.mapP t f)
theorem ObjOk.stay (x:ObjOk P w H h a o) (k:∀b u,(b=a∨H b=some (.own a))→h.get? b=some u→h'.get? b=some u)
  (ho:∀b,H b=some (.own a)→H' b=some (.own a)) (ht:∀b xs,H b=some (.tup xs)→H' b=some (.tup xs)):ObjOk P w H' h' a o:=by
 induction o with
 |lst xs=>obtain ⟨z,its,n,r,e⟩:=x;exact ⟨z,its,n,r,k _ _ (.inl rfl) e⟩
 |tup xs=>obtain ⟨z,its,r,ob,e,c⟩:=x;exact ⟨z,its,r,ob,k _ _ (.inl rfl) e,c⟩
 |dK kvs=>obtain ⟨z,y,vs,r,ob,es,ep,e,c⟩:=x;exact ⟨z,y,vs,r,ob,es,ep,k _ _ (.inl rfl) e,c⟩
 |dT kvs =>
  obtain ⟨z,y,xs,r,ob,es,ep,e,c⟩:=x
  exact ⟨z,y,xs,Paired.mapP r fun p q z=>⟨z.1,ht _ _ z.2.1,z.2.2⟩,ob,es,ep,k _ _ (.inl rfl) e,c⟩
 |set S n=>obtain ⟨ob,es,ep,t,e,c⟩:=x;exact ⟨ob,es,ep,t,k _ _ (.inl rfl) e,c⟩
 |ins C dx fs =>
  obtain ⟨d,z,ne,e,mA,⟨od,es,ep,e2,c⟩,r⟩:=x
  exact ⟨ho _ d,z,ne,k _ _ (.inl rfl) e,mA,⟨od,es,ep,k _ _ (.inr d) e2,c⟩,r⟩
 |own y=>obtain ⟨ob,e⟩:=x;exact ⟨ob,k _ _ (.inl rfl) e⟩
 |xd fs=>obtain ⟨mA,⟨od,es,ep,e,c⟩,r⟩:=x;exact ⟨mA,⟨od,es,ep,k _ _ (.inl rfl) e,c⟩,r⟩
 |rng lo hi=>obtain ⟨t,u,v,e⟩:=x;exact ⟨t,u,v,k _ _ (.inl rfl) e⟩
 |frz ob u ih=>obtain ⟨e,q⟩:=x;exact ⟨k _ _ (.inl rfl) e,ih q⟩
 |tbl ps =>
  have e:h.get? a=some {cls:=.none,data:=.fields ps}:=x
  show h'.get? a=some {cls:=.none,data:=.fields ps}
  exact k a _ (.inl rfl) e
 |met f y =>
  have e:h.get? a=some (PySem.W.methodObj (.ref f) (.ref y)):=x
  show h'.get? a=some (PySem.W.methodObj (.ref f) (.ref y))
  exact k a _ (.inl rfl) e
 |ext φ=>obtain ⟨p,⟨o,e⟩,st⟩:=x;exact ⟨st _ _ p fun o q=>k _ _ (.inl rfl) q,⟨o,k _ _ (.inl rfl) e⟩,st⟩
theorem HOk.lt (x:HOk P w H h) (e:H a=some o):a<h.objs.size:=(x a o e).lt
theorem HOk.fresh (x:HOk P w H h) (e:h.objs.size≤a):H a=none:=by
 cases q:H a with
 |none=>rfl
 |some u=>exact absurd (Nat.lt_of_lt_of_le (x.lt q) e) (Nat.lt_irrefl _)
theorem HOk.kept (x:HOk P w H h) (k:∀b u,h.get? b=some u→h'.get? b=some u):HOk P w H h':=fun a o e =>
 (x a o e).stay (fun b u _ q=>k b u q) (fun _ q=>q) fun _ _ q=>q
theorem HOk.laid (x:HOk P w H h) (k:∀b u,h.get? b=some u→h'.get? b=some u) (hp:h.objs.size≤a) (new:ObjOk P w (upd H a o) h' a o):HOk P w (upd H a o) h':=fun b u e=>by
 have hn:=x.fresh hp
 by_cases hb:b=a
 ·subst hb;rw [jD] at e;cases e;exact new
 ·rw [jY hb] at e
  exact (x b u e).stay (fun c v _ q=>k c v q) (fun c q=>by rw [jY (j8 q hn)];exact q) fun c xs q=>by rw [jY (j8 q hn)];exact q
end
def Rd (H:Hp) (a:Addr) (u:HO):Prop:=H a=some u∨∃o,H a=some (.frz o u)
theorem Rd.of {H:Hp} {a:Addr} {u:HO} (h:H a=some u):Rd H a u:=.inl h
theorem Rd.ok {P:Program} {w:World} {H:Hp} {h:Heap} {a:Addr} {u:HO} (r:Rd H a u) (x:HOk P w H h):ObjOk P w H h a u:=by
 rcases r with r|⟨o,r⟩
 ·exact x a u r
 ·obtain ⟨_,q⟩:=x a _ r
  exact q
def dL:Option HO→Prop
 |some (.lst _)=>True
 |some (.dK _)=>True
 |some (.dT _)=>True
 |some (.set _ _)=>True
 |some (.ins _ _ _)=>True
 |some (.ext _)=>True
 |_=>False
section
variable {P:Program} {w:World} {H:Hp} {h h':Heap} {x e:Addr} {o':HO}
theorem HOk.write (ok:HOk P w H h) (mu:dL (H x)) (he:e=x∨H e=some (.own x)) (k:∀b u,b≠e→h.get? b=some u→h'.get? b=some u) (heo:∃u,h'.get? e=some u)
  (new:ObjOk P w (upd H x o') h' x o'):HOk P w (upd H x o') h':=fun b u q=>by
 have nown:∀c y,H c=some (.own y)→c≠x:=fun c y r z=>by subst z;rw [r] at mu;exact mu
 have ntup:∀c xs,H c=some (.tup xs)→c≠x:=fun c xs r z=>by subst z;rw [r] at mu;exact mu
 by_cases hb:b=x
 ·subst hb;rw [jD] at q;cases q;exact new
 ·rw [jY hb] at q
  by_cases hbe:b=e
  ·have q':H b=some (.own x):=by
    rcases he with z|z
    ·exact absurd (hbe.trans z) hb
    ·rw [hbe];exact z
   rw [q] at q';cases q'
   obtain ⟨v,hv⟩:=heo
   exact ⟨v,by rw [hbe];exact hv⟩
  ·refine (ok b u q).stay (fun c v hc r=>k c v ?_ r) (fun c r=>by rw [jY (nown c b r)];exact r) fun c xs r=>by rw [jY (ntup c xs r)];exact r
   rcases hc with rfl|hc
   ·exact hbe
   ·rintro rfl
    rcases he with z|z
    ·exact nown c b hc z
    ·rw [hc] at z;cases z;exact hb rfl
end
structure Un (fs ex:List Addr) (H H':Hp) (h h':Heap):Prop where
 keep:∀b o,h.get? b=some o→H b=none→b∉fs→b∉ex→h'.get? b=some o
 slot:∀b o,h.get? b=some o→H b=none→b∈fs→b∉ex→∃sl,h'.get? b=some {o with slots:=sl}
 free:∀b o,h.get? b=some o→H b=none→b∉ex→H' b=none
 there:∀b o,h.get? b=some o→b∉ex→∃o',h'.get? b=some o'
 tups:∀b xs,H b=some (.tup xs)→H' b=some (.tup xs)
 frzs:∀b o u,H b=some (.frz o u)→H' b=some (.frz o u)
 tbls:∀b ps,H b=some (.tbl ps)→∃more,H' b=some (.tbl (ps++more))
section
variable {fs fs' ex ex':List Addr} {H H1 H2:Hp} {h h1 h2 h':Heap} {a x e:Addr} {o:HO}
theorem Un.any (u:Un fs ex H H1 h h1) {b:Addr} {ob:Obj} (q:h.get? b=some ob) (n:H b=none) (hx:b∉ex):∃sl,h1.get? b=some {ob with slots:=sl}:=by
 by_cases hb:b∈fs
 ·exact u.slot b ob q n hb hx
 ·exact ⟨ob.slots,u.keep b ob q n hb hx⟩
theorem Un.trans (a:Un fs ex H H1 h h1) (b:Un fs ex H1 H2 h1 h2):Un fs ex H H2 h h2 where
 keep:=fun c ob q n hc hx=>b.keep c ob (a.keep c ob q n hc hx) (a.free c ob q n hx) hc hx
 slot:=fun c ob q n hc hx=>by
  obtain ⟨sl,e1⟩:=a.slot c ob q n hc hx
  obtain ⟨sl',e2⟩:=b.slot c _ e1 (a.free c ob q n hx) hc hx
  exact ⟨sl',e2⟩
 free:=fun c ob q n hx=>by
  obtain ⟨o',e1⟩:=a.there c ob q hx
  exact b.free c o' e1 (a.free c ob q n hx) hx
 there:=fun c ob q hx=>by
  obtain ⟨o',e1⟩:=a.there c ob q hx
  exact b.there c o' e1 hx
 tups:=fun c xs q=>b.tups c xs (a.tups c xs q)
 frzs:=fun c ob xs q=>b.frzs c ob xs (a.frzs c ob xs q)
 tbls:=fun c ps q=>by
  obtain ⟨m1,e1⟩:=a.tbls c ps q
  obtain ⟨m2,e2⟩:=b.tbls c _ e1
  exact ⟨m1++m2,by rw [e2,Array.append_assoc]⟩
theorem Un.kept (k:∀b u,h.get? b=some u→h'.get? b=some u):Un fs ex H H h h' :=
 ⟨fun b ob q _ _ _=>k b ob q,fun b ob q _ _ _=>⟨ob.slots,k b ob q⟩,fun _ _ _ n _=>n,fun b ob q _=>⟨ob,k b ob q⟩,fun _ _ q=>q,fun _ _ _ q=>q,fun _ ps q=>⟨#[],by rw [q];simp⟩⟩
theorem Un.refl:Un fs ex H H h h:=Un.kept fun _ _ q=>q
theorem Un.laid (k:∀b u,h.get? b=some u→h'.get? b=some u) (hp:h.objs.size≤a) (hn:H a=none):Un fs ex H (upd H a o) h h' where
 keep:=fun b u q _ _ _=>k b u q
 slot:=fun b u q _ _ _=>⟨u.slots,k b u q⟩
 free:=fun b u q n _=>by rw [jY (Nat.ne_of_lt (Nat.lt_of_lt_of_le (Heap.lt_size q) hp))];exact n
 there:=fun b u q _=>⟨u,k b u q⟩
 tups:=fun b xs q=>by rw [jY (j8 q hn)];exact q
 frzs:=fun b u xs q=>by rw [jY (j8 q hn)];exact q
 tbls:=fun b ps q=>⟨#[],by rw [jY (j8 q hn),q];simp⟩
theorem Un.write (mu:dL (H x)) (he:e=x∨H e=some (.own x)) (k:∀b u,b≠e→h.get? b=some u→h'.get? b=some u) (heo:∃u,h'.get? e=some u):Un fs ex H (upd H x o) h h':=by
 have hx:∀b,H b=none→b≠x:=fun b n z=>by subst z;rw [n] at mu;exact mu
 have hb:∀b,H b=none→b≠e:=fun b n z=>by
  subst z
  rcases he with r|r
  ·exact hx b n r
  ·rw [n] at r;cases r
 have hm:∀b u,H b=some u→¬dL (some u)→b≠x:=fun b u q nm z=>by subst z;rw [q] at mu;exact nm mu
 refine ⟨fun b u q n _ _=>k b u (hb b n) q,fun b u q n _ _=>⟨u.slots,k b u (hb b n) q⟩,fun b u q n _=>by rw [jY (hx b n)];exact n,fun b u q _=>?_,
  fun b xs q=>by rw [jY (hm b _ q fun z=>z)];exact q,fun b u xs q=>by rw [jY (hm b _ q fun z=>z)];exact q,fun b ps q=>⟨#[],by rw [jY (hm b _ q fun z=>z),q];simp⟩⟩
 by_cases hbe:b=e
 ·subst hbe;exact heo
 ·exact ⟨u,k b u hbe q⟩
theorem Un.mono (u:Un fs ex H H1 h h1) (hs:∀b∈fs,b∈fs') (hx:∀b∈ex,b∈ex'):Un fs' ex' H H1 h h1 :=
 ⟨fun b ob q n hb he=>u.keep b ob q n (fun z=>hb (hs b z)) fun z=>he (hx b z),fun _ _ q n _ he=>u.any q n fun z=>he (hx _ z),fun b ob q n he=>u.free b ob q n fun z=>he (hx b z),fun b ob q he=>u.there b ob q fun z=>he (hx b z),u.tups,u.frzs,u.tbls⟩
end
def dD (h:Heap) (H:Hp):List Addr:=(List.range h.objs.size).filter fun a=>(H a).isSome
def y9 (h:Heap) (H:Hp):Heap:=PySem.W.hideAll h (dD h H)
theorem uX (h:Heap) (H:Hp):(y9 h H).objs.size=h.objs.size:=PySem.W.hideAll_size _ _
theorem xK {h:Heap} {H:Hp} {b:Addr} {o:Obj} (e:h.get? b=some o) (n:H b=none):(y9 h H).get? b=some o :=
 PySem.W.hideAll_get _ e fun hm=>by
  have q:(H b).isSome=true:=(List.mem_filter.mp hm).2
  rw [n] at q;simp at q
theorem AI {h:Heap} {H:Hp} {b:Addr} {o:Obj} (e:(y9 h H).get? b=some o):h.get? b=some o∧H b=none:=by
 have e':h.get? b=some o:=PySem.W.of_hideAll (dD h H) e
 refine ⟨e',?_⟩
 cases q:H b with
 |none=>rfl
 |some x =>
  have hm:b∈dD h H:=List.mem_filter.mpr ⟨List.mem_range.mpr (Heap.lt_size e'),by simp [q]⟩
  have z:(y9 h H).get? b=none:=PySem.W.hideAll_none (dD h H) hm
  rw [z] at e;cases e
def AZ (g h:Heap) (L:Addr):List (Addr×Obj):=(List.range h.objs.size).filterMap fun a=>if a=L∨(g.get? a).isSome=true then none else (h.get? a).map fun o=>(a,o)
def rest (g h:Heap) (L d:Addr):List (Addr×Obj):=(AZ g h L).filter fun p=>decide (p.1≠d)
end L2
namespace L2
open PySem PySem.Spec PyProof.Rows
structure Mod (K:PySem.W.Frag) (mg:Str→Option Value) (base:Heap):Prop where
 kin:K.In base
 glob:base.Ns mainGlobals mg
 blt:∃mb,base.Ns builtinsNs mb∧∀x:Str,x≠"__name__"→mb x=bootBuiltins x
 nolimit:base.NoLimit
structure Cx where
 prog:Program
 w:World
 K:PySem.W.Frag
 mg:Str→Option Value
 base:Heap
 A:Around
 N:List Str
 s₀:Shared
 H₀:Hp
 env:Env
 outer:List Env
 stack:List Env
 ex:List Addr
 fn:Str→Bool
 calm:Bool
 pn:List (Addr×Obj)
 xe:Value→Shared→Prop
def v7 (l:List Env):List Addr:=l.filterMap (·.frame)
abbrev Cx.fs (X:Cx):List Addr:=v7 X.outer
def dH (sc:Scope) (x:Str):Prop:=sc.names.lookup x=some .local∨sc.names.lookup x=some .cell∨sc.names.lookup x=some .free
def Z0 (sc:Scope) (x:Str):Prop:=sc.names.lookup x=some .local∨sc.names.lookup x=some .cell
def DV (env:Env) (h:Heap) (m:Str→Option Value) (x:Str) (u:Value):Prop :=
 (env.kindOf x=some .local∧m x=some u)∨((env.kindOf x=some .cell∨env.kindOf x=some .free)∧∃c,env.cells.lookup x=some c∧h.IsCell c (some u))
structure Cx.Ok (X:Cx):Prop where
 mod:Mod X.K X.mg X.base
 kind:X.env.scope.kind=.function
 glob:X.env.globals=mainGlobals
 blt:X.env.builtins=builtinsNs
 above:X.s₀.heap.objs.size≤X.env.locals
 inj:∀x y c,X.env.cells.lookup x=some c→X.env.cells.lookup y=some c→x=y
 has:∀x,(X.env.kindOf x=some .cell∨X.env.kindOf x=some .free)→∃c,X.env.cells.lookup x=some c
 cab:∀x c,X.fn x=true→X.env.cells.lookup x=some c→X.s₀.heap.objs.size≤c
 hd:X.calm=true→X.A.handled=none
 frames:X.A.frames=some X.stack
 stk:X.stack=X.outer∨(X.stack=X.env::X.outer∧X.env.frame=some X.env.locals)
 exf:∀b∈X.ex,b≠X.env.locals∧∀x c,X.env.cells.lookup x=some c→c≠b
 bs:∀b o,X.base.get? b=some o→X.s₀.heap.get? b=some o∧X.H₀ b=none
 bsz:X.base.objs.size≤X.s₀.heap.objs.size
 noex:∀b o,X.base.get? b=some o→b∉X.ex
 exfs:∀b∈X.ex,b∉X.fs
 funs:X.s₀.heap.FunFrames X.base X.outer
 frf:∀b∈X.fs,X.H₀ b=none
structure Inv (X:Cx) (pins:List (Addr×Obj)) (σ:List (Option V)) (H:Hp) (s:Shared):Prop where
 ok:X.Ok
 os:s.os=X.s₀.os
 bare:AllBare s.gens
 base:Un X.fs X.ex X.H₀ H X.s₀.heap s.heap
 loc:∃m,s.heap.Ns X.env.locals m∧∀(i:Nat) (x:Str) (v:V),X.N[i]?=some x→σ[i]?=some (some v)→dH X.env.scope x→∃u,RelV v u∧DV X.env s.heap m x u
 cell:∀x c,X.env.cells.lookup x=some c→∃v,s.heap.IsCell c v
 free:H X.env.locals=none
 freeC:∀x c,X.env.cells.lookup x=some c→H c=none
 pin:∀p∈X.pn++pins,s.heap.get? p.1=some p.2∧H p.1=none∧p.1≠X.env.locals∧p.1∉X.fs∧∀v,p.2.data≠.cell v
 hok:HOk X.prog X.w H s.heap
 len:σ.length=X.N.length
section
variable {X:Cx} {pins:List (Addr×Obj)} {σ:List (Option V)} {H H':Hp} {s:Shared} {h':Heap}
theorem Cx.Ok.nofr (ok:X.Ok) {b:Addr} {o:Obj} (e:X.base.get? b=some o):b∉X.fs:=fun hb=>by
 have:=(ok.funs.mem hb).1
 rw [e] at this;cases this
theorem Inv.bs (I:Inv X pins σ H s):∀b o,X.base.get? b=some o→s.heap.get? b=some o∧H b=none:=fun b o e =>
 ⟨I.base.keep b o (I.ok.bs b o e).1 (I.ok.bs b o e).2 (I.ok.nofr e) (I.ok.noex b o e),I.base.free b o (I.ok.bs b o e).1 (I.ok.bs b o e).2 (I.ok.noex b o e)⟩
theorem Inv.bk (I:Inv X pins σ H s):∀b o,X.base.get? b=some o→s.heap.get? b=some o:=fun b o e=>(I.bs b o e).1
theorem Inv.mod (I:Inv X pins σ H s):Mod X.K X.mg X.base:=I.ok.mod
theorem Inv.kIn (I:Inv X pins σ H s):X.K.In s.heap:=I.ok.mod.kin.keeps I.bk
theorem Inv.lt (I:Inv X pins σ H s):X.env.locals<s.heap.objs.size:=let ⟨_,hn,_⟩:=I.loc;hn.lt
theorem Inv.sz (I:Inv X pins σ H s):X.s₀.heap.objs.size≤s.heap.objs.size:=Nat.le_trans I.ok.above (Nat.le_of_lt I.lt)
theorem Inv.nofs (I:Inv X pins σ H s) {a:Addr} (h:s.heap.objs.size≤a):a∉X.fs:=fun hb=>by
 obtain ⟨_,o,ho,_⟩:=I.ok.funs.mem hb
 exact absurd (Nat.lt_of_lt_of_le (Heap.lt_size ho) (Nat.le_trans I.sz h)) (Nat.lt_irrefl _)
theorem Inv.cne (I:Inv X pins σ H s):∀x c,X.env.cells.lookup x=some c→c≠X.env.locals:=fun x c e z=>by
 obtain ⟨v,o,ho,hd⟩:=I.cell x c e
 obtain ⟨m,⟨o',es,ep,ho',hd',_⟩,_⟩:=I.loc
 rw [z,ho'] at ho;cases ho;rw [hd'] at hd;cases hd
theorem Inv.funs (I:Inv X pins σ H s):s.heap.FunFrames X.base X.outer:=by
 have all:∀(l:List Env),(∀b∈v7 l,b∈X.fs)→X.s₀.heap.FunFrames X.base l→s.heap.FunFrames X.base l:=by
  intro l
  induction l with
  |nil=>intro _ _;trivial
  |cons env r ih =>
   intro hs hl
   obtain ⟨hk,⟨L,o,hf,hn,ho,hd⟩,hr⟩:=hl
   have hL:L∈X.fs:=hs L (by unfold v7;rw [List.filterMap_cons,hf];exact List.mem_cons_self)
   obtain ⟨sl,e⟩:=I.base.slot L o ho (I.ok.frf L hL) hL fun z=>I.ok.exfs L z hL
   exact ⟨hk,⟨L,_,hf,hn,e,hd⟩,ih (fun b hb=>hs b (by unfold v7;rw [List.filterMap_cons,hf];exact List.mem_cons_of_mem _ hb)) hr⟩
 exact all X.outer (fun _ hb=>hb) I.ok.funs
theorem Inv.stack (I:Inv X pins σ H s):s.heap.FunFrames X.base X.stack:=by
 rcases I.ok.stk with e|⟨e,hf⟩
 ·rw [e];exact I.funs
 ·rw [e]
  obtain ⟨m,hn,_⟩:=I.loc
  refine .cons (by rw [I.ok.kind];decide) hf hn ?_ I.funs
  exact Heap.get?_none_of_le (Nat.le_trans I.ok.bsz I.ok.above)
theorem Inv.stkSub (I:Inv X pins σ H s):∀b∈v7 X.stack,b∈X.env.locals::X.fs:=fun b hb=>by
 rcases I.ok.stk with e|⟨e,hf⟩
 ·rw [e] at hb;exact List.mem_cons_of_mem _ hb
 ·rw [e] at hb
  unfold v7 at hb
  rw [List.filterMap_cons,hf] at hb
  exact hb
theorem Inv.stkFree (I:Inv X pins σ H s):∀b∈v7 X.stack,H b=none:=fun b hb=>by
 rcases List.mem_cons.mp (I.stkSub b hb) with e|hb
 ·rw [e];exact I.free
 ·obtain ⟨_,o,ho,_⟩:=I.ok.funs.mem hb
  exact I.base.free b o ho (I.ok.frf b hb) fun z=>I.ok.exfs b z hb
theorem Inv.step {g':Array GenState} {t':Nat} {d':Drawn} {ch:List Addr} (I:Inv X pins σ H s)
  (hch:∀b∈ch,(b∈X.ex∨X.s₀.heap.objs.size≤b)∧b≠X.env.locals∧(∀x c,X.env.cells.lookup x=some c→c≠b)∧∀p∈X.pn++pins,p.1≠b)
  (keep:∀b o,b≠X.env.locals→b∉X.fs→b∉ch→s.heap.get? b=some o→H b=none→h'.get? b=some o)
  (slot:∀b o,b≠X.env.locals→b∈X.fs→b∉ch→s.heap.get? b=some o→H b=none→∃sl,h'.get? b=some {o with slots:=sl}) (free:∀b o,b∉ch→s.heap.get? b=some o→H b=none→H' b=none)
  (there:∀b o,b∉ch→s.heap.get? b=some o→∃o',h'.get? b=some o')
  (tups:∀b xs,H b=some (.tup xs)→H' b=some (.tup xs)) (frzs:∀b o u,H b=some (.frz o u)→H' b=some (.frz o u)) (tbls:∀b ps,H b=some (.tbl ps)→∃more,H' b=some (.tbl (ps++more)))
  (ns:∀m,s.heap.Ns X.env.locals m→h'.Ns X.env.locals m) (hok:HOk X.prog X.w H' h') (hg:AllBare g') :
  Inv X pins σ H' {s with heap:=h',gens:=g',drawn:=d',toks:=t'}:=by
 have neL:∀b o,X.s₀.heap.get? b=some o→b≠X.env.locals:=fun b o e=>Nat.ne_of_lt (Nat.lt_of_lt_of_le (Heap.lt_size e) I.ok.above)
 have neC:∀b o,X.s₀.heap.get? b=some o→b∉X.ex→b∉ch:=fun b o e hx hb=>by
  rcases (hch b hb).1 with z|z
  ·exact hx z
  ·exact absurd (Nat.lt_of_lt_of_le (Heap.lt_size e) z) (Nat.lt_irrefl _)
 have cellK:∀x c,X.env.cells.lookup x=some c→∀v,s.heap.IsCell c v→h'.IsCell c v:=fun x c e v ⟨o,ho,hd⟩=>by
  have nch:c∉ch:=fun z=>(hch c z).2.2.1 x c e rfl
  by_cases hc:c∈X.fs
  ·obtain ⟨sl,q⟩:=slot c o (I.cne x c e) hc nch ho (I.freeC x c e)
   exact ⟨_,q,hd⟩
  ·exact ⟨o,keep c o (I.cne x c e) hc nch ho (I.freeC x c e),hd⟩
 refine ⟨I.ok,I.os,hg,⟨fun b o e n hb hx=>?_,fun b o e n hb hx=>?_,fun b o e n hx=>?_,fun b o e hx=>?_,fun b xs e=>tups b xs (I.base.tups b xs e),fun b o xs e=>frzs b o xs (I.base.frzs b o xs e),fun b ps e=>?_⟩,?_,fun x c e=>?_,?_,fun x c e=>?_,fun p hp=>?_,hok,I.len⟩
 ·exact keep b o (neL b o e) hb (neC b o e hx) (I.base.keep b o e n hb hx) (I.base.free b o e n hx)
 ·obtain ⟨sl,e1⟩:=I.base.slot b o e n hb hx
  obtain ⟨sl',e2⟩:=slot b _ (neL b o e) hb (neC b o e hx) e1 (I.base.free b o e n hx)
  exact ⟨sl',e2⟩
 ·obtain ⟨o',e1⟩:=I.base.there b o e hx
  exact free b o' (neC b o e hx) e1 (I.base.free b o e n hx)
 ·obtain ⟨o',e1⟩:=I.base.there b o e hx
  exact there b o' (neC b o e hx) e1
 ·obtain ⟨m1,e1⟩:=I.base.tbls b ps e
  obtain ⟨m2,e2⟩:=tbls b _ e1
  exact ⟨m1++m2,by rw [e2,Array.append_assoc]⟩
 ·obtain ⟨m,hn,hl⟩:=I.loc
  refine ⟨m,ns m hn,fun i x v e1 e2 e3=>?_⟩
  obtain ⟨u,r,l⟩:=hl i x v e1 e2 e3
  refine ⟨u,r,?_⟩
  rcases l with l|⟨k,c,e,z⟩
  ·exact .inl l
  ·exact .inr ⟨k,c,e,cellK x c e _ z⟩
 ·obtain ⟨v,z⟩:=I.cell x c e
  exact ⟨v,cellK x c e v z⟩
 ·obtain ⟨m,⟨o,_,_,ho,_⟩,_⟩:=I.loc
  exact free _ o (fun z=>(hch _ z).2.1 rfl) ho I.free
 ·obtain ⟨v,o,ho,hd⟩:=I.cell x c e
  exact free c o (fun z=>(hch c z).2.2.1 x c e rfl) ho (I.freeC x c e)
 ·obtain ⟨e,n,ne,nf,d⟩:=I.pin p hp
  have nch:p.1∉ch:=fun z=>(hch p.1 z).2.2.2 p hp rfl
  exact ⟨keep p.1 p.2 ne nf nch e n,free p.1 p.2 nch e n,ne,nf,d⟩
theorem Inv.un {t':Nat} (I:Inv X pins σ H s) (u:Un X.fs [] H H' s.heap h') (hok:HOk X.prog X.w H' h'):Inv X pins σ H' {s with heap:=h',toks:=t'}:=by
  obtain ⟨m,⟨o,es,ep,ho,r⟩,_⟩:=id I.loc
  obtain ⟨sl,hL⟩:=u.any ho I.free (by simp)
  exact I.step (g':=s.gens) (d':=s.drawn) (ch:=[]) (fun _ z=>nomatch z) (fun b o _ hb _ e n=>u.keep b o e n hb (by simp)) (fun b o _ hb _ e n=>u.slot b o e n hb (by simp)) (fun b o _ e n=>u.free b o e n (by simp)) (fun b o _ e=>u.there b o e (by simp)) u.tups u.frzs u.tbls (fun m' hm=>by
    obtain ⟨o',es',ep',ho',r'⟩:=hm
    rw [ho] at ho';cases ho'
    exact ⟨_,es',ep',hL,r'⟩) hok I.bare
theorem Inv.call {g':Array GenState} {t':Nat} {d':Drawn} {ch:List Addr} (I:Inv X pins σ H s) (u:Un (v7 X.stack) ch H H' s.heap h') (hok:HOk X.prog X.w H' h') (hg:AllBare g')
  (hch:∀b∈ch,(b∈X.ex∨X.s₀.heap.objs.size≤b)∧b≠X.env.locals∧(∀x c,X.env.cells.lookup x=some c→c≠b)∧∀p∈X.pn++pins,p.1≠b) :
  Inv X pins σ H' {s with heap:=h',gens:=g',drawn:=d',toks:=t'}:=by
 obtain ⟨m,⟨o,es,ep,ho,r⟩,_⟩:=id I.loc
 obtain ⟨sl,hL⟩:=u.any ho I.free fun z=>(hch _ z).2.1 rfl
 exact I.step (ch:=ch) hch (fun b o hL hb hc e n=>u.keep b o e n (fun z=>(List.mem_cons.mp (I.stkSub b z)).elim hL hb) hc) (fun b o _ _ hc e n=>u.any e n hc) (fun b o hc e n=>u.free b o e n hc) (fun b o hc e=>u.there b o e hc) u.tups u.frzs u.tbls (fun m' hm=>by
  obtain ⟨o',es',ep',ho',r'⟩:=hm
  rw [ho] at ho';cases ho'
  exact ⟨_,es',ep',hL,r'⟩) hok hg
theorem Inv.turned {t':Nat} {it:Addr} (I:Inv X pins σ H s) (k:∀b o,b≠it→s.heap.get? b=some o→h'.get? b=some o) (hn:H it=none) (hL:it≠X.env.locals)
    (h1:it∈X.ex∨X.s₀.heap.objs.size≤it) (h2:∀x c,X.env.cells.lookup x=some c→c≠it) (h3:∀p∈X.pn++pins,p.1≠it):Inv X pins σ H {s with heap:=h',toks:=t'}:=by
  have nit:∀b u,H b=some u→b≠it:=fun b u e z=>by rw [z,hn] at e;cases e
  refine I.step (g':=s.gens) (d':=s.drawn) (ch:=[it]) (fun b hb=>?_) (fun b o _ _ hc e _=>k b o (fun z=>hc (by simp [z])) e) (fun b o _ _ hc e _=>⟨o.slots,k b o (fun z=>hc (by simp [z])) e⟩) (fun _ _ _ _ n=>n)
    (fun b o hc e=>⟨o,k b o (fun z=>hc (by simp [z])) e⟩) (fun _ _ e=>e) (fun _ _ _ e=>e) (fun b ps e=>⟨#[],by rw [e];simp⟩) (fun m hm=>?_) (fun b u e=>?_) I.bare
  · have e:b=it:=by simpa using hb
    subst e
    exact ⟨h1,hL,h2,h3⟩
  · obtain ⟨o,es,ep,ho,r⟩:=hm
    exact ⟨o,es,ep,k _ o (Ne.symm hL) ho,r⟩
  · refine (I.hok b u e).stay (fun c v hc q=>k c v ?_ q) (fun _ q=>q) fun _ _ q=>q
    rcases hc with z|z
    · rw [z];exact nit b u e
    · exact nit c _ z
theorem Inv.tok (I:Inv X pins σ H s) (t:Nat):Inv X pins σ H {s with toks:=t}:=I.un (h':=s.heap) (t':=t) Un.refl I.hok
theorem Inv.kept {t':Nat} (I:Inv X pins σ H s) (k:∀b u,s.heap.get? b=some u→h'.get? b=some u):Inv X pins σ H {s with heap:=h',toks:=t'}:=I.un (Un.kept k) (I.hok.kept k)
theorem Inv.laid {a:Addr} {o:HO} {t':Nat} (I:Inv X pins σ H s) (k:∀b u,s.heap.get? b=some u→h'.get? b=some u) (hp:s.heap.objs.size≤a) (new:ObjOk X.prog X.w (upd H a o) h' a o) :
  Inv X pins σ (upd H a o) {s with heap:=h',toks:=t'}:=I.un (Un.laid k hp (I.hok.fresh hp)) (I.hok.laid k hp new)
theorem Inv.write {x e:Addr} {o:HO} {t':Nat} (I:Inv X pins σ H s) (mu:dL (H x)) (he:e=x∨H e=some (.own x)) (k:∀b u,b≠e→s.heap.get? b=some u→h'.get? b=some u) (heo:∃u,h'.get? e=some u)
  (new:ObjOk X.prog X.w (upd H x o) h' x o):Inv X pins σ (upd H x o) {s with heap:=h',toks:=t'}:=I.un (Un.write mu he k heo) (I.hok.write mu he k heo new)
theorem Inv.pins_of {pins':List (Addr×Obj)} (I:Inv X pins σ H s) (h:∀p∈pins',s.heap.get? p.1=some p.2∧H p.1=none∧p.1≠X.env.locals∧p.1∉X.fs∧∀v,p.2.data≠.cell v):Inv X pins' σ H s :=
 ⟨I.ok,I.os,I.bare,I.base,I.loc,I.cell,I.free,I.freeC,fun p hp=>(List.mem_append.mp hp).elim (fun z=>I.pin p (List.mem_append_left _ z)) (h p),I.hok,I.len⟩
theorem lE {N:List Str} (hN:N.Nodup) {i j:Nat} {x:Str} (a:N[i]?=some x) (b:N[j]?=some x):i=j:=by
 obtain ⟨h1,e1⟩:=List.getElem?_eq_some_iff.mp a
 obtain ⟨h2,e2⟩:=List.getElem?_eq_some_iff.mp b
 exact (List.getElem_inj hN).mp (e1.trans e2.symm)
theorem gS {M:Model} {A:Around} {E:Value→Shared→Prop} {i:Nat} {x:Str} {v:V} {u:Value} {Q:Unit→Shared→Prop} (I:Inv X pins σ H s) (hN:X.N.Nodup) (hi:X.N[i]?=some x) (hx:Z0 X.env.scope x) (r:RelV v u)
  (h:∀s',Inv X pins (σ.set i (some v)) H s'→(∃a,Heap.SameBut a s.heap s'.heap∧(a=X.env.locals∨X.env.cells.lookup x=some a))→Q () s') (hf:X.fn x=true∨X.env.scope.names.lookup x=some .local:=by first|exact .inl rfl|exact .inr rfl|assumption):wpAny M A (storeName X.env x u) Q E s:=by
 obtain ⟨m,hn,hl⟩:=id I.loc
 have hcls:(X.env.scope.kind == .class||(X.env.scope.kind == .module&&X.env.locals != X.env.globals))=false:=by rw [I.ok.kind];rfl
 have hiσ:i<σ.length:=by rw [I.len];exact (List.getElem?_eq_some_iff.mp hi).1
 have cne:=I.cne
 have tracked:∀{a:Addr} {h':Heap},(∃o,s.heap.get? a=some o∧H a=none)→Heap.SameBut a s.heap h'→HOk X.prog X.w H h':=fun {a h'} ha hs b ob e=>by
  obtain ⟨_,_,hfree⟩:=ha
  refine (I.hok b ob e).stay (fun c w' hc q=>(hs.2 c ?_).trans q) (fun _ q=>q) fun _ _ q=>q
  rintro rfl
  rcases hc with rfl|hc
  ·rw [hfree] at e;cases e
  ·rw [hfree] at hc;cases hc
 rcases hx with hk|hk
 ·refine wpAny_storeName_local hk hn (fun h' hn' hs=>?_) hcls
  obtain ⟨oL,_,_,hoL,_⟩:=id hn
  refine h _ ⟨I.ok,I.os,I.bare,⟨fun b o e n hb hx=>?_,fun b o e n hb hx=>?_,I.base.free,fun b o e hx=>?_,I.base.tups,I.base.frzs,I.base.tbls⟩,⟨_,hn',fun j y v' e1 e2 e3=>?_⟩,fun y c e=>?_,I.free,I.freeC,fun p hp=>?_,tracked ⟨oL,hoL,I.free⟩ hs,by simpa using I.len⟩ ⟨_,hs,.inl rfl⟩
  ·exact (hs.2 b (Nat.ne_of_lt (Nat.lt_of_lt_of_le (Heap.lt_size e) I.ok.above))).trans (I.base.keep b o e n hb hx)
  ·obtain ⟨sl,e1⟩:=I.base.slot b o e n hb hx
   exact ⟨sl,(hs.2 b (Nat.ne_of_lt (Nat.lt_of_lt_of_le (Heap.lt_size e) I.ok.above))).trans e1⟩
  ·obtain ⟨o',e1⟩:=I.base.there b o e hx
   exact ⟨o',(hs.2 b (Nat.ne_of_lt (Nat.lt_of_lt_of_le (Heap.lt_size e) I.ok.above))).trans e1⟩
  ·by_cases hj:j=i
   ·subst hj
    rw [hi] at e1;cases e1
    rw [List.getElem?_set_self hiσ] at e2
    cases e2
    exact ⟨u,r,.inl ⟨hk,by simp⟩⟩
   ·rw [List.getElem?_set_ne (Ne.symm hj)] at e2
    obtain ⟨u',r',q⟩:=hl j y v' e1 e2 e3
    refine ⟨u',r',?_⟩
    rcases q with ⟨k,e⟩|⟨k,c,e,z⟩
    ·refine .inl ⟨k,?_⟩
     have:y≠x:=fun e=>hj (lE hN e1 (e▸hi))
     simp [this,e]
    ·exact .inr ⟨k,c,e,z.sameBut hs (cne y c e)⟩
  ·obtain ⟨w',z⟩:=I.cell y c e
   exact ⟨w',z.sameBut hs (cne y c e)⟩
  ·obtain ⟨e,n,ne,nf,d⟩:=I.pin p hp
   exact ⟨(hs.2 p.1 ne).trans e,n,ne,nf,d⟩
 ·have hfn:X.fn x=true:=by
   rcases hf with z|z
   ·exact z
   ·rw [z] at hk;cases hk
  obtain ⟨c,hc⟩:=I.ok.has x (.inl hk)
  obtain ⟨w',z⟩:=I.cell x c hc
  refine wpAny_storeName_cell I.ok.kind hk hc z (fun h' hc' hs=>?_)
  obtain ⟨oc,hoc,hocd⟩:=id z
  refine h {s with heap:=h'} ⟨I.ok,I.os,I.bare,⟨fun b o e n hb hx=>?_,fun b o e n hb hx=>?_,I.base.free,fun b o e hx=>?_,I.base.tups,I.base.frzs,I.base.tbls⟩,⟨m,hn.sameBut hs (Ne.symm (cne x c hc)),fun j y v' e1 e2 e3=>?_⟩,fun y c' e=>?_,I.free,I.freeC,fun p hp=>?_,tracked ⟨oc,hoc,I.freeC x c hc⟩ hs,by simpa using I.len⟩ ⟨c,hs,.inr hc⟩
  ·exact (hs.2 b (Nat.ne_of_lt (Nat.lt_of_lt_of_le (Heap.lt_size e) (I.ok.cab x c hfn hc)))).trans (I.base.keep b o e n hb hx)
  ·obtain ⟨sl,e1⟩:=I.base.slot b o e n hb hx
   exact ⟨sl,(hs.2 b (Nat.ne_of_lt (Nat.lt_of_lt_of_le (Heap.lt_size e) (I.ok.cab x c hfn hc)))).trans e1⟩
  ·obtain ⟨o',e1⟩:=I.base.there b o e hx
   exact ⟨o',(hs.2 b (Nat.ne_of_lt (Nat.lt_of_lt_of_le (Heap.lt_size e) (I.ok.cab x c hfn hc)))).trans e1⟩
  ·by_cases hj:j=i
   ·subst hj
    rw [hi] at e1;cases e1
    rw [List.getElem?_set_self hiσ] at e2
    cases e2
    exact ⟨u,r,.inr ⟨.inl hk,c,hc,hc'⟩⟩
   ·rw [List.getElem?_set_ne (Ne.symm hj)] at e2
    obtain ⟨u',r',q⟩:=hl j y v' e1 e2 e3
    refine ⟨u',r',?_⟩
    rcases q with q|⟨k,c',e,z'⟩
    ·exact .inl q
    ·refine .inr ⟨k,c',e,z'.sameBut hs ?_⟩
     rintro rfl
     exact hj (lE hN e1 (I.ok.inj _ _ _ e hc▸hi))
  ·by_cases hcc:c'=c
   ·subst hcc;exact ⟨_,hc'⟩
   ·obtain ⟨w2,z2⟩:=I.cell y c' e
    exact ⟨w2,z2.sameBut hs hcc⟩
  ·obtain ⟨e,n,ne,nf,d⟩:=I.pin p hp
   refine ⟨(hs.2 p.1 ?_).trans e,n,ne,nf,d⟩
   intro q
   rw [q,hoc] at e
   have q':oc=p.2:=Option.some.inj e
   exact d w' (by rw [← q'];exact hocd)
theorem iU {M:Model} {A:Around} {E:Value→Shared→Prop} {i:Nat} {x:Str} {v:V} {u:Value} {Q:Unit→Shared→Prop} (I:Inv X pins σ H s) (hN:X.N.Nodup) (hi:X.N[i]?=some x) (hx:Z0 X.env.scope x) (r:RelV v u)
  (h:∀s',Inv X pins (σ.set i (some v)) H s'→Q () s') (hf:X.fn x=true∨X.env.scope.names.lookup x=some .local:=by first|exact .inl rfl|exact .inr rfl|assumption):wpAny M A (storeName X.env x u) Q E s :=
 gS I hN hi hx r (fun s' I' _=>h s' I') hf
theorem Inv.call' {s':Shared} {ch:List Addr} (I:Inv X pins σ H s) (ho:s'.os=s.os) (u:Un (v7 X.stack) ch H H' s.heap s'.heap) (hok:HOk X.prog X.w H' s'.heap) (hg:AllBare s'.gens)
  (hch:∀b∈ch,(b∈X.ex∨X.s₀.heap.objs.size≤b)∧b≠X.env.locals∧(∀x c,X.env.cells.lookup x=some c→c≠b)∧∀p∈X.pn++pins,p.1≠b):Inv X pins σ H' s':=by
 obtain ⟨h',g',d',t',o'⟩:=s'
 have e:o'=s.os:=ho
 subst e
 exact I.call (g':=g') (t':=t') (d':=d') u hok hg hch
end
abbrev XK:=Value→Option Addr→Hp→Prop
abbrev St:=List (Option V)
abbrev VK:=V→Hp→Prop
abbrev TE:=St→Hp→VK→Prop
abbrev TT:=St→Hp→(Bool→Hp→Prop)→Prop
abbrev TA:=St→Hp→(List V→Hp→Prop)→Prop
structure Ends where
 nx:St→Hp→Prop
 rt:VK
 bk:St→Hp→Prop:=fun _ _=>False
 ct:St→Hp→Prop:=fun _ _=>False
abbrev TS:=Ends→St→Hp→Prop
def EP (X:Cx) (pins:List (Addr×Obj)) (σ:St) (Q:VK) (u:Value) (s':Shared):Prop:=∃v H',Inv X pins σ H' s'∧RelV v u∧Q v H'
def TP (X:Cx) (pins:List (Addr×Obj)) (σ:St) (Q:Bool→Hp→Prop) (b:Bool) (s':Shared):Prop:=∃H',Inv X pins σ H' s'∧Q b H'
def AP (X:Cx) (pins:List (Addr×Obj)) (σ:St) (Q:List V→Hp→Prop) (us:List Value) (s':Shared):Prop:=∃vs H',Inv X pins σ H' s'∧Vals vs us∧Q vs H'
def SP (X:Cx) (pins:List (Addr×Obj)) (D:Ends) (f:Flow) (s':Shared):Prop :=
 match f with
 |.next=>∃σ' H',Inv X pins σ' H' s'∧D.nx σ' H'
 |.brk=>∃σ' H',Inv X pins σ' H' s'∧D.bk σ' H'
 |.cont=>∃σ' H',Inv X pins σ' H' s'∧D.ct σ' H'
 |.ret u=>∃v σ' H',Inv X pins σ' H' s'∧RelV v u∧D.rt v H'
def PE (X:Cx) (e:Expr) (t:TE):Prop :=
 ∀(pins:List (Addr×Obj)) (s:Shared) (σ:St) (H:Hp) (Q:VK),Inv X pins σ H s→t σ H Q→wpAny (model X.prog X.w) X.A (eval e X.env) (EP X pins σ Q) X.xe s
def PT (X:Cx) (e:Expr) (t:TT):Prop :=
 ∀(pins:List (Addr×Obj)) (s:Shared) (σ:St) (H:Hp) (Q:Bool→Hp→Prop),Inv X pins σ H s→t σ H Q→wpAny (model X.prog X.w) X.A (isTrue e X.env (eval e X.env)) (TP X pins σ Q) X.xe s
def PW (X:Cx) (e:Expr) (t:TT):Prop :=
 ∀(whole:Sem Value) (pins:List (Addr×Obj)) (s:Shared) (σ:St) (H:Hp) (Q:Bool→Hp→Prop),Inv X pins σ H s→t σ H Q→wpAny (model X.prog X.w) X.A (isTrue e X.env whole) (TP X pins σ Q) X.xe s
theorem PW.pt {X:Cx} {e:Expr} {t:TT} (h:PW X e t):PT X e t:=h _
def PA (X:Cx) (es:List Expr) (t:TA):Prop :=
 ∀(pos:Pos) (pins:List (Addr×Obj)) (s:Shared) (σ:St) (H:Hp) (Q:List V→Hp→Prop),Inv X pins σ H s→t σ H Q→wpAny (model X.prog X.w) X.A (spliced (backTo pos (starEach es X.env))) (AP X pins σ Q) X.xe s
def PS (X:Cx) (st:Stmt) (t:TS):Prop :=
 ∀(pins:List (Addr×Obj)) (s:Shared) (σ:St) (H:Hp) (D:Ends),Inv X pins σ H s→t D σ H→wpAny (model X.prog X.w) X.A (exec st X.env) (SP X pins D) X.xe s
def PSs (X:Cx) (st:List Stmt) (t:TS):Prop :=
 ∀(pins:List (Addr×Obj)) (s:Shared) (σ:St) (H:Hp) (D:Ends),Inv X pins σ H s→t D σ H→wpAny (model X.prog X.w) X.A (execs st X.env) (SP X pins D) X.xe s
theorem jK {α:Type} {t:Sem α} {Q Q':α→Shared→Prop} {M:Model} {A:Around} {E:Value→Shared→Prop} {s:Shared} (h:wpAny M A t Q E s) (hQ:∀a s,Q a s→Q' a s):wpAny M A t Q' E s:=wpAny_mono h hQ fun _ _ x=>x
end L2
namespace L2
open PySem PySem.Spec PyProof.Rows
section
variable {X:Cx}
def nI (i:Nat):TE:=fun σ H Q=>∃v,σ[i]?=some (some v)∧Q v H
def tC (v:V):TE:=fun _ H Q=>Q v H
theorem BN {i:Nat} {x:Str} {pos:Pos} (hN:X.N[i]?=some x) (hv:dH X.env.scope x) (hd:(x == ("__debug__":Str))=false:=by decide) (hcd:(x == ("__classdict__":Str))=false:=by decide):PE X (.Name x pos) (nI i):=by
 intro pins s σ H Q I h
 obtain ⟨v,e,h⟩:=h
 obtain ⟨m,hn,hl⟩:=I.loc
 obtain ⟨u,r,l⟩:=hl i x v hN e hv
 have fin:EP X pins σ Q u s:=⟨v,H,I,r,h⟩
 rcases l with ⟨hk,hm⟩|⟨hk,c,hc,hcell⟩
 ·exact wpAny_Name (wpAny_loadName_local I.ok.kind hk hn hm fin) hd
 ·rcases hk with hk|hk
  ·exact wpAny_Name (wpAny_loadName_cell I.ok.kind hk hc hcell fin) hd
  ·exact wpAny_Name (wpAny_loadName_free I.ok.kind hk hc hcell fin hcd) hd
theorem jB {i j pos}:PE X (.Constant (.int i) j pos) (tC (.int i)):=fun _ _ _ H _ I h=>wpAny_Constant_int ⟨.int i,H,I.tok _,⟨_,rfl⟩,h⟩
theorem qY {b j pos}:PE X (.Constant (.bool b) j pos) (tC (.bl b)):=fun _ _ _ H _ I h=>Constant_bool ⟨.bl b,H,I,rfl,h⟩
theorem BP {j pos}:PE X (.Constant .none j pos) (tC .non):=fun _ _ _ H _ I h=>Constant_none ⟨.non,H,I,rfl,h⟩
theorem kB {x j pos}:PE X (.Constant (.str x) j pos) (tC (.str x)):=fun _ _ _ H _ I h=>Calls.Constant_str ⟨.str x,H,I.tok _,⟨_,rfl⟩,h⟩
def Gl (X:Cx) (x:Str):Prop:=X.env.kindOf x=some .globalImplicit
theorem eW {E:Value→Shared→Prop} {pins:List (Addr×Obj)} {s:Shared} {σ:St} {H:Hp} {x:Str} {u:Value} {pos:Pos} {Q:Value→Shared→Prop} (I:Inv X pins σ H s) (hg:Gl X x) (hm:X.mg x=some u) (h:Q u s)
  (hd:(x == ("__debug__":Str))=false:=by decide):wpAny (model X.prog X.w) X.A (eval (.Name x pos) X.env) Q E s :=
 Calls.Name_function_global I.ok.kind hg (Calls.loadGlobal_global (by rw [I.ok.glob];exact I.mod.glob.keeps I.bk) hm h) hd
theorem yF {E:Value→Shared→Prop} {pins:List (Addr×Obj)} {s:Shared} {σ:St} {H:Hp} {x:Str} {u:Value} {pos:Pos} {Q:Value→Shared→Prop} (I:Inv X pins σ H s) (hg:Gl X x) (hm:X.mg x=none) (hv:bootBuiltins x=some u) (h:Q u s)
  (hn:x≠"__name__":=by decide) (hd:(x == ("__debug__":Str))=false:=by decide):wpAny (model X.prog X.w) X.A (eval (.Name x pos) X.env) Q E s:=by
 obtain ⟨mb,h1,h2⟩:=I.mod.blt
 exact Calls.Name_function_global I.ok.kind hg (Calls.loadGlobal_builtin (by rw [I.ok.glob];exact I.mod.glob.keeps I.bk) hm (by rw [I.ok.blt];exact h1.keeps I.bk) ((h2 x hn).trans hv) h) hd
theorem vS {x:Str} {v:V} {u:Value} {pos:Pos} (hg:Gl X x) (hm:X.mg x=some u) (r:RelV v u) (hd:(x == ("__debug__":Str))=false:=by decide):PE X (.Name x pos) (tC v) :=
 fun _ _ _ H _ I h=>eW I hg hm ⟨v,H,I,r,h⟩ hd
theorem yP {x:Str} {v:V} {u:Value} {pos:Pos} (hg:Gl X x) (hm:X.mg x=none) (hv:bootBuiltins x=some u) (r:RelV v u) (hn:x≠"__name__":=by decide) (hd:(x == ("__debug__":Str))=false:=by decide):PE X (.Name x pos) (tC v) :=
 fun _ _ _ H _ I h=>yF I hg hm hv ⟨v,H,I,r,h⟩ hn hd
variable {a b:Expr} {ta tb:TE} {pos:Pos}
def tB (t:TE):TT:=fun σ H Q=>t σ H fun x H1=>∃c,x=.bl c∧Q c H1
theorem qS {e:Expr} {t:TE} (h:PE X e t) (he:∀whole,isTrue e X.env whole=(do let v ← whole;standAt e.pos;holding [v] (truthy v)):=by intro _;rfl):PT X e (tB t):=by
 intro pins s σ H Q I hw
 refine isTrue_plain (jK (h pins s σ H _ I hw) fun v s1 ⟨x,H1,I1,r1,q1⟩=>?_) (he _)
 obtain ⟨d,rfl,q⟩:=q1
 cases r1
 exact wpAny_truthy_bool ⟨H1,I1,q⟩
variable {tA tB':TT} {rest:List Expr}
def DB (t u:TT):TT:=fun σ H Q=>t σ H fun c H1=>if c=true then u σ H1 Q else Q false H1
def D1 (t u:TT):TT:=fun σ H Q=>t σ H fun c H1=>if c=true then Q true H1 else u σ H1 Q
def C5 (t:TT):TT:=fun σ H Q=>t σ H fun c H1=>Q (!c) H1
theorem cA (ha:PT X a tA):PW X (.BoolOp .And [a] pos) tA:=by
 intro wh pins s σ H Q I h
 refine isTrue_and (jK (ha pins s σ H Q I h) fun c s1 e=>?_)
 cases c with
 |true=>exact isTrue_and_nil e
 |false=>exact e
theorem yE (ha:PT X a tA):PW X (.BoolOp .Or [a] pos) tA:=by
 intro wh pins s σ H Q I h
 refine isTrue_or (jK (ha pins s σ H Q I h) fun c s1 e=>?_)
 cases c with
 |false=>exact isTrue_or_nil e
 |true=>exact e
theorem ZN (ha:PT X a tA) (hb:PW X (.BoolOp .And (b::rest) pos) tB'):PW X (.BoolOp .And (a::b::rest) pos) (DB tA tB'):=by
 intro wh pins s σ H Q I h
 refine isTrue_and (jK (ha pins s σ H _ I h) fun c s1 ⟨H1,I1,q1⟩=>?_)
 cases c with
 |true=>exact hb wh pins s1 σ H1 Q I1 q1
 |false=>exact ⟨H1,I1,q1⟩
theorem v1 (ha:PT X a tA) (hb:PW X (.BoolOp .Or (b::rest) pos) tB'):PW X (.BoolOp .Or (a::b::rest) pos) (D1 tA tB'):=by
 intro wh pins s σ H Q I h
 refine isTrue_or (jK (ha pins s σ H _ I h) fun c s1 ⟨H1,I1,q1⟩=>?_)
 cases c with
 |true=>exact ⟨H1,I1,q1⟩
 |false=>exact hb wh pins s1 σ H1 Q I1 q1
theorem qG (ha:PT X a tA):PT X (.UnaryOp .Not a pos) (C5 tA):=by
 intro pins s σ H Q I h
 exact isTrue_not (ha pins s σ H (fun c H1=>Q (!c) H1) I h)
def B8 (ta tb:TE):TE:=fun σ H Q=>ta σ H fun x H1=>∃c,x=.bl c∧if c=true then tb σ H1 Q else Q (.bl false) H1
def C4 (ta tb:TE):TE:=fun σ H Q=>ta σ H fun x H1=>∃c,x=.bl c∧if c=true then Q (.bl true) H1 else tb σ H1 Q
def B3 (ta:TE):TE:=fun σ H Q=>ta σ H fun x H1=>∃c,x=.bl c∧Q (.bl (!c)) H1
theorem cQ {op} {t:TE} (h:PE X a t):PE X (.BoolOp op [a] pos) t:=fun pins s σ H Q I hw=>BoolOp_one (h pins s σ H Q I hw)
theorem fA (ha:PE X a ta) (hb:PE X (.BoolOp .And (b::rest) pos) tb):PE X (.BoolOp .And (a::b::rest) pos) (B8 ta tb):=by
 intro pins s σ H Q I h
 refine BoolOp_and (jK (ha pins s σ H _ I h) fun v s1 ⟨x,H1,I1,r1,q1⟩=>?_)
 obtain ⟨c,rfl,q1⟩:=q1
 cases r1
 refine wpAny_truthy_bool ?_
 cases c with
 |true=>exact hb pins s1 σ H1 Q I1 q1
 |false=>exact ⟨.bl false,H1,I1,rfl,q1⟩
theorem CG (ha:PE X a ta) (hb:PE X (.BoolOp .Or (b::rest) pos) tb):PE X (.BoolOp .Or (a::b::rest) pos) (C4 ta tb):=by
 intro pins s σ H Q I h
 refine BoolOp_or (jK (ha pins s σ H _ I h) fun v s1 ⟨x,H1,I1,r1,q1⟩=>?_)
 obtain ⟨c,rfl,q1⟩:=q1
 cases r1
 refine wpAny_truthy_bool ?_
 cases c with
 |false=>exact hb pins s1 σ H1 Q I1 q1
 |true=>exact ⟨.bl true,H1,I1,rfl,q1⟩
theorem BO (ha:PE X a ta):PE X (.UnaryOp .Not a pos) (B3 ta):=by
 intro pins s σ H Q I h
 refine UnaryOp_ (jK (ha pins s σ H _ I h) fun v s1 ⟨x,H1,I1,r1,q1⟩=>?_)
 obtain ⟨c,rfl,q1⟩:=q1
 cases r1
 exact not_of (wpAny_truthy_bool ⟨.bl (!c),H1,I1,rfl,q1⟩)
def D2 (t:TT) (ta tb:TE):TE:=fun σ H Q=>t σ H fun c H1=>if c=true then ta σ H1 Q else tb σ H1 Q
theorem eM {c:Expr} (hc:PT X c tA) (ha:PE X a ta) (hb:PE X b tb):PE X (.IfExp c a b pos) (D2 tA ta tb):=by
 intro pins s σ H Q I h
 refine wpAny_IfExp (jK (hc pins s σ H _ I h) fun d s1 ⟨H1,I1,q1⟩=>?_)
 cases d with
 |true=>exact ha pins s1 σ H1 Q I1 q1
 |false=>exact hb pins s1 σ H1 Q I1 q1
end
end L2
namespace L2
open PySem PySem.Spec PyProof.Rows
def SqL (K:PySem.W.Frag) (H:Hp) (a:Addr) (xs:List V):Prop :=
 Rd H a (.lst xs)∨
  ∃(o:Obj) (its:Array Value) (n:Nat),K.lookup a=some o∧o.cls=.type "list"∧o.dict=none∧o.data=.seq its n∧its.size≤sizeLine∧Vals xs its.toList
def SqT (K:PySem.W.Frag) (H:Hp) (a:Addr) (xs:List V):Prop :=
 Rd H a (.tup xs)∨
  ∃(o:Obj) (its:Array Value) (n:Nat),K.lookup a=some o∧o.cls=.type "tuple"∧o.data=.seq its n∧its.size≤sizeLine∧Vals xs its.toList
def DT:Value→Option V
 |.none=>some .non
 |.bool b=>some (.bl b)
 |.int i _=>some (.int i)
 |.str x _=>some (.str x)
 |.bytes b _=>some (.byt b)
 |.float b _=>some (.flt b)
 |.ref a=>some (.ref a)
 |.type n=>some (.ty n)
 |_=>none
theorem RelV.abs {x:V} {u:Value} (r:RelV x u):DT u=some x:=by
 cases x with
 |non=>cases r;rfl
 |bl _=>cases r;rfl
 |int _=>obtain ⟨t,rfl⟩:=r;rfl
 |str _=>obtain ⟨t,rfl⟩:=r;rfl
 |byt _=>obtain ⟨t,rfl⟩:=r;rfl
 |flt _=>obtain ⟨t,rfl⟩:=r;rfl
 |ref _=>cases r;rfl
 |ty _=>cases r;rfl
theorem RelV.inj {x y:V} {u:Value} (r:RelV x u) (q:RelV y u):x=y:=Option.some.inj (r.abs.symm.trans q.abs)
theorem Vals.inj:∀{xs ys:List V} {us:List Value},Vals xs us→Vals ys us→xs=ys
 |_,_,_,.nil,.nil=>rfl
 |_,_,_,.cons r t,.cons r' t'=>by rw [r.inj r',Vals.inj t t']
section
variable {X:Cx} {pins:List (Addr×Obj)} {σ:St} {H:Hp} {s:Shared} {a:Addr} {xs ys:List V}
theorem SqL.of {K:PySem.W.Frag} (h:H a=some (.lst xs)):SqL K H a xs:=.inl (.inl h)
theorem SqT.of {K:PySem.W.Frag} (h:H a=some (.tup xs)):SqT K H a xs:=.inl (.inl h)
theorem Inv.list (I:Inv X pins σ H s) (h:SqL X.K H a xs):∃its:List Value,Vals xs its∧PlainL s.heap a its.toArray∧xs.length≤sizeLine:=by
 rcases h with h|⟨o,its,n,hk,hc,hd,hs,hz,r⟩
 ·obtain ⟨z,its,n,r,e⟩:=h.ok I.hok
  exact ⟨its,r,⟨_,n,e,rfl,rfl,rfl⟩,z⟩
 ·refine ⟨its.toList,r,⟨o,n,I.kIn a o hk,hc,hd,by simpa using hs⟩,?_⟩
  have e:=r.length
  simp only [Array.length_toList] at e
  omega
theorem Inv.tuple (I:Inv X pins σ H s) (h:SqT X.K H a xs):∃its:List Value,Vals xs its∧IsTup s.heap a its.toArray∧xs.length≤sizeLine:=by
 rcases h with h|⟨o,its,n,hk,hc,hs,hz,r⟩
 ·obtain ⟨z,its,r,p⟩:=h.ok I.hok
  exact ⟨its,r,p,z⟩
 ·refine ⟨its.toList,r,⟨o,I.kIn a o hk,hc,n,by simpa using hs⟩,?_⟩
  have e:=r.length
  simp only [Array.length_toList] at e
  omega
theorem Inv.list_inj (I:Inv X pins σ H s) (h:SqL X.K H a xs) (h':SqL X.K H a ys):xs=ys:=by
 obtain ⟨its,r,⟨o,n,e,_,_,d⟩,_⟩:=I.list h
 obtain ⟨its',r',⟨o',n',e',_,_,d'⟩,_⟩:=I.list h'
 rw [e] at e';cases e'
 rw [d] at d'
 injection d' with d1 _
 have:its=its':=by simpa using congrArg Array.toList d1
 subst this
 exact r.inj r'
theorem Inv.tuple_inj (I:Inv X pins σ H s) (h:SqT X.K H a xs) (h':SqT X.K H a ys):xs=ys:=by
 obtain ⟨its,r,⟨o,e,_,n,d⟩,_⟩:=I.tuple h
 obtain ⟨its',r',⟨o',e',_,n',d'⟩,_⟩:=I.tuple h'
 rw [e] at e';cases e'
 rw [d] at d'
 injection d' with d1 _
 have:its=its':=by simpa using congrArg Array.toList d1
 subst this
 exact r.inj r'
end
abbrev Cx.wish (X:Cx) (E:Value→Shared→Prop):Cx:={X with xe:=E}
abbrev Cx.nox (X:Cx):Cx:=X.wish fun _ _=>False
theorem Cx.Ok.wish {X:Cx} (ok:X.Ok) (E:Value→Shared→Prop):(X.wish E).Ok :=
 ⟨ok.mod,ok.kind,ok.glob,ok.blt,ok.above,ok.inj,ok.has,ok.cab,ok.hd,ok.frames,ok.stk,ok.exf,ok.bs,ok.bsz,ok.noex,ok.exfs,ok.funs,ok.frf⟩
theorem Cx.Ok.unwish {X:Cx} {E:Value→Shared→Prop} (ok:(X.wish E).Ok):X.Ok :=
 ⟨ok.mod,ok.kind,ok.glob,ok.blt,ok.above,ok.inj,ok.has,ok.cab,ok.hd,ok.frames,ok.stk,ok.exf,ok.bs,ok.bsz,ok.noex,ok.exfs,ok.funs,ok.frf⟩
section
variable {X:Cx} {pins:List (Addr×Obj)} {σ:St} {H:Hp} {s:Shared} {E:Value→Shared→Prop}
theorem Inv.wish (I:Inv X pins σ H s) (E:Value→Shared→Prop):Inv (X.wish E) pins σ H s:=⟨I.ok.wish E,I.os,I.bare,I.base,I.loc,I.cell,I.free,I.freeC,I.pin,I.hok,I.len⟩
theorem Inv.unwish (I:Inv (X.wish E) pins σ H s):Inv X pins σ H s:=⟨I.ok.unwish,I.os,I.bare,I.base,I.loc,I.cell,I.free,I.freeC,I.pin,I.hok,I.len⟩
theorem SP.unwish {D:Ends} {f:Flow} {s':Shared} (h:SP (X.wish E) pins D f s'):SP X pins D f s':=by
 cases f with
 |next=>obtain ⟨σ',H',I,q⟩:=h;exact ⟨σ',H',I.unwish,q⟩
 |brk=>obtain ⟨σ',H',I,q⟩:=h;exact ⟨σ',H',I.unwish,q⟩
 |cont=>obtain ⟨σ',H',I,q⟩:=h;exact ⟨σ',H',I.unwish,q⟩
 |ret u=>obtain ⟨v,σ',H',I,r,q⟩:=h;exact ⟨v,σ',H',I.unwish,r,q⟩
theorem PSs.nox {st:List Stmt} {t:TS} (h:PSs X.nox st t):PSs X st t:=fun pins s σ H D I hw =>
 wpAny_mono (h pins s σ H D (I.wish _) hw) (fun _ _ q=>q.unwish) fun _ _ z=>False.elim z
end
section
variable {X:Cx} {st:Stmt} {rest:List Stmt} {t u:TS} {e:Expr} {te:TE} {pos:Pos}
def B4:TS:=fun D σ H=>D.nx σ H
def C2 (t u:TS):TS:=fun D σ H=>t {D with nx:=u D} σ H
theorem j9:PSs X [] B4:=fun _ _ σ H _ I h=>wpAny_execs_nil ⟨σ,H,I,h⟩
theorem jH (h1:PS X st t) (h2:PSs X rest u):PSs X (st::rest) (C2 t u):=by
 intro pins s σ H D I h
 refine wpAny_execs_cons (jK (h1 pins s σ H {D with nx:=u D} I h) fun f s1 q=>?_)
 cases f with
 |next =>
  obtain ⟨σ',H',I',q⟩:=q
  exact h2 pins s1 σ' H' D I' q
 |ret v=>exact q
 |brk=>exact q
 |cont=>exact q
theorem jE (h1:PS X st t):PSs X [st] t:=by
 intro pins s σ H D I h
 refine wpAny_execs_cons (jK (h1 pins s σ H D I h) fun f s1 q=>?_)
 cases f with
 |next=>exact wpAny_execs_nil q
 |ret v=>exact q
 |brk=>exact q
 |cont=>exact q
theorem Inv.quiet {pins:List (Addr×Obj)} {σ:St} {H:Hp} {s:Shared} (I:Inv X pins σ H s):interactive X.env=false:=by simp [interactive,I.ok.kind]
def B5 (te:TE):TS:=fun D σ H=>te σ H fun _ H1=>D.nx σ H1
theorem kW (he:PE X e te) (hs:swapsWith e none pos.line X.env=pure false:=by rfl):PS X (.Expr e pos) (B5 te):=by
 intro pins s σ H D I h
 exact wpAny_Expr_any (jK (he pins s σ H _ I h) fun v s1 ⟨x,H1,I1,r1,q1⟩=>⟨σ,H1,I1,q1⟩) I.quiet hs
def C3 (te:TE):TS:=fun D σ H=>te σ H D.rt
theorem jS (he:PE X e te):PS X (.Return (some e) pos) (C3 te):=by
 intro pins s σ H D I h
 exact wpAny_Return_some (jK (he pins s σ H _ I h) fun v s1 ⟨x,H1,I1,r1,q1⟩=>⟨x,σ,H1,I1,r1,q1⟩)
def C7 (c:TT) (t u:TS):TS:=fun D σ H=>c σ H fun b H1=>if b=true then t D σ H1 else u D σ H1
theorem jV {c:Expr} {a b:List Stmt} {tc:TT} (hc:PT X c tc) (ha:PSs X a t) (hb:PSs X b u):PS X (.If c a b pos) (C7 tc t u):=by
 intro pins s σ H D I h
 refine wpAny_If (jK (hc pins s σ H _ I h) fun d s1 ⟨H1,I1,q1⟩=>?_)
 cases d with
 |true=>exact ha pins s1 σ H1 D I1 q1
 |false=>exact hb pins s1 σ H1 D I1 q1
def BE:TS:=fun _ _ _=>False
theorem vB:PS X st BE:=fun _ _ _ _ _ _ h=>h.elim
end
abbrev TG:=V→St→Hp→(St→Hp→Prop)→Prop
abbrev JG:=List V→St→Hp→(St→Hp→Prop)→Prop
def PG (X:Cx) (target:Expr) (t:TG):Prop :=
 ∀(pins:List (Addr×Obj)) (s:Shared) (σ:St) (H:Hp) (v:V) (u:Value) (Q:St→Hp→Prop),Inv X pins σ H s→RelV v u→t v σ H Q→
  wpAny (model X.prog X.w) X.A (assign target X.env u) (fun _ s'=>∃σ' H',Inv X pins σ' H' s'∧Q σ' H') X.xe s
def dJ (X:Cx) (ts:List Expr) (t:JG):Prop :=
 ∀(pins:List (Addr×Obj)) (s:Shared) (σ:St) (H:Hp) (vs:List V) (us:List Value) (Q:St→Hp→Prop),Inv X pins σ H s→Vals vs us→t vs σ H Q→
  wpAny (model X.prog X.w) X.A (assignInOrder ((assignEach ts X.env).map (·.2)) us) (fun _ s'=>∃σ' H',Inv X pins σ' H' s'∧Q σ' H') X.xe s
abbrev fM:=V→V→V→Hp→(Hp→Prop)→Prop
def nW (X:Cx) (t:fM):Prop :=
 ∀(pins:List (Addr×Obj)) (s:Shared) (σ:St) (H:Hp) (o i v:V) (ov iv u:Value) (Q:Hp→Prop),Inv X pins σ H s→RelV o ov→RelV i iv→RelV v u→t o i v H Q→
  wpAny (model X.prog X.w) X.A (setItem ov iv u) (fun _ s'=>∃H',Inv X pins σ H' s'∧Q H') X.xe s
section
variable {X:Cx} {pos:Pos}
def QZ (i:Nat):TG:=fun v σ H Q=>Q (σ.set i (some v)) H
theorem kM {i:Nat} {x:Str} (hN:X.N.Nodup) (hi:X.N[i]?=some x) (hx:Z0 X.env.scope x) (hf:X.fn x=true∨X.env.scope.names.lookup x=some .local:=by first|exact .inl rfl|exact .inr rfl|assumption):PG X (.Name x pos) (QZ i):=by
 intro pins s σ H v u Q I r h
 exact wpAny_assign_Name (iU I hN hi hx r (fun s' I'=>⟨_,H,I',h⟩) hf)
def DR:JG:=fun vs σ H Q=>vs=[]∧Q σ H
def CT (t:TG) (u:JG):JG:=fun vs σ H Q=>∃v r,vs=v::r∧t v σ H fun σ' H'=>u r σ' H' Q
theorem cD:dJ X [] DR:=by
 intro pins s σ H vs us Q I r h
 obtain ⟨e,h⟩:=h
 subst e
 cases r
 exact assignInOrder_nil ⟨σ,H,I,h⟩
theorem yM {e:Expr} {es:List Expr} {t:TG} {u:JG} (h1:PG X e t) (h2:dJ X es u)
  (hs:(assignEach (e::es) X.env).map (·.2)=assign e X.env::(assignEach es X.env).map (·.2):=by rfl):dJ X (e::es) (CT t u):=by
 intro pins s σ H vs us Q I r h
 obtain ⟨v,vr,e1,h⟩:=h
 subst e1
 cases r with
 |cons r rr =>
  rw [hs]
  refine assignInOrder_cons (jK (h1 pins s σ H _ _ _ I r h) fun _ s1 ⟨σ1,H1,I1,q1⟩=>?_)
  exact h2 pins s1 σ1 H1 _ _ Q I1 rr q1
def DP (K:PySem.W.Frag) (n:Nat) (t:JG):TG:=fun v σ H Q=>∃a xs,v=.ref a∧SqT K H a xs∧xs.length=n∧t xs σ H Q
theorem cO {es:List Expr} {k:Nat} {t:JG} {n:Nat} (hc:X.calm=true) (h:dJ X es t)
  (hn:(assignEach es X.env).length=n:=by rfl) (hst:(assignEach es X.env).findIdx? (·.1)=none:=by rfl):PG X (.Tuple es k pos) (DP X.K n t):=by
 intro pins s σ H v u Q I r hw
 obtain ⟨a,xs,e1,hq,hl,hw⟩:=hw
 subst e1
 cases r
 obtain ⟨its,rv,ht,hz⟩:=I.tuple hq
 refine assign_Tuple_tuple (I.ok.hd hc) ht (by simp [hn,← hl,rv.length]) hst fun h' hx=>?_
 have I1:Inv X pins σ H {s with heap:=h'}:=I.kept (t':=s.toks) fun b o e=>hx b o (Nat.ne_of_lt (Heap.lt_size e)) e
 exact h pins _ σ H xs _ Q I1 (by simpa using rv) hw
def DQ (to ti:TE) (t:fM):TG:=fun v σ H Q=>to σ H fun o H1=>ti σ H1 fun i H2=>t o i v H2 fun H3=>Q σ H3
theorem ZQ {o i:Expr} {to ti:TE} {t:fM} (ho:PE X o to) (hi:PE X i ti) (hs:nW X t)
  (ha:∀v,assign (.Subscript o i pos) X.env v=(do
   let ov ← holding [v] (eval o X.env)
   let iv ← holding [v,ov] (eval i X.env)
   standAt pos
   holding [v,ov,iv] (setItem ov iv v)
   release [v,ov,iv] []):=by intro _;rfl):PG X (.Subscript o i pos) (DQ to ti t):=by
 intro pins s σ H v u Q I r h
 rw [ha]
 refine wpAny_bind (wpAny_holding (jK (ho pins s σ H _ I h) fun ov s1 ⟨x,H1,I1,r1,q1⟩=>?_))
 refine wpAny_bind (wpAny_holding (jK (hi pins s1 σ H1 _ I1 q1) fun iv s2 ⟨y,H2,I2,r2,q2⟩=>?_))
 refine wpAny_bind (wpAny_standAt (wpAny_bind (wpAny_holding (jK (hs pins s2 σ H2 x y v ov iv u _ I2 r1 r2 r q2) fun _ s3 ⟨H3,I3,q3⟩=>?_))))
 exact wpAny_release ⟨σ,H3,I3,q3⟩
def nL (te:TE) (g:TG):TS:=fun D σ H=>te σ H fun x H1=>g x σ H1 D.nx
theorem ZO {tg e:Expr} {te:TE} {g:TG} (he:PE X e te) (hg:PG X tg g) (hs:swapsWithSole [tg] e pos.line X.env=pure false:=by rfl) (hw:swappedStores [tg] e X.env=pure none:=by rfl)
  (h1:(assignEach [tg] X.env).map (·.2)=[assign tg X.env]:=by rfl):PS X (.Assign [tg] e pos) (nL te g):=by
 intro pins s σ H D I h
 refine wpAny_Assign_stores (jK (he pins s σ H _ I h) fun v s1 ⟨x,H1,I1,r1,q1⟩=>?_) hs hw
 rw [h1]
 exact jK (hg pins s1 σ H1 x v _ I1 r1 q1) fun _ s2 q=>q
theorem jU {i:Nat} {x:Str} {e:Expr} {te:TE} {pos':Pos} (hN:X.N.Nodup) (hi:X.N[i]?=some x) (hx:Z0 X.env.scope x) (he:PE X e te) (hs:swapsWith e (some (.Name x pos')) pos.line X.env=pure false:=by rfl) (hf:X.fn x=true∨X.env.scope.names.lookup x=some .local:=by first|exact .inl rfl|exact .inr rfl|assumption) :
  PS X (.Assign [.Name x pos'] e pos) (nL te (QZ i)):=by
 intro pins s σ H D I h
 refine wpAny_Assign_Name (jK (he pins s σ H _ I h) fun v s1 ⟨y,H1,I1,r1,q1⟩=>?_) hs
 exact iU I1 hN hi hx r1 (fun s2 I2=>⟨_,H1,I2,q1⟩) hf
end
section
variable {X:Cx} {pos:Pos}
end
structure It where
 go:Nat→Hp→Prop
 yld:Nat→Hp→V→Hp→Prop
 stop:Nat→Hp→Prop
def v4 (X:Cx) (pins:List (Addr×Obj)) (H:Hp) (b:Addr):Prop :=
 H b=none∧b≠X.env.locals∧b∉X.fs∧(b∈X.ex∨X.s₀.heap.objs.size≤b)∧(∀x c,X.env.cells.lookup x=some c→c≠b)∧∀p∈X.pn++pins,p.1≠b
theorem Inv.fpOk {X:Cx} {pins:List (Addr×Obj)} {σ:St} {H H':Hp} {s:Shared} {b:Addr} (I:Inv X pins σ H s) (hb:s.heap.objs.size≤b) (hn:H' b=none):v4 X pins H' b:=by
 refine ⟨hn,Nat.ne_of_gt (Nat.lt_of_lt_of_le I.lt hb),I.nofs hb,.inr (Nat.le_trans I.sz hb),fun x c e z=>?_,fun p hp z=>?_⟩
 ·obtain ⟨v,q⟩:=I.cell x c e
  exact absurd (Nat.lt_of_lt_of_le q.lt (by rw [z];exact hb)) (Nat.lt_irrefl _)
 ·exact absurd (Nat.lt_of_lt_of_le (Heap.lt_size (I.pin p hp).1) (by rw [z];exact hb)) (Nat.lt_irrefl _)
structure Turn (P:Program) (w:World) (K:PySem.W.Frag) (tg:Expr) (J:It) (fp:List Addr) (it:Addr) (tn:Nat→Heap→Prop):Prop where
 mem:it∈fp
 obj:∀i h,tn i h→∀b∈fp,∃o,h.get? b=some o∧∀v,o.data≠.cell v
 keep:∀i h h',tn i h→(∀b∈fp,∀o,h.get? b=some o→h'.get? b=some o)→tn i h'
 item:∀(X:Cx),X.prog=P→X.w=w→X.K=K→X.calm=true→∀(i:Nat) (pins:List (Addr×Obj)) (s:Shared) (σ:St) (H:Hp) (E:Value→Shared→Prop),Inv X pins σ H s→(∀b∈fp,v4 X pins H b)→tn i s.heap→J.go i H→
  wpAny (model P w) X.A (pyNext (.ref it)) (fun r s1=>∃u,r=some u∧
   wpAny (model P w) X.A (letOwnedTupleGo tg (.ref it) u) (fun _ s2=>∃x H',Inv X pins σ H' s2∧RelV x u∧J.yld i H x H'∧tn (i+1) s2.heap∧∀b∈fp,H' b=none) E s1) E s
 done:∀(X:Cx),X.prog=P→X.w=w→X.K=K→X.calm=true→∀(i:Nat) (pins:List (Addr×Obj)) (s:Shared) (σ:St) (H:Hp) (E:Value→Shared→Prop),Inv X pins σ H s→(∀b∈fp,v4 X pins H b)→tn i s.heap→J.stop i H→
  wpAny (model P w) X.A (pyNext (.ref it)) (fun r s1=>r=none∧Inv X pins σ H s1) E s
 self:∀(A:Around) (i:Nat) (s:Shared) (Q:Value→Shared→Prop) (E:Value→Shared→Prop),tn i s.heap→Q (.ref it) s→wpAny (model P w) A (pyIter (.ref it)) Q E s
abbrev TI:=St→Hp→(It→Hp→Prop)→Prop
def dI (X:Cx) (pins:List (Addr×Obj)) (σ:St) (tg:Expr) (R:It→Hp→Prop) (itv:Value) (s2:Shared):Prop :=
 ∃(it:Addr) (fp:List Addr) (tn:Nat→Heap→Prop) (J:It) (H':Hp),itv=.ref it∧Inv X pins σ H' s2∧Turn X.prog X.w X.K tg J fp it tn∧tn 0 s2.heap∧(∀b∈fp,v4 X pins H' b)∧R J H'
def PI (X:Cx) (tg iter:Expr) (wi:TI):Prop :=
 ∀(pins:List (Addr×Obj)) (s:Shared) (σ:St) (H:Hp) (R:It→Hp→Prop),Inv X pins σ H s→wi σ H R→
  wpAny (model X.prog X.w) X.A (eval iter X.env) (fun v s1=>wpAny (model X.prog X.w) X.A (pyIter v) (dI X pins σ tg R) X.xe s1) X.xe s
theorem ZX {M:Model} {A:Around} {E:Value→Shared→Prop} {s:Shared} {tg:Expr} {it:Addr} {u:Value} {o:Obj} {n:String} {vs:Array Value} {Q:Unit→Shared→Prop} (ho:s.heap.get? it=some o) (hc:o.cls=.type n) (hd:o.data=.fields vs)
    (hn:["enumerate","zip","dict_itemiterator","dict_reverseitemiterator","odict_iterator","itertools.zip_longest","itertools.pairwise"].contains n=false) (hQ:Q () s):wpAny M A (letOwnedTupleGo tg (.ref it) u) Q E s:=by
  unfold letOwnedTupleGo
  cases tg<;>first
    |exact wpAny_pure hQ
    | (cases u<;>first
        |exact wpAny_pure hQ
        | (refine wpAny_bind (wpAny_load ho ?_)
           rw [hc,hd]
           show wpAny M A (if (["enumerate","zip","dict_itemiterator","dict_reverseitemiterator","odict_iterator","itertools.zip_longest","itertools.pairwise"].contains n&&vs[0]? == some (rawInt _))=true then _ else _) Q E s
           rw [if_neg (by intro h;rw [hn,Bool.false_and] at h;cases h)]
           exact wpAny_pure hQ))
def JH (K:PySem.W.Frag) (a:Addr):It :=
 ⟨fun i H=>∃xs x,SqL K H a xs∧xs[i]?=some x,fun i H x H'=>H'=H∧∀xs,SqL K H a xs→xs[i]?=some x,fun i H=>∃xs,SqL K H a xs∧xs.length≤i⟩
def dN (K:PySem.W.Frag) (a:Addr):It :=
 ⟨fun i H=>∃xs x,SqT K H a xs∧xs[i]?=some x,fun i H x H'=>H'=H∧∀xs,SqT K H a xs→xs[i]?=some x,fun i H=>∃xs,SqT K H a xs∧xs.length≤i⟩
def zM (lo:Int) (n:Nat):It:=⟨fun i _=>i<n,fun i H x H'=>H'=H∧x=.int (lo+i),fun i _=>n≤i⟩
theorem t5 {P:Program} {w:World} {K:PySem.W.Frag} {tg:Expr} (a it:Addr):Turn P w K tg (JH K a) [it] it (fun i h=>h.IsListIter it a i) where
 mem:=by simp
 obj:=fun i h st b hb=>by
  have e:b=it:=by simpa using hb
  subst e
  obtain ⟨o,e,c,d⟩:=st
  exact ⟨o,e,fun v z=>by rw [d] at z;cases z⟩
 keep:=fun i h h' st k=>st.at fun o e=>k it (by simp) o e
 item:=by
  intro X hP hw hK hc i pins s σ H E I hf st hg
  subst hP hw hK
  obtain ⟨xs,x,hq,hx⟩:=hg
  obtain ⟨its,rv,p,hz⟩:=I.list hq
  obtain ⟨u,hu,ru⟩:=rv.get hx
  obtain ⟨f0,f1,f2,f3,f4,f5⟩:=hf it (by simp)
  refine wpAny_pyNext_list_item st p.isList (x:=u) (by simpa using hu) fun h' st' sb=>?_
  have I1:Inv X pins σ H {s with heap:=h'}:=I.turned (t':=s.toks) (fun b o hb e=>(sb.2 b hb).trans e) f0 f1 f3 f4 f5
  obtain ⟨o,e,c,d⟩:=id st'
  exact ⟨u,rfl,ZX (s:={s with heap:=h'}) e c d (by decide) ⟨x,H,I1,ru,⟨rfl,fun ys hy=>by rw [I.list_inj hy hq];exact hx⟩,st',fun b hb=>(hf b hb).1⟩⟩
 done:=by
  intro X hP hw hK hc i pins s σ H E I hf st hg
  subst hP hw hK
  obtain ⟨xs,hq,hx⟩:=hg
  obtain ⟨its,rv,p,hz⟩:=I.list hq
  obtain ⟨f0,f1,f2,f3,f4,f5⟩:=hf it (by simp)
  have hl:=rv.length
  exact wpAny_pyNext_list_end (I.ok.hd hc) st p.isList (by simp;omega) fun h' eb=>⟨rfl,I.turned (t':=s.toks) (fun b o hb e=>eb b o hb e) f0 f1 f3 f4 f5⟩
 self:=fun _ _ _ _ _ st h=>wpAny_pyIter_listiter st h
theorem sQ {P:Program} {w:World} {K:PySem.W.Frag} {tg:Expr} (a it:Addr):Turn P w K tg (dN K a) [it] it (fun i h=>h.IsTupleIter it a i) where
 mem:=by simp
 obj:=fun i h st b hb=>by
  have e:b=it:=by simpa using hb
  subst e
  obtain ⟨o,e,c,d⟩:=st
  exact ⟨o,e,fun v z=>by rw [d] at z;cases z⟩
 keep:=fun i h h' st k=>st.at fun o e=>k it (by simp) o e
 item:=by
  intro X hP hw hK hc i pins s σ H E I hf st hg
  subst hP hw hK
  obtain ⟨xs,x,hq,hx⟩:=hg
  obtain ⟨its,rv,p,hz⟩:=I.tuple hq
  obtain ⟨u,hu,ru⟩:=rv.get hx
  obtain ⟨f0,f1,f2,f3,f4,f5⟩:=hf it (by simp)
  refine wpAny_pyNext_tuple_item st (show s.heap.IsTuple a its.toArray from p) (x:=u) (by simpa using hu) fun h' st' sb=>?_
  have I1:Inv X pins σ H {s with heap:=h'}:=I.turned (t':=s.toks) (fun b o hb e=>(sb.2 b hb).trans e) f0 f1 f3 f4 f5
  obtain ⟨o,e,c,d⟩:=id st'
  exact ⟨u,rfl,ZX (s:={s with heap:=h'}) e c d (by decide) ⟨x,H,I1,ru,⟨rfl,fun ys hy=>by rw [I.tuple_inj hy hq];exact hx⟩,st',fun b hb=>(hf b hb).1⟩⟩
 done:=by
  intro X hP hw hK hc i pins s σ H E I hf st hg
  subst hP hw hK
  obtain ⟨xs,hq,hx⟩:=hg
  obtain ⟨its,rv,p,hz⟩:=I.tuple hq
  obtain ⟨f0,f1,f2,f3,f4,f5⟩:=hf it (by simp)
  have hl:=rv.length
  exact wpAny_pyNext_tuple_end (I.ok.hd hc) st (show s.heap.IsTuple a its.toArray from p) (by simp;omega) fun h' eb=>⟨rfl,I.turned (t':=s.toks) (fun b o hb e=>eb b o hb e) f0 f1 f3 f4 f5⟩
 self:=fun _ _ _ _ _ st h=>wpAny_pyIter_tupleiter st h
theorem sR {P:Program} {w:World} {K:PySem.W.Frag} {tg:Expr} (it:Addr) (lo:Int) (n:Nat):Turn P w K tg (zM lo n) [it] it (fun i h=>IsRangeIter h it (lo+(i:Nat)*1) ((n:Int) - (i:Nat)) 1) where
 mem:=by simp
 obj:=fun i h st b hb=>by
  have e:b=it:=by simpa using hb
  subst e
  exact ⟨_,st,fun v z=>by
   have z':Data.fields _=Data.cell v:=z
   cases z'⟩
 keep:=fun i h h' st k=>k it (by simp) _ st
 item:=by
  intro X hP hw hK hc i pins s σ H E I hf st hg
  subst hP hw hK
  obtain ⟨f0,f1,f2,f3,f4,f5⟩:=hf it (by simp)
  have W:=Walks.range (prog:=X.prog) (w:=X.w) (I.ok.hd hc) it lo 1 n
  refine W.item i s _ _ hg st fun v h' tk hv st' kk=>?_
  obtain ⟨t,rfl⟩:=hv
  have I1:Inv X pins σ H {s with heap:=h',toks:=tk}:=I.turned (fun b o hb e=>kk b o (by simpa using hb) e) f0 f1 f3 f4 f5
  refine ⟨_,rfl,ZX (s:={s with heap:=h',toks:=tk}) (n:="range_iterator") st' rfl rfl (by decide) ⟨.int (lo+i),H,I1,⟨t,?_⟩,⟨rfl,rfl⟩,st',fun b hb=>(hf b hb).1⟩⟩
  rw [Int.mul_one]
 done:=by
  intro X hP hw hK hc i pins s σ H E I hf st hg
  subst hP hw hK
  obtain ⟨f0,f1,f2,f3,f4,f5⟩:=hf it (by simp)
  exact wpAny_pyNext_range_end (I.ok.hd hc) st (by have:n≤i:=hg;omega) fun h' eb=>⟨rfl,I.turned (t':=s.toks) (fun b o hb e=>eb b o hb e) f0 f1 f3 f4 f5⟩
 self:=fun _ _ _ _ _ st h=>wpAny_pyIter_rangeiter st h
end L2
namespace L2
open PySem PySem.Spec PyProof.Rows
section
variable {X:Cx} {tg:Expr}
def CP (K:PySem.W.Frag) (tl:TE):TI:=fun σ H R=>tl σ H fun x H1=>∃a,x=.ref a∧(∃xs,SqL K H1 a xs)∧R (JH K a) H1
def DN (K:PySem.W.Frag) (tl:TE):TI:=fun σ H R=>tl σ H fun x H1=>∃a,x=.ref a∧(∃xs,SqT K H1 a xs)∧R (dN K a) H1
theorem q9 {l:Expr} {tl:TE} (hl:PE X l tl):PI X tg l (CP X.K tl):=by
 intro pins s σ H R I h
 refine jK (hl pins s σ H _ I h) fun v s1 ⟨x,H1,I1,r1,q1⟩=>?_
 obtain ⟨a,e,⟨xs,hq⟩,q⟩:=q1
 subst e
 cases r1
 obtain ⟨its,rv,p,hz⟩:=I1.list hq
 refine wpAny_pyIter_list p.isList ?_
 refine ⟨s1.heap.objs.size,[s1.heap.objs.size],_,_,H1,rfl,I1.kept (t':=s1.toks) fun b o e=>Heap.get?_push_of_some _ e,t5 a _,⟨_,Heap.get?_push_size _ rfl,rfl,rfl⟩,fun b hb=>?_,q⟩
 have e:b=s1.heap.objs.size:=by simpa using hb
 subst e
 exact I1.fpOk (Nat.le_refl _) (I1.hok.fresh (Nat.le_refl _))
theorem BL {l:Expr} {tl:TE} (hl:PE X l tl):PI X tg l (DN X.K tl):=by
 intro pins s σ H R I h
 refine jK (hl pins s σ H _ I h) fun v s1 ⟨x,H1,I1,r1,q1⟩=>?_
 obtain ⟨a,e,⟨xs,hq⟩,q⟩:=q1
 subst e
 cases r1
 obtain ⟨its,rv,p,hz⟩:=I1.tuple hq
 refine wpAny_pyIter_tuple (show s1.heap.IsTuple a its.toArray from p) ?_
 refine ⟨s1.heap.objs.size,[s1.heap.objs.size],_,_,H1,rfl,I1.kept (t':=s1.toks) fun b o e=>Heap.get?_push_of_some _ e,sQ a _,⟨_,Heap.get?_push_size _ rfl,rfl,rfl⟩,fun b hb=>?_,q⟩
 have e:b=s1.heap.objs.size:=by simpa using hb
 subst e
 exact I1.fpOk (Nat.le_refl _) (I1.hok.fresh (Nat.le_refl _))
theorem wW {pins:List (Addr×Obj)} {σ:St} {H:Hp} {s:Shared} {R:It→Hp→Prop} {E:Value→Shared→Prop} {lo hi:Int} {t u v:Tok} {tk:Nat} (I:Inv X pins σ H s) (h1 : -(2 ^ 62)≤lo) (h2:lo<2 ^ 62) (h3 : -(2 ^ 62)≤hi) (h4:hi<2 ^ 62)
    (q:R (zM lo (hi - lo).toNat) H):wpAny (model X.prog X.w) X.A (pyIter (.ref s.heap.objs.size)) (dI X pins σ tg R) E {s with heap:=s.heap.push {cls:=.type "range",data:=.fields #[.int lo t,.int hi u,.int 1 v]},toks:=tk}:=by
  refine wpAny_pyIter_range (IsRange.new ..) (small_one h1 h2 h3 h4) ?_
  have I1:Inv X pins σ H {s with heap:=s.heap.push {cls:=.type "range",data:=.fields #[.int lo t,.int hi u,.int 1 v]},toks:=tk}:=I.kept fun b o e=>Heap.get?_push_of_some _ e
  refine ⟨(s.heap.push {cls:=.type "range",data:=.fields #[.int lo t,.int hi u,.int 1 v]}).objs.size,[(s.heap.push {cls:=.type "range",data:=.fields #[.int lo t,.int hi u,.int 1 v]}).objs.size],_,_,H,rfl,
    I1.kept (t':=tk) fun b o e=>Heap.get?_push_of_some _ e,sR _ lo (hi - lo).toNat,?_,fun b hb=>?_,q⟩
  · have e1:lo+((0:Nat):Int)*1=lo:=by simp
    have e2:(((hi - lo).toNat:Nat):Int) - ((0:Nat):Int)=Builtin.Range.rangeSize lo hi 1:=by rw [rangeSize_one];split<;>omega
    show IsRangeIter _ _ (lo+((0:Nat):Int)*1) ((((hi - lo).toNat:Nat):Int) - ((0:Nat):Int)) 1
    rw [e1,e2]
    exact Heap.get?_push_size _ rfl
  · have e:b=(s.heap.push {cls:=.type "range",data:=.fields #[.int lo t,.int hi u,.int 1 v]}).objs.size:=by simpa using hb
    subst e
    exact I1.fpOk (Nat.le_refl _) (I1.hok.fresh (Nat.le_refl _))
def CO (ta:TA):TI:=fun σ H R=>ta σ H fun vs H1=>∃j:Int,vs=[.int j]∧-(2 ^ 62)≤j∧j<2 ^ 62∧R (zM 0 j.toNat) H1
theorem yX {a:Expr} {ta:TA} {p pos:Pos} (hg:Gl X "range") (hm:X.mg "range"=none) (ha:PA X [a] ta) (hs:starEach [a] X.env=[(false,eval a X.env)]:=by rfl):PI X tg (.Call (.Name "range" p) [a] [] pos) (CO ta):=by
 intro pins s σ H R I h
 refine Call_ (yF I hg hm boot_range (PyProof.Rows.callWith_type1 (jK (ha pos pins s σ H _ I h) fun us s1 ⟨vs,H1,I1,r1,q1⟩=>?_) hs rfl))
 obtain ⟨j,e,q1,q2,q⟩:=q1
 subst e
 cases r1 with
 |cons r rr =>
  cases rr
  obtain ⟨t,rfl⟩:=r
  exact call_range_1 (wW I1 (by omega) (by omega) q1 q2 (by simpa using q))
def C8 (wi:TI) (g:TG) (tb:TS):TS:=fun D σ H=>wi σ H fun J H1=>∃W:Nat→Nat→St→Hp→Prop,(∃m,W 0 m σ H1)∧∀i m σ H,W i m σ H→
 (J.stop i H∧D.nx σ H)∨(J.go i H∧∃N:St→Hp→Prop,(∀σ' H',N σ' H'→∃m',m'<m∧W (i+1) m' σ' H')∧∀x H',J.yld i H x H'→g x σ H' fun σ2 H2=>tb {D with nx:=N,ct:=N,bk:=D.nx} σ2 H2)
def ZP (fp:List Addr) (h:Heap):List (Addr×Obj):=fp.filterMap fun b=>(h.get? b).map fun o=>(b,o)
theorem bD {fp:List Addr} {h:Heap} {b:Addr} {o:Obj} (hb:b∈fp) (e:h.get? b=some o):(b,o)∈ZP fp h:=List.mem_filterMap.mpr ⟨b,hb,by rw [e];rfl⟩
theorem uN {fp:List Addr} {h:Heap} {p:Addr×Obj} (hp:p∈ZP fp h):p.1∈fp∧h.get? p.1=some p.2:=by
 obtain ⟨b,hb,e⟩:=List.mem_filterMap.mp hp
 cases q:h.get? b with
 |none=>rw [q] at e;cases e
 |some o =>
  rw [q] at e
  have e':(b,o)=p:=Option.some.inj e
  subst e'
  exact ⟨hb,q⟩
theorem Inv.pinned {pins:List (Addr×Obj)} {σ:St} {H:Hp} {s:Shared} {fp:List Addr} (I:Inv X pins σ H s) (hf:∀b∈fp,v4 X pins H b) (ho:∀b∈fp,∃o,s.heap.get? b=some o∧∀v,o.data≠.cell v):Inv X (pins++ZP fp s.heap) σ H s :=
 I.pins_of fun p hp=>(List.mem_append.mp hp).elim (fun z=>I.pin p (List.mem_append_right _ z)) fun z=>by
  obtain ⟨hb,e⟩:=uN z
  obtain ⟨f0,f1,f2,_⟩:=hf p.1 hb
  obtain ⟨o,e',d⟩:=ho p.1 hb
  rw [e] at e';cases e'
  exact ⟨e,f0,f1,f2,d⟩
theorem Inv.unpinned {pins pl:List (Addr×Obj)} {σ:St} {H:Hp} {s:Shared} (I:Inv X (pins++pl) σ H s):Inv X pins σ H s:=I.pins_of fun p hp=>I.pin p (List.mem_append_right _ (List.mem_append_left _ hp))
theorem vC {iter:Expr} {body:List Stmt} {wi:TI} {g:TG} {tb:TS} {pos:Pos} (hp:PassesOwn (model X.prog X.w) X.A X.env X.xe) (hc:X.calm=true) (hi:PI X tg iter wi) (hg:PG X tg g) (hb:PSs X body tb)
  (hs:∀x,foldedSetIterable iter X.env x=pure x:=by intro _;rfl):PS X (.For tg iter body [] pos) (C8 wi g tb):=by
 intro pins s σ H D I h
 refine wpAny_For (jK (hi pins s σ H _ I h) fun v s1 h1=>jK h1 fun itv s2 h2=>?_) hs
 obtain ⟨it,fp,tn,J,H2,e,I2,T,st2,f2,W,⟨m0,w0⟩,turn⟩:=h2
 subst e
 have stat:∀{H':Hp},(∀b∈fp,H' b=none)→∀b∈fp,v4 X pins H' b:=fun hn b hb=>⟨hn b hb,(f2 b hb).2⟩
 refine codeAny_forLoop_any (fun n s'=>∃i σ' H',Inv X pins σ' H' s'∧tn i s'.heap∧(∀b∈fp,H' b=none)∧W i n σ' H') ?_ m0 ⟨0,σ,H2,I2,st2,fun b hb=>(f2 b hb).1,w0⟩
 rintro n s3 ⟨i,σ3,H3,I3,st3,fr3,w3⟩
 rcases turn i n σ3 H3 w3 with ⟨stop,qn⟩|⟨go,N,hN,step⟩
 ·refine wpAny_passesOwn hp (jK (T.done X rfl rfl rfl hc i pins s3 σ3 H3 X.xe I3 (stat fr3) st3 stop) fun r s4 ⟨hr,I4⟩=>?_)
  subst hr
  exact wpAny_execs_nil ⟨σ3,H3,I4,qn⟩
 ·refine wpAny_passesOwn hp (jK (T.item X rfl rfl rfl hc i pins s3 σ3 H3 X.xe I3 (stat fr3) st3 go) fun r s4 ⟨u,hr,h4⟩=>?_)
  subst hr
  refine wpAny_passesOwn hp (jK h4 fun _ s5 ⟨x,H5,I5,r5,y5,st5,fr5⟩=>?_)
  have I5':=I5.pinned (stat fr5) (T.obj _ _ st5)
  refine wpAny_passesOwn hp (jK (hg _ s5 σ3 H5 x u _ I5' r5 (step x H5 y5)) fun _ s6 ⟨σ6,H6,I6,q6⟩=>?_)
  refine wpAny_passesOwn hp (jK (hb _ s6 σ6 H6 _ I6 q6) fun f s7 q7=>?_)
  have again:∀{σ7:St} {H7:Hp},Inv X (pins++ZP fp s5.heap) σ7 H7 s7→N σ7 H7→∃m,m<n∧∃i σ' H',Inv X pins σ' H' s7∧tn i s7.heap∧(∀b∈fp,H' b=none)∧W i m σ' H':=fun {σ7 H7} I7 n7=>by
   obtain ⟨m',hm,w7⟩:=hN σ7 H7 n7
   refine ⟨m',hm,i+1,σ7,H7,I7.unpinned,T.keep _ _ _ st5 fun b hb o e=>(I7.pin (b,o) (List.mem_append_right _ (List.mem_append_right _ (bD hb e)))).1,fun b hb=>?_,w7⟩
   obtain ⟨o,e,d⟩:=T.obj _ _ st5 b hb
   exact (I7.pin (b,o) (List.mem_append_right _ (List.mem_append_right _ (bD hb e)))).2.1
  cases f with
  |next=>obtain ⟨σ7,H7,I7,n7⟩:=q7;exact again I7 n7
  |cont=>obtain ⟨σ7,H7,I7,n7⟩:=q7;exact again I7 n7
  |brk=>obtain ⟨σ7,H7,I7,q7⟩:=q7;exact ⟨σ7,H7,I7.unpinned,q7⟩
  |ret v=>obtain ⟨x7,σ7,H7,I7,r7,q7⟩:=q7;exact ⟨x7,σ7,H7,I7.unpinned,r7,q7⟩
end
theorem ZF {K:PySem.W.Frag} {a:Addr} {xs:List V} {g:TG} {tb:TS} {D:Ends} {σ:St} {H:Hp} (Pv:Nat→St→Hp→Prop) (h0:Pv 0 σ H) (hl:∀i σ H,i≤xs.length→Pv i σ H→SqL K H a xs)
    (hs:∀i x σ H,xs[i]?=some x→Pv i σ H→g x σ H fun σ2 H2=>tb {D with nx:=Pv (i+1),ct:=Pv (i+1),bk:=D.nx} σ2 H2) (hd:∀σ H,Pv xs.length σ H→D.nx σ H) :
    ∃W:Nat→Nat→St→Hp→Prop,(∃m,W 0 m σ H)∧∀i m σ H,W i m σ H→
      ((JH K a).stop i H∧D.nx σ H)∨((JH K a).go i H∧∃N:St→Hp→Prop,(∀σ' H',N σ' H'→∃m',m'<m∧W (i+1) m' σ' H')∧∀x H',(JH K a).yld i H x H'→g x σ H' fun σ2 H2=>tb {D with nx:=N,ct:=N,bk:=D.nx} σ2 H2):=by
  refine ⟨fun i m σ H=>m=xs.length - i∧i≤xs.length∧Pv i σ H,⟨xs.length,by simp,Nat.zero_le _,h0⟩,?_⟩
  rintro i m σ H ⟨rfl,hi,p⟩
  have q:=hl i σ H hi p
  by_cases hlt:i<xs.length
  · refine .inr ⟨⟨xs,xs[i],q,by simp [hlt]⟩,Pv (i+1),fun σ' H' p'=>⟨xs.length - (i+1),by omega,rfl,hlt,p'⟩,fun x H' y=>?_⟩
    obtain ⟨e,y⟩:=y
    subst e
    exact hs i x σ _ (y xs q) p
  · have e:i=xs.length:=by omega
    subst e
    exact .inl ⟨⟨xs,q,Nat.le_refl _⟩,hd σ H p⟩
theorem zE {lo:Int} {n:Nat} {g:TG} {tb:TS} {D:Ends} {σ:St} {H:Hp} (Pv:Nat→St→Hp→Prop) (h0:Pv 0 σ H)
  (hs:∀i σ H,i<n→Pv i σ H→g (.int (lo+i)) σ H fun σ2 H2=>tb {D with nx:=Pv (i+1),ct:=Pv (i+1),bk:=D.nx} σ2 H2) (hd:∀σ H,Pv n σ H→D.nx σ H) :
  ∃W:Nat→Nat→St→Hp→Prop,(∃m,W 0 m σ H)∧∀i m σ H,W i m σ H→
   ((zM lo n).stop i H∧D.nx σ H)∨((zM lo n).go i H∧∃N:St→Hp→Prop,(∀σ' H',N σ' H'→∃m',m'<m∧W (i+1) m' σ' H')∧∀x H',(zM lo n).yld i H x H'→g x σ H' fun σ2 H2=>tb {D with nx:=N,ct:=N,bk:=D.nx} σ2 H2):=by
 refine ⟨fun i m σ H=>m=n - i∧i≤n∧Pv i σ H,⟨n,by simp,Nat.zero_le _,h0⟩,?_⟩
 rintro i m σ H ⟨rfl,hi,p⟩
 by_cases hlt:i<n
 ·refine .inr ⟨hlt,Pv (i+1),fun σ' H' p'=>⟨n - (i+1),by omega,rfl,hlt,p'⟩,fun x H' y=>?_⟩
  obtain ⟨e,y⟩:=y
  subst e y
  exact hs i σ _ hlt p
 ·have e:i=n:=by omega
  subst e
  exact .inl ⟨Nat.le_refl _,hd σ H p⟩
end L2
namespace L2
open PySem PySem.Spec PyProof.Rows
abbrev R2:=V→V→Hp→VK→Prop
def OpR (X:Cx) (f:Value→Value→Sem Value) (r:R2):Prop :=
 ∀(pins:List (Addr×Obj)) (s:Shared) (σ:St) (H:Hp) (x y:V) (v u:Value) (Q:VK),Inv X pins σ H s→RelV x v→RelV y u→r x y H Q→
  wpAny (model X.prog X.w) X.A (f v u) (EP X pins σ Q) X.xe s
def fR (X:Cx) (f:Value→Sem Value) (r:V→Hp→VK→Prop):Prop :=
 ∀(pins:List (Addr×Obj)) (s:Shared) (σ:St) (H:Hp) (x:V) (v:Value) (Q:VK),Inv X pins σ H s→RelV x v→r x H Q→
  wpAny (model X.prog X.w) X.A (f v) (EP X pins σ Q) X.xe s
def CallR (X:Cx) (f:Value) (r:List V→Hp→VK→Prop):Prop :=
 ∀(pins:List (Addr×Obj)) (s:Shared) (σ:St) (H:Hp) (xs:List V) (us:List Value) (Q:VK),Inv X pins σ H s→Vals xs us→r xs H Q→
  wpAny (model X.prog X.w) X.A (call f us) (EP X pins σ Q) X.xe s
def DU (X:Cx) (r:V→Hp→(Bool→Hp→Prop)→Prop):Prop :=
 ∀(pins:List (Addr×Obj)) (s:Shared) (σ:St) (H:Hp) (x:V) (v:Value) (Q:Bool→Hp→Prop),Inv X pins σ H s→RelV x v→r x H Q→
  wpAny (model X.prog X.w) X.A (truthy v) (TP X pins σ Q) X.xe s
def dE (r:R2) (ta tb:TE):TE:=fun σ H Q=>ta σ H fun x H1=>tb σ H1 fun y H2=>r x y H2 Q
def DZ (r:V→Hp→VK→Prop) (ta:TE):TE:=fun σ H Q=>ta σ H fun x H1=>r x H1 Q
def rI (C:Int→Int→Prop) (g:Int→Int→V):R2:=fun x y H Q=>∃i j,x=.int i∧y=.int j∧C i j∧Q (g i j) H
def zK (g:Int→Int→V):R2:=fun x y H Q=>∃i j,x=.int i∧y=.int j∧Q (g i j) H
def rU (g:Int→V):V→Hp→VK→Prop:=fun x H Q=>∃i,x=.int i∧Q (g i) H
section
variable {X:Cx} {a b c:Expr} {ta tb tc:TE} {pos:Pos}
theorem fL (ha:PE X a ta) (hb:PE X b tb) {pins:List (Addr×Obj)} {s:Shared} {σ:St} {H:Hp} {R:V→V→Hp→Prop} (I:Inv X pins σ H s)
  (h:ta σ H fun x H1=>tb σ H1 fun y H2=>R x y H2) {Q:Value→Shared→Prop} {f:Value→Value→Sem Value}
  (hf:∀v u s2 x y H2,Inv X pins σ H2 s2→RelV x v→RelV y u→R x y H2→wpAny (model X.prog X.w) X.A (f v u) Q X.xe s2) :
  wpAny (model X.prog X.w) X.A (eval a X.env) (fun v s₁=>wpAny (model X.prog X.w) X.A (eval b X.env) (fun u s₂=>wpAny (model X.prog X.w) X.A (f v u) Q X.xe s₂) X.xe s₁) X.xe s:=by
 refine jK (ha pins s σ H _ I h) fun v s1 ⟨x,H1,I1,r1,q1⟩=>?_
 refine jK (hb pins s1 σ H1 _ I1 q1) fun u s2 ⟨y,H2,I2,r2,q2⟩=>?_
 exact hf v u s2 x y H2 I2 r1 r2 q2
theorem jF {op:Operator} {r:R2} (ho:OpR X (binaryOp op) r) (ha:PE X a ta) (hb:PE X b tb):PE X (.BinOp a op b pos) (dE r ta tb):=by
 intro pins s σ H Q I h
 exact wpAny_BinOp (fL ha hb I h fun v u s2 x y H2 I2 rx ry q=>ho pins s2 σ H2 x y v u Q I2 rx ry q)
theorem CF {op:UnaryOp} {r:V→Hp→VK→Prop} (ho:fR X (unaryOp op) r) (ha:PE X a ta):PE X (.UnaryOp op a pos) (DZ r ta):=by
 intro pins s σ H Q I h
 exact UnaryOp_ (jK (ha pins s σ H _ I h) fun v s1 ⟨x,H1,I1,r1,q1⟩=>ho pins s1 σ H1 x v Q I1 r1 q1)
theorem dF {f:Value→Value→Sem Value} {C:Int→Int→Prop} {g:Int→Int→Int}
  (rule:∀(i j:Int) (t u:Tok) (s:Shared) (Q:Value→Shared→Prop) (E:Value→Shared→Prop),C i j→Q (.int (g i j) s.toks) {s with toks:=s.toks+1}→wpAny (model X.prog X.w) X.A (f (.int i t) (.int j u)) Q E s) :
  OpR X f (rI C fun i j=>.int (g i j)):=by
 intro pins s σ H x y v u Q I rx ry h
 obtain ⟨i,j,rfl,rfl,hc,q⟩:=h
 obtain ⟨t,rfl⟩:=rx
 obtain ⟨t',rfl⟩:=ry
 exact rule i j t t' s _ _ hc ⟨.int (g i j),H,I.tok _,⟨_,rfl⟩,q⟩
theorem nQ {f:Value→Value→Sem Value} {g:Int→Int→Int}
  (rule:∀(i j:Int) (t u:Tok) (s:Shared) (Q:Value→Shared→Prop) (E:Value→Shared→Prop),Q (.int (g i j) s.toks) {s with toks:=s.toks+1}→wpAny (model X.prog X.w) X.A (f (.int i t) (.int j u)) Q E s) :
  OpR X f (zK fun i j=>.int (g i j)):=by
 intro pins s σ H x y v u Q I rx ry h
 obtain ⟨i,j,rfl,rfl,q⟩:=h
 obtain ⟨t,rfl⟩:=rx
 obtain ⟨t',rfl⟩:=ry
 exact rule i j t t' s _ _ ⟨.int (g i j),H,I.tok _,⟨_,rfl⟩,q⟩
theorem dB {f:Value→Value→Sem Value} {g:Int→Int→Bool}
  (rule:∀(i j:Int) (t u:Tok) (s:Shared) (Q:Value→Shared→Prop) (E:Value→Shared→Prop),Q (.bool (g i j)) s→wpAny (model X.prog X.w) X.A (f (.int i t) (.int j u)) Q E s) :
  OpR X f (zK fun i j=>.bl (g i j)):=by
 intro pins s σ H x y v u Q I rx ry h
 obtain ⟨i,j,rfl,rfl,q⟩:=h
 obtain ⟨t,rfl⟩:=rx
 obtain ⟨t',rfl⟩:=ry
 exact rule i j t t' s _ _ ⟨.bl (g i j),H,I,rfl,q⟩
def DX (i j:Int):Prop:=0<j∧j<1073741824
def DW (i j:Int):Prop:=0≤j∧j≤1000000∧i.natAbs<2 ^ 64
def CMul (i j:Int):Prop:=(-(2 ^ 64)<i∧i<2 ^ 64)∨(-(2 ^ 64)<j∧j<2 ^ 64)
theorem CMul.ok {i j:Int} (h:CMul i j):IntMulOk i j:=by
 rcases h with ⟨h1,h2⟩|⟨h1,h2⟩
 ·exact .of_left (intBits_le_64 h1 h2)
 ·exact .of_right (intBits_le_64 h1 h2)
theorem qC:OpR X (binaryOp .Add) (zK fun i j=>.int (i+j)):=nQ fun _ _ _ _ _ _ _ q=>add_int q
theorem yR:OpR X (binaryOp .Sub) (zK fun i j=>.int (i - j)):=nQ fun _ _ _ _ _ _ _ q=>sub_int q
theorem z5:OpR X (binaryOp .Mult) (rI CMul fun i j=>.int (i*j)):=dF fun _ _ _ _ _ _ _ hc q=>mul_int q hc.ok
theorem qK:OpR X (binaryOp .FloorDiv) (rI DX fun i j=>.int (i / j)):=dF fun i j _ _ _ _ _ hc q=>by
 have h1:(0:Int)<j:=hc.1
 have h2:j<1073741824:=hc.2
 exact floordiv_int (by omega) (by rw [Int.fdiv_eq_ediv_of_nonneg i (by omega)];exact q) (.inl (PyProof.noPylong_small (by omega)))
theorem kH:OpR X (binaryOp .Mod) (rI (fun _ j=>0<j) fun i j=>.int (i%j)):=dF fun i j _ _ _ _ _ hc q=>by
 have h1:(0:Int)<j:=hc
 exact mod_int' (by omega) (by rw [Int.fmod_eq_emod_of_nonneg i (by omega)];exact q)
theorem vT:OpR X (binaryOp .Pow) (rI DW fun i j=>.int (i ^ j.toNat)):=dF fun _ _ _ _ _ _ _ hc q=>pow_int_small hc.1 hc.2.1 hc.2.2 q
theorem DY {f:Value→Sem Value} {g:Int→Int}
  (rule:∀(i:Int) (t:Tok) (s:Shared) (Q:Value→Shared→Prop) (E:Value→Shared→Prop),Q (.int (g i) s.toks) {s with toks:=s.toks+1}→wpAny (model X.prog X.w) X.A (f (.int i t)) Q E s) :
  fR X f (rU fun i=>.int (g i)):=by
 intro pins s σ H x v Q I rx h
 obtain ⟨i,rfl,q⟩:=h
 obtain ⟨t,rfl⟩:=rx
 exact rule i t s _ _ ⟨.int (g i),H,I.tok _,⟨_,rfl⟩,q⟩
theorem BC:fR X (unaryOp .USub) (rU fun i=>.int (-i)):=DY fun _ _ _ _ _ q=>neg_int q
end
def nM:V→V→Bool
 |.non,.non=>true|.non,.int _=>true|.int _,.non=>true|.non,.bl _=>true|.bl _,.non=>true|.non,.str _=>true|.str _,.non=>true
 |.int _,.int _=>true|.bl _,.bl _=>true|.str _,.str _=>true|.byt _,.byt _=>true
 |.int _,.str _=>true|.str _,.int _=>true|.bl _,.str _=>true|.str _,.bl _=>true
 |_,_=>false
def D5:R2:=fun x y H Q=>nM x y=true∧Q (.bl (decide (x=y))) H
def D4:R2:=fun x y H Q=>nM x y=true∧Q (.bl (!decide (x=y))) H
theorem mL {i j:Int}:decide (V.int i=V.int j)=(i == j):=by
 rw [Bool.eq_iff_iff]
 simp
theorem mW {i j:Bool}:decide (V.bl i=V.bl j)=(i == j):=by
 rw [Bool.eq_iff_iff]
 simp
theorem mK {i j:Str}:decide (V.str i=V.str j)=(i == j):=by
 rw [Bool.eq_iff_iff]
 simp
theorem mM {i j:Array UInt8}:decide (V.byt i=V.byt j)=(i.toList == j.toList):=by
 rw [Bool.eq_iff_iff]
 cases i
 cases j
 simp
section
variable {X:Cx} {a b c:Expr} {ta tb tc:TE} {pos:Pos}
theorem kQ {pins:List (Addr×Obj)} {σ:St} {H:Hp} {s:Shared} {Q:VK} {k k':Bool} (I:Inv X pins σ H s) (q:Q (.bl k) H) (e:k=k'):EP X pins σ Q (.bool k') s:=by
 subst e
 exact ⟨.bl k,H,I,rfl,q⟩
theorem kO:OpR X (compareOp .Eq) D5:=by
 intro pins s σ H x y v u Q I rx ry h
 obtain ⟨hs,q⟩:=h
 cases x with
 |non =>
  cases rx
  cases y with
  |non=>cases ry;exact PySem.EqNone.eq_none_none (kQ I q (by simp))
  |bl j=>cases ry;exact PySem.EqNone.eq_none_bool (kQ I q (by simp))
  |int j=>obtain ⟨t',rfl⟩:=ry;exact PySem.EqNone.eq_none_int (kQ I q (by simp))
  |str j=>obtain ⟨t',rfl⟩:=ry;exact PySem.EqNone.eq_none_str (kQ I q (by simp))
  |_=>exact absurd (show false=true from hs) Bool.false_ne_true
 |bl i =>
  cases rx
  cases y with
  |non=>cases ry;exact PySem.EqNone.eq_bool_none (kQ I q (by simp))
  |bl j=>cases ry;exact eq_bool (kQ I q mW)
  |str j=>obtain ⟨t',rfl⟩:=ry;exact PySem.EqMixed.eq_bool_str (kQ I q (by simp))
  |_=>exact absurd (show false=true from hs) Bool.false_ne_true
 |int i =>
  obtain ⟨t,rfl⟩:=rx
  cases y with
  |non=>cases ry;exact PySem.EqNone.eq_int_none (kQ I q (by simp))
  |int j=>obtain ⟨t',rfl⟩:=ry;exact eq_int (kQ I q mL)
  |str j=>obtain ⟨t',rfl⟩:=ry;exact PySem.EqMixed.eq_int_str (kQ I q (by simp))
  |_=>exact absurd (show false=true from hs) Bool.false_ne_true
 |str i =>
  obtain ⟨t,rfl⟩:=rx
  cases y with
  |non=>cases ry;exact PySem.EqNone.eq_str_none (kQ I q (by simp))
  |bl j=>cases ry;exact PySem.EqMixed.eq_str_bool (kQ I q (by simp))
  |int j=>obtain ⟨t',rfl⟩:=ry;exact PySem.EqMixed.eq_str_int (kQ I q (by simp))
  |str j=>obtain ⟨t',rfl⟩:=ry;exact eq_str (kQ I q mK)
  |_=>exact absurd (show false=true from hs) Bool.false_ne_true
 |byt i =>
  obtain ⟨t,rfl⟩:=rx
  cases y with
  |byt j=>obtain ⟨t',rfl⟩:=ry;exact PySem.W.eq_bytes (kQ I q mM)
  |_=>exact absurd (show false=true from hs) Bool.false_ne_true
 |_=>cases y<;>exact absurd (show false=true from hs) Bool.false_ne_true
theorem qN:OpR X (compareOp .NotEq) D4:=by
 intro pins s σ H x y v u Q I rx ry h
 obtain ⟨hs,q⟩:=h
 cases x with
 |non =>
  cases rx
  cases y with
  |non=>cases ry;exact PySem.EqNone.ne_none_none (kQ I q (by simp))
  |bl j=>cases ry;exact PySem.EqNone.ne_none_bool (kQ I q (by simp))
  |int j=>obtain ⟨t',rfl⟩:=ry;exact PySem.EqNone.ne_none_int (kQ I q (by simp))
  |str j=>obtain ⟨t',rfl⟩:=ry;exact PySem.EqNone.ne_none_str (kQ I q (by simp))
  |_=>exact absurd (show false=true from hs) Bool.false_ne_true
 |bl i =>
  cases rx
  cases y with
  |non=>cases ry;exact PySem.EqNone.ne_bool_none (kQ I q (by simp))
  |bl j=>cases ry;exact ne_bool (kQ I q (congrArg not mW))
  |str j=>obtain ⟨t',rfl⟩:=ry;exact PySem.EqMixed.ne_bool_str (kQ I q (by simp))
  |_=>exact absurd (show false=true from hs) Bool.false_ne_true
 |int i =>
  obtain ⟨t,rfl⟩:=rx
  cases y with
  |non=>cases ry;exact PySem.EqNone.ne_int_none (kQ I q (by simp))
  |int j=>obtain ⟨t',rfl⟩:=ry;exact ne_int (kQ I q (congrArg not mL))
  |str j=>obtain ⟨t',rfl⟩:=ry;exact PySem.EqMixed.ne_int_str (kQ I q (by simp))
  |_=>exact absurd (show false=true from hs) Bool.false_ne_true
 |str i =>
  obtain ⟨t,rfl⟩:=rx
  cases y with
  |non=>cases ry;exact PySem.EqNone.ne_str_none (kQ I q (by simp))
  |bl j=>cases ry;exact PySem.EqMixed.ne_str_bool (kQ I q (by simp))
  |int j=>obtain ⟨t',rfl⟩:=ry;exact PySem.EqMixed.ne_str_int (kQ I q (by simp))
  |str j=>obtain ⟨t',rfl⟩:=ry;exact ne_str (kQ I q (congrArg not mK))
  |_=>exact absurd (show false=true from hs) Bool.false_ne_true
 |byt i =>
  obtain ⟨t,rfl⟩:=rx
  cases y with
  |byt j=>obtain ⟨t',rfl⟩:=ry;exact PySem.W.ne_bytes (kQ I q (congrArg not mM))
  |_=>exact absurd (show false=true from hs) Bool.false_ne_true
 |_=>cases y<;>exact absurd (show false=true from hs) Bool.false_ne_true
theorem ZU:OpR X (compareOp .Lt) (zK fun i j=>.bl (decide (i<j))):=dB fun _ _ _ _ _ _ _ q=>lt_int q
theorem QX:OpR X (compareOp .LtE) (zK fun i j=>.bl (decide (i≤j))):=dB fun _ _ _ _ _ _ _ q=>le_int q
theorem m8:OpR X (compareOp .Gt) (zK fun i j=>.bl (decide (j<i))):=dB fun _ _ _ _ _ _ _ q=>gt_int q
theorem fF:OpR X (compareOp .GtE) (zK fun i j=>.bl (decide (j≤i))):=dB fun _ _ _ _ _ _ _ q=>ge_int q
theorem uL:OpR X (compareOp .In) (fun x y H Q=>∃i j,x=.str i∧y=.str j∧Q (.bl (!(Builtin.Str.occurrences j i 0 j.length 1).isEmpty)) H):=by
 intro pins s σ H x y v u Q I rx ry h
 obtain ⟨i,j,rfl,rfl,q⟩:=h
 obtain ⟨t,rfl⟩:=rx
 obtain ⟨t',rfl⟩:=ry
 exact in_str (kQ I q rfl)
theorem BS:OpR X (compareOp .Is) (fun x y H Q=>y=.non∧Q (.bl (decide (x=.non))) H):=by
 intro pins s σ H x y v u Q I rx ry h
 obtain ⟨rfl,q⟩:=h
 cases ry
 refine is_none_gen (kQ I q ?_)
 cases x<;>first
  | (cases rx;rfl)
  | (obtain ⟨t,rfl⟩:=rx;rfl)
theorem OpR.or {f:Value→Value→Sem Value} {r r':R2} (h:OpR X f r) (h':OpR X f r'):OpR X f (fun x y H Q=>r x y H Q∨r' x y H Q):=by
 intro pins s σ H x y v u Q I rx ry q
 rcases q with q|q
 ·exact h pins s σ H x y v u Q I rx ry q
 ·exact h' pins s σ H x y v u Q I rx ry q
theorem jP (b:Expr) {op:CmpOp} (h:op≠.In:=by decide) (h2:op≠.NotIn:=by decide):behindInMarks op b=false:=by
 have e1:(op == CmpOp.In)=false:=by cases op<;>first|rfl|exact absurd rfl h
 have e2:(op == CmpOp.NotIn)=false:=by cases op<;>first|rfl|exact absurd rfl h2
 cases b<;>simp [behindInMarks,e1,e2]
theorem QR {op:CmpOp} {r:R2} (ho:OpR X (compareOp op) r) (ha:PE X a ta) (hb:PE X b tb) (hm:behindInMarks op b=false):PE X (.Compare a [op] [b] pos) (dE r ta tb):=by
 intro pins s σ H Q I h
 exact wpAny_Compare1 (fL ha hb I h fun v u s2 x y H2 I2 rx ry q=>ho pins s2 σ H2 x y v u Q I2 rx ry q) hm
def mY (t:TE):TT:=fun σ H Q=>t σ H fun x H'=>∃k,x=.bl k∧Q k H'
theorem jQ {op:CmpOp} {r:R2} (ho:OpR X (compareOp op) r) (ha:PE X a ta) (hb:PE X b tb) (hm:behindInMarks op b=false):PT X (.Compare a [op] [b] pos) (mY (dE r ta tb)):=by
 intro pins s σ H Q I h
 refine wpAny_isTrue_Compare1 (jK (ha pins s σ H _ I h) fun v s1 ⟨x,H1,I1,r1,q1⟩=>jK (hb pins s1 σ H1 _ I1 q1) fun u s2 ⟨y,H2,I2,r2,q2⟩ =>
  jK (ho pins s2 σ H2 x y v u _ I2 r1 r2 q2) fun c s3 ⟨z,H3,I3,r3,k,e,q3⟩=>?_) hm
 subst e
 cases r3
 exact wpAny_truthy_bool ⟨H3,I3,q3⟩
def mQ (r r':R2) (ta tb tc:TE):TE:=fun σ H Q=>ta σ H fun x H1=>tb σ H1 fun y H2=>r x y H2 fun z H3=>∃k,z=.bl k∧
 (if k=true then tc σ H3 fun w' H4=>r' y w' H4 Q else Q (.bl false) H3)
theorem w8 {op op':CmpOp} {r r':R2} (ho:OpR X (compareOp op) r) (ho':OpR X (compareOp op') r') (ha:PE X a ta) (hb:PE X b tb) (hc:PE X c tc)
  (hm:lastMarks [op,op'] [b,c]=false:=by with_unfolding_all rfl):PE X (.Compare a [op,op'] [b,c] pos) (mQ r r' ta tb tc):=by
 intro pins s σ H Q I h
 refine Compare_chain (jK (ha pins s σ H _ I h) fun v s1 ⟨x,H1,I1,r1,q1⟩=>chain_link (jK (hb pins s1 σ H1 _ I1 q1) fun u s2 ⟨y,H2,I2,r2,q2⟩ =>
  jK (ho pins s2 σ H2 x y v u _ I2 r1 r2 q2) fun d s3 ⟨z,H3,I3,r3,k,e,q3⟩=>?_)) hm
 subst e
 cases r3
 refine wpAny_truthy_bool ?_
 cases k with
 |false=>exact ite_ff ⟨.bl false,H3,I3,rfl,q3⟩
 |true=>exact ite_tt (chain_last (jK (hc pins s3 σ H3 _ I3 q3) fun w' s4 ⟨z',H4,I4,r4,q4⟩=>ho' pins s4 σ H4 y z' u w' Q I4 r2 r4 q4))
theorem lC {op op':CmpOp} {r r':R2} (ho:OpR X (compareOp op) r) (ho':OpR X (compareOp op') r') (ha:PE X a ta) (hb:PE X b tb) (hc:PE X c tc)
  (hm:lastMarks [op,op'] [b,c]=false:=by with_unfolding_all rfl):PT X (.Compare a [op,op'] [b,c] pos) (mY (mQ r r' ta tb tc)):=by
 intro pins s σ H Q I h
 refine isTrue_chain (jK (ha pins s σ H _ I h) fun v s1 ⟨x,H1,I1,r1,q1⟩=>test_link (jK (hb pins s1 σ H1 _ I1 q1) fun u s2 ⟨y,H2,I2,r2,q2⟩ =>
  jK (ho pins s2 σ H2 x y v u _ I2 r1 r2 q2) fun d s3 ⟨z,H3,I3,r3,k,e,q3⟩=>?_)) hm
 subst e
 cases r3
 refine wpAny_truthy_bool ?_
 cases k with
 |false =>
  obtain ⟨k',e',q'⟩:=q3
  cases e'
  exact ite_ff ⟨H3,I3,q'⟩
 |true =>
  refine ite_tt (test_last (jK (hc pins s3 σ H3 _ I3 q3) fun w' s4 ⟨z',H4,I4,r4,q4⟩=>jK (ho' pins s4 σ H4 y z' u w' _ I4 r2 r4 q4) fun d' s5 ⟨z2,H5,I5,r5,k2,e2,q5⟩=>?_))
  subst e2
  cases r5
  exact wpAny_truthy_bool ⟨H5,I5,q5⟩
def nV (K:PySem.W.Frag) (x:V) (H:Hp) (k:Bool):Prop :=
 match x with
 |.non=>k=false
 |.bl b=>k=b
 |.int i=>k=(i != 0)
 |.str y=>y.length≤sizeLine∧k=((y.length:Int) != 0)
 |.byt y=>y.size≤sizeLine∧k=((y.size:Int) != 0)
 |.ref p=>(∃xs,SqL K H p xs∧k = !xs.isEmpty)∨(∃xs,SqT K H p xs∧k = !xs.isEmpty)∨∃kvs,H p=some (.dK kvs)∧k = !kvs.isEmpty
 |_=>False
theorem tL {κ:Type} {kvs:List (κ×V)} {vs:List (κ×Value)} (r:KV kvs vs):(!vs.isEmpty) = !kvs.isEmpty:=by
 cases r<;>rfl
theorem gP {xs:List V} {its:List Value} (r:Vals xs its):(!its.toArray.isEmpty) = !xs.isEmpty:=by
 cases r<;>simp
theorem z7:(sizeLine:Nat)<2 ^ 63:=by rw [sizeLine_eq];decide
theorem BD:DU X (fun x H Q=>∃k,nV X.K x H k∧Q k H):=by
 intro pins s σ H x v Q I rx h
 obtain ⟨k,e,q⟩:=h
 have hl:=z7
 have hs:sizeLine=16777216:=sizeLine_eq
 cases x with
 |non =>
  cases rx
  have e':k=false:=e
  subst e'
  exact truthy_none ⟨H,I,q⟩
 |bl b =>
  cases rx
  have e':k=b:=e
  subst e'
  exact wpAny_truthy_bool ⟨H,I,q⟩
 |int i =>
  obtain ⟨t,rfl⟩:=rx
  have e':k=(i != 0):=e
  subst e'
  exact PySem.P.truthy_int ⟨H,I,q⟩
 |str y =>
  obtain ⟨t,rfl⟩:=rx
  obtain ⟨hy,e'⟩:y.length≤sizeLine∧k=((y.length:Int) != 0):=e
  subst e'
  exact PySem.P.truthy_str (by omega) ⟨H,I.tok _,q⟩
 |byt y =>
  obtain ⟨t,rfl⟩:=rx
  obtain ⟨hy,e'⟩:y.size≤sizeLine∧k=((y.size:Int) != 0):=e
  subst e'
  exact PySem.W.truthy_bytes (by omega) ⟨H,I.tok _,q⟩
 |ref p =>
  cases rx
  have e':(∃xs,SqL X.K H p xs∧k = !xs.isEmpty)∨(∃xs,SqT X.K H p xs∧k = !xs.isEmpty)∨∃kvs,H p=some (.dK kvs)∧k = !kvs.isEmpty:=e
  rcases e' with ⟨xs,hx,e'⟩|⟨xs,hx,e'⟩|⟨kvs,hx,e'⟩
  ·subst e'
   obtain ⟨its,r,pl,hz⟩:=I.list hx
   have hlen:=r.length
   exact wpAny_truthy_list pl.isList (by simp only [List.size_toArray];omega) ⟨H,I.tok _,by rw [gP r];exact q⟩
  ·subst e'
   obtain ⟨its,r,pl,hz⟩:=I.tuple hx
   have hlen:=r.length
   exact truthy_tuple pl (by simp only [List.size_toArray];omega) ⟨H,I.tok _,by rw [gP r];exact q⟩
  ·subst e'
   obtain ⟨hz,hS,vs,r,m⟩:kvs.length≤sizeLine∧(p == sysModules)=false∧∃vs,KV kvs vs∧s.heap.DictOf (eT X.prog X.w) p vs:=I.hok p _ hx
   have hlen:kvs.length=vs.length:=Paired.length r
   exact wpAny_truthy_dict hS m (by omega) ⟨H,I.tok _,by rw [tL r];exact q⟩
 |_=>exact (show False from e).elim
theorem wY (ha:PE X a ta) (he:∀whole,isTrue a X.env whole=(do let v ← whole;standAt a.pos;holding [v] (truthy v))) :
  PT X a (fun σ H Q=>ta σ H fun x H'=>∃k,nV X.K x H' k∧Q k H'):=by
 intro pins s σ H Q I h
 exact isTrue_plain (jK (ha pins s σ H _ I h) fun v s1 ⟨x,H1,I1,r1,q1⟩=>BD pins s1 σ H1 x v Q I1 r1 q1) (he _)
theorem d0:OpR X (binaryOp .Add) (fun x y H Q=>∃i j,x=.str i∧y=.str j∧i.length+j.length≤sizeLine∧Q (.str (i++j)) H):=by
 intro pins s σ H x y v u Q I rx ry h
 obtain ⟨i,j,rfl,rfl,hz,q⟩:=h
 obtain ⟨t,rfl⟩:=rx
 obtain ⟨t',rfl⟩:=ry
 exact add_str (fun t' tk=>⟨.str (i++j),H,I.tok _,⟨_,rfl⟩,q⟩) hz
theorem QV {x:V} {us:List Value} (r:Vals [x] us):∃u,us=[u]∧RelV x u:=by
 cases r with
 |cons r1 r2=>cases r2;exact ⟨_,rfl,r1⟩
theorem fD {x y:V} {us:List Value} (r:Vals [x,y] us):∃u w',us=[u,w']∧RelV x u∧RelV y w':=by
 cases r with
 |cons r1 r2 =>
  cases r2 with
  |cons r3 r4=>cases r4;exact ⟨_,_,rfl,r1,r3⟩
theorem iN (hc:X.calm=true):CallR X (.builtin "max") (fun xs H Q=>∃i j,xs=[.int i,.int j]∧Q (.int (if j>i then j else i)) H):=by
 intro pins s σ H xs us Q I r h
 obtain ⟨i,j,rfl,q⟩:=h
 obtain ⟨u,w',rfl,⟨t,rfl⟩,⟨t',rfl⟩⟩:=fD r
 refine max_two_ints (I.ok.hd hc) fun h' tk k=>⟨_,H,I.kept k,?_,q⟩
 by_cases hj:j>i
 ·rw [if_pos hj,if_pos hj];exact ⟨_,rfl⟩
 ·rw [if_neg hj,if_neg hj];exact ⟨_,rfl⟩
theorem iM (hc:X.calm=true):CallR X (.builtin "min") (fun xs H Q=>∃i j,xs=[.int i,.int j]∧Q (.int (if j<i then j else i)) H):=by
 intro pins s σ H xs us Q I r h
 obtain ⟨i,j,rfl,q⟩:=h
 obtain ⟨u,w',rfl,⟨t,rfl⟩,⟨t',rfl⟩⟩:=fD r
 refine min_two_ints (I.ok.hd hc) fun h' tk k=>⟨_,H,I.kept k,?_,q⟩
 by_cases hj:j<i
 ·rw [if_pos hj,if_pos hj];exact ⟨_,rfl⟩
 ·rw [if_neg hj,if_neg hj];exact ⟨_,rfl⟩
end
end L2
namespace L2
open PySem PySem.Spec PyProof.Rows
structure ObjM (h:Heap) (x dx C:Addr) (mA:Str→Option Value):Prop where
 obj:h.get? x=some (PySem.W.instObj C dx)
 ns:h.Ns1 dx mA
 ne:dx≠x
theorem uS {h:Heap} {dx:Addr} {mA:Str→Option Value} (n:h.Ns1 dx mA):∃od,h.get? dx=some od∧∀name,PySem.W.lookIn name od=some (mA name):=by
 obtain ⟨o,es,ep,ho,hd,hk,_,hm⟩:=n
 refine ⟨o,ho,fun name=>?_⟩
 have e:=hm name
 unfold nsFind findBy at e
 rw [← Array.find?_toList] at e
 unfold PySem.W.lookIn
 rw [hd]
 dsimp only
 split
 ·rename_i y q
  rw [q] at e
  exact congrArg some e
 ·rename_i q
  rw [q] at e
  have a:es.toList.any (·.refKey)=false:=by
   rw [List.any_eq_false]
   intro y hy
   obtain ⟨z,t,hkey⟩:=hk y (Array.mem_toList_iff.mp hy)
   simp [DictEntry.refKey,hkey]
  have a':¬es.toList.any (·.refKey)=true:=by rw [a];exact Bool.false_ne_true
  rw [if_neg a']
  exact congrArg some e
theorem ObjM.look {h:Heap} {x dx C:Addr} {mA:Str→Option Value} (I:ObjM h x dx C mA):∃od,PySem.W.InstAt h x (PySem.W.instObj C dx) C (some od)∧∀name,PySem.W.lookIn name od=some (mA name) :=
 let ⟨od,ho,hl⟩:=uS I.ns
 ⟨od,⟨I.obj,rfl,rfl,ho⟩,hl⟩
section
variable {prog:Program} {w:World} {A:Around} {E:Value→Shared→Prop} {s:Shared} {K:PySem.W.Frag} {x dx C f:Addr} {mA:Str→Option Value} {name:Str} {v:Value}
theorem AU {expr:Bool} {Q:Value→Shared→Prop} (X:K.In s.heap) (I:ObjM s.heap x dx C mA) (hg:PySem.W.plainGet K C name=true) (hh:PySem.W.hasDictIn K C=true)
  (ha:PySem.W.findIn K (.ref C) name=some none) (hv:mA name=some v) (hv':PySem.W.handedIn v=true) (h:Q v {s with toks:=s.toks+1}) :
  wpAny (model prog w) A (getAttr (.ref x) name expr) Q E s:=by
 obtain ⟨od,J,hl⟩:=I.look
 exact PySem.W.get_value X J (PySem.W.plainGet_of hg).1 (PySem.W.findObj_own hh ha rfl (by rw [hl,hv])) hv' h
theorem xL {pl:Sem Bool} {Q:Value×List Value→Shared→Prop} (X:K.In s.heap) (I:ObjM s.heap x dx C mA) (hg:PySem.W.plainGet K C name=true)
  (hf:PySem.W.findIn K (.ref C) name=some (some (.ref f))) (ht:PySem.W.isFn K (.ref f)=true) (hv:mA name=none) (h:Q (.ref f,[.ref x]) s) :
  wpAny (model prog w) A (getMethod (.ref x) name pl) Q E s:=by
 obtain ⟨od,J,hl⟩:=I.look
 exact PySem.W.method_fn X J (PySem.W.plainGet_of hg).1 (PySem.W.plainGet_of hg).2 hf (beq_iff_eq.mp ht) (by show (PySem.W.lookIn name od).map (·.isSome)=some false;rw [hl,hv];rfl) h
theorem x8 {ns:List Str} {Q:Unit→Shared→Prop} (X:K.In s.heap) (I:ObjM s.heap x dx C mA)
  (hs:PySem.W.findIn K (.ref C) "__setattr__"=some (some (.builtin "object.__setattr__"))) (hp:PySem.W.plainOver K C=true) (ht:PySem.W.takerIn K C name=some none) (hh:PySem.W.hasDictIn K C=true)
  (hw:PySem.Within mA ns) (hsz:ns.length≤sizeLine)
  (h:∀h',ObjM h' x dx C (fun y=>if y=name then some v else mA y)→Heap.SameBut dx s.heap h'→Q () {s with heap:=h',toks:=s.toks+2}) :
  wpAny (model prog w) A (setAttr (.ref x) name v) Q E s:=by
 obtain ⟨od,J,hl⟩:=I.look
 refine PySem.W.set_plain X J hs (PySem.W.osa_open (s:={s with toks:=s.toks+1}) (r:=none) X J hp ht fun b=>?_)
 obtain ⟨cd,hc,hd'⟩:=PySem.W.any_some hh
 have hx:s.heap.get? x=some ⟨.ref C,some dx,.plain,#[]⟩:=I.obj
 refine wpAny_bind (wpAny_pure (wpAny_bind (wpAny_bind (wpAny_loadPart hx (wpAny_bind (PySem.W.Looks.here (s:={s with toks:=s.toks+1}) (PySem.W.looks_clsIn X hc) ?_))))))
 rw [hd']
 refine wpAny_pure (a:=some dx) (wpAny_bind (wpAny_pure (wpAny_bind ?_)))
 refine wpAny_nsSet1 (s:={s with toks:=s.toks+1}) I.ns fun h' hn2 hs2=>?_
 obtain ⟨oD,esD,epD,hoD,hdD,hcD⟩:=hn2.count (PySem.Within.cons name v hw)
 refine wpAny_bind (wpAny_lookBehind hoD (by rw [hdD];exact pastItsLine_dict (Nat.le_trans hcD (by rw [List.length_cons];omega))) ?_)
 exact wpAny_pure (h _ ⟨(hs2.2 _ (Ne.symm I.ne)).trans I.obj,hn2,I.ne⟩ hs2)
theorem xG {R:Result→Shared→Prop} {vs:List Value} {kw:List (Str×Value)} (X:K.In s.heap) (hm:PySem.W.makesIn K C=true)
  (hi:PySem.W.findIn K (.ref C) "__init__"=some (some (.ref f))) (hf:PySem.W.typeIn K (.ref f)=some (.type "function"))
  (h:codeAny (model prog w) (A.under (.builtin "type.__call__" ⟨.ref C::vs,kw⟩)) (.call (.ref f) ⟨.ref (s.heap.objs.size+1)::vs,kw⟩) (PySem.W.InitBack (s.heap.objs.size+1) R)
   {s with heap:=(s.heap.push PySem.W.emptyDict).push (PySem.W.instObj C s.heap.objs.size)}) :
  codeAny (model prog w) A (.call (.ref C) ⟨vs,kw⟩) R s:=by
 obtain ⟨hh,g,d,t,os⟩:=s
 exact PySem.W.make_core (PySem.W.makes_of X hm) (PySem.W.looks_findIn X hi) (fun self=>PySem.W.bind_fn X self hf) (.inl rfl) h
end
def jL (f:Str) (v:V):List (Str×V)→List (Str×V)
 |[]=>[(f,v)]
 | (g,x)::r=>if g=f then (g,v)::r else (g,x)::jL f v r
theorem qI (f g:Str) (v:V):∀fs:List (Str×V),(jL f v fs).lookup g=if g=f then some v else fs.lookup g
 |[]=>by
  show List.lookup g [(f,v)]=_
  by_cases h:g=f
  ·have hb:(g == f)=true:=beq_iff_eq.mpr h
   simp only [List.lookup,hb,if_pos h]
  ·have hb:(g == f)=false:=beq_eq_false_iff_ne.mpr h
   simp only [List.lookup,hb,if_neg h]
 | (k,x)::r=>by
  have ih:=qI f g v r
  rw [show jL f v ((k,x)::r)=(if k=f then (k,v)::r else (k,x)::jL f v r) from rfl]
  by_cases hk:k=f
  ·rw [if_pos hk]
   by_cases h:g=k
   ·have hb:(g == k)=true:=beq_iff_eq.mpr h
    simp only [List.lookup,hb,if_pos (h.trans hk)]
   ·have hb:(g == k)=false:=beq_eq_false_iff_ne.mpr h
    simp only [List.lookup,hb,if_neg (fun e:g=f=>h (e.trans hk.symm))]
  ·rw [if_neg hk]
   by_cases h:g=k
   ·have hb:(g == k)=true:=beq_iff_eq.mpr h
    simp only [List.lookup,hb,if_neg (fun e:g=f=>hk (h.symm.trans e))]
   ·have hb:(g == k)=false:=beq_eq_false_iff_ne.mpr h
    simp only [List.lookup,hb]
    exact ih
theorem eE (f:Str) (v:V):∀fs:List (Str×V),f∈(jL f v fs).map (·.1)∧∀g,g∈fs.map (·.1)→g∈(jL f v fs).map (·.1)
 |[]=>⟨by simp [jL],fun g h=>by simp at h⟩
 | (k,x)::r=>by
  obtain ⟨i1,i2⟩:=eE f v r
  rw [show jL f v ((k,x)::r)=(if k=f then (k,v)::r else (k,x)::jL f v r) from rfl]
  by_cases hk:k=f
  ·rw [if_pos hk]
   subst hk
   exact ⟨by simp,fun g h=>by simpa using h⟩
  ·rw [if_neg hk]
   refine ⟨?_,fun g h=>?_⟩
   ·rw [List.map_cons]
    exact List.mem_cons_of_mem _ i1
   ·rw [List.map_cons] at h ⊢
    rcases List.mem_cons.mp h with e|e
    ·exact List.mem_cons.mpr (.inl e)
    ·exact List.mem_cons_of_mem _ (i2 g e)
theorem yL (f:Str) (v:V):∀fs:List (Str×V),(jL f v fs).length≤fs.length+1
 |[]=>by simp [jL]
 | (k,x)::r=>by
  have ih:=yL f v r
  rw [show jL f v ((k,x)::r)=(if k=f then (k,v)::r else (k,x)::jL f v r) from rfl]
  by_cases hk:k=f
  ·rw [if_pos hk,List.length_cons,List.length_cons];omega
  ·rw [if_neg hk,List.length_cons,List.length_cons];omega
theorem RelO.some_of {v:V} {o:Option Value} (r:RelO (some v) o):∃u,o=some u∧RelV v u:=by
 cases o with
 |none=>exact (show False from r).elim
 |some u=>exact ⟨u,rfl,r⟩
theorem RelO.none_of {o:Option Value} (r:RelO none o):o=none:=by
 cases o with
 |none=>rfl
 |some u=>exact (show False from r).elim
theorem uY {v:V} {u:Value} (r:RelV v u):PySem.W.handedIn u=true:=by
 cases v with
 |non=>cases (show u=Value.none from r);rfl
 |bl b=>cases (show u=Value.bool b from r);rfl
 |int i=>obtain ⟨t,e⟩:=(show ∃t,u=Value.int i t from r);cases e;rfl
 |str x=>obtain ⟨t,e⟩:=(show ∃t,u=Value.str x t from r);cases e;rfl
 |byt b=>obtain ⟨t,e⟩:=(show ∃t,u=Value.bytes b t from r);cases e;rfl
 |flt b=>obtain ⟨t,e⟩:=(show ∃t,u=Value.float b t from r);cases e;rfl
 |ref a=>cases (show u=Value.ref a from r);rfl
 |ty n=>cases (show u=Value.type n from r);rfl
section
variable {P:Program} {w:World} {H H':Hp} {h h':Heap} {a C dx:Addr} {fs fs':List (Str×V)}
theorem cF (hok:HOk P w H h) (e:H a=some (.ins C dx fs)):∃mA,ObjM h a dx C mA∧(∀f,RelO (fs.lookup f) (mA f))∧PySem.Within mA (fs.map (·.1))∧fs.length≤1000∧H dx=some (.own a):=by
 obtain ⟨d,z,ne,ob,mA,n,r,q⟩:=(show ObjOk P w H h a (.ins C dx fs) from hok a _ e)
 exact ⟨mA,⟨ob,n,ne⟩,r,q,z,d⟩
end
structure Cls (K:PySem.W.Frag) (C:Addr):Prop where
 pg:PySem.W.plainGet K C Str.empty=true
 hd:PySem.W.hasDictIn K C=true
 po:PySem.W.plainOver K C=true
 sa:PySem.W.findIn K (.ref C) "__setattr__"=some (some (.builtin "object.__setattr__"))
theorem Cls.get {K:PySem.W.Frag} {C:Addr} (c:Cls K C) (f:Str):PySem.W.plainGet K C f=true:=c.pg
def NoAttr (K:PySem.W.Frag) (C:Addr) (f:Str):Prop:=PySem.W.findIn K (.ref C) f=some none
theorem NoAttr.taker {K:PySem.W.Frag} {C:Addr} {f:Str} (n:NoAttr K C f):PySem.W.takerIn K C f=some none:=by
 unfold PySem.W.takerIn
 rw [show PySem.W.findIn K (.ref C) f=some none from n]
 rfl
structure Meth (K:PySem.W.Frag) (C:Addr) (m:Str) (f:Addr):Prop where
 at_:PySem.W.findIn K (.ref C) m=some (some (.ref f))
 fn:PySem.W.isFn K (.ref f)=true
 kp:PySem.W.keepIn K (.ref f)=true
section
variable {X:Cx} {pins:List (Addr×Obj)} {σ:St} {H:Hp} {s:Shared} {a C dx:Addr} {fs:List (Str×V)} {f:Str} {v:V} {A:Around} {E:Value→Shared→Prop}
theorem tR {b:Bool} {Q:Value→Shared→Prop} (I:Inv X pins σ H s) (e:H a=some (.ins C dx fs)) (c:Cls X.K C) (n:NoAttr X.K C f) (l:fs.lookup f=some v)
  (h:∀u s',Inv X pins σ H s'→RelV v u→Q u s'):wpAny (model X.prog X.w) A (getAttr (.ref a) f b) Q E s:=by
 obtain ⟨mA,O,r,_,_,_⟩:=cF I.hok e
 obtain ⟨u,hu,ru⟩:=RelO.some_of (v:=v) (o:=mA f) (by rw [← l];exact r f)
 exact AU I.kIn O (c.get f) c.hd n hu (uY ru) (h u _ (I.tok _) ru)
theorem tQ {m:Str} {g:Addr} {pl:Sem Bool} {Q:Value×List Value→Shared→Prop} (I:Inv X pins σ H s) (e:H a=some (.ins C dx fs)) (c:Cls X.K C) (k:Meth X.K C m g) (l:fs.lookup m=none)
  (h:Q (.ref g,[.ref a]) s):wpAny (model X.prog X.w) A (getMethod (.ref a) m pl) Q E s:=by
 obtain ⟨mA,O,r,_,_,_⟩:=cF I.hok e
 have hn:mA m=none:=RelO.none_of (by rw [← l];exact r m)
 exact xL I.kIn O (c.get m) k.at_ k.fn hn h
theorem sU {y:V} {u:Value} {Q:Unit→Shared→Prop} (I:Inv X pins σ H s) (e:H a=some (.ins C dx fs)) (c:Cls X.K C) (n:NoAttr X.K C f) (hl:fs.length<1000) (ry:RelV y u)
  (h:∀s',Inv X pins σ (upd H a (.ins C dx (jL f y fs))) s'→Q () s'):wpAny (model X.prog X.w) A (setAttr (.ref a) f u) Q E s:=by
 obtain ⟨mA,O,r,wi,_,ho⟩:=cF I.hok e
 have hz:(fs.map (·.1)).length≤sizeLine:=by rw [List.length_map,sizeLine_eq];omega
 refine x8 I.kIn O c.sa c.po n.taker c.hd wi hz fun h' O' sb=>h _ ?_
 have hd:∃o,h'.get? dx=some o:=let ⟨o,_,_,e',_⟩:=O'.ns;⟨o,e'⟩
 refine I.write (x:=a) (e:=dx) (by rw [e];exact True.intro) (.inr ho) (fun b q hb z=>(sb.2 b hb).trans z) hd ?_
 refine ⟨by rw [jY O.ne];exact ho,?_,O.ne,O'.obj,_,O'.ns,fun g=>?_,fun g hg=>?_⟩
 ·have:=yL f y fs;omega
 ·show RelO ((jL f y fs).lookup g) (if g=f then some u else mA g)
  rw [qI]
  by_cases q:g=f
  ·rw [if_pos q,if_pos q];exact ry
  ·rw [if_neg q,if_neg q];exact r g
 ·by_cases q:g=f
  ·rw [q];exact (eE f y fs).1
  ·refine (eE f y fs).2 g (wi g fun z=>hg ?_)
   show (if g=f then some u else mA g)=none
   rw [if_neg q];exact z
theorem Inv.made (I:Inv X pins σ H s):Inv X pins σ (upd (upd H s.heap.objs.size (.own (s.heap.objs.size+1))) (s.heap.objs.size+1) (.ins C s.heap.objs.size []))
  {s with heap:=(s.heap.push PySem.W.emptyDict).push (PySem.W.instObj C s.heap.objs.size)}:=by
 have e1:(s.heap.push PySem.W.emptyDict).get? s.heap.objs.size=some PySem.W.emptyDict:=Heap.get?_push_size s.heap rfl
 have e2:((s.heap.push PySem.W.emptyDict).push (PySem.W.instObj C s.heap.objs.size)).get? (s.heap.objs.size+1)=some (PySem.W.instObj C s.heap.objs.size):=by
  have:=Heap.get?_push_size (s.heap.push PySem.W.emptyDict) (o:=PySem.W.instObj C s.heap.objs.size) rfl
  rwa [Heap.size_push] at this
 have e3:(s.heap.push PySem.W.emptyDict).Ns s.heap.objs.size (fun _=>none):=⟨PySem.W.emptyDict,#[],_,e1,rfl,(fun e he=>absurd he (by simp)),fun _=>rfl⟩
 have I1:=I.laid (a:=s.heap.objs.size) (o:=.own (s.heap.objs.size+1)) (h':=s.heap.push PySem.W.emptyDict) (t':=s.toks) (fun b u q=>Heap.get?_push_of_some _ q) (Nat.le_refl _) ⟨_,e1⟩
 refine I1.laid (a:=s.heap.objs.size+1) (o:=.ins C s.heap.objs.size []) (t':=s.toks) (fun b u q=>Heap.get?_push_of_some _ q) (Nat.le_of_eq (Heap.size_push _ _)) ?_
 have ne:s.heap.objs.size≠s.heap.objs.size+1:=Nat.ne_of_lt (Nat.lt_succ_self _)
 refine ⟨by rw [jY ne,jD],Nat.zero_le _,ne,e2,fun _=>none,(Heap.Ns1.of_empty e3).at fun o q=>Heap.get?_push_of_some _ q,fun _=>True.intro,fun y hy=>absurd rfl hy⟩
theorem AY {prog:Program} {w:World} {env:Env} {e:Expr} {f:Str} {pos:Pos} {s:Shared} {Q:Value→Shared→Prop} (hb:attributeBase e f env (eval e env)=eval e env)
  (h:wpAny (model prog w) A (eval e env) (fun o s₁=>wpAny (model prog w) A (getAttr o f true) Q E s₁) E s):wpAny (model prog w) A (eval (.Attribute e f pos) env) Q E s :=
 Attribute_any_ h (by rw [arm_eval_Attribute,hb])
end
def nK (K:PySem.W.Frag) (ta:TE) (f:Str):TE:=fun σ H Q=>ta σ H fun x H1=>∃a C dx fs v,x=.ref a∧H1 a=some (.ins C dx fs)∧Cls K C∧NoAttr K C f∧fs.lookup f=some v∧Q v H1
def DC (K:PySem.W.Frag) (ta tv:TE) (f:Str):TS:=fun D σ H=>tv σ H fun y H1=>ta σ H1 fun x H2=>∃a C dx fs,x=.ref a∧H2 a=some (.ins C dx fs)∧Cls K C∧NoAttr K C f∧fs.length<1000∧
 D.nx σ (upd H2 a (.ins C dx (jL f y fs)))
section
variable {X:Cx} {o e value:Expr} {f:Str} {pos pos' tpos:Pos} {ta tv:TE}
theorem kP (he:PE X e ta) (hb:attributeBase e f X.env (eval e X.env)=eval e X.env):PE X (.Attribute e f pos) (nK X.K ta f):=by
 intro pins s σ H Q I h
 refine AY hb (jK (he pins s σ H _ I h) fun u s1 ⟨x,H1,I1,rx,a,C,dx,fs,v,ex,ea,c,n,l,q⟩=>?_)
 subst ex
 obtain rfl:u=Value.ref a:=rx
 exact tR I1 ea c n l fun u' s2 I2 ru=>⟨v,H1,I2,ru,q⟩
theorem vI (ha:PE X o ta) (hv:PE X value tv) (hs:swapsWith value (some (.Attribute o f pos')) pos.line X.env=pure false):PS X (.Assign [.Attribute o f pos'] value pos) (DC X.K ta tv f):=by
 intro pins s σ H D I h
 refine plainObj_wpAny_Assign_Attribute (jK (hv pins s σ H _ I h) fun u s1 ⟨y,H1,I1,ry,q⟩=>jK (ha pins s1 σ H1 _ I1 q) fun ov s2 ⟨x,H2,I2,rx,a,C,dx,fs,ex,ea,c,n,l,q2⟩=>?_) hs
 subst ex
 obtain rfl:ov=Value.ref a:=rx
 exact sU I2 ea c n l ry fun s3 I3=>⟨σ,_,I3,q2⟩
end
section
variable {X:Cx} {pins:List (Addr×Obj)} {σ:St} {H:Hp} {s:Shared} {A:Around} {E:Value→Shared→Prop} {Q:Value→Shared→Prop} {c:Value} {b:Bool}
inductive TyOf (K:PySem.W.Frag) (H:Hp):V→Value→Prop where
 |non:TyOf K H .non (.type "NoneType")
 |bl (x:Bool):TyOf K H (.bl x) (.type "bool")
 |int (i:Int):TyOf K H (.int i) (.type "int")
 |str (x:Str):TyOf K H (.str x) (.type "str")
 |flt (x:UInt64):TyOf K H (.flt x) (.type "float")
 |lst {a:Addr} {xs:List V} (e:H a=some (.lst xs)):TyOf K H (.ref a) (.type "list")
 |frz {a:Addr} {o:Obj} {xs:List V} (e:H a=some (.frz o (.lst xs))):TyOf K H (.ref a) (.type "list")
 |tup {a:Addr} {xs:List V} (e:H a=some (.tup xs)):TyOf K H (.ref a) (.type "tuple")
 |dK {a:Addr} {kvs:List (kT×V)} (e:H a=some (.dK kvs)):TyOf K H (.ref a) (.type "dict")
 |dT {a:Addr} {kvs:List (List kT×V)} (e:H a=some (.dT kvs)):TyOf K H (.ref a) (.type "dict")
 |ins {a C dx:Addr} {fs:List (Str×V)} (e:H a=some (.ins C dx fs)) (cl:Cls K C) (ha:PySem.W.findIn K (.ref C) "__class__"=some (some (.builtin "object.__class__")))
   (hn:PySem.W.specialIn K (.builtin "object.__class__") "__get__"=some (some (.builtin "getset_descriptor.__get__"))) (htk:PySem.W.takesIn K (.builtin "object.__class__")=some true)
   (hm:PySem.W.mroIn K C (.type "object")=some true):TyOf K H (.ref a) (.ref C)
theorem uU {x:V} {u t:Value} (I:Inv X pins σ H s) (rx:RelV x u) (ty:TyOf X.K H x t) (e:PySem.W.kitOne X.K t c=some b) (h:∀tk,Q (.bool b) {s with toks:=tk}) :
  wpAny (model X.prog X.w) A (call (.builtin "isinstance") [u,c]) Q E s:=by
 cases ty with
 |non=>cases (show u=Value.none from rx);exact PySem.W.kia_one PySem.W.kitx_none I.kIn True.intro e (fun z=>nomatch z) h
 |bl y=>cases (show u=Value.bool y from rx);exact PySem.W.kia_one PySem.W.kitx_bool I.kIn True.intro e (fun z=>nomatch z) h
 |int i=>obtain ⟨t,q⟩:=(show ∃t,u=Value.int i t from rx);cases q;exact PySem.W.kia_one PySem.W.kitx_int I.kIn True.intro e (fun z=>nomatch z) h
 |str y=>obtain ⟨t,q⟩:=(show ∃t,u=Value.str y t from rx);cases q;exact PySem.W.kia_one PySem.W.kitx_str I.kIn True.intro e (fun z=>nomatch z) h
 |flt y=>obtain ⟨t,q⟩:=(show ∃t,u=Value.float y t from rx);cases q;exact PySem.W.kia_one PySem.W.kitx_float I.kIn True.intro e (fun z=>nomatch z) h
 |@lst a xs ea =>
  cases (show u=Value.ref a from rx)
  obtain ⟨_,_,n,_,h1⟩:=(show ObjOk X.prog X.w H s.heap a (.lst xs) from I.hok a _ ea)
  exact PySem.W.kia_one PySem.W.kitx_list I.kIn ⟨_,h1,rfl⟩ e (fun z=>nomatch z) h
 |@frz a ob xs ea =>
  cases (show u=Value.ref a from rx)
  obtain ⟨_,_,_,n,_,h1⟩:=(show ObjOk X.prog X.w H s.heap a (.frz ob (.lst xs)) from I.hok a _ ea)
  exact PySem.W.kia_one PySem.W.kitx_list I.kIn ⟨_,h1,rfl⟩ e (fun z=>nomatch z) h
 |@tup a xs ea =>
  cases (show u=Value.ref a from rx)
  obtain ⟨_,_,_,p⟩:=(show ObjOk X.prog X.w H s.heap a (.tup xs) from I.hok a _ ea)
  obtain ⟨o,h1,h2,_⟩:=p
  exact PySem.W.kia_one PySem.W.kitx_tuple I.kIn ⟨o,h1,h2⟩ e (fun z=>nomatch z) h
 |@dK a kvs ea =>
  cases (show u=Value.ref a from rx)
  obtain ⟨_,_,vs,_,p⟩:=(show ObjOk X.prog X.w H s.heap a (.dK kvs) from I.hok a _ ea)
  obtain ⟨o,es,ep,h1,h2,_⟩:=p
  exact PySem.W.kia_one PySem.W.kitx_dict I.kIn ⟨o,h1,h2.1⟩ e (fun z=>nomatch z) h
 |@dT a kvs ea =>
  cases (show u=Value.ref a from rx)
  obtain ⟨_,_,xs,_,o,es,ep,h1,h2,_⟩:=(show ObjOk X.prog X.w H s.heap a (.dT kvs) from I.hok a _ ea)
  exact PySem.W.kia_one PySem.W.kitx_dict I.kIn ⟨o,h1,h2.1⟩ e (fun z=>nomatch z) h
 |@ins a C dx fs ea cl ha hn htk hm =>
  cases (show u=Value.ref a from rx)
  obtain ⟨mA,O,_⟩:=cF I.hok ea
  obtain ⟨od,J,_⟩:=O.look
  exact PySem.W.kia_one (PySem.W.kitx_own (cl.get _) cl.hd ha hn htk hm) I.kIn J e (fun z=>nomatch z) h
end
end L2
namespace L2
open PySem PySem.Spec PyProof.Rows
structure Room (k:Nat) (A:Around):Prop where
 hd:A.handled=none
 dp:A.depth+3*k+5<recursionLimit
 un:A.units+16*k+200<cLine
theorem Room.mono {j k:Nat} {A:Around} (r:Room k A) (h:j≤k):Room j A:=⟨r.hd,by have:=r.dp;omega,by have:=r.un;omega⟩
theorem Room.deeper {k:Nat} {A:Around} (r:Room (k+1) A) (env:Env):Room k (A.deeper env) :=
 ⟨r.hd,by have:=r.dp;show A.depth+1+3*k+5<_;omega,by have:=r.un;show A.units+3+16*k+200<_;omega⟩
theorem tJ {A:Around} {C:Addr} {us:List Value} {kw:List (Str×Value)}:(A.under (.builtin "type.__call__" ⟨.ref C::us,kw⟩)).depth=A.depth+1:=by
 first|rfl|simp [Around.under,Code.weight,Code.isCreation,Code.isGuard,Code.isCaller,Code.frames,Code.isFrame,guardIds]
theorem tI {A:Around} {C:Addr} {us:List Value} {kw:List (Str×Value)}:(A.under (.builtin "type.__call__" ⟨.ref C::us,kw⟩)).units=A.units+1:=by
 first|rfl|simp [Around.under,Code.cUnits,Code.frames,Code.isFrame]
theorem Room.make {k:Nat} {A:Around} (r:Room (k+1) A) (C:Addr) (us:List Value) (kw:List (Str×Value)):Room k (A.under (.builtin "type.__call__" ⟨.ref C::us,kw⟩)) :=
 ⟨r.hd,by have:=r.dp;rw [tJ];omega,by have:=r.un;rw [tI];omega⟩
theorem Room.depth {k:Nat} {A:Around} (r:Room k A):A.depth<recursionLimit:=by have:=r.dp;omega
theorem Room.units {k:Nat} {A:Around} (r:Room k A):A.units+64<cLine:=by have:=r.un;omega
theorem Room.units0 {k:Nat} {A:Around} (r:Room k A):A.units<cLine:=by have:=r.un;omega
def nJ:TA:=fun _ H Q=>Q [] H
def B6 (ta:TE) (tr:TA):TA:=fun σ H Q=>ta σ H fun x H1=>tr σ H1 fun xs H2=>Q (x::xs) H2
section
variable {X:Cx} {e:Expr} {es:List Expr} {te:TE} {t:TA} {pos:Pos}
theorem jC:PA X [] nJ:=fun _ _ _ _ H Q I h=>Calls.spliced_nil ⟨[],H,I,.nil,h⟩
theorem jA (ha:PE X e te) (hr:PA X es t) (hs:starEach (e::es) X.env=(false,eval e X.env)::starEach es X.env:=by rfl):PA X (e::es) (B6 te t):=by
 intro pos pins s σ H Q I h
 rw [hs]
 show wpAny _ _ (spliced ((false,eval e X.env)::backTo pos (starEach es X.env))) _ _ s
 refine Calls.spliced_cons (jK (ha pins s σ H _ I h) fun u s1 ⟨x,H1,I1,r1,q1⟩=>?_)
 exact jK (hr pos pins s1 σ H1 _ I1 q1) fun us s2 ⟨xs,H2,I2,r2,q2⟩=>⟨x::xs,H2,I2,.cons r1 r2,q2⟩
def C0 (t:TA):TE:=fun σ H Q=>t σ H fun xs H1=>xs.length≤sizeLine∧∀p,H1 p=none→Q (.ref p) (upd H1 p (.tup xs))
def C6 (t:TA):TE:=fun σ H Q=>t σ H fun xs H1=>xs.length≤sizeLine∧∀p,H1 p=none→Q (.ref p) (upd H1 p (.lst xs))
theorem yQ {x1} (h:PA X es t):PE X (.Tuple es x1 pos) (C0 t):=by
 intro pins s σ H Q I hq
 refine wpAny_Tuple_spliced (jK (h pos pins s σ H _ I hq) fun us s1 ⟨xs,H1,I1,r,z,q⟩=>⟨by rw [← r.length];exact z,?_⟩)
 have hf:H1 s1.heap.objs.size=none:=I1.hok.fresh (Nat.le_refl _)
 refine ⟨.ref s1.heap.objs.size,upd H1 s1.heap.objs.size (.tup xs),I1.laid (t':=s1.toks) (fun b u e=>Heap.get?_push_of_some _ e) (Nat.le_refl _) ?_,rfl,q _ hf⟩
 exact ⟨z,us,r,⟨_,Heap.get?_push_size _ rfl,rfl,_,rfl⟩⟩
theorem kZ (h:PA X es t):PE X (.List es pos) (C6 t):=by
 intro pins s σ H Q I hq
 refine wpAny_List_spliced (jK (h pos pins s σ H _ I hq) fun us s1 ⟨xs,H1,I1,r,z,q⟩=>⟨by rw [← r.length];exact z,?_⟩)
 have hf:H1 s1.heap.objs.size=none:=I1.hok.fresh (Nat.le_refl _)
 refine ⟨.ref s1.heap.objs.size,upd H1 s1.heap.objs.size (.lst xs),I1.laid (t':=s1.toks) (fun b u e=>Heap.get?_push_of_some _ e) (Nat.le_refl _) ?_,rfl,q _ hf⟩
 exact ⟨z,us,0,r,Heap.get?_push_size _ rfl⟩
end
abbrev Sp:=List V→Hp→VK→XK→Prop
abbrev v8:=List Env→Hp→Shared→XK→Value→Shared→Prop
structure Env0 (P:Program) (w:World) (K:PySem.W.Frag) (mg:Str→Option Value) (base:Heap) (A:Around) (outer:List Env) (s:Shared) (H:Hp):Prop where
 frames:A.frames=some outer
 mod:Mod K mg base
 bs:∀b o,base.get? b=some o→s.heap.get? b=some o∧H b=none
 bsz:base.objs.size≤s.heap.objs.size
 funs:s.heap.FunFrames base outer
 frf:∀b∈v7 outer,H b=none
 hok:HOk P w H s.heap
 bare:AllBare s.gens
def CE (outer:List Env) (P:Program) (w:World) (H:Hp) (s:Shared) (Q:VK) (u:Value) (s':Shared):Prop :=
 ∃v H',s'.os=s.os∧AllBare s'.gens∧Un (v7 outer) [] H H' s.heap s'.heap∧HOk P w H' s'.heap∧RelV v u∧Q v H'
def CR (CX:v8) (outer:List Env) (P:Program) (w:World) (H:Hp) (s:Shared) (Q:VK) (E:XK) (r:Result) (s':Shared):Prop :=
 match r with
 |.ok (.ret u)=>CE outer P w H s Q u s'
 |.ok _=>False
 |.error e=>CX outer H s E e s'
structure FnOk (P:Program) (w:World) (K:PySem.W.Frag) (mg:Str→Option Value) (base:Heap) (CX:v8) (k:Nat) (f:Addr) (fd:FuncData) (ps:List Str) (sp:Sp):Prop where
 len:∀vs H Q E,sp vs H Q E→vs.length=ps.length
 run:∀(A:Around) (outer:List Env) (s:Shared) (H:Hp) (args:Args) (us:List Value) (vs:List V) (Q:VK) (E:XK),Room k A→Env0 P w K mg base A outer s H→BindsTo s fd args (ps.zip us)→Vals vs us→sp vs H Q E→
  codeAny (model P w) A (.call (.ref f) args) (CR CX outer P w H s Q E) s
theorem FnOk.mono {P:Program} {w:World} {K:PySem.W.Frag} {mg:Str→Option Value} {base:Heap} {CX:v8} {j k:Nat} {f:Addr} {fd:FuncData} {ps:List Str} {sp:Sp} (F:FnOk P w K mg base CX j f fd ps sp) (h:j≤k) :
  FnOk P w K mg base CX k f fd ps sp:=⟨F.len,fun A outer s H args us vs Q E hr=>F.run A outer s H args us vs Q E (hr.mono h)⟩
theorem Env0.make {P:Program} {w:World} {K:PySem.W.Frag} {mg:Str→Option Value} {base:Heap} {A:Around} {outer:List Env} {s:Shared} {H:Hp} (e:Env0 P w K mg base A outer s H) (C:Addr) (us:List Value) (kw:List (Str×Value)) :
  Env0 P w K mg base (A.under (.builtin "type.__call__" ⟨.ref C::us,kw⟩)) outer s H:=⟨by first|exact e.frames|(simpa [Around.under,Code.envs,Code.isFrame,pushEnvs] using e.frames),e.mod,e.bs,e.bsz,e.funs,e.frf,e.hok,e.bare⟩
section
variable {X:Cx} {pins:List (Addr×Obj)} {σ:St} {H:Hp} {s s':Shared}
theorem Inv.env0 (I:Inv X pins σ H s):Env0 X.prog X.w X.K X.mg X.base X.A X.stack s H :=
 ⟨I.ok.frames,I.ok.mod,I.bs,Nat.le_trans I.ok.bsz I.sz,I.stack,I.stkFree,I.hok,I.bare⟩
theorem Inv.after {Q:VK} {u:Value} (I:Inv X pins σ H s) (h:CE X.stack X.prog X.w H s Q u s'):EP X pins σ Q u s':=by
 obtain ⟨v,H',os,bare,un,hok,r,q⟩:=h
 obtain ⟨hh,g,d,t,os'⟩:=s'
 obtain rfl:os'=s.os:=os
 exact ⟨v,H',I.call (h':=hh) (g':=g) (d':=d) (t':=t) (ch:=[]) un hok bare (fun b z=>absurd z (by simp)),r,q⟩
end
def fE (sp:Sp) (dvs:List V) (E:XK) (t:TA):TE:=fun σ H Q=>t σ H fun vs H1=>sp (vs++dvs) H1 Q E
def mZ (C:Addr) (sp:Sp) (dvs:List V) (E:XK) (t:TA):TE:=fun σ H Q=>t σ H fun vs H1=>∀x dx,H1 x=none→H1 dx=none→dx≠x→
 sp (.ref x::(vs++dvs)) (upd (upd H1 dx (.own x)) x (.ins C dx [])) (fun v H2=>v=.non∧Q (.ref x) H2) E
def Binds (K:PySem.W.Frag) (fd:FuncData) (ps:List Str) (ds:List Value):Prop :=
 ∀(s:Shared) (us:List Value),K.In s.heap→(us++ds).length=ps.length→BindsTo s fd ⟨us,[]⟩ (ps.zip (us++ds))
theorem Binds.all {K:PySem.W.Frag} {fd:FuncData} {ps:List Str} (h:∀us:List Value,us.length=ps.length→bindArgs fd ⟨us,[]⟩=pure (ps.zip us)):Binds K fd ps []:=fun s us _ hl=>by
 rw [List.append_nil] at hl ⊢
 exact .of_eq (h us hl)
def ZS (CX:v8) (X:Cx) (E:XK):Prop:=∀(pins:List (Addr×Obj)) (σ:St) (H:Hp) (s:Shared) (e:Value) (s':Shared),Inv X pins σ H s→CX X.stack H s E e s'→X.xe e s'
section
variable {X:Cx} {CX:v8} {k:Nat} {f C:Addr} {fd:FuncData} {ps:List Str} {sp:Sp} {dvs:List V} {ds:List Value} {E:XK} {x m:Str} {p pos apos:Pos} {e o:Expr} {es:List Expr} {ta:TE} {t:TA}
theorem e8 {pins:List (Addr×Obj)} {σ:St} {H:Hp} {s:Shared} {Q:VK} {us:List Value} {vs:List V} (F:FnOk X.prog X.w X.K X.mg X.base CX k f fd ps sp) (hr:Room k X.A) (hb:Binds X.K fd ps ds) (hd:Vals dvs ds) (hx:ZS CX X E)
  (I:Inv X pins σ H s) (r:Vals vs us) (h:sp (vs++dvs) H Q E):wpAny (model X.prog X.w) X.A (call (.ref f) us) (EP X pins σ Q) X.xe s:=by
 have r2:Vals (vs++dvs) (us++ds):=r.append hd
 have hl:(us++ds).length=ps.length:=by rw [← r2.length];exact F.len _ _ _ _ h
 refine wpAny_call (codeAny_mono (F.run X.A X.stack s H ⟨us,[]⟩ (us++ds) (vs++dvs) Q E hr I.env0 (hb s us I.kIn hl) r2 h) fun r s' hq=>?_)
 cases r with
 |error e=>exact hx pins σ H s e s' I hq
 |ok fl =>
  cases fl with
  |ret u=>exact I.after hq
  |next=>exact False.elim hq
  |brk=>exact False.elim hq
  |cont=>exact False.elim hq
theorem AG (F:FnOk X.prog X.w X.K X.mg X.base CX k f fd ps sp) (hr:Room k X.A) (hg:Gl X x) (hm:X.mg x=some (.ref f)) (hk:PySem.W.keepIn X.K (.ref f)=true) (hb:Binds X.K fd ps ds) (hd:Vals dvs ds) (hx:ZS CX X E)
  (ha:PA X (e::es) t) (hdb:(x == ("__debug__":Str))=false:=by decide) (he:starEach (e::es) X.env=(false,eval e X.env)::starEach es X.env:=by rfl) (hpl:(backTo pos (starEach es X.env)).any (·.1)=false:=by rfl) :
  PE X (.Call (.Name x p) (e::es) [] pos) (fE sp dvs E t):=by
 intro pins s σ H Q I h
 refine wpAny_Call_Name_kw (eW I hg hm ?_ hdb)
 refine PySem.W.callWith_K (h₀:=X.base) I.ok.mod.kin hk (jK (ha pos pins s σ H _ I h) fun us s1 ⟨vs,H1,I1,r,q⟩=>⟨I1.kIn,?_⟩) he hpl
 exact e8 F hr hb hd hx I1 r q
structure Mk (K:PySem.W.Frag) (C f:Addr):Prop where
 makes:PySem.W.makesIn K C=true
 init:PySem.W.findIn K (.ref C) "__init__"=some (some (.ref f))
 fn:PySem.W.isFn K (.ref f)=true
 kp:PySem.W.keepIn K (.ref C)=true
theorem wU {pins:List (Addr×Obj)} {σ:St} {H:Hp} {s:Shared} {Q:VK} {us:List Value} {vs:List V} (M:Mk X.K C f) (F:FnOk X.prog X.w X.K X.mg X.base CX k f fd ps sp) (hr:Room (k+1) X.A) (hb:Binds X.K fd ps ds) (hd:Vals dvs ds)
  (hx:ZS CX X E) (I:Inv X pins σ H s) (r:Vals vs us)
  (h:∀x dx,H x=none→H dx=none→dx≠x→sp (.ref x::(vs++dvs)) (upd (upd H dx (.own x)) x (.ins C dx [])) (fun v H2=>v=.non∧Q (.ref x) H2) E) :
  wpAny (model X.prog X.w) X.A (call (.ref C) us) (EP X pins σ Q) X.xe s:=by
 have hq:=h (s.heap.objs.size+1) s.heap.objs.size (I.hok.fresh (Nat.le_succ _)) (I.hok.fresh (Nat.le_refl _)) (Nat.ne_of_lt (Nat.lt_succ_self _))
 have I2:=Inv.made (C:=C) I
 have r2:Vals (V.ref (s.heap.objs.size+1)::(vs++dvs)) (Value.ref (s.heap.objs.size+1)::(us++ds)):=.cons rfl (r.append hd)
 have hl:(Value.ref (s.heap.objs.size+1)::us++ds).length=ps.length:=by
  have e:=r2.length
  rw [F.len _ _ _ _ hq] at e
  exact e.symm
 refine wpAny_call (xG (f:=f) I.kIn M.makes M.init (beq_iff_eq.mp M.fn) (codeAny_mono (F.run _ X.stack _ _ ⟨Value.ref (s.heap.objs.size+1)::us,[]⟩ (Value.ref (s.heap.objs.size+1)::(us++ds)) _ _ E (hr.make C us [])
  (I2.env0.make C us []) (hb _ (Value.ref (s.heap.objs.size+1)::us) I2.kIn hl) r2 hq) fun r s' hq'=>?_))
 cases r with
 |error e=>exact hx pins σ _ _ e s' I2 hq'
 |ok fl =>
  cases fl with
  |ret u =>
   obtain ⟨v,H',I3,rv,ev,q3⟩:=I2.after hq'
   subst ev
   exact ⟨rv,⟨V.ref (s.heap.objs.size+1),H',I3,rfl,q3⟩⟩
  |next=>exact False.elim hq'
  |brk=>exact False.elim hq'
  |cont=>exact False.elim hq'
theorem AE (M:Mk X.K C f) (F:FnOk X.prog X.w X.K X.mg X.base CX k f fd ps sp) (hr:Room (k+1) X.A) (hg:Gl X x) (hm:X.mg x=some (.ref C)) (hb:Binds X.K fd ps ds) (hd:Vals dvs ds) (hx:ZS CX X E)
  (ha:PA X (e::es) t) (hdb:(x == ("__debug__":Str))=false:=by decide) (he:starEach (e::es) X.env=(false,eval e X.env)::starEach es X.env:=by rfl) (hpl:(backTo pos (starEach es X.env)).any (·.1)=false:=by rfl) :
  PE X (.Call (.Name x p) (e::es) [] pos) (mZ C sp dvs E t):=by
 intro pins s σ H Q I h
 refine wpAny_Call_Name_kw (eW I hg hm ?_ hdb)
 refine PySem.W.callWith_K (h₀:=X.base) I.ok.mod.kin M.kp (jK (ha pos pins s σ H _ I h) fun us s1 ⟨vs,H1,I1,r,q⟩=>⟨I1.kIn,?_⟩) he hpl
 exact wU M F hr hb hd hx I1 r q
end
section
variable {X:Cx} {CX:v8} {k:Nat} {f C:Addr} {fd:FuncData} {ps ks:List Str} {sp:Sp} {E:XK} {x m:Str} {p pos apos kpos:Pos} {e o:Expr} {es:List Expr} {kws:List Keyword} {te ta:TE} {t tk:TA} {nm:Option Str}
variable {g:List Value→List Value→List Value} {gV:List V→List V→List V}
end
structure FnScope (N P:List Str) (sc:Scope):Prop where
 kind:sc.kind=.function
 co:sc.isCoroutine=false
 gen:sc.isGenerator=false
 nd:N.Nodup
 pre:N.take P.length=P
 par:∀x∈P,sc.names.lookup x=some .local∨sc.names.lookup x=some .cell
 nofree:∀y∈sc.names,y.2≠.free
theorem iP {kindOf:Str→Option NameKind} {x:Str}:∀{binds:List (Str×Value)} {m:Str→Option Value},(∀v,(x,v)∉binds)→bindL kindOf binds m x=m x
 |[],_,_=>rfl
 | (n,v)::r,m,h=>by
  unfold bindL
  rw [iP fun w hw=>h w (List.mem_cons_of_mem _ hw)]
  split
  ·have:x≠n:=by rintro rfl;exact h v List.mem_cons_self
   simp [this]
  ·rfl
theorem iR {kindOf:Str→Option NameKind} {x:Str}:∀{binds:List (Str×Value)} {m:Str→Option Value},(∀v,(x,v)∉binds)→bindC kindOf binds m x=m x
 |[],_,_=>rfl
 | (n,v)::r,m,h=>by
  unfold bindC
  rw [iR fun w hw=>h w (List.mem_cons_of_mem _ hw)]
  split
  ·rfl
  ·have:x≠n:=by rintro rfl;exact h v List.mem_cons_self
   simp [this]
theorem iQ {kindOf:Str→Option NameKind} {x:Str} {v:Value}:∀{P:List Str} {vs:List Value} {i:Nat} {m:Str→Option Value},P.Nodup→P[i]?=some x→vs[i]?=some v→kindOf x=some .local→
  bindL kindOf (P.zip vs) m x=some v
 |[],_,_,_,_,h,_,_=>by simp at h
 |_::_,[],_,_,_,_,h,_=>by simp at h
 |p::P,w::vs,0,m,nd,h1,h2,hk=>by
  simp at h1 h2;subst h1;subst h2
  show bindL kindOf ((p,w)::P.zip vs) m p=_
  unfold bindL
  rw [iP fun v hv=>(List.nodup_cons.mp nd).1 (List.of_mem_zip hv).1,if_pos hk]
  simp
 |p::P,w::vs,i+1,m,nd,h1,h2,hk=>by
  show bindL kindOf ((p,w)::P.zip vs) m x=_
  unfold bindL
  exact iQ (i:=i) (List.nodup_cons.mp nd).2 (by simpa using h1) (by simpa using h2) hk
theorem iS {kindOf:Str→Option NameKind} {x:Str} {v:Value}:∀{P:List Str} {vs:List Value} {i:Nat} {m:Str→Option Value},P.Nodup→P[i]?=some x→vs[i]?=some v→kindOf x≠some .local→
  bindC kindOf (P.zip vs) m x=some v
 |[],_,_,_,_,h,_,_=>by simp at h
 |_::_,[],_,_,_,_,h,_=>by simp at h
 |p::P,w::vs,0,m,nd,h1,h2,hk=>by
  simp at h1 h2;subst h1;subst h2
  show bindC kindOf ((p,w)::P.zip vs) m p=_
  unfold bindC
  rw [iR fun v hv=>(List.nodup_cons.mp nd).1 (List.of_mem_zip hv).1,if_neg hk]
  simp
 |p::P,w::vs,i+1,m,nd,h1,h2,hk=>by
  show bindC kindOf ((p,w)::P.zip vs) m x=_
  unfold bindC
  exact iS (i:=i) (List.nodup_cons.mp nd).2 (by simpa using h1) (by simpa using h2) hk
def y6 (N:List Str) (vs:List V):St:=vs.map some++List.replicate (N.length - vs.length) none
def JA (CX:v8) (P:Program) (w:World) (K:PySem.W.Frag) (mg:Str→Option Value) (base:Heap) (N:List Str) (qual:Str) (scope:Scope) (f:Addr) (cd:Value) (A:Around) (outer:List Env) (s:Shared) (H:Hp) (E:XK):Cx where
 prog:=P
 w:=w
 K:=K
 mg:=mg
 base:=base
 A:=A.deeper (envOfC qual scope s.heap.objs.size f cd)
 N:=N
 s₀:=s
 H₀:=H
 env:=envOfC qual scope s.heap.objs.size f cd
 outer:=outer
 stack:=envOfC qual scope s.heap.objs.size f cd::outer
 ex:=[]
 calm:=true
 fn:=fun _=>true
 pn:=[]
 xe:=fun e s'=>wpAny (model P w) (A.deeper (envOfC qual scope s.heap.objs.size f cd)) (leaving (envOfC qual scope s.heap.objs.size f cd) e) (fun _ s''=>CX outer H s E e s'') (fun e' s''=>CX outer H s E e' s'') s'
theorem lP {sc:Scope} {n:Nat} {x:Str} (h:sc.names.lookup x=some .cell):∃c,(cellsFrom n sc.names []).lookup x=some c:=by
 have q:=PySem.W.cellsFrom_some sc.names n [] (.inl h)
 exact Option.isSome_iff_exists.mp q
theorem uV {CX:v8} {P:Program} {w:World} {K:PySem.W.Frag} {mg:Str→Option Value} {base:Heap} {N ps:List Str} {qual:Str} {scope:Scope} {f:Addr} {cd:Value} {A:Around} {outer:List Env} {s s1:Shared} {H:Hp} {E:XK} {us:List Value} {vs:List V}
  (S:FnScope N ps scope) (hd:A.handled=none) (e0:Env0 P w K mg base A outer s H) (hl:vs.length=ps.length) (r:Vals vs us)
  (x:InCallC s s.heap.objs.size (bindL (envOfC qual scope s.heap.objs.size f cd).kindOf (ps.zip us) fun _=>none) (cellsFrom (s.heap.objs.size+1) scope.names []) (bindC (envOfC qual scope s.heap.objs.size f cd).kindOf (ps.zip us) fun _=>none) s1) :
  Inv (JA CX P w K mg base N qual scope f cd A outer s H E) [] (y6 N vs) H s1:=by
 have hpl:ps.length≤N.length:=by have:=congrArg List.length S.pre;rw [List.length_take] at this;omega
 obtain ⟨h1,tk,rfl,hk⟩:=x.done
 have noA:∀b:Addr,b∉(JA CX P w K mg base N qual scope f cd A outer s H E).ex:=fun b z=>absurd (show b∈([]:List Addr) from z) (by simp)
 refine ⟨⟨e0.mod,S.kind,rfl,rfl,Nat.le_refl _,fun y z c h1 h2=>?_,fun y hy=>?_,fun y c _ h=>?_,fun _=>hd,Around.frames_deeper e0.frames,.inr ⟨rfl,rfl⟩,fun b z=>absurd z (noA b),e0.bs,e0.bsz,fun b _ _=>noA b,fun b z=>absurd z (noA b),e0.funs,e0.frf⟩,
  rfl,e0.bare,Un.kept hk,⟨_,x.toInCall.ns,fun i y v h1 h2 h3=>?_⟩,fun y c h=>⟨_,x.cell y c h⟩,e0.hok.fresh (Nat.le_refl _),fun y c h=>?_,fun p hp=>absurd (show p∈([]:List (Addr×Obj)) from hp) (by simp),e0.hok.kept hk,?_⟩
 ·exact name_of_addr x.apart (PySem.mem_of_lookup h1) (PySem.mem_of_lookup h2)
 ·have hy:scope.names.lookup y=some .cell∨scope.names.lookup y=some .free:=hy
  rcases hy with hy|hy
  ·exact lP hy
  ·exact absurd rfl (S.nofree _ (PySem.mem_of_lookup hy))
 ·exact Nat.le_of_lt (x.above y c (PySem.mem_of_lookup h))
 ·have hi:i<vs.length:=by
   unfold y6 at h2
   by_cases hi:i<vs.length
   ·exact hi
   ·rw [List.getElem?_append_right (by simpa using hi)] at h2
    rw [List.getElem?_replicate] at h2
    split at h2<;>cases h2
  have ha:vs[i]?=some v:=by
   unfold y6 at h2
   rw [List.getElem?_append_left (by simpa using hi),List.getElem?_map] at h2
   cases e:vs[i]? with
   |none=>rw [e] at h2;cases h2
   |some a=>rw [e] at h2;cases h2;rfl
  obtain ⟨u,hu,rv⟩:=r.get ha
  have hp:ps[i]?=some y:=by
   rw [← S.pre,List.getElem?_take_of_lt (by omega)];exact h1
  have ndP:ps.Nodup:=by rw [← S.pre];exact S.nd.sublist (List.take_sublist _ _)
  refine ⟨u,rv,?_⟩
  rcases S.par y (List.mem_of_getElem? hp) with k|k
  ·exact .inl ⟨k,iQ ndP hp hu k⟩
  ·obtain ⟨c,e⟩:=lP (n:=s.heap.objs.size+1) k
   refine .inr ⟨.inl k,c,e,?_⟩
   have q:=x.cell y c e
   rw [iS ndP hp hu (by show scope.names.lookup y≠_;rw [k];decide)] at q
   exact q
 ·exact e0.hok.fresh (Nat.le_of_lt (x.above y c (PySem.mem_of_lookup h)))
 ·unfold y6
  show _=N.length
  rw [List.length_append,List.length_map,List.length_replicate]
  omega
theorem nB {CX:v8} {P:Program} {w:World} {K:PySem.W.Frag} {mg:Str→Option Value} {base:Heap} {k:Nat} {f:Addr} {name qual:Str} {params:Arguments} {body:List Stmt} {scope:Scope} {dV kV doc pm cdv ct oc:Value} {an od:Option Addr}
  {osl:Array (Option Value)} {N ps:List Str} {sp:Sp} (lk:K.lookup f=some ⟨oc,od,.func (PySem.W.fnOf name qual params body scope dV kV doc pm an cdv ct),osl⟩) (hcd:PySem.W.codeIn K cdv qual=true) (S:FnScope N ps scope)
  (len:∀vs H Q E,sp vs H Q E→vs.length=ps.length)
  (hbody:∀(A:Around) (outer:List Env) (s:Shared) (H:Hp) (vs:List V) (Q:VK) (E:XK),Room k (A.deeper (envOfC qual scope s.heap.objs.size f cdv))→sp vs H Q E→
   ∃t,PSs (JA CX P w K mg base N qual scope f cdv A outer s H E) body t∧t {nx:=fun _ H'=>Q .non H',rt:=Q} (y6 N vs) H) :
  FnOk P w K mg base CX (k+1) f (PySem.W.fnOf name qual params body scope dV kV doc pm an cdv ct) ps sp:=by
 refine ⟨len,fun A outer s H args us vs Q E hr e0 hb r hsp=>?_⟩
 have hl:=len _ _ _ _ hsp
 have KX:K.In s.heap:=e0.mod.kin.keeps fun b o e=>(e0.bs b o e).1
 have lim:s.heap.NoLimit:=e0.mod.nolimit.keeps fun b o e=>(e0.bs b o e).1
 have hkind:∀y∈ps.zip us,scope.names.lookup y.1=some .local∨(scope.names.lookup y.1=some .cell∧((cellsFrom (s.heap.objs.size+1) scope.names []).lookup y.1).isSome=true):=fun ⟨n,v⟩ hy=>by
  rcases S.par n (List.of_mem_zip hy).1 with q|q
  ·exact .inl q
  ·exact .inr ⟨q,PySem.W.cellsFrom_some _ _ _ (.inl q)⟩
 refine codeAny_call_function hr.depth (KX _ _ lk) rfl S.co S.gen rfl (PySem.W.codeRec_of KX hcd) (hb _ _ _ _ ?_)
 refine wpAny_newFunctionEnv_cells S.kind hkind fun env he s1 x=>?_
 subst he
 refine ⟨lim.keeps x.toInCall.keep,codeAny_func ?_⟩
 obtain ⟨t,ht,hq⟩:=hbody A outer s H vs Q E (hr.deeper _) hsp
 have I:Inv (JA CX P w K mg base N qual scope f cdv A outer s H E) [] (y6 N vs) H s1:=uV S hr.hd e0 hl r x
 refine wpAny_mono (ht [] s1 (y6 N vs) H _ I hq) (fun fl s' hs=>?_) fun e s' hs=>hs
 have fin:∀{σ':St} {H':Hp} {v:V} {u:Value},Inv (JA CX P w K mg base N qual scope f cdv A outer s H E) [] σ' H' s'→RelV v u→Q v H'→CE outer P w H s Q u s' :=
  fun {σ' H' v u} J rv q=>⟨v,H',J.os,J.bare,J.base,J.hok,rv,q⟩
 cases fl with
 |ret u =>
  obtain ⟨v,σ',H',J,rv,q⟩:=hs
  exact fin J rv q
 |next =>
  obtain ⟨σ',H',J,q⟩:=hs
  exact fin (v:=V.non) (u:=Value.none) J rfl q
 |brk =>
  obtain ⟨_,_,_,q⟩:=hs
  exact False.elim q
 |cont =>
  obtain ⟨_,_,_,q⟩:=hs
  exact False.elim q
end L2
namespace L2
open PySem PySem.Spec PyProof.Rows
section
variable {X:Cx} {x:Str} {p pos:Pos} {e:Expr} {es:List Expr} {t:TA} {id T:String} {r:List V→Hp→VK→Prop}
def nX (r:List V→Hp→VK→Prop) (t:TA):TE:=fun σ H Q=>t σ H fun vs H1=>r vs H1 Q
theorem kA (hc:CallR X (.builtin id) r) (hg:Gl X x) (hm:X.mg x=none) (hv:bootBuiltins x=some (.builtin id)) (ha:PA X (e::es) t) (hn:x≠"__name__":=by decide) (hdb:(x == ("__debug__":Str))=false:=by decide)
  (he:starEach (e::es) X.env=(false,eval e X.env)::starEach es X.env:=by rfl) (hpl:(backTo pos (starEach es X.env)).any (·.1)=false:=by rfl):PE X (.Call (.Name x p) (e::es) [] pos) (nX r t):=by
 intro pins s σ H Q I h
 refine wpAny_Call_Name_kw (yF I hg hm hv ?_ hn hdb)
 exact PyProof.Rows.callWith_builtin1 (jK (ha pos pins s σ H _ I h) fun us s1 ⟨vs,H1,I1,r1,q1⟩=>hc pins s1 σ H1 vs us Q I1 r1 q1) he hpl
theorem yJ (hc:CallR X (.type T) r) (hg:Gl X x) (hm:X.mg x=none) (hv:bootBuiltins x=some (.type T)) (ha:PA X (e::es) t) (hn:x≠"__name__":=by decide) (hdb:(x == ("__debug__":Str))=false:=by decide)
  (he:starEach (e::es) X.env=(false,eval e X.env)::starEach es X.env:=by rfl) (hpl:(backTo pos (starEach es X.env)).any (·.1)=false:=by rfl):PE X (.Call (.Name x p) (e::es) [] pos) (nX r t):=by
 intro pins s σ H Q I h
 refine wpAny_Call_Name_kw (yF I hg hm hv ?_ hn hdb)
 exact PyProof.Rows.callWith_type1 (jK (ha pos pins s σ H _ I h) fun us s1 ⟨vs,H1,I1,r1,q1⟩=>hc pins s1 σ H1 vs us Q I1 r1 q1) he hpl
end
end L2
namespace HT
open PySem PyProof.Rows
section
open PySem.SeqAt
open PySem.AutoSeq1 (wpAny_loadPart')
open PySem.MeetsSeq PySem.MeetsSeq2 PySem.MeetsSeq3
end
section
variable {prog:Program} {w:World} {A:Around} {E:Value→Shared→Prop} {s:Shared}
theorem cat_tup {t b:Addr} {vs ws:List Value} {Q:Value→Shared→Prop} (ht:IsTup s.heap t vs.toArray) (hb:IsTup s.heap b ws.toArray) (hv:vs≠[])
  (h1:ws=[]→Q (.ref t) s) (h2:ws≠[]→Q (.ref s.heap.objs.size) {s with heap:=s.heap.push {cls:=.type "tuple",data:=.seq (vs++ws).toArray}})
  (hsz:vs.length+ws.length≤sizeLine):wpAny (model prog w) A (binaryOp .Add (.ref t) (.ref b)) Q E s:=by
 obtain ⟨⟨cls,dd,data,sl⟩,ho,hc,n,hd⟩:=id ht
 obtain ⟨⟨cls2,dd2,data2,sl2⟩,ho2,hc2,n2,hd2⟩:=id hb
 simp only at hc hd hc2 hd2
 subst hc hd hc2 hd2
 have e:vs.toArray++ws.toArray=(vs++ws).toArray:=by simp
 by_cases hw:ws=[]
 ·exact concat_meets ⟨_,ho,rfl⟩ ⟨_,ho2,rfl⟩ noFill_tuple_add seq_tuple_add PySem.F.slot_tuple_add PySem.F.entry_tuple_add (PySem.F.args_tuple_add_2 _ _)
   (tuple_addW1 t b vs.toArray ws.toArray n n2 dd dd2 sl sl2 (by simpa using hv) (by simp [hw])) ⟨ho,ho2,h1 hw⟩
 ·refine concat_meets ⟨_,ho,rfl⟩ ⟨_,ho2,rfl⟩ noFill_tuple_add seq_tuple_add PySem.F.slot_tuple_add PySem.F.entry_tuple_add (PySem.F.args_tuple_add_2 _ _)
   (tuple_addW2 t b vs.toArray ws.toArray n n2 dd dd2 sl sl2 (by simpa using hv) (by simpa using hw) (by rw [List.size_toArray,List.size_toArray];exact hsz)) ⟨ho,ho2,?_⟩
  rw [e]
  exact h2 hw
def sIx (n d:Nat):Option Int→Nat
 |none=>d
 |some v=>if v<0 then (v+(n:Int)).toNat else min v.toNat n
theorem BG (n d:Nat) (hd:d≤n) (o:Option Int):sIx n d o≤n:=by
 cases o with
 |none=>exact hd
 |some v =>
  show (if v<0 then (v+(n:Int)).toNat else min v.toNat n)≤n
  by_cases hv:v<0
  ·rw [if_pos hv];omega
  ·rw [if_neg hv];exact Nat.min_le_right _ _
theorem mO (v:Int) (n d:Nat):(if v<0 then max (v+(n:Int)) 0 else min v (n:Int))=((sIx n d (some v):Nat):Int):=by
 show (if v<0 then max (v+(n:Int)) 0 else min v (n:Int))=(((if v<0 then (v+(n:Int)).toNat else min v.toNat n):Nat):Int)
 by_cases hv:v<0
 ·simp only [if_pos hv];omega
 ·simp only [if_neg hv];omega
theorem tT (lo hi:Option Int) (n:Nat):Builtin.Slice.sliceAdjust lo hi 1 (n:Int)=(((sIx n 0 lo:Nat):Int),((sIx n n hi:Nat):Int)):=by
 have h1:¬((1:Int)<0):=by omega
 unfold Builtin.Slice.sliceAdjust
 simp only [h1,if_false]
 refine Prod.ext ?_ ?_
 ·cases lo with
  |none=>rfl
  |some v=>exact mO v n 0
 ·cases hi with
  |none=>rfl
  |some v=>exact mO v n n
theorem sY (i j:Nat):Builtin.Slice.slicePlaces (i:Int) (j:Int) 1=j - i:=by
 unfold Builtin.Slice.slicePlaces
 have h1:(1:Int)>0:=by omega
 simp only [h1,if_true,Int.ediv_one]
 split<;>omega
theorem gN {v:Value} {o:Option Int} {Q:Option Int→Shared→Prop} (p:IsPart v o) (h:Q o s):wpAny (model prog w) A (Builtin.Slice.slicePartIndex v) Q E s:=by
 cases p with
 |none=>exact slicePart_none h
 |int i t=>exact slicePart_int h
theorem rO {sl:Addr} {vl vu:Value} {lo hi:Option Int} {n:Nat} {Q:Int×Int×Nat→Shared→Prop} (hs:s.heap.IsSliceOf sl vl vu .none) (pl:IsPart vl lo) (pu:IsPart vu hi)
  (h:Q (((sIx n 0 lo:Nat):Int),1,sIx n n hi - sIx n 0 lo) s):wpAny (model prog w) A (Builtin.Slice.sliceApplied (.ref sl) (pure (n:Int))) Q E s:=by
 obtain ⟨os,hos,hcs,hds⟩:=id hs
 unfold Builtin.Slice.sliceApplied Builtin.Slice.sliceFields
 refine wpAny_bind (wpAny_bind (wpAny_field hos hds (x:=vl) rfl (wpAny_bind (wpAny_field hos hds (x:=vu) rfl (wpAny_bind (wpAny_field hos hds (x:=.none) rfl (wpAny_pure ?_)))))))
 refine wpAny_bind (slicePart_none ?_)
 show wpAny _ _ (if ((1:Int) == 0)=true then _ else _) _ _ s
 rw [if_neg (by decide)]
 refine wpAny_bind (gN pl (wpAny_bind (gN pu (wpAny_bind (wpAny_pure ?_)))))
 show wpAny _ _ (match Builtin.Slice.sliceAdjust lo hi 1 (n:Int) with|(lo,hi)=>pure (lo,(1:Int),Builtin.Slice.slicePlaces lo hi 1)) _ _ s
 rw [tT lo hi n]
 show wpAny _ _ (pure (((sIx n 0 lo:Nat):Int),(1:Int),Builtin.Slice.slicePlaces ((sIx n 0 lo:Nat):Int) ((sIx n n hi:Nat):Int) 1)) _ _ s
 rw [sY]
 exact wpAny_pure h
theorem w6 (xs:Array Value) (i k:Nat):((List.range k).filterMap fun (m:Nat)=>xs[((i:Int)+(m:Int)*1).toNat]?).toArray=((xs.toList.drop i).take k).toArray:=by
 have e:(fun (m:Nat)=>xs[((i:Int)+(m:Int)*1).toNat]?)=fun m=>xs[i+m]?:=by
  funext m
  have:((i:Int)+(m:Int)*1).toNat=i+m:=by omega
  rw [this]
 rw [e]
 have:=pick_run xs i k
 rw [List.filterMap_map] at this
 have e2:((fun x=>xs[x]?)∘fun x=>i+x)=fun m=>xs[i+m]?:=rfl
 rw [e2] at this
 rw [this]
theorem getItem_tuple_cut {t sl:Addr} {items:Array Value} {vl vu:Value} {lo hi:Option Int} {Q:Value→Shared→Prop} (ht:IsTup s.heap t items) (hs:s.heap.IsSliceOf sl vl vu .none) (pl:IsPart vl lo) (pu:IsPart vu hi)
  (hw:¬(sIx items.size 0 lo=0∧sIx items.size items.size hi=items.size))
  (h:Q (.ref s.heap.objs.size) {s with heap:=s.heap.push {cls:=.type "tuple",data:=.seq ((items.toList.drop (sIx items.size 0 lo)).take (sIx items.size items.size hi - sIx items.size 0 lo)).toArray}})
  (hsz:items.size≤sizeLine):wpAny (model prog w) A (getItem (.ref t) (.ref sl)) Q E s:=by
 have htake:sizeOk (.seq ((items.toList.drop (sIx items.size 0 lo)).take (sIx items.size items.size hi - sIx items.size 0 lo)).toArray):=by
  show ((items.toList.drop (sIx items.size 0 lo)).take (sIx items.size items.size hi - sIx items.size 0 lo)).toArray.size≤sizeLine
  rw [List.size_toArray,List.length_take,List.length_drop,Array.length_toList]
  omega
 have hj:sIx items.size items.size hi≤items.size:=BG _ _ (Nat.le_refl _) hi
 obtain ⟨os,hos,hcs,hds⟩:=id hs
 have hTs:s.TypeIs (.ref sl) "slice":=⟨os,hos,hcs⟩
 unfold getItem
 try with_reducible refine wpAny_holding ?_
 first|refine wpAny_bind (wpAny_pure ?_)|skip
 refine wpAny_bind (wpAny_sequenceKey ht.typeIs (by decide) ?_)
 refine wpAny_bind (wpAny_callSpecial?_slot (name:=Str.ofString "__getitem__") ht.typeIs PyProof.Rows.slot_tuple_getitem
  (wpAny_call_entry PyProof.Rows.slot_tuple_getitem ht.typeIs entry_tuple_getitem ?_ (args_tuple_getitem _ _)))
 show wpAny _ _ (Builtin.Tuple.tupleItemsOf (.ref t) >>= _) _ _ s
 refine wpAny_bind (tupleItemsOf_ ht ?_)
 refine wpAny_bind (wpAny_typeOf hTs ?_)
 rw [if_pos (by decide)]
 refine wpAny_bind (rO hs pl pu ?_)
 have hno:¬((((sIx items.size 0 lo:Nat):Int) == 0&&(1:Int) == 1&&(sIx items.size items.size hi - sIx items.size 0 lo) == items.size)=true):=by
  intro q
  rw [Bool.and_eq_true,Bool.and_eq_true] at q
  have q1:((sIx items.size 0 lo:Nat):Int)=0:=eq_of_beq q.1.1
  have q2:sIx items.size items.size hi - sIx items.size 0 lo=items.size:=eq_of_beq q.2
  exact hw ⟨by omega,by omega⟩
 show wpAny _ _ (if (((sIx items.size 0 lo:Nat):Int) == 0&&(1:Int) == 1&&(sIx items.size items.size hi - sIx items.size 0 lo) == items.size)=true then _ else _) _ _ s
 rw [if_neg hno,w6]
 first
  |exact wpAny_bind (m:=Builtin.Tuple.tupleExact _) (wpAny_newObj_type (wpAny_pure ⟨_,rfl,wpAny_pure h⟩) htake)
  |exact wpAny_bind (m:=Builtin.Tuple.tupleExact _) (wpAny_newObj_type (wpAny_bind (wpAny_pure (wpAny_pure ⟨_,rfl,wpAny_pure h⟩))) htake)
  |exact wpAny_bind (wpAny_bind (m:=Builtin.Tuple.tupleExact _) (wpAny_newObj_type (wpAny_pure (wpAny_pure ⟨_,rfl,wpAny_pure h⟩)) htake))
  |exact wpAny_bind (wpAny_bind (m:=Builtin.Tuple.tupleExact _) (wpAny_newObj_type (wpAny_pure ⟨_,rfl,wpAny_pure h⟩) htake))
end
end HT
namespace L2
open PySem PySem.Spec PyProof.Rows
abbrev TO:=St→Hp→(Option Int→Hp→Prop)→Prop
def PO (X:Cx) (e:Option Expr) (t:TO):Prop :=
 ∀(pins:List (Addr×Obj)) (s:Shared) (σ:St) (H:Hp) (Q:Option Int→Hp→Prop),Inv X pins σ H s→t σ H Q→
  wpAny (model X.prog X.w) X.A (evalPart e X.env) (fun u s'=>∃o H',Inv X pins σ H' s'∧IsPart u o∧Q o H') X.xe s
def xX:TO:=fun _ H Q=>Q none H
def B2 (t:TE):TO:=fun σ H Q=>t σ H fun x H1=>∃i,x=.int i∧Q (some i) H1
section
variable {X:Cx} {e:Expr} {te:TE} {lo hi:Option Expr} {tl th:TO} {pos p2:Pos}
theorem yN:PO X none xX:=by
 intro pins s σ H Q I h
 rw [evalPart_none]
 exact wpAny_pure ⟨none,H,I,.none,h⟩
theorem qA (h:PE X e te):PO X (some e) (B2 te):=by
 intro pins s σ H Q I hw
 rw [evalPart_some]
 refine jK (h pins s σ H _ I hw) fun u s1 ⟨x,H1,I1,r1,q1⟩=>?_
 obtain ⟨i,rfl,q⟩:=q1
 obtain ⟨t,rfl⟩:=r1
 exact ⟨some i,H1,I1,.int i t,q⟩
def SlR (X:Cx) (r:V→Option Int→Option Int→Hp→VK→Prop):Prop :=
 ∀(pins:List (Addr×Obj)) (s:Shared) (σ:St) (H:Hp) (x:V) (v vl vu:Value) (lo hi:Option Int) (sl:Addr) (Q:VK),Inv X pins σ H s→RelV x v→s.heap.IsSliceOf sl vl vu .none→IsPart vl lo→IsPart vu hi→r x lo hi H Q→
  ∃T id,typeLookup (.type T) "__getitem__"=pure (some (.builtin id))∧s.TypeIs v T∧wpAny (model X.prog X.w) X.A (getItem v (.ref sl)) (EP X pins σ Q) X.xe s
theorem SlR.or {r r':V→Option Int→Option Int→Hp→VK→Prop} (h:SlR X r) (h':SlR X r'):SlR X (fun x lo hi H Q=>r x lo hi H Q∨r' x lo hi H Q):=by
 intro pins s σ H x v vl vu lo hi sl Q I rx hs pl pu q
 rcases q with q|q
 ·exact h pins s σ H x v vl vu lo hi sl Q I rx hs pl pu q
 ·exact h' pins s σ H x v vl vu lo hi sl Q I rx hs pl pu q
def D0 (r:V→Option Int→Option Int→Hp→VK→Prop) (te:TE) (tl th:TO):TE:=fun σ H Q=>te σ H fun x H1=>tl σ H1 fun l H2=>th σ H2 fun u H3=>r x l u H3 Q
theorem v0 {r:V→Option Int→Option Int→Hp→VK→Prop} (hr:SlR X r) (he:PE X e te) (hl:PO X lo tl) (hu:PO X hi th):PE X (.Subscript e (.Slice lo hi none p2) pos) (D0 r te tl th):=by
 intro pins s σ H Q I h
 refine Subscript_ (jK (he pins s σ H _ I h) fun v s1 ⟨x,H1,I1,r1,q1⟩=>?_)
 refine wpAny_Slice (jK (hl pins s1 σ H1 _ I1 q1) fun vl s2 ⟨l,H2,I2,pl,q2⟩=>jK (hu pins s2 σ H2 _ I2 q2) fun vu s3 ⟨u,H3,I3,pu,q3⟩=>?_)
 rw [evalPart_none]
 refine wpAny_pure ?_
 have I4:Inv X pins σ H3 {s3 with heap:=s3.heap.push {cls:=.type "slice",data:=.fields #[vl,vu,.none]}}:=I3.kept (t':=s3.toks) fun b ob q=>Heap.get?_push_of_some _ q
 obtain ⟨T,id,hT,ht,hg⟩:=hr pins {s3 with heap:=s3.heap.push {cls:=.type "slice",data:=.fields #[vl,vu,.none]}} σ H3 x v vl vu l u s3.heap.objs.size Q I4 r1 (Heap.IsSliceOf.new ..) pl pu q3
 show wpAny (model X.prog X.w) X.A (subscriptTail e (.Slice lo hi none p2) v (.ref s3.heap.objs.size)) (EP X pins σ Q) X.xe {s3 with heap:=s3.heap.push {cls:=.type "slice",data:=.fields #[vl,vu,.none]}}
 exact tail_any (ops:=[.ref s3.heap.objs.size,v]) ht hT hg (by with_unfolding_all rfl)
def q8 (xs:List V) (lo hi:Option Int):List V:=(xs.drop (HT.sIx xs.length 0 lo)).take (HT.sIx xs.length xs.length hi - HT.sIx xs.length 0 lo)
theorem gG (xs:List V) (lo hi:Option Int):(q8 xs lo hi).length≤xs.length:=by
 unfold q8
 rw [List.length_take,List.length_drop]
 omega
def DD (K:PySem.W.Frag):V→Option Int→Option Int→Hp→VK→Prop:=fun x lo hi H Q=>∃a xs,x=.ref a∧SqT K H a xs∧
 ¬(HT.sIx xs.length 0 lo=0∧HT.sIx xs.length xs.length hi=xs.length)∧∀p,H p=none→Q (.ref p) (upd H p (.tup (q8 xs lo hi)))
theorem cL:SlR X (DD X.K):=by
 intro pins s σ H x v vl vu lo hi sl Q I rx hs pl pu h
 obtain ⟨a,xs,rfl,hx,hw,q⟩:=h
 cases rx
 obtain ⟨its,r,ht,hz⟩:=I.tuple hx
 have hlen:its.toArray.size=xs.length:=by rw [List.size_toArray];exact r.length.symm
 refine ⟨"tuple",_,PyProof.Rows.slot_tuple_getitem.lookup,ht.typeIs,?_⟩
 refine HT.getItem_tuple_cut ht hs pl pu (by rw [hlen];exact hw) ?_ (by rw [hlen];exact hz)
 rw [hlen]
 refine ⟨.ref s.heap.objs.size,_,I.laid (t':=s.toks) (o:=.tup (q8 xs lo hi)) (fun b ob q=>Heap.get?_push_of_some _ q) (Nat.le_refl _) ?_,rfl,q _ (I.hok.fresh (Nat.le_refl _))⟩
 exact ⟨Nat.le_trans (gG xs lo hi) hz,_,(r.drop (HT.sIx xs.length 0 lo)).take (HT.sIx xs.length xs.length hi - HT.sIx xs.length 0 lo),IsTup.new _ _⟩
def CB (K:PySem.W.Frag):R2:=fun x y H Q=>∃a b xs ys,x=.ref a∧y=.ref b∧SqT K H a xs∧SqT K H b ys∧xs≠[]∧xs.length+ys.length≤sizeLine∧
 (ys=[]→Q (.ref a) H)∧(ys≠[]→∀p,H p=none→Q (.ref p) (upd H p (.tup (xs++ys))))
theorem Vals.nil_iff {xs:List V} {us:List Value} (r:Vals xs us):us=[]↔xs=[]:=by
 cases r with
 |nil=>simp
 |cons _ _=>simp
theorem AH:OpR X (binaryOp .Add) (CB X.K):=by
 intro pins s σ H x y v u Q I rx ry h
 obtain ⟨a,b,xs,ys,rfl,rfl,ha,hb,hx,hz,q1,q2⟩:=h
 cases rx
 cases ry
 obtain ⟨its,r1,p1,_⟩:=I.tuple ha
 obtain ⟨its2,r2,p2,_⟩:=I.tuple hb
 refine HT.cat_tup p1 p2 (fun z=>hx (r1.nil_iff.mp z)) (fun z=>⟨.ref a,H,I,rfl,q1 (r2.nil_iff.mp z)⟩) (fun z=>?_) (by rw [← r1.length,← r2.length];exact hz)
 refine ⟨.ref s.heap.objs.size,_,I.laid (t':=s.toks) (o:=.tup (xs++ys)) (fun b ob q=>Heap.get?_push_of_some _ q) (Nat.le_refl _) ?_,rfl,q2 (fun w=>z (r2.nil_iff.mpr w)) _ (I.hok.fresh (Nat.le_refl _))⟩
 exact ⟨by rw [List.length_append];exact hz,_,r1.append r2,IsTup.new _ _⟩
end
end L2
namespace L2
open PySem PySem.Spec PyProof.Rows
def zB (n:Nat) (i:Int):Option Nat:=if 0≤i then (if i<n then some i.toNat else none) else if -(n:Int)≤i then some (i+n).toNat else none
def qE {α:Type} (xs:List α) (i:Int):Option α:=(zB xs.length i).bind fun j=>xs[j]?
theorem mI {n:Nat} {i:Int} {j:Nat} (h:zB n i=some j):seqIndex? i n=some j∧j<n∧-(n:Int)≤i∧i<n:=by
 unfold zB at h
 by_cases h0:0≤i
 ·rw [if_pos h0] at h
  by_cases h1:i<n
  ·rw [if_pos h1] at h
   have e:i.toNat=j:=Option.some.inj h
   exact ⟨by rw [seqIndex_of h0 h1,e],by omega,by omega,h1⟩
  ·rw [if_neg h1] at h;cases h
 ·rw [if_neg h0] at h
  by_cases h1 : -(n:Int)≤i
  ·rw [if_pos h1] at h
   have e:(i+n).toNat=j:=Option.some.inj h
   exact ⟨by rw [seqIndex_neg (by omega) h1,e],by omega,h1,by omega⟩
  ·rw [if_neg h1] at h;cases h
theorem eX {α:Type} {xs:List α} {i:Int} {v:α} (h:qE xs i=some v):∃j,seqIndex? i xs.length=some j∧xs[j]?=some v∧j<xs.length∧-(xs.length:Int)≤i∧i<xs.length:=by
 unfold qE at h
 cases e:zB xs.length i with
 |none=>rw [e] at h;cases h
 |some j =>
  rw [e] at h
  obtain ⟨h1,h2,h3,h4⟩:=mI e
  exact ⟨j,h1,h,h2,h3,h4⟩
theorem qW {α:Type} {xs:List α} {j:Nat} {v:α} (h:xs[j]?=some v):qE xs (j:Int)=some v:=by
 have hj:j<xs.length:=(List.getElem?_eq_some_iff.mp h).1
 have e:zB xs.length (j:Int)=some j:=by
  unfold zB
  rw [if_pos (by omega),if_pos (by omega)];simp
 unfold qE;rw [e];exact h
def BA (b:Expr):Prop:=∀o i,subscripted b false o i=operate [o,i] (getItem o i)
def IxR (X:Cx) (r:R2):Prop :=
 ∀(value slice:Expr) (pins:List (Addr×Obj)) (s:Shared) (σ:St) (H:Hp) (x y:V) (v u:Value) (Q:VK),Inv X pins σ H s→RelV x v→RelV y u→r x y H Q→
  subscripted slice false v u=operate [v,u] (getItem v u)→wpAny (model X.prog X.w) X.A (subscriptTail value slice v u) (EP X pins σ Q) X.xe s
def MtR (X:Cx) (id:String) (r:V→List V→Hp→VK→Prop):Prop :=
 ∀(pins:List (Addr×Obj)) (s:Shared) (σ:St) (H:Hp) (x:V) (xs:List V) (v:Value) (us:List Value) (Q:VK),Inv X pins σ H s→RelV x v→Vals xs us→r x xs H Q→
  wpAny (model X.prog X.w) X.A (call (.builtin id) (v::us)) (EP X pins σ Q) X.xe s
section
variable {X:Cx} {a b:Expr} {ta tb:TE} {pos:Pos}
theorem IxR.or {r r':R2} (h:IxR X r) (h':IxR X r'):IxR X (fun x y H Q=>r x y H Q∨r' x y H Q):=by
 intro value slice pins s σ H x y v u Q I rx ry q hs
 rcases q with q|q
 ·exact h value slice pins s σ H x y v u Q I rx ry q hs
 ·exact h' value slice pins s σ H x y v u Q I rx ry q hs
theorem MtR.or {id:String} {r r':V→List V→Hp→VK→Prop} (h:MtR X id r) (h':MtR X id r'):MtR X id (fun x xs H Q=>r x xs H Q∨r' x xs H Q):=by
 intro pins s σ H x xs v us Q I rx rs q
 rcases q with q|q
 ·exact h pins s σ H x xs v us Q I rx rs q
 ·exact h' pins s σ H x xs v us Q I rx rs q
theorem jI {r:R2} (hr:IxR X r) (ha:PE X a ta) (hb:PE X b tb) (hs:BA b):PE X (.Subscript a b pos) (dE r ta tb):=by
 intro pins s σ H Q I h
 exact Subscript_ (fL ha hb I h fun v u s2 x y H2 I2 rx ry q=>hr a b pins s2 σ H2 x y v u Q I2 rx ry q (hs _ _))
def nO (K:PySem.W.Frag):R2:=fun x y H Q=>∃p xs i v,x=.ref p∧y=.int i∧SqL K H p xs∧qE xs i=some v∧Q v H
def fK (K:PySem.W.Frag):R2:=fun x y H Q=>∃p xs i v,x=.ref p∧y=.int i∧SqT K H p xs∧qE xs i=some v∧Q v H
def nN:R2:=fun x y H Q=>∃z i c,x=.str z∧y=.int i∧z.length≤sizeLine∧qE z.cps.toList i=some c∧Q (.str ⟨#[c]⟩) H
theorem jN:IxR X (nO X.K):=by
 intro value slice pins s σ H x y v u Q I rx ry h hs
 obtain ⟨p,xs,i,z,rfl,rfl,hq,he,q⟩:=h
 cases rx
 obtain ⟨t,rfl⟩:=ry
 obtain ⟨its,r,pl,hz⟩:=I.list hq
 obtain ⟨j,h1,h2,h3,h4,h5⟩:=eX he
 obtain ⟨w,ew,rw'⟩:=r.get h2
 have hl:=r.length
 have hn:=z7
 have fin:EP X pins σ Q w s:=⟨z,H,I,rw',q⟩
 by_cases h0:0≤i
 ·have hj:i.toNat=j:=by
   rw [seqIndex_of h0 h5] at h1
   exact Option.some.inj h1
  exact item_listR pl.isList h0 (by omega) (by rw [hj];simpa using ew) fin hs
 ·have hj:(i+(its.toArray.size:Int)).toNat=j:=by
   rw [seqIndex_neg (by omega) h4] at h1
   rw [List.size_toArray,← hl]
   exact Option.some.inj h1
  exact subscriptTail_builtinR (x:=w) pl.isList.typeIs slot_list_getitem.lookup
   (wpAny_getItem_list_neg (Q:=fun r s'=>r=w∧EP X pins σ Q r s') pl.isList (by omega) (by rw [List.size_toArray]<;>omega) (by omega) (by rw [hj];simpa using ew) ⟨rfl,fin⟩) hs
theorem ix_tup:IxR X (fK X.K):=by
 intro value slice pins s σ H x y v u Q I rx ry h hs
 obtain ⟨p,xs,i,z,rfl,rfl,hq,he,q⟩:=h
 cases rx
 obtain ⟨t,rfl⟩:=ry
 obtain ⟨its,r,pl,hz⟩:=I.tuple hq
 obtain ⟨j,h1,h2,h3,h4,h5⟩:=eX he
 obtain ⟨w,ew,rw'⟩:=r.get h2
 have hl:=r.length
 have hn:=z7
 have fin:EP X pins σ Q w s:=⟨z,H,I,rw',q⟩
 exact subscriptTail_builtinR (x:=w) pl.typeIs slot_tuple_getitem.lookup
  (getItem_tuple (j:=j) (Q:=fun r s'=>r=w∧EP X pins σ Q r s') pl (by omega) (by omega) (by rw [List.size_toArray,← hl];exact h1) (by simpa using ew) ⟨rfl,fin⟩) hs
theorem cS:IxR X nN:=by
 intro value slice pins s σ H x y v u Q I rx ry h hs
 obtain ⟨z,i,c,rfl,rfl,hz,he,q⟩:=h
 obtain ⟨t,rfl⟩:=rx
 obtain ⟨t',rfl⟩:=ry
 obtain ⟨j,h1,h2,h3,h4,h5⟩:=eX he
 have hl:z.cps.toList.length=z.length:=by simp [Str.length]
 rw [hl] at h1 h4 h5
 have hn:=z7
 exact tail_any (typeIs_str s z t) slot_str_getitem.lookup (getItem_str (c:=c) (by
  have e1:decide (i < -(2 ^ 63:Int))=false:=decide_eq_false (by omega)
  have e2:decide (i≥2 ^ 63)=false:=decide_eq_false (by omega)
  rw [e1,e2,Bool.or_false]) (by rw [h1];simpa using h2) ⟨.str ⟨#[c]⟩,H,I.tok _,⟨_,rfl⟩,q⟩) hs
def nY (K:PySem.W.Frag):R2:=fun x y H Q=>nO K x y H Q∨fK K x y H Q∨nN x y H Q
theorem fB:IxR X (nY X.K):=jN.or (ix_tup.or cS)
theorem tH (its:List Value) (n j:Nat) (u:Value):Obj.mapSeq (·.setIfInBounds j u) {cls:=.type "list",data:=.seq its.toArray n}={cls:=.type "list",data:=.seq (its.set j u).toArray n}:=by
 simp [Obj.mapSeq]
theorem Inv.lst {pins:List (Addr×Obj)} {σ:St} {H:Hp} {s:Shared} {p:Addr} {xs:List V} (I:Inv X pins σ H s) (h:H p=some (.lst xs)) :
  ∃(its:List Value) (n:Nat),Vals xs its∧s.heap.get? p=some {cls:=.type "list",data:=.seq its.toArray n}∧xs.length≤sizeLine:=by
 obtain ⟨z,its,n,r,e⟩:=I.hok p _ h
 exact ⟨its,n,r,e,z⟩
theorem Inv.lstUpd {pins:List (Addr×Obj)} {σ:St} {H:Hp} {s:Shared} {p:Addr} {xs ys:List V} {its its':List Value} {n n':Nat} {f:Obj→Obj} (I:Inv X pins σ H s) (h:H p=some (.lst xs))
  (ho:s.heap.get? p=some {cls:=.type "list",data:=.seq its.toArray n}) (hf:f {cls:=.type "list",data:=.seq its.toArray n}={cls:=.type "list",data:=.seq its'.toArray n'}) (r:Vals ys its') (hz:ys.length≤sizeLine) (t:Nat) :
  Inv X pins σ (upd H p (.lst ys)) {s with heap:=s.heap.update p f,toks:=t}:=by
 have e:(s.heap.update p f).get? p=some {cls:=.type "list",data:=.seq its'.toArray n'}:=by
  rw [Heap.get?_update_self f ho (by rw [hf]<;>rfl),hf]
 refine I.write (x:=p) (e:=p) (by rw [h];trivial) (.inl rfl) (fun b u hb q=>(Heap.get?_update_other _ _ (Ne.symm hb)).trans q) ⟨_,e⟩ ?_
 exact ⟨hz,its',n',r,e⟩
def B9:V→V→V→Hp→(Hp→Prop)→Prop:=fun o i v H Q=>∃p xs k j,o=.ref p∧i=.int k∧H p=some (.lst xs)∧zB xs.length k=some j∧Q (upd H p (.lst (xs.set j v)))
theorem ZB:nW X B9:=by
 intro pins s σ H o i v ov iv u Q I ro ri rv h
 obtain ⟨p,xs,k,j,rfl,rfl,hp,hj,q⟩:=h
 cases ro
 obtain ⟨t,rfl⟩:=ri
 obtain ⟨its,n,r,ho,hz⟩:=I.lst hp
 obtain ⟨h1,h2,h3,h4⟩:=mI hj
 have hl:=r.length
 have hn:=z7
 have I':Inv X pins σ (upd H p (.lst (xs.set j v))) {s with heap:=s.heap.update p (Obj.mapSeq (·.setIfInBounds j u))} :=
  I.lstUpd hp ho (tH its n j u) (r.set rv j) (by rw [List.length_set];exact hz) s.toks
 by_cases h0:0≤k
 ·have hk:k.toNat=j:=by
   rw [seqIndex_of h0 h4] at h1
   exact Option.some.inj h1
  exact PySem.W.ki_setAt ho h0 (by omega) (by rw [List.size_toArray,← hl];exact h4) (by rw [hk];exact ⟨_,I',q⟩)
 ·have hk:(k+(its.toArray.size:Int)).toNat=j:=by
   rw [seqIndex_neg (by omega) h3] at h1
   rw [List.size_toArray,← hl]
   exact Option.some.inj h1
  exact PySem.W.ki_setBack ho (by omega) (by rw [List.size_toArray,← hl];exact h3) (by omega) (by rw [hk];exact ⟨_,I',q⟩)
theorem rY (lo hi:Option Int) (n:Nat):(sliceBounds lo hi none n).1=((HT.sIx n 0 lo:Nat):Int)∧(sliceBounds lo hi none n).2.1=((HT.sIx n n hi:Nat):Int)∧(sliceBounds lo hi none n).2.2=1:=by
 refine ⟨?_,?_,rfl⟩
 ·cases lo with
  |none=>simp [sliceBounds,HT.sIx]
  |some i =>
   simp only [sliceBounds,HT.sIx,Option.getD_none,show (1:Int)>0 by decide,if_true]
   by_cases h:i<0
   ·simp only [h,if_true]<;>omega
   ·simp only [h,if_false]<;>omega
 ·cases hi with
  |none=>simp [sliceBounds,HT.sIx]
  |some i =>
   simp only [sliceBounds,HT.sIx,Option.getD_none,show (1:Int)>0 by decide,if_true]
   by_cases h:i<0
   ·simp only [h,if_true]<;>omega
   ·simp only [h,if_false]<;>omega
theorem rS (its:List Value) (lo hi:Option Int):slicePick its.toArray lo hi none=((its.drop (HT.sIx its.length 0 lo)).take (HT.sIx its.length its.length hi - HT.sIx its.length 0 lo)).toArray:=by
 obtain ⟨h1,h2,h3⟩:=rY lo hi its.toArray.size
 unfold slicePick
 rw [h1,h2,h3]
 simp only [sliceRange_one,pick_run,List.size_toArray]<;>rfl
def DF (K:PySem.W.Frag):V→Option Int→Option Int→Hp→VK→Prop:=fun x lo hi H Q=>∃a xs,x=.ref a∧SqL K H a xs∧∀p,H p=none→Q (.ref p) (upd H p (.lst (q8 xs lo hi)))
theorem ZH:SlR X (DF X.K):=by
 intro pins s σ H x v vl vu lo hi sl Q I rx hs pl pu h
 obtain ⟨a,xs,rfl,hx,q⟩:=h
 cases rx
 obtain ⟨its,r,ht,hz⟩:=I.list hx
 have hlen:=r.length
 refine ⟨"list",_,slot_list_getitem.lookup,ht.isList.typeIs,?_⟩
 refine wpAny_getItem_list_slice ht.isList hs pl pu .none (by simp) ?_ (by rw [List.size_toArray]<;>omega)
 rw [rS,← hlen]
 refine ⟨.ref s.heap.objs.size,_,I.laid (t':=s.toks) (o:=.lst (q8 xs lo hi)) (fun b ob q=>Heap.get?_push_of_some _ q) (Nat.le_refl _) ?_,rfl,q _ (I.hok.fresh (Nat.le_refl _))⟩
 exact ⟨Nat.le_trans (gG xs lo hi) hz,_,0,(r.drop (HT.sIx xs.length 0 lo)).take (HT.sIx xs.length xs.length hi - HT.sIx xs.length 0 lo),Heap.get?_push_size _ rfl⟩
def qZ:V→Bool
 |.non=>true
 |.bl _=>true
 |.int _=>true
 |.str _=>true
 |_=>false
def vV:V→V→Bool
 |.non,.non=>true
 |.bl a,.bl b=>a == b
 |.bl a,.int b=>(if a then 1 else 0) == b
 |.int a,.bl b=>a == (if b then 1 else 0)
 |.int a,.int b=>a == b
 |.str a,.str b=>a == b
 |_,_=>false
theorem cV {A:Around} {s:Shared} {y x:V} {u v:Value} (ry:RelV y u) (rx:RelV x v) (fy:qZ y=true) (fx:qZ x=true):SeqAt.EqAt A s u v (vV y x):=by
 cases y with
 |non =>
  cases ry
  cases x with
  |non=>cases rx;exact SeqAt.EqAt.same _
  |bl b=>cases rx;exact SeqAt.EqAt.none_bool b
  |int b=>obtain ⟨t,rfl⟩:=rx;exact SeqAt.EqAt.none_int b t
  |str b=>obtain ⟨t,rfl⟩:=rx;exact SeqAt.EqAt.none_str b t
  |_=>exact absurd (show false=true from fx) Bool.false_ne_true
 |bl a =>
  cases ry
  cases x with
  |non=>cases rx;exact SeqAt.EqAt.bool_none a
  |bl b=>cases rx;exact SeqAt.EqAt.bool_bool a b
  |int b=>obtain ⟨t,rfl⟩:=rx;exact SeqAt.EqAt.bool_int a b t
  |str b=>obtain ⟨t,rfl⟩:=rx;exact SeqAt.EqAt.bool_str a b t
  |_=>exact absurd (show false=true from fx) Bool.false_ne_true
 |int a =>
  obtain ⟨t',rfl⟩:=ry
  cases x with
  |non=>cases rx;exact SeqAt.EqAt.int_none a t'
  |bl b=>cases rx;exact SeqAt.EqAt.int_bool a t' b
  |int b=>obtain ⟨t,rfl⟩:=rx;exact SeqAt.EqAt.int_int a t' b t
  |str b=>obtain ⟨t,rfl⟩:=rx;exact SeqAt.EqAt.int_str a t' b t
  |_=>exact absurd (show false=true from fx) Bool.false_ne_true
 |str a =>
  obtain ⟨t',rfl⟩:=ry
  cases x with
  |non=>cases rx;exact SeqAt.EqAt.str_none a t'
  |bl b=>cases rx;exact SeqAt.EqAt.str_bool a t' b
  |int b=>obtain ⟨t,rfl⟩:=rx;exact SeqAt.EqAt.str_int a t' b t
  |str b=>obtain ⟨t,rfl⟩:=rx;exact SeqAt.EqAt.str_str a t' b t
  |_=>exact absurd (show false=true from fx) Bool.false_ne_true
 |_=>exact absurd (show false=true from fy) Bool.false_ne_true
def vN (x:V) (u:Value):Bool:=match u with
 |.none=>vV .non x
 |.bool b=>vV (.bl b) x
 |.int i _=>vV (.int i) x
 |.str z _=>vV (.str z) x
 |_=>false
theorem mV {x y:V} {u:Value} (r:RelV y u) (f:qZ y=true):vN x u=vV y x:=by
 cases y with
 |non=>cases r;rfl
 |bl b=>cases r;rfl
 |int i=>obtain ⟨t,rfl⟩:=r;rfl
 |str z=>obtain ⟨t,rfl⟩:=r;rfl
 |_=>exact absurd (show false=true from f) Bool.false_ne_true
theorem ZK {x:V}:∀{xs:List V} {us:List Value},Vals xs us→xs.all qZ=true→us.any (vN x)=xs.any fun y=>vV y x
 |_,_,.nil,_=>rfl
 |y::xs,u::us,.cons r t,f=>by
  rw [List.all_cons,Bool.and_eq_true] at f
  rw [List.any_cons,List.any_cons,mV r f.1,ZK t f.2]
theorem ZD {A:Around} {s:Shared} {x:V} {v:Value} (rx:RelV x v) (fx:qZ x=true):∀{xs:List V} {us:List Value},Vals xs us→xs.all qZ=true→∀u∈us,SeqAt.EqAt A s u v (vN x u)
 |_,_,.nil,_=>fun u hu=>by cases hu
 |y::xs,u::us,.cons r t,f=>fun u' hu=>by
  rw [List.all_cons,Bool.and_eq_true] at f
  rcases List.mem_cons.mp hu with rfl|hu
  ·rw [mV r f.1];exact cV r rx f.1 fx
  ·exact ZD rx fx t f.2 u' hu
def JF (x:V) (xs:List V):Bool:=xs.any fun y=>vV y x
def nZ (K:PySem.W.Frag) (neg:Bool):R2:=fun x y H Q=>∃p xs,y=.ref p∧(SqL K H p xs∨SqT K H p xs)∧qZ x=true∧xs.all qZ=true∧Q (.bl (if neg then !JF x xs else JF x xs)) H
theorem uM:OpR X (compareOp .In) (nZ X.K false):=by
 intro pins s σ H x y v u Q I rx ry h
 obtain ⟨p,xs,rfl,hq,fx,fs,q⟩:=h
 cases ry
 rcases hq with hq|hq
 ·obtain ⟨its,r,pl,hz⟩:=I.list hq
  refine SeqAt.in_listAt (vN x) pl.isList (fun w hw=>ZD rx fx r fs w (by simpa using hw)) ⟨.bl _,H,I,rfl,?_⟩
  rw [show its.toArray.any (vN x)=its.any (vN x) by simp,ZK r fs]
  exact q
 ·obtain ⟨its,r,pl,hz⟩:=I.tuple hq
  refine SeqAt.in_tupleAt (vN x) pl (fun w hw=>ZD rx fx r fs w (by simpa using hw)) ⟨.bl _,H,I,rfl,?_⟩
  rw [show its.toArray.any (vN x)=its.any (vN x) by simp,ZK r fs]
  exact q
theorem rZ:OpR X (compareOp .NotIn) (nZ X.K true):=by
 intro pins s σ H x y v u Q I rx ry h
 obtain ⟨p,xs,rfl,hq,fx,fs,q⟩:=h
 cases ry
 rcases hq with hq|hq
 ·obtain ⟨its,r,pl,hz⟩:=I.list hq
  refine SeqAt.notIn_listAt (vN x) pl.isList (fun w hw=>ZD rx fx r fs w (by simpa using hw)) ⟨.bl _,H,I,rfl,?_⟩
  rw [show its.toArray.any (vN x)=its.any (vN x) by simp,ZK r fs]
  exact q
 ·obtain ⟨its,r,pl,hz⟩:=I.tuple hq
  refine SeqAt.notIn_tupleAt (vN x) pl (fun w hw=>ZD rx fx r fs w (by simpa using hw)) ⟨.bl _,H,I,rfl,?_⟩
  rw [show its.toArray.any (vN x)=its.any (vN x) by simp,ZK r fs]
  exact q
theorem kX:CallR X (.builtin "len") (fun xs H Q=>∃p ys,xs=[.ref p]∧(SqL X.K H p ys∨SqT X.K H p ys)∧Q (.int ys.length) H):=by
 intro pins s σ H xs us Q I r h
 obtain ⟨p,ys,rfl,hq,q⟩:=h
 obtain ⟨u,rfl,rx⟩:=QV r
 cases rx
 have hn:=z7
 rcases hq with hq|hq
 ·obtain ⟨its,r',pl,hz⟩:=I.list hq
  have hlen:=r'.length
  exact Calls.call_len_list pl.isList (by simp only [List.size_toArray]<;>omega) ⟨.int ys.length,H,I.tok _,⟨s.toks+1,by rw [List.size_toArray,hlen]⟩,q⟩
 ·obtain ⟨its,r',pl,hz⟩:=I.tuple hq
  have hlen:=r'.length
  exact len_tuple pl (by simp only [List.size_toArray]<;>omega) ⟨.int ys.length,H,I.tok _,⟨s.toks+1,by rw [List.size_toArray,hlen]⟩,q⟩
theorem sD:CallR X (.builtin "len") (fun xs H Q=>∃z,xs=[.str z]∧z.length≤sizeLine∧Q (.int z.length) H):=by
 intro pins s σ H xs us Q I r h
 obtain ⟨z,rfl,hz,q⟩:=h
 obtain ⟨u,rfl,t,rfl⟩:=QV r
 have hn:=z7
 exact len_str (by omega) ⟨.int z.length,H,I.tok _,⟨_,rfl⟩,q⟩
theorem CallR.or {f:Value} {r r':List V→Hp→VK→Prop} (h:CallR X f r) (h':CallR X f r'):CallR X f (fun xs H Q=>r xs H Q∨r' xs H Q):=by
 intro pins s σ H xs us Q I rs q
 rcases q with q|q
 ·exact h pins s σ H xs us Q I rs q
 ·exact h' pins s σ H xs us Q I rs q
theorem Z8:CallR X (.type "list") (fun xs H Q=>∃p ys,xs=[.ref p]∧(SqL X.K H p ys∨SqT X.K H p ys)∧∀l,H l=none→Q (.ref l) (upd H l (.lst ys))):=by
 intro pins s σ H xs us Q I r h
 obtain ⟨p,ys,rfl,hq,q⟩:=h
 obtain ⟨u,rfl,rx⟩:=QV r
 cases rx
 have fin:∀(its:List Value),Vals ys its→ys.length≤sizeLine→∀(h':Heap) (c':Nat),(∀b o',s.heap.get? b=some o'→h'.get? b=some o')→
   h'.get? s.heap.objs.size=some {cls:=.type "list",dict:=none,data:=.seq its.toArray c',slots := #[]}→EP X pins σ Q (.ref s.heap.objs.size) {s with heap:=h'}:=fun its r' hz h' c' kp e =>
  ⟨.ref s.heap.objs.size,_,I.laid (t':=s.toks) kp (Nat.le_refl _) (show ObjOk X.prog X.w _ h' _ (.lst ys) from ⟨hz,its,c',r',e⟩),rfl,q _ (I.hok.fresh (Nat.le_refl _))⟩
 rcases hq with hq|hq
 ·obtain ⟨its,r',pl,hz⟩:=I.list hq
  have hlen:=r'.length
  obtain ⟨o,ho,hc,n,hd⟩:=pl.isList
  exact call_list_seq p (.inl rfl) ho hc hd (fun h' c' kp e=>fin its r' hz h' c' kp e) (by simp only [List.size_toArray]<;>omega)
 ·obtain ⟨its,r',pl,hz⟩:=I.tuple hq
  have hlen:=r'.length
  obtain ⟨o,ho,hc,n,hd⟩:=pl
  exact call_list_seq p (.inr rfl) ho hc hd (fun h' c' kp e=>fin its r' hz h' c' kp e) (by simp only [List.size_toArray]<;>omega)
def fO (K:PySem.W.Frag) (T:String) (x:V) (H:Hp):Prop:=match x with
 |.str _=>T="str"
 |.int _=>T="int"
 |.ref p=>(T="list"∧∃xs,SqL K H p xs)∨(T="tuple"∧∃o,K.lookup p=some o∧o.cls=.type "tuple"∧o.dict=none)∨
   (T="dict"∧((∃kvs,H p=some (.dK kvs))∨∃kvs,H p=some (.dT kvs)))∨(T="set"∧∃S n,H p=some (.set S n))
 |_=>False
theorem mP {pins:List (Addr×Obj)} {σ:St} {H:Hp} {s:Shared} {T:String} {x:V} {v:Value} (I:Inv X pins σ H s) (r:RelV x v) (ty:fO X.K T x H) :
  s.TypeIs v T∧∀a,v=.ref a→∃ob,s.heap.get? a=some ob∧ob.dict=none:=by
 cases x with
 |str z =>
  obtain ⟨t,rfl⟩:=r
  cases (show T="str" from ty)
  exact ⟨typeIs_str s z t,fun _ e=>nomatch e⟩
 |int i =>
  obtain ⟨t,rfl⟩:=r
  cases (show T="int" from ty)
  exact ⟨typeIs_int s i t,fun _ e=>nomatch e⟩
 |ref p =>
  cases r
  rcases ty with ⟨rfl,xs,hq⟩|⟨rfl,o,hk,hc,hd⟩|⟨rfl,hk⟩|⟨rfl,S,n,hk⟩
  ·obtain ⟨its,_,pl,_⟩:=I.list hq
   refine ⟨pl.isList.typeIs,fun a e=>?_⟩
   cases e
   obtain ⟨o,n,e,c,hd,_⟩:=pl
   exact ⟨o,e,hd⟩
  ·refine ⟨⟨o,I.kIn p o hk,hc⟩,fun a e=>?_⟩
   cases e
   exact ⟨o,I.kIn _ o hk,hd⟩
  ·have z:∃o,s.heap.get? p=some o∧o.ExactDict:=by
    rcases hk with ⟨kvs,hk⟩|⟨kvs,hk⟩
    ·obtain ⟨_,_,_,_,o,_,_,e,ex,_⟩:=I.hok p _ hk
     exact ⟨o,e,ex⟩
    ·obtain ⟨_,_,_,_,o,_,_,e,ex,_⟩:=I.hok p _ hk
     exact ⟨o,e,ex⟩
   obtain ⟨o,e,ex⟩:=z
   refine ⟨⟨o,e,ex.1⟩,fun a e2=>?_⟩
   cases e2
   exact ⟨o,e,ex.2.1⟩
  ·obtain ⟨o,_,_,_,e,ex,_⟩:=I.hok p _ hk
   refine ⟨⟨o,e,ex.1⟩,fun a e2=>?_⟩
   cases e2
   exact ⟨o,e,ex.2.1⟩
 |_=>exact False.elim ty
def DA (K:PySem.W.Frag) (T:String) (r:V→List V→Hp→VK→Prop) (to:TE):TE:=fun σ H Q=>to σ H fun x H1=>fO K T x H1∧r x [] H1 Q
def D3 (K:PySem.W.Frag) (T:String) (r:V→List V→Hp→VK→Prop) (to:TE) (t:TA):TE:=fun σ H Q=>to σ H fun x H1=>fO K T x H1∧t σ H1 fun xs H2=>r x xs H2 Q
variable {o e:Expr} {es:List Expr} {to:TE} {t:TA} {name:Str} {apos cpos:Pos} {T id:String} {r:V→List V→Hp→VK→Prop}
theorem BQ (pa:PlainAttrs T) (slot:Slot T name id) (hty:typeOf (.builtin id)=pure (.type "method_descriptor")) (hm:MtR X id r) (ho:PE X o to)
  (hbase:attributeBase o name X.env (eval o X.env)=eval o X.env:=by rfl) (hline:(apos.endLine == cpos.line)=true:=by rfl):PE X (.Call (.Attribute o name apos) [] [] cpos) (DA X.K T r to):=by
 intro pins s σ H Q I h
 refine wpAny_Call_method0_late hbase hline (jK (ho pins s σ H _ I h) fun v s1 ⟨x,H1,I1,r1,ty,q1⟩=>?_)
 obtain ⟨h1,h2⟩:=mP I1 r1 ty
 exact ⟨T,id,pa,slot,hty,h1,h2,Calls.callWith_builtin rfl (PySem.evalArgs_none (hm pins s1 σ H1 x [] v [] Q I1 r1 .nil q1))⟩
theorem qM (pa:PlainAttrs T) (slot:Slot T name id) (hty:typeOf (.builtin id)=pure (.type "method_descriptor")) (hm:MtR X id r) (ho:PE X o to) (ha:PA X (e::es) t)
  (hbase:attributeBase o name X.env (eval o X.env)=eval o X.env:=by rfl)
  (hfew:((backTo cpos (starEach (e::es) X.env)).all (fun x => !x.1)&&(backToKw cpos (keywordEach [] X.env)).all (fun x=>x.1.isSome)
   && decide ((e::es).length+([]:List Keyword).length+(if ([]:List Keyword).isEmpty then 0 else 1)<30))=true:=by rfl)
  (hline:(apos.endLine == cpos.line)=true:=by rfl) (hs:starEach (e::es) X.env=(false,eval e X.env)::starEach es X.env:=by rfl) (hplain:(backTo cpos (starEach es X.env)).any (·.1)=false:=by rfl) :
  PE X (.Call (.Attribute o name apos) (e::es) [] cpos) (D3 X.K T r to t):=by
 intro pins s σ H Q I h
 refine wpAny_Call_method_late hbase hfew hline rfl (jK (ho pins s σ H _ I h) fun v s1 ⟨x,H1,I1,r1,ty,q1⟩=>?_)
 obtain ⟨h1,h2⟩:=mP I1 r1 ty
 refine ⟨T,id,pa,slot,hty,h1,h2,?_⟩
 have hA:=ha cpos pins s1 σ H1 _ I1 q1
 rw [hs] at hA ⊢
 refine Calls.callWith_builtin (by show (false||(backTo cpos (starEach es X.env)).any (·.1))=false;rw [hplain]<;>rfl) (Calls.evalArgs_plain ?_)
 exact jK hA fun us s2 ⟨vs,H2,I2,r2,q2⟩=>hm pins s2 σ H2 x vs v us Q I2 r1 r2 q2
/- xs.append(e),list.index on a module's tuple .. are MtR facts of 06m -/
end
end L2
namespace L2
open PySem PySem.Spec PyProof.Rows
def dM (X:Cx) (id:String) (r:V→List V→Hp→VK→Prop):Prop :=
 ∀(pins:List (Addr×Obj)) (s:Shared) (σ:St) (H:Hp) (x:V) (xs:List V) (v:Value) (us:List Value) (Q:VK),Inv X pins σ H s→RelV x v→Vals xs us→r x xs H Q→
  wpAny (model X.prog X.w) X.A (call (.builtin id) (v::us)) (EP X pins σ Q) X.xe s
theorem Vals.one:∀{x:V} {us:List Value},Vals [x] us→∃u,us=[u]∧RelV x u
 |_,_,.cons r .nil=>⟨_,rfl,r⟩
theorem Vals.two:∀{x y:V} {us:List Value},Vals [x,y] us→∃u v,us=[u,v]∧RelV x u∧RelV y v
 |_,_,_,.cons r (.cons q .nil)=>⟨_,_,rfl,r,q⟩
theorem Vals.zero:∀{us:List Value},Vals [] us→us=[]
 |_,.nil=>rfl
theorem Vals.reverse {xs:List V} {us:List Value} (h:Vals xs us):Vals xs.reverse us.reverse:=by
 induction h with
 |nil=>exact .nil
 |cons r t ih=>rw [List.reverse_cons,List.reverse_cons];exact Vals.append ih (.cons r .nil)
theorem Vals.rep {xs:List V} {us:List Value} (h:Vals xs us):∀k:Nat,Vals (List.replicate k xs).flatten (List.replicate k us).flatten
 |0=>.nil
 |k+1=>by
  rw [List.replicate_succ,List.replicate_succ,List.flatten_cons,List.flatten_cons]
  exact Vals.append h (Vals.rep h k)
theorem iJ (its:List Value):∀(k:Nat) (acc:List Value),
  List.foldl (fun x1 x2=>x1++x2) acc.toArray (List.replicate k its.toArray)=(acc++(List.replicate k its).flatten).toArray
 |0,acc=>by simp
 |k+1,acc=>by
  have e:acc.toArray++its.toArray=(acc++its).toArray:=by simp
  have e2:(acc++its)++(List.replicate k its).flatten=acc++(List.replicate (k+1) its).flatten:=by
   rw [List.replicate_succ,List.flatten_cons,List.append_assoc]
  rw [← e2,← iJ its k (acc++its),← e,List.replicate_succ,List.foldl_cons]
section
variable {X:Cx} {pins:List (Addr×Obj)} {σ:St} {H:Hp} {s:Shared} {l b:Addr} {xs ys zs:List V}
theorem Inv.lset {its its':List Value} {n:Nat} {f:Array Value→Array Value} {t':Nat} (I:Inv X pins σ H s) (hH:H l=some (.lst xs))
  (e:s.heap.get? l=some {cls:=.type "list",data:=.seq its.toArray n}) (hf:f its.toArray=its'.toArray) (hv:Vals ys its') (hz:ys.length≤sizeLine) :
  Inv X pins σ (upd H l (.lst ys)) {s with heap:=s.heap.update l (Obj.mapSeq f),toks:=t'}:=by
 have q:=PySem.IsL.update e f
 rw [hf] at q
 refine I.write (x:=l) (e:=l) (by rw [hH];exact trivial) (.inl rfl) (fun b' u hb hu=>(Heap.get?_update_other s.heap (Obj.mapSeq f) (Ne.symm hb)).trans hu) ⟨_,q⟩ ?_
 exact ⟨hz,its',_,hv,q⟩
theorem Inv.lnew {its:List Value} {t':Nat} (I:Inv X pins σ H s) (hv:Vals ys its) (hz:ys.length≤sizeLine) :
  Inv X pins σ (upd H s.heap.objs.size (.lst ys)) {s with heap:=s.heap.push {cls:=.type "list",data:=.seq its.toArray},toks:=t'} :=
 I.laid (fun _ _ q=>Heap.get?_push_of_some _ q) (Nat.le_refl _) ⟨hz,its,0,hv,Heap.get?_push_size _ rfl⟩
theorem Inv.fresh (I:Inv X pins σ H s):H s.heap.objs.size=none:=I.hok.fresh (Nat.le_refl _)
theorem Inv.lstM (I:Inv X pins σ H s) (hH:H l=some (.lst xs)):xs.length≤sizeLine∧∃(its:List Value) (n:Nat),Vals xs its∧xs.length=its.length∧s.heap.get? l=some {cls:=.type "list",data:=.seq its.toArray n}:=by
 obtain ⟨z,its,n,r,e⟩:=I.hok l _ hH
 exact ⟨z,its,n,r,r.length,e⟩
theorem xC {n:Nat} (h:n≤sizeLine):Builtin.List.listTooLong n=false:=by
 unfold Builtin.List.listTooLong
 exact decide_eq_false (by omega)
end
section
variable {X:Cx}
def AB:V→List V→Hp→VK→Prop:=fun x vs H Q=>∃l xs y,x=.ref l∧vs=[y]∧H l=some (.lst xs)∧xs.length<sizeLine∧Q .non (upd H l (.lst (xs++[y])))
theorem vR:dM X "list.append" AB:=by
 intro pins s σ H x vs v us Q I rx rv h
 obtain ⟨l,xs,y,rfl,rfl,hH,hz,q⟩:=h
 cases rx
 obtain ⟨u,rfl,ru⟩:=rv.one
 obtain ⟨z,its,n,r,hl,e⟩:=I.lstM hH
 refine call_meets F.slot_list_append ⟨_,e,rfl⟩ F.entry_list_append (F.args_list_append_2 _ _) (PySem.list_append l its.toArray n u (by rw [List.size_toArray];omega)) ⟨e,?_⟩
 refine ⟨.non,_,I.lset (its':=its++[u]) hH e (by simp) (r.append (.cons ru .nil)) ?_,rfl,q⟩
 rw [List.length_append,List.length_singleton]
 omega
def wX:V→List V→Hp→VK→Prop:=fun x vs H Q=>∃l xs,x=.ref l∧vs=[]∧H l=some (.lst xs)∧Q .non (upd H l (.lst xs.reverse))
theorem tF:dM X "list.reverse" wX:=by
 intro pins s σ H x vs v us Q I rx rv h
 obtain ⟨l,xs,rfl,rfl,hH,q⟩:=h
 cases rx
 have hus:=rv.zero
 subst hus
 obtain ⟨z,its,n,r,hl,e⟩:=I.lstM hH
 refine call_meets F.slot_list_reverse ⟨_,e,rfl⟩ F.entry_list_reverse (F.args_list_reverse_1 _) (AutoSeq1.list_reverse_list_0 l its.toArray n (by rw [List.size_toArray];omega)) ⟨e,?_⟩
 refine ⟨.non,_,I.lset (its':=its.reverse) hH e (by simp) r.reverse ?_,rfl,q⟩
 rw [List.length_reverse]
 omega
def DJ:R2:=fun x y H Q=>∃l b xs zs,x=.ref l∧y=.ref b∧H l=some (.lst xs)∧H b=some (.lst zs)∧xs.length+zs.length≤sizeLine∧∀p,H p=none→Q (.ref p) (upd H p (.lst (xs++zs)))
theorem z6:OpR X (binaryOp .Add) DJ:=by
 intro pins s σ H x y v u Q I rx ry h
 obtain ⟨l,b,xs,zs,rfl,rfl,hH,hB,hz,q⟩:=h
 cases rx
 cases ry
 obtain ⟨z,its,n,r,hl,e⟩:=I.lstM hH
 obtain ⟨z2,its2,n2,r2,hl2,e2⟩:=I.lstM hB
 refine PySem.P.add_list e e2 ?_ (by rw [List.size_toArray,List.size_toArray];omega)
 have ea:its.toArray++its2.toArray=(its++its2).toArray:=by simp
 rw [ea]
 exact ⟨.ref _,_,I.lnew (t':=s.toks) (r.append r2) (by rw [List.length_append];omega),rfl,q _ I.fresh⟩
def DH:R2:=fun x y H Q=>∃l k xs,x=.ref l∧y=.int k∧H l=some (.lst xs)∧-(2 ^ 63)≤k∧k<2 ^ 63∧xs.length*k.toNat≤sizeLine∧
 ∀p,H p=none→Q (.ref p) (upd H p (.lst (List.replicate k.toNat xs).flatten))
theorem AR {α:Type} (xs:List α) (k:Nat):(List.replicate k xs).flatten.length=k*xs.length:=by
 induction k with
 |zero=>simp
 |succ k ih=>rw [List.replicate_succ,List.flatten_cons,List.length_append,ih,Nat.succ_mul,Nat.add_comm]
theorem BR:OpR X (binaryOp .Mult) DH:=by
 intro pins s σ H x y v u Q I rx ry h
 obtain ⟨l,k,xs,rfl,rfl,hH,h1,h2,hz,q⟩:=h
 cases rx
 obtain ⟨t,rfl⟩:=ry
 obtain ⟨z,its,n,r,hl,e⟩:=I.lstM hH
 have hlen:its.toArray.size*k.toNat≤sizeLine:=by rw [List.size_toArray,← hl];exact hz
 have hcap:¬its.toArray.size*k.toNat>(2 ^ 63 - 1) / 8:=by
  have:(sizeLine:Nat)≤(2 ^ 63 - 1) / 8:=by decide
  omega
 have hfit:¬(!Builtin.List.listFitsIndex k)=true:=by
  rw [fitsIndex_both h1 h2]
  exact Bool.false_ne_true
 have hlong:¬Builtin.List.listTooLong (its.toArray.size*k.toNat)=true:=by
  rw [xC hlen]
  exact Bool.false_ne_true
 have hnew:List.foldl (fun x1 x2=>x1++x2) #[] (List.replicate (if its.toArray.isEmpty=true then 0 else k.toNat) its.toArray)=(List.replicate k.toNat its).flatten.toArray:=by
  have f0:∀m:Nat,List.foldl (fun x1 x2=>x1++x2) #[] (List.replicate m its.toArray)=(List.replicate m its).flatten.toArray:=fun m=>by
   have:=iJ its m []
   rw [List.nil_append] at this
   exact this
  rw [f0]
  cases its with
  |nil=>simp
  |cons a r'=>rw [if_neg (by simp)]
 refine wpAny_binaryOp_repeat_ref (T:="list") (U:="int") (by decide) ⟨_,e,rfl⟩ (fun s'=>typeIs_int s' k t) noFill_list_mul F.fills_int_mul F.slot_int_rmul repeat_list F.slot_int_index.lookup
  (call_meets F.slot_int_rmul (typeIs_int s k t) F.entry_int_rmul (F.args_int_rmul_2 _ _) (int___rmul___int_list k t l its.toArray n)
   ⟨e,rfl,⟨_,e,rfl⟩,call_meets F.slot_list_mul ⟨_,e,rfl⟩ F.entry_list_mul (F.args_list_mul_2 _ _) (AutoListH.list___mul___list_int_3 l its.toArray n k t hfit hcap hlong) ⟨e,?_⟩⟩)
 rw [hnew]
 exact ⟨.ref _,_,I.lnew (t':=s.toks) (r.rep k.toNat) (by rw [AR,Nat.mul_comm];exact hz),rfl,q _ I.fresh⟩
end
section
variable {prog:Program} {w:World} {A:Around} {E:Value→Shared→Prop} {s:Shared}
end
section
variable {X:Cx}
end
end L2
namespace Att
open PySem PySem.W PySem.Calls PyProof.Rows
theorem rP {P:Params} {h:Heap}:∀(ns:List Int) (vs:List Value),WellAll P h vs (ns.map WData.int)→IntsAre vs ns:=by
 intro ns
 induction ns with
 |nil =>
  intro vs w
  rw [List.map_nil] at w
  cases w
  exact .nil
 |cons n ns ih =>
  intro vs w
  rw [List.map_cons] at w
  cases w with
  |cons a b =>
   cases a
   exact .cons _ _ (ih _ b)
theorem uD {l:OpenLaw} {n:Nat} (hn:l.most=some n) {P:Params} {h:Heap} {args:List WData} {vals:List Value}
  (hpre:l.row.toRowW.claim.pre args=true) (hwl:WellAll P h vals args) :
  ∃a vs ns,vals=[Value.ref a]∧args=[WData.list (ns.map WData.int)]∧h.get? a=some {cls:=.type "list",data:=.seq vs.toArray}∧IntsAre vs ns∧ns.length≤n:=by
 have hsh:WShape.hasAll [] args [.list .int]=true:=(pre_splitW hpre).1
 have hc:l.pre.holds [] {args:=args}=true:=(pre_splitW hpre).2
 obtain ⟨d,r,rfl,h1,h2⟩:=hasAllW_cons hsh
 obtain rfl:=hasAllW_nil h2
 obtain ⟨xs,rfl,h3⟩:=hasW_list h1
 obtain ⟨ns,rfl⟩:=items_int h3
 have hlen:ns.length≤n:=by
  unfold OpenLaw.pre at hc
  have h4:(WTm.not (.lt (.lit (.int (n:Int))) (.len (.arg 0)))).holds [] {args:=[.list (ns.map .int)]}=true:=by
   have h4:=(holds_andW hc).1
   rw [hn] at h4
   exact h4
  have h5:=condW_of h4 (w_not (w_lt w_lit (w_len_list (w_arg rfl))))
  rw [List.length_map] at h5
  refine Nat.le_of_not_lt fun q=>?_
  have q':(n:Int)<((ns.length:Nat):Int):=by omega
  first
   | (rw [decide_eq_true q'] at h5;exact absurd h5 (by decide))
   | (simp at h5;omega)
 cases hwl with
 |cons w1 w2 =>
  cases w2
  cases w1 with
  |list ho hall=>exact ⟨_,_,ns,rfl,rfl,ho,rP ns _ hall,hlen⟩
theorem uG (l:OpenLaw) (args:List WData):l.row.toRowW.claim.post args (.bool true) args=true :=
 postW_of (r:=l.row.toRowW) (X:=(true == true))
  (show WShape.has [] (.bool true) .bool=true by first|rfl|decide|simp [WShape.has,WShape.arms,WShape.armsAll])
  (show (WTm.eq .res (.lit (.bool true))).value [] {args:=args,res:=some (.bool true),after:=args}=some (.bool (true == true)) from w_eq_bool (w_res rfl) w_lit) rfl
theorem attach_call {l:OpenLaw} {n:Nat} {q:Program} {loose:List Str} {XP:(Str→Option Value)→Heap→Prop} {YP:World→Heap→Prop} {d:DefRec}
  (hn:l.most=some n) (hdf:d.params.defaults=[])
  (call:∀(w:World) (s₀ s₁:Shared) (mg mb:Str→Option Value) (fa:Addr) (o:Obj) (pm cd doc:Value) (a:Addr) (vs:List Value) (ns:List Int),
   Ground q loose [] XP w s₀ mg mb s₁.heap→YP w s₁.heap→
   s₁.heap.get? fa=some o→o.data=.func (docDef d.name d.params d.body d.scope pm cd doc)→s₁.heap.CodeRec cd d.name→mg d.name=some (.ref fa)→
   s₁.heap.get? a=some {cls:=.type "list",data:=.seq vs.toArray}→IntsAre vs ns→ns.length≤n→s₁.gens = #[]→
   codeAny (model l.prog w) callerA (.call (.ref fa) ⟨[.ref a],[]⟩) (fun r s'=>r=.ok (.ret (.bool true))∧OldK s₁.heap s'.heap∧s'.os=s₁.os∧AllBare s'.gens) s₁) :
  WalkO q loose XP YP l.row.toRowW d [] (fun f vs=>PySem.call f vs):=by
 intro w s₀ s₁ mg mb G Y fa o pm cd doc dV kV ho hd hcd hD hmg hg args vals as hpre hlay hrd hwl hlo
 obtain rfl:dV=.none:=Dflts.none hD hdf
 obtain rfl:kV=.none:=Dflts.noKw hD
 obtain ⟨a,vs,ns,rfl,rfl,hobj,hints,hlen⟩:=uD hn hpre hwl
 refine enter_call (codeAny_mono (call w s₀ s₁ mg mb fa o pm cd doc a vs ns G Y ho (fd_plain hd) hcd hmg hobj hints hlen hg) fun r s' hq=>?_)
 obtain ⟨rfl,h2,h3,h4⟩:=hq
 exact ⟨.inl ⟨.bool true,.bool true,[],rfl,fun _=>rfl,.bool true,uG l _,fun _=>⟨List.Pairwise.nil,fun _ hm=>(nomatch hm)⟩⟩,h2,h3,h4⟩
section
variable {prog:Program} {w:World} {A:Around} {E:Value→Shared→Prop} {s:Shared} {K:Frag}
def D6 (h:Heap) (L d:Addr):List (Addr×Obj):=(List.range h.objs.size).filterMap fun a=>if a=L∨a=d then none else (h.get? a).map fun o=>(a,o)
end
end Att
namespace L2
open PySem PySem.Spec PyProof.Rows
theorem gQ:∀{vs:List Value} {ns:List Int},IntsAre vs ns→Vals (ns.map V.int) vs
 |_,_,.nil=>.nil
 |_,_,.cons n t h=>.cons ⟨t,rfl⟩ (gQ h)
def fN (H:Hp):Prop:=∀b,H b=none∨∃o xs,H b=some (.frz o (.lst xs))
theorem xI {P:Program} {w:World} {K:PySem.W.Frag} {mg mb:Str→Option Value} {CX:v8} {k:Nat} {fa a:Addr} {fd:FuncData} {x:Str} {sp:Sp} {s₁:Shared} {vs:List Value} {ns:List Int}
  (KX:K.In s₁.heap) (hns:s₁.heap.Ns mainGlobals mg) (hb:s₁.heap.Ns builtinsNs mb) (hbb:∀x:Str,x≠"__name__"→mb x=bootBuiltins x) (hlim:s₁.heap.NoLimit) (hg:s₁.gens = #[])
  (ha:s₁.heap.get? a=some {cls:=.type "list",data:=.seq vs.toArray}) (hi:IntsAre vs ns) (hl:ns.length≤sizeLine) (hr:Room k callerA)
  (F:∀base:Heap,K.In base→base.Ns mainGlobals mg→FnOk P w K mg base CX k fa fd [x] sp) (hbind:∀(s:Shared) (u:Value),BindsTo s fd ⟨[u],[]⟩ [(x,u)])
  (hsp:∀H:Hp,fN H→SqL K H a (ns.map V.int)→sp [.ref a] H (fun v _=>v=.bl true) fun _ _ _=>False)
  (hCX:∀H e s',CX [] H s₁ (fun _ _ _=>False) e s'→False) :
  codeAny (model P w) callerA (.call (.ref fa) ⟨[.ref a],[]⟩) (fun r s'=>r=.ok (.ret (.bool true))∧OldK s₁.heap s'.heap∧s'.os=s₁.os∧AllBare s'.gens) s₁:=by
 have rv:=gQ hi
 have lenV:=hi.length
 have core:∀H:Hp,fN H→SqL K H a (ns.map V.int)→HOk P w H s₁.heap→(∀b,H b≠none→b=a)→(H a≠none→K.lookup a=none)→
   codeAny (model P w) callerA (.call (.ref fa) ⟨[.ref a],[]⟩) (fun r s'=>r=.ok (.ret (.bool true))∧OldK s₁.heap s'.heap∧s'.os=s₁.os∧AllBare s'.gens) s₁:=by
  intro H hO hS hok hA hK
  have base_of:∀{b:Addr} {o:Obj},s₁.heap.get? b=some o→H b=none→(y9 s₁.heap H).get? b=some o:=fun e n=>xK e n
  have noA:∀{b:Addr} {o:Obj} {es:Array DictEntry} {ep:Nat},s₁.heap.get? b=some o→o.data=.dict es ep→H b=none:=fun {b o es ep} e d=>by
   cases q:H b with
   |none=>rfl
   |some u =>
    have e':b=a:=hA b (by rw [q];simp)
    subst e'
    rw [ha] at e;cases e
    have d':Data.seq vs.toArray _=Data.dict es ep:=d
    cases d'
  have nsK:∀{b:Addr} {m:Str→Option Value},s₁.heap.Ns b m→(y9 s₁.heap H).Ns b m:=fun {b m} ⟨o,es,ep,e,d,r⟩=>⟨o,es,ep,base_of e (noA e d),d,r⟩
  have hKb:K.In (y9 s₁.heap H):=fun b o e=>base_of (KX b o e) (by
   cases q:H b with
   |none=>rfl
   |some u =>
    have e':b=a:=hA b (by rw [q];simp)
    subst e'
    rw [hK (by rw [q];simp)] at e;cases e)
  have hM:Mod K mg (y9 s₁.heap H):=⟨hKb,nsK hns,⟨mb,nsK hb,hbb⟩,let ⟨mc,h1,h2⟩:=hlim;⟨mc,nsK h1,h2⟩⟩
  have e0:Env0 P w K mg (y9 s₁.heap H) callerA [] s₁ H:=⟨rfl,hM,fun b o e=>AI e,Nat.le_of_eq (uX _ _),trivial,fun b hb=>absurd (show b∈([]:List Addr) from hb) (by simp),hok,.of_eq hg⟩
  refine codeAny_mono ((F _ hKb (nsK hns)).run callerA [] s₁ H ⟨[.ref a],[]⟩ [.ref a] [.ref a] _ _ hr e0 (hbind s₁ (.ref a)) (.cons rfl .nil) (hsp H hO hS)) fun r s' h=>?_
  cases r with
  |error e=>exact (hCX H e s' h).elim
  |ok fl =>
   cases fl with
   |next=>exact False.elim h
   |brk=>exact False.elim h
   |cont=>exact False.elim h
   |ret u =>
    obtain ⟨v,H',os,bare,un,hok',r',q⟩:=h
    have q':v=.bl true:=q
    subst q'
    obtain rfl:u=Value.bool true:=r'
    refine ⟨rfl,OldK.of_keep fun b o e=>?_,os,bare⟩
    cases q:H b with
    |none=>exact un.keep b o e q (by intro z;exact absurd (show b∈([]:List Addr) from z) (by simp)) (by simp)
    |some u =>
     rcases hO b with z|⟨ob,xs,z⟩
     ·rw [q] at z;cases z
     ·have z2:=un.frzs b ob _ z
      obtain ⟨e1,_⟩:=hok b _ z
      obtain ⟨e2,_⟩:=hok' b _ z2
      rw [e] at e1;cases e1
      exact e2
 cases hk:K.lookup a with
 |some o =>
  have e:=KX a o hk
  rw [ha] at e
  cases e
  refine core (fun _=>none) (fun _=>.inl rfl) (.inr ⟨_,vs.toArray,_,hk,rfl,rfl,rfl,by rw [List.size_toArray,lenV];exact hl,by simpa using rv⟩) (fun b u z=>by have z':(none:Option HO)=some u:=z;cases z') (fun b z=>absurd rfl z) fun z=>absurd rfl z
 |none =>
  refine core (fun b=>if b=a then some (.frz {cls:=.type "list",data:=.seq vs.toArray} (.lst (ns.map V.int))) else none) (fun b=>?_) (.inl (.inr ⟨{cls:=.type "list",data:=.seq vs.toArray},if_pos rfl⟩)) (fun b u z=>?_) (fun b z=>?_) fun _=>hk
  ·by_cases hb:b=a
   ·exact .inr ⟨_,_,if_pos hb⟩
   ·exact .inl (if_neg hb)
  ·by_cases hb:b=a
   ·have z':=(if_pos hb).symm.trans z
    cases z'
    subst hb
    exact ⟨ha,by rw [List.length_map];exact hl,vs,_,rv,ha⟩
   ·have z':=(if_neg hb).symm.trans z
    cases z'
  ·by_cases hb:b=a
   ·exact hb
   ·exact absurd (if_neg hb) z
end L2
namespace L2
open PySem PySem.Spec PyProof.Rows
abbrev KOf {K:PySem.W.Frag} {h:Heap} (_:K.In h):PySem.W.Frag:=K
theorem walk_of {l:PySem.W.OpenLaw} {n k:Nat} {q:Program} {loose:List Str} {XP:(Str→Option Value)→Heap→Prop} {YP:World→Heap→Prop} {d:DefRec} {K:Params→PySem.W.Frag} {CX:World→v8} {sp:World→Sp} {x:Str}
  (hn:l.most=some n) (hn2:n≤sizeLine) (hdf:d.params.defaults=[]) (hr:Room k callerA)
  (hY:∀(w:World) (h:Heap),YP w h→(K w.params).In h)
  (F:∀(w:World) (mg:Str→Option Value) (fa:Addr) (h:Heap),(K w.params).In h→h.Ns mainGlobals mg→mg d.name=some (.ref fa)→
   ∃fd:FuncData,(∀(s:Shared) (u:Value),BindsTo s fd ⟨[u],[]⟩ [(x,u)])∧
    ∀base:Heap,(K w.params).In base→base.Ns mainGlobals mg→FnOk l.prog w (K w.params) mg base (CX w) k fa fd [x] (sp w))
  (hsp:∀(w:World) (H:Hp) (a:Addr) (ns:List Int),ns.length≤n→fN H→SqL (K w.params) H a (ns.map V.int)→sp w [.ref a] H (fun v _=>v=.bl true) fun _ _ _=>False)
  (hCX:∀(w:World) (H:Hp) (s:Shared) (e:Value) (s':Shared),CX w [] H s (fun _ _ _=>False) e s'→False) :
  PySem.W.WalkO q loose XP YP l.row.toRowW d [] (fun f vs=>PySem.call f vs):=by
 refine Att.attach_call hn hdf fun w s₀ s₁ mg mb fa o pm cd doc a vs ns G Y ho hd hcd hmg hobj hints hlen hg=>?_
 have KX:=hY w _ Y
 obtain ⟨fd,hb,hF⟩:=F w mg fa _ KX G.T.g hmg
 exact xI KX G.T.g G.T.b G.T.builtins G.T.nolimit hg hobj hints (Nat.le_trans hlen hn2) hr hF hb (fun H hO hS=>hsp w H a ns hlen hO hS) fun H e s'=>hCX w H s₁ e s'
end L2
/- THE LAST THEOREM (shape;LID,My.* are yours):
  My.Adr: a structure of the addresses that your layer names (classes,functions);My.Txt K t: a structure (Prop) of the equations over K;
  My.txt_mk:{K} {implicit addresses ..} (e1:nsIn K mainGlobals "law"=some (some (.ref f))) (e2:K.lookup f=some ⟨oc,od,.func (fnOf "law" "law" params body scope dV kV doc pm an cdv ct),sl⟩) (e3:codeIn K cdv "law"=true) .. : ∃t,My.Txt K t
set_option maxRecDepth 100000 in
set_option maxHeartbeats 0 in
theorem PySem.Challenge.cw_LID_holds : PySem.Challenge.rw_LID.Holds := by
 w_on;o_law;k_head;(case hw=>w_witness2)
 k_fill
 refine L2.walk_of (l:=PySem.Challenge.rw_LID) (n:=63) (k:=40) (x:="script") (CX:=fun w=>..) (sp:=fun _=>My.sp_law) rfl (by decide) rfl ⟨rfl,by decide,by decide⟩ (fun w h Y=>PySem.W.kIn_of Y) ?F ?S ?C
 case F =>
  intro w mg fa h KX G hmg
  have T:∃t,My.Txt (L2.KOf KX) t:=by
   dsimp only [L2.KOf] -- K must stand as «<heap const> w.params» for k_is
   refine' My.txt_mk ?e1 ?e2 ?e3 ..
   (case e1=>PySem.W.k_is) -- in the order: a name -> its address -> its object -> its parts
   (case e2=>PySem.W.k_is)
   ..
  obtain ⟨t,T⟩:=T
  have e0:=hmg.symm.trans (PySem.W.mg_of KX G T.law)
  cases e0 -- fa is the law's own address
  exact ⟨_,fun s u=>.of_eq rfl,fun base kb nb=>My.law_fn T kb nb⟩ -- if «.of_eq rfl» comes too early: refine' ⟨_,?b,fun base kb nb=>My.law_fn T kb nb⟩;exact fun s u=>.of_eq rfl
 case S=>exact fun w H a ns hl hO hS=>..
 case C=>exact ..
(the tactic k_is has no namespace: write k_is) -/
namespace L2
open PySem PySem.Spec PyProof.Rows
def yC (s:Stmt) (j:Nat):Stmt:=match s with
 |.ClassDef _ _ _ body _ _ _ _ _ _ _=>body.getD j (.Pass ⟨0,0,0,0⟩)
 |_=>.Pass ⟨0,0,0,0⟩
def jW (s:Stmt):Arguments:=match s with
 |.FunctionDef _ a _ _ _ _ _ _ _ _=>a
 |_=>{posonlyargs:=[],args:=[],vararg:=none,kwonlyargs:=[],kw_defaults:=[],kwarg:=none,defaults:=[]}
def jT (s:Stmt):List Stmt:=match s with
 |.FunctionDef _ _ b _ _ _ _ _ _ _=>b
 |_=>[]
def jG (s:Stmt):Scope:=match s with
 |.FunctionDef _ _ _ _ _ _ sc _ _ _=>sc
 |_=>{kind:=.function,names:=[],isGenerator:=false,isCoroutine:=false}
abbrev jR:v8:=fun _ _ _ _ _ _=>False
abbrev E0:XK:=fun _ _ _=>False
theorem cY {X:Cx}:ZS jR X E0:=fun _ _ _ _ _ _ _ h=>h.elim
structure Fun (K:PySem.W.Frag) (x qual:Str) (st:Stmt) (f:Addr) (fd:FuncData):Prop where
 ex:∃(oc:Value) (od:Option Addr) (kV doc pm:Value) (an:Option Addr) (cdv ct:Value) (osl:Array (Option Value)),
  fd=PySem.W.fnOf x qual (jW st) (jT st) (jG st) .none kV doc pm an cdv ct∧K.lookup f=some ⟨oc,od,.func fd,osl⟩∧PySem.W.codeIn K cdv qual=true
 kp:PySem.W.keepIn K (.ref f)=true
section
variable {P:Program} {w:World} {K:PySem.W.Frag} {mg:Str→Option Value} {base:Heap}
theorem Fun.ok {x qual:Str} {st:Stmt} {f:Addr} {fd:FuncData} {N ps:List Str} {k:Nat} {sp:Sp} (F:Fun K x qual st f fd) (S:FnScope N ps (jG st)) (len:∀vs H Q E,sp vs H Q E→vs.length=ps.length)
  (hbody:∀(cdv:Value) (A:Around) (outer:List Env) (s:Shared) (H:Hp) (vs:List V) (Q:VK) (E:XK),Room k (A.deeper (envOfC qual (jG st) s.heap.objs.size f cdv))→sp vs H Q E→
   ∃t,PSs (JA jR P w K mg base N qual (jG st) f cdv A outer s H E).nox (jT st) t∧t {nx:=fun _ H'=>Q .non H',rt:=Q} (y6 N vs) H):FnOk P w K mg base jR (k+1) f fd ps sp:=by
 obtain ⟨oc,od,kV,doc,pm,an,cdv,ct,osl,rfl,lk,hcd⟩:=F.ex
 refine nB lk hcd S len fun A outer s H vs Q E hr hsp=>?_
 obtain ⟨t,h,q⟩:=hbody cdv A outer s H vs Q E hr hsp
 exact ⟨t,h.nox,q⟩
theorem Fun.binds {x qual:Str} {st:Stmt} {f:Addr} {fd:FuncData} {ps:List Str} (F:Fun K x qual st f fd)
  (h:∀(kV doc pm:Value) (an:Option Addr) (cdv ct:Value) (us:List Value),us.length=ps.length→bindArgs (PySem.W.fnOf x qual (jW st) (jT st) (jG st) .none kV doc pm an cdv ct) ⟨us,[]⟩=pure (ps.zip us)):Binds K fd ps []:=by
 obtain ⟨oc,od,kV,doc,pm,an,cdv,ct,osl,rfl,lk,hcd⟩:=F.ex
 exact .all (h kV doc pm an cdv ct)
theorem kE {x qual:Str} {st:Stmt} {f:Addr} {oc:Value} {od an:Option Addr} {osl:Array (Option Value)} {kV doc pm cdv ct:Value} (l:K.lookup f=some ⟨oc,od,.func (PySem.W.fnOf x qual (jW st) (jT st) (jG st) .none kV doc pm an cdv ct),osl⟩)
  (c:PySem.W.codeIn K cdv qual=true) (k:PySem.W.keepIn K (.ref f)=true):Fun K x qual st f (PySem.W.fnOf x qual (jW st) (jT st) (jG st) .none kV doc pm an cdv ct):=⟨⟨oc,od,kV,doc,pm,an,cdv,ct,osl,rfl,l,c⟩,k⟩
end
theorem kD {A:Around} {k:Nat} (hr:Room k A):A.units+1<cLine:=Nat.lt_of_le_of_lt (Nat.add_le_add_left (by decide:1≤64) _) hr.units
theorem qJ {n:Nat} (h:n≤1000):n<sizeLine:=Nat.lt_of_le_of_lt h (by decide)
section
variable {X:Cx}
theorem pv (i:Nat) {x:Str} {pos:Pos} (hN:X.N[i]?=some x:=by rfl) (hv:dH X.env.scope x:=by first|exact Or.inl rfl|exact Or.inr (Or.inl rfl)|exact Or.inr (Or.inr rfl)) (hd:(x == ("__debug__":Str))=false:=by decide)
  (hcd:(x == ("__classdict__":Str))=false:=by decide):PE X (.Name x pos) (nI i):=BN hN hv hd hcd
end
theorem kS {A B:Prop} (h:B):if false=true then A else B:=by
 rw [if_neg Bool.false_ne_true]
 exact h
theorem vM {A B:Prop} (h:A):if true=true then A else B:=by
 rw [if_pos rfl]
 exact h
theorem z9 {c A B:Prop} [Decidable c] (h1:c→A) (h2:¬c→B):if c then A else B:=by
 by_cases h:c
 ·rw [if_pos h]
  exact h1 h
 ·rw [if_neg h]
  exact h2 h
theorem qD {c A B:Prop} [Decidable c] (hc:c) (h:B):if (!decide c)=true then A else B:=by
 rw [decide_eq_true hc]
 exact kS h
def Same (H H':Hp):Prop:=∀b o,H b=some o→H' b=some o
theorem Same.refl (H:Hp):Same H H:=fun _ _ h=>h
theorem Same.trans {H H1 H2:Hp} (a:Same H H1) (b:Same H1 H2):Same H H2:=fun c o h=>b c o (a c o h)
theorem Same.free {H H':Hp} (e:Same H H') {l:Addr} (h:H' l=Option.none):H l=Option.none:=by
 cases q:H l with
 |none=>rfl
 |some o =>
  rw [e l o q] at h
  cases h
theorem Same.seq {K:PySem.W.Frag} {H H':Hp} {a:Addr} {xs:List V} (e:Same H H') (h:SqL K H a xs):SqL K H' a xs:=by
 rcases h with (h|⟨o,h⟩)|h
 ·exact .inl (.inl (e _ _ h))
 ·exact .inl (.inr ⟨o,e _ _ h⟩)
 ·exact .inr h
end L2
namespace L2
open PySem PySem.Spec PyProof.Rows
def vA (cells:List (Str×Addr)):List (Str×NameKind)→List (Str×Addr)→List (Str×Addr)
 |[],cs=>cs
 | (n,k)::r,cs=>if (k == NameKind.free)=true then vA cells r ((n,(cells.lookup n).getD 0)::cs) else vA cells r cs
theorem fX {scope:Scope} {env:Env} (h:∀x∈scope.names,x.2=.free→∃c,env.cells.lookup x.1=some c):closureFor scope env=pure (vA env.cells scope.names []):=by
 simp only [closureFor]
 have go:∀(l:List (Str×NameKind)) (cs:List (Str×Addr)),(∀x∈l,x.2=.free→∃c,env.cells.lookup x.1=some c)→
   (forIn l cs fun x r=>match x with|(name,kind)=>if (kind == NameKind.free)=true then do let a ← cellOf env name;pure (ForInStep.yield ((name,a)::r)) else pure (ForInStep.yield r):Sem (List (Str×Addr)))=pure (vA env.cells l cs):=by
  intro l
  induction l with
  |nil=>intro cs _;rfl
  |cons p r ih =>
   intro cs hp
   obtain ⟨n,k⟩:=p
   rw [List.forIn_cons]
   have hr:=fun cs=>ih cs fun x hx=>hp x (List.mem_cons_of_mem _ hx)
   by_cases hk:(k == NameKind.free)=true
   ·have hk':k=NameKind.free:=by simpa using hk
    obtain ⟨c,hc⟩:=hp (n,k) List.mem_cons_self hk'
    have hc':env.cells.lookup n=some c:=hc
    simp only [hk,if_true,vA,cellOf,hc',Option.getD_some,pure_bind]
    exact hr _
   ·simp only [hk,if_false,vA,pure_bind]
    exact hr _
 rw [go scope.names [] h]
 rfl
theorem bA {cells:List (Str×Addr)}:∀{l:List (Str×NameKind)} {cs:List (Str×Addr)} {x:Str} {c:Addr},(∀y∈l,y.2=.free→∃c,cells.lookup y.1=some c)→(∀y d,cs.lookup y=some d→cells.lookup y=some d)→
  (vA cells l cs).lookup x=some c→cells.lookup x=some c
 |[],cs,x,c,_,hc,e=>hc x c e
 | (n,k)::r,cs,x,c,hl,hc,e=>by
  unfold vA at e
  by_cases hk:(k == NameKind.free)=true
  ·rw [if_pos hk] at e
   obtain ⟨d,hd⟩:=hl (n,k) List.mem_cons_self (by simpa using hk)
   have hd':cells.lookup n=some d:=hd
   refine bA (fun y hy=>hl y (List.mem_cons_of_mem _ hy)) (fun y d' q=>?_) e
   rw [List.lookup_cons] at q
   by_cases hy:(y == n)=true
   ·rw [hy] at q
    have hyn:y=n:=by simpa using hy
    subst hyn
    rw [hd'] at q ⊢
    exact q
   ·rw [Bool.not_eq_true] at hy
    rw [hy] at q
    exact hc y d' q
  ·rw [if_neg hk] at e
   exact bA (fun y hy=>hl y (List.mem_cons_of_mem _ hy)) hc e
theorem dX {cells:List (Str×Addr)}:∀{l:List (Str×NameKind)} {cs:List (Str×Addr)} {x:Str},(∃c,cs.lookup x=some c)→∃c,(vA cells l cs).lookup x=some c
 |[],_,_,h=>h
 | (n,k)::r,cs,x,h=>by
  unfold vA
  by_cases hk:(k == NameKind.free)=true
  ·rw [if_pos hk]
   refine dX ?_
   rw [List.lookup_cons]
   by_cases hy:(x == n)=true
   ·rw [hy];exact ⟨_,rfl⟩
   ·rw [Bool.not_eq_true] at hy
    rw [hy];exact h
  ·rw [if_neg hk];exact dX h
theorem bG {cells:List (Str×Addr)}:∀{l:List (Str×NameKind)} {cs:List (Str×Addr)} {x:Str},(x,NameKind.free)∈l→∃c,(vA cells l cs).lookup x=some c
 | (n,k)::r,cs,x,h=>by
  unfold vA
  rcases List.mem_cons.mp h with e|e
  ·cases e
   rw [if_pos (by rfl)]
   exact dX (by rw [List.lookup_cons,beq_self_eq_true];exact ⟨_,rfl⟩)
  ·by_cases hk:(k == NameKind.free)=true
   ·rw [if_pos hk];exact bG e
   ·rw [if_neg hk];exact bG e
theorem wH {prog:Program} {w:World} {A:Around} {elt target iter:Expr} {ifs:List Expr} {scope:Scope} {pos:Pos} {it acc:Value} {env:Env} {R:Result→Shared→Prop} {s:Shared} (I:Nat→Shared→Prop)
  (turn:∀n s,I n s→wpAny (model prog w) A (pyNext it) (fun r s₁=>match r with
   |none=>R (.ok .next) s₁
   |some v=>wpAny (model prog w) A (letOwnedTupleGo target it v) (fun _ s₁'=>wpAny (model prog w) A (assign target env v) (fun _ s₂ =>
     wpAny (model prog w) A (forIn ifs true fun c r=>if r=true then do let ok ← isTrue c env (eval c env);pure (ForInStep.yield ok) else pure (ForInStep.yield r)) (fun ok s₃ =>
      if ok=true then wpAny (model prog w) A (eval elt env) (fun x s₄ =>
       wpAny (model prog w) A (call (.builtin "list.append") [acc,x]) (fun _ s₅=>∃m,m<n∧I m s₅) (fun _ _=>False) s₄) (fun _ _=>False) s₃
      else ∃m,m<n∧I m s₃) (fun _ _=>False) s₂) (fun _ _=>False) s₁') (fun _ _=>False) s₁) (fun _ _=>False) s)
  (n:Nat) (h:I n s):codeAny (model prog w) A (.compLoop (.ListComp elt [⟨target,iter,ifs,0⟩] scope pos) 0 it acc env) R s:=by
 refine codeAny_loop rfl I (fun n s hI=>?_) n h
 show wpAny _ A ((compTurn (.ListComp elt [⟨target,iter,ifs,0⟩] scope pos) 0 it acc env).onRaise (fun x=>do noteFrame x env;theTreesLotGoes x)) _ _ s
 refine wpAny_noted ?_
 rw [compTurn_list]
 refine wpAny_bind (wpAny_standAt (wpAny_bind (wpAny_mono (turn n s hI) (fun r s₁ h₁=>?_) fun _ _ h'=>h'.elim)))
 cases r with
 |none=>exact wpAny_pure h₁
 |some v =>
  refine wpAny_bind (wpAny_mono h₁ (fun _ s₁' h₁'=>?_) fun _ _ h'=>h'.elim)
  refine wpAny_bind (wpAny_mono h₁' (fun _ s₂ h₂=>wpAny_bind (wpAny_mono h₂ (fun ok s₃ h₃=>?_) fun _ _ h'=>h'.elim)) fun _ _ h'=>h'.elim)
  cases ok with
  |false=>exact wpAny_pure ⟨rfl,h₃⟩
  |true =>
   exact wpAny_bind (wpAny_bind (wpAny_mono h₃ (fun x s₄ h₄=>wpAny_bind (wpAny_mono h₄ (fun _ s₅ h₅=>wpAny_pure (wpAny_pure ⟨rfl,h₅⟩)) fun _ _ h'=>h'.elim)) fun _ _ h'=>h'.elim))
def qL (X:Cx) (N:List Str) (scope:Scope) (C:Addr) (s:Shared) (H:Hp) (pins:List (Addr×Obj)) (fp:List Addr):Cx where
 prog:=X.prog
 w:=X.w
 K:=X.K
 mg:=X.mg
 base:=X.base
 A:=X.A
 N:=N
 s₀:=s
 H₀:=H
 env:=compEnvC scope (vA X.env.cells scope.names []) C X.env
 outer:=X.stack
 stack:=X.stack
 ex:=fp
 fn:=fun _=>false
 calm:=X.calm
 pn:=X.pn++pins
 xe:=fun _ _=>False
structure CompScope (X:Cx) (scope:Scope):Prop where
 kind:scope.kind=.function
 nocell:∀y∈scope.names,y.2≠.cell
 names:∀y∈scope.names,y.2=.local→scope.names.lookup y.1=some .local
 free:∀y∈scope.names,y.2=.free→X.env.kindOf y.1=some .cell∨X.env.kindOf y.1=some .free
theorem dP {env:Env} {x:Str}:∀{names:List (Str×NameKind)} {k:NameKind},(names.map fun (n,k)=>if (k == NameKind.free&&env.scope.kind == .function&&env.kindOf n == some .cell) then (n,NameKind.cell) else (n,k)).lookup x=some k→
  ∃k',names.lookup x=some k'∧(k'=k∨(k'=.free∧k=.cell∧env.kindOf x=some .cell))
 |[],k,h=>by simp at h
 | (n,k0)::r,k,h=>by
  have ih:=@dP env x r k
  have h':List.lookup x ((if (k0 == NameKind.free&&env.scope.kind == .function&&env.kindOf n == some .cell)=true then (n,NameKind.cell) else (n,k0))::r.map fun (n,k)=>if (k == NameKind.free&&env.scope.kind == .function&&env.kindOf n == some .cell)=true then (n,NameKind.cell) else (n,k))=some k:=h
  by_cases hc:(k0 == NameKind.free&&env.scope.kind == .function&&env.kindOf n == some .cell)=true
  ·rw [if_pos hc] at h'
   rw [List.lookup_cons] at h'
   cases hx:x == n with
   |true =>
    rw [hx] at h'
    have hk:NameKind.cell=k:=Option.some.inj h'
    simp only [Bool.and_eq_true,beq_iff_eq] at hc
    have hxn:x=n:=by simpa using hx
    refine ⟨k0,by rw [List.lookup_cons,hx],.inr ⟨hc.1.1,hk.symm,by rw [hxn];exact hc.2⟩⟩
   |false =>
    rw [hx] at h'
    obtain ⟨k',e1,e2⟩:=ih h'
    exact ⟨k',by rw [List.lookup_cons,hx];exact e1,e2⟩
  ·rw [if_neg hc] at h'
   rw [List.lookup_cons] at h'
   cases hx:x == n with
   |true =>
    rw [hx] at h'
    exact ⟨k0,by rw [List.lookup_cons,hx],.inl (Option.some.inj h')⟩
   |false =>
    rw [hx] at h'
    obtain ⟨k',e1,e2⟩:=ih h'
    exact ⟨k',by rw [List.lookup_cons,hx];exact e1,e2⟩
theorem dW {α:Type}:∀{l:List (Str×α)} {x:Str} {k:α},l.lookup x=some k→(x,k)∈l
 |[],_,_,h=>by simp at h
 | (n,a)::r,x,k,h=>by
  rw [List.lookup_cons] at h
  cases hx:x == n with
  |true =>
   rw [hx] at h
   have e:a=k:=Option.some.inj h
   have hxn:x=n:=by simpa using hx
   subst e;subst hxn
   exact List.mem_cons_self
  |false =>
   rw [hx] at h
   exact List.mem_cons_of_mem _ (dW h)
def ZZ (X:Cx) (ifs:List Expr) (t:TT):Prop :=
 ∀(pins:List (Addr×Obj)) (s:Shared) (σ:St) (H:Hp) (Q:Bool→Hp→Prop),Inv X pins σ H s→t σ H Q→
  wpAny (model X.prog X.w) X.A (forIn ifs true fun c r=>if r=true then do let ok ← isTrue c X.env (eval c X.env);pure (ForInStep.yield ok) else pure (ForInStep.yield r)) (TP X pins σ Q) X.xe s
def nH:TT:=fun _ H Q=>Q true H
theorem yA {X:Cx}:ZZ X [] nH:=fun _ _ _ H _ I h=>wpAny_tests_nil ⟨H,I,h⟩
theorem eS {X:Cx} {c:Expr} {t:TT} (hc:PT X c t):ZZ X [c] t:=fun pins s σ H Q I h=>wpAny_tests_one (hc pins s σ H Q I h)
def yG (D:Addr) (J:It) (g:TG) (tc:TT) (te:TE) (σ₀:St) (H:Hp) (Q:Hp→Prop):Prop :=
 ∃W:Nat→Nat→St→Hp→Prop,(∃m,W 0 m σ₀ (upd H D (.lst [])))∧∀i m σ' H',W i m σ' H'→
  (J.stop i H'∧Q H')∨(J.go i H'∧∃N:St→Hp→Prop,(∀σ'' H'',N σ'' H''→∃m',m'<m∧W (i+1) m' σ'' H'')∧∀x H2,J.yld i H' x H2→g x σ' H2 fun σ2 H3=>tc σ2 H3 fun b H4 =>
   if b=true then te σ2 H4 fun v H5=>∃xs,H5 D=some (.lst xs)∧xs.length<sizeLine∧N σ2 (upd H5 D (.lst (xs++[v]))) else N σ2 H4)
def B7 (wi:TI) (cap:St→St) (g:TG) (tc:TT) (te:TE):TE:=fun σ H Q=>wi σ H fun J H1=>∀D,H1 D=none→yG D J g tc te (cap σ) H1 fun H'=>Q (.ref D) H'
def wO (i:Nat) (wi:TI) (cap:St→St) (g:TG) (tc:TT) (te:TE):TS:=fun D σ H=>wi σ H fun J H1=>∀d,H1 d=none→yG d J g tc te (cap σ) H1 fun H'=>D.nx (σ.set i (some (.ref d))) H'
def Q1 (X:Cx) (N:List Str) (scope:Scope) (cap:St→St):Prop :=
 ∀σ:St,σ.length=X.N.length→(cap σ).length=N.length∧∀(i:Nat) (x:Str) (v:V),N[i]?=some x→(cap σ)[i]?=some (some v)→scope.names.lookup x=some .free∧∃j:Nat,X.N[j]?=some x∧σ[j]?=some (some v)
def qV (n:Nat) (js:List Nat):St→St:=fun σ=>List.replicate n none++js.map fun j=>(σ[j]?).join
theorem vF {X:Cx} {N:List Str} {scope:Scope} (n:Nat) (js:List Nat) (h1:N.length=n+js.length) (h2:js.map (fun j=>X.N[j]?)=(N.drop n).map some) (h3:∀x∈N.drop n,scope.names.lookup x=some .free):Q1 X N scope (qV n js):=by
 intro σ hσ
 refine ⟨by unfold qV;rw [List.length_append,List.length_replicate,List.length_map,h1],fun i x v e1 e2=>?_⟩
 unfold qV at e2
 by_cases hi:i<n
 ·rw [List.getElem?_append_left (by simpa using hi),List.getElem?_replicate,if_pos hi] at e2
  cases e2
 ·rw [List.getElem?_append_right (by simpa using hi),List.length_replicate,List.getElem?_map] at e2
  cases hj:js[i - n]? with
  |none=>rw [hj] at e2;cases e2
  |some j =>
   rw [hj] at e2
   have e3:(σ[j]?).join=some v:=Option.some.inj e2
   have e4:σ[j]?=some (some v):=by
    cases q:σ[j]? with
    |none=>rw [q] at e3;cases e3
    |some o =>
     rw [q] at e3
     have e5:o=some v:=e3
     rw [e5]
   have hd:(N.drop n)[i - n]?=some x:=by
    rw [List.getElem?_drop,show n+(i - n)=i by omega]
    exact e1
   have e5:=congrArg (fun l=>l[i - n]?) h2
   simp only [List.getElem?_map,hj,hd,Option.map_some] at e5
   exact ⟨h3 x (List.mem_of_getElem? hd),j,Option.some.inj e5,e4⟩
theorem vP {X:Cx} {scope:Scope} (sc:Scope) (hsc:X.env.scope=sc) (kind:scope.kind=.function) (nocell:∀y∈scope.names,y.2≠.cell) (names:∀y∈scope.names,y.2=.local→scope.names.lookup y.1=some .local)
  (free:∀y∈scope.names,y.2=.free→sc.names.lookup y.1=some .cell∨sc.names.lookup y.1=some .free):CompScope X scope:=⟨kind,nocell,names,fun y hy hf=>by
 subst hsc
 exact free y hy hf⟩
section
variable {X:Cx} {N:List Str} {scope:Scope} {pins:List (Addr×Obj)} {σ:St} {H:Hp} {s:Shared} {fp:List Addr}
theorem bE (S:CompScope X scope) (I:Inv X pins σ H s):∀y∈scope.names,y.2=.free→∃c,X.env.cells.lookup y.1=some c:=fun y hy hf=>I.ok.has y.1 (S.free y hy hf)
theorem xS {cap:St→St} {D C:Addr} {h₁:Heap} {t':Nat} {m:Str→Option Value} (S:CompScope X scope) (I:Inv X pins σ H s) (hcap:Q1 X N scope cap) (hf:∀b∈fp,v4 X pins H b) (hfo:∀b∈fp,∃o,s.heap.get? b=some o)
  (hD:s.heap.objs.size≤D) (hC:s.heap.objs.size≤C) (hDC:D≠C) (old:∀b o,s.heap.get? b=some o→h₁.get? b=some o) (hns:h₁.Ns C m) (hl:h₁.get? D=some {cls:=.type "list",data:=.seq ([]:List Value).toArray}) :
  Inv (qL X N scope C s H pins fp) [] (cap σ) (upd H D (.lst [])) {s with heap:=h₁,toks:=t'}:=by
 have cellsOk:=bE S I
 have look:∀x c,(vA X.env.cells scope.names []).lookup x=some c→X.env.cells.lookup x=some c:=fun x c e=>bA cellsOk (fun y d q=>by simp at q) e
 have lt:∀{b:Addr} {o:Obj},s.heap.get? b=some o→b<s.heap.objs.size:=fun e=>Heap.lt_size e
 have cellLt:∀x c,X.env.cells.lookup x=some c→c<s.heap.objs.size:=fun x c e=>by
  obtain ⟨v,o,ho,_⟩:=I.cell x c e
  exact lt ho
 have nD:H D=none:=I.hok.fresh hD
 have nC:H C=none:=I.hok.fresh hC
 have stkNe:∀b:Addr,b≠X.env.locals→b∉X.fs→b∉v7 X.stack:=fun b h1 h2 z=>by
  rcases List.mem_cons.mp (I.stkSub b z) with e|e
  ·exact h1 e
  ·exact h2 e
 refine ⟨⟨I.ok.mod,S.kind,I.ok.glob,I.ok.blt,hC,fun x y c h1 h2=>I.ok.inj x y c (look x c h1) (look y c h2),fun x hx=>?_,fun x c hfn _=>(nomatch hfn),I.ok.hd,I.ok.frames,.inl rfl,fun b hb=>⟨?_,fun x c e=>(hf b hb).2.2.2.2.1 x c (look x c e)⟩,
   I.bs,Nat.le_trans I.ok.bsz I.sz,fun b o e hb=>?_,fun b hb=>stkNe b (hf b hb).2.1 (hf b hb).2.2.1,I.stack,I.stkFree⟩,
  rfl,I.bare,Un.laid old hD nD,⟨m,hns,fun i x v h1 h2 h3=>?_⟩,fun x c e=>?_,?_,fun x c e=>?_,fun p hp=>?_,?_,(hcap σ I.len).1⟩
 ·-- has
  have hx':∃k,(relabel scope X.env).names.lookup x=some k∧(k=.cell∨k=.free):=by
   rcases hx with e|e
   ·exact ⟨_,e,.inl rfl⟩
   ·exact ⟨_,e,.inr rfl⟩
  obtain ⟨k,e,hk⟩:=hx'
  obtain ⟨k',e1,e2⟩:=dP e
  have hm:=dW e1
  have hfree:k'=.free:=by
   rcases e2 with e2|e2
   ·subst e2
    rcases hk with hk|hk
    ·subst hk
     exact absurd rfl (S.nocell _ hm)
    ·exact hk
   ·exact e2.1
  subst hfree
  exact bG hm
 ·obtain ⟨o,ho⟩:=hfo b hb
  exact Nat.ne_of_lt (Nat.lt_of_lt_of_le (lt ho) hC)
 ·rcases (hf b hb).2.2.2.1 with z|z
  ·exact I.ok.noex b o e z
  ·exact absurd (Nat.lt_of_lt_of_le (Heap.lt_size e) (Nat.le_trans I.ok.bsz z)) (Nat.lt_irrefl _)
 ·-- names
  obtain ⟨hfr,j,hj,hv⟩:=(hcap σ I.len).2 i x v h1 h2
  have hm:=dW hfr
  have hk:=S.free _ hm rfl
  obtain ⟨m0,_,hl0⟩:=I.loc
  have vis:dH X.env.scope x:=by
   rcases hk with k|k
   ·exact .inr (.inl k)
   ·exact .inr (.inr k)
  obtain ⟨u,r,l⟩:=hl0 j x v hj hv vis
  refine ⟨u,r,.inr ⟨?_,?_⟩⟩
  ·have hvis:∃k,(relabel scope X.env).names.lookup x=some k:=by
    rcases h3 with e|e|e<;>exact ⟨_,e⟩
   obtain ⟨k,e⟩:=hvis
   obtain ⟨k',e1,e2⟩:=dP e
   rw [hfr] at e1
   cases e1
   rcases e2 with e2|e2
   ·subst e2;exact .inr e
   ·rw [e2.2.1] at e;exact .inl e
  ·rcases l with ⟨k,_⟩|⟨_,c,hc,hcell⟩
   ·exfalso
    rcases hk with q|q
    ·have q':X.env.kindOf x=some .cell:=q
     rw [k] at q';cases q'
    ·have q':X.env.kindOf x=some .free:=q
     rw [k] at q';cases q'
   ·obtain ⟨c',e'⟩:=bG (cells:=X.env.cells) (cs:=[]) hm
    have e2:=look x c' e'
    have e2':X.env.cells.lookup x=some c':=e2
    rw [hc] at e2'
    cases e2'
    obtain ⟨o,ho,hd⟩:=hcell
    exact ⟨c,e',o,old _ _ ho,hd⟩
 ·obtain ⟨v,o,ho,hd⟩:=I.cell x c (look x c e)
  exact ⟨v,o,old _ _ ho,hd⟩
 ·show upd H D (.lst []) C=none
  rw [jY (Ne.symm hDC)]
  exact nC
 ·have hc:=look x c e
  rw [jY (Nat.ne_of_lt (Nat.lt_of_lt_of_le (cellLt x c hc) hD))]
  exact I.freeC x c hc
 ·have hp':p∈X.pn++pins:=by
   rcases List.mem_append.mp hp with z|z
   ·exact z
   ·cases z
  obtain ⟨e,n,ne,nf,d⟩:=I.pin p hp'
  refine ⟨old _ _ e,?_,Nat.ne_of_lt (Nat.lt_of_lt_of_le (lt e) hC),stkNe p.1 ne nf,d⟩
  rw [jY (Nat.ne_of_lt (Nat.lt_of_lt_of_le (lt e) hD))]
  exact n
 ·refine I.hok.laid old hD ?_
  exact ⟨Nat.zero_le _,[],0,.nil,hl⟩
theorem iL {σ':St} {H':Hp} {s':Shared} {C:Addr} {σc:St} {Nc:List Str} (I:Inv X pins σ H s) (hf:∀b∈fp,v4 X pins H b) (J:Inv (qL X Nc scope C s H pins fp) [] σc H' s'):Inv X pins σ H' s':=by
 refine I.call' (ch:=fp) J.os J.base J.hok J.bare fun b hb=>?_
 obtain ⟨_,h2,_,h4,h5,h6⟩:=hf b hb
 exact ⟨h4,h2,h5,h6⟩
theorem lO {σ':St} {H':Hp} {s':Shared} {C:Addr} {h':Heap} (I:Inv X pins σ H s) (hC:s.heap.objs.size≤C) (J:Inv X pins σ' H' s') (hn:H' C=none) (sb:Heap.SameBut C s'.heap h'):Inv X pins σ' H' {s' with heap:=h'}:=by
 refine J.turned (t':=s'.toks) (it:=C) (fun b o hb e=>(sb.2 b hb).trans e) hn (Nat.ne_of_gt (Nat.lt_of_lt_of_le I.lt hC)) (.inr (Nat.le_trans I.sz hC)) (fun x c e z=>?_) fun p hp z=>?_
 ·obtain ⟨v,q⟩:=I.cell x c e
  exact absurd (Nat.lt_of_lt_of_le q.lt (by rw [z];exact hC)) (Nat.lt_irrefl _)
 ·exact absurd (Nat.lt_of_lt_of_le (Heap.lt_size (I.pin p hp).1) (by rw [z];exact hC)) (Nat.lt_irrefl _)
theorem lN {tg iter elt:Expr} {ifs:List Expr} {pos:Pos} {cap:St→St} {g:TG} {tc:TT} {te:TE} {J:It} {it:Addr} {tn:Nat→Heap→Prop} {Q:Addr→Hp→Prop} {RR:Value→Addr→Result→Shared→Prop}
  (hcalm:X.calm=true) (S:CompScope X scope) (hcap:Q1 X N scope cap) (I:Inv X pins σ H s) (T:Turn X.prog X.w X.K tg J fp it tn) (st:tn 0 s.heap) (hf:∀b∈fp,v4 X pins H b)
  (hg:∀C,PG (qL X N scope C s H pins fp) tg g) (hc:∀C,ZZ (qL X N scope C s H pins fp) ifs tc) (he:∀C,PE (qL X N scope C s H pins fp) elt te)
  (hq:∀D,H D=none→yG D J g tc te (cap σ) H (Q D))
  (hRR:∀D C σc H' s',s.heap.objs.size≤C→Inv (qL X N scope C s H pins fp) [] σc H' s'→Q D H'→RR (.ref D) C (.ok .next) s') :
  wpAny (model X.prog X.w) X.A (newList []) (fun acc s₃=>wpAny (model X.prog X.w) X.A (newFunctionEnv scope X.env.globals (vA X.env.cells scope.names []) [] X.env.qual none .none (some X.env)) (fun cenv s₄ =>
   codeAny (model X.prog X.w) X.A (.compStart (.ListComp elt [⟨tg,iter,ifs,0⟩] scope pos) 0 (.ref it) acc {cenv with scope:=relabel scope X.env}) (RR acc cenv.locals) s₄) X.xe s₃) X.xe s:=by
 refine wpAny_newObj_type (wpAny_newFunctionEnv S.nocell (by intro y hy;simp at hy) (fun h₁ hns₁ hsb₁=>?_) S.kind)
 dsimp only at hns₁ hsb₁ ⊢
 generalize hH2:s.heap.push {cls:=.type "list",dict:=none,data:=.seq ([]:List Value).toArray}=H2 at hns₁ hsb₁ ⊢
 have hC:H2.objs.size=s.heap.objs.size+1:=by rw [← hH2,Heap.size_push]
 have hDC:s.heap.objs.size≠H2.objs.size:=by rw [hC];exact Nat.ne_of_lt (Nat.lt_succ_self _)
 have hCle:s.heap.objs.size≤H2.objs.size:=by rw [hC];exact Nat.le_succ _
 have below:∀b,b<s.heap.objs.size→b≠H2.objs.size:=fun b hb=>by rw [hC];exact Nat.ne_of_lt (Nat.lt_succ_of_lt hb)
 have old:∀b o,s.heap.get? b=some o→h₁.get? b=some o:=fun b o e=>hsb₁.extBut b o (below b (Heap.lt_size e)) (Heap.get?_push_of_some _ (hH2▸Heap.get?_push_of_some _ e))
 have hacc:h₁.get? s.heap.objs.size=some {cls:=.type "list",data:=.seq ([]:List Value).toArray}:=hsb₁.extBut _ _ hDC (Heap.get?_push_of_some _ (hH2▸Heap.get?_push_size _ rfl))
 have obj0:=T.obj 0 s.heap st
 have I1:∀t',Inv (qL X N scope H2.objs.size s H pins fp) [] (cap σ) (upd H s.heap.objs.size (.lst [])) {s with heap:=h₁,toks:=t'}:=fun t' =>
  xS S I hcap hf (fun b hb=>let ⟨o,e,_⟩:=obj0 b hb;⟨o,e⟩) (Nat.le_refl _) hCle hDC old hns₁ hacc
 have st1:tn 0 h₁:=T.keep 0 s.heap h₁ st fun b _ o e=>old b o e
 have stat:∀{H':Hp},(∀b∈fp,H' b=none)→∀b∈fp,v4 (qL X N scope H2.objs.size s H pins fp) [] H' b:=fun hn b hb=>by
  obtain ⟨_,h2,h3,h4,h5,h6⟩:=hf b hb
  obtain ⟨o,ho,_⟩:=obj0 b hb
  refine ⟨hn b hb,below b (Heap.lt_size ho),?_,.inl hb,fun x c e=>h5 x c (bA (bE S I) (fun y d q=>by simp at q) e),fun p hp=>?_⟩
  ·intro z
   rcases List.mem_cons.mp (I.stkSub b z) with e|e
   ·exact h2 e
   ·exact h3 e
  ·rcases List.mem_append.mp hp with z|z
   ·exact h6 p z
   ·cases z
 have fr1:∀b∈fp,upd H s.heap.objs.size (.lst []) b=none:=fun b hb=>by
  obtain ⟨o,ho,_⟩:=obj0 b hb
  rw [jY (Nat.ne_of_lt (Heap.lt_size ho))]
  exact (hf b hb).1
 obtain ⟨W,⟨m0,w0⟩,turn⟩:=hq s.heap.objs.size (I.hok.fresh (Nat.le_refl _))
 have loop:∀s₃:Shared,s₃={s with heap:=h₁,toks:=s.toks+([]:List (Str×Value)).length}→
   codeAny (model X.prog X.w) X.A (.compLoop (.ListComp elt [⟨tg,iter,ifs,0⟩] scope pos) 0 (.ref it) (.ref s.heap.objs.size) (compEnvC scope (vA X.env.cells scope.names []) H2.objs.size X.env))
    (RR (.ref s.heap.objs.size) H2.objs.size) s₃:=by
  rintro s₃ rfl
  refine wH (fun n s'=>∃i σ' H',Inv (qL X N scope H2.objs.size s H pins fp) [] σ' H' s'∧tn i s'.heap∧(∀b∈fp,H' b=none)∧W i n σ' H') ?_ m0 ⟨0,cap σ,_,I1 _,st1,fr1,w0⟩
  rintro n s3 ⟨i,σ3,H3,I3,st3,fr3,w3⟩
  rcases turn i n σ3 H3 w3 with ⟨stop,qn⟩|⟨go,Nn,hN,step⟩
  ·refine jK (T.done (qL X N scope H2.objs.size s H pins fp) rfl rfl rfl hcalm i [] s3 σ3 H3 (fun _ _=>False) I3 (stat fr3) st3 stop) fun r s4 ⟨hr,I4⟩=>?_
   subst hr
   exact hRR _ _ σ3 H3 s4 hCle I4 qn
  ·refine jK (T.item (qL X N scope H2.objs.size s H pins fp) rfl rfl rfl hcalm i [] s3 σ3 H3 (fun _ _=>False) I3 (stat fr3) st3 go) fun r s4 ⟨u,hr,h4⟩=>?_
   subst hr
   refine jK h4 fun _ s5 ⟨x,H5,I5,r5,y5,st5,fr5⟩=>?_
   have I5':=I5.pinned (stat fr5) (T.obj _ _ st5)
   have again:∀{σ7:St} {H7:Hp} {s7:Shared},Inv (qL X N scope H2.objs.size s H pins fp) ([]++ZP fp s5.heap) σ7 H7 s7→Nn σ7 H7→
     ∃m,m<n∧∃i σ' H',Inv (qL X N scope H2.objs.size s H pins fp) [] σ' H' s7∧tn i s7.heap∧(∀b∈fp,H' b=none)∧W i m σ' H':=fun {σ7 H7 s7} I7 n7=>by
    obtain ⟨m',hm,w7⟩:=hN σ7 H7 n7
    refine ⟨m',hm,i+1,σ7,H7,I7.unpinned,T.keep _ _ _ st5 fun b hb o e=>(I7.pin (b,o) (List.mem_append_right _ (List.mem_append_right _ (bD hb e)))).1,fun b hb=>?_,w7⟩
    obtain ⟨o,e,d⟩:=T.obj _ _ st5 b hb
    exact (I7.pin (b,o) (List.mem_append_right _ (List.mem_append_right _ (bD hb e)))).2.1
   refine jK (hg _ _ s5 σ3 H5 x u _ I5' r5 (step x H5 y5)) fun _ s6 ⟨σ6,H6,I6,q6⟩=>?_
   refine jK (hc _ _ s6 σ6 H6 _ I6 q6) fun ok s7 ⟨H7,I7,q7⟩=>?_
   cases ok with
   |false=>exact again I7 q7
   |true =>
    refine jK (he _ _ s7 σ6 H7 _ I7 q7) fun v s8 ⟨y,H8,I8,r8,xs,hD8,hz8,n8⟩=>?_
    refine jK (vR _ s8 σ6 H8 (.ref s.heap.objs.size) [y] (.ref s.heap.objs.size) [v] (fun _ H9=>Nn σ6 H9) I8 rfl (.cons r8 .nil) ⟨_,_,_,rfl,rfl,hD8,hz8,n8⟩) fun _ s9 ⟨_,H9,I9,_,n9⟩=>?_
    exact again I9 n9
 exact codeAny_compStart_list (loop _ rfl) (wpAny_mono (T.self X.A 0 _ (fun v s'=>v=.ref it∧s'=_) (fun _ _=>False) st1 ⟨rfl,rfl⟩) (fun v s' ⟨e1,e2⟩=>by subst e1;subst e2;exact loop _ rfl) fun _ _ z=>z.elim)
theorem yO {tg iter elt:Expr} {ifs:List Expr} {pos:Pos} {wi:TI} {g:TG} {tc:TT} {te:TE} (N:List Str) (cap:St→St) (hcalm:X.calm=true) (S:CompScope X scope) (hcap:Q1 X N scope cap) (hi:PI X tg iter wi)
  (hg:∀C s H pins fp,PG (qL X N scope C s H pins fp) tg g) (hc:∀C s H pins fp,ZZ (qL X N scope C s H pins fp) ifs tc) (he:∀C s H pins fp,PE (qL X N scope C s H pins fp) elt te)
  (hs:∀x,foldedSetIterable iter X.env x=pure x:=by intro _;rfl):PE X (.ListComp elt [⟨tg,iter,ifs,0⟩] scope pos) (B7 wi cap g tc te):=by
 intro pins s σ H Q I h
 rw [eval_ListComp]
 refine wpAny_comprehension_free (use:=none) rfl hs (fX (bE S I)) S.kind S.names (jK (hi pins s σ H _ I h) fun v s1 h1=>jK h1 fun itv s2 h2=>?_)
 obtain ⟨it,fp,tn,J,H2,e,I2,T,st2,f2,q2⟩:=h2
 subst e
 refine lN (RR:=fun acc C=>compPost (model X.prog X.w) X.A X.xe none (EP X pins σ Q) acc C) (Q:=fun D H'=>Q (.ref D) H') hcalm S hcap I2 T st2 f2 (fun C=>hg C _ _ _ _) (fun C=>hc C _ _ _ _) (fun C=>he C _ _ _ _) q2 ?_
 intro D C σc H' s' hC Jc q
 obtain ⟨m,hn,_⟩:=Jc.loc
 refine ⟨m,hn,fun h' hs'=>?_⟩
 exact ⟨.ref D,H',lO I2 hC (iL (σ':=σ) I2 f2 Jc) Jc.free hs',rfl,q⟩
theorem bB {tg iter elt:Expr} {ifs:List Expr} {pos spos py:Pos} {i:Nat} {y:Str} {wi:TI} {g:TG} {tc:TT} {te:TE} (N:List Str) (cap:St→St) (hN:X.N.Nodup) (hy:X.N[i]?=some y) (hloc:Z0 X.env.scope y) (hcalm:X.calm=true) (S:CompScope X scope) (hcap:Q1 X N scope cap) (hi:PI X tg iter wi)
  (hg:∀C s H pins fp,PG (qL X N scope C s H pins fp) tg g) (hc:∀C s H pins fp,ZZ (qL X N scope C s H pins fp) ifs tc) (he:∀C s H pins fp,PE (qL X N scope C s H pins fp) elt te)
  (hsw:swapsWith (.ListComp elt [⟨tg,iter,ifs,0⟩] scope pos) (some (.Name y py)) spos.line X.env=pure true:=by rfl)
  (hs:∀x,foldedSetIterable iter X.env x=pure x:=by intro _;rfl) (hfn:X.fn y=true∨X.env.scope.names.lookup y=some .local:=by first|exact .inl rfl|exact .inr rfl|assumption) :
  PS X (.Assign [.Name y py] (.ListComp elt [⟨tg,iter,ifs,0⟩] scope pos) spos) (wO i wi cap g tc te):=by
 intro pins s σ H D I h
 rw [exec_Assign_Name_used _ _ _ _ hsw]
 refine wpAny_bind (wpAny_standAt (wpAny_bind ?_))
 show wpAny _ X.A (do let _ ← comprehension (.ListComp elt [⟨tg,iter,ifs,0⟩] scope pos) scope X.env _ (newList []) false (eval iter X.env) (some (assign (.Name y py) X.env))) _ _ s
 refine wpAny_bind (wpAny_mono (wpAny_comprehension_free (use:=some (assign (.Name y py) X.env)) (Q:=fun _ s'=>SP X pins D .next s') rfl hs (fX (bE S I)) S.kind S.names
  (jK (hi pins s σ H _ I h) fun v s1 h1=>jK h1 fun itv s2 h2=>?_)) (fun _ s' hq=>wpAny_pure (wpAny_pure hq)) fun _ _ e=>e)
 obtain ⟨it,fp,tn,J,H2,e,I2,T,st2,f2,q2⟩:=h2
 subst e
 refine lN (RR:=fun acc C=>compPost (model X.prog X.w) X.A X.xe (some (assign (.Name y py) X.env)) (fun _ s'=>SP X pins D .next s') acc C) (Q:=fun d H'=>D.nx (σ.set i (some (.ref d))) H') hcalm S hcap I2 T st2 f2 (fun C=>hg C _ _ _ _) (fun C=>hc C _ _ _ _) (fun C=>he C _ _ _ _) q2 ?_
 intro d C σc H' s' hC Jc q
 obtain ⟨m,hn,_⟩:=Jc.loc
 have J1:Inv X pins σ H' s':=iL (σ':=σ) I2 f2 Jc
 show wpAny _ X.A (assign (.Name y py) X.env (.ref d)) _ _ _
 refine wpAny_assign_Name (gS (v:=.ref d) J1 hN hy hloc rfl (fun s'' J2 hsb=>?_) hfn)
 obtain ⟨a,sb,ha⟩:=hsb
 have haC:C≠a:=by
  rcases ha with e|e
  ·rw [e];exact Nat.ne_of_gt (Nat.lt_of_lt_of_le I2.lt hC)
  ·obtain ⟨v,q'⟩:=I2.cell y a e
   exact Nat.ne_of_gt (Nat.lt_of_lt_of_le q'.lt hC)
 refine ⟨m,hn.sameBut sb haC,fun h' hs'=>?_⟩
 exact ⟨_,H',lO I2 hC J2 Jc.free hs',q⟩
end
end L2
namespace L2
open PySem PySem.Spec PyProof.Rows
theorem yD {σ:St} {H:Hp} {Q:Bool→Hp→Prop} (h:Q true H):nH σ H Q:=h
theorem sP {K:PySem.W.Frag} {a D:Addr} {xs:List V} {g:TG} {tc:TT} {te:TE} {σ₀:St} {H:Hp} {Q:Hp→Prop} (Pv:Nat→St→Hp→Prop) (h0:Pv 0 σ₀ (upd H D (.lst []))) (hl:∀i σ H,i≤xs.length→Pv i σ H→SqL K H a xs)
    (hs:∀i x σ H,xs[i]?=some x→Pv i σ H→g x σ H fun σ2 H3=>tc σ2 H3 fun b H4=>if b=true then te σ2 H4 fun v H5=>∃ys,H5 D=some (.lst ys)∧ys.length<sizeLine∧Pv (i+1) σ2 (upd H5 D (.lst (ys++[v]))) else Pv (i+1) σ2 H4)
    (hd:∀σ H,Pv xs.length σ H→Q H):yG D (JH K a) g tc te σ₀ H Q:=by
  refine ⟨fun i m σ H=>m=xs.length - i∧i≤xs.length∧Pv i σ H,⟨xs.length,by simp,Nat.zero_le _,h0⟩,?_⟩
  rintro i m σ H ⟨rfl,hi,p⟩
  have q:=hl i σ H hi p
  by_cases hlt:i<xs.length
  · refine .inr ⟨⟨xs,xs[i],q,by simp [hlt]⟩,Pv (i+1),fun σ' H' p'=>⟨xs.length - (i+1),by omega,rfl,hlt,p'⟩,fun x H' y=>?_⟩
    obtain ⟨e,y⟩:=y
    subst e
    exact hs i x σ _ (y xs q) p
  · have e:i=xs.length:=by omega
    subst e
    exact .inl ⟨⟨xs,q,Nat.le_refl _⟩,hd σ H p⟩
theorem sH {lo:Int} {n:Nat} {D:Addr} {g:TG} {tc:TT} {te:TE} {σ₀:St} {H:Hp} {Q:Hp→Prop} (Pv:Nat→St→Hp→Prop) (h0:Pv 0 σ₀ (upd H D (.lst [])))
  (hs:∀i σ H,i<n→Pv i σ H→g (.int (lo+i)) σ H fun σ2 H3=>tc σ2 H3 fun b H4=>if b=true then te σ2 H4 fun v H5=>∃ys,H5 D=some (.lst ys)∧ys.length<sizeLine∧Pv (i+1) σ2 (upd H5 D (.lst (ys++[v]))) else Pv (i+1) σ2 H4)
  (hd:∀σ H,Pv n σ H→Q H):yG D (zM lo n) g tc te σ₀ H Q:=by
 refine ⟨fun i m σ H=>m=n - i∧i≤n∧Pv i σ H,⟨n,by simp,Nat.zero_le _,h0⟩,?_⟩
 rintro i m σ H ⟨rfl,hi,p⟩
 by_cases hlt:i<n
 ·refine .inr ⟨hlt,Pv (i+1),fun σ' H' p'=>⟨n - (i+1),by omega,rfl,hlt,p'⟩,fun x H' y=>?_⟩
  obtain ⟨e,y⟩:=y
  subst e y
  exact hs i σ _ hlt p
 ·have e:i=n:=by omega
  subst e
  exact .inl ⟨Nat.le_refl _,hd σ H p⟩
theorem kU {H H':Hp} {D:Addr} {o:HO} (hD:H D=none) (s:Same H H'):Same H (upd H' D o):=fun b u q=>by
 rw [jY (j8 q hD)]
 exact s b u q
def vJ (H:Hp) (D:Addr) (caps:St) (R:Nat→List V→Hp→Prop) (i:Nat) (σ:St) (Hi:Hp):Prop:=∃ys c,σ=c::caps∧Same H Hi∧Hi D=some (.lst ys)∧ys.length≤i∧R i ys Hi
theorem vQ {H Hi H5:Hp} {D:Addr} {caps:St} {R:Nat→List V→Hp→Prop} {i:Nat} {ys:List V} {c:Option V} {v:V} (hD:H D=none) (s:Same H Hi) (hY:Hi D=some (.lst ys)) (hl:ys.length≤i) (hi:i≤999) (s5:Same Hi H5)
  (r:R (i+1) (ys++[v]) (upd H5 D (.lst (ys++[v])))):∃zs,H5 D=some (.lst zs)∧zs.length<sizeLine∧vJ H D caps R (i+1) (c::caps) (upd H5 D (.lst (zs++[v]))):=by
 refine ⟨ys,s5 _ _ hY,qJ (by omega),ys++[v],c,rfl,kU hD (s.trans s5),jD,?_,r⟩
 rw [List.length_append,List.length_singleton];omega
theorem Q9 {H Hi H4:Hp} {D:Addr} {caps:St} {R:Nat→List V→Hp→Prop} {i:Nat} {ys:List V} {c:Option V} (s:Same H Hi) (hY:Hi D=some (.lst ys)) (hl:ys.length≤i) (s4:Same Hi H4) (r:R (i+1) ys H4) :
  vJ H D caps R (i+1) (c::caps) H4:=⟨ys,c,rfl,s.trans s4,s4 _ _ hY,by omega,r⟩
theorem v9 {K:PySem.W.Frag} {a D:Addr} {xs:List V} {tc:TT} {te:TE} {caps:St} {H:Hp} {Q:Hp→Prop} (R:Nat→List V→Hp→Prop) (hD:H D=none) (hS:SqL K H a xs) (h0:R 0 [] (upd H D (.lst [])))
  (hs:∀i x ys Hi,xs[i]?=some x→i<xs.length→ys.length≤i→Same H Hi→Hi D=some (.lst ys)→R i ys Hi→tc (some x::caps) Hi fun b H4=>if b=true then te (some x::caps) H4 fun v H5=>∃zs,H5 D=some (.lst zs)∧zs.length<sizeLine∧vJ H D caps R (i+1) (some x::caps) (upd H5 D (.lst (zs++[v])))
   else vJ H D caps R (i+1) (some x::caps) H4)
  (hd:∀ys Hf,Same H Hf→Hf D=some (.lst ys)→ys.length≤xs.length→R xs.length ys Hf→Q Hf):yG D (JH K a) (QZ 0) tc te (none::caps) H Q:=by
 refine sP (xs:=xs) (vJ H D caps R) ⟨[],none,rfl,kU hD (Same.refl H),jD,Nat.le_refl _,h0⟩ (fun i σ Hi _ ⟨_,_,_,s,_⟩=>s.seq hS) ?_ ?_
 ·rintro i x σ Hi hx ⟨ys,c,rfl,s,hY,hl,r⟩
  exact hs i x ys Hi hx (List.getElem?_eq_some_iff.mp hx).1 hl s hY r
 ·rintro σ Hf ⟨ys,c,rfl,s,hY,hl,r⟩
  exact hd ys Hf s hY hl r
theorem sK {lo:Int} {n:Nat} {D:Addr} {tc:TT} {te:TE} {caps:St} {H:Hp} {Q:Hp→Prop} (R:Nat→List V→Hp→Prop) (hD:H D=none) (h0:R 0 [] (upd H D (.lst [])))
  (hs:∀i ys Hi,i<n→ys.length≤i→Same H Hi→Hi D=some (.lst ys)→R i ys Hi→tc (some (.int (lo+i))::caps) Hi fun b H4=>if b=true then te (some (.int (lo+i))::caps) H4 fun v H5=>∃zs,H5 D=some (.lst zs)∧zs.length<sizeLine∧vJ H D caps R (i+1) (some (.int (lo+i))::caps) (upd H5 D (.lst (zs++[v])))
   else vJ H D caps R (i+1) (some (.int (lo+i))::caps) H4)
  (hd:∀ys Hf,Same H Hf→Hf D=some (.lst ys)→ys.length≤n→R n ys Hf→Q Hf):yG D (zM lo n) (QZ 0) tc te (none::caps) H Q:=by
 refine sH (vJ H D caps R) ⟨[],none,rfl,kU hD (Same.refl H),jD,Nat.le_refl _,h0⟩ ?_ ?_
 ·rintro i σ Hi hi ⟨ys,c,rfl,s,hY,hl,r⟩
  exact hs i ys Hi hi hl s hY r
 ·rintro σ Hf ⟨ys,c,rfl,s,hY,hl,r⟩
  exact hd ys Hf s hY hl r
def DS:V→Option Value
 |.ty n=>some (.type n)
 |.ref a=>some (.ref a)
 |_=>none
section
variable {X:Cx}
def DI (K:PySem.W.Frag):List V→Hp→VK→Prop:=fun xs H Q=>∃(x c:V) (t u:Value) (b:Bool),xs=[x,c]∧DS c=some u∧TyOf K H x t∧PySem.W.kitOne K t u=some b∧Q (.bl b) H
theorem vG:CallR X (.builtin "isinstance") (DI X.K):=by
 intro pins s σ H xs us Q I r h
 obtain ⟨x,c,t,u,b,rfl,hc,ty,e,q⟩:=h
 obtain ⟨u1,u2,rfl,r1,r2⟩:=fD r
 have e2:u2=u:=by
  cases c with
  |ty n=>cases (show u2=Value.type n from r2);exact Option.some.inj hc
  |ref a=>cases (show u2=Value.ref a from r2);exact Option.some.inj hc
  |_=>cases hc
 subst e2
 exact uU I r1 ty e fun tk=>⟨.bl b,H,I.tok _,rfl,q⟩
end
theorem yB {K:PySem.W.Frag} (n:String):PySem.W.kitOne K (.type n) (.type n)=some true:=by
 unfold PySem.W.kitOne
 rw [if_pos (beq_self_eq_true _)]
theorem sC {K:PySem.W.Frag}:PySem.W.kitOne K (.type "int") (.type "bool")=some false:=by kernel_rfl
def zL (xs ys:List V):Bool:=(List.range (min xs.length ys.length)).all (fun j=>vV (xs.getD j .non) (ys.getD j .non))&&xs.length == ys.length
theorem bF {xs:List V} {us:List Value} (r:Vals xs us) {j:Nat} (h:j<us.toArray.size):RelV (xs.getD j .non) us.toArray[j]:=by
 have hj:j<us.length:=by simpa using h
 have hx:j<xs.length:=by rw [r.length];exact hj
 obtain ⟨u,e,q⟩:=r.get (List.getElem?_eq_getElem hx)
 rw [List.getElem?_eq_getElem hj] at e
 have e':=Option.some.inj e
 rw [List.getD_eq_getElem?_getD,List.getElem?_eq_getElem hx]
 show RelV xs[j] us.toArray[j]
 rw [List.getElem_toArray,e']
 exact q
theorem bP {xs:List V} (h:xs.all qZ=true) {j:Nat} (hj:j<xs.length):qZ (xs.getD j .non)=true:=by
 rw [List.getD_eq_getElem?_getD,List.getElem?_eq_getElem hj]
 exact List.all_eq_true.mp h _ (List.getElem_mem hj)
section
variable {X:Cx}
end
end L2
namespace L2
open PySem PySem.Spec PyProof.Rows
section
variable {X:Cx}
end
end L2
namespace L2
open PySem PySem.Spec PyProof.Rows
section
variable {X:Cx} (K:PySem.W.Frag)
theorem mH (h:X.K=K:=by rfl):IxR X (fK K):=by subst h;exact ix_tup
theorem rX (h:X.K=K:=by rfl):CallR X (.builtin "len") (fun xs H Q=>∃p ys,xs=[.ref p]∧(SqL K H p ys∨SqT K H p ys)∧Q (.int ys.length) H):=by subst h;exact kX
end
end L2
namespace L2
open PySem PySem.Spec PyProof.Rows
section
variable {X:Cx}
end
end L2
namespace L2
open PySem PySem.Spec PyProof.Rows
section
variable {X:Cx}
def C9 (t u:TS):TS:=fun D σ H=>∃P:St→Hp→Prop,t {D with nx:=P} σ H∧∀σ' H',P σ' H'→u D σ' H'
theorem vH {st:Stmt} {rest:List Stmt} {t u:TS} (h1:PS X st t) (h2:PSs X rest u):PSs X (st::rest) (C9 t u):=by
 intro pins s σ H D I h
 obtain ⟨P,hP,hu⟩:=h
 refine wpAny_execs_cons (jK (h1 pins s σ H {D with nx:=P} I hP) fun f s1 q=>?_)
 cases f with
 |next =>
  obtain ⟨σ',H',I',q⟩:=q
  exact h2 pins s1 σ' H' D I' (hu σ' H' q)
 |ret v=>exact q
 |brk=>exact q
 |cont=>exact q
end
end L2
namespace L2
open PySem PySem.Spec PyProof.Rows
structure Def (P:Program) (w:World) (K:PySem.W.Frag) (mg:Str→Option Value) (base:Heap) (k:Nat) (x:Str) (ps:List Str) (dvs:List V) (sp:Sp):Prop where
 ex:∃(f:Addr) (fd:FuncData) (ds:List Value),FnOk P w K mg base jR k f fd ps sp∧mg x=some (.ref f)∧PySem.W.keepIn K (.ref f)=true∧Vals dvs ds∧Binds K fd ps ds
theorem jX {X:Cx} {k k':Nat} {x:Str} {ps:List Str} {dvs:List V} {sp:Sp} {p pos:Pos} {e:Expr} {es:List Expr} {t:TA} (F:Def X.prog X.w X.K X.mg X.base k x ps dvs sp) (hr:Room k' X.A) (hg:Gl X x) (ha:PA X (e::es) t)
  (hk:k≤k':=by decide) (hdb:(x == ("__debug__":Str))=false:=by decide) (he:starEach (e::es) X.env=(false,eval e X.env)::starEach es X.env:=by rfl) (hpl:(backTo pos (starEach es X.env)).any (·.1)=false:=by rfl) :
  PE X (.Call (.Name x p) (e::es) [] pos) (fE sp dvs E0 t):=by
 obtain ⟨f,fd,ds,G,m,kp,hv,b⟩:=F.ex
 exact AG G (hr.mono hk) hg m kp b hv cY ha hdb he hpl
structure FunD (K:PySem.W.Frag) (x qual:Str) (st:Stmt) (f:Addr) (fd:FuncData) (ds:List Value):Prop where
 ex:∃(oc:Value) (od:Option Addr) (T:Addr) (kV doc pm:Value) (an:Option Addr) (cdv ct:Value) (osl:Array (Option Value)) (oT:Obj) (n:Nat),
  fd=PySem.W.fnOf x qual (jW st) (jT st) (jG st) (.ref T) kV doc pm an cdv ct∧K.lookup f=some ⟨oc,od,.func fd,osl⟩∧PySem.W.codeIn K cdv qual=true∧K.lookup T=some oT∧oT.data=.seq ds.toArray n
 kp:PySem.W.keepIn K (.ref f)=true
section
variable {P:Program} {w:World} {K:PySem.W.Frag} {mg:Str→Option Value} {base:Heap}
theorem FunD.ok {x qual:Str} {st:Stmt} {f:Addr} {fd:FuncData} {ds:List Value} {N ps:List Str} {k:Nat} {sp:Sp} (F:FunD K x qual st f fd ds) (S:FnScope N ps (jG st)) (len:∀vs H Q E,sp vs H Q E→vs.length=ps.length)
  (hbody:∀(cdv:Value) (A:Around) (outer:List Env) (s:Shared) (H:Hp) (vs:List V) (Q:VK) (E:XK),Room k (A.deeper (envOfC qual (jG st) s.heap.objs.size f cdv))→sp vs H Q E→
   ∃t,PSs (JA jR P w K mg base N qual (jG st) f cdv A outer s H E).nox (jT st) t∧t {nx:=fun _ H'=>Q .non H',rt:=Q} (y6 N vs) H):FnOk P w K mg base jR (k+1) f fd ps sp:=by
 obtain ⟨oc,od,T,kV,doc,pm,an,cdv,ct,osl,oT,n,rfl,lk,hcd,_,_⟩:=F.ex
 refine nB lk hcd S len fun A outer s H vs Q E hr hsp=>?_
 obtain ⟨t,h,q⟩:=hbody cdv A outer s H vs Q E hr hsp
 exact ⟨t,h.nox,q⟩
theorem FunD.binds {x qual:Str} {st:Stmt} {f:Addr} {fd:FuncData} {ds:List Value} {ps:List Str} (ds':List Value) (m:Nat) (hm:m+ds'.length=ps.length) (F:FunD K x qual st f fd ds)
  (h:∀(T:Addr) (kV doc pm:Value) (an:Option Addr) (cdv ct:Value) (us:List Value),us.length=m→∃k,bindArgs (PySem.W.fnOf x qual (jW st) (jT st) (jG st) (.ref T) kV doc pm an cdv ct) ⟨us,[]⟩=seqItems? (.ref T) >>= k∧
   k (some ds.toArray)=pure (ps.zip (us++ds'))):Binds K fd ps ds':=by
 obtain ⟨oc,od,T,kV,doc,pm,an,cdv,ct,osl,oT,n,rfl,lk,hcd,lT,dT⟩:=F.ex
 intro s us hK hl
 obtain ⟨k,h1,h2⟩:=h T kV doc pm an cdv ct us (by rw [List.length_append] at hl;omega)
 exact BindsTo.of_defaults rfl (hK _ _ lT) dT h1 h2
theorem AV {x qual:Str} {st:Stmt} {f T:Addr} {oc:Value} {od an:Option Addr} {osl:Array (Option Value)} {kV doc pm cdv ct:Value} {oT:Obj} {n:Nat} {ds:List Value}
  (l:K.lookup f=some ⟨oc,od,.func (PySem.W.fnOf x qual (jW st) (jT st) (jG st) (.ref T) kV doc pm an cdv ct),osl⟩)
  (c:PySem.W.codeIn K cdv qual=true) (k:PySem.W.keepIn K (.ref f)=true) (lT:K.lookup T=some oT) (dT:oT.data=.seq ds.toArray n):FunD K x qual st f (PySem.W.fnOf x qual (jW st) (jT st) (jG st) (.ref T) kV doc pm an cdv ct) ds :=
 ⟨⟨oc,od,T,kV,doc,pm,an,cdv,ct,osl,oT,n,rfl,l,c,lT,dT⟩,k⟩
end
section
variable {X:Cx}
end
end L2
namespace L2
open PySem
theorem ZV {c A B:Prop} [Decidable c] (hc:¬c) (h:A):if (!decide c)=true then A else B:=by
 rw [decide_eq_false hc]
 exact vM h
theorem kG {c A B:Prop} [Decidable c] (hc:¬c) (h:B):if decide c=true then A else B:=by
 rw [decide_eq_false hc]
 exact kS h
theorem kL {c A B:Prop} [Decidable c] (hc:c) (h:A):if decide c=true then A else B:=by
 rw [decide_eq_true hc]
 exact vM h
end L2
namespace L2
open PySem PySem.Spec PyProof.Rows
end L2
namespace L2
open PySem PySem.Spec PyProof.Rows
structure MkD (P:Program) (w:World) (K:PySem.W.Frag) (mg:Str→Option Value) (base:Heap) (k:Nat) (x:Str) (C:Addr) (ps:List Str) (sp:Sp):Prop where
 ex:mg x=some (.ref C)∧∃(f:Addr) (fd:FuncData),Mk K C f∧FnOk P w K mg base jR k f fd ps sp∧Binds K fd ps []
structure MeD (P:Program) (w:World) (K:PySem.W.Frag) (mg:Str→Option Value) (base:Heap) (k:Nat) (C:Addr) (m:Str) (ps:List Str) (sp:Sp):Prop where
 ex:Cls K C∧∃(f:Addr) (fd:FuncData),Meth K C m f∧FnOk P w K mg base jR k f fd ps sp∧Binds K fd ps []
section
variable {X:Cx} {k k':Nat} {x m:Str} {C:Addr} {ps:List Str} {sp:Sp} {p pos apos:Pos} {o e:Expr} {es:List Expr} {ta:TE} {t:TA}
theorem ZT (M:MkD X.prog X.w X.K X.mg X.base k x C ps sp) (hr:Room k' X.A) (hg:Gl X x) (ha:PA X (e::es) t)
  (hk:k+1≤k':=by decide) (hdb:(x == ("__debug__":Str))=false:=by decide) (he:starEach (e::es) X.env=(false,eval e X.env)::starEach es X.env:=by rfl) (hpl:(backTo pos (starEach es X.env)).any (·.1)=false:=by rfl) :
  PE X (.Call (.Name x p) (e::es) [] pos) (mZ C sp [] E0 t):=by
 obtain ⟨hm,f,fd,M,G,b⟩:=M.ex
 exact AE M G (hr.mono hk) hg hm b .nil cY ha hdb he hpl
end
end L2
namespace L2
open PySem PySem.Spec PyProof.Rows
structure ClsM (K:PySem.W.Frag) (C:Addr) (m:Str) (f:Addr):Prop where
 sp:PySem.W.specialIn K (.ref C) "__getattribute__"=some (some (.builtin "type.__getattribute__"))
 rd:PySem.W.readsIn K C (.type "type")=true
 fc:PySem.W.findCls K (.ref C) (.type "type") m=some (.val (.ref f))
 kp:PySem.W.keepIn K (.ref f)=true
structure CmD (P:Program) (w:World) (K:PySem.W.Frag) (mg:Str→Option Value) (base:Heap) (k:Nat) (x:Str) (C:Addr) (m:Str) (ps:List Str) (sp:Sp):Prop where
 ex:mg x=some (.ref C)∧∃(f:Addr) (fd:FuncData),ClsM K C m f∧FnOk P w K mg base jR k f fd ps sp∧Binds K fd ps []
theorem mC {X:Cx} {k k':Nat} {x m:Str} {C:Addr} {ps:List Str} {sp:Sp} {p pos apos:Pos} {e:Expr} {es:List Expr} {t:TA} {pl:Sem Bool} (M:CmD X.prog X.w X.K X.mg X.base k x C m ps sp) (hr:Room k' X.A) (hg:Gl X x) (ha:PA X (e::es) t) (hk:k≤k':=by decide)
  (hdb:(x == ("__debug__":Str))=false:=by decide) (hst:starEach (e::es) X.env=(false,eval e X.env)::starEach es X.env:=by rfl) (hpl:(backTo pos (starEach es X.env)).any (·.1)=false:=by rfl)
  (ht:eval (.Call (.Attribute (.Name x p) m apos) (e::es) [] pos) X.env=(do
   let ov ← eval (.Name x p) X.env
   standAt apos.atName
   let (f,first) ← holding [ov] (getMethod ov m pl)
   callWith pos f first (backTo pos (starEach (e::es) X.env)) (backToKw pos (keywordEach [] X.env))):=by rfl) :
  PE X (.Call (.Attribute (.Name x p) m apos) (e::es) [] pos) (fE sp [] E0 t):=by
 obtain ⟨hm,f,fd,c,G,b⟩:=M.ex
 intro pins s σ H Q I h
 refine PySem.W.methodCall_KW (pl:=pl) (jK ((vS (v:=.ref C) hg hm rfl hdb:PE X (.Name x p) (tC (.ref C))) pins s σ H (fun v H1=>v=.ref C∧H1=H) I ⟨rfl,rfl⟩) fun u s1 ⟨v,H1,I1,rv,e1,e2⟩=>?_) ht
 subst e1 e2
 obtain rfl:u=Value.ref C:=rv
 refine PySem.W.method_cls I1.kIn c.sp (PySem.W.cls_value I1.kIn c.rd c.fc rfl ?_)
 have I2:=I1.tok (s1.toks+1)
 refine PySem.W.callWith_K (first:=[]) (h₀:=X.base) I.ok.mod.kin c.kp (jK (ha pos pins _ σ H1 _ I2 h) fun us s2 ⟨vs,H2,I3,r,q2⟩=>⟨I3.kIn,?_⟩) hst hpl
 exact e8 (us:=us) (vs:=vs) G (hr.mono hk) b .nil cY I3 r q2
end L2
namespace L2
open PySem PySem.Spec PyProof.Rows
section
variable {X:Cx}
theorem sO {bs:List Bool} {its:List Value} (rv:Vals (bs.map V.bl) its) {i:Nat} {v:Value} (h:its.toArray[i]?=some v):v=Value.bool (bs.getD i true):=by
 have h':its[i]?=some v:=by simpa using h
 have hi:i<its.length:=(List.getElem?_eq_some_iff.mp h').1
 have hn:i<bs.length:=by have:=rv.length;rw [List.length_map] at this;omega
 obtain ⟨u,e,q⟩:=rv.get (x:=V.bl (bs.getD i true)) (i:=i) (by rw [List.getElem?_map,List.getElem?_eq_getElem hn,List.getD_eq_getElem?_getD,List.getElem?_eq_getElem hn];rfl)
 rw [h'] at e
 cases e
 exact q
theorem rR (bs:List Bool):(List.range bs.length).all (fun i=>bs.getD i true)=bs.all id:=by
 rw [Bool.eq_iff_iff,List.all_eq_true,List.all_eq_true]
 constructor
 ·intro h x hx
  obtain ⟨i,hi,e⟩:=List.mem_iff_getElem.mp hx
  have:=h i (by simpa using hi)
  rw [List.getD_eq_getElem?_getD,List.getElem?_eq_getElem hi,e] at this
  exact this
 ·intro h i hi
  have hi':i<bs.length:=by simpa using hi
  rw [List.getD_eq_getElem?_getD,List.getElem?_eq_getElem hi']
  exact h _ (List.getElem_mem hi')
theorem iO (hc:X.calm=true):CallR X (.builtin "all") (fun xs H Q=>∃(p:Addr) (bs:List Bool),xs=[.ref p]∧SqL X.K H p (bs.map V.bl)∧Q (.bl (bs.all id)) H):=by
 intro pins s σ H xs us Q I r h
 obtain ⟨p,bs,rfl,hq,q⟩:=h
 obtain ⟨u,rfl,rx⟩:=QV r
 cases rx
 obtain ⟨its,rv,pl,hz⟩:=I.list hq
 have hlen:=rv.length
 rw [List.length_map] at hlen
 have hp:p<s.heap.objs.size:=by obtain ⟨o,n,e,_⟩:=pl;exact Heap.lt_size e
 refine call_all_walk (wpAny_pyIter_list pl.isList ?_)
 refine ⟨s.heap.objs.size,_,_,_,_,_,fun i=>bs.getD i true,rfl,Walks.list (A:=X.A.in1) (I.ok.hd hc) s.heap.objs.size p (Nat.ne_of_lt hp) its.toArray,⟨⟨_,Heap.get?_push_size _ rfl,rfl,rfl⟩,pl.isList.at fun o e=>Heap.get?_push_of_some _ e⟩,fun i v s' Q' E' h hQ=>?_,fun h' tk hk=>?_⟩
 ·rw [sO rv h]
  exact wpAny_truthy_bool hQ
 ·rw [List.size_toArray,← hlen,rR]
  refine ⟨.bl (bs.all id),H,I.kept (t':=tk) fun b o e=>hk b o (fun hb=>?_) (Heap.get?_push_of_some _ e),rfl,q⟩
  have e':b=s.heap.objs.size:=by simpa using hb
  exact absurd (Heap.lt_size e) (by rw [e'];exact Nat.lt_irrefl _)
end
end L2
namespace L2
open PySem PySem.Spec PyProof.Rows
section
variable {X:Cx}
end
end L2
namespace L2
open PySem PySem.Spec PyProof.Rows
end L2
namespace L2
open PySem PySem.Spec PyProof.Rows
section
variable {P:Program} {w:World} {H:Hp} {h h':Heap} {a:Addr} {o:HO}
theorem ObjOk.there (x:ObjOk P w H h a o):∃u,h.get? a=some u:=by
 cases o with
 |lst xs=>obtain ⟨_,_,_,_,e⟩:=x;exact ⟨_,e⟩
 |tup xs=>obtain ⟨_,_,_,o,e,_⟩:=x;exact ⟨_,e⟩
 |dK kvs=>obtain ⟨_,_,_,_,o,_,_,e,_⟩:=x;exact ⟨_,e⟩
 |dT kvs=>obtain ⟨_,_,_,_,o,_,_,e,_⟩:=x;exact ⟨_,e⟩
 |set S n=>obtain ⟨o,_,_,_,e,_⟩:=x;exact ⟨_,e⟩
 |ins C dx fs=>obtain ⟨_,_,_,e,_⟩:=x;exact ⟨_,e⟩
 |own y=>obtain ⟨_,e⟩:=x;exact ⟨_,e⟩
 |xd fs=>obtain ⟨_,⟨_,_,_,e,_⟩,_⟩:=x;exact ⟨_,e⟩
 |rng lo hi=>obtain ⟨_,_,_,e⟩:=x;exact ⟨_,e⟩
 |frz ob u=>obtain ⟨e,_⟩:=x;exact ⟨_,e⟩
 |tbl ps=>exact ⟨_,(show h.get? a=some _ from x)⟩
 |met f y=>exact ⟨_,(show h.get? a=some _ from x)⟩
 |ext φ=>obtain ⟨_,e,_⟩:=x;exact e
theorem HOk.there (x:HOk P w H h) (e:H a=some o):∃u,h.get? a=some u:=(x a o e).there
end
end L2
namespace L2
open PySem PySem.Spec PyProof.Rows
section
variable {X:Cx} {R:St→Value→Hp→Prop} {x:Str} {C:Addr} {np cpos pos p:Pos} {e:Expr} {es:List Expr} {t:TA}
end
section
variable {X:Cx} {pins pins':List (Addr×Obj)} {σ:St} {H:Hp} {s:Shared} {R:St→Value→Hp→Prop}
end
section
variable {X:Cx} {pins:List (Addr×Obj)} {σ:St} {H:Hp} {s:Shared} {e:Value}
end
end L2
namespace L2
open PySem PySem.Spec PyProof.Rows
section
variable {P:Program} {w:World} {K:PySem.W.Frag} {mg:Str→Option Value} {base:Heap}
end
section
variable {X:Cx}
end
end L2
namespace L2
open PySem PySem.Spec PyProof.Rows
section
variable {X:Cx} {pins:List (Addr×Obj)} {σ:St} {H:Hp} {s:Shared}
end
end L2
namespace L2
open PySem PySem.Spec PySem.Calls PyProof.Rows PySem.W
section
variable {prog:Program} {w:World} {A:Around} {E:Value→Shared→Prop} {h:Heap} {g:Array GenState} {d:Drawn} {t:Nat} {os:OsState} {a C:Addr} {o:Obj} {K:PySem.W.Frag}
end
section
variable {X:Cx}
end
end L2
namespace L2
open PySem PySem.Spec PyProof.Rows
end L2
namespace L2
open PySem PySem.Spec PyProof.Rows
section
variable {X:Cx} {x:Str} {C:Addr} {pos p:Pos} {e:Expr} {es:List Expr} {t:TA}
end
end L2
namespace L2
open PySem PySem.Spec PyProof.Rows
section
variable {X:Cx}
end
end L2
namespace L2
open PySem PySem.Spec PyProof.Rows
section
variable {X:Cx} {R:St→Value→Hp→Prop} {k k':Nat} {x m:Str} {C:Addr} {ps:List Str} {sp:Sp} {p pos apos:Pos} {o e:Expr} {es:List Expr} {ta:TE} {t:TA}
end
end L2
namespace L2
open PySem PySem.Spec PyProof.Rows
section
variable {κ:Type} [DecidableEq κ]
def cZ (kvs:List (κ×V)) (k:κ):Option V:=(kvs.find? fun kv=>decide (kv.1=k)).map (·.2)
def dA (kvs:List (κ×V)) (k:κ) (v:V):List (κ×V) :=
 if (kvs.any fun kv=>decide (kv.1=k))=true then kvs.map (fun kv=>if kv.1=k then (kv.1,v) else kv) else kvs++[(k,v)]
def nE (kvs:List (κ×V)) (k:κ):List (κ×V):=kvs.filter fun kv=>decide (kv.1≠k)
theorem RelO.getD {o:Option V} {u:Option Value} {d:V} {d':Value} (r:RelO o u) (rd:RelV d d'):RelV (o.getD d) (u.getD d'):=by
 cases o with
 |none=>cases u with
  |none=>exact rd
  |some _=>exact (show False from r).elim
 |some _=>cases u with
  |none=>exact (show False from r).elim
  |some _=>exact r
theorem KV.any {kvs:List (κ×V)} {vs:List (κ×Value)} (r:KV kvs vs) (k:κ):(kvs.any fun kv=>decide (kv.1=k))=vs.any fun kv=>decide (kv.1=k):=by
 unfold KV at r
 induction r with
 |nil=>rfl
 |cons h t ih=>rw [List.any_cons,List.any_cons,ih,h.1]
theorem KV.drop {kvs:List (κ×V)} {vs:List (κ×Value)} (r:KV kvs vs) (k:κ):KV (nE kvs k) (without vs k):=by
  unfold KV at r ⊢
  unfold nE without
  induction r with
  |nil=>exact .nil
  |@cons p q ps qs h t ih =>
    obtain ⟨h1,h2⟩:=h
    rw [List.filter_cons,List.filter_cons]
    by_cases e:p.1=k
    · have a:¬decide (p.1≠k)=true:=by simp [e]
      have b:¬decide (q.1≠k)=true:=by simp [h1.symm.trans e]
      rw [if_neg a,if_neg b];exact ih
    · have e':¬q.1=k:=fun z=>e (h1.trans z)
      have a:decide (p.1≠k)=true:=by simp [e]
      have b:decide (q.1≠k)=true:=by simp [e']
      rw [if_pos a,if_pos b];exact .cons ⟨h1,h2⟩ ih
theorem KV.length {kvs:List (κ×V)} {vs:List (κ×Value)} (r:KV kvs vs):kvs.length=vs.length:=Paired.length r
end
section
variable {P:Program} {w:World} {H:Hp} {h:Heap} {a:Addr}
end
def DGet (H:Hp) (a:Addr) (y:V) (r:Option V):Prop :=
 (∃kvs k,Rd H a (.dK kvs)∧y=kV k∧r=cZ kvs k)∨∃kvs k b,Rd H a (.dT kvs)∧y=.ref b∧H b=some (.tup (k.map kV))∧r=cZ kvs k
def DPut (H:Hp) (a:Addr) (y v:V) (H':Hp):Prop :=
 (∃kvs k,H a=some (.dK kvs)∧y=kV k∧kvs.length<sizeLine∧H'=upd H a (.dK (dA kvs k v)))∨
 ∃kvs k b,H a=some (.dT kvs)∧y=.ref b∧H b=some (.tup (k.map kV))∧kvs.length<sizeLine∧H'=upd H a (.dT (dA kvs k v))
theorem DGet.k {H:Hp} {a:Addr} {kvs:List (kT×V)} {k:kT} (e:H a=some (.dK kvs)):DGet H a (kV k) (cZ kvs k):=.inl ⟨kvs,k,.inl e,rfl,rfl⟩
theorem DGet.t {H:Hp} {a b:Addr} {kvs:List (List kT×V)} {k:List kT} (e:H a=some (.dT kvs)) (eb:H b=some (.tup (k.map kV))):DGet H a (.ref b) (cZ kvs k):=.inr ⟨kvs,k,b,.inl e,rfl,eb,rfl⟩
theorem DPut.k {H:Hp} {a:Addr} {kvs:List (kT×V)} {k:kT} {v:V} (e:H a=some (.dK kvs)) (hl:kvs.length<sizeLine):DPut H a (kV k) v (upd H a (.dK (dA kvs k v))):=.inl ⟨kvs,k,e,rfl,hl,rfl⟩
theorem DPut.t {H:Hp} {a b:Addr} {kvs:List (List kT×V)} {k:List kT} {v:V} (e:H a=some (.dT kvs)) (eb:H b=some (.tup (k.map kV))) (hl:kvs.length<sizeLine) :
  DPut H a (.ref b) v (upd H a (.dT (dA kvs k v))):=.inr ⟨kvs,k,b,e,rfl,eb,hl,rfl⟩
section
variable {X:Cx} {pins:List (Addr×Obj)} {σ:St} {H:Hp} {s:Shared} {a:Addr} {y v:V} {u r:Value} {o:Option V} {A:Around} {E:Value→Shared→Prop}
end
section
variable {X:Cx} {pins:List (Addr×Obj)} {σ:St} {H:Hp} {s:Shared} {a:Addr} {kvs:List (kT×V)} {k:kT} {u:Value} {A:Around} {E:Value→Shared→Prop}
end
section
variable {X:Cx} {o i e value:Expr} {pos pos' tpos:Pos} {td ty tv:TE}
end
section
variable {X:Cx} {pos:Pos}
end
end L2
namespace L2
open PySem PySem.Spec PyProof.Rows
section
variable {X:Cx} {tg:Expr}
end
section
variable {X:Cx}
end
end L2
namespace L2
open PySem PySem.Spec PyProof.Rows
inductive Kd where
 |plain|basin|pump
structure MeK (P:Program) (w:World) (K:PySem.W.Frag) (mg:Str→Option Value) (base:Heap) (k:Nat) (cs:Kd→Addr) (m:Str) (ps:List Str) (ss:Kd→Sp):Prop where
 ex:∀kd,MeD P w K mg base k (cs kd) m ps (ss kd)
def BF (cs:Kd→Addr) (m:Str) (ss:Kd→Sp) (ta:TE) (t:TA):TE:=fun σ H Q=>ta σ H fun x H1=>∃(kd:Kd) (a dx:Addr) (fs:List (Str×V)),x=.ref a∧H1 a=some (.ins (cs kd) dx fs)∧fs.lookup m=none∧
 t σ H1 fun vs H2=>ss kd (x::vs) H2 Q E0
section
variable {X:Cx} {k k':Nat} {x m:Str} {cs:Kd→Addr} {ps:List Str} {ss:Kd→Sp} {p pos apos:Pos} {o e:Expr} {es:List Expr} {ta:TE} {t:TA}
theorem ZR {pl:Sem Bool} (M:MeK X.prog X.w X.K X.mg X.base k cs m ps ss) (hr:Room k' X.A) (ho:PE X o ta) (hk:k≤k':=by decide)
  (ht:eval (.Call (.Attribute o m apos) [] [] pos) X.env=(do
   let ov ← eval o X.env
   standAt apos.atName
   let (f,first) ← holding [ov] (getMethod ov m pl)
   callWith pos f first (backTo pos (starEach [] X.env)) (backToKw pos (keywordEach [] X.env))):=by rfl) :
  PE X (.Call (.Attribute o m apos) [] [] pos) (BF cs m ss ta nJ):=by
 intro pins s σ H Q I h
 refine PySem.W.methodCall_KW (pl:=pl) (jK (ho pins s σ H _ I h) fun u s1 ⟨x,H1,I1,rx,kd,a,dx,fs,ex,ea,l,q⟩=>?_) ht
 obtain ⟨c,f,fd,hm,G,b⟩:=(M.ex kd).ex
 subst ex
 obtain rfl:u=Value.ref a:=rx
 refine tQ I1 ea c hm l ?_
 exact PySem.W.callWith_K0 (first:=[.ref a]) I1.kIn hm.kp (e8 (us:=[.ref a]) (vs:=[.ref a]) (dvs:=[]) G (hr.mono hk) b .nil cY I1 (.cons rfl .nil) q)
end
end L2
namespace L2
open PySem PySem.Spec PyProof.Rows
def Z2 (z:Str):It:=⟨fun i _=>i<z.cps.size,fun i H v H'=>H'=H∧∃c,z.cps[i]?=some c∧v=.str ⟨#[c]⟩,fun i _=>i=z.cps.size⟩
theorem gR {P:Program} {w:World} {K:PySem.W.Frag} {tg:Expr} (it:Addr) (z:Str) (t:Tok) (T:String)
  (W:∀A:Around,A.handled=none→Walks P w A it [it] [it] z.cps.size (SignAt z) (fun i h=>h.IsStrIter it T z t i))
  (hn:["enumerate","zip","dict_itemiterator","dict_reverseitemiterator","odict_iterator","itertools.zip_longest","itertools.pairwise"].contains T=false)
  (hself:∀(A:Around) (i:Nat) (s:Shared) (Q:Value→Shared→Prop) (E:Value→Shared→Prop),s.heap.IsStrIter it T z t i→Q (.ref it) s→wpAny (model P w) A (pyIter (.ref it)) Q E s) :
  Turn P w K tg (Z2 z) [it] it (fun i h=>h.IsStrIter it T z t i) where
 mem:=by simp
 obj:=fun i h st b hb=>by
  have e:b=it:=by simpa using hb
  subst e
  obtain ⟨o,ho,_,hd⟩:=st
  exact ⟨o,ho,fun v q=>by rw [hd] at q;cases q⟩
 keep:=fun i h h' st k=>by
  obtain ⟨o,ho,r⟩:=st
  exact ⟨o,k it (by simp) o ho,r⟩
 item:=by
  intro X hP hw hK hc i pins s σ H E I hf st hg
  subst hP hw hK
  obtain ⟨f0,f1,f2,f3,f4,f5⟩:=hf it (by simp)
  refine (W X.A (I.ok.hd hc)).item i s _ _ hg st fun v h' tk hv st' kk=>?_
  obtain ⟨c,u,hcx,rfl⟩:=hv
  have I1:Inv X pins σ H {s with heap:=h',toks:=tk}:=I.turned (fun b o hb e=>kk b o (by simpa using hb) e) f0 f1 f3 f4 f5
  have st2:=st'
  obtain ⟨o,ho,hcl,hd⟩:=st2
  exact ⟨_,rfl,ZX (s:={s with heap:=h',toks:=tk}) (n:=T) ho hcl hd hn ⟨.str ⟨#[c]⟩,H,I1,⟨u,rfl⟩,⟨rfl,c,hcx,rfl⟩,st',fun b hb=>(hf b hb).1⟩⟩
 done:=by
  intro X hP hw hK hc i pins s σ H E I hf st hg
  subst hP hw hK
  obtain ⟨f0,f1,f2,f3,f4,f5⟩:=hf it (by simp)
  have e:i=z.cps.size:=hg
  subst e
  exact (W X.A (I.ok.hd hc)).done s _ _ st fun h' tk eb=>⟨rfl,I.turned (fun b o hb e=>eb b o (by simpa using hb) e) f0 f1 f3 f4 f5⟩
 self:=fun A i s Q E st h=>hself A i s Q E st h
section
variable {X:Cx} {tg:Expr}
def DO (tl:TE):TI:=fun σ H R=>tl σ H fun x H1=>∃z:Str,x=.str z∧R (Z2 z) H1
theorem BM {l:Expr} {tl:TE} (hl:PE X l tl):PI X tg l (DO tl):=by
 intro pins s σ H R I h
 refine jK (hl pins s σ H _ I h) fun v s1 ⟨x,H1,I1,r1,q1⟩=>?_
 obtain ⟨z,e,q⟩:=q1
 subst e
 obtain ⟨t,rfl⟩:=r1
 have fin:∀(o:Obj) (T:String) (tn:Nat→Heap→Prop),Turn X.prog X.w X.K tg (Z2 z) [s1.heap.objs.size] s1.heap.objs.size tn→tn 0 (s1.heap.push o)→dI X pins σ tg R (.ref s1.heap.objs.size) {s1 with heap:=s1.heap.push o}:=by
  intro o T tn tu h0
  refine ⟨s1.heap.objs.size,[s1.heap.objs.size],tn,_,H1,rfl,I1.kept (t':=s1.toks) fun b o e=>Heap.get?_push_of_some _ e,tu,h0,fun b hb=>?_,q⟩
  have e:b=s1.heap.objs.size:=by simpa using hb
  subst e
  exact I1.fpOk (Nat.le_refl _) (I1.hok.fresh (Nat.le_refl _))
 cases ha:z.cps.all (· < 128)
 ·exact wpAny_pyIter_wide ha (fin _ "str_iterator" _ (gR _ z t "str_iterator" (fun A hA=>Walks.strWide hA _ z t) (by decide) (fun A i s Q E st h=>wpAny_pyIter_striter_wide st h)) ⟨_,Heap.get?_push_size _ rfl,rfl,rfl⟩)
 ·exact wpAny_pyIter_ascii ha (fin _ "str_ascii_iterator" _ (gR _ z t "str_ascii_iterator" (fun A hA=>Walks.strAscii hA _ z t) (by decide) (fun A i s Q E st h=>wpAny_pyIter_striter_ascii st h)) ⟨_,Heap.get?_push_size _ rfl,rfl,rfl⟩)
end
theorem tZ {z:Str} {D:Addr} {g:TG} {tc:TT} {te:TE} {σ₀:St} {H:Hp} {Q:Hp→Prop} (Pv:Nat→St→Hp→Prop) (h0:Pv 0 σ₀ (upd H D (.lst [])))
  (hs:∀i c σ H,z.cps[i]?=some c→Pv i σ H→g (.str ⟨#[c]⟩) σ H fun σ2 H3=>tc σ2 H3 fun b H4=>if b=true then te σ2 H4 fun v H5=>∃ys,H5 D=some (.lst ys)∧ys.length<sizeLine∧Pv (i+1) σ2 (upd H5 D (.lst (ys++[v]))) else Pv (i+1) σ2 H4)
  (hd:∀σ H,Pv z.cps.size σ H→Q H):yG D (Z2 z) g tc te σ₀ H Q:=by
 refine ⟨fun i m σ H=>m=z.cps.size - i∧i≤z.cps.size∧Pv i σ H,⟨_,rfl,Nat.zero_le _,h0⟩,?_⟩
 rintro i m σ H ⟨rfl,hi,p⟩
 by_cases hlt:i<z.cps.size
 ·refine .inr ⟨hlt,Pv (i+1),fun σ' H' p'=>⟨z.cps.size - (i+1),by omega,rfl,hlt,p'⟩,fun x H' y=>?_⟩
  obtain ⟨e,c,hc,y⟩:=y
  subst e y
  exact hs i c σ _ hc p
 ·have e:i=z.cps.size:=by omega
  subst e
  exact .inl ⟨rfl,hd σ H p⟩
theorem wF {z:Str} {D:Addr} {tc:TT} {te:TE} {caps:St} {H:Hp} {Q:Hp→Prop} (R:Nat→List V→Hp→Prop) (hD:H D=none) (h0:R 0 [] (upd H D (.lst [])))
  (hs:∀i c ys Hi,z.cps[i]?=some c→ys.length≤i→Same H Hi→Hi D=some (.lst ys)→R i ys Hi→tc (some (.str ⟨#[c]⟩)::caps) Hi fun b H4=>if b=true then te (some (.str ⟨#[c]⟩)::caps) H4 fun v H5=>∃zs,H5 D=some (.lst zs)∧zs.length<sizeLine∧vJ H D caps R (i+1) (some (.str ⟨#[c]⟩)::caps) (upd H5 D (.lst (zs++[v])))
   else vJ H D caps R (i+1) (some (.str ⟨#[c]⟩)::caps) H4)
  (hd:∀ys Hf,Same H Hf→Hf D=some (.lst ys)→ys.length≤z.cps.size→R z.cps.size ys Hf→Q Hf):yG D (Z2 z) (QZ 0) tc te (none::caps) H Q:=by
 refine tZ (vJ H D caps R) ⟨[],none,rfl,kU hD (Same.refl H),jD,Nat.le_refl _,h0⟩ ?_ ?_
 ·rintro i c σ Hi hi ⟨ys,c',rfl,s,hY,hl,r⟩
  exact hs i c ys Hi hi hl s hY r
 ·rintro σ Hf ⟨ys,c,rfl,s,hY,hl,r⟩
  exact hd ys Hf s hY hl r
section
variable {X:Cx}
def DE:V→Option Int→Option Int→Hp→VK→Prop:=fun x lo hi H Q=>∃z:Str,x=.str z∧z.length≤sizeLine∧Q (.str (Txt.slice z lo hi)) H
theorem cM:SlR X DE:=by
 intro pins s σ H x v vl vu lo hi sl Q I rx hs pl pu h
 obtain ⟨z,rfl,hz,q⟩:=h
 obtain ⟨t,rfl⟩:=rx
 refine ⟨"str",_,F.slot_str_getitem.lookup,typeIs_str _ _ _,?_⟩
 have fin:∀(l u:Option (Int×Tok)),l.map (·.1)=lo→u.map (·.1)=hi→s.heap.IsSlice sl l u none→wpAny (model X.prog X.w) X.A (getItem (.str z t) (.ref sl)) (EP X pins σ Q) X.xe s:=by
  intro l u e1 e2 hsl
  subst e1 e2
  exact wpAny_getItem_str_slice hsl rfl (post_val_or_str ⟨Nat.le_trans (Txt.slice_le z _ _) hz,fun t' k=>⟨.str (Txt.slice z (l.map (·.1)) (u.map (·.1))),H,I.tok _,⟨t',rfl⟩,q⟩⟩)
 obtain ⟨o,ho,hc,hd⟩:=hs
 cases pl with
 |none =>
  cases pu with
  |none=>exact fin none none rfl rfl ⟨o,ho,hc,hd⟩
  |int j tj=>exact fin none (some (j,tj)) rfl rfl ⟨o,ho,hc,hd⟩
 |int i ti =>
  cases pu with
  |none=>exact fin (some (i,ti)) none rfl rfl ⟨o,ho,hc,hd⟩
  |int j tj=>exact fin (some (i,ti)) (some (j,tj)) rfl rfl ⟨o,ho,hc,hd⟩
end
end L2
namespace L2
open PySem PySem.Spec PyProof.Rows
section
variable {X:Cx} {K:PySem.W.Frag} {w:World} {o i:Expr} {pos:Pos} {td ty:TE}
end
end L2
namespace L2
open PySem PySem.Spec PyProof.Rows
inductive DEq (K:PySem.W.Frag) (H:Hp):V→V→Bool→Prop where
 |flat {x y:V} (hx:qZ x=true) (hy:qZ y=true):DEq K H x y (vV x y)
 |same (a:Addr):DEq K H (.ref a) (.ref a) true
 |tup {a b:Addr} {xs ys:List V} (ne:a≠b) (ha:SqT K H a xs) (hb:SqT K H b ys) (fx:xs.all qZ=true) (fy:ys.all qZ=true):DEq K H (.ref a) (.ref b) (zL xs ys)
 |lst {a b:Addr} {xs ys:List V} (ne:a≠b) (ha:SqL K H a xs) (hb:SqL K H b ys) (fx:xs.all qZ=true) (fy:ys.all qZ=true):DEq K H (.ref a) (.ref b) (zL xs ys)
section
variable {X:Cx} {pins:List (Addr×Obj)} {σ:St} {H:Hp} {s:Shared} {A:Around}
theorem DEq.at {x y:V} {u v:Value} {e:Bool} (I:Inv X pins σ H s) (d:DEq X.K H x y e) (rx:RelV x u) (ry:RelV y v) (hu:A.units<cLine):SeqAt.EqAt A s u v e:=by
 cases d with
 |flat hx hy=>exact cV rx ry hx hy
 |same a=>cases rx;cases ry;exact SeqAt.EqAt.same _
 |@tup a b xs ys ne ha hb fx fy =>
  cases rx;cases ry
  obtain ⟨its,r,pl,hz⟩:=I.tuple ha
  obtain ⟨its2,r2,pl2,hz2⟩:=I.tuple hb
  have hl:=r.length
  have hl2:=r2.length
  have h:=SeqAt.RcAt.tuples (A:=A) (e:=fun j=>vV (xs.getD j .non) (ys.getD j .non)) pl pl2 hu (fun j h1 h2=>cV (bF r h1) (bF r2 h2) (bP fx (by rw [hl];simpa using h1)) (bP fy (by rw [hl2];simpa using h2)))
  have e:((List.range (min its.toArray.size its2.toArray.size)).all (fun j=>vV (xs.getD j .non) (ys.getD j .non))&&its.toArray.size == its2.toArray.size)=zL xs ys:=by
   unfold zL
   rw [List.size_toArray,List.size_toArray,← hl,← hl2]
  rw [e] at h
  exact SeqAt.EqAt.of_refs ne h
 |@lst a b xs ys ne ha hb fx fy =>
  cases rx;cases ry
  obtain ⟨its,r,pl,hz⟩:=I.list ha
  obtain ⟨its2,r2,pl2,hz2⟩:=I.list hb
  have hl:=r.length
  have hl2:=r2.length
  by_cases he:xs.length=ys.length
  ·have h:=SeqAt.RcAt.lists (A:=A) (e:=fun j=>vV (xs.getD j .non) (ys.getD j .non)) pl.isList pl2.isList (by rw [List.size_toArray,List.size_toArray,← hl,← hl2,he]) hu (fun j h1 h2=>cV (bF r h1) (bF r2 h2) (bP fx (by rw [hl];simpa using h1)) (bP fy (by rw [hl2];simpa using h2)))
   have e:((List.range its.toArray.size).all (fun j=>vV (xs.getD j .non) (ys.getD j .non)))=zL xs ys:=by
    unfold zL
    rw [List.size_toArray,← hl,← he,Nat.min_self,beq_self_eq_true,Bool.and_true]
   rw [e] at h
   exact SeqAt.EqAt.of_refs ne h
  ·have hf:zL xs ys=false:=by
    unfold zL
    rw [show (xs.length == ys.length)=false from beq_eq_false_iff_ne.mpr he,Bool.and_false]
   rw [hf]
   exact SeqAt.EqAt.of_refs ne (SeqAt.RcAt.lists_lengths pl.isList pl2.isList (by rw [List.size_toArray,List.size_toArray,← hl,← hl2];exact bne_iff_ne.mpr he) hu)
end
section
variable {X:Cx}
end
end L2
namespace L2
open PySem PySem.Spec PyProof.Rows
end L2
namespace L2
open PySem PySem.Spec PyProof.Rows
end L2
namespace L2
open PySem PySem.Spec PyProof.Rows
end L2
namespace L2
open PySem PySem.Spec PyProof.Rows
section
variable {X:Cx}
theorem wI:CallR X (.type "int") (fun xs H Q=>∃(z:Str) (n:Int),xs=[.str z]∧z.length≤640∧PySem.intText? z=some n∧Q (.int n) H):=by
 intro pins s σ H xs us Q I r h
 obtain ⟨z,n,rfl,hl,hn,q⟩:=h
 obtain ⟨u,rfl,t,rfl⟩:=QV r
 exact PySem.W.KIN.call_text hn hl ⟨.int n,H,I.tok _,⟨_,rfl⟩,q⟩
theorem ZA:CallR X (.type "str") (fun xs H Q=>∃n:Int,xs=[.int n]∧n.natAbs.log2<1920∧Q (.str (Str.ofString (toString n))) H):=by
 intro pins s σ H xs us Q I r h
 obtain ⟨n,rfl,hl,q⟩:=h
 obtain ⟨u,rfl,t,rfl⟩:=QV r
 exact P.str_of_int hl ⟨.str (Str.ofString (toString n)),H,I.tok _,⟨_,rfl⟩,q⟩
theorem B0 (c:Nat):(!(Builtin.Str.occurrences ("0123456789":Str) ⟨#[c]⟩ 0 ("0123456789":Str).length 1).isEmpty)=(decide (48≤c)&&decide (c≤57)):=by
 rw [PySem.StrLaws.found_one,show ("0123456789":Str).cps.toList=[48,49,50,51,52,53,54,55,56,57] by decide +kernel]
 rw [← Bool.decide_and]
 refine decide_eq_decide.mpr ⟨fun h=>?_,fun h=>?_⟩
 ·simp only [List.mem_cons,List.mem_nil_iff,or_false] at h
  omega
 ·simp only [List.mem_cons,List.mem_nil_iff,or_false]
  omega
end
end L2
namespace L2
open PySem PySem.Spec PyProof.Rows
end L2
namespace L2
open PySem PySem.Spec PyProof.Rows
section
variable {X:Cx}
theorem gH:∀{zs:List Str} {us:List Value},Vals (zs.map V.str) us→∃l:List (Str×Tok),us=strValues l∧l.map (·.1)=zs
 |[],us,r=>by rw [List.map_nil] at r;cases r;exact ⟨[],rfl,rfl⟩
 |z::r,us,h=>by
  rw [List.map_cons] at h
  cases h with
  |@cons a b as bs ha ht =>
   obtain ⟨l,rfl,hl⟩:=gH ht
   obtain ⟨t,rfl⟩:=(show ∃t,b=Value.str z t from ha)
   exact ⟨(z,t)::l,rfl,by rw [List.map_cons,hl]⟩
theorem gI:∀(l:List (Str×Tok)),Vals ((l.map (·.1)).map V.str) (strValues l)
 |[]=>.nil
 |p::r=>.cons ⟨p.2,rfl⟩ (gI r)
def z4 (zs:List Str):Nat:=(zs.map (·.length)).sum
def CA (K:PySem.W.Frag):V→List V→Hp→VK→Prop:=fun x vs H Q=>∃(z:Str) (l:Addr) (zs:List Str),x=.str z∧vs=[.ref l]∧SqL K H l (zs.map V.str)∧z.length≤16∧z4 zs+zs.length≤1048576∧Q (.str (Str.join z zs)) H
theorem cE:dM X "str.join" (CA X.K):=by
 intro pins s σ H x vs v us Q I rx rv h
 obtain ⟨z,l,zs,rfl,rfl,hl,hz,hw,q⟩:=h
 obtain ⟨t,rfl⟩:=rx
 obtain ⟨u,rfl,ru⟩:=rv.one
 cases ru
 obtain ⟨its,r,pl,_⟩:=I.list hl
 obtain ⟨l',rfl,hl'⟩:=gH r
 refine SC.join (l:=l') (texts:=zs) pl.isList hl' (joinOk_of_weight hw hz) fun t' k=>⟨.str (Str.join z zs),H,I.tok _,?_,q⟩
 exact ⟨t',by show Value.str (Txt.join z zs) t'=_;unfold Txt.join;rw [StrLaws.glued_eq_join]⟩
def BI:V→List V→Hp→VK→Prop:=fun x vs H Q=>∃(z y:Str),x=.str z∧vs=[.str y]∧(y.length == 0)=false∧z.length≤1000000∧∀l,H l=none→Q (.ref l) (upd H l (.lst ((Txt.split z y).map V.str)))
theorem gT (x y:Str) (hy:1≤y.length):(Txt.split x y).length≤x.length+1:=by
 have:=PyProof.Rows.split_weight x y hy
 omega
theorem lH:dM X "str.split" BI:=by
 intro pins s σ H x vs v us Q I rx rv h
 obtain ⟨z,y,rfl,rfl,hy,hz,q⟩:=h
 obtain ⟨t,rfl⟩:=rx
 obtain ⟨u,rfl,t',rfl⟩:=rv.one
 have hy1:1≤y.length:=by
  have:=beq_eq_false_iff_ne.mp hy
  omega
 have hsl:=gT z y hy1
 have hzs:z.length+1≤sizeLine:=by rw [sizeLine_eq];omega
 have fin:∀(l:List (Str×Tok)) (tk:Nat),l.map (·.1)=Txt.split z y→EP X pins σ Q (.ref s.heap.objs.size) {s with toks:=tk,heap:=s.heap.push {cls:=.type "list",data:=.seq (strValues l).toArray}}:=fun l tk e=>by
  have hv:=gI l
  rw [e] at hv
  exact ⟨.ref s.heap.objs.size,_,I.laid (t':=tk) (o:=.lst ((Txt.split z y).map V.str)) (fun _ _ q=>Heap.get?_push_of_some _ q) (Nat.le_refl _) ⟨by rw [List.length_map];omega,strValues l,0,hv,Heap.get?_push_size _ rfl⟩,rfl,q _ (I.hok.fresh (Nat.le_refl _))⟩
 cases h1:(decide (z.length<y.length)||decide (Builtin.Str.strKind z<Builtin.Str.strKind y))
 ·cases hf:(Builtin.Str.occurrences z y 0 z.length (z.length+1)).isEmpty
  ·have hsp:Txt.split z y=Builtin.Str.partsBetween z (Builtin.Str.occurrences z y 0 z.length (z.length+1)) y.length:=(if_neg (ne_true_of_eq_false h1)).trans (if_neg (ne_true_of_eq_false hf))
   refine call_meets F.slot_str_split (typeIs_str _ _ _) F.entry_str_split (F.args_str_split_2 _ _) (meets_str_split_sep z y t t' h1 hy hf (by omega) (by rw [← hsp];omega)) ?_
   show wants _ _ _ {s with toks:=_,heap:=s.heap.push {cls:=.type "list",data:=.seq (strsFrom s.toks (Builtin.Str.partsBetween z (Builtin.Str.occurrences z y 0 z.length (z.length+1)) y.length)).toArray}}
   rw [strsFrom_eq]
   exact fin (numbered s.toks _) _ ((numbered_texts _ _).trans hsp.symm)
  ·exact call_meets F.slot_str_split (typeIs_str _ _ _) F.entry_str_split (F.args_str_split_2 _ _) (meets_str_split_not_found z y t t' h1 hy hf)
    (fin [(z,t)] _ ((if_neg (ne_true_of_eq_false h1)).trans (if_pos hf)).symm)
 ·exact call_meets F.slot_str_split (typeIs_str _ _ _) F.entry_str_split (F.args_str_split_2 _ _) (meets_str_split_cannot_occur z y t t' h1)
   (fin [(z,t)] _ (if_pos h1).symm)
end
end L2
namespace L2
open PySem PySem.Spec PyProof.Rows
def zI (c:Nat):List (List Nat)→List Nat
 |[]=>[]
 |[x]=>x
 |x::y::r=>x++c::zI c (y::r)
theorem bV (c:Nat):∀ps:List Str,(Str.join ⟨#[c]⟩ ps).cps.toList=zI c (ps.map fun p=>p.cps.toList)
 |[]=>rfl
 |[x]=>rfl
 |x::y::r=>by
  show ((x++(⟨#[c]⟩:Str))++Str.join ⟨#[c]⟩ (y::r)).cps.toList=x.cps.toList++c::zI c ((y::r).map fun p=>p.cps.toList)
  rw [← bV c (y::r)]
  show ((x.cps++#[c])++(Str.join ⟨#[c]⟩ (y::r)).cps).toList=_
  simp
theorem mN {c:Nat}:∀{x y A B:List Nat},c∉x→c∉y→x++c::A=y++c::B→x=y∧A=B
 |[],[],A,B,_,_,h=>⟨rfl,(List.cons.inj h).2⟩
 |[],b::y,A,B,_,hy,h=>absurd (List.mem_cons.mpr (.inl (List.cons.inj h).1)) hy
 |a::x,[],A,B,hx,_,h=>absurd (List.mem_cons.mpr (.inl (List.cons.inj h).1.symm)) hx
 |a::x,b::y,A,B,hx,hy,h=>by
  obtain ⟨h1,h2⟩:=List.cons.inj h
  obtain ⟨h3,h4⟩:=mN (fun z=>hx (List.mem_cons_of_mem _ z)) (fun z=>hy (List.mem_cons_of_mem _ z)) h2
  exact ⟨by rw [h1,h3],h4⟩
theorem iH (c:Nat):∀(ps qs:List (List Nat)),ps≠[]→qs≠[]→(∀p∈ps,c∉p)→(∀q∈qs,c∉q)→zI c ps=zI c qs→ps=qs
 |[],_,h,_,_,_,_=>absurd rfl h
 |_::_,[],_,h,_,_,_=>absurd rfl h
 |[x],[y],_,_,_,_,h=>by rw [show x=y from h]
 |[x],y::y2::r,_,_,hp,_,h=>by
  have h:x=y++c::zI c (y2::r):=h
  exact absurd (by rw [h];exact List.mem_append_right _ List.mem_cons_self) (hp x List.mem_cons_self)
 |x::x2::r,[y],_,_,_,hq,h=>by
  have h:x++c::zI c (x2::r)=y:=h
  exact absurd (by rw [← h];exact List.mem_append_right _ List.mem_cons_self) (hq y List.mem_cons_self)
 |x::x2::r,y::y2::r',_,_,hp,hq,h=>by
  obtain ⟨h1,h2⟩:=mN (hp x List.mem_cons_self) (hq y List.mem_cons_self) h
  rw [h1,iH c (x2::r) (y2::r') (List.cons_ne_nil _ _) (List.cons_ne_nil _ _) (fun p h=>hp p (List.mem_cons_of_mem _ h)) (fun q h=>hq q (List.mem_cons_of_mem _ h)) h2]
theorem gD:∀{ps qs:List Str},(ps.map fun p=>p.cps.toList)=(qs.map fun p=>p.cps.toList)→ps=qs
 |[],[],_=>rfl
 |[],_::_,h=>by cases h
 |_::_,[],h=>by cases h
 |p::ps,q::qs,h=>by
  obtain ⟨h1,h2⟩:=List.cons.inj h
  rw [gD h2]
  obtain ⟨a⟩:=p
  obtain ⟨b⟩:=q
  rw [show a=b from Array.toList_inj.mp h1]
theorem wR (x y:Str) (hy:1≤y.length):Txt.split x y≠[]:=by
 intro h
 have hj:=StrLaws.join_split x y
 rw [h] at hj
 unfold Txt.split at h
 split at h
 ·cases h
 ·split at h
  ·cases h
  ·rename_i h2
   unfold Builtin.Str.partsBetween at h
   simp at h
theorem gJ (c:Nat) {ps:List Str} (h0:ps≠[]) (hp:∀p∈ps,c∉p.cps.toList):Txt.split (Str.join ⟨#[c]⟩ ps) ⟨#[c]⟩=ps:=by
 refine gD (iH c _ _ ?_ ?_ ?_ ?_ ?_)
 ·intro h;exact wR _ ⟨#[c]⟩ (Nat.le_refl 1) (List.map_eq_nil_iff.mp h)
 ·intro h;exact h0 (List.map_eq_nil_iff.mp h)
 ·intro p h
  obtain ⟨q,hq,rfl⟩:=List.mem_map.mp h
  exact StrLaws.split_free _ c q hq
 ·intro p h
  obtain ⟨q,hq,rfl⟩:=List.mem_map.mp h
  exact hp q hq
 ·rw [← bV,← bV,StrLaws.join_split]
end L2
namespace L2
open PySem PySem.Spec PyProof.Rows
def Q2 (a c:Int) (n:Nat):It:=⟨fun i _=>i<n,fun i H x H'=>H'=H∧x=.int (a+(i:Int)*c),fun i _=>n≤i⟩
theorem t4 {P:Program} {w:World} {K:PySem.W.Frag} {tg:Expr} (it:Addr) (a c:Int) (n:Nat):Turn P w K tg (Q2 a c n) [it] it (fun i h=>IsRangeIter h it (a+(i:Nat)*c) ((n:Int) - (i:Nat)) c) where
 mem:=by simp
 obj:=fun i h st b hb=>by
  have e:b=it:=by simpa using hb
  subst e
  exact ⟨_,st,fun v z=>by
   have z':Data.fields _=Data.cell v:=z
   cases z'⟩
 keep:=fun i h h' st k=>k it (by simp) _ st
 item:=by
  intro X hP hw hK hc i pins s σ H E I hf st hg
  subst hP hw hK
  obtain ⟨f0,f1,f2,f3,f4,f5⟩:=hf it (by simp)
  have W:=Walks.range (prog:=X.prog) (w:=X.w) (I.ok.hd hc) it a c n
  refine W.item i s _ _ hg st fun v h' tk hv st' kk=>?_
  obtain ⟨t,rfl⟩:=hv
  have I1:Inv X pins σ H {s with heap:=h',toks:=tk}:=I.turned (fun b o hb e=>kk b o (by simpa using hb) e) f0 f1 f3 f4 f5
  exact ⟨_,rfl,ZX (s:={s with heap:=h',toks:=tk}) (n:="range_iterator") st' rfl rfl (by decide) ⟨.int (a+(i:Int)*c),H,I1,⟨t,rfl⟩,⟨rfl,rfl⟩,st',fun b hb=>(hf b hb).1⟩⟩
 done:=by
  intro X hP hw hK hc i pins s σ H E I hf st hg
  subst hP hw hK
  obtain ⟨f0,f1,f2,f3,f4,f5⟩:=hf it (by simp)
  exact wpAny_pyNext_range_end (I.ok.hd hc) st (by have:n≤i:=hg;omega) fun h' eb=>⟨rfl,I.turned (t':=s.toks) (fun b o hb e=>eb b o hb e) f0 f1 f3 f4 f5⟩
 self:=fun _ _ _ _ _ st h=>wpAny_pyIter_rangeiter st h
section
variable {X:Cx} {tg:Expr}
theorem xZ {pins:List (Addr×Obj)} {σ:St} {H:Hp} {s:Shared} {R:It→Hp→Prop} {E:Value→Shared→Prop} {n:Nat} {a b c:Int} {t u v:Tok} {tk:Nat} (I:Inv X pins σ H s) (hsm:Builtin.Range.small a b c=true) (hn:Builtin.Range.rangeSize a b c=n)
    (q:R (Q2 a c n) H):wpAny (model X.prog X.w) X.A (pyIter (.ref s.heap.objs.size)) (dI X pins σ tg R) E {s with heap:=s.heap.push {cls:=.type "range",data:=.fields #[.int a t,.int b u,.int c v]},toks:=tk}:=by
  refine wpAny_pyIter_range (IsRange.new ..) hsm ?_
  have I1:Inv X pins σ H {s with heap:=s.heap.push {cls:=.type "range",data:=.fields #[.int a t,.int b u,.int c v]},toks:=tk}:=I.kept fun b o e=>Heap.get?_push_of_some _ e
  refine ⟨(s.heap.push {cls:=.type "range",data:=.fields #[.int a t,.int b u,.int c v]}).objs.size,[(s.heap.push {cls:=.type "range",data:=.fields #[.int a t,.int b u,.int c v]}).objs.size],_,_,H,rfl,
    I1.kept (t':=tk) fun b o e=>Heap.get?_push_of_some _ e,t4 _ a c n,?_,fun b' hb=>?_,q⟩
  · have e1:a+((0:Nat):Int)*c=a:=by simp
    have e2:((n:Nat):Int) - ((0:Nat):Int)=Builtin.Range.rangeSize a b c:=by rw [hn];simp
    show IsRangeIter _ _ (a+((0:Nat):Int)*c) (((n:Nat):Int) - ((0:Nat):Int)) c
    rw [e1,e2]
    exact Heap.get?_push_size _ rfl
  · have e:b'=(s.heap.push {cls:=.type "range",data:=.fields #[.int a t,.int b u,.int c v]}).objs.size:=by simpa using hb
    subst e
    exact I1.fpOk (Nat.le_refl _) (I1.hok.fresh (Nat.le_refl _))
def CN (ta:TA):TI:=fun σ H R=>ta σ H fun vs H1=>∃(a b c:Int) (n:Nat),vs=[.int a,.int b,.int c]∧c≠0∧c.natAbs<1073741824∧Builtin.Range.small a b c=true∧Builtin.Range.rangeSize a b c=n∧R (Q2 a c n) H1
theorem AC {a b c:Expr} {ta:TA} {p pos:Pos} (hg:Gl X "range") (hm:X.mg "range"=none) (ha:PA X [a,b,c] ta) (hs:starEach [a,b,c] X.env=[(false,eval a X.env),(false,eval b X.env),(false,eval c X.env)]:=by rfl) (hs2:starEach [b,c] X.env=[(false,eval b X.env),(false,eval c X.env)]:=by rfl) :
  PI X tg (.Call (.Name "range" p) [a,b,c] [] pos) (CN ta):=by
 intro pins s σ H R I h
 refine Call_ (yF I hg hm boot_range (PyProof.Rows.callWith_type1 (jK (ha pos pins s σ H _ I h) fun us s1 ⟨vs,H1,I1,r1,q1⟩=>?_) (by rw [hs,hs2]) (by rw [hs2];rfl)))
 obtain ⟨x,y,z,n,e,hz,hzs,hsm,hn,q⟩:=q1
 subst e
 cases r1 with
 |cons r rr =>
  cases rr with
  |cons r' rr =>
   cases rr with
   |cons r'' rr =>
    cases rr
    obtain ⟨t,rfl⟩:=r
    obtain ⟨t',rfl⟩:=r'
    obtain ⟨t'',rfl⟩:=r''
    exact call_range_3 hz (xZ I1 hsm hn q) (.inl (PyProof.noPylong_small hzs))
end
theorem xO {a c:Int} {n:Nat} {g:TG} {tb:TS} {D:Ends} {σ:St} {H:Hp} (Pv:Nat→St→Hp→Prop) (h0:Pv 0 σ H)
  (hs:∀i σ H,i<n→Pv i σ H→g (.int (a+(i:Int)*c)) σ H fun σ2 H2=>tb {D with nx:=Pv (i+1),ct:=Pv (i+1),bk:=D.nx} σ2 H2) (hd:∀σ H,Pv n σ H→D.nx σ H) :
  ∃W:Nat→Nat→St→Hp→Prop,(∃m,W 0 m σ H)∧∀i m σ H,W i m σ H→
   ((Q2 a c n).stop i H∧D.nx σ H)∨((Q2 a c n).go i H∧∃N:St→Hp→Prop,(∀σ' H',N σ' H'→∃m',m'<m∧W (i+1) m' σ' H')∧∀x H',(Q2 a c n).yld i H x H'→g x σ H' fun σ2 H2=>tb {D with nx:=N,ct:=N,bk:=D.nx} σ2 H2):=by
 refine ⟨fun i m σ H=>m=n - i∧i≤n∧Pv i σ H,⟨n,by simp,Nat.zero_le _,h0⟩,?_⟩
 rintro i m σ H ⟨rfl,hi,p⟩
 by_cases hlt:i<n
 ·refine .inr ⟨hlt,Pv (i+1),fun σ' H' p'=>⟨n - (i+1),by omega,rfl,hlt,p'⟩,fun x H' y=>?_⟩
  obtain ⟨e,y⟩:=y
  subst e y
  exact hs i σ _ hlt p
 ·have e:i=n:=by omega
  subst e
  exact .inl ⟨Nat.le_refl _,hd σ H p⟩
theorem uA {a b c:Int} (hc:0<c):Builtin.Range.rangeSize a b c=if a<b then (b - a - 1) / c+1 else 0:=by
 unfold Builtin.Range.rangeSize
 rw [if_pos hc]
theorem tY {K:PySem.W.Frag} {a D:Addr} {xs:List V} {g:TG} {tc:TT} {te:TE} {σ₀:St} {H:Hp} {Q:Hp→Prop} (Pv:Nat→St→Hp→Prop) (h0:Pv 0 σ₀ (upd H D (.lst []))) (hl:∀i σ H,i≤xs.length→Pv i σ H→SqT K H a xs)
    (hs:∀i x σ H,xs[i]?=some x→Pv i σ H→g x σ H fun σ2 H3=>tc σ2 H3 fun b H4=>if b=true then te σ2 H4 fun v H5=>∃ys,H5 D=some (.lst ys)∧ys.length<sizeLine∧Pv (i+1) σ2 (upd H5 D (.lst (ys++[v]))) else Pv (i+1) σ2 H4)
    (hd:∀σ H,Pv xs.length σ H→Q H):yG D (dN K a) g tc te σ₀ H Q:=by
  refine ⟨fun i m σ H=>m=xs.length - i∧i≤xs.length∧Pv i σ H,⟨xs.length,by simp,Nat.zero_le _,h0⟩,?_⟩
  rintro i m σ H ⟨rfl,hi,p⟩
  have q:=hl i σ H hi p
  by_cases hlt:i<xs.length
  · refine .inr ⟨⟨xs,xs[i],q,by simp [hlt]⟩,Pv (i+1),fun σ' H' p'=>⟨xs.length - (i+1),by omega,rfl,hlt,p'⟩,fun x H' y=>?_⟩
    obtain ⟨e,y⟩:=y
    subst e
    exact hs i x σ _ (y xs q) p
  · have e:i=xs.length:=by omega
    subst e
    exact .inl ⟨⟨xs,q,Nat.le_refl _⟩,hd σ H p⟩
theorem wE {K:PySem.W.Frag} {a D:Addr} {xs:List V} {tc:TT} {te:TE} {caps:St} {H:Hp} {Q:Hp→Prop} (R:Nat→List V→Hp→Prop) (hD:H D=none) (hS:H a=some (.tup xs)) (h0:R 0 [] (upd H D (.lst [])))
  (hs:∀i x ys Hi,xs[i]?=some x→i<xs.length→ys.length≤i→Same H Hi→Hi D=some (.lst ys)→R i ys Hi→tc (some x::caps) Hi fun b H4=>if b=true then te (some x::caps) H4 fun v H5=>∃zs,H5 D=some (.lst zs)∧zs.length<sizeLine∧vJ H D caps R (i+1) (some x::caps) (upd H5 D (.lst (zs++[v])))
   else vJ H D caps R (i+1) (some x::caps) H4)
  (hd:∀ys Hf,Same H Hf→Hf D=some (.lst ys)→ys.length≤xs.length→R xs.length ys Hf→Q Hf):yG D (dN K a) (QZ 0) tc te (none::caps) H Q:=by
 refine tY (xs:=xs) (vJ H D caps R) ⟨[],none,rfl,kU hD (Same.refl H),jD,Nat.le_refl _,h0⟩ (fun i σ Hi _ ⟨_,_,_,s,_⟩=>SqT.of (s _ _ hS)) ?_ ?_
 ·rintro i x σ Hi hx ⟨ys,c,rfl,s,hY,hl,r⟩
  exact hs i x ys Hi hx (List.getElem?_eq_some_iff.mp hx).1 hl s hY r
 ·rintro σ Hf ⟨ys,c,rfl,s,hY,hl,r⟩
  exact hd ys Hf s hY hl r
end L2
namespace L2
open PySem PySem.Spec PyProof.Rows
def vE (m:Nat):List Nat:=(Nat.toDigits 10 m).map Char.toNat
theorem mD {n:Int} (h0:0≤n):(Str.ofString (toString n)).cps.toList=vE n.toNat:=by
 obtain ⟨m,rfl⟩:=Int.eq_ofNat_of_zero_le h0
 exact PySem.W.KIN.signs_num m
theorem eC {m:Nat} (h:¬m<10):vE m=vE (m / 10)++[(Nat.digitChar (m%10)).toNat]:=by
 have hm:m%10<10:=Nat.mod_lt m (by decide)
 have t:Nat.toDigits 10 (m / 10)++Nat.toDigits 10 (m%10)=Nat.toDigits 10 (10*(m / 10)+m%10):=Nat.toDigits_append_toDigits (by decide) (by omega) hm
 rw [Nat.div_add_mod] at t
 unfold vE
 rw [← t,List.map_append,Nat.toDigits_of_lt_base hm]
 rfl
theorem lM:∀d:Nat,d<10→(Nat.digitChar d).toNat=48+d:=by decide
theorem bC {m:Nat} (h:m<10):vE m=[48+m]:=by
 unfold vE
 rw [Nat.toDigits_of_lt_base h]
 show [(Nat.digitChar m).toNat]=_
 rw [lM m h]
theorem lD (m:Nat):∀c∈vE m,48≤c∧c≤57:=by
 induction m using Nat.strongRecOn with
 |_ m ih =>
  intro c hc
  by_cases h:m<10
  ·rw [bC h] at hc
   have:=List.mem_singleton.mp hc
   omega
  ·rw [eC h] at hc
   rcases List.mem_append.mp hc with hc|hc
   ·exact ih (m / 10) (by omega) c hc
   ·have:=List.mem_singleton.mp hc
    have:=lM (m%10) (Nat.mod_lt m (by decide))
    have:=Nat.mod_lt m (show 0<10 by decide)
    omega
theorem mE (m:Nat):vE m≠[]:=by
 by_cases h:m<10
 ·rw [bC h];exact List.cons_ne_nil _ _
 ·rw [eC h];simp
theorem uQ (m:Nat) (h0:0<m):(vE m)[0]?≠some 48:=by
 induction m using Nat.strongRecOn with
 |_ m ih =>
  by_cases h:m<10
  ·rw [bC h]
   intro e
   have:=Option.some.inj e
   omega
  ·rw [eC h,List.getElem?_append_left (List.length_pos_iff.mpr (mE _))]
   exact ih (m / 10) (by omega) (by omega)
theorem uP:vE 0=[48]:=bC (by decide)
theorem xA (m:Nat):PySem.NumText.digitsVal (vE m)=m:=PySem.W.KIN.val_back m
theorem xB {m:Nat} (h:m<1000000000000):1≤(vE m).length∧(vE m).length≤12:=by
 refine ⟨List.length_pos_iff.mpr (mE m),?_⟩
 unfold vE
 rw [List.length_map]
 exact PyProof.Rows.digits10_le (k:=12) (by decide) (by simpa using h)
end L2
namespace L2
open PySem PySem.Spec PyProof.Rows
section
variable {X:Cx} {pins:List (Addr×Obj)} {σ:List (Option V)} {H:Hp} {s:Shared} {h':Heap}
theorem Inv.turnedN {t':Nat} {fp:List Addr} (I:Inv X pins σ H s) (k:∀b o,b∉fp→s.heap.get? b=some o→h'.get? b=some o) (hf:∀b∈fp,v4 X pins H b):Inv X pins σ H {s with heap:=h',toks:=t'}:=by
 have nit:∀b u,H b=some u→b∉fp:=fun b u e z=>by rw [(hf b z).1] at e;cases e
 have hL:X.env.locals∉fp:=fun z=>(hf _ z).2.1 rfl
 refine I.step (g':=s.gens) (d':=s.drawn) (ch:=fp) (fun b hb=>?_) (fun b o _ _ hc e _=>k b o hc e) (fun b o _ _ hc e _=>⟨o.slots,k b o hc e⟩) (fun _ _ _ _ n=>n)
  (fun b o hc e=>⟨o,k b o hc e⟩) (fun _ _ e=>e) (fun _ _ _ e=>e) (fun b ps e=>⟨#[],by rw [e];simp⟩) (fun m hm=>?_) (fun b u e=>?_) I.bare
 ·obtain ⟨f0,f1,f2,f3,f4,f5⟩:=hf b hb
  exact ⟨f3,f1,f4,f5⟩
 ·obtain ⟨o,es,ep,ho,r⟩:=hm
  exact ⟨o,es,ep,k _ o hL ho,r⟩
 ·refine (I.hok b u e).stay (fun c v hc q=>k c v ?_ q) (fun _ q=>q) fun _ _ q=>q
  rcases hc with z|z
  ·rw [z];exact nit b u e
  ·exact nit c _ z
theorem Inv.laidN {t':Nat} {fp:List Addr} {a:Addr} {o:HO} (I:Inv X pins σ H s) (k:∀b u,b∉fp→s.heap.get? b=some u→h'.get? b=some u) (hf:∀b∈fp,v4 X pins H b) (hp:s.heap.objs.size≤a) (new:ObjOk X.prog X.w (upd H a o) h' a o) :
  Inv X pins σ (upd H a o) {s with heap:=h',toks:=t'}:=by
 have hn:=I.hok.fresh hp
 have nit:∀b u,H b=some u→b∉fp:=fun b u e z=>by rw [(hf b z).1] at e;cases e
 have hL:X.env.locals∉fp:=fun z=>(hf _ z).2.1 rfl
 refine I.step (g':=s.gens) (d':=s.drawn) (ch:=fp) (fun b hb=>?_) (fun b o _ _ hc e _=>k b o hc e) (fun b o _ _ hc e _=>⟨o.slots,k b o hc e⟩) (fun b u _ e n=>?_)
  (fun b o hc e=>⟨o,k b o hc e⟩) (fun b xs e=>?_) (fun b u v e=>?_) (fun b ps e=>⟨#[],?_⟩) (fun m hm=>?_) (fun b u e=>?_) I.bare
 ·obtain ⟨f0,f1,f2,f3,f4,f5⟩:=hf b hb
  exact ⟨f3,f1,f4,f5⟩
 ·rw [jY (Nat.ne_of_lt (Nat.lt_of_lt_of_le (Heap.lt_size e) hp))];exact n
 ·rw [jY (j8 e hn)];exact e
 ·rw [jY (j8 e hn)];exact e
 ·rw [jY (j8 e hn),e];simp
 ·obtain ⟨o,es,ep,ho,r⟩:=hm
  exact ⟨o,es,ep,k _ o hL ho,r⟩
 ·by_cases hb:b=a
  ·subst hb;rw [jD] at e;cases e;exact new
  ·rw [jY hb] at e
   refine (I.hok b u e).stay (fun c v hc q=>k c v ?_ q) (fun c q=>by rw [jY (j8 q hn)];exact q) fun c xs q=>by rw [jY (j8 q hn)];exact q
   rcases hc with z|z
   ·rw [z];exact nit b u e
   ·exact nit c _ z
end
def Z1 (K:PySem.W.Frag) (a1 a2:Addr):It :=
 ⟨fun i H=>∃xs ys x y,SqL K H a1 xs∧SqL K H a2 ys∧xs[i]?=some x∧ys[i]?=some y,
  fun i H v H'=>∃T x y,v=.ref T∧H T=none∧H'=upd H T (.tup [x,y])∧(∀xs,SqL K H a1 xs→xs[i]?=some x)∧(∀ys,SqL K H a2 ys→ys[i]?=some y),
  fun i H=>∃xs ys,SqL K H a1 xs∧SqL K H a2 ys∧(xs.length≤i∨ys.length≤i)⟩
def Z3 (K:PySem.W.Frag) (a:Addr):It :=
 ⟨fun i H=>∃xs x,SqL K H a xs∧xs[i]?=some x,
  fun i H v H'=>∃T x,v=.ref T∧H T=none∧H'=upd H T (.tup [.int (i:Int),x])∧∀xs,SqL K H a xs→xs[i]?=some x,
  fun i H=>∃xs,SqL K H a xs∧xs.length≤i⟩
theorem wN {P:Program} {w:World} {K:PySem.W.Frag} {elts:List Expr} {x1:Nat} {pos:Pos} {a1 a2 z TI TO i1 i2:Addr} (D:ZipApart z TI TO i1 i2 a1 a2) :
  Turn P w K (.Tuple elts x1 pos) (Z1 K a1 a2) [z,TI,TO,i1,i2] z (fun i h=>IsZip h z TI TO .none∧IsPair h TI (.ref i1) (.ref i2)∧(∃a b,IsPair h TO a b)∧h.IsListIter i1 a1 i∧h.IsListIter i2 a2 i) where
 mem:=by simp
 obj:=fun i h st b hb=>by
  obtain ⟨hz,hTI,⟨p,q,hTO⟩,⟨o1,e1,c1,d1⟩,⟨o2,e2,c2,d2⟩⟩:=st
  simp only [List.mem_cons,List.mem_nil_iff,or_false] at hb
  rcases hb with rfl|rfl|rfl|rfl|rfl
  ·exact ⟨_,hz,fun v y=>by have y':Data.fields _=Data.cell v:=y;cases y'⟩
  ·exact ⟨_,hTI,fun v y=>by have y':Data.seq _ _=Data.cell v:=y;cases y'⟩
  ·exact ⟨_,hTO,fun v y=>by have y':Data.seq _ _=Data.cell v:=y;cases y'⟩
  ·exact ⟨o1,e1,fun v y=>by rw [d1] at y;cases y⟩
  ·exact ⟨o2,e2,fun v y=>by rw [d2] at y;cases y⟩
 keep:=fun i h h' st k=>by
  obtain ⟨hz,hTI,⟨p,q,hTO⟩,h1,h2⟩:=st
  exact ⟨k _ (by simp) _ hz,k _ (by simp) _ hTI,⟨p,q,k _ (by simp) _ hTO⟩,h1.at fun o e=>k _ (by simp) o e,h2.at fun o e=>k _ (by simp) o e⟩
 item:=by
  intro X hP hw hK hc i pins s σ H E I hf st hg
  subst hP hw hK
  obtain ⟨hz,hTI,⟨p,q,hTO⟩,h1,h2⟩:=st
  obtain ⟨xs,ys,x,y,hq1,hq2,hx,hy⟩:=hg
  obtain ⟨its1,rv1,p1,_⟩:=I.list hq1
  obtain ⟨its2,rv2,p2,_⟩:=I.list hq2
  obtain ⟨u,hu,ru⟩:=rv1.get hx
  obtain ⟨v,hv,rv⟩:=rv2.get hy
  refine wpAny_pyNext_zip_item D hz hTI hTO h1 h2 p1.isList p2.isList (x:=u) (y:=v) (by simpa using hu) (by simpa using hv) fun h' hz' hTO' h1' h2' hT' hsz hk=>?_
  refine ⟨_,rfl,?_⟩
  refine wpAny_letOwnedTupleGo_zip hz' fun hp2 hz2 hs2=>?_
  have lt:∀{b:Addr} {o:Obj},s.heap.get? b=some o→b<s.heap.objs.size:=fun e=>Heap.lt_size e
  have nT:s.heap.objs.size≠z:=Nat.ne_of_gt (lt hz)
  have k2:∀b o,b∉[z,TI,TO,i1,i2]→s.heap.get? b=some o→hp2.get? b=some o:=fun b o hb e=>by
   simp only [List.mem_cons,List.mem_nil_iff,or_false,not_or] at hb
   exact (hs2.2 b hb.1).trans (hk b o hb.1 hb.2.2.1 hb.2.2.2.1 hb.2.2.2.2 e)
  have hT2:IsPair hp2 s.heap.objs.size u v:=(hs2.2 _ nT).trans hT'
  refine ⟨.ref s.heap.objs.size,upd H s.heap.objs.size (.tup [x,y]),I.laidN (t':=s.toks) (fp:=[z,TI,TO,i1,i2]) k2 hf (Nat.le_refl _) ⟨(by show 2≤sizeLine;decide),[u,v],.cons ru (.cons rv .nil),⟨_,hT2,rfl,_,rfl⟩⟩,rfl,?_,?_,?_⟩
  ·exact ⟨_,x,y,rfl,I.hok.fresh (Nat.le_refl _),rfl,fun zs hzs=>by rw [I.list_inj hzs hq1];exact hx,fun zs hzs=>by rw [I.list_inj hzs hq2];exact hy⟩
  ·refine ⟨hz2,(hs2.2 _ D.TIz).trans (hk _ _ D.TIz D.TITO D.TIi1 D.TIi2 hTI),⟨_,_,(hs2.2 _ D.TOz).trans hTO'⟩,h1'.at fun o e=>(hs2.2 _ D.i1z).trans e,h2'.at fun o e=>(hs2.2 _ D.i2z).trans e⟩
  ·intro b hb
   have:=(hf b hb).1
   rw [jY]
   ·exact this
   ·intro e
    simp only [List.mem_cons,List.mem_nil_iff,or_false] at hb
    obtain ⟨o1,e1,_⟩:=h1
    obtain ⟨o2,e2,_⟩:=h2
    rcases hb with rfl|rfl|rfl|rfl|rfl
    ·exact nT e.symm
    ·exact Nat.ne_of_lt (lt hTI) e
    ·exact Nat.ne_of_lt (lt hTO) e
    ·exact Nat.ne_of_lt (lt e1) e
    ·exact Nat.ne_of_lt (lt e2) e
 done:=by
  intro X hP hw hK hc i pins s σ H E I hf st hg
  subst hP hw hK
  obtain ⟨hz,hTI,⟨p,q,hTO⟩,h1,h2⟩:=st
  obtain ⟨xs,ys,hq1,hq2,he⟩:=hg
  obtain ⟨its1,rv1,p1,_⟩:=I.list hq1
  obtain ⟨its2,rv2,p2,_⟩:=I.list hq2
  have l1:=rv1.length
  have l2:=rv2.length
  refine wpAny_pyNext_zip_end (I.ok.hd hc) D hz hTI hTO h1 h2 p1.isList p2.isList (he.imp (fun e=>by simp;omega) (fun e=>by simp;omega)) fun h' hk=>⟨rfl,I.turnedN (t':=s.toks) (fp:=[z,TI,TO,i1,i2]) (fun b o hb e=>?_) hf⟩
  simp only [List.mem_cons,List.mem_nil_iff,or_false,not_or] at hb
  exact hk b o hb.1 hb.2.2.1 hb.2.2.2.1 hb.2.2.2.2 e
 self:=fun _ _ _ _ _ st h=>wpAny_pyIter_zip st.1 h
theorem t6 {P:Program} {w:World} {K:PySem.W.Frag} {elts:List Expr} {x1:Nat} {pos:Pos} {a e it:Addr} (hei:e≠it) :
  Turn P w K (.Tuple elts x1 pos) (Z3 K a) [e,it] e (fun i h=>(∃old,IsEnum h e it i old)∧h.IsListIter it a i) where
 mem:=by simp
 obj:=fun i h st b hb=>by
  obtain ⟨⟨old,he⟩,⟨o1,e1,c1,d1⟩⟩:=st
  simp only [List.mem_cons,List.mem_nil_iff,or_false] at hb
  rcases hb with rfl|rfl
  ·exact ⟨_,he,fun v y=>by have y':Data.fields _=Data.cell v:=y;cases y'⟩
  ·exact ⟨o1,e1,fun v y=>by rw [d1] at y;cases y⟩
 keep:=fun i h h' st k=>by
  obtain ⟨⟨old,he⟩,h1⟩:=st
  exact ⟨⟨old,k _ (by simp) _ he⟩,h1.at fun o e=>k _ (by simp) o e⟩
 item:=by
  intro X hP hw hK hc i pins s σ H E I hf st hg
  subst hP hw hK
  obtain ⟨⟨old,he⟩,h1⟩:=st
  obtain ⟨xs,x,hq1,hx⟩:=hg
  obtain ⟨its1,rv1,p1,_⟩:=I.list hq1
  obtain ⟨u,hu,ru⟩:=rv1.get hx
  refine wpAny_pyNext_enum_item he h1 p1.isList (x:=u) (by simpa using hu) hei fun h' he' h1' hT' hsz hk=>?_
  refine ⟨_,rfl,?_⟩
  refine wpAny_letOwnedTupleGo_enum he' fun h2 he2 hs2=>?_
  have lt:∀{b:Addr} {o:Obj},s.heap.get? b=some o→b<s.heap.objs.size:=fun e=>Heap.lt_size e
  have nT:s.heap.objs.size≠e:=Nat.ne_of_gt (lt he)
  have k2:∀b o,b∉[e,it]→s.heap.get? b=some o→h2.get? b=some o:=fun b o hb q=>by
   simp only [List.mem_cons,List.mem_nil_iff,or_false,not_or] at hb
   exact (hs2.2 b hb.1).trans (hk b o hb.1 hb.2 q)
  have hT2:=(hs2.2 _ nT).trans hT'
  refine ⟨.ref s.heap.objs.size,upd H s.heap.objs.size (.tup [.int (i:Int),x]),I.laidN (t':=s.toks+1) (fp:=[e,it]) k2 hf (Nat.le_refl _) ⟨(by show 2≤sizeLine;decide),[.int i s.toks,u],.cons ⟨_,rfl⟩ (.cons ru .nil),⟨_,hT2,rfl,_,rfl⟩⟩,rfl,?_,?_,?_⟩
  ·exact ⟨_,x,rfl,I.hok.fresh (Nat.le_refl _),rfl,fun zs hzs=>by rw [I.list_inj hzs hq1];exact hx⟩
  ·exact ⟨⟨_,he2⟩,h1'.at fun o q=>(hs2.2 _ hei.symm).trans q⟩
  ·intro b hb
   have:=(hf b hb).1
   rw [jY]
   ·exact this
   ·intro q
    simp only [List.mem_cons,List.mem_nil_iff,or_false] at hb
    obtain ⟨o1,e1,_⟩:=h1
    rcases hb with rfl|rfl
    ·exact nT q.symm
    ·exact Nat.ne_of_lt (lt e1) q
 done:=by
  intro X hP hw hK hc i pins s σ H E I hf st hg
  subst hP hw hK
  obtain ⟨⟨old,he⟩,h1⟩:=st
  obtain ⟨xs,hq1,hx⟩:=hg
  obtain ⟨its1,rv1,p1,_⟩:=I.list hq1
  have l1:=rv1.length
  refine wpAny_pyNext_enum_end (I.ok.hd hc) he h1 p1.isList (by simp;omega) fun h' hk=>⟨rfl,I.turnedN (t':=s.toks) (fp:=[e,it]) (fun b o hb q=>?_) hf⟩
  simp only [List.mem_cons,List.mem_nil_iff,or_false,not_or] at hb
  exact hk b o hb.2 q
 self:=fun _ _ _ _ _ st h=>by obtain ⟨⟨old,he⟩,_⟩:=st;exact wpAny_pyIter_enum he h
section
variable {X:Cx} {elts:List Expr} {x1:Nat} {tpos:Pos}
def DM (K:PySem.W.Frag) (ta:TA):TI:=fun σ H R=>ta σ H fun vs H1=>∃a1 a2,vs=[.ref a1,.ref a2]∧(∃xs,SqL K H1 a1 xs)∧(∃ys,SqL K H1 a2 ys)∧R (Z1 K a1 a2) H1
def CQ (K:PySem.W.Frag) (ta:TA):TI:=fun σ H R=>ta σ H fun vs H1=>∃a,vs=[.ref a]∧(∃xs,SqL K H1 a xs)∧R (Z3 K a) H1
theorem BK {a b:Expr} {ta:TA} {p pos:Pos} (hg:Gl X "zip") (hm:X.mg "zip"=none) (ha:PA X [a,b] ta) (hs:starEach [a,b] X.env=[(false,eval a X.env),(false,eval b X.env)]:=by rfl) (hs2:starEach [b] X.env=[(false,eval b X.env)]:=by rfl) :
  PI X (.Tuple elts x1 tpos) (.Call (.Name "zip" p) [a,b] [] pos) (DM X.K ta):=by
 intro pins s σ H R I h
 refine Call_ (yF I hg hm boot_zip (PyProof.Rows.callWith_type1 (jK (ha pos pins s σ H _ I h) fun us s1 ⟨vs,H1,I1,r1,q1⟩=>?_) (by rw [hs,hs2]) (by rw [hs2];rfl)))
 obtain ⟨a1,a2,e,⟨xs,hq1⟩,⟨ys,hq2⟩,q⟩:=q1
 subst e
 cases r1 with
 |cons r rr =>
  cases rr with
  |cons r' rr =>
   cases rr
   cases r
   cases r'
   obtain ⟨its1,rv1,p1,_⟩:=I1.list hq1
   obtain ⟨its2,rv2,p2,_⟩:=I1.list hq2
   have lt1:a1<s1.heap.objs.size:=by obtain ⟨o,e,_⟩:=p1.isList;exact Heap.lt_size e
   have lt2:a2<s1.heap.objs.size:=by obtain ⟨o,e,_⟩:=p2.isList;exact Heap.lt_size e
   refine call_zip_2 p1.isList p2.isList fun h' hz hTI hTO h1 h2 hsz hk=>?_
   refine wpAny_pyIter_zip hz ?_
   have D:ZipApart (s1.heap.objs.size+4) (s1.heap.objs.size+2) (s1.heap.objs.size+3) s1.heap.objs.size (s1.heap.objs.size+1) a1 a2:=by
    constructor<;>(intro e;simp only [Addr] at *;omega)
   refine ⟨_,_,_,_,H1,rfl,I1.kept (t':=s1.toks) hk,wN D,⟨hz,hTI,⟨_,_,hTO⟩,h1,h2⟩,fun b hb=>?_,q⟩
   simp only [List.mem_cons,List.mem_nil_iff,or_false] at hb
   have hb':s1.heap.objs.size≤b:=by rcases hb with rfl|rfl|rfl|rfl|rfl<;>simp only [Addr] at *<;>omega
   exact I1.fpOk hb' (I1.hok.fresh hb')
theorem AD {a:Expr} {ta:TA} {p pos:Pos} (hg:Gl X "enumerate") (hm:X.mg "enumerate"=none) (ha:PA X [a] ta) (hs:starEach [a] X.env=[(false,eval a X.env)]:=by rfl) :
  PI X (.Tuple elts x1 tpos) (.Call (.Name "enumerate" p) [a] [] pos) (CQ X.K ta):=by
 intro pins s σ H R I h
 refine Call_ (yF I hg hm boot_enumerate (PyProof.Rows.callWith_type1 (jK (ha pos pins s σ H _ I h) fun us s1 ⟨vs,H1,I1,r1,q1⟩=>?_) hs rfl))
 obtain ⟨a1,e,⟨xs,hq1⟩,q⟩:=q1
 subst e
 cases r1 with
 |cons r rr =>
  cases rr
  cases r
  obtain ⟨its1,rv1,p1,_⟩:=I1.list hq1
  refine call_enumerate_list p1.isList fun h' he hit hsz hk=>?_
  refine wpAny_pyIter_enum he ?_
  refine ⟨_,_,_,_,H1,rfl,I1.kept (t':=s1.toks) hk,t6 (Nat.succ_ne_self _),⟨⟨_,he⟩,hit⟩,fun b hb=>?_,q⟩
  simp only [List.mem_cons,List.mem_nil_iff,or_false] at hb
  have hb':s1.heap.objs.size≤b:=by rcases hb with rfl|rfl<;>simp only [Addr] at *<;>omega
  exact I1.fpOk hb' (I1.hok.fresh hb')
theorem AW {K:PySem.W.Frag} {a1 a2:Addr} {xs ys:List V} {g:TG} {tb:TS} {D:Ends} {σ:St} {H:Hp} (P:Nat→St→Hp→Prop) (h0:P 0 σ H) (hl:∀i σ H,i≤min xs.length ys.length→P i σ H→SqL K H a1 xs∧SqL K H a2 ys)
  (step:∀i x y σ H T,xs[i]?=some x→ys[i]?=some y→P i σ H→H T=none→g (.ref T) σ (upd H T (.tup [x,y])) fun σ2 H2=>tb {D with nx:=P (i+1),ct:=P (i+1),bk:=D.nx} σ2 H2) (done:∀σ H,P (min xs.length ys.length) σ H→D.nx σ H) :
  ∃W:Nat→Nat→St→Hp→Prop,(∃m,W 0 m σ H)∧∀i m σ H,W i m σ H→((Z1 K a1 a2).stop i H∧D.nx σ H)∨((Z1 K a1 a2).go i H∧∃N:St→Hp→Prop,(∀σ' H',N σ' H'→∃m',m'<m∧W (i+1) m' σ' H')∧∀x H',(Z1 K a1 a2).yld i H x H'→g x σ H' fun σ2 H2=>tb {D with nx:=N,ct:=N,bk:=D.nx} σ2 H2):=by
 refine ⟨fun i m σ H=>i≤min xs.length ys.length∧m=min xs.length ys.length - i∧P i σ H,⟨_,Nat.zero_le _,rfl,h0⟩,fun i m σ H w=>?_⟩
 obtain ⟨hi,hm,p⟩:=w
 obtain ⟨q1,q2⟩:=hl i σ H hi p
 by_cases e:i=min xs.length ys.length
 ·refine .inl ⟨⟨xs,ys,q1,q2,by omega⟩,done σ H (e▸p)⟩
 ·have l1:i<xs.length:=by omega
  have l2:i<ys.length:=by omega
  refine .inr ⟨⟨xs,ys,_,_,q1,q2,List.getElem?_eq_getElem l1,List.getElem?_eq_getElem l2⟩,P (i+1),fun σ' H' n=>⟨_,by omega,by omega,rfl,n⟩,fun v H' hy=>?_⟩
  obtain ⟨T,x,y,rfl,hT,rfl,h1,h2⟩:=hy
  exact step i x y σ H T (h1 xs q1) (h2 ys q2) p hT
theorem xP {K:PySem.W.Frag} {a:Addr} {xs:List V} {g:TG} {tb:TS} {D:Ends} {σ:St} {H:Hp} (P:Nat→St→Hp→Prop) (h0:P 0 σ H) (hl:∀i σ H,i≤xs.length→P i σ H→SqL K H a xs)
  (step:∀i x σ H T,xs[i]?=some x→P i σ H→H T=none→g (.ref T) σ (upd H T (.tup [.int (i:Int),x])) fun σ2 H2=>tb {D with nx:=P (i+1),ct:=P (i+1),bk:=D.nx} σ2 H2) (done:∀σ H,P xs.length σ H→D.nx σ H) :
  ∃W:Nat→Nat→St→Hp→Prop,(∃m,W 0 m σ H)∧∀i m σ H,W i m σ H→((Z3 K a).stop i H∧D.nx σ H)∨((Z3 K a).go i H∧∃N:St→Hp→Prop,(∀σ' H',N σ' H'→∃m',m'<m∧W (i+1) m' σ' H')∧∀x H',(Z3 K a).yld i H x H'→g x σ H' fun σ2 H2=>tb {D with nx:=N,ct:=N,bk:=D.nx} σ2 H2):=by
 refine ⟨fun i m σ H=>i≤xs.length∧m=xs.length - i∧P i σ H,⟨_,Nat.zero_le _,rfl,h0⟩,fun i m σ H w=>?_⟩
 obtain ⟨hi,hm,p⟩:=w
 have q1:=hl i σ H hi p
 by_cases e:i=xs.length
 ·refine .inl ⟨⟨xs,q1,by omega⟩,done σ H (e▸p)⟩
 ·have l1:i<xs.length:=by omega
  refine .inr ⟨⟨xs,_,q1,List.getElem?_eq_getElem l1⟩,P (i+1),fun σ' H' n=>⟨_,by omega,by omega,rfl,n⟩,fun v H' hy=>?_⟩
  obtain ⟨T,x,rfl,hT,rfl,h1⟩:=hy
  exact step i x σ H T (h1 xs q1) p hT
end
end L2
namespace L2
open PySem PySem.Spec PyProof.Rows
end L2
namespace L2
open PySem PySem.Spec PyProof.Rows
section
variable {X:Cx}
end
end L2
namespace L2
open PySem PySem.Spec PyProof.Rows
section
variable {prog:Program} {w:World} {A:Around} {s:Shared} {E:Value→Shared→Prop}
end
section
variable {X:Cx} {elts:List Expr} {x1:Nat} {tpos:Pos}
end
end L2
namespace L2
open PySem PySem.Spec PyProof.Rows
set_option maxRecDepth 100000
section
variable {X:Cx}
end
end L2
namespace L2
open PySem PySem.Spec PyProof.Rows
section
variable {prog:Program} {w:World} {A:Around} {s:Shared} {E:Value→Shared→Prop}
theorem B1 {a:Addr} {o:Obj} {Q:Option Obj→Shared→Prop} (h:s.heap.get? a=some o) (q:Q (some o) s):wpAny (model prog w) A (loadIfAlive a) Q E s:=fun Γ p _=>by
 show Sem.wp _ Γ (.loadIfAlive a .pure) _ _ p s
 rw [Sem.wp_loadIfAlive,h]
 exact q
abbrev Q0 (h:Heap) (z P1 P2:Addr) (f0:Value) (f1:Bool):Prop:=h.get? z=some {cls:=.type "zip",dict:=none,data:=.fields #[f0,.bool f1,.bool false,.ref P1,.ref P2],slots := #[]}
theorem fW {z P1 P2 T:Addr} {f1:Bool} {o:Obj} {Q:Bool→Shared→Prop} (hz:Q0 s.heap z P1 P2 (rawInt T) f1) (hT:s.heap.get? T=some o) (q:∀h',Q0 h' z P1 P2 (rawInt T) true→Heap.SameBut z s.heap h'→Q false {s with heap:=h'}):wpAny (model prog w) A (Builtin.SmallTypes.ownedTupleIsFree (.ref z)) Q E s:=by
 unfold Builtin.SmallTypes.ownedTupleIsFree
 refine wpAny_bind (wpAny_field hz rfl (x:=rawInt T) rfl ?_)
 show wpAny _ _ (loadIfAlive (Int.toNat (T:Int)) >>= _) _ _ _
 refine wpAny_bind (B1 (by rw [Int.toNat_natCast];exact hT) ?_)
 simp only [Option.isNone_some,Bool.false_eq_true,if_false]
 refine wpAny_bind (wpAny_field hz rfl (x:=.bool f1) rfl ?_)
 cases f1 with
 |true =>
  rw [if_neg (by decide)]
  refine wpAny_pure ?_
  exact q s.heap hz ⟨rfl,fun _ _=>rfl⟩
 |false =>
  rw [if_pos (by decide)]
  refine wpAny_bind (wpAny_setField_rec hz (by simp) fun m1 z1 d1=>wpAny_pure ?_)
  exact q m1 z1 d1
theorem tW {z P1 P2 j1 j2 a b T:Addr} {k:Nat} {us vs:Array Value} {u v:Value} {f1:Bool} {o:Obj} {Q:Value→Shared→Prop} (D:ZipApart z P1 P2 j1 j2 a b)
  (hz:Q0 s.heap z P1 P2 (rawInt T) f1) (hT:s.heap.get? T=some o) (hP1:IsPair s.heap P1 (.ref j1) (.ref j2)) (n1:s.heap.IsListIter j1 a k) (n2:s.heap.IsListIter j2 b k) (la:s.heap.IsList a us) (lb:s.heap.IsList b vs) (hu:us[k]?=some u) (hv:vs[k]?=some v)
  (q:∀h',Q0 h' z P1 P2 (rawInt T) true→h'.IsListIter j1 a (k+1)→h'.IsListIter j2 b (k+1)→IsPair h' s.heap.objs.size u v→h'.objs.size=s.heap.objs.size+1→(∀c o,c≠z→c≠j1→c≠j2→s.heap.get? c=some o→h'.get? c=some o)→Q (.ref s.heap.objs.size) {s with heap:=h'}):wpAny (model prog w) A (Builtin.«zip.__next__» ⟨[.ref z],[]⟩) (fun fin s'=>∃v,fin=.done (.ret v)∧Q v s') E s:=by
 show wpAny _ _ (field (.ref z) 2 >>= _) _ _ _;refine wpAny_bind (wpAny_field hz rfl (x:=.bool false) rfl ?_);show wpAny _ _ (field (.ref z) 3 >>= _) _ _ _
 refine wpAny_bind (wpAny_field hz rfl (x:=.ref P1) rfl ?_);refine wpAny_bind (wpAny_seqItems hP1 rfl ?_)
 show wpAny _ _ (Builtin.SmallTypes.ownedTupleIsFree (.ref z) >>= _) _ _ _;refine wpAny_bind (fW hz hT fun m1 z1 d1=>?_)
 simp only [Bool.false_eq_true,if_false]
 refine wpAny_bind ?_;simp only [← Array.forIn_toList,List.forIn_cons,List.forIn_nil]
 refine wpAny_bind (wpAny_bind (wpAny_holding ?_));show wpAny _ _ (Builtin.SmallTypes.nextOf (.ref j1) >>= _) _ _ _
 refine wpAny_bind (wpAny_nextOf_list_item (n1.extBut d1.extBut D.i1z) (la.extBut d1.extBut D.l1z) hu fun m2 n12 d2=>wpAny_pure (wpAny_pure ?_))
 refine wpAny_bind (wpAny_bind (wpAny_holding ?_));show wpAny _ _ (Builtin.SmallTypes.nextOf (.ref j2) >>= _) _ _ _
 refine wpAny_bind (wpAny_nextOf_list_item ((n2.extBut d1.extBut D.i2z).extBut d2.extBut D.i12.symm) ((lb.extBut d1.extBut D.l2z).extBut d2.extBut D.l2i1) hv fun m3 n23 d3=>wpAny_pure (wpAny_pure (wpAny_pure ?_)))
 show wpAny _ _ (newTuple [u,v] >>= _) _ _ _
 refine wpAny_bind (wpAny_newTuple (wpAny_pure ⟨_,rfl,?_⟩))
 have sz:m3.objs.size=s.heap.objs.size:=by rw [d3.1,d2.1,d1.1]
 have up:∀c o,c≠z→c≠j1→c≠j2→s.heap.get? c=some o→(m3.push {cls:=.type "tuple",data:=.seq #[u,v]}).get? c=some o:=fun c o e1 e3 e4 e=>Heap.get?_push_of_some _ (d3.extBut _ _ e4 (d2.extBut _ _ e3 (d1.extBut _ _ e1 e)))
 have t8:IsPair (m3.push {cls:=.type "tuple",data:=.seq #[u,v]}) m3.objs.size u v:=Heap.get?_push_size _ rfl
 show Q (.ref m3.objs.size) _
 rw [sz] at t8 ⊢
 exact q _ (Heap.get?_push_of_some _ (d3.extBut _ _ D.i2z.symm (d2.extBut _ _ D.i1z.symm z1))) ((n12.extBut d3.extBut D.i12).at fun o e=>Heap.get?_push_of_some _ e) (n23.at fun o e=>Heap.get?_push_of_some _ e) t8 (by rw [Heap.size_push,sz]) up
theorem wM {z P1 P2 j1 j2 a b T:Addr} {k:Nat} {us vs:Array Value} {f1:Bool} {o:Obj} {Q:Fin→Shared→Prop} (hh:A.handled=none) (D:ZipApart z P1 P2 j1 j2 a b)
  (hz:Q0 s.heap z P1 P2 (rawInt T) f1) (hT:s.heap.get? T=some o) (hP1:IsPair s.heap P1 (.ref j1) (.ref j2)) (n1:s.heap.IsListIter j1 a k) (n2:s.heap.IsListIter j2 b k) (la:s.heap.IsList a us) (lb:s.heap.IsList b vs) (he:us[k]?=none∨vs[k]?=none)
  (q:∀h' e,(∀c o,c≠z→c≠j1→c≠j2→s.heap.get? c=some o→h'.get? c=some o)→(∃o,h'.get? e=some o∧o.cls=.type "StopIteration")→E (.ref e) {s with heap:=h'}):wpAny (model prog w) A (Builtin.«zip.__next__» ⟨[.ref z],[]⟩) Q E s:=by
 show wpAny _ _ (field (.ref z) 2 >>= _) _ _ _;refine wpAny_bind (wpAny_field hz rfl (x:=.bool false) rfl ?_);show wpAny _ _ (field (.ref z) 3 >>= _) _ _ _
 refine wpAny_bind (wpAny_field hz rfl (x:=.ref P1) rfl ?_);refine wpAny_bind (wpAny_seqItems hP1 rfl ?_)
 show wpAny _ _ (Builtin.SmallTypes.ownedTupleIsFree (.ref z) >>= _) _ _ _;refine wpAny_bind (fW hz hT fun m1 z1 d1=>?_)
 simp only [Bool.false_eq_true,if_false]
 refine wpAny_bind ?_;simp only [← Array.forIn_toList,List.forIn_cons,List.forIn_nil]
 refine wpAny_bind (wpAny_bind (wpAny_holding ?_));show wpAny _ _ (Builtin.SmallTypes.nextOf (.ref j1) >>= _) _ _ _
 cases hu:us[k]? with
 |none =>
  refine wpAny_bind (wpAny_nextOf_list_end hh (n1.extBut d1.extBut D.i1z) (la.extBut d1.extBut D.l1z) hu fun m2 e d2 st=>?_)
  exact q m2 e (fun c o e1 e3 e4 x=>d2 _ _ e3 (d1.extBut _ _ e1 x)) st
 |some u =>
  have hv:vs[k]?=none:=by rcases he with h|h;rw [hu] at h;cases h;exact h
  refine wpAny_bind (wpAny_nextOf_list_item (n1.extBut d1.extBut D.i1z) (la.extBut d1.extBut D.l1z) hu fun m2 n12 d2=>wpAny_pure (wpAny_pure ?_))
  refine wpAny_bind (wpAny_bind (wpAny_holding ?_));show wpAny _ _ (Builtin.SmallTypes.nextOf (.ref j2) >>= _) _ _ _
  refine wpAny_bind (wpAny_nextOf_list_end hh ((n2.extBut d1.extBut D.i2z).extBut d2.extBut D.i12.symm) ((lb.extBut d1.extBut D.l2z).extBut d2.extBut D.l2i1) hv fun m3 e d3 st=>?_)
  exact q m3 e (fun c o e1 e3 e4 x=>d3 _ _ e4 (d2.extBut _ _ e3 (d1.extBut _ _ e1 x))) st
def ZStands (h:Heap) (N z P1 P2 j1 j2 a b:Addr) (us vs:Array Value) (k:Nat):Prop :=
 ((IsZip h z P1 P2 .none∧∃g g',IsPair h P2 g g')∨∃(T:Addr) (f1:Bool) (o:Obj),Q0 h z P1 P2 (rawInt T) f1∧N≤T∧h.get? T=some o)∧IsPair h P1 (.ref j1) (.ref j2)∧h.IsListIter j1 a k∧h.IsListIter j2 b k∧h.IsList a us∧h.IsList b vs
theorem xV {N z P1 P2 j1 j2 a b:Addr} {k:Nat} {us vs:Array Value} {u v:Value} {Q:Option Value→Shared→Prop} (D:ZipApart z P1 P2 j1 j2 a b) (b1:z<N) (b2:j1<N) (b3:j2<N) (bN:N≤s.heap.objs.size) (hs:ZStands s.heap N z P1 P2 j1 j2 a b us vs k) (hu:us[k]?=some u) (hv:vs[k]?=some v)
  (q:∀h',ZStands h' N z P1 P2 j1 j2 a b us vs (k+1)→IsPair h' s.heap.objs.size u v→h'.objs.size=s.heap.objs.size+1→(∀c o,c≠z→c≠P2→c≠j1→c≠j2→s.heap.get? c=some o→h'.get? c=some o)→Q (some (.ref s.heap.objs.size)) {s with heap:=h'}):wpAny (model prog w) A (pyNext (.ref z)) Q E s:=by
 obtain ⟨hz,hP1,n1,n2,la,lb⟩:=hs
 rcases hz with ⟨hz,g,g',hP2⟩|⟨T,f1,o,hz,t0,hT⟩
 ·refine wpAny_pyNext_zip_item D hz hP1 hP2 n1 n2 la lb hu hv fun h' hz' hP2' n1' n2' hT' hsz hk=>q h' ⟨.inr ⟨_,false,_,hz',bN,hT'⟩,hk _ _ D.TIz D.TITO D.TIi1 D.TIi2 hP1,n1',n2',la.at fun o e=>hk _ _ D.l1z D.l1TO D.l1i1 D.l1i2 e,lb.at fun o e=>hk _ _ D.l2z D.l2TO D.l2i1 D.l2i2 e⟩ hT' hsz hk
 ·have hTz:s.TypeIs (.ref z) "zip":=⟨_,hz,rfl⟩
  unfold pyNext
  refine wpAny_bind (wpAny_attempt (wpAny_callSpecial?_slot (name:=Str.ofString "__next__") hTz F.slot_zip_next (wpAny_call_entry F.slot_zip_next hTz F.entry_zip_next (tW D hz hT hP1 n1 n2 la lb hu hv fun h' hz' n1' n2' hT' hsz hk=>wpAny_pure ?_) (F.args_zip_next_1 _))))
  exact q h' ⟨.inr ⟨T,true,o,hz',t0,hk _ _ (Nat.ne_of_gt (Nat.lt_of_lt_of_le b1 t0)) (Nat.ne_of_gt (Nat.lt_of_lt_of_le b2 t0)) (Nat.ne_of_gt (Nat.lt_of_lt_of_le b3 t0)) hT⟩,hk _ _ D.TIz D.TIi1 D.TIi2 hP1,n1',n2',la.at fun o e=>hk _ _ D.l1z D.l1i1 D.l1i2 e,lb.at fun o e=>hk _ _ D.l2z D.l2i1 D.l2i2 e⟩ hT' hsz fun c o e1 _ e3 e4 e=>hk c o e1 e3 e4 e
theorem BB {N z P1 P2 j1 j2 a b:Addr} {k:Nat} {us vs:Array Value} {Q:Option Value→Shared→Prop} (hh:A.handled=none) (D:ZipApart z P1 P2 j1 j2 a b) (hs:ZStands s.heap N z P1 P2 j1 j2 a b us vs k) (he:us[k]?=none∨vs[k]?=none)
  (q:∀h',(∀c o,c≠z→c≠P2→c≠j1→c≠j2→s.heap.get? c=some o→h'.get? c=some o)→Q none {s with heap:=h'}):wpAny (model prog w) A (pyNext (.ref z)) Q E s:=by
 obtain ⟨hz,hP1,n1,n2,la,lb⟩:=hs
 rcases hz with ⟨hz,g,g',hP2⟩|⟨T,f1,o,hz,t0,hT⟩
 ·exact wpAny_pyNext_zip_end hh D hz hP1 hP2 n1 n2 la lb he q
 ·have hTz:s.TypeIs (.ref z) "zip":=⟨_,hz,rfl⟩
  unfold pyNext
  refine wpAny_bind (wpAny_attempt (wpAny_callSpecial?_slot (name:=Str.ofString "__next__") hTz F.slot_zip_next (wpAny_call_entry F.slot_zip_next hTz F.entry_zip_next (wM hh D hz hT hP1 n1 n2 la lb he fun h' e hk st=>?_) (F.args_zip_next_1 _))))
  obtain ⟨oe,ee,ce⟩:=st
  refine wpAny_bind (wpAny_isInstance (T:="StopIteration") (b:=true) ⟨oe,ee,ce⟩ isSubtype_stop ?_)
  exact wpAny_pure (q _ fun c o e1 _ e3 e4 e=>hk c o e1 e3 e4 e)
theorem ZStands.keep {h h':Heap} {N z P1 P2 j1 j2 a b S:Addr} {us vs:Array Value} {k:Nat} (hs:ZStands h N z P1 P2 j1 j2 a b us vs k) (bS:S<N) (nS:∀c∈[z,P1,P2,j1,j2,a,b],c≠S) (kp:∀c o,c≠S→h.get? c=some o→h'.get? c=some o):ZStands h' N z P1 P2 j1 j2 a b us vs k:=by
 obtain ⟨hz,hP1,n1,n2,la,lb⟩:=hs
 have nS':∀c,c∈[z,P1,P2,j1,j2,a,b]→∀o,h.get? c=some o→h'.get? c=some o:=fun c hc o e=>kp c o (nS c hc) e
 refine ⟨?_,nS' _ (by simp) _ hP1,n1.at fun o e=>nS' _ (by simp) o e,n2.at fun o e=>nS' _ (by simp) o e,la.at fun o e=>nS' _ (by simp) o e,lb.at fun o e=>nS' _ (by simp) o e⟩
 rcases hz with ⟨hz,g,g',hP2⟩|⟨T,f1,o,hz,t0,hT⟩
 ·exact .inl ⟨nS' _ (by simp) _ hz,g,g',nS' _ (by simp) _ hP2⟩
 ·exact .inr ⟨T,f1,o,nS' _ (by simp) _ hz,t0,kp _ _ (Nat.ne_of_gt (Nat.lt_of_lt_of_le bS t0)) hT⟩
def Pairs (h:Heap) (N:Addr) (us vs acc:Array Value) (k:Nat):Prop:=acc.size=k∧(∀(j:Nat) (v:Value),acc[j]?=some v→∃(T:Addr) (x y:Value),v=.ref T∧N≤T∧T<h.objs.size∧IsPair h T x y∧us[j]?=some x∧vs[j]?=some y)∧∀(i j:Nat) (v:Value),acc[i]?=some v→acc[j]?=some v→i=j
theorem Pairs.keep {h h':Heap} {N:Addr} {us vs acc:Array Value} {k:Nat} (p:Pairs h N us vs acc k) (kp:∀c o,N≤c→h.get? c=some o→h'.get? c=some o) (sz:h.objs.size≤h'.objs.size):Pairs h' N us vs acc k:=⟨p.1,fun j v hv=>by
 obtain ⟨T,x,y,e1,e2,e3,e4,e5⟩:=p.2.1 j v hv
 exact ⟨T,x,y,e1,e2,Nat.lt_of_lt_of_le e3 sz,kp _ _ e2 e4,e5⟩,p.2.2⟩
theorem Pairs.push {h:Heap} {N T:Addr} {us vs acc:Array Value} {k:Nat} {x y:Value} (p:Pairs h N us vs acc k) (tn:∀(j:Nat),acc[j]?≠some (.ref T)) (t0:N≤T) (t1:T<h.objs.size) (t2:IsPair h T x y) (hx:us[k]?=some x) (hy:vs[k]?=some y):Pairs h N us vs (acc.push (.ref T)) (k+1):=by
 refine ⟨by rw [Array.size_push,p.1],fun j v hj=>?_,fun i j v hi hj=>?_⟩
 ·rw [Array.getElem?_push] at hj
  split at hj
  ·rename_i e;rw [p.1] at e;cases hj;rw [e];exact ⟨T,x,y,rfl,t0,t1,t2,hx,hy⟩
  ·exact p.2.1 j v hj
 ·rw [Array.getElem?_push] at hi hj
  split at hi<;>split at hj
  ·omega
  ·cases hi;exact absurd hj (tn j)
  ·cases hj;exact absurd hi (tn i)
  ·exact p.2.2 i j v hi hj
theorem wL {R:Result→Shared→Prop} (hh:A.handled=none) {N z P1 P2 j1 j2 a b S:Addr} {us vs:Array Value} (D:ZipApart z P1 P2 j1 j2 a b) (bz:∀c∈[z,P2,j1,j2,S],c<N) (nS:∀c∈[z,P1,P2,j1,j2,a,b],c≠S) (hn:min us.size vs.size≤sizeLine) (res:Value) :
  ∀(m k:Nat) (s:Shared) (acc:Array Value) (c:Nat),min us.size vs.size - k=m→k≤min us.size vs.size→N≤s.heap.objs.size→ZStands s.heap N z P1 P2 j1 j2 a b us vs k→s.heap.get? S=some {cls:=.type "list",dict:=none,data:=.seq acc c,slots := #[]}→Pairs s.heap N us vs acc k→
  (∀h' acc' c',(∀d o,d∉[z,P2,j1,j2,S]→s.heap.get? d=some o→h'.get? d=some o)→h'.get? S=some {cls:=.type "list",dict:=none,data:=.seq acc' c',slots := #[]}→Pairs h' N us vs acc' (min us.size vs.size)→R (.ok (.ret res)) {s with heap:=h'})→
  codeAny (model prog w) A (.builtin "list.extend.loop" ⟨[.ref S,.ref z,res],[]⟩) R s:=by
 have nz:S≠z:=(nS z (by simp)).symm
 have nP:S≠P2:=(nS P2 (by simp)).symm
 have n1:S≠j1:=(nS j1 (by simp)).symm
 have n2:S≠j2:=(nS j2 (by simp)).symm
 have big:∀c,N≤c→c∉[z,P2,j1,j2,S]:=fun c hc hm=>Nat.lt_irrefl _ (Nat.lt_of_lt_of_le (bz c hm) hc)
 intro m
 induction m with
 |zero =>
  intro k s acc c hm hk bN hs hS hp q
  obtain rfl:k=min us.size vs.size:=by omega
  refine codeAny_builtin F.entry_extend_loop ?_
  rw [Around.under_plainId F.plain_extend_loop _]
  show wpAny _ A.in1 (pyNext (.ref z) >>= _) _ _ s
  refine wpAny_bind (BB (by simp [hh]) D hs (by rcases Nat.le_total us.size vs.size with e|e;exact .inl (by rw [Nat.min_eq_left e];simp);exact .inr (by rw [Nat.min_eq_right e];simp)) fun h' kp=>wpAny_pure ?_)
  have kp':∀d o,d∉[z,P2,j1,j2,S]→s.heap.get? d=some o→h'.get? d=some o:=fun d o hd e=>by
   simp only [List.mem_cons,List.mem_nil_iff,or_false,not_or] at hd
   exact kp d o hd.1 hd.2.1 hd.2.2.1 hd.2.2.2.1 e
  refine q h' acc c kp' (kp S _ nz nP n1 n2 hS) ⟨hp.1,fun j v hv=>?_,hp.2.2⟩
  obtain ⟨T,x,y,e1,e2,e3,e4,e5⟩:=hp.2.1 j v hv
  have e4':=kp' _ _ (big T e2) e4
  exact ⟨T,x,y,e1,e2,Heap.lt_size e4',e4',e5⟩
 |succ m ih =>
  intro k s acc c hm hk bN hs hS hp q
  have l1:k<us.size:=by omega
  have l2:k<vs.size:=by omega
  refine codeAny_builtin F.entry_extend_loop ?_
  rw [Around.under_plainId F.plain_extend_loop _]
  show wpAny _ A.in1 (pyNext (.ref z) >>= _) _ _ s
  refine wpAny_bind (xV D (bz _ (by simp)) (bz _ (by simp)) (bz _ (by simp)) bN hs (Array.getElem?_eq_getElem l1) (Array.getElem?_eq_getElem l2) fun h' hs' hT hsz kp=>?_)
  have kp':∀d o,d∉[z,P2,j1,j2,S]→s.heap.get? d=some o→h'.get? d=some o:=fun d o hd e=>by
   simp only [List.mem_cons,List.mem_nil_iff,or_false,not_or] at hd
   exact kp d o hd.1 hd.2.1 hd.2.2.1 hd.2.2.2.1 e
  have hS':=kp S _ nz nP n1 n2 hS
  show wpAny _ A.in1 (updateSeq S (·.push (.ref s.heap.objs.size)) >>= _) _ _ _
  refine wpAny_bind ?_
  have kq:∀d o,d≠S→h'.get? d=some o→(h'.update S (Obj.mapSeq (·.push (.ref s.heap.objs.size)))).get? d=some o:=fun d o hd e=>(Heap.get?_update_other _ _ (Ne.symm hd)).trans e
  have bS:S<N:=bz S (by simp)
  refine wpAny_updateSeq hS' rfl (wpAny_pure ⟨plainId_quiet F.plain_extend_loop _,ih (k+1) _ (acc.push (.ref s.heap.objs.size)) _ (by omega) (by omega) ?_ (hs'.keep bS nS kq) (Heap.get?_update_self _ hS' rfl) ?_ fun h2 acc' c' kp2 hS2 hp2=>?_⟩) (by rw [hp.1];omega) (by show (acc.push _).size≤sizeLine+1;rw [Array.size_push,hp.1];omega)
  ·show N≤(h'.update S _).objs.size
   rw [Heap.size_update,hsz];exact Nat.le_succ_of_le bN
  ·refine (((hp.keep (h':=h') (fun c o hc e=>kp' c o (big c hc) e) (by rw [hsz];exact Nat.le_succ _)).push (fun j hj=>by obtain ⟨T,_,_,e1,_,e3,_⟩:=hp.2.1 j _ hj;cases e1;exact Nat.lt_irrefl _ e3) bN (by rw [hsz];exact Nat.lt_succ_self _) hT (Array.getElem?_eq_getElem l1) (Array.getElem?_eq_getElem l2))).keep (fun c o hc e=>kq c o (Nat.ne_of_gt (Nat.lt_of_lt_of_le bS hc)) e) ?_
   show h'.objs.size≤(h'.update S _).objs.size
   rw [Heap.size_update];exact Nat.le_refl _
  ·refine q h2 acc' c' (fun d o hd e=>kp2 d o hd (kq d o (fun x=>hd (by rw [x];simp)) (kp' d o hd e))) hS2 hp2
theorem sL:typeLookup (.type "zip") "__len__"=pure none:=by rw [typeLookup_type,builtinLookup_eq_fast];kernel_rfl
theorem sE:typeLookup (.type "zip") "__length_hint__"=pure none:=by rw [typeLookup_type,builtinLookup_eq_fast];kernel_rfl
theorem sN {R:Result→Shared→Prop} (hh:A.handled=none) {N z P1 P2 j1 j2 a b S:Addr} {us vs:Array Value} (D:ZipApart z P1 P2 j1 j2 a b) (bz:∀c∈[z,P2,j1,j2,S],c<N) (nS:∀c∈[z,P1,P2,j1,j2,a,b],c≠S) (hn:min us.size vs.size≤sizeLine) (res:Value) (c₀:Nat) (bN:N≤s.heap.objs.size) (hz:IsZip s.heap z P1 P2 .none)
  (hs:ZStands s.heap N z P1 P2 j1 j2 a b us vs 0) (hS:s.heap.get? S=some {cls:=.type "list",data:=.seq #[] c₀})
  (q:∀h' acc' c',(∀d o,d∉[z,P2,j1,j2,S]→s.heap.get? d=some o→h'.get? d=some o)→h'.get? S=some {cls:=.type "list",dict:=none,data:=.seq acc' c',slots := #[]}→Pairs h' N us vs acc' (min us.size vs.size)→R (.ok (.ret res)) {s with heap:=h'}) :
  wpAny (model prog w) A.in1 (Builtin.List.listExtendWith (.ref S) (.ref z) res)
   (fun fin s'=>match fin with|.done f=>R (.ok f) s'|.again c'=>c'.quiet=true∧codeAny (model prog w) A c' R s') (fun e s'=>R (.error e) s') s:=by
 have hT:s.TypeIs (.ref z) "zip":=⟨_,hz,rfl⟩
 have nz:S≠z:=(nS z (by simp)).symm
 unfold Builtin.List.listExtendWith
 refine wpAny_bind (wpAny_typeOf hT ?_)
 have e1:Builtin.List.listSameRef (.ref S) (.ref z)=false:=by simp [Builtin.List.listSameRef,nz]
 have e2:(Value.type "zip" == Value.type "list")=false:=by decide
 have e3:(Value.type "zip" == Value.type "tuple")=false:=by decide
 simp only [e1,e2,e3,Bool.or_false,Bool.false_eq_true,if_false]
 refine wpAny_bind (wpAny_pyIter_zip hz ?_);refine wpAny_bind (wpAny_holding ?_)
 unfold Builtin.List.listLengthHint
 refine wpAny_bind (wpAny_specialOf hT sL ?_)
 show wpAny _ _ (specialOf (Value.ref z) (Str.ofString "__length_hint__") >>= _) _ _ _
 refine wpAny_bind (wpAny_specialOf hT sE ?_);refine wpAny_pure ?_
 show wpAny _ _ (rule "list.extend.makes-room" >>= fun _=>Builtin.List.listTouch (.ref S) >>= fun _=>again (.builtin "list.extend.loop" ⟨[.ref S,.ref z,res],[]⟩)) _ _ _
 refine wpAny_bind (wpAny_rule ?_);refine wpAny_bind ?_
 show wpAny _ _ (updateSeq S (·.push .none) >>= fun _=>updateSeq S (·.pop)) _ _ _
 refine wpAny_bind (wpAny_updateSeq hS rfl ?_)
 have g2:=Heap.get?_update_self (Obj.mapSeq (·.push Value.none)) hS rfl
 refine wpAny_updateSeq (hz:=by seq_fits) g2 rfl ?_
 have g3:=Heap.get?_update_self (Obj.mapSeq (·.pop)) g2 rfl
 have kq:∀d o,d≠S→s.heap.get? d=some o→((s.heap.update S (Obj.mapSeq (·.push Value.none))).update S (Obj.mapSeq (·.pop))).get? d=some o:=fun d o hd e=>(Heap.get?_update_other _ _ (Ne.symm hd)).trans ((Heap.get?_update_other _ _ (Ne.symm hd)).trans e)
 refine wpAny_pure ⟨plainId_quiet F.plain_extend_loop _,wL hh D bz nS hn res _ 0 _ #[] _ rfl (Nat.zero_le _) ?_ (hs.keep (bz S (by simp)) nS kq) g3 ⟨rfl,fun j v hv=>by simp at hv,fun i j v hi=>by simp at hi⟩ fun h' acc' c' kp hS' hp=>?_⟩
 ·show N≤((s.heap.update S _).update S _).objs.size
  rw [Heap.size_update,Heap.size_update];exact bN
 ·exact q h' acc' c' (fun d o hd e=>kp d o hd (kq d o (fun x=>hd (by rw [x];simp)) e)) hS' hp
theorem rV {Q:Value→Shared→Prop} (hh:A.handled=none) {z P1 P2 j1 j2 a b:Addr} {us vs:Array Value} (D:ZipApart z P1 P2 j1 j2 a b) (hn:min us.size vs.size≤sizeLine) (hz:IsZip s.heap z P1 P2 .none)
  (hs:∀N,ZStands s.heap N z P1 P2 j1 j2 a b us vs 0) (q:∀h' acc' c',(∀d o,d∉[z,P2,j1,j2]→s.heap.get? d=some o→h'.get? d=some o)→h'.get? s.heap.objs.size=some {cls:=.type "list",dict:=none,data:=.seq acc' c',slots := #[]}→Pairs h' (s.heap.objs.size+1) us vs acc' (min us.size vs.size)→Q (.ref s.heap.objs.size) {s with heap:=h'}) :
  wpAny (model prog w) A (call (.type "list") [.ref z]) Q E s:=by
 have lt:∀{c:Addr} {o:Obj},s.heap.get? c=some o→c<s.heap.objs.size:=fun e=>Heap.lt_size e
 obtain ⟨h2,hP1,n1,n2,la,lb⟩:=hs (s.heap.objs.size+1)
 have bz:∀c∈[z,P1,P2,j1,j2,a,b],c<s.heap.objs.size:=by
  have hP2:P2<s.heap.objs.size:=by
   rcases h2 with ⟨_,g,g',h⟩|⟨T,f1,o,h,_⟩
   ·exact lt h
   ·have y:=hz.symm.trans h;cases y
  intro c hc
  simp only [List.mem_cons,List.mem_nil_iff,or_false] at hc
  obtain ⟨_,w1,_⟩:=id n1;obtain ⟨_,w2,_⟩:=id n2;obtain ⟨_,w3,_⟩:=id la;obtain ⟨_,w4,_⟩:=id lb
  rcases hc with rfl|rfl|rfl|rfl|rfl|rfl|rfl
  ·exact lt hz
  ·exact lt hP1
  ·exact hP2
  ·exact lt w1
  ·exact lt w2
  ·exact lt w3
  ·exact lt w4
 refine callType_codes (Q₁:=fun obj s₁=>obj=.ref s.heap.objs.size∧s₁={s with heap:=s.heap.push {cls:=.type "list",data:=.seq #[]}}) F.called_list (F.typeCall_list_1 _) F.entry_list_init (code_list_new _ ⟨rfl,rfl⟩) fun obj s₁ e₁=>?_
 obtain ⟨rfl,rfl⟩:=e₁
 have g1:(s.heap.push {cls:=.type "list",data:=.seq #[]}).get? s.heap.objs.size=some {cls:=.type "list",data:=.seq #[]}:=Heap.get?_push_size _ rfl
 have kp0:∀d o,s.heap.get? d=some o→(s.heap.push {cls:=.type "list",data:=.seq #[]}).get? d=some o:=fun d o e=>Heap.get?_push_of_some _ e
 refine ⟨⟨_,g1,rfl⟩,F.args_list_init_2 _ _,?_⟩
 show wpAny _ _ (do let old ← Builtin.List.listItems (.ref s.heap.objs.size);Builtin.List.listUpdate (.ref s.heap.objs.size) (fun _ => #[]);letGo old.toList.reverse;Builtin.List.listExtendWith (.ref s.heap.objs.size) (.ref z) .none) _ _ _
 refine wpAny_bind ?_
 unfold Builtin.List.listItems
 refine wpAny_bind (wpAny_seqItems g1 rfl (wpAny_pure ?_))
 show wpAny _ _ (updateSeq s.heap.objs.size (fun _ => #[]) >>= fun _=>letGo (#[]:Array Value).toList.reverse >>= fun _=>Builtin.List.listExtendWith (.ref s.heap.objs.size) (.ref z) .none) _ _ _
 refine wpAny_bind (wpAny_updateSeq g1 rfl ?_)
 have g2:=Heap.get?_update_self (Obj.mapSeq (fun _=>(#[]:Array Value))) g1 rfl
 have kq:∀d o,d≠s.heap.objs.size→s.heap.get? d=some o→((s.heap.push {cls:=.type "list",data:=.seq #[]}).update s.heap.objs.size (Obj.mapSeq (fun _=>(#[]:Array Value)))).get? d=some o:=fun d o hd e=>(Heap.get?_update_other _ _ (Ne.symm hd)).trans (kp0 d o e)
 have nS:∀c∈[z,P1,P2,j1,j2,a,b],c≠s.heap.objs.size:=fun c hc=>Nat.ne_of_lt (bz c hc)
 refine wpAny_bind (wpAny_letGo ?_)
 refine sN (A:=A.in1) (N:=s.heap.objs.size+1) (by simp [hh]) D (fun c hc=>?_) nS hn .none _ ?_ (kq _ _ (nS z (by simp)) hz) ((hs (s.heap.objs.size+1)).keep (Nat.lt_succ_self _) nS kq) g2 fun h' acc' c' kp hS' hp=>⟨rfl,q h' acc' c' (fun d o hd e=>kp d o ?_ (kq d o ?_ e)) hS' hp⟩
 ·simp only [List.mem_cons,List.mem_nil_iff,or_false] at hc
  rcases hc with rfl|rfl|rfl|rfl|rfl
  ·exact Nat.lt_succ_of_lt (bz _ (by simp))
  ·exact Nat.lt_succ_of_lt (bz _ (by simp))
  ·exact Nat.lt_succ_of_lt (bz _ (by simp))
  ·exact Nat.lt_succ_of_lt (bz _ (by simp))
  ·exact Nat.lt_succ_self _
 ·show s.heap.objs.size+1≤((s.heap.push _).update _ _).objs.size
  rw [Heap.size_update,Heap.size_push];exact Nat.le_refl _
 ·have:=lt e
  simp only [List.mem_cons,List.mem_nil_iff,or_false,not_or] at hd ⊢
  exact ⟨hd.1,hd.2.1,hd.2.2.1,hd.2.2.2,Nat.ne_of_lt this⟩
 ·exact Nat.ne_of_lt (lt e)
end
end L2
namespace L2
open PySem PySem.Spec PyProof.Rows
section
variable {X:Cx} {pins:List (Addr×Obj)} {σ:List (Option V)} {H:Hp} {s:Shared} {h':Heap}
theorem Inv.laidAll {t':Nat} {H':Hp} (I:Inv X pins σ H s) (k:∀b u,s.heap.get? b=some u→h'.get? b=some u) (hold:Same H H') (hnew:∀b u,H' b=some u→H b=some u∨(s.heap.objs.size≤b∧ObjOk X.prog X.w H' h' b u)):Inv X pins σ H' {s with heap:=h',toks:=t'}:=by
  refine I.step (g':=s.gens) (d':=s.drawn) (ch:=[]) (fun b hb=>by cases hb) (fun b o _ _ _ e _=>k b o e) (fun b o _ _ _ e _=>⟨o.slots,k b o e⟩) (fun b o _ e n=>?_)
    (fun b o _ e=>⟨o,k b o e⟩) (fun b xs e=>hold _ _ e) (fun b u v e=>hold _ _ e) (fun b ps e=>⟨#[],by rw [hold _ _ e];simp⟩) (fun m hm=>?_) (fun b u e=>?_) I.bare
  · cases hb:H' b with
    |none=>rfl
    |some u =>
      rcases hnew b u hb with z|⟨z,_⟩
      · rw [n] at z;cases z
      · exact absurd (Heap.lt_size e) (Nat.not_lt_of_le z)
  · obtain ⟨o,es,ep,ho,r⟩:=hm
    exact ⟨o,es,ep,k _ o ho,r⟩
  · rcases hnew b u e with z|⟨_,z⟩
    · exact (I.hok b u z).stay (fun c v _ q=>k c v q) (fun c q=>hold _ _ q) fun c xs q=>hold _ _ q
    · exact z
end
section
variable {X:Cx}
def wP (K:PySem.W.Frag) (ta:TA):TE:=fun σ H Q=>ta σ H fun vs H1=>∃(a1 a2:Addr) (xs ys:List V),vs=[.ref a1,.ref a2]∧SqL K H1 a1 xs∧SqL K H1 a2 ys∧
 ∀(l:Addr) (ts:List V) (H':Hp),Same H1 H'→H1 l=none→H' l=some (.lst ts)→ts.length=min xs.length ys.length→(∀(i:Nat) (v:V),ts[i]?=some v→∃(T:Addr) (x y:V),v=.ref T∧H' T=some (.tup [x,y])∧xs[i]?=some x∧ys[i]?=some y)→Q (.ref l) H'
open Classical in
theorem tD {a b:Expr} {ta:TA} {p p1 pos pos1:Pos} (hc:X.calm=true) (hgl:Gl X "list") (hml:X.mg "list"=none) (hg:Gl X "zip") (hm:X.mg "zip"=none) (ha:PA X [a,b] ta) (hs:starEach [a,b] X.env=[(false,eval a X.env),(false,eval b X.env)]:=by rfl) (hs2:starEach [b] X.env=[(false,eval b X.env)]:=by rfl)
  (hs3:starEach [.Call (.Name "zip" p1) [a,b] [] pos1] X.env=[(false,eval (.Call (.Name "zip" p1) [a,b] [] pos1) X.env)]:=by rfl) :
  PE X (.Call (.Name "list" p) [.Call (.Name "zip" p1) [a,b] [] pos1] [] pos) (wP X.K ta):=by
 intro pins s σ H Q I h
 refine wpAny_Call_Name_kw (yF I hgl hml PyProof.Rows.boot_list ?_)
 refine PyProof.Rows.callWith_type1 ?_ hs3 rfl
 rw [hs3]
 show wpAny _ _ (spliced [(false,eval (.Call (.Name "zip" p1) [a,b] [] pos1) X.env)]) _ _ s
 refine Calls.spliced_cons ?_
 refine Call_ (yF I hg hm boot_zip (PyProof.Rows.callWith_type1 (jK (ha pos1 pins s σ H _ I h) fun us s1 ⟨vs,H1,I1,r1,q1⟩=>?_) (by rw [hs,hs2]) (by rw [hs2];rfl)))
 obtain ⟨a1,a2,xs,ys,e,hq1,hq2,q⟩:=q1
 subst e
 cases r1 with
 |cons r rr =>
  cases rr with
  |cons r' rr =>
   cases rr
   cases r
   cases r'
   obtain ⟨its1,rv1,p1,z1⟩:=I1.list hq1
   obtain ⟨its2,rv2,p2,z2⟩:=I1.list hq2
   have lt1:a1<s1.heap.objs.size:=by obtain ⟨o,e,_⟩:=p1.isList;exact Heap.lt_size e
   have lt2:a2<s1.heap.objs.size:=by obtain ⟨o,e,_⟩:=p2.isList;exact Heap.lt_size e
   refine call_zip_2 p1.isList p2.isList fun h1 hz hTI hTO n1 n2 hsz hk=>?_
   refine Calls.spliced_nil ?_
   have D:ZipApart (s1.heap.objs.size+4) (s1.heap.objs.size+2) (s1.heap.objs.size+3) s1.heap.objs.size (s1.heap.objs.size+1) a1 a2:=by
    constructor<;>(intro e;simp only [Addr] at *;omega)
   have ll1:=rv1.length
   have ll2:=rv2.length
   refine rV (us:=its1.toArray) (vs:=its2.toArray) (I.ok.hd hc) D (by rw [List.size_toArray,List.size_toArray];omega) hz (fun N=>⟨.inl ⟨hz,_,_,hTO⟩,hTI,n1,n2,p1.isList.at fun o e=>hk _ o e,p2.isList.at fun o e=>hk _ o e⟩) fun h2 acc c kp hS hp=>?_
   show EP X pins σ Q (.ref h1.objs.size) {s1 with heap:=h2}
   have kall:∀b u,s1.heap.get? b=some u→h2.get? b=some u:=fun b u e=>by
    have hb:b<s1.heap.objs.size:=Heap.lt_size e
    refine kp b u ?_ (hk b u e)
    simp only [List.mem_cons,List.mem_nil_iff,or_false,not_or]
    simp only [Addr] at *
    omega
   have hmin:min its1.toArray.size its2.toArray.size=min xs.length ys.length:=by rw [List.size_toArray,List.size_toArray,← ll1,← ll2]
   rw [hmin] at hp
   have getV:∀(j:Nat),j<min xs.length ys.length→∃(T:Addr) (u v:Value) (x y:V),acc[j]?=some (.ref T)∧h1.objs.size+1≤T∧IsPair h2 T u v∧xs[j]?=some x∧ys[j]?=some y∧RelV x u∧RelV y v:=fun j hj=>by
    have hja:j<acc.size:=by rw [hp.1];exact hj
    obtain ⟨T,u,v,e1,e2,e3,e4,e5,e6⟩:=hp.2.1 j _ (Array.getElem?_eq_getElem hja)
    have hx:xs[j]?=some xs[j]:=List.getElem?_eq_getElem (by omega)
    have hy:ys[j]?=some ys[j]:=List.getElem?_eq_getElem (by omega)
    obtain ⟨u',hu',ru⟩:=rv1.get hx
    obtain ⟨v',hv',rv⟩:=rv2.get hy
    have e5':its1[j]?=some u:=by simpa using e5
    have e6':its2[j]?=some v:=by simpa using e6
    obtain rfl:u'=u:=Option.some.inj (hu'.symm.trans e5')
    obtain rfl:v'=v:=Option.some.inj (hv'.symm.trans e6')
    exact ⟨T,u',v',_,_,by rw [Array.getElem?_eq_getElem hja,e1],e2,e4,hx,hy,ru,rv⟩
   let cell:Nat→HO:=fun j=>.tup [xs.getD j .non,ys.getD j .non]
   let ts:List V:=acc.toList.map fun v=>match v with|.ref T=>.ref T|_=>.non
   let H2:Hp:=fun c=>if c=h1.objs.size then some (.lst ts) else if e:∃j:Nat,acc[j]?=some (.ref c) then some (cell (Classical.choose e)) else H1 c
   have hS2:H2 h1.objs.size=some (.lst ts):=if_pos rfl
   have hT2:∀(j:Nat) (T:Addr),acc[j]?=some (.ref T)→h1.objs.size+1≤T→H2 T=some (cell j):=fun j T e hT=>by
    have hx:∃j:Nat,acc[j]?=some (.ref T):=⟨j,e⟩
    show (if T=h1.objs.size then _ else if e:∃j:Nat,acc[j]?=some (.ref T) then some (cell (Classical.choose e)) else H1 T)=_
    rw [if_neg (Nat.ne_of_gt hT),dif_pos hx,hp.2.2 _ _ _ (Classical.choose_spec hx) e]
   have hle:s1.heap.objs.size≤h1.objs.size:=by rw [hsz];exact Nat.le_add_right _ _
   have hsame:Same H1 H2:=fun c o e=>by
    have n1':c≠h1.objs.size:=j8 e (I1.hok.fresh hle)
    have n2':¬∃j:Nat,acc[j]?=some (.ref c):=fun ⟨j,ej⟩=>by
     obtain ⟨T,_,_,e1,e2,_⟩:=hp.2.1 j _ ej
     cases e1
     have:H1 c=none:=I1.hok.fresh (Nat.le_trans hle (Nat.le_of_succ_le e2))
     rw [this] at e;cases e
    show (if c=h1.objs.size then _ else if e:∃j:Nat,acc[j]?=some (.ref c) then some (cell (Classical.choose e)) else H1 c)=_
    rw [if_neg n1',dif_neg n2'];exact e
   have hts:ts.length=min xs.length ys.length:=by show (acc.toList.map _).length=_;rw [List.length_map,Array.length_toList,hp.1]
   have hvals:Vals ts acc.toList:=by
    have key:∀l:List Value,(∀v∈l,∃T,v=.ref T)→Vals (l.map fun v=>match v with|.ref T=>V.ref T|_=>.non) l:=fun l=>by
     induction l with
     |nil=>intro _;exact .nil
     |cons v l ih =>
      intro hl
      obtain ⟨T,rfl⟩:=hl v List.mem_cons_self
      exact .cons rfl (ih fun u hu=>hl u (List.mem_cons_of_mem _ hu))
    refine key _ fun v hv=>?_
    obtain ⟨j,hj⟩:=List.mem_iff_getElem?.mp hv
    rw [Array.getElem?_toList] at hj
    obtain ⟨T,_,_,e1,_⟩:=hp.2.1 j v hj
    exact ⟨T,e1⟩
   have hzl:min xs.length ys.length≤sizeLine:=by omega
   refine ⟨.ref h1.objs.size,H2,I1.laidAll (t':=s1.toks) kall hsame fun d o e=>?_,rfl,?_⟩
   ·by_cases c1:d=h1.objs.size
    ·subst c1
     rw [hS2] at e
     cases e
     exact .inr ⟨hle,by rw [hts];exact hzl,acc.toList,c,hvals,hS⟩
    ·by_cases c2:∃j:Nat,acc[j]?=some (.ref d)
     ·obtain ⟨j,ej⟩:=c2
      have hj:j<min xs.length ys.length:=by rw [← hp.1];exact (Array.getElem?_eq_some_iff.mp ej).1
      obtain ⟨T,u,v,x,y,e1,e2,e3,e4,e5,ru,rv⟩:=getV j hj
      obtain rfl:d=T:=by have:=ej.symm.trans e1;cases this;rfl
      rw [hT2 j d ej e2] at e
      cases e
      refine .inr ⟨Nat.le_trans hle (Nat.le_of_succ_le e2),(by show 2≤sizeLine;decide),[u,v],?_,⟨_,e3,rfl,_,rfl⟩⟩
      rw [show xs.getD j .non=x by rw [List.getD_eq_getElem?_getD,e4];rfl,show ys.getD j .non=y by rw [List.getD_eq_getElem?_getD,e5];rfl]
      exact .cons ru (.cons rv .nil)
     ·refine .inl ?_
      have e':(if d=h1.objs.size then some (HO.lst ts) else if e:∃j:Nat,acc[j]?=some (.ref d) then some (cell (Classical.choose e)) else H1 d)=some o:=e
      rw [if_neg c1,dif_neg c2] at e'
      exact e'
   ·refine q _ ts H2 hsame (I1.hok.fresh hle) hS2 hts fun i v hv=>?_
    have hi:i<min xs.length ys.length:=by rw [← hts];exact (List.getElem?_eq_some_iff.mp hv).1
    obtain ⟨T,u,w',x,y,e1,e2,e3,e4,e5,_⟩:=getV i hi
    have hv':(acc.toList.map fun v=>match v with|.ref T=>V.ref T|_=>.non)[i]?=some v:=hv
    rw [List.getElem?_map,Array.getElem?_toList,e1] at hv'
    cases hv'
    refine ⟨T,x,y,rfl,?_,e4,e5⟩
    rw [hT2 i T e1 e2]
    show some (HO.tup [xs.getD i .non,ys.getD i .non])=_
    rw [List.getD_eq_getElem?_getD,e4,List.getD_eq_getElem?_getD,e5]
    rfl
end
end L2
namespace L2
open PySem PySem.Spec PyProof.Rows
theorem eI {P:List Str→Prop} (h0:P []) (hs:∀zs z,P zs→P (zs++[z])) (zs:List Str):P zs:=by
 have key:∀l:List Str,P l.reverse:=fun l=>by
  induction l with
  |nil=>exact h0
  |cons z l ih=>rw [List.reverse_cons];exact hs _ _ ih
 rw [← List.reverse_reverse zs]
 exact key _
def kY (zs:List Str):List Str:=zs.foldl (fun σ z=>if σ.contains z then σ else σ++[z]) []
theorem bM (zs:List Str) (z:Str):kY (zs++[z])=if (kY zs).contains z then kY zs else kY zs++[z]:=by unfold kY;rw [List.foldl_append];rfl
theorem eV (zs:List Str):(kY zs).length≤zs.length:=by
 induction zs using eI with
 |h0=>exact Nat.le_refl _
 |hs zs z ih =>
  rw [bM,List.length_append,List.length_singleton]
  split
  ·omega
  ·rw [List.length_append,List.length_singleton];omega
theorem xF (zs:List Str) (k:Str):(kY zs).contains k=zs.contains k:=by
 induction zs using eI with
 |h0=>rfl
 |hs zs z ih =>
  rw [bM]
  by_cases h:(kY zs).contains z=true
  ·rw [if_pos h]
   by_cases e:k=z
   ·rw [e,h];simp
   ·rw [ih];simp [e]
  ·rw [if_neg h,List.contains_append,List.contains_append,ih]
theorem tG (zs:List Str):(kY zs).length=zs.length↔zs.Nodup:=by
 induction zs using eI with
 |h0=>exact ⟨fun _=>List.nodup_nil,fun _=>rfl⟩
 |hs zs z ih =>
  have hle:=eV zs
  have hc:=xF zs z
  rw [bM,List.length_append,List.length_singleton,List.nodup_append]
  by_cases h:(kY zs).contains z=true
  ·rw [if_pos h]
   rw [h] at hc
   refine ⟨fun e=>absurd e (by omega),fun ⟨_,_,e⟩=>absurd rfl (e z (List.contains_iff_mem.mp hc.symm) z List.mem_cons_self)⟩
  ·rw [if_neg h,List.length_append,List.length_singleton]
   rw [Bool.eq_false_iff.mpr h] at hc
   refine ⟨fun e=>⟨ih.mp (by omega),List.nodup_cons.mpr ⟨List.not_mem_nil,List.nodup_nil⟩,fun a ha b hb=>?_⟩,fun ⟨e,_,_⟩=>by rw [ih.mpr e]⟩
   rw [List.mem_singleton.mp hb]
   rintro rfl
   rw [List.contains_iff_mem.mpr ha] at hc
   cases hc
section
variable {prog:Program} {w:World} {A:Around} {s:Shared} {E:Value→Shared→Prop}
theorem wS {R:Result→Shared→Prop} {J:Addr} {fp wr:List Addr} {G:Array GenState→Array GenState→Prop} {zs:List Str} {Pv:Nat→Value→Prop} {St:Nat→Shared→Prop} (W:WalksS prog w A.in1 J fp wr G zs.length Pv St) (D:Addr) (nf:D∉fp)
  (hv:∀i v,Pv i v→∃(z:Str) (t:Tok),zs[i]?=some z∧v=.str z t) (hb:zs.length+1<scanBound) :
  ∀(m i:Nat) (s:Shared),zs.length - i=m→i≤zs.length→St i s→s.heap.SetOf (strKind prog w) D (fun k=>(kY (zs.take i)).contains k) (kY (zs.take i)).length→
   (∀s',Moved (D::wr) G s s'→s'.heap.SetOf (strKind prog w) D (fun k=>(kY zs).contains k) (kY zs).length→R (.ok (.ret .none)) s')→
   codeAny (model prog w) A (.builtin "set.update.loop" ⟨[.ref D,.ref J],[]⟩) R s:=by
 have nw:D∉wr:=fun e=>nf (W.sub _ e)
 have sub:∀b∈wr,b∈D::wr:=fun b e=>List.mem_cons_of_mem _ e
 have hold:∀{s s':Shared} {S:Str→Bool} {n:Nat},Moved wr G s s'→s.heap.SetOf (strKind prog w) D S n→s'.heap.SetOf (strKind prog w) D S n:=fun hm ⟨o,es,ep,t,ho,rest⟩=>⟨o,es,ep,t,hm.heap D _ nw ho,rest⟩
 intro m
 induction m with
 |zero =>
  intro i s hm hi hst hS q
  obtain rfl:i=zs.length:=by omega
  rw [List.take_length] at hS
  refine codeAny_builtin F.entry_set_update_loop ?_
  rw [Around.under_plainId F.plain_set_update_loop _]
  show wpAny _ _ (pyNext (.ref J) >>= _) _ _ s
  refine wpAny_bind (W.done s _ _ hst fun s' hm=>wpAny_pure (q s' (hm.mono sub) (hold hm hS)))
 |succ m ih =>
  intro i s hm hi hst hS q
  have lt:i<zs.length:=by omega
  refine codeAny_builtin F.entry_set_update_loop ?_
  rw [Around.under_plainId F.plain_set_update_loop _]
  show wpAny _ _ (pyNext (.ref J) >>= _) _ _ s
  refine wpAny_bind (W.item i s _ _ lt hst fun v s' hP hst' hm'=>?_)
  obtain ⟨z,t,hz,rfl⟩:=hv i v hP
  have hS':=hold hm' hS
  have hlen:(kY (zs.take i)).length≤i:=Nat.le_trans (eV _) (List.length_take_le ..)
  have hnext:kY (zs.take (i+1))=if (kY (zs.take i)).contains z then kY (zs.take i) else kY (zs.take i)++[z]:=by rw [List.take_add_one,hz];exact bM _ _
  show wpAny _ _ (holding [Value.str z t] (setAdd D (.str z t)) >>= _) _ _ s'
  refine wpAny_bind (wpAny_holding ?_)
  unfold setAdd
  refine wpAny_holding (wpAny_bind ((strKind prog w).pyHash (k:=z) (strKind_is _ _ _ _) ?_))
  refine wpAny_setAddHashed_of (knd:=strKind prog w) (s:={s' with toks:=s'.toks+1}) (strKind_is _ _ _ _) rfl hS' (by omega) fun h' hsb hS2=>?_
  have hSn:h'.SetOf (strKind prog w) D (fun k=>(kY (zs.take (i+1))).contains k) (kY (zs.take (i+1))).length:=by
   refine SetOf_congr hS2 (fun k=>?_) ?_
   ·rw [hnext]
    split
    ·rename_i e
     by_cases ek:k=z
     ·rw [ek,e];simp
     ·rw [decide_eq_false ek,Bool.or_false]
    ·rw [List.contains_append,List.contains_cons,List.contains_nil,Bool.or_false]
     by_cases ek:k=z
     ·rw [ek];simp
     ·rw [decide_eq_false ek];rw [beq_eq_false_iff_ne.mpr ek]
   ·rw [hnext]
    split<;>simp
  refine wpAny_pure ⟨plainId_quiet F.plain_set_update_loop _,ih (i+1) _ (by omega) lt (W.frame _ s' _ _ hst' (Nat.le_succ _) fun b hb o e=>?_) hSn fun s2 hm2 hS2=>?_⟩
  ·rw [hsb.2 b (fun x:b=D=>nf (by rw [← x];exact hb))];exact e
  ·refine q s2 (Moved.trans W.gtrans ((hm'.mono sub).then_heap (Nat.le_succ _) fun b o hb e=>?_) hm2) hS2
   rw [hsb.2 b (fun x:b=D=>hb (by rw [x];exact List.mem_cons_self))];exact e
set_option maxHeartbeats 3200000 in
theorem rT {Q:Value→Shared→Prop} {l:Addr} {us:Array Value} {zs:List Str} (hh:A.handled=none) (hl:s.heap.IsList l us) (hn:us.size=zs.length) (hv:∀(i:Nat) (v:Value),us[i]?=some v→∃(z:Str) (t:Tok),zs[i]?=some z∧v=.str z t) (hb:zs.length+1<scanBound)
  (q:∀(h':Heap) (tk:Nat),h'.SetOf (strKind prog w) s.heap.objs.size (fun k=>(kY zs).contains k) (kY zs).length→(∀b o,s.heap.get? b=some o→h'.get? b=some o)→Q (.ref s.heap.objs.size) {s with heap:=h',toks:=tk}) :
  wpAny (model prog w) A (call (.type "set") [.ref l]) Q E s:=by
 obtain ⟨c,tl,mr⟩:=F.called_set.mro
 have made:=F.called_set.made
 have subt:=F.called_set.sub
 refine wpAny_call (codeAny_of_tree (show wpAny _ _ (callAny (.type "set") _) _ _ _ from wpAny_pure ⟨Code.quiet_builtin _ (by decide +kernel),codeAny_builtin F.entry_type_call ?_⟩))
 rw [Around.under_plain (weight_type_call_type "set" [.ref l] []) rfl]
 have u1:=F.called_set.notType
 have u2:=F.called_set.canCreate
 have u3:=F.typeCall_set_1 (.ref l)
 repeat (any_goals (first|assumption|wp_step))
 refine codeAny_mono (code_set_new_1 (.ref l) (E:=E) (Q₁:=fun x s₁=>∃b:Bool,x=.ref s.heap.objs.size∧s₁={s with heap:=s.heap.push {cls:=.type "set",dict:=none,data:=.set #[] 0 (.fresh 0 0 b)}}) fun b=>⟨b,rfl,rfl⟩) fun r s₁ hr=>?_
 match r,hr with
 |.error e,hr=>exact hr
 |.ok (.ret x),hr =>
  obtain ⟨b,rfl,rfl⟩:=hr
  have g1:(s.heap.push {cls:=.type "set",dict:=none,data:=.set #[] 0 (.fresh 0 0 b)}).get? s.heap.objs.size=some {cls:=.type "set",dict:=none,data:=.set #[] 0 (.fresh 0 0 b)}:=Heap.get?_push_size _ rfl
  have ty:Shared.TypeIs {s with heap:=s.heap.push {cls:=.type "set",dict:=none,data:=.set #[] 0 (.fresh 0 0 b)}} (.ref s.heap.objs.size) "set":=⟨_,g1,rfl⟩
  have u4:=F.called_set.init.lookup
  have u5:=F.called_set.init.bind (.ref s.heap.objs.size)
  repeat (any_goals (first|assumption|wp_step))
  refine codeAny_mono (codeAny_call_builtin (R:=wants (fun r s₂=>r=.none∧∃h' tk,s₂={s with heap:=h',toks:=tk}∧h'.SetOf (strKind prog w) s.heap.objs.size (fun k=>(kY zs).contains k) (kY zs).length∧(∀b o,s.heap.get? b=some o→h'.get? b=some o)) E) F.called_set.init.plain F.entry_set_init (check_set_init_1 ty ?_)) fun r₂ s₂ hr₂=>?_
  ·obtain ⟨⟨k1,k2,k3,k4⟩,eo,ec,nl,ed⟩:=hl
   simp only at ec ed
   subst ec;subst ed
   have eo':(s.heap.push {cls:=.type "set",dict:=none,data:=.set #[] 0 (.fresh 0 0 b)}).get? l=some {cls:=.type "list",dict:=k2,data:=.seq us nl,slots:=k4}:=Heap.get?_push_of_some _ eo
   have u6:=F.sub_list_set
   have u7:=F.sub_list_frozenset
   have u8:(Value.type "list" == Value.type "dict")=false:=by decide
   have l1:(s.heap.push {cls:=.type "set",dict:=none,data:=.set #[] 0 (.fresh 0 0 b)}).IsList l us:=⟨_,eo',rfl,nl,rfl⟩
   have ll:l<s.heap.objs.size:=Heap.lt_size eo
   unfold Builtin.«set.__init__» noKeywords Builtin.Frozenset.updateFrom
   generalize hPI:pyIter=PI
   wp_walk
   subst hPI
   refine wpAny_pyIter_list l1 (wpAny_bind (wpAny_runValue ?_))
   have hnI:l≠(s.heap.push {cls:=.type "set",dict:=none,data:=.set #[] 0 (.fresh 0 0 b)}).objs.size:=by rw [Heap.size_push];exact Nat.ne_of_lt (Nat.lt_succ_of_lt ll)
   have nf:s.heap.objs.size∉[(s.heap.push {cls:=.type "set",dict:=none,data:=.set #[] 0 (.fresh 0 0 b)}).objs.size,l]:=by
    rw [Heap.size_push,List.mem_cons,List.mem_singleton,not_or];exact ⟨Nat.ne_of_lt (Nat.lt_succ_self _),Nat.ne_of_gt ll⟩
   refine wS (zs:=zs) (hn▸(Walks.list (by simp [hh]) _ l hnI us).toS) s.heap.objs.size nf (fun i v e=>hv i v e) hb _ 0 _ rfl (Nat.zero_le _) ⟨⟨_,Heap.get?_push_size _ rfl,rfl,rfl⟩,l1.push _⟩ ?hS ?hR
   case hS=>exact SetOf_congr ((setObjOf_fresh (knd:=strKind prog w) b).setOf (Heap.get?_push_of_some _ g1) (by unfold scanBound;omega)) (fun _=>rfl) rfl
   case hR =>
    intro s' hm hS'
    obtain ⟨h',g',d',tk',os'⟩:=s'
    obtain rfl:g'=s.gens:=hm.gens
    obtain rfl:d'=s.drawn:=hm.drawn
    obtain rfl:os'=s.os:=hm.os
    refine wpAny_pure (show wpAny _ _ (ret Value.none) _ _ _ from wpAny_pure ⟨rfl,h',tk',rfl,hS',fun b o e=>?_⟩)
    have lb:=Heap.lt_size e
    refine hm.heap b o ?_ (Heap.get?_push_of_some _ (Heap.get?_push_of_some _ e))
    rw [List.mem_cons,List.mem_singleton,not_or,Heap.size_push]
    exact ⟨Nat.ne_of_lt lb,Nat.ne_of_lt (Nat.lt_succ_of_lt lb)⟩
  ·match r₂,hr₂ with
   |.error e,hr₂=>exact hr₂
   |.ok (.ret x),hr₂ =>
    obtain ⟨rfl,h',tk,rfl,hS',kp⟩:=hr₂
    repeat (any_goals (first|assumption|wp_step))
    exact q _ _ hS' kp
end
end L2
namespace L2
open PySem PySem.Spec PyProof.Rows
def zH (xs:List V) (lo hi st:Option Int):List V:=(sliceRange (sliceBounds lo hi st xs.length).1 (sliceBounds lo hi st xs.length).2.1 (sliceBounds lo hi st xs.length).2.2).filterMap (xs[·]?)
theorem tX {xs:List V} {us:List Value} (r:Vals xs us) (js:List Nat):Vals (js.filterMap (xs[·]?)) (js.filterMap (us[·]?)):=by
 induction js with
 |nil=>exact .nil
 |cons j js ih =>
  cases hx:xs[j]? with
  |some x =>
   obtain ⟨u,hu,ru⟩:=r.get hx
   rw [List.filterMap_cons_some hx,List.filterMap_cons_some hu]
   exact .cons ru ih
  |none =>
   have hu:us[j]?=none:=by rw [List.getElem?_eq_none_iff] at hx ⊢;rw [← r.length];exact hx
   rw [List.filterMap_cons_none hx,List.filterMap_cons_none hu]
   exact ih
section
variable {X:Cx} {e se:Expr} {te:TE} {lo hi:Option Expr} {tl th tk:TO} {pos p2:Pos}
def DG (K:PySem.W.Frag) (x:V) (l u k:Option Int) (H:Hp) (Q:VK):Prop:=∃a xs,x=.ref a∧SqL K H a xs∧k≠some 0∧∀p,H p=none→Q (.ref p) (upd H p (.lst (zH xs l u k)))
def C1 (K:PySem.W.Frag) (te:TE) (tl th tk:TO):TE:=fun σ H Q=>te σ H fun x H1=>tl σ H1 fun l H2=>th σ H2 fun u H3=>tk σ H3 fun k H4=>DG K x l u k H4 Q
theorem eB (he:PE X e te) (hl:PO X lo tl) (hu:PO X hi th) (hk:PO X (some se) tk):PE X (.Subscript e (.Slice lo hi (some se) p2) pos) (C1 X.K te tl th tk):=by
 intro pins s σ H Q I h
 refine Subscript_ (jK (he pins s σ H _ I h) fun v s1 ⟨x,H1,I1,r1,q1⟩=>?_)
 refine wpAny_Slice (jK (hl pins s1 σ H1 _ I1 q1) fun vl s2 ⟨l,H2,I2,pl,q2⟩=>jK (hu pins s2 σ H2 _ I2 q2) fun vu s3 ⟨u,H3,I3,pu,q3⟩=>jK (hk pins s3 σ H3 _ I3 q3) fun vk s4 ⟨k,H4,I4,pk,q4⟩=>?_)
 obtain ⟨a,xs,rfl,hx,h0,q⟩:=q4
 cases r1
 have I5:Inv X pins σ H4 {s4 with heap:=s4.heap.push {cls:=.type "slice",data:=.fields #[vl,vu,vk]}}:=I4.kept (t':=s4.toks) fun b ob q=>Heap.get?_push_of_some _ q
 obtain ⟨its,r,ht,hz⟩:=I5.list hx
 have hlen:=r.length
 show wpAny (model X.prog X.w) X.A (subscriptTail e (.Slice lo hi (some se) p2) (.ref a) (.ref s4.heap.objs.size)) (EP X pins σ Q) X.xe {s4 with heap:=s4.heap.push {cls:=.type "slice",data:=.fields #[vl,vu,vk]}}
 refine tail_any (ops:=[.ref a,.ref s4.heap.objs.size]) ht.isList.typeIs slot_list_getitem.lookup (wpAny_getItem_list_slice ht.isList (Heap.IsSliceOf.new ..) pl pu pk h0 ?_ (by rw [List.size_toArray];omega)) (by with_unfolding_all rfl)
 have hp:Vals (zH xs l u k) (slicePick its.toArray l u k).toList:=by
  have e:(slicePick its.toArray l u k).toList=(sliceRange (sliceBounds l u k xs.length).1 (sliceBounds l u k xs.length).2.1 (sliceBounds l u k xs.length).2.2).filterMap (its[·]?):=by simp [slicePick,hlen]
  rw [e]
  exact tX r _
 have hs:=slicePick_size_le its.toArray l u k
 refine ⟨.ref _,_,I5.laid (t':=s4.toks) (o:=.lst (zH xs l u k)) (fun b ob q=>Heap.get?_push_of_some _ q) (Nat.le_refl _) ?_,rfl,q _ (I5.hok.fresh (Nat.le_refl _))⟩
 refine ⟨?_,_,0,hp,Heap.get?_push_size _ rfl⟩
 rw [hp.length,Array.length_toList]
 rw [show its.toArray.size=its.length from List.size_toArray] at hs
 omega
end
theorem rQ {α:Type} (xs:List α) (f:Nat→Nat):∀n:Nat,(∀k,k<n→f k<xs.length)→((List.range n).map f).filterMap (xs[·]?)=(List.range n).filterMap fun k=>xs[f k]?:=fun n _=>by rw [List.filterMap_map];rfl
theorem dZ (xs:List V) (n a:Nat) (h1:1≤a) (h3:a≤3) (hn:xs.length=3*n+1):zH xs (some (a:Int)) none (some 3)=(List.range n).filterMap fun k=>xs[a+3*k]?:=by
 unfold zH
 have hb:sliceBounds (some (a:Int)) none (some 3) xs.length=(max 0 (min (a:Int) (xs.length:Int)),(xs.length:Int),3):=by
  simp only [sliceBounds,Option.getD_some,show (3:Int)>0 by decide,if_true,show ¬((a:Int)<0) by omega,if_false]
 rw [hb]
 show (sliceRange _ (xs.length:Int) 3).filterMap _=_
 by_cases h0:n=0
 ·subst h0
  have:max 0 (min (a:Int) (xs.length:Int))=1:=by omega
  rw [this,hn]
  rfl
 have hm:max 0 (min (a:Int) (xs.length:Int))=(a:Int):=by omega
 rw [hm,hn]
 have hc:sliceRange (a:Int) ((3*n+1:Nat):Int) 3=(List.range n).map fun k=>a+3*k:=by
  unfold sliceRange
  have e1:(if (3:Int)>0 then (if (a:Int)<((3*n+1:Nat):Int) then (((3*n+1:Nat):Int) - (a:Int)+3 - 1) / 3 else 0) else (if (a:Int)>((3*n+1:Nat):Int) then ((a:Int) - ((3*n+1:Nat):Int) - 3 - 1) / (-3) else 0))=(n:Int):=by
   rw [if_pos (by decide),if_pos (by omega)]
   omega
  simp only [e1,Int.toNat_natCast]
  refine List.map_congr_left fun k _=>?_
  omega
 rw [hc]
 exact rQ xs _ n fun k hk=>by omega
section
variable {X:Cx}
def xY (K:PySem.W.Frag) (te:TE):TE:=fun σ H Q=>te σ H fun x H1=>∃(a:Addr) (zs:List Str),x=.ref a∧SqL K H1 a (zs.map V.str)∧zs.length≤1000∧Q (.int ((kY zs).length:Int)) H1
theorem uI {a:Expr} {te:TE} {p p1 pos pos1:Pos} (hc:X.calm=true) (hgl:Gl X "len") (hml:X.mg "len"=none) (hg:Gl X "set") (hm:X.mg "set"=none) (ha:PE X a te) (hs:starEach [a] X.env=[(false,eval a X.env)]:=by rfl)
  (hs3:starEach [.Call (.Name "set" p1) [a] [] pos1] X.env=[(false,eval (.Call (.Name "set" p1) [a] [] pos1) X.env)]:=by rfl) :
  PE X (.Call (.Name "len" p) [.Call (.Name "set" p1) [a] [] pos1] [] pos) (xY X.K te):=by
 intro pins s σ H Q I h
 refine wpAny_Call_Name_kw (yF I hgl hml PySem.boot_len ?_)
 refine PyProof.Rows.callWith_builtin1 ?_ hs3 rfl
 rw [hs3]
 show wpAny _ _ (spliced [(false,eval (.Call (.Name "set" p1) [a] [] pos1) X.env)]) _ _ s
 refine Calls.spliced_cons ?_
 refine Call_ (yF I hg hm boot_set (PyProof.Rows.callWith_type1 ?_ hs rfl))
 rw [hs]
 show wpAny _ _ (spliced [(false,eval a X.env)]) _ _ s
 refine Calls.spliced_cons (jK (ha pins s σ H _ I h) fun u s1 ⟨x,H1,I1,r1,q1⟩=>?_)
 refine Calls.spliced_nil ?_
 obtain ⟨l,zs,rfl,hq,hz,q⟩:=q1
 cases r1
 obtain ⟨its,rv,pl,_⟩:=I1.list hq
 have hlen:=rv.length
 rw [List.length_map] at hlen
 refine rT (us:=its.toArray) (zs:=zs) (I.ok.hd hc) pl.isList (by rw [List.size_toArray];exact hlen.symm) (fun i v hv=>?_) (by unfold scanBound;omega) fun h' tk hS kp=>?_
 ·have hv':its[i]?=some v:=by simpa using hv
  have hi:i<zs.length:=by rw [hlen];exact (List.getElem?_eq_some_iff.mp hv').1
  have hz':zs[i]?=some zs[i]:=List.getElem?_eq_getElem hi
  obtain ⟨u,hu,ru⟩:=rv.get (i:=i) (x:=.str zs[i]) (by rw [List.getElem?_map,hz'];rfl)
  obtain rfl:u=v:=Option.some.inj (hu.symm.trans hv')
  obtain ⟨t,rfl⟩:=ru
  exact ⟨_,t,hz',rfl⟩
 refine Calls.spliced_nil ?_
 obtain ⟨o,es,ep,t,ho,hex,hd,_,_,hb,hf,hn⟩:=hS
 have I2:Inv X pins σ H1 {s1 with heap:=h',toks:=tk}:=I1.kept (t':=tk) kp
 have hle:=eV zs
 refine call_len_set (s:={s1 with heap:=h',toks:=tk}) ho hex hd hf (by rw [hn];omega) ?_
 exact ⟨.int ((kY zs).length:Int),H1,I2.tok _,⟨_,by rw [hn]⟩,q⟩
end
end L2
namespace L2
open PySem PySem.Spec PyProof.Rows
section
end
end L2
namespace L2
open PySem PySem.Spec PyProof.Rows
section
variable {prog:Program} {w:World} {A:Around} {s:Shared} {E:Value→Shared→Prop}
end
section
variable {X:Cx} {elts:List Expr} {x1:Nat} {tpos:Pos}
end
end L2
namespace L2
open PySem PySem.Spec PyProof.Rows
section
variable {X:Cx}
end
end L2
namespace L2
open PySem PySem.Spec PyProof.Rows
end L2
namespace L2
open PySem PySem.Spec PyProof.Rows
section
variable {X:Cx}
end
end L2
namespace L2
end L2
namespace L2
theorem an3 {A0 A1 A2:Prop} (h0:A0) (h1:A1) (h2:A2):A0∧A1∧A2:=⟨h0,h1,h2⟩
theorem an4 {A0 A1 A2 A3:Prop} (h0:A0) (h1:A1) (h2:A2) (h3:A3):A0∧A1∧A2∧A3:=⟨h0,h1,h2,h3⟩
theorem an5 {A0 A1 A2 A3 A4:Prop} (h0:A0) (h1:A1) (h2:A2) (h3:A3) (h4:A4):A0∧A1∧A2∧A3∧A4:=⟨h0,h1,h2,h3,h4⟩
theorem an6 {A0 A1 A2 A3 A4 A5:Prop} (h0:A0) (h1:A1) (h2:A2) (h3:A3) (h4:A4) (h5:A5):A0∧A1∧A2∧A3∧A4∧A5:=⟨h0,h1,h2,h3,h4,h5⟩
theorem an7 {A0 A1 A2 A3 A4 A5 A6:Prop} (h0:A0) (h1:A1) (h2:A2) (h3:A3) (h4:A4) (h5:A5) (h6:A6):A0∧A1∧A2∧A3∧A4∧A5∧A6:=⟨h0,h1,h2,h3,h4,h5,h6⟩
theorem an8 {A0 A1 A2 A3 A4 A5 A6 A7:Prop} (h0:A0) (h1:A1) (h2:A2) (h3:A3) (h4:A4) (h5:A5) (h6:A6) (h7:A7):A0∧A1∧A2∧A3∧A4∧A5∧A6∧A7:=⟨h0,h1,h2,h3,h4,h5,h6,h7⟩
theorem an9 {A0 A1 A2 A3 A4 A5 A6 A7 A8:Prop} (h0:A0) (h1:A1) (h2:A2) (h3:A3) (h4:A4) (h5:A5) (h6:A6) (h7:A7) (h8:A8):A0∧A1∧A2∧A3∧A4∧A5∧A6∧A7∧A8:=⟨h0,h1,h2,h3,h4,h5,h6,h7,h8⟩
theorem an10 {A0 A1 A2 A3 A4 A5 A6 A7 A8 A9:Prop} (h0:A0) (h1:A1) (h2:A2) (h3:A3) (h4:A4) (h5:A5) (h6:A6) (h7:A7) (h8:A8) (h9:A9):A0∧A1∧A2∧A3∧A4∧A5∧A6∧A7∧A8∧A9:=⟨h0,h1,h2,h3,h4,h5,h6,h7,h8,h9⟩
theorem an11 {A0 A1 A2 A3 A4 A5 A6 A7 A8 A9 A10:Prop} (h0:A0) (h1:A1) (h2:A2) (h3:A3) (h4:A4) (h5:A5) (h6:A6) (h7:A7) (h8:A8) (h9:A9) (h10:A10):A0∧A1∧A2∧A3∧A4∧A5∧A6∧A7∧A8∧A9∧A10:=⟨h0,h1,h2,h3,h4,h5,h6,h7,h8,h9,h10⟩
theorem an12 {A0 A1 A2 A3 A4 A5 A6 A7 A8 A9 A10 A11:Prop} (h0:A0) (h1:A1) (h2:A2) (h3:A3) (h4:A4) (h5:A5) (h6:A6) (h7:A7) (h8:A8) (h9:A9) (h10:A10) (h11:A11):A0∧A1∧A2∧A3∧A4∧A5∧A6∧A7∧A8∧A9∧A10∧A11:=⟨h0,h1,h2,h3,h4,h5,h6,h7,h8,h9,h10,h11⟩
theorem an13 {A0 A1 A2 A3 A4 A5 A6 A7 A8 A9 A10 A11 A12:Prop} (h0:A0) (h1:A1) (h2:A2) (h3:A3) (h4:A4) (h5:A5) (h6:A6) (h7:A7) (h8:A8) (h9:A9) (h10:A10) (h11:A11) (h12:A12):A0∧A1∧A2∧A3∧A4∧A5∧A6∧A7∧A8∧A9∧A10∧A11∧A12:=⟨h0,h1,h2,h3,h4,h5,h6,h7,h8,h9,h10,h11,h12⟩
theorem an14 {A0 A1 A2 A3 A4 A5 A6 A7 A8 A9 A10 A11 A12 A13:Prop} (h0:A0) (h1:A1) (h2:A2) (h3:A3) (h4:A4) (h5:A5) (h6:A6) (h7:A7) (h8:A8) (h9:A9) (h10:A10) (h11:A11) (h12:A12) (h13:A13):A0∧A1∧A2∧A3∧A4∧A5∧A6∧A7∧A8∧A9∧A10∧A11∧A12∧A13:=⟨h0,h1,h2,h3,h4,h5,h6,h7,h8,h9,h10,h11,h12,h13⟩
theorem an15 {A0 A1 A2 A3 A4 A5 A6 A7 A8 A9 A10 A11 A12 A13 A14:Prop} (h0:A0) (h1:A1) (h2:A2) (h3:A3) (h4:A4) (h5:A5) (h6:A6) (h7:A7) (h8:A8) (h9:A9) (h10:A10) (h11:A11) (h12:A12) (h13:A13) (h14:A14):A0∧A1∧A2∧A3∧A4∧A5∧A6∧A7∧A8∧A9∧A10∧A11∧A12∧A13∧A14:=⟨h0,h1,h2,h3,h4,h5,h6,h7,h8,h9,h10,h11,h12,h13,h14⟩
end L2
namespace L2
open PySem PySem.Spec PyProof.Rows
section
variable {X:Cx}
end
end L2
namespace L2
open PySem PySem.Spec PyProof.Rows
end L2
namespace L2
open PySem PySem.Spec PyProof.Rows
end L2
namespace L2
open PySem PySem.Spec PyProof.Rows
section
variable {prog:Program} {w:World} {A:Around} {E:Value→Shared→Prop} {s:Shared}
end
section
variable {X:Cx}
end
end L2
namespace L2
open PySem PySem.Spec PyProof.Rows
section
variable {M:Model} {A:Around} {E:Value→Shared→Prop} {s:Shared}
end
section
variable {P:Program} {w:World} {K:PySem.W.Frag} {mg:Str→Option Value} {base:Heap} {N:List Str} {qual:Str} {scope:Scope} {f:Addr} {cd:Value} {A:Around} {outer:List Env} {s:Shared} {H:Hp} {E:XK}
end
section
variable {X:Cx} {N:List Str} {scope:Scope} {pins:List (Addr×Obj)} {σ:St} {H:Hp} {s:Shared} {fp:List Addr}
end
section
variable {P:Program} {w:World} {K:PySem.W.Frag} {mg:Str→Option Value} {base:Heap} {Nf:List Str} {qual:Str} {scf:Scope} {f:Addr} {cd:Value} {A:Around} {outer:List Env} {s₀:Shared} {H₀:Hp} {E:XK}
end
end L2
namespace L2
open PySem PySem.Spec PyProof.Rows
section
variable {X:Cx}
end
end L2
namespace L2
open PySem PySem.Spec PyProof.Rows
section
variable {P:Program} {w:World} {K:PySem.W.Frag} {mg:Str→Option Value} {base:Heap}
end
section
variable {X:Cx} {a b:Expr} {ta tb:TE} {r:R2} {pos:Pos}
end
theorem so {K:PySem.W.Frag} {H:Hp} {a:Addr} {xs:List V} (h:H a=some (.lst xs)):SqL K H a xs:=SqL.of h
end L2
namespace L2
open PySem PySem.Spec PyProof.Rows
section
variable {X:Cx} {N:List Str} {scope:Scope} {pins:List (Addr×Obj)} {σ:St} {H:Hp} {s:Shared} {fp:List Addr}
end
theorem cps {X:Cx} {N:List Str} {scope:Scope} (n:Nat) (js:List Nat) (a:N.length=n+js.length:=by rfl) (b:js.map (fun j=>X.N[j]?)=(N.drop n).map some:=by rfl) (c:∀x∈N.drop n,scope.names.lookup x=some .free:=by decide +kernel):Q1 X N scope (qV n js):=vF n js a b c
end L2
namespace My
open PySem L2
theorem zz0:0≤sizeLine:=by decide
theorem zz1:1≤sizeLine:=by decide
theorem zz2:2≤sizeLine:=by decide
theorem zz3:3≤sizeLine:=by decide
theorem zz4:4≤sizeLine:=by decide
theorem zz5:5≤sizeLine:=by decide
theorem zz6:6≤sizeLine:=by decide
theorem zz7:7≤sizeLine:=by decide
def top (i:Nat):Stmt:=PySem.Challenge.pw_lockhouse_k36_read.main.body.getD i (.Pass ⟨0,0,0,0⟩)
abbrev JL:Stmt:=yC (top 14) 0
abbrev JI:Stmt:=yC (top 15) 0
abbrev JO:Stmt:=yC (top 16) 0
abbrev JR:Stmt:=yC (top 11) 0
abbrev JN:Stmt:=yC (top 14) 3
abbrev JK:Stmt:=yC (top 15) 3
abbrev JQ:Stmt:=yC (top 16) 2
abbrev JM:Stmt:=yC (top 14) 4
abbrev JJ:Stmt:=yC (top 15) 4
abbrev JP:Stmt:=yC (top 16) 3
abbrev zN:Stmt:=yC (top 12) 0
abbrev QC:Stmt:=top 10
abbrev zX:Stmt:=top 21
abbrev J7:Stmt:=top 22
abbrev J8:Stmt:=top 23
abbrev QB:Stmt:=top 24
abbrev zT:Stmt:=top 25
abbrev zU:Stmt:=top 26
abbrev zV:Stmt:=top 40
abbrev QG:Stmt:=top 41
abbrev QF:Stmt:=top 42
abbrev QH:Stmt:=top 43
abbrev QI:Stmt:=top 38
abbrev J9:Stmt:=top 39
abbrev QD:Stmt:=top 35
abbrev QA:Stmt:=top 36
abbrev zS:Stmt:=top 37
abbrev QE:Stmt:=top 34
abbrev zW:Stmt:=top 27
abbrev zR:Stmt:=top 33
abbrev JT:Stmt:=top 45
abbrev J6:Stmt:=top 46
abbrev JX:Stmt:=top 47
abbrev zP:Stmt:=top 48
abbrev JU:Stmt:=top 49
abbrev J3:Stmt:=top 50
abbrev JV:Stmt:=top 51
abbrev JY:Stmt:=top 52
abbrev zO:Stmt:=top 53
abbrev yU:Stmt:=top 54
abbrev J0:Stmt:=top 55
abbrev J4:Stmt:=top 56
abbrev JW:Stmt:=top 57
abbrev JZ:Stmt:=top 58
abbrev JS:Stmt:=top 59
abbrev zQ:Stmt:=top 60
abbrev J5:Stmt:=top 61
abbrev yV:Stmt:=top 62
theorem m6 {K:W.Frag} {H H':Hp} {a:Addr} {xs:List V} (e:Same H H') (h:SqT K H a xs):SqT K H' a xs:=by
 rcases h with (h|⟨o,h⟩)|h
 ·exact .inl (.inl (e _ _ h))
 ·exact .inl (.inr ⟨o,e _ _ h⟩)
 ·exact .inr h
theorem jM {H:Hp} {p:Addr} (h:H p=none) (o:HO):Same H (upd H p o):=fun b u q=>by rw [jY (j8 q h)];exact q
theorem small {n:Nat} (h:n≤1000):n≤sizeLine:=Nat.le_of_lt (qJ h)
def Ints (K:W.Frag) (H:Hp) (a:Addr) (ws:List Int):Prop:=SqL K H a (ws.map V.int)∨SqT K H a (ws.map V.int)
theorem Ints.same {K:W.Frag} {H H':Hp} {a:Addr} {ws:List Int} (e:Same H H') (h:Ints K H a ws):Ints K H' a ws:=by
 rcases h with h|h
 ·exact .inl (e.seq h)
 ·exact .inr (m6 e h)
theorem mJ {n s:Nat} (h:s<n):zB n (s:Int)=some s:=by
 unfold zB
 rw [if_pos (by omega),if_pos (by omega)]
 simp
theorem eP {ws:List Int} {s:Nat} (h:s<ws.length):qE (ws.map V.int) (s:Int)=some (.int (ws.getD s 0)):=by
 refine qW ?_
 rw [List.getElem?_map,List.getElem?_eq_getElem h,List.getD_eq_getElem?_getD,List.getElem?_eq_getElem h]
 rfl
theorem eL {K:W.Frag} {H:Hp} {p:Addr} {ws:List Int} {s:Nat} {Q:VK} (h:Ints K H p ws) (hs:s<ws.length) (q:Q (.int (ws.getD s 0)) H):nY K (.ref p) (.int s) H Q:=by
 rcases h with h|h
 ·exact .inl ⟨p,_,s,_,rfl,rfl,h,eP hs,q⟩
 ·exact .inr (.inl ⟨p,_,s,_,rfl,rfl,h,eP hs,q⟩)
theorem xM {ms:List Int} {i:Nat} {x:V} (h:(ms.map V.int)[i]?=some x):∃z,x=V.int z∧ms[i]?=some z:=by
 rw [List.getElem?_map] at h
 cases e:ms[i]? with
 |none=>rw [e] at h;cases h
 |some z=>rw [e] at h;exact ⟨z,(Option.some.inj h).symm,rfl⟩
def e7 (K:W.Frag):Sp:=fun vs H Q _=>∃(a:Addr) (ns:List Int) (k:Nat),vs=[.ref a,.int k]∧SqL K H a (ns.map V.int)∧Q (.int (ns.getD k 0)) H
def lU:Sp:=fun vs H Q _=>∃i:Int,vs=[.int i]∧Q (.bl true) H
def cW (K:W.Frag):Sp:=fun vs H Q _=>∃(a:Addr) (ns:List Int),vs=[.ref a]∧SqL K H a (ns.map V.int)∧ns.length≤63∧∀H',Q (.bl true) H'
def PoursAt (K:W.Frag) (H:Hp) (rs:List V) (qs:List (Nat×Nat×Int)) (n:Nat):Prop :=
 rs.length=qs.length∧∀(i:Nat) (r:V),rs[i]?=some r→∃(a:Addr) (s t:Nat) (m:Int),r=.ref a∧qs[i]?=some (s,t,m)∧SqT K H a [.int s,.int t,.int m]∧s<n∧t<n
theorem PoursAt.same {K:W.Frag} {H H':Hp} {rs:List V} {qs:List (Nat×Nat×Int)} {n:Nat} (e:Same H H') (h:PoursAt K H rs qs n):PoursAt K H' rs qs n:=by
 refine ⟨h.1,fun i r hi=>?_⟩
 obtain ⟨a,s,t,m,h1,h2,h3,h4⟩:=h.2 i r hi
 exact ⟨a,s,t,m,h1,h2,m6 e h3,h4⟩
def Keep (d:Addr) (H H':Hp):Prop:=∀b o,b≠d→H b=some o→H' b=some o
theorem Keep.refl (d:Addr) (H:Hp):Keep d H H:=fun _ _ _ q=>q
theorem Keep.of {d:Addr} {H H':Hp} (s:Same H H'):Keep d H H':=fun b o _ q=>s b o q
theorem Keep.trans {d:Addr} {H H1 H2:Hp} (a:Keep d H H1) (b:Keep d H1 H2):Keep d H H2:=fun c o n q=>b c o n (a c o n q)
theorem Keep.upd {d:Addr} {H H':Hp} (k:Keep d H H') (o:HO):Keep d H (upd H' d o):=fun b u n q=>by rw [jY n];exact k b u n q
theorem Keep.sqt {K:W.Frag} {d a:Addr} {H H':Hp} {xs:List V} {ys:List V} (k:Keep d H H') (hd:H d=some (.lst ys)) (h:SqT K H a xs):SqT K H' a xs:=by
 rcases h with (h|⟨o,h⟩)|h
 ·exact .inl (.inl (k _ _ (vK h hd (fun z=>nomatch z)) h))
 ·exact .inl (.inr ⟨o,k _ _ (vK h hd (fun z=>nomatch z)) h⟩)
 ·exact .inr h
theorem Keep.pours {K:W.Frag} {d:Addr} {H H':Hp} {rs ys:List V} {qs:List (Nat×Nat×Int)} {n:Nat} (k:Keep d H H') (hd:H d=some (.lst ys)) (h:PoursAt K H rs qs n):PoursAt K H' rs qs n:=by
 refine ⟨h.1,fun i r hi=>?_⟩
 obtain ⟨a,s,t,m,h1,h2,h3,h4⟩:=h.2 i r hi
 exact ⟨a,s,t,m,h1,h2,k.sqt hd h3,h4⟩
def lettersS:Str:="abcdefghijklmnopqrstuvwxyz"
theorem sJ:lettersS.cps.toList.length=26:=by decide +kernel
theorem fV:lettersS.length≤sizeLine:=by decide +kernel
def ZJ (z:Nat):Nat:=lettersS.cps.toList.getD z 0
theorem tS {z:Int} (h0:0≤z) (h1:z<26):qE lettersS.cps.toList z=some (ZJ z.toNat):=by
 have h:=qW (xs:=lettersS.cps.toList) (j:=z.toNat) (v:=ZJ z.toNat) (by
  unfold ZJ
  rw [List.getD_eq_getElem?_getD,List.getElem?_eq_getElem (by rw [sJ];omega)]
  rfl)
 have e:((z.toNat:Nat):Int)=z:=by omega
 rwa [e] at h
def qX (n h l r:V):List (Str×V):=jL "room" r (jL "low" l (jL "high" h (jL "name" n [])))
theorem CJ:¬(("name":Str)="high"):=by decide +kernel
theorem CI:¬(("name":Str)="low"):=by decide +kernel
theorem CH:¬(("name":Str)="room"):=by decide +kernel
theorem CM:¬(("high":Str)="low"):=by decide +kernel
theorem CL:¬(("high":Str)="room"):=by decide +kernel
theorem CK:¬(("low":Str)="room"):=by decide +kernel
theorem AN (n h l r:V):(qX n h l r).lookup ("name":Str)=some n:=by
 unfold qX
 rw [qI,if_neg CH,qI,if_neg CI,qI,if_neg CJ,qI,if_pos rfl]
theorem AO (n h l r:V):(qX n h l r).lookup ("high":Str)=some h:=by
 unfold qX
 rw [qI,if_neg CL,qI,if_neg CM,qI,if_pos rfl]
theorem BV (n h l r:V):(qX n h l r).lookup ("low":Str)=some l:=by
 unfold qX
 rw [qI,if_neg CK,qI,if_pos rfl]
theorem AM (n h l r:V):(qX n h l r).lookup ("room":Str)=some r:=by
 unfold qX
 rw [qI,if_pos rfl]
theorem m9 (n h l r:V) {m:Str} (h1:¬m="room") (h2:¬m="low") (h3:¬m="high") (h4:¬m="name"):(qX n h l r).lookup m=none:=by
 unfold qX
 rw [qI,if_neg h1,qI,if_neg h2,qI,if_neg h3,qI,if_neg h4]
 rfl
def PartsAt (H:Hp) (rs:List V) (ps:List (Str×Int)):Prop:=rs.length=ps.length∧∀(i:Nat) (r:V),rs[i]?=some r→∃(a:Addr) (s:Str) (n:Int),r=.ref a∧ps[i]?=some (s,n)∧H a=some (.tup [.str s,.int n])
theorem PartsAt.nil {H:Hp}:PartsAt H [] []:=⟨rfl,fun i r hi=>by cases hi⟩
theorem PartsAt.keep {H H':Hp} {d:Addr} {ys rs:List V} {ps:List (Str×Int)} (k:Keep d H H') (hd:H d=some (.lst ys)) (h:PartsAt H rs ps):PartsAt H' rs ps:=by
 refine ⟨h.1,fun i r hi=>?_⟩
 obtain ⟨a,s,n,h1,h2,h3⟩:=h.2 i r hi
 exact ⟨a,s,n,h1,h2,k _ _ (vK h3 hd (fun z=>nomatch z)) h3⟩
theorem PartsAt.same {H H':Hp} {rs:List V} {ps:List (Str×Int)} (e:Same H H') (h:PartsAt H rs ps):PartsAt H' rs ps:=by
 refine ⟨h.1,fun i r hi=>?_⟩
 obtain ⟨a,s,n,h1,h2,h3⟩:=h.2 i r hi
 exact ⟨a,s,n,h1,h2,e _ _ h3⟩
def QW (e:Str) (n h l r v:V):List (Str×V):=jL e v (qX n h l r)
theorem lR (e:Str) (n h l r v:V):(QW e n h l r v).lookup e=some v:=by
 unfold QW
 rw [qI,if_pos rfl]
theorem lS {e m:Str} (ne:¬m=e) (n h l r v:V):(QW e n h l r v).lookup m=(qX n h l r).lookup m:=by
 unfold QW
 rw [qI,if_neg ne]
theorem gO (n h l r:V):(qX n h l r).length<1000:=by
 have h1:=yL "high" h (jL "name" n [])
 have h2:=yL "low" l (jL "high" h (jL "name" n []))
 have h3:=yL "room" r (jL "low" l (jL "high" h (jL "name" n [])))
 have h4:(jL ("name":Str) n []).length=1:=rfl
 unfold qX
 omega
def LocksF (C:Addr) (H:Hp) (rs:List V) (F:Nat→List (Str×V)):Prop:=∀(j:Nat) (r:V),rs[j]?=some r→∃x dx:Addr,r=.ref x∧H x=some (.ins C dx (F j))
theorem LocksF.same {C:Addr} {H H':Hp} {rs:List V} {F:Nat→List (Str×V)} (e:Same H H') (h:LocksF C H rs F):LocksF C H' rs F:=fun j r hj=>by
 obtain ⟨x,dx,h1,h2⟩:=h j r hj
 exact ⟨x,dx,h1,e _ _ h2⟩
theorem LocksF.keep {C d:Addr} {H H':Hp} {ys rs:List V} {F:Nat→List (Str×V)} (k:Keep d H H') (hd:H d=some (.lst ys)) (h:LocksF C H rs F):LocksF C H' rs F:=fun j r hj=>by
 obtain ⟨x,dx,h1,h2⟩:=h j r hj
 exact ⟨x,dx,h1,k _ _ (vK h2 hd (fun z=>nomatch z)) h2⟩
def jO (cP cB cU:Addr):Kd→Addr
 |.plain=>cP
 |.basin=>cB
 |.pump=>cU
def y3 (kd:Kd) (n h l r v:V):List (Str×V):=match kd with
 |.plain=>qX n h l r
 |.basin=>QW "side" n h l r v
 |.pump=>QW "lift" n h l r v
theorem QU (kd:Kd) (n h l r v:V) {m:Str} (h1:¬m="side") (h2:¬m="lift"):(y3 kd n h l r v).lookup m=(qX n h l r).lookup m:=by
 cases kd
 ·rfl
 ·exact lS h1 _ _ _ _ _
 ·exact lS h2 _ _ _ _ _
theorem cG (kd:Kd) (n h l r v:V):(y3 kd n h l r v).lookup ("name":Str)=some n:=by rw [QU kd _ _ _ _ _ (by decide +kernel) (by decide +kernel)];exact AN ..
theorem cH (kd:Kd) (n h l r v:V):(y3 kd n h l r v).lookup ("high":Str)=some h:=by rw [QU kd _ _ _ _ _ (by decide +kernel) (by decide +kernel)];exact AO ..
theorem cT (kd:Kd) (n h l r v:V):(y3 kd n h l r v).lookup ("low":Str)=some l:=by rw [QU kd _ _ _ _ _ (by decide +kernel) (by decide +kernel)];exact BV ..
theorem QS (kd:Kd) (n h l r v:V):(y3 kd n h l r v).lookup ("room":Str)=some r:=by rw [QU kd _ _ _ _ _ (by decide +kernel) (by decide +kernel)];exact AM ..
theorem y0 (kd:Kd) (n h l r v:V):(y3 kd n h l r v).lookup ("kind":Str)=none:=by rw [QU kd _ _ _ _ _ (by decide +kernel) (by decide +kernel)];exact m9 _ _ _ _ (by decide +kernel) (by decide +kernel) (by decide +kernel) (by decide +kernel)
theorem ZG (kd:Kd) (n h l r v:V):(y3 kd n h l r v).lookup ("extra":Str)=none:=by rw [QU kd _ _ _ _ _ (by decide +kernel) (by decide +kernel)];exact m9 _ _ _ _ (by decide +kernel) (by decide +kernel) (by decide +kernel) (by decide +kernel)
def LockAt (cs:Kd→Addr) (H:Hp) (x:Addr) (kd:Kd) (n h l:V) (room v:Int):Prop:=∃dx:Addr,H x=some (.ins (cs kd) dx (y3 kd n h l (.int room) (.int v)))
theorem LockAt.same {cs:Kd→Addr} {H H':Hp} {x:Addr} {kd:Kd} {n h l:V} {room v:Int} (e:Same H H') (a:LockAt cs H x kd n h l room v):LockAt cs H' x kd n h l room v:=by
 obtain ⟨dx,a⟩:=a
 exact ⟨dx,e _ _ a⟩
def QQ (cs:Kd→Addr):Sp:=fun vs H Q _=>∃(kd:Kd) (x dx:Addr) (n h l r:V),vs=[.ref x,n,h,l,r]∧H x=some (.ins (cs kd) dx [])∧∀H':Hp,Keep x H H'→H' x=some (.ins (cs kd) dx (qX n h l r))→Q .non H'
def QP (cs:Kd→Addr) (kd:Kd):Sp:=fun vs H Q _=>∃(x dx:Addr) (n h l r v:V),vs=[.ref x,n,h,l,r,v]∧H x=some (.ins (cs kd) dx [])∧∀H':Hp,Keep x H H'→H' x=some (.ins (cs kd) dx (y3 kd n h l r v))→Q .non H'
def qR (cs:Kd→Addr) (F:Kd→Int→V) (kd:Kd):Sp:=fun vs H Q _=>∃(x:Addr) (n h l:V) (room v:Int),vs=[.ref x]∧LockAt cs H x kd n h l room v∧Q (F kd v) H
def PoursS (H:Hp) (rs:List V) (ps:List (Str×Str×Int)):Prop:=rs.length=ps.length∧∀(i:Nat) (r:V),rs[i]?=some r→∃(a:Addr) (s t:Str) (n:Int),r=.ref a∧ps[i]?=some (s,t,n)∧H a=some (.tup [.str s,.str t,.int n])
theorem PoursS.nil {H:Hp}:PoursS H [] []:=⟨rfl,fun i r hi=>by cases hi⟩
theorem PoursS.same {H H':Hp} {rs:List V} {ps:List (Str×Str×Int)} (e:Same H H') (h:PoursS H rs ps):PoursS H' rs ps:=by
 refine ⟨h.1,fun i r hi=>?_⟩
 obtain ⟨a,s,t,n,h1,h2,h3⟩:=h.2 i r hi
 exact ⟨a,s,t,n,h1,h2,e _ _ h3⟩
theorem PoursS.keep {H H':Hp} {d:Addr} {ys rs:List V} {ps:List (Str×Str×Int)} (k:Keep d H H') (hd:H d=some (.lst ys)) (h:PoursS H rs ps):PoursS H' rs ps:=by
 refine ⟨h.1,fun i r hi=>?_⟩
 obtain ⟨a,s,t,n,h1,h2,h3⟩:=h.2 i r hi
 exact ⟨a,s,t,n,h1,h2,k _ _ (vK h3 hd (fun z=>nomatch z)) h3⟩
theorem PoursS.one {H:Hp} {s t:Str} {n:Int} {a:Addr} (ht:H a=some (.tup [.str s,.str t,.int n])):PoursS H [.ref a] [(s,t,n)]:=by
 refine ⟨rfl,fun i r hi=>?_⟩
 cases i with
 |zero=>exact ⟨a,s,t,n,(Option.some.inj hi).symm,rfl,ht⟩
 |succ i=>cases hi
def toS (s:Str) (q:Str×Str×Int):Bool:=decide (q.2.1=s)
def qU (n:Int):Nat:=97+(n%26).toNat
theorem mF (n:Int):97≤qU n:=by unfold qU;omega
theorem mG (n:Int):qU n≤122:=by
 unfold qU
 have:=Int.emod_lt_of_pos n (by decide:(0:Int)<26)
 have:=Int.emod_nonneg n (by decide:(26:Int)≠0)
 omega
def kR (c:Int):List Nat:=(List.range 12).map fun (k:Nat)=>qU (c / 4+c / 100*(k:Int)+(k:Int)*(k:Int))
theorem qQ (c:Int):(kR c).length=12:=by simp [kR]
def y7 (c:Int):Nat:=(1+c / 16%12).toNat
def zC (c:Int):Nat:=(c / 32%(1+c / 16%12)).toNat
theorem x6 (c:Int):1≤y7 c:=by unfold y7;have:=Int.emod_nonneg (c / 16) (by decide:(12:Int)≠0);omega
theorem eR (c:Int):y7 c≤12:=by unfold y7;have:=Int.emod_lt_of_pos (c / 16) (by decide:(0:Int)<12);omega
theorem nF (c:Int):zC c<y7 c:=by
 unfold zC y7
 have h0:=Int.emod_nonneg (c / 16) (by decide:(12:Int)≠0)
 have h1:=Int.emod_lt_of_pos (c / 32) (show (0:Int)<1+c / 16%12 by omega)
 have h2:=Int.emod_nonneg (c / 32) (show (1+c / 16%12:Int)≠0 by omega)
 omega
def yI (c:Int) (k:Nat):List Nat:=(kR c).take (zC c)++[qU (c / 4+3*(k:Int))]++((kR c).take (y7 c)).drop (zC c+1)
def kK (c:Int) (k:Nat):List Nat:=if c%4=0 then (kR c).take (k+1) else if c%4=1 then (kR c).drop (11 - k) else yI c k
theorem bX (c:Int):∀x∈kR c,97≤x∧x≤122:=by
 intro x hx
 obtain ⟨k,_,rfl⟩:=List.mem_map.mp hx
 exact ⟨mF _,mG _⟩
theorem lF (c:Int) (k:Nat):∀x∈kK c k,97≤x∧x≤122:=by
 intro x hx
 unfold kK yI at hx
 split at hx
 ·exact bX c x (List.mem_of_mem_take hx)
 split at hx
 ·exact bX c x (List.mem_of_mem_drop hx)
 rcases List.mem_append.mp hx with h|h
 ·rcases List.mem_append.mp h with h|h
  ·exact bX c x (List.mem_of_mem_take h)
  ·cases List.mem_singleton.mp h;exact ⟨mF _,mG _⟩
 ·exact bX c x (List.mem_of_mem_take (List.mem_of_mem_drop h))
theorem eU (c:Int) (k:Nat):(yI c k).length=y7 c:=by
 have h1:=nF c
 have h2:=eR c
 unfold yI
 simp only [List.length_append,List.length_take,List.length_drop,qQ,List.length_singleton]
 omega
theorem lG (c:Int) {k:Nat} (hk:k<8):1≤(kK c k).length∧(kK c k).length≤12:=by
 unfold kK
 split
 ·rw [List.length_take,qQ];omega
 split
 ·rw [List.length_drop,qQ];omega
 rw [eU];exact ⟨x6 c,eR c⟩
theorem BT (c:Int) (k:Nat):(yI c k)[zC c]?=some (qU (c / 4+3*(k:Int))):=by
 have h1:=nF c
 have h2:=eR c
 unfold yI
 have hl:((kR c).take (zC c)).length=zC c:=by rw [List.length_take,qQ];omega
 rw [List.append_assoc,List.getElem?_append_right (by omega),hl,Nat.sub_self]
 rfl
theorem xH {c:Int} {j k:Nat} (hj:j<8) (hk:k<8) (h:qU (c+3*(j:Int))=qU (c+3*(k:Int))):j=k:=by
 unfold qU at h
 omega
theorem eN {c:Int} {j k:Nat} (hj:j<8) (hk:k<8) (h:kK c j=kK c k):j=k:=by
 unfold kK at h
 split at h
 ·have:=congrArg List.length h
  rw [List.length_take,List.length_take,qQ] at this
  omega
 split at h
 ·have:=congrArg List.length h
  rw [List.length_drop,List.length_drop,qQ] at this
  omega
 have:=congrArg (fun l=>l[zC c]?) h
 simp only [BT] at this
 exact xH hj hk (Option.some.inj this)
def seaL:List Nat:=[115,101,97]
def vD (c:Int):List Nat:=if c%4<2 then [115,101,98] else [115,101,97,122]
def qB (c:Int) (k:Nat):List Nat:=if kK c k=seaL then vD c else kK c k
theorem uJ (c:Int):∀x∈vD c,97≤x∧x≤122:=by
 unfold vD
 split<;>decide
theorem uK (c:Int):1≤(vD c).length∧(vD c).length≤12:=by unfold vD;split<;>decide
theorem d8 (c:Int) (k:Nat):∀x∈qB c k,97≤x∧x≤122:=by
 unfold qB
 split
 ·exact uJ c
 ·exact lF c k
theorem d9 (c:Int) {k:Nat} (hk:k<8):1≤(qB c k).length∧(qB c k).length≤12:=by
 unfold qB
 split
 ·exact uK c
 ·exact lG c hk
theorem d7 (c:Int) (k:Nat):qB c k≠seaL:=by
 unfold qB
 split
 ·unfold vD;split<;>decide
 ·assumption
theorem iB {c:Int} (hc:0≤c) {j k:Nat} (hj:j<8) (hk:k<8) (h1:kK c j=seaL) (h2:kK c k≠seaL):vD c≠kK c k:=by
 intro h
 have l1:=congrArg List.length h1
 have l2:=congrArg List.length h
 have hne:j≠k:=fun z=>h2 (z▸h1)
 have h3:seaL.length=3:=rfl
 rw [h3] at l1
 by_cases a:c%4=0
 ·have n1:kK c j=(kR c).take (j+1):=if_pos a
  have n2:kK c k=(kR c).take (k+1):=if_pos a
  have o:vD c=[115,101,98]:=if_pos (by omega)
  rw [n1,List.length_take,qQ] at l1
  rw [n2,o,List.length_take,qQ] at l2
  have:([115,101,98]:List Nat).length=3:=rfl
  omega
 by_cases b:c%4=1
 ·have n1:kK c j=(kR c).drop (11 - j):=by unfold kK;rw [if_neg a,if_pos b]
  have n2:kK c k=(kR c).drop (11 - k):=by unfold kK;rw [if_neg a,if_pos b]
  have o:vD c=[115,101,98]:=if_pos (by omega)
  rw [n1,List.length_drop,qQ] at l1
  rw [n2,o,List.length_drop,qQ] at l2
  have:([115,101,98]:List Nat).length=3:=rfl
  omega
 ·have n1:kK c j=yI c j:=by unfold kK;rw [if_neg a,if_neg b]
  have n2:kK c k=yI c k:=by unfold kK;rw [if_neg a,if_neg b]
  have o:vD c=[115,101,97,122]:=if_neg (by have:=Int.emod_nonneg c (by decide:(4:Int)≠0);omega)
  rw [n1,eU] at l1
  rw [n2,o,eU] at l2
  have:([115,101,97,122]:List Nat).length=4:=rfl
  omega
theorem eA {c:Int} (hc:0≤c) {j k:Nat} (hj:j<8) (hk:k<8) (h:qB c j=qB c k):j=k:=by
 unfold qB at h
 by_cases a:kK c j=seaL<;>by_cases b:kK c k=seaL
 ·exact eN hj hk (a.trans b.symm)
 ·rw [if_pos a,if_neg b] at h;exact absurd h (iB hc hj hk a b)
 ·rw [if_neg a,if_pos b] at h;exact absurd h.symm (iB hc hk hj b a)
 ·rw [if_neg a,if_neg b] at h;exact eN hj hk h
def qT (r c:Int) (k:Nat):List Nat:=if c%5=0 then qB r k else if c%5=1 then (match k with|0=>seaL|k+1=>qB (c / 5*4+3) k) else kK (c / 5) k
theorem wA (r c:Int) (k:Nat):∀x∈qT r c k,97≤x∧x≤122:=by
 unfold qT
 split
 ·exact d8 r k
 split
 ·split
  ·decide
  ·exact d8 _ _
 ·exact lF _ _
theorem wB (r c:Int) {k:Nat} (hk:k<8):1≤(qT r c k).length∧(qT r c k).length≤12:=by
 unfold qT
 split
 ·exact d9 r hk
 split
 ·split
  ·decide
  ·exact d9 _ (by omega)
 ·exact lG _ hk
theorem wC {r c:Int} (hr:0≤r) (hc:0≤c) {j k:Nat} (hj:j<8) (hk:k<8) (h:qT r c j=qT r c k):j=k:=by
 unfold qT at h
 split at h
 ·exact eA hr hj hk h
 split at h
 ·split at h<;>split at h
  ·rfl
  ·exact absurd h.symm (d7 _ _)
  ·exact absurd h (d7 _ _)
  ·have:=eA (c:=c / 5*4+3) (by omega) (by omega) (by omega) h;omega
 ·exact eN hj hk h
def jJ (l:List Nat):Str:=⟨l.toArray⟩
theorem vZ (l:List Nat):(jJ l).length=l.length:=List.size_toArray
theorem eG (a b:List Nat):jJ a++jJ b=jJ (a++b):=by
 show (⟨a.toArray++b.toArray⟩:Str)=⟨(a++b).toArray⟩
 rw [List.append_toArray]
theorem QO {a b:List Nat} (h:jJ a=jJ b):a=b:=congrArg (fun z:Str=>z.cps.toList) h
theorem lB (l:List Nat) {j:Int} (h0:0≤j) (h1:j≤l.length):Txt.slice (jJ l) none (some j)=jJ (l.take j.toNat):=by
 have h:=eq_of_beq (PyProof.Rows.slice_closes_to (x:=jJ l) (j:=j) ⟨h0,h1⟩)
 rw [h]
 show (⟨((l.drop (0:Int).toNat).take (j - 0).toNat).toArray⟩:Str)=_
 rw [Int.sub_zero]
 rfl
theorem sT (l:List Nat) {i:Int} (h0:0≤i) (h1:i≤l.length):Txt.slice (jJ l) (some i) none=jJ (l.drop i.toNat):=by
 have h:=PyProof.Rows.slice_from_eq (x:=jJ l) (i:=i) (b:=l.length) h0 (by rw [vZ];exact h1) (by rw [vZ])
 rw [h]
 show (⟨((l.drop i.toNat).take ((l.length:Int) - i).toNat).toArray⟩:Str)=_
 rw [List.take_of_length_le (by rw [List.length_drop];omega)]
 rfl
theorem uB (l:List Nat) {i j:Int} (h0:0≤i) (h1:i≤j) (h2:j≤l.length):Txt.slice (jJ l) (some i) (some j)=jJ ((l.take j.toNat).drop i.toNat):=by
 have h:=eq_of_beq (PyProof.Rows.slice_closes (x:=jJ l) (i:=i) (j:=j) ⟨h0,h1,h2⟩)
 rw [h,List.drop_take]
 show (⟨((l.drop i.toNat).take (j - i).toNat).toArray⟩:Str)=⟨((l.drop i.toNat).take (j.toNat - i.toNat)).toArray⟩
 rw [show (j - i).toNat=j.toNat - i.toNat by omega]
theorem uT (n:Int):ZJ (n%26).toNat=qU n:=by
 have h1:=Int.emod_nonneg n (by decide:(26:Int)≠0)
 have h2:=Int.emod_lt_of_pos n (by decide:(0:Int)<26)
 unfold qU
 generalize hz:(n%26).toNat=z
 have hz26:z<26:=by omega
 have key:∀z,z<26→ZJ z=97+z:=by decide +kernel
 exact key z hz26
theorem iT (n:Int):qE lettersS.cps.toList (n%26)=some (qU n):=by
 rw [← uT]
 exact tS (Int.emod_nonneg n (by decide)) (Int.emod_lt_of_pos n (by decide))
theorem w9 (c:Nat):(⟨#[c]⟩:Str)=jJ [c]:=rfl
theorem xQ:("":Str)=jJ []:=by decide +kernel
theorem bU:("sea":Str)=jJ seaL:=by decide +kernel
theorem uC:("seaz":Str)=jJ [115,101,97,122]:=by decide +kernel
theorem wT:("seb":Str)=jJ [115,101,98]:=by decide +kernel
theorem wJ (c:Int) {i:Nat} (h:i<12):(kR c).take i++[qU (c / 4+c / 100*(i:Int)+(i:Int)*(i:Int))]=(kR c).take (i+1):=by
 rw [List.take_add_one]
 congr 1
 unfold kR
 rw [List.getElem?_map,List.getElem?_range h]
 rfl
def kN (f:Nat→List Nat) (n:Nat):List V:=(List.range n).map fun k=>V.str (jJ (f k))
theorem Q7 (f:Nat→List Nat) (n:Nat):(kN f n).length=n:=by unfold kN;rw [List.length_map,List.length_range]
theorem dR (f:Nat→List Nat) (n:Nat):kN f n++[V.str (jJ (f n))]=kN f (n+1):=by
 unfold kN
 rw [List.range_succ,List.map_append]
 rfl
theorem Q8 (f:Nat→List Nat) {n k:Nat} (h:k<n):(kN f n)[k]?=some (V.str (jJ (f k))):=by
 unfold kN
 rw [List.getElem?_map,List.getElem?_range h]
 rfl
def eH:Sp:=fun vs H Q _=>∃c:Int,vs=[.int c,.int 8]∧∀(l:Addr) (H':Hp),Same H H'→H l=none→H' l=some (.lst (kN (kK c) 8))→Q (.ref l) H'
def dQ:Sp:=fun vs H Q _=>∃c:Int,vs=[.int c]∧∀(l:Addr) (H':Hp),Same H H'→H l=none→H' l=some (.lst (kN (qB c) 8))→Q (.ref l) H'
def lA:Sp:=fun vs H Q _=>∃(c r:Int) (a:Addr),vs=[.int c,.ref a]∧H a=some (.lst (kN (qB r) 8))∧∀(l:Addr) (H':Hp),Same H H'→H' l=some (.lst (kN (qT r c) 8))→Q (.ref l) H'
theorem r6 (f:Nat→List Nat) {n m:Nat} (h:m≤n):(kN f n).take m=kN f m:=by
 unfold kN
 rw [← List.map_take,List.take_range]
 rw [Nat.min_eq_left h]
theorem mX (f:Nat→List Nat):q8 (kN f 8) none (some 7)=kN f 7:=by
 unfold q8
 rw [Q7]
 show ((kN f 8).drop 0).take 7=_
 rw [List.drop_zero,r6 f (by decide)]
theorem r9 (x:List Nat) (f g:Nat→List Nat) (n:Nat) (h0:g 0=x) (hs:∀k,g (k+1)=f k):V.str (jJ x)::kN f n=kN g (n+1):=by
 unfold kN
 rw [List.range_succ_eq_map,List.map_cons,List.map_map,h0]
 congr 1
 refine List.map_congr_left fun k _=>?_
 show V.str (jJ (f k))=V.str (jJ (g (k+1)))
 rw [hs]
theorem fU {f g:Nat→List Nat} {n:Nat} (h:∀k,f k=g k):kN f n=kN g n:=by
 unfold kN
 refine List.map_congr_left fun k _=>?_
 rw [h]
structure RC where
 name:Str
 least:Int
 crest:Int
 berths:Int
 water:Int
 target:Int
def RC.good (r:RC) (n:Nat):Prop:=0≤r.least∧r.least≤r.crest∧r.crest≤999999999999∧1≤r.berths∧r.berths≤9∧0≤r.water∧r.water≤999999999999∧-1≤r.target∧r.target<(n:Int)
def v5 (r:RC):List V:=[.str "reach",.str r.name,.int r.least,.int r.crest,.int r.berths,.int r.water,.int r.target]
def iW:Sp:=fun vs H Q _=>∃(nm:Str) (a b c:Int) (n:Nat),vs=[.str nm,.int a,.int b,.int c,.int (n:Int)]∧∀(r:RC) (t:Addr) (H':Hp),r.name=nm→r.good n→Same H H'→H t=none→H' t=some (.tup (v5 r))→Q (.ref t) H'
theorem fQ:(10:Int) ^ Int.toNat 12=1000000000000:=by decide +kernel
theorem CD {x0 x1 x2 x3 x4 x5 n lo hi:Int} (h0:lo≤x0∧x0≤hi) (h1:lo≤x1∧x1≤hi) (h2:lo≤x2∧x2≤hi) (h3:lo≤x3∧x3≤hi) (h4:lo≤x4∧x4≤hi) (h5:lo≤x5∧x5≤hi) :
  ∃z:Int,qE [V.int x0,V.int x1,V.int x2,V.int x3,V.int x4,V.int x5] (n%6)=some (.int z)∧lo≤z∧z≤hi:=by
 have a:=Int.emod_nonneg n (by decide:(6:Int)≠0)
 have b:=Int.emod_lt_of_pos n (by decide:(0:Int)<6)
 obtain ⟨k,hk⟩:∃k:Nat,n%6=(k:Int):=⟨(n%6).toNat,by omega⟩
 rw [hk]
 have hk6:k<6:=by omega
 rcases k with _|_|_|_|_|_|k
 ·exact ⟨x0,rfl,h0⟩
 ·exact ⟨x1,rfl,h1⟩
 ·exact ⟨x2,rfl,h2⟩
 ·exact ⟨x3,rfl,h3⟩
 ·exact ⟨x4,rfl,h4⟩
 ·exact ⟨x5,rfl,h5⟩
 ·omega
theorem m7 {x0 x1 x2 n lo hi:Int} (h0:lo≤x0∧x0≤hi) (h1:lo≤x1∧x1≤hi) (h2:lo≤x2∧x2≤hi) :
  ∃z:Int,qE [V.int x0,V.int x1,V.int x2] (n%3)=some (.int z)∧lo≤z∧z≤hi:=by
 have a:=Int.emod_nonneg n (by decide:(3:Int)≠0)
 have b:=Int.emod_lt_of_pos n (by decide:(0:Int)<3)
 obtain ⟨k,hk⟩:∃k:Nat,n%3=(k:Int):=⟨(n%3).toNat,by omega⟩
 rw [hk]
 have hk3:k<3:=by omega
 rcases k with _|_|_|k
 ·exact ⟨x0,rfl,h0⟩
 ·exact ⟨x1,rfl,h1⟩
 ·exact ⟨x2,rfl,h2⟩
 ·omega
structure LC where
 name:Str
 high:Int
 low:Int
 room:Int
 kd:Kd
 extra:Int
def vU:Kd→Str
 |.plain=>"plain"
 |.basin=>"basin"
 |.pump=>"pump"
def LC.good (l:LC) (n:Nat):Prop:=1≤l.high∧l.high<(n:Int)∧0≤l.low∧l.low<l.high∧1≤l.room∧l.room≤999999999999∧(l.kd=.plain→l.extra=0)∧(l.kd≠.plain→1≤l.extra∧l.extra≤l.room)
def dG (l:LC):List V:=[.str "lock",.str l.name,.int l.high,.int l.low,.int l.room,.str (vU l.kd),.int l.extra]
def lY:Sp:=fun vs H Q _=>∃(nm:Str) (a b c:Int) (n:Nat),vs=[.str nm,.int a,.int b,.int c,.int (n:Int)]∧1<n∧∀(l:LC) (t:Addr) (H':Hp),l.name=nm→l.good n→Same H H'→H t=none→H' t=some (.tup (dG l))→Q (.ref t) H'
theorem BJ (n:Int):∃kd:Kd,qE [V.str "plain",V.str "basin",V.str "pump"] (n%3)=some (.str (vU kd)):=by
 have a:=Int.emod_nonneg n (by decide:(3:Int)≠0)
 have b:=Int.emod_lt_of_pos n (by decide:(0:Int)<3)
 obtain ⟨k,hk⟩:∃k:Nat,n%3=(k:Int):=⟨(n%3).toNat,by omega⟩
 rw [hk]
 have hk3:k<3:=by omega
 rcases k with _|_|_|k
 ·exact ⟨.plain,rfl⟩
 ·exact ⟨.basin,rfl⟩
 ·exact ⟨.pump,rfl⟩
 ·omega
theorem bO (kd:Kd):V.str (vU kd)=V.str "plain"↔kd=.plain:=by
 cases kd
 ·exact ⟨fun _=>rfl,fun _=>rfl⟩
 ·exact ⟨fun h=>absurd (V.str.inj h) (by decide +kernel),fun h=>nomatch h⟩
 ·exact ⟨fun h=>absurd (V.str.inj h) (by decide +kernel),fun h=>nomatch h⟩
def TripsAt (H:Hp) (rs:List V) (ts:List (Nat×Int×Int)):Prop:=rs.length=ts.length∧∀(i:Nat) (r:V),rs[i]?=some r→∃(a:Addr) (k:Nat) (x y:Int),r=.ref a∧ts[i]?=some (k,x,y)∧H a=some (.tup [.int (k:Int),.int x,.int y])
def tripsOk (ts:List (Nat×Int×Int)) (n:Nat):Prop:=(ts.map (·.1)).Nodup∧∀q∈ts,q.1<n∧0≤q.2.1∧q.2.1≤999999999999∧0≤q.2.2∧q.2.2≤999999999999
theorem TripsAt.same {H H':Hp} {rs:List V} {ts:List (Nat×Int×Int)} (e:Same H H') (h:TripsAt H rs ts):TripsAt H' rs ts :=
 ⟨h.1,fun i r hi=>by obtain ⟨a,k,x,y,h1,h2,h3⟩:=h.2 i r hi;exact ⟨a,k,x,y,h1,h2,e _ _ h3⟩⟩
theorem TripsAt.keep {H H':Hp} {d:Addr} {ys rs:List V} {ts:List (Nat×Int×Int)} (k:Keep d H H') (hd:H d=some (.lst ys)) (h:TripsAt H rs ts):TripsAt H' rs ts :=
 ⟨h.1,fun i r hi=>by obtain ⟨a,k',x,y,h1,h2,h3⟩:=h.2 i r hi;exact ⟨a,k',x,y,h1,h2,k _ _ (fun z=>by rw [z,hd] at h3;cases h3) h3⟩⟩
theorem TripsAt.snoc {H:Hp} {rs:List V} {ts:List (Nat×Int×Int)} {a:Addr} {k:Nat} {x y:Int} (h:TripsAt H rs ts) (ha:H a=some (.tup [.int (k:Int),.int x,.int y])):TripsAt H (rs++[.ref a]) (ts++[(k,x,y)]):=by
 refine ⟨by rw [List.length_append,List.length_append,h.1];rfl,fun i r hi=>?_⟩
 by_cases hl:i<rs.length
 ·rw [List.getElem?_append_left hl] at hi
  rw [List.getElem?_append_left (by rw [← h.1];exact hl)]
  exact h.2 i r hi
 ·rw [List.getElem?_append_right (by omega)] at hi
  have e:i=rs.length:=by
   by_cases z:i - rs.length=0
   ·omega
   ·rw [List.getElem?_eq_none (by show 1≤i - rs.length;omega)] at hi;cases hi
  rw [e,Nat.sub_self] at hi
  cases hi
  refine ⟨a,k,x,y,rfl,?_,ha⟩
  rw [e,h.1,List.getElem?_append_right (Nat.le_refl _),Nat.sub_self]
  rfl
theorem TripsAt.rev {H:Hp} {rs:List V} {ts:List (Nat×Int×Int)} (h:TripsAt H rs ts):TripsAt H rs.reverse ts.reverse:=by
 refine ⟨by rw [List.length_reverse,List.length_reverse,h.1],fun i r hi=>?_⟩
 have hl:i<rs.length:=by have:=(List.getElem?_eq_some_iff.mp hi).1;rwa [List.length_reverse] at this
 rw [List.getElem?_reverse hl] at hi
 obtain ⟨a,k,x,y,h1,h2,h3⟩:=h.2 _ r hi
 exact ⟨a,k,x,y,h1,by rw [List.getElem?_reverse (by rw [← h.1];exact hl),← h.1];exact h2,h3⟩
theorem tripsOk.snoc {ts:List (Nat×Int×Int)} {k:Nat} {x y:Int} (h:tripsOk ts k) (hx:0≤x∧x≤999999999999) (hy:0≤y∧y≤999999999999):tripsOk (ts++[(k,x,y)]) (k+1):=by
 refine ⟨?_,fun q hq=>?_⟩
 ·rw [List.map_append,List.nodup_append]
  refine ⟨h.1,by simp,fun a ha b hb=>?_⟩
  obtain ⟨q,hq,rfl⟩:=List.mem_map.mp ha
  have hb:b=k:=by simpa using hb
  have:=(h.2 q hq).1
  omega
 ·rcases List.mem_append.mp hq with hq|hq
  ·obtain ⟨h1,h2⟩:=h.2 q hq;exact ⟨by omega,h2⟩
  ·cases List.mem_singleton.mp hq;exact ⟨by show k<k+1;omega,hx.1,hx.2,hy.1,hy.2⟩
theorem tripsOk.more {ts:List (Nat×Int×Int)} {k n:Nat} (h:tripsOk ts k) (hn:k≤n):tripsOk ts n:=⟨h.1,fun q hq=>by obtain ⟨h1,h2⟩:=h.2 q hq;exact ⟨by omega,h2⟩⟩
theorem tripsOk.rev {ts:List (Nat×Int×Int)} {n:Nat} (h:tripsOk ts n):tripsOk ts.reverse n:=⟨by rw [List.map_reverse];exact (List.reverse_perm _).nodup_iff.mpr h.1,fun q hq=>h.2 q (List.mem_reverse.mp hq)⟩
def iX:Sp:=fun vs H Q _=>∃(a b c:Int) (n:Nat),vs=[.int a,.int b,.int c,.int (n:Int)]∧n≤8∧∀(ts:List (Nat×Int×Int)) (rs:List V) (t l:Addr) (H':Hp),tripsOk ts n→ts.length≤8→Same H H'→H t=none→H l=none→H' t=some (.tup [.str "night",.ref l])→H' l=some (.lst rs)→TripsAt H' rs ts→Q (.ref t) H'
theorem fP (z:Int):0≤z%10 ^ Int.toNat 12∧z%10 ^ Int.toNat 12≤999999999999:=by
 rw [fQ]
 have h0:=Int.emod_nonneg z (by decide:(1000000000000:Int)≠0)
 have h1:=Int.emod_lt_of_pos z (by decide:(0:Int)<1000000000000)
 omega
inductive PIt where
 |reach (r:RC)
 |lock (l:LC)
 |night (ts:List (Nat×Int×Int))
def ItAt (D:List Addr) (H:Hp) (v:V):PIt→Prop
 |.reach r=>∃t,v=.ref t∧H t=some (.tup (v5 r))
 |.lock l=>∃t,v=.ref t∧H t=some (.tup (dG l))
 |.night ts=>∃(t l:Addr) (rs:List V),v=.ref t∧H t=some (.tup [.str "night",.ref l])∧H l=some (.lst rs)∧TripsAt H rs ts∧l∉D
theorem ItAt.same {D:List Addr} {H H':Hp} {v:V} {it:PIt} (e:Same H H') (h:ItAt D H v it):ItAt D H' v it:=by
 cases it with
 |reach r=>obtain ⟨t,h1,h2⟩:=h;exact ⟨t,h1,e _ _ h2⟩
 |lock l=>obtain ⟨t,h1,h2⟩:=h;exact ⟨t,h1,e _ _ h2⟩
 |night ts=>obtain ⟨t,l,rs,h1,h2,h3,h4,h5⟩:=h;exact ⟨t,l,rs,h1,e _ _ h2,e _ _ h3,h4.same e,h5⟩
theorem ItAt.keep {D:List Addr} {H H':Hp} {d:Addr} {ys:List V} {v:V} {it:PIt} (k:Keep d H H') (hd:H d=some (.lst ys)) (hD:d∈D) (h:ItAt D H v it):ItAt D H' v it:=by
 have nt:∀{t:Addr} {zs:List V},H t=some (.tup zs)→t≠d:=fun ht z=>by rw [z,hd] at ht;cases ht
 cases it with
 |reach r=>obtain ⟨t,h1,h2⟩:=h;exact ⟨t,h1,k _ _ (nt h2) h2⟩
 |lock l=>obtain ⟨t,h1,h2⟩:=h;exact ⟨t,h1,k _ _ (nt h2) h2⟩
 |night ts=>obtain ⟨t,l,rs,h1,h2,h3,h4,h5⟩:=h;exact ⟨t,l,rs,h1,k _ _ (nt h2) h2,k _ _ (fun z=>h5 (z▸hD)) h3,h4.keep k hd,h5⟩
def PlanAt (D:List Addr) (H:Hp) (vs:List V) (its:List PIt):Prop:=vs.length=its.length∧∀(i:Nat) (v:V),vs[i]?=some v→∃it,its[i]?=some it∧ItAt D H v it
theorem PlanAt.nil {D:List Addr} {H:Hp}:PlanAt D H [] []:=⟨rfl,fun i v h=>by cases h⟩
theorem PlanAt.same {D:List Addr} {H H':Hp} {vs:List V} {its:List PIt} (e:Same H H') (h:PlanAt D H vs its):PlanAt D H' vs its:=⟨h.1,fun i v hv=>by obtain ⟨it,h1,h2⟩:=h.2 i v hv;exact ⟨it,h1,h2.same e⟩⟩
theorem PlanAt.keep {D:List Addr} {H H':Hp} {d:Addr} {ys vs:List V} {its:List PIt} (k:Keep d H H') (hd:H d=some (.lst ys)) (hD:d∈D) (h:PlanAt D H vs its):PlanAt D H' vs its:=⟨h.1,fun i v hv=>by obtain ⟨it,h1,h2⟩:=h.2 i v hv;exact ⟨it,h1,h2.keep k hd hD⟩⟩
theorem PlanAt.snoc {D:List Addr} {H:Hp} {vs:List V} {its:List PIt} {v:V} {it:PIt} (h:PlanAt D H vs its) (hv:ItAt D H v it):PlanAt D H (vs++[v]) (its++[it]):=by
 refine ⟨by rw [List.length_append,List.length_append,h.1];rfl,fun i w hw=>?_⟩
 by_cases hl:i<vs.length
 ·rw [List.getElem?_append_left hl] at hw
  rw [List.getElem?_append_left (by rw [← h.1];exact hl)]
  exact h.2 i w hw
 ·rw [List.getElem?_append_right (by omega)] at hw
  have e:i=vs.length:=by
   by_cases z:i - vs.length=0
   ·omega
   ·rw [List.getElem?_eq_none (by show 1≤i - vs.length;omega)] at hw;cases hw
  rw [e,Nat.sub_self] at hw
  cases hw
  refine ⟨it,?_,hv⟩
  rw [e,h.1,List.getElem?_append_right (Nat.le_refl _),Nat.sub_self]
  rfl
inductive PlanOk (rn gn:Nat→List Nat):List PIt→Nat→Nat→Nat→Prop where
 |nil:PlanOk rn gn [] 0 0 0
 |reach {its:List PIt} {a b c:Nat} {r:RC} (h:PlanOk rn gn its a b c) (ha:a<8) (hn:r.name=jJ (rn a)) (hg:r.good a):PlanOk rn gn (its++[.reach r]) (a+1) b c
 |lock {its:List PIt} {a b c:Nat} {l:LC} (h:PlanOk rn gn its a b c) (hb:b<8) (hn:l.name=jJ (gn b)) (hg:l.good a):PlanOk rn gn (its++[.lock l]) a (b+1) c
 |night {its:List PIt} {a b c:Nat} {ts:List (Nat×Int×Int)} (h:PlanOk rn gn its a b c) (hc:c<6) (ht:tripsOk ts a) (hl:ts.length≤8):PlanOk rn gn (its++[.night ts]) a b (c+1)
theorem PlanOk.bounds {rn gn:Nat→List Nat} {its:List PIt} {a b c:Nat} (h:PlanOk rn gn its a b c):a≤8∧b≤8∧c≤6∧its.length=a+b+c:=by
 induction h with
 |nil=>exact ⟨by omega,by omega,by omega,rfl⟩
 |reach h ha _ _ ih=>rw [List.length_append];exact ⟨by omega,ih.2.1,ih.2.2.1,by show _+1=_;omega⟩
 |lock h hb _ _ ih=>rw [List.length_append];exact ⟨ih.1,by omega,ih.2.2.1,by show _+1=_;omega⟩
 |night h hc _ _ ih=>rw [List.length_append];exact ⟨ih.1,ih.2.1,by omega,by show _+1=_;omega⟩
def lW (K:W.Frag):Sp:=fun vs H Q _=>∃(s nl gl:Addr) (ns:List Int) (rn gn:Nat→List Nat),vs=[.ref s,.ref nl,.ref gl]∧SqL K H s (ns.map V.int)∧ns.length≤63∧H nl=some (.lst (kN rn 8))∧H gl=some (.lst (kN gn 8))∧
 ∀(its:List PIt) (a b c:Nat) (pl:Addr) (vs:List V) (H':Hp),PlanOk rn gn its a b c→1≤a→Same H H'→H pl=none→H' pl=some (.lst vs)→PlanAt [pl] H' vs its→Q (.ref pl) H'
theorem ItAt.less {D D':List Addr} {H:Hp} {v:V} {it:PIt} (hD:∀d∈D',d∈D) (h:ItAt D H v it):ItAt D' H v it:=by
 cases it with
 |reach r=>exact h
 |lock l=>exact h
 |night ts=>obtain ⟨t,l,rs,h1,h2,h3,h4,h5⟩:=h;exact ⟨t,l,rs,h1,h2,h3,h4,fun z=>h5 (hD _ z)⟩
theorem PlanAt.less {D D':List Addr} {H:Hp} {vs:List V} {its:List PIt} (hD:∀d∈D',d∈D) (h:PlanAt D H vs its):PlanAt D' H vs its:=⟨h.1,fun i v hv=>by obtain ⟨it,h1,h2⟩:=h.2 i v hv;exact ⟨it,h1,h2.less hD⟩⟩
theorem ZC (f:Nat→List Nat) {a:Nat} (h:a<8):qE (kN f 8) ((a:Int)+1 - 1)=some (V.str (jJ (f a))):=by
 rw [show (a:Int)+1 - 1=(a:Int) by omega]
 exact qW (Q8 f h)
theorem CS (nm:Str):RC.good ⟨nm,0,7,1,9,-1⟩ 0:=⟨(by decide:(0:Int)≤0),(by decide:(0:Int)≤7),(by decide:(7:Int)≤999999999999),(by decide:(1:Int)≤1),(by decide:(1:Int)≤9),(by decide:(0:Int)≤9),(by decide:(9:Int)≤999999999999),(by decide:(-1:Int)≤-1),(by decide:(-1:Int)<((0:Nat):Int))⟩
theorem uR (f:Nat→List Nat):qE (kN f 8) (0:Int)=some (V.str (jJ (f 0))):=qW (j:=0) (Q8 f (by decide))
theorem uF {n:Nat} (h:n≤63):Builtin.Range.small 2 (n:Int) 3=true:=by
 have key:∀m:Nat,m<64→Builtin.Range.small 2 (m:Int) 3=true:=by decide +kernel
 exact key n (by omega)
def AllAt {α:Type} (P:V→α→Prop) (vs:List V) (xs:List α):Prop:=vs.length=xs.length∧∀(i:Nat) (v:V),vs[i]?=some v→∃x,xs[i]?=some x∧P v x
theorem AllAt.nil {α:Type} {P:V→α→Prop}:AllAt P [] ([]:List α):=⟨rfl,fun i v h=>by cases h⟩
theorem AllAt.mono {α:Type} {P P':V→α→Prop} {vs:List V} {xs:List α} (m:∀v x,P v x→P' v x) (h:AllAt P vs xs):AllAt P' vs xs:=⟨h.1,fun i v hv=>by obtain ⟨x,h1,h2⟩:=h.2 i v hv;exact ⟨x,h1,m v x h2⟩⟩
theorem AllAt.snoc {α:Type} {P:V→α→Prop} {vs:List V} {xs:List α} {v:V} {x:α} (h:AllAt P vs xs) (hv:P v x):AllAt P (vs++[v]) (xs++[x]):=by
 refine ⟨by rw [List.length_append,List.length_append,h.1];rfl,fun i w hw=>?_⟩
 by_cases hl:i<vs.length
 ·rw [List.getElem?_append_left hl] at hw
  rw [List.getElem?_append_left (by rw [← h.1];exact hl)]
  exact h.2 i w hw
 ·rw [List.getElem?_append_right (by omega)] at hw
  have e:i=vs.length:=by
   by_cases z:i - vs.length=0
   ·omega
   ·rw [List.getElem?_eq_none (by show 1≤i - vs.length;omega)] at hw;cases hw
  rw [e,Nat.sub_self] at hw
  cases hw
  refine ⟨x,?_,hv⟩
  rw [e,h.1,List.getElem?_append_right (Nat.le_refl _),Nat.sub_self]
  rfl
theorem AllAt.put {α:Type} {P:V→α→Prop} {vs:List V} {xs:List α} {v:V} {x:α} (h:AllAt P vs xs) (k:Nat) (hv:P v x):AllAt P (vs.set k v) (xs.set k x):=by
 refine ⟨by rw [List.length_set,List.length_set,h.1],fun i w hw=>?_⟩
 rw [List.getElem?_set] at hw ⊢
 by_cases e:k=i
 ·rw [if_pos e] at hw ⊢
  rw [← h.1]
  split at hw
  ·cases hw
   rename_i hl
   exact ⟨x,if_pos hl,hv⟩
  ·cases hw
 ·rw [if_neg e] at hw ⊢
  exact h.2 i w hw
theorem AllAt.get {α:Type} {P:V→α→Prop} {vs:List V} {xs:List α} (h:AllAt P vs xs) {i:Nat} {x:α} (hx:xs[i]?=some x):∃v,vs[i]?=some v∧P v x:=by
 have hi:i<vs.length:=by rw [h.1];exact (List.getElem?_eq_some_iff.mp hx).1
 obtain ⟨y,h1,h2⟩:=h.2 i _ (List.getElem?_eq_getElem hi)
 rw [hx] at h1
 cases h1
 exact ⟨_,List.getElem?_eq_getElem hi,h2⟩
def RAt (H:Hp) (v:V) (r:RC):Prop:=∃t,v=.ref t∧H t=some (.tup (v5 r))
def LAt (H:Hp) (v:V) (l:LC):Prop:=∃t,v=.ref t∧H t=some (.tup (dG l))
def QAt (H:Hp) (v:V) (p:Int×Int):Prop:=∃t,v=.ref t∧H t=some (.tup [.int p.1,.int p.2])
def NAt (D:List Addr) (H:Hp) (v:V) (ps:List (Int×Int)):Prop:=∃(l:Addr) (qs:List V),v=.ref l∧H l=some (.lst qs)∧AllAt (QAt H) qs ps∧l∉D
theorem RAt.same {H H':Hp} (e:Same H H') (v:V) (r:RC):RAt H v r→RAt H' v r:=fun ⟨t,h1,h2⟩=>⟨t,h1,e _ _ h2⟩
theorem LAt.same {H H':Hp} (e:Same H H') (v:V) (r:LC):LAt H v r→LAt H' v r:=fun ⟨t,h1,h2⟩=>⟨t,h1,e _ _ h2⟩
theorem QAt.same {H H':Hp} (e:Same H H') (v:V) (r:Int×Int):QAt H v r→QAt H' v r:=fun ⟨t,h1,h2⟩=>⟨t,h1,e _ _ h2⟩
theorem QAt.put {H:Hp} {d:Addr} {ys:List V} {o:HO} (hd:H d=some (.lst ys)) (v:V) (r:Int×Int):QAt H v r→QAt (upd H d o) v r:=fun ⟨t,h1,h2⟩=>⟨t,h1,by rw [jY (fun z=>by rw [z,hd] at h2;cases h2)];exact h2⟩
theorem NAt.same {D:List Addr} {H H':Hp} (e:Same H H') (v:V) (r:List (Int×Int)):NAt D H v r→NAt D H' v r:=fun ⟨l,qs,h1,h2,h3,h4⟩=>⟨l,qs,h1,e _ _ h2,h3.mono (QAt.same e),h4⟩
theorem NAt.put {D:List Addr} {H:Hp} {d:Addr} {ys:List V} {o:HO} (hd:H d=some (.lst ys)) (hD:d∈D) (v:V) (r:List (Int×Int)):NAt D H v r→NAt D (upd H d o) v r:=fun ⟨l,qs,h1,h2,h3,h4⟩=>⟨l,qs,h1,by rw [jY (fun z=>h4 (by rw [z];exact hD))];exact h2,h3.mono (QAt.put hd),h4⟩
theorem NAt.less {D D':List Addr} {H:Hp} (hD:∀d∈D',d∈D) (v:V) (r:List (Int×Int)):NAt D H v r→NAt D' H v r:=fun ⟨l,qs,h1,h2,h3,h4⟩=>⟨l,qs,h1,h2,h3,fun z=>h4 (hD _ z)⟩
def JC:PIt→Option RC
 |.reach r=>some r
 |_=>none
def JD:PIt→Option LC
 |.lock l=>some l
 |_=>none
def qP (n:Nat) (ts:List (Nat×Int×Int)):List (Int×Int):=ts.foldl (fun ps q=>ps.set q.1 (q.2.1,q.2.2)) (List.replicate n (0,0))
theorem Q6 (n:Nat) (ts:List (Nat×Int×Int)):(qP n ts).length=n:=by
 unfold qP
 have key:∀(ts:List (Nat×Int×Int)) (ps:List (Int×Int)),(ts.foldl (fun ps q=>ps.set q.1 (q.2.1,q.2.2)) ps).length=ps.length:=by
  intro ts
  induction ts with
  |nil=>intro ps;rfl
  |cons q r ih=>intro ps;rw [List.foldl_cons,ih,List.length_set]
 rw [key,List.length_replicate]
theorem fY (n:Nat) (ts:List (Nat×Int×Int)) {j:Nat} {q:Nat×Int×Int} (h:ts[j]?=some q):qP n (ts.take (j+1))=(qP n (ts.take j)).set q.1 (q.2.1,q.2.2):=by
 unfold qP
 rw [List.take_add_one,h,List.foldl_append]
 rfl
def v6 (n:Nat):PIt→Option (List (Int×Int))
 |.night ts=>some (qP n ts)
 |_=>none
theorem yZ {α:Type} (f:PIt→Option α) (its:List PIt) {i:Nat} {it:PIt} (h:its[i]?=some it):(its.take (i+1)).filterMap f=(its.take i).filterMap f++(f it).toList:=by
 rw [List.take_add_one,h,List.filterMap_append]
 cases e:f it with
 |none=>simp [e]
 |some x=>simp [e]
def kC (its:List PIt):List RC:=its.filterMap JC
def kJ (its:List PIt):List LC:=its.filterMap JD
def z3 (its:List PIt):List (List (Int×Int)):=its.filterMap (v6 (kC its).length)
theorem fI:¬("lock":Str)="reach":=by decide +kernel
theorem fH:¬("night":Str)="reach":=by decide +kernel
theorem CZ:¬("reach":Str)="lock":=by decide +kernel
theorem fJ:¬("night":Str)="lock":=by decide +kernel
theorem CW:¬("reach":Str)="night":=by decide +kernel
theorem CY:¬("lock":Str)="night":=by decide +kernel
theorem vY {rn gn:Nat→List Nat} {its:List PIt} {a b c:Nat} (h:PlanOk rn gn its a b c):(kC its).length=a∧(kJ its).length=b∧∀ts,.night ts∈its→tripsOk ts a∧ts.length≤8:=by
 induction h with
 |nil=>exact ⟨rfl,rfl,fun ts h=>by cases h⟩
 |reach h ha hn hg ih =>
  refine ⟨by unfold kC;rw [List.filterMap_append,List.length_append];show (kC _).length+1=_;rw [ih.1],by unfold kJ;rw [List.filterMap_append,List.length_append];show (kJ _).length+0=_;rw [ih.2.1];rfl,fun ts hts=>?_⟩
  rcases List.mem_append.mp hts with hts|hts
  ·obtain ⟨h1,h2⟩:=ih.2.2 ts hts;exact ⟨h1.more (by omega),h2⟩
  ·cases List.mem_singleton.mp hts
 |lock h hb hn hg ih =>
  refine ⟨by unfold kC;rw [List.filterMap_append,List.length_append];show (kC _).length+0=_;rw [ih.1];rfl,by unfold kJ;rw [List.filterMap_append,List.length_append];show (kJ _).length+1=_;rw [ih.2.1],fun ts hts=>?_⟩
  rcases List.mem_append.mp hts with hts|hts
  ·exact ih.2.2 ts hts
  ·cases List.mem_singleton.mp hts
 |night h hc ht hl ih =>
  refine ⟨by unfold kC;rw [List.filterMap_append,List.length_append];show (kC _).length+0=_;rw [ih.1];rfl,by unfold kJ;rw [List.filterMap_append,List.length_append];show (kJ _).length+0=_;rw [ih.2.1];rfl,fun ts hts=>?_⟩
  rcases List.mem_append.mp hts with hts|hts
  ·exact ih.2.2 ts hts
  ·cases List.mem_singleton.mp hts;exact ⟨ht,hl⟩
def mS:Sp:=fun vs H Q _=>∃(pl:Addr) (us:List V) (its:List PIt) (rn gn:Nat→List Nat) (a b c:Nat),vs=[.ref pl]∧H pl=some (.lst us)∧PlanAt [pl] H us its∧PlanOk rn gn its a b c∧
 ∀(t rl ll nl:Addr) (rs ls ns:List V) (H':Hp),Same H H'→H' t=some (.tup [.ref rl,.ref ll,.ref nl])→H' rl=some (.lst rs)→H' ll=some (.lst ls)→H' nl=some (.lst ns)→AllAt (RAt H') rs (kC its)→AllAt (LAt H') ls (kJ its)→AllAt (NAt [rl,ll,nl] H') ns (z3 its)→Q (.ref t) H'
theorem DL:¬("pump":Str)="basin":=by decide +kernel
theorem y4 {f:Str} {v:V} {fs:List (Str×V)}:(jL f v fs).lookup f=some v:=by rw [qI,if_pos rfl]
theorem qF {f g:Str} {v:V} {fs:List (Str×V)} (h:¬g=f):(jL f v fs).lookup g=fs.lookup g:=by rw [qI,if_neg h]
def eQ (fs:List (Str×V)) (v_name v_least v_crest v_berths v_water v_target:V):Prop:=fs.lookup ("name":Str)=some v_name∧fs.lookup ("least":Str)=some v_least∧fs.lookup ("crest":Str)=some v_crest∧fs.lookup ("berths":Str)=some v_berths∧fs.lookup ("water":Str)=some v_water∧fs.lookup ("target":Str)=some v_target
theorem tU (v_name v_least v_crest v_berths v_water v_target:V):eQ (jL "target" v_target (jL "water" v_water (jL "berths" v_berths (jL "crest" v_crest (jL "least" v_least (jL "name" v_name [])))))) v_name v_least v_crest v_berths v_water v_target:=by
 refine ⟨?_,?_,?_,?_,?_,?_⟩
 ·rw [qF (f:="target") (g:="name") (by decide +kernel),qF (f:="water") (g:="name") (by decide +kernel),qF (f:="berths") (g:="name") (by decide +kernel),qF (f:="crest") (g:="name") (by decide +kernel),qF (f:="least") (g:="name") (by decide +kernel),y4]
 ·rw [qF (f:="target") (g:="least") (by decide +kernel),qF (f:="water") (g:="least") (by decide +kernel),qF (f:="berths") (g:="least") (by decide +kernel),qF (f:="crest") (g:="least") (by decide +kernel),y4]
 ·rw [qF (f:="target") (g:="crest") (by decide +kernel),qF (f:="water") (g:="crest") (by decide +kernel),qF (f:="berths") (g:="crest") (by decide +kernel),y4]
 ·rw [qF (f:="target") (g:="berths") (by decide +kernel),qF (f:="water") (g:="berths") (by decide +kernel),y4]
 ·rw [qF (f:="target") (g:="water") (by decide +kernel),y4]
 ·rw [y4]
def dS (c:Addr):Sp:=fun vs H Q _=>∃(x dx:Addr) (v_name v_least v_crest v_berths v_water v_target:V),vs=[.ref x,v_name,v_least,v_crest,v_berths,v_water,v_target]∧H x=some (.ins c dx [])∧∀(H':Hp) (fs:List (Str×V)),Keep x H H'→H' x=some (.ins c dx fs)→eQ fs v_name v_least v_crest v_berths v_water v_target→Q .non H'
def RcAt (cR:Addr) (H:Hp) (x:Addr) (r:RC):Prop:=∃(dx:Addr) (fs:List (Str×V)),H x=some (.ins cR dx fs)∧eQ fs (.str r.name) (.int r.least) (.int r.crest) (.int r.berths) (.int r.water) (.int r.target)
theorem RcAt.same {cR:Addr} {H H':Hp} {x:Addr} {r:RC} (e:Same H H') (h:RcAt cR H x r):RcAt cR H' x r:=by
 obtain ⟨dx,fs,h1,h2⟩:=h
 exact ⟨dx,fs,e _ _ h1,h2⟩
theorem rW {X:Cx} (K:W.Frag) (h:X.K=K:=by rfl):CallR X (.type "list") (fun xs H Q=>∃p ys,xs=[.ref p]∧(SqL K H p ys∨SqT K H p ys)∧∀l,H l=none→Q (.ref l) (upd H l (.lst ys))):=by subst h;exact Z8
theorem AF {X:Cx} (K:W.Frag) {e:Expr} {f:Str} {pos:Pos} {ta:TE} (he:PE X e ta) (hb:attributeBase e f X.env (eval e X.env)=eval e X.env) (h:X.K=K:=by rfl):PE X (.Attribute e f pos) (nK K ta f):=by subst h;exact kP he hb
def lQ (fs:List (Str×V)) (r l n:V):Prop:=fs.lookup ("reaches":Str)=some r∧fs.lookup ("locks":Str)=some l∧fs.lookup ("nights":Str)=some n∧∀m:Str,¬m="reaches"→¬m="locks"→¬m="nights"→fs.lookup m=none
theorem tV (r l n:V):lQ (jL "nights" n (jL "locks" l (jL "reaches" r []))) r l n:=by
 refine ⟨?_,?_,?_,fun m h1 h2 h3=>?_⟩
 ·rw [qF (f:="nights") (g:="reaches") (by decide +kernel),qF (f:="locks") (g:="reaches") (by decide +kernel),y4]
 ·rw [qF (f:="nights") (g:="locks") (by decide +kernel),y4]
 ·rw [y4]
 ·rw [qF h3,qF h2,qF h1];rfl
def RcO (cR:Addr) (H:Hp) (v:V) (r:RC):Prop:=∃x,v=.ref x∧RcAt cR H x r
def LkO (cs:Kd→Addr) (H:Hp) (v:V) (l:LC):Prop:=∃x,v=.ref x∧LockAt cs H x l.kd (.str l.name) (.int l.high) (.int l.low) l.room l.extra
theorem RcO.same {cR:Addr} {H H':Hp} (e:Same H H') (v:V) (r:RC):RcO cR H v r→RcO cR H' v r:=fun ⟨x,h1,h2⟩=>⟨x,h1,h2.same e⟩
theorem LkO.same {cs:Kd→Addr} {H H':Hp} (e:Same H H') (v:V) (l:LC):LkO cs H v l→LkO cs H' v l:=fun ⟨x,h1,h2⟩=>⟨x,h1,h2.same e⟩
theorem RcO.keep {cR y:Addr} {ys:List V} {H H':Hp} (k:Keep y H H') (hy:H y=some (.lst ys)) (v:V) (r:RC):RcO cR H v r→RcO cR H' v r:=fun ⟨x,h1,dx,fs,h2,h3⟩=>⟨x,h1,dx,fs,k _ _ (vK h2 hy (fun z=>nomatch z)) h2,h3⟩
theorem LkO.keep {cs:Kd→Addr} {y:Addr} {ys:List V} {H H':Hp} (k:Keep y H H') (hy:H y=some (.lst ys)) (v:V) (l:LC):LkO cs H v l→LkO cs H' v l:=fun ⟨x,h1,dx,h2⟩=>⟨x,h1,dx,k _ _ (vK h2 hy (fun z=>nomatch z)) h2⟩
theorem RcO.keepI {cR y c d:Addr} {H H':Hp} (k:Keep y H H') (hy:H y=some (.ins c d [])) (v:V) (r:RC):RcO cR H v r→RcO cR H' v r:=fun ⟨x,h1,dx,fs,h2,h3⟩=>⟨x,h1,dx,fs,k _ _ (fun z=>by rw [z,hy] at h2;cases h2;cases h3.1) h2,h3⟩
theorem LkO.keepI {cs:Kd→Addr} {y c d:Addr} {H H':Hp} (k:Keep y H H') (hy:H y=some (.ins c d [])) (v:V) (l:LC):LkO cs H v l→LkO cs H' v l:=fun ⟨x,h1,dx,h2⟩=>⟨x,h1,dx,k _ _ (fun z=>by
 rw [z,hy] at h2
 have e:=cG l.kd (.str l.name) (.int l.high) (.int l.low) (.int l.room) (.int l.extra)
 injection h2 with h2;injection h2 with h2 h3 h4
 rw [← h4] at e;cases e) h2⟩
theorem QAt.keep {y:Addr} {H H':Hp} (k:Keep y H H') {o:HO} (hy:H y=some o) (ho:∀xs,o≠.tup xs) (v:V) (p:Int×Int):QAt H v p→QAt H' v p:=fun ⟨t,h1,h2⟩=>⟨t,h1,k _ _ (fun z=>by rw [z,hy] at h2;exact ho _ (Option.some.inj h2)) h2⟩
theorem NAt.keep {D:List Addr} {y:Addr} {ys:List V} {H H':Hp} (k:Keep y H H') (hy:H y=some (.lst ys)) (hD:y∈D) (v:V) (p:List (Int×Int)):NAt D H v p→NAt D H' v p:=fun ⟨l,qs,h1,h2,h3,h4⟩=>⟨l,qs,h1,k _ _ (fun z=>h4 (z▸hD)) h2,h3.mono (QAt.keep k hy (fun _ z=>nomatch z)),h4⟩
def CnAt (cs:Kd→Addr) (cR cN:Addr) (D:List Addr) (H:Hp) (x:Addr) (R:List RC) (L:List LC) (N:List (List (Int×Int))):Prop:=∃(dx rl ll nl:Addr) (fs:List (Str×V)) (rs ls ns:List V),H x=some (.ins cN dx fs)∧lQ fs (.ref rl) (.ref ll) (.ref nl)∧H rl=some (.lst rs)∧H ll=some (.lst ls)∧H nl=some (.lst ns)∧AllAt (RcO cR H) rs R∧AllAt (LkO cs H) ls L∧AllAt (NAt D H) ns N∧rl∉D∧ll∉D∧nl∉D
theorem CnAt.same {cs:Kd→Addr} {cR cN:Addr} {D:List Addr} {H H':Hp} {x:Addr} {R:List RC} {L:List LC} {N:List (List (Int×Int))} (e:Same H H') (h:CnAt cs cR cN D H x R L N):CnAt cs cR cN D H' x R L N:=by
 obtain ⟨dx,rl,ll,nl,fs,rs,ls,ns,h1,h2,h3,h4,h5,h6,h7,h8,h9⟩:=h
 exact ⟨dx,rl,ll,nl,fs,rs,ls,ns,e _ _ h1,h2,e _ _ h3,e _ _ h4,e _ _ h5,h6.mono (RcO.same e),h7.mono (LkO.same e),h8.mono (NAt.same e),h9⟩
theorem CnAt.keep {cs:Kd→Addr} {cR cN:Addr} {D:List Addr} {H H':Hp} {x y:Addr} {ys:List V} {R:List RC} {L:List LC} {N:List (List (Int×Int))} (k:Keep y H H') (hy:H y=some (.lst ys)) (hD:y∈D) (h:CnAt cs cR cN D H x R L N):CnAt cs cR cN D H' x R L N:=by
 obtain ⟨dx,rl,ll,nl,fs,rs,ls,ns,h1,h2,h3,h4,h5,h6,h7,h8,h9,h10,h11⟩:=h
 exact ⟨dx,rl,ll,nl,fs,rs,ls,ns,k _ _ (vK h1 hy (fun z=>nomatch z)) h1,h2,k _ _ (fun z=>h9 (z▸hD)) h3,k _ _ (fun z=>h10 (z▸hD)) h4,k _ _ (fun z=>h11 (z▸hD)) h5,h6.mono (RcO.keep k hy),h7.mono (LkO.keep k hy),h8.mono (NAt.keep k hy hD),h9,h10,h11⟩
def DueAt (D:List Addr) (H:Hp) (t:Addr) (R:List RC) (L:List LC) (N:List (List (Int×Int))):Prop:=∃(rl ll nl:Addr) (rs ls ns:List V),H t=some (.tup [.ref rl,.ref ll,.ref nl])∧H rl=some (.lst rs)∧H ll=some (.lst ls)∧H nl=some (.lst ns)∧AllAt (RAt H) rs R∧AllAt (LAt H) ls L∧AllAt (NAt D H) ns N∧rl∉D∧ll∉D∧nl∉D
theorem DueAt.same {D:List Addr} {H H':Hp} {t:Addr} {R:List RC} {L:List LC} {N:List (List (Int×Int))} (e:Same H H') (h:DueAt D H t R L N):DueAt D H' t R L N:=by
 obtain ⟨rl,ll,nl,rs,ls,ns,h1,h3,h4,h5,h6,h7,h8,h9⟩:=h
 exact ⟨rl,ll,nl,rs,ls,ns,e _ _ h1,e _ _ h3,e _ _ h4,e _ _ h5,h6.mono (RAt.same e),h7.mono (LAt.same e),h8.mono (NAt.same e),h9⟩
theorem DueAt.keep {D:List Addr} {H H':Hp} {t y:Addr} {ys:List V} {R:List RC} {L:List LC} {N:List (List (Int×Int))} (k:Keep y H H') (hy:H y=some (.lst ys)) (hD:y∈D) (h:DueAt D H t R L N):DueAt D H' t R L N:=by
 obtain ⟨rl,ll,nl,rs,ls,ns,h1,h3,h4,h5,h6,h7,h8,h9,h10,h11⟩:=h
 refine ⟨rl,ll,nl,rs,ls,ns,k _ _ (vK h1 hy (fun z=>nomatch z)) h1,k _ _ (fun z=>h9 (z▸hD)) h3,k _ _ (fun z=>h10 (z▸hD)) h4,k _ _ (fun z=>h11 (z▸hD)) h5,h6.mono ?_,h7.mono ?_,h8.mono (NAt.keep k hy hD),h9,h10,h11⟩
 ·rintro v r ⟨a,e1,e2⟩
  exact ⟨a,e1,k _ _ (vK e2 hy (fun z=>nomatch z)) e2⟩
 ·rintro v r ⟨a,e1,e2⟩
  exact ⟨a,e1,k _ _ (vK e2 hy (fun z=>nomatch z)) e2⟩
def CV (H:Hp) (nv:V) (N:List (List (Int×Int))):Prop:=(nv=.non∧N=[])∨∃(nl:Addr) (ns:List V),nv=.ref nl∧H nl=some (.lst ns)∧AllAt (NAt [] H) ns N∧ns.length≤100
def dU (cs:Kd→Addr) (cR cN:Addr):Sp:=fun vs H Q _=>∃(x dx rl ll:Addr) (nv:V) (rs ls:List V) (R:List RC) (L:List LC) (N:List (List (Int×Int))),vs=[.ref x,.ref rl,.ref ll,nv]∧H x=some (.ins cN dx [])∧H rl=some (.lst rs)∧H ll=some (.lst ls)∧AllAt (RcO cR H) rs R∧AllAt (LkO cs H) ls L∧CV H nv N∧
 ∀H',Keep x H H'→(∀D:List Addr,(∀d∈D,H d≠none)→CnAt cs cR cN D H' x R L N)→Q .non H'
theorem dY {rn gn:Nat→List Nat} {its:List PIt} {a b c:Nat} (h:PlanOk rn gn its a b c):(∀i r,(kC its)[i]?=some r→r.good i∧r.name=jJ (rn i)∧i<a)∧(∀i l,(kJ its)[i]?=some l→l.good a∧l.name=jJ (gn i)∧i<b):=by
 induction h with
 |nil=>exact ⟨fun i r h=>(by cases h),fun i r h=>(by cases h)⟩
 |@reach its a b c r0 h ha hn hg ih =>
  have e1:kC (its++[.reach r0])=kC its++[r0]:=by unfold kC;rw [List.filterMap_append];rfl
  have e2:kJ (its++[.reach r0])=kJ its:=by unfold kJ;rw [List.filterMap_append];exact List.append_nil _
  obtain ⟨t1,t2,_⟩:=vY h
  rw [e1,e2]
  refine ⟨fun i r hr=>?_,fun i l hl=>?_⟩
  ·by_cases hi:i<(kC its).length
   ·rw [List.getElem?_append_left hi] at hr
    obtain ⟨h1,h2,h3⟩:=ih.1 i r hr
    exact ⟨h1,h2,by omega⟩
   ·rw [List.getElem?_append_right (by omega)] at hr
    have hz:i - (kC its).length=0:=by
     have:=(List.getElem?_eq_some_iff.mp hr).1
     rw [List.length_singleton] at this
     omega
    rw [hz] at hr
    cases hr
    have e:i=a:=by omega
    rw [e]
    exact ⟨hg,hn,by omega⟩
  ·obtain ⟨⟨g1,g2,g3,g4,g5,g6,g7,g8⟩,h2,h3⟩:=ih.2 i l hl
   exact ⟨⟨g1,by omega,g3,g4,g5,g6,g7,g8⟩,h2,h3⟩
 |@lock its a b c l0 h hb hn hg ih =>
  have e1:kC (its++[.lock l0])=kC its:=by unfold kC;rw [List.filterMap_append];exact List.append_nil _
  have e2:kJ (its++[.lock l0])=kJ its++[l0]:=by unfold kJ;rw [List.filterMap_append];rfl
  obtain ⟨t1,t2,_⟩:=vY h
  rw [e1,e2]
  refine ⟨ih.1,fun i l hl=>?_⟩
  by_cases hi:i<(kJ its).length
  ·rw [List.getElem?_append_left hi] at hl
   obtain ⟨h1,h2,h3⟩:=ih.2 i l hl
   exact ⟨h1,h2,by omega⟩
  ·rw [List.getElem?_append_right (by omega)] at hl
   have hz:i - (kJ its).length=0:=by
    have:=(List.getElem?_eq_some_iff.mp hl).1
    rw [List.length_singleton] at this
    omega
   rw [hz] at hl
   cases hl
   have e:i=b:=by omega
   rw [e]
   exact ⟨hg,hn,by omega⟩
 |@night its a b c ts h hc ht hl ih =>
  have e1:kC (its++[.night ts])=kC its:=by unfold kC;rw [List.filterMap_append];exact List.append_nil _
  have e2:kJ (its++[.night ts])=kJ its:=by unfold kJ;rw [List.filterMap_append];exact List.append_nil _
  rw [e1,e2]
  exact ih
theorem tE {rn gn:Nat→List Nat} {its:List PIt} {a b c:Nat} (h:PlanOk rn gn its a b c) (n:Nat):(its.filterMap (v6 n)).length=c:=by
 induction h with
 |nil=>rfl
 |reach h ha hn hg ih=>rw [List.filterMap_append,List.length_append,ih];rfl
 |lock h hb hn hg ih=>rw [List.filterMap_append,List.length_append,ih];rfl
 |night h hc ht hl ih=>rw [List.filterMap_append,List.length_append,ih];rfl
structure Drawn (R:List RC) (L:List LC) (N:List (List (Int×Int))):Prop where
 r8:R.length≤8
 r1:1≤R.length
 l8:L.length≤8
 n6:N.length≤6
 good:∀(i:Nat) (r:RC),R[i]?=some r→r.good i
 lock:∀(i:Nat) (l:LC),L[i]?=some l→l.good R.length
 night:∀p∈N,p.length=R.length
theorem sX {rn gn:Nat→List Nat} {its:List PIt} {a b c:Nat} (h:PlanOk rn gn its a b c) (ha:1≤a):Drawn (kC its) (kJ its) (z3 its):=by
 obtain ⟨t1,t2,t3⟩:=vY h
 obtain ⟨b1,b2,b3,_⟩:=h.bounds
 obtain ⟨f1,f2⟩:=dY h
 refine ⟨by omega,by omega,by omega,by unfold z3;rw [tE h];exact b3,fun i r hr=>(f1 i r hr).1,fun i l hl=>by rw [t1];exact (f2 i l hl).1,fun p hp=>?_⟩
 unfold z3 at hp
 obtain ⟨it,hit,e⟩:=List.mem_filterMap.mp hp
 cases it with
 |reach r=>cases e
 |lock l=>cases e
 |night ts=>cases e;rw [Q6]
theorem AL {H:Hp} {x dx:Addr} {o o':HO} (nx:H x=none) (ndx:H dx=none):Same H (upd (upd H dx o) x o'):=fun b u e=>by rw [jY (j8 e nx),jY (j8 e ndx)];exact e
theorem xE {H H1 H2:Hp} {x:Addr} (nx:H x=none) (u:Same H H1) (k:Keep x H1 H2):Same H H2:=fun b o e=>k b o (j8 e nx) (u b o e)
def bI (K:W.Frag):Sp:=fun vs H Q _=>∃(f d:Addr) (ms:List Int),vs=[.ref f,.ref d]∧Ints K H f ms∧Ints K H d ms∧ms.length≤1000∧Q (.bl true) H
def nU:Kd→Bool
 |.basin=>true
 |_=>false
def nR:Kd→Bool
 |.pump=>true
 |_=>false
theorem CU (kd:Kd):decide (V.str (vU kd)=V.str "basin")=nU kd:=by
 cases kd
 ·exact decide_eq_false fun h=>absurd (V.str.inj h) (by decide +kernel)
 ·exact decide_eq_true rfl
 ·exact decide_eq_false fun h=>absurd (V.str.inj h) (by decide +kernel)
theorem CC (kd:Kd):decide (V.str (vU kd)=V.str "pump")=nR kd:=by
 cases kd
 ·exact decide_eq_false fun h=>absurd (V.str.inj h) (by decide +kernel)
 ·exact decide_eq_false fun h=>absurd (V.str.inj h) (by decide +kernel)
 ·exact decide_eq_true rfl
def gW (cR:Addr):Sp:=fun vs H Q _=>∃(y t:Addr) (r:RC),vs=[.ref y,.ref t]∧RcAt cR H y r∧H t=some (.tup (v5 r))∧∀H',Same H H'→Q (.bl true) H'
def iY (cs:Kd→Addr):Sp:=fun vs H Q _=>∃(y t:Addr) (l:LC),vs=[.ref y,.ref t]∧LockAt cs H y l.kd (.str l.name) (.int l.high) (.int l.low) l.room l.extra∧(l.kd=.plain→l.extra=0)∧H t=some (.tup (dG l))∧∀H',Same H H'→Q (.bl true) H'
def gX:Sp:=fun vs H Q _=>∃(y t:Addr) (D D':List Addr) (p:List (Int×Int)),vs=[.ref y,.ref t]∧NAt D H (.ref y) p∧NAt D' H (.ref t) p∧p.length≤100∧∀H',Same H H'→Q (.bl true) H'
def gZ (cs:Kd→Addr) (cR cN:Addr):Sp:=fun vs H Q _=>∃(x t:Addr) (D D':List Addr) (R:List RC) (L:List LC) (N:List (List (Int×Int))),vs=[.ref x,.ref t]∧CnAt cs cR cN D H x R L N∧DueAt D' H t R L N∧R.length≤100∧L.length≤100∧N.length≤100∧(∀l∈L,l.kd=.plain→l.extra=0)∧(∀p∈N,p.length≤100)∧∀H',Same H H'→Q (.bl true) H'
def kF (n:Int):Str:=Str.ofString (toString n)
theorem vX {n:Int} (h0:0≤n) (h1:n≤9999999999999):n.natAbs.log2<1920∧(kF n).length≤14:=by
 have hn:n.natAbs<10 ^ 13:=by
  have:((10 ^ 13:Nat):Int)=10000000000000:=by decide +kernel
  omega
 refine ⟨?_,?_⟩
 ·by_cases hz:n.natAbs=0
  ·rw [hz];decide +kernel
  ·exact (Nat.log2_lt hz).2 (Nat.lt_of_lt_of_le hn (by decide +kernel))
 ·unfold kF
  rw [PySem.ofString_length]
  exact PySem.int_text_length_le10 (k:=13) (by decide) hn
def yS (rn:Nat→List Nat) (z:Int):Str:=if 0≤z then jJ (rn z.toNat) else "sea"
def dC:Kd→Int→List Str
 |.plain,_=>[]
 |.basin,x=>["basin",kF x]
 |.pump,x=>["pump",kF x]
theorem bW {kd:Kd} (h:kd≠.plain) (x:Int):dC kd x=[vU kd,kF x]:=by
 cases kd
 ·exact absurd rfl h
 ·rfl
 ·rfl
def kI (rn:Nat→List Nat):PIt→List Str
 |.reach r=>["reach",r.name,kF r.least,kF r.crest,kF r.berths,kF r.water,yS rn r.target]
 |.lock l=>(["lock",l.name,jJ (rn l.high.toNat),jJ (rn l.low.toNat),kF l.room]:List Str)++dC l.kd l.extra
 |.night ts=>"night"::ts.flatMap fun q=>[jJ (rn q.1),kF q.2.1,kF q.2.2]
theorem bK (rn:Nat→List Nat) (l:LC):kI rn (.lock l)=(["lock",l.name,jJ (rn l.high.toNat),jJ (rn l.low.toNat),kF l.room]:List Str)++dC l.kd l.extra:=rfl
def yT (it:PIt) (n:Nat):Prop:=n≤8∧match it with
 |.reach r=>r.good n∧r.name.length≤12
 |.lock l=>l.good n∧l.name.length≤12
 |.night ts=>tripsOk ts n∧ts.length≤8
def blankS:Str:=⟨#[32]⟩
theorem xT:(" ":Str)=blankS:=by decide +kernel
def vL (rn:Nat→List Nat) (it:PIt):Str:=Str.join blankS (kI rn it)
def mR:Sp:=fun vs H Q _=>∃(t nl:Addr) (it:PIt) (rn:Nat→List Nat) (n:Nat),vs=[.ref t,.ref nl]∧ItAt [] H (.ref t) it∧H nl=some (.lst (kN rn 8))∧(∀k,k<8→(rn k).length≤12)∧yT it n∧∀H',Same H H'→Q (.str (vL rn it)) H'
theorem eD (f:Nat→List Nat) {z:Int} (h0:0≤z) (h:z<8):qE (kN f 8) z=some (V.str (jJ (f z.toNat))):=by
 have e:((z.toNat:Nat):Int)=z:=by omega
 have:=qW (Q8 f (show z.toNat<8 by omega))
 rwa [e] at this
theorem ZM {B:Nat}:∀(zs:List Str),(∀z∈zs,z.length≤B)→z4 zs≤zs.length*B
 |[],_=>Nat.zero_le _
 |z::r,h=>by
  have h1:=ZM r (fun y hy=>h y (List.mem_cons_of_mem _ hy))
  have h2:=h z List.mem_cons_self
  show z.length+z4 r≤(r.length+1)*B
  rw [Nat.add_mul]
  omega
theorem AQ:("sea":Str).length=3:=by decide +kernel
theorem iE:("reach":Str).length=5:=by decide +kernel
theorem lI:("lock":Str).length=4:=by decide +kernel
theorem iF:("night":Str).length=5:=by decide +kernel
theorem AS (kd:Kd):(vU kd).length≤14:=by cases kd<;>decide +kernel
theorem xW {rn:Nat→List Nat} (hrn:∀k,k<8→(rn k).length≤12) {z:Int} (h:z<8):(yS rn z).length≤14:=by
 unfold yS
 split
 ·rw [vZ];have:=hrn z.toNat (by omega);omega
 ·rw [AQ];omega
theorem eJ {rn:Nat→List Nat} (hrn:∀k,k<8→(rn k).length≤12) {it:PIt} {n:Nat} (h:yT it n):(kI rn it).length≤25∧∀z∈kI rn it,z.length≤14:=by
 obtain ⟨hn,h⟩:=h
 cases it with
 |reach r =>
  obtain ⟨⟨g1,g2,g3,g4,g5,g6,g7,g8,g9⟩,hl⟩:=h
  refine ⟨by show 7≤25;decide,?_⟩
  intro z hz
  simp only [kI,List.mem_cons,List.mem_nil_iff,or_false] at hz
  rcases hz with rfl|rfl|rfl|rfl|rfl|rfl|rfl
  ·rw [iE];decide
  ·omega
  ·exact (vX (by omega) (by omega)).2
  ·exact (vX (by omega) (by omega)).2
  ·exact (vX (by omega) (by omega)).2
  ·exact (vX (by omega) (by omega)).2
  ·exact xW hrn (by omega)
 |lock l =>
  obtain ⟨⟨g1,g2,g3,g4,g5,g6,g7,g8⟩,hl⟩:=h
  have hx:(0:Int)≤l.extra∧l.extra≤999999999999:=by
   by_cases hk:l.kd=.plain
   ·rw [g7 hk];omega
   ·have:=g8 hk;omega
  refine ⟨by unfold kI;rw [List.length_append];cases l.kd;(show 5+0≤25;decide);(show 5+2≤25;decide);(show 5+2≤25;decide),?_⟩
  intro z hz
  unfold kI at hz
  rcases List.mem_append.mp hz with hz|hz
  ·simp only [List.mem_cons,List.mem_nil_iff,or_false] at hz
   rcases hz with rfl|rfl|rfl|rfl|rfl
   ·rw [lI];decide
   ·omega
   ·rw [vZ];have:=hrn l.high.toNat (by omega);omega
   ·rw [vZ];have:=hrn l.low.toNat (by omega);omega
   ·exact (vX (by omega) (by omega)).2
  ·by_cases hk:l.kd=.plain
   ·rw [hk] at hz;cases hz
   ·rw [bW hk] at hz
    simp only [List.mem_cons,List.mem_nil_iff,or_false] at hz
    rcases hz with rfl|rfl
    ·exact AS _
    ·exact (vX (by omega) (by omega)).2
 |night ts =>
  obtain ⟨⟨_,h2⟩,hl⟩:=h
  have hf:∀ts:List (Nat×Int×Int),(ts.flatMap fun q=>[jJ (rn q.1),kF q.2.1,kF q.2.2]).length=3*ts.length:=by
   intro ts
   induction ts with
   |nil=>rfl
   |cons q r ih=>rw [List.flatMap_cons,List.length_append,ih];show 3+3*r.length=3*(r.length+1);omega
  refine ⟨by show (ts.flatMap _).length+1≤25;rw [hf];omega,?_⟩
  intro z hz
  rcases List.mem_cons.mp hz with rfl|hz
  ·rw [iF];decide
  ·obtain ⟨q,hq,hz⟩:=List.mem_flatMap.mp hz
   obtain ⟨k1,k2,k3,k4,k5⟩:=h2 q hq
   simp only [List.mem_cons,List.mem_nil_iff,or_false] at hz
   rcases hz with rfl|rfl|rfl
   ·rw [vZ];have:=hrn q.1 (by omega);omega
   ·exact (vX (by omega) (by omega)).2
   ·exact (vX (by omega) (by omega)).2
theorem sV {rn:Nat→List Nat} (hrn:∀k,k<8→(rn k).length≤12) {it:PIt} {n:Nat} (h:yT it n):z4 (kI rn it)+(kI rn it).length≤1048576:=by
 obtain ⟨h1,h2⟩:=eJ hrn h
 have h3:=ZM (kI rn it) h2
 have h4:(kI rn it).length*14≤25*14:=Nat.mul_le_mul_right _ h1
 omega
theorem wD (rn:Nat→List Nat) (ts:List (Nat×Int×Int)) {j:Nat} {q:Nat×Int×Int} (h:ts[j]?=some q):kI rn (.night (ts.take (j+1)))=kI rn (.night (ts.take j))++[jJ (rn q.1),kF q.2.1,kF q.2.2]:=by
 rw [List.take_add_one,h]
 show ("night":Str)::(ts.take j++[q]).flatMap (fun q=>([jJ (rn q.1),kF q.2.1,kF q.2.2]:List Str))=(("night":Str)::(ts.take j).flatMap (fun q=>([jJ (rn q.1),kF q.2.1,kF q.2.2]:List Str)))++[jJ (rn q.1),kF q.2.1,kF q.2.2]
 rw [List.flatMap_append,List.cons_append]
 rfl
def feedS:Str:=⟨#[10]⟩
theorem AX:("\n":Str)=feedS:=by decide +kernel
theorem tK (c:Nat) (x:Str) (r:List Str):∃z:Str,Str.join ⟨#[c]⟩ (x::r)=x++z:=by
 cases r with
 |nil=>exact ⟨⟨#[]⟩,by show x=⟨x.cps++#[]⟩;rw [Array.append_empty]⟩
 |cons y r =>
  refine ⟨(⟨#[c]⟩:Str)++Str.join ⟨#[c]⟩ (y::r),?_⟩
  show (x++(⟨#[c]⟩:Str))++Str.join ⟨#[c]⟩ (y::r)=x++((⟨#[c]⟩:Str)++Str.join ⟨#[c]⟩ (y::r))
  show (⟨(x.cps++#[c])++(Str.join ⟨#[c]⟩ (y::r)).cps⟩:Str)=⟨x.cps++(#[c]++(Str.join ⟨#[c]⟩ (y::r)).cps)⟩
  rw [Array.append_assoc]
theorem BH (rn:Nat→List Nat) (it:PIt):0<(vL rn it).length:=by
 have key:∀(x:Str) (r:List Str),0<x.length→0<(Str.join blankS (x::r)).length:=by
  intro x r h
  obtain ⟨z,hz⟩:=tK 32 x r
  show 0<(Str.join ⟨#[32]⟩ (x::r)).length
  rw [hz,Str.length_append]
  omega
 cases it with
 |reach r=>exact key _ _ (by rw [iE];decide)
 |lock l=>exact key _ _ (by rw [lI];decide)
 |night ts=>exact key _ _ (by rw [iF];decide)
theorem e9 {rn:Nat→List Nat} (hrn:∀k,k<8→(rn k).length≤12) {it:PIt} {n:Nat} (h:yT it n):(vL rn it).length≤400:=by
 obtain ⟨h1,h2⟩:=eJ hrn h
 have h3:=ZM (kI rn it) h2
 have h4:(kI rn it).length*14≤25*14:=Nat.mul_le_mul_right _ h1
 have h5:=StrLaws.join_length_le blankS (kI rn it)
 have h6:(kI rn it).length*blankS.length≤25*1:=Nat.mul_le_mul h1 (Nat.le_refl 1)
 have h7:((kI rn it).map (·.length)).sum=z4 (kI rn it):=rfl
 unfold vL
 omega
def z8 (z:Str):Bool := !decide (z="")
theorem xN (rn:Nat→List Nat) (it:PIt):z8 (vL rn it)=true:=by
 unfold z8
 rw [decide_eq_false]
 ·rfl
 ·intro h
  have:=BH rn it
  rw [h] at this
  exact absurd this (by decide +kernel)
theorem lK:z8 ""=false:=by unfold z8;rw [decide_eq_true rfl];rfl
def RowsOk (rn:Nat→List Nat) (rows:List Str) (its:List PIt):Prop:=rows.filter z8=its.map (vL rn)∧∀z∈rows,z=""∨∃it∈its,z=vL rn it
theorem RowsOk.emp {rn:Nat→List Nat} {rows:List Str} {its:List PIt} (h:RowsOk rn rows its):RowsOk rn (rows++[("":Str)]) its:=by
 refine ⟨by rw [List.filter_append,h.1,List.filter_cons,if_neg (by rw [lK];decide)];simp,fun z hz=>?_⟩
 rcases List.mem_append.mp hz with hz|hz
 ·exact h.2 z hz
 ·exact .inl (List.mem_singleton.mp hz)
theorem RowsOk.row {rn:Nat→List Nat} {rows:List Str} {its:List PIt} (h:RowsOk rn rows its) (it:PIt):RowsOk rn (rows++[vL rn it]) (its++[it]):=by
 refine ⟨by rw [List.filter_append,h.1,List.filter_cons,if_pos (xN rn it),List.map_append];rfl,fun z hz=>?_⟩
 rcases List.mem_append.mp hz with hz|hz
 ·rcases h.2 z hz with h|⟨i,hi,e⟩
  ·exact .inl h
  ·exact .inr ⟨i,List.mem_append_left _ hi,e⟩
 ·exact .inr ⟨it,List.mem_append_right _ List.mem_cons_self,List.mem_singleton.mp hz⟩
theorem mB {rn gn:Nat→List Nat} (hr:∀k,k<8→(rn k).length≤12) (hg:∀k,k<8→(gn k).length≤12) {its:List PIt} {a b c:Nat} (h:PlanOk rn gn its a b c):∀it∈its,∃n,yT it n:=by
 induction h with
 |nil=>intro it h;cases h
 |reach h ha hn hgd ih =>
  intro it hit
  rcases List.mem_append.mp hit with hit|hit
  ·exact ih it hit
  ·cases List.mem_singleton.mp hit;exact ⟨_,by have:=h.bounds;omega,hgd,by rw [hn,vZ];exact hr _ ha⟩
 |lock h hb hn hgd ih =>
  intro it hit
  rcases List.mem_append.mp hit with hit|hit
  ·exact ih it hit
  ·cases List.mem_singleton.mp hit;exact ⟨_,by have:=h.bounds;omega,hgd,by rw [hn,vZ];exact hg _ hb⟩
 |night h hc ht hl ih =>
  intro it hit
  rcases List.mem_append.mp hit with hit|hit
  ·exact ih it hit
  ·cases List.mem_singleton.mp hit;exact ⟨_,by have:=h.bounds;omega,ht,hl⟩
def lV:Sp:=fun vs H Q _=>∃(pl nl:Addr) (cell:Int) (us:List V) (its:List PIt) (rn gn:Nat→List Nat) (a b c:Nat),vs=[.ref pl,.ref nl,.int cell]∧H pl=some (.lst us)∧PlanAt [] H us its∧PlanOk rn gn its a b c∧H nl=some (.lst (kN rn 8))∧(∀k,k<8→(rn k).length≤12)∧(∀k,k<8→(gn k).length≤12)∧
 ∀(rows:List Str) (H':Hp),RowsOk rn rows its→rows.length≤46→Same H H'→Q (.str (Str.join feedS rows)) H'
theorem gB {rn:Nat→List Nat} {rows:List Str} {its:List PIt} (hrn:∀k,k<8→(rn k).length≤12) (h:RowsOk rn rows its) (hl:rows.length≤46) (hi:∀it∈its,∃n,yT it n):z4 rows+rows.length≤1048576:=by
 have h3:=ZM (B:=400) rows (fun z hz=>by
  rcases h.2 z hz with rfl|⟨it,hit,rfl⟩
  ·exact Nat.le_trans (show ("":Str).length≤0 by decide +kernel) (by decide)
  ·obtain ⟨n,hn⟩:=hi it hit;exact e9 hrn hn)
 have h4:rows.length*400≤46*400:=Nat.mul_le_mul_right _ hl
 omega
def v2 (z:Str):Prop:=∀c∈z.cps.toList,48≤c
def ZW:PIt→Prop
 |.reach r=>v2 r.name
 |.lock l=>v2 l.name
 |.night _=>True
theorem QN {l:List Nat} (h:∀c∈l,97≤c∧c≤122):v2 (jJ l):=fun c hc=>by have:=h c hc;omega
theorem zF {n:Int} (h:0≤n):v2 (kF n):=fun c hc=>by
 unfold kF at hc
 rw [mD h] at hc
 exact (lD _ c hc).1
theorem ZE {z:Str} (h:(z.cps.toList.all fun c=>decide (48≤c))=true):v2 z:=fun c hc=>of_decide_eq_true (List.all_eq_true.mp h c hc)
theorem tM:v2 "reach":=ZE (by decide +kernel)
theorem uW:v2 "lock":=ZE (by decide +kernel)
theorem tN:v2 "night":=ZE (by decide +kernel)
theorem xJ:v2 "sea":=ZE (by decide +kernel)
theorem AT (kd:Kd):v2 (vU kd):=by cases kd<;>exact ZE (by decide +kernel)
theorem iA {rn:Nat→List Nat} (hrn:∀k,k<8→∀c∈rn k,97≤c∧c≤122) {it:PIt} {n:Nat} (h:yT it n) (hl:ZW it):∀z∈kI rn it,v2 z:=by
 obtain ⟨hn,h⟩:=h
 cases it with
 |reach r =>
  obtain ⟨⟨g1,g2,g3,g4,g5,g6,g7,g8,g9⟩,_⟩:=h
  intro z hz
  simp only [kI,List.mem_cons,List.mem_nil_iff,or_false] at hz
  rcases hz with rfl|rfl|rfl|rfl|rfl|rfl|rfl
  ·exact tM
  ·exact hl
  ·exact zF (by omega)
  ·exact zF (by omega)
  ·exact zF (by omega)
  ·exact zF (by omega)
  ·unfold yS
   split
   ·exact QN (hrn _ (by omega))
   ·exact xJ
 |lock l =>
  obtain ⟨⟨g1,g2,g3,g4,g5,g6,g7,g8⟩,_⟩:=h
  intro z hz
  rw [bK] at hz
  rcases List.mem_append.mp hz with hz|hz
  ·simp only [List.mem_cons,List.mem_nil_iff,or_false] at hz
   rcases hz with rfl|rfl|rfl|rfl|rfl
   ·exact uW
   ·exact hl
   ·exact QN (hrn _ (by omega))
   ·exact QN (hrn _ (by omega))
   ·exact zF (by omega)
  ·by_cases hk:l.kd=.plain
   ·rw [hk] at hz;cases hz
   ·have hx:=g8 hk
    rw [bW hk] at hz
    simp only [List.mem_cons,List.mem_nil_iff,or_false] at hz
    rcases hz with rfl|rfl
    ·exact AT _
    ·exact zF (by omega)
 |night ts =>
  obtain ⟨⟨_,h2⟩,_⟩:=h
  intro z hz
  rcases List.mem_cons.mp hz with rfl|hz
  ·exact tN
  ·obtain ⟨q,hq,hz⟩:=List.mem_flatMap.mp hz
   obtain ⟨k1,k2,k3,k4,k5⟩:=h2 q hq
   simp only [List.mem_cons,List.mem_nil_iff,or_false] at hz
   rcases hz with rfl|rfl|rfl
   ·exact QN (hrn _ (by omega))
   ·exact zF k2
   ·exact zF k4
theorem AA (rn:Nat→List Nat) (it:PIt):kI rn it≠[]:=by
 cases it with
 |reach r=>exact List.cons_ne_nil _ _
 |lock l=>rw [bK];simp
 |night ts=>exact List.cons_ne_nil _ _
theorem uE {rn:Nat→List Nat} (hrn:∀k,k<8→∀c∈rn k,97≤c∧c≤122) {it:PIt} {n:Nat} (h:yT it n) (hl:ZW it):Txt.split (vL rn it) blankS=kI rn it :=
 gJ 32 (AA rn it) fun p hp hc=>by have:=iA hrn h hl p hp 32 hc;omega
theorem iG {c x:Nat}:∀{ps:List (List Nat)},x∈zI c ps→x=c∨∃p∈ps,x∈p
 |[],h=>by cases h
 |[p],h=>.inr ⟨p,List.mem_cons_self,h⟩
 |p::q::r,h=>by
  rcases List.mem_append.mp h with h|h
  ·exact .inr ⟨p,List.mem_cons_self,h⟩
  ·rcases List.mem_cons.mp h with h|h
   ·exact .inl h
   ·rcases iG h with h|⟨p',hp,hx⟩
    ·exact .inl h
    ·exact .inr ⟨p',List.mem_cons_of_mem _ hp,hx⟩
theorem wV {rn:Nat→List Nat} (hrn:∀k,k<8→∀c∈rn k,97≤c∧c≤122) {it:PIt} {n:Nat} (h:yT it n) (hl:ZW it):10∉(vL rn it).cps.toList:=by
 intro hc
 unfold vL blankS at hc
 rw [bV] at hc
 rcases iG hc with hc|⟨p,hp,hx⟩
 ·omega
 ·obtain ⟨z,hz,rfl⟩:=List.mem_map.mp hp
  have:=iA hrn h hl z hz 10 hx
  omega
theorem sS {rn:Nat→List Nat} (hrn:∀k,k<8→∀c∈rn k,97≤c∧c≤122) {rows:List Str} {its:List PIt} (h:RowsOk rn rows its) (hne:its≠[]) (hi:∀it∈its,∃n,yT it n) (hl:∀it∈its,ZW it):Txt.split (Str.join feedS rows) feedS=rows:=by
 refine gJ 10 (fun e=>?_) fun p hp hc=>?_
 ·have:=h.1
  rw [e] at this
  exact hne (List.map_eq_nil_iff.mp this.symm)
 ·rcases h.2 p hp with rfl|⟨it,hit,rfl⟩
  ·exact absurd hc (by decide +kernel)
  ·obtain ⟨n,hn⟩:=hi it hit
   exact wV hrn hn (hl it hit) hc
theorem wZ {rn gn:Nat→List Nat} (hr:∀k,k<8→∀c∈rn k,97≤c∧c≤122) (hg:∀k,k<8→∀c∈gn k,97≤c∧c≤122) {its:List PIt} {a b c:Nat} (h:PlanOk rn gn its a b c):∀it∈its,ZW it:=by
 induction h with
 |nil=>intro it h;cases h
 |reach h ha hn hgd ih =>
  intro it hit
  rcases List.mem_append.mp hit with hit|hit
  ·exact ih it hit
  ·cases List.mem_singleton.mp hit;show v2 _;rw [hn];exact QN (hr _ ha)
 |lock h hb hn hgd ih =>
  intro it hit
  rcases List.mem_append.mp hit with hit|hit
  ·exact ih it hit
  ·cases List.mem_singleton.mp hit;show v2 _;rw [hn];exact QN (hg _ hb)
 |night h hc ht hl ih =>
  intro it hit
  rcases List.mem_append.mp hit with hit|hit
  ·exact ih it hit
  ·cases List.mem_singleton.mp hit;trivial
def Named (K:W.Frag) (H:Hp) (v:V) (nm:Str):Prop:=∃(x C dx:Addr) (fs:List (Str×V)),v=.ref x∧H x=some (.ins C dx fs)∧Cls K C∧NoAttr K C "name"∧fs.lookup ("name":Str)=some (.str nm)
theorem Named.same {K:W.Frag} {H H':Hp} (e:Same H H') (v:V) (nm:Str):Named K H v nm→Named K H' v nm:=fun ⟨x,C,dx,fs,h1,h2,h3⟩=>⟨x,C,dx,fs,h1,e _ _ h2,h3⟩
def FirstAt (zs:List Str) (nm:Str) (i:Nat):Prop:=zs[i]?=some nm∧∀j:Nat,j<i→zs[j]?≠some nm
def ZL (zs:List Str) (nm:Str):Prop:=∀i:Nat,zs[i]?≠some nm
theorem FirstAt.uniq {zs:List Str} {nm:Str} {i j:Nat} (h:FirstAt zs nm i) (h':FirstAt zs nm j):i=j:=by
 rcases Nat.lt_trichotomy i j with c|c|c
 ·exact absurd h.1 (h'.2 i c)
 ·exact c
 ·exact absurd h'.1 (h.2 j c)
theorem FirstAt.some {zs:List Str} {nm:Str} {i:Nat} (h:FirstAt zs nm i):¬ZL zs nm:=fun z=>z i h.1
def zA:Str:="0123456789"
def QY (S:Str) (c:Nat):Bool := !(Builtin.Str.occurrences S ⟨#[c]⟩ 0 S.length 1).isEmpty
def JB (S w:Str) (i:Nat):Bool:=(w.cps.toList.take i).all (QY S)
theorem wK {S w:Str} {i c:Nat} (h:w.cps[i]?=some c):JB S w (i+1)=(JB S w i&&QY S c):=by
 unfold JB
 rw [List.take_add_one,show w.cps.toList[i]?=some c by rw [Array.getElem?_toList];exact h,List.all_append]
 simp
def qO (S w:Str):Bool:=decide (0<w.length)&&decide (w.length<13)&&JB S w w.cps.size
theorem u0 {S w:Str} (h:qO S w=true):w.length≤12:=by
 unfold qO at h
 rw [Bool.and_eq_true,Bool.and_eq_true] at h
 have:=of_decide_eq_true h.1.2
 omega
theorem lJ {S w:Str} (h0:0<w.length) (h1:w.length<13) (h:∀c∈w.cps.toList,QY S c=true):qO S w=true:=by
 unfold qO JB
 rw [decide_eq_true h0,decide_eq_true h1,List.take_of_length_le (by rw [Array.length_toList];exact Nat.le_refl _),List.all_eq_true.mpr h]
 rfl
def yH (w:Str):Prop:=qO lettersS w=true
theorem iI (c:Nat):QY zA c=(decide (48≤c)&&decide (c≤57)):=B0 c
theorem u9:∀k:Nat,k<26→QY lettersS (97+k)=true:=by decide +kernel
theorem iC {l:List Nat} (h1:1≤l.length) (h2:l.length≤12) (h:∀c∈l,97≤c∧c≤122):yH (jJ l):=by
 refine lJ (by rw [vZ];omega) (by rw [vZ];omega) fun c hc=>?_
 have:=h c hc
 have k:=u9 (c - 97) (by omega)
 rw [show 97+(c - 97)=c by omega] at k
 exact k
theorem xD:yH "sea":=by show qO lettersS "sea"=true;decide +kernel
theorem xU {z:Str} {i:Int} (h0:0≤i) (h1:i<(z.length:Int)):∃c,qE z.cps.toList i=some c∧z.cps[i.toNat]?=some c:=by
 have hl:i.toNat<z.cps.toList.length:=by
  rw [Array.length_toList]
  show i.toNat<z.length
  omega
 have h:=qW (List.getElem?_eq_getElem hl)
 have e:((i.toNat:Nat):Int)=i:=by omega
 rw [e] at h
 exact ⟨_,h,by rw [← Array.getElem?_toList];exact List.getElem?_eq_getElem hl⟩
theorem QM:("0":Str)=⟨#[48]⟩:=by decide +kernel
theorem xR (c:Nat):decide (V.str ⟨#[c]⟩=V.str "0")=decide (c=48):=by
 refine decide_eq_decide.mpr ⟨fun h=>?_,fun h=>by rw [h,QM]⟩
 have h:=V.str.inj h
 rw [QM] at h
 have h:=congrArg (fun z:Str=>z.cps.toList) h
 exact (List.cons.inj h).1
def QT (w:Str):Bool:=decide (w="0")||(qO zA w && !decide (w.cps[0]?=some 48))
def zJ (w:Str):Int:=((PySem.NumText.digitsVal w.cps.toList:Nat):Int)
theorem gE {w:Str} (h:qO zA w=true):0<w.length∧w.length<13∧∀c∈w.cps.toList,48≤c∧c≤57:=by
 unfold qO at h
 rw [Bool.and_eq_true,Bool.and_eq_true] at h
 refine ⟨of_decide_eq_true h.1.1,of_decide_eq_true h.1.2,fun c hc=>?_⟩
 have ha:=h.2
 unfold JB at ha
 rw [List.take_of_length_le (by rw [Array.length_toList];exact Nat.le_refl _),List.all_eq_true] at ha
 have:=ha c hc
 rw [iI,Bool.and_eq_true] at this
 exact ⟨of_decide_eq_true this.1,of_decide_eq_true this.2⟩
theorem uO {w:Str} (hw:w.length≤100) (h:QT w=true):PySem.intText? w=some (zJ w):=by
 unfold QT at h
 rw [Bool.or_eq_true] at h
 rcases h with h|h
 ·rw [of_decide_eq_true h]
  refine PySem.intText_digits ?_ ?_ ?_
  ·rw [QM];intro c hc;cases List.mem_singleton.mp hc;exact ⟨by decide,by decide⟩
  ·rw [QM];exact List.cons_ne_nil _ _
  ·rw [QM];decide
 ·rw [Bool.and_eq_true] at h
  obtain ⟨h1,h2,h3⟩:=gE h.1
  refine PySem.intText_digits h3 ?_ (by omega)
  intro e
  have:w.length=0:=by show w.cps.size=0;rw [← Array.length_toList,e];rfl
  omega
def fG (w:Str):Prop:=w.length≤100∧QT w=true
def y8 (w:Str) (n:Int):Prop:=fG w∧zJ w=n
theorem zG {n:Int} (h0:0≤n) (h1:n≤999999999999):y8 (kF n) n:=by
 have hc:(kF n).cps.toList=vE n.toNat:=mD h0
 have hm:n.toNat<1000000000000:=by omega
 have hl:(kF n).length=(vE n.toNat).length:=by rw [← hc,Array.length_toList];rfl
 have hb:=xB hm
 refine ⟨⟨by rw [hl];omega,?_⟩,?_⟩
 ·unfold QT
  by_cases hz:n.toNat=0
  ·have e:kF n="0":=by
    rw [QM]
    have:(kF n).cps = #[48]:=by rw [← Array.toList_inj,hc,hz,uP]
    cases hq:kF n with
    |mk a=>rw [hq] at this;exact congrArg Str.mk this
   rw [decide_eq_true e];rfl
  ·have hg:qO zA (kF n)=true:=lJ (by rw [hl];omega) (by rw [hl];omega) fun c hx=>by
    rw [hc] at hx
    have:=lD _ c hx
    rw [iI,decide_eq_true this.1,decide_eq_true this.2];rfl
   have hh:=uQ n.toNat (by omega)
   rw [← hc,Array.getElem?_toList] at hh
   rw [hg,decide_eq_false hh]
   simp
 ·unfold zJ
  rw [hc,xA]
  omega
def eY:Sp:=fun vs H Q _=>∃w S:Str,vs=[.str w,.str S]∧w.length≤100∧∀H',Same H H'→Q (.bl (qO S w)) H'
def iZ:Sp:=fun vs H Q _=>∃w:Str,vs=[.str w]∧w.length≤100∧∀H',Same H H'→Q (.bl (qO lettersS w)) H'
def lZ:Sp:=fun vs H Q _=>∃w:Str,vs=[.str w]∧w.length≤100∧∀H',Same H H'→Q (.bl (QT w)) H'
def lX:Sp:=fun vs H Q _=>∃w:Str,vs=[.str w]∧fG w∧∀H',Same H H'→Q (.int (zJ w)) H'
def Z9:Sp:=fun vs H Q _=>∃(l:Addr) (ws:List Str),vs=[.ref l]∧H l=some (.lst (ws.map V.str))∧(∀w∈ws,fG w)∧ws.length≤100∧∀(l':Addr) (H':Hp),Same H H'→H l'=none→H' l'=some (.lst ((ws.map zJ).map V.int))→Q (.ref l') H'
def bJ:Sp:=fun vs H Q _=>∃(l:Addr) (ws:List Str),vs=[.ref l]∧H l=some (.lst (ws.map V.str))∧(∀w∈ws,yH w)∧ws.length≤100∧∀H',Same H H'→Q .non H'
def eZ (K:W.Frag):Sp:=fun vs H Q _=>∃(nm:Str) (l:Addr) (us:List V) (zs:List Str),vs=[.str nm,.ref l]∧H l=some (.lst us)∧AllAt (Named K H) us zs∧us.length≤100∧ZL zs nm∧∀H',Same H H'→Q .non H'
def bH (K:W.Frag):Sp:=fun vs H Q _=>∃(nm:Str) (l:Addr) (us:List V) (zs:List Str) (i:Nat),vs=[.str nm,.ref l]∧H l=some (.lst us)∧AllAt (Named K H) us zs∧us.length≤100∧FirstAt zs nm i∧∀H',Same H H'→Q (.int (i:Int)) H'
def gM (cR:Addr):Sp:=fun vs H Q _=>∃(y:Addr) (r:RC),vs=[.ref y]∧RcAt cR H y r∧r.least≤r.crest∧1≤r.berths∧r.berths≤9∧Q .non H
def g0 (cs:Kd→Addr):Sp:=fun vs H Q _=>∃(y:Addr) (l:LC),vs=[.ref y]∧LockAt cs H y l.kd (.str l.name) (.int l.high) (.int l.low) l.room l.extra∧l.low<l.high∧l.room≠0∧(l.kd≠.plain→1≤l.extra∧l.extra≤l.room)∧Q .non H
def cK:Sp:=fun vs H Q _=>∃(l:Addr) (us:List V) (m:Int),vs=[.ref l,.int m]∧H l=some (.lst us)∧(us.length:Int)<m∧Q .non H
def v3 (n:Nat) (p:List (Int×Int)):List (Int×Int):=p++List.replicate (n - p.length) (0,0)
def d5:Sp:=fun vs H Q _=>∃(l:Addr) (qs:List V) (p:List (Int×Int)) (n:Nat),vs=[.ref l,.int (n:Int)]∧H l=some (.lst qs)∧AllAt (QAt H) qs p∧p.length≤n∧n≤100∧∀(l':Addr) (qs':List V) (H':Hp),Same H H'→H l'=none→H' l'=some (.lst qs')→AllAt (QAt H') qs' (v3 n p)→Q (.ref l') H'
def gL (cs:Kd→Addr):Sp:=fun vs H Q _=>∃(wl nl:Addr) (a nm b c d:Str) (kd:Kd) (hi lo ro ex:Int) (ext:List Str) (ns:List Int),vs=[.ref wl,.int hi,.int lo,.ref nl]∧H wl=some (.lst (([a,nm,b,c,d]++ext).map V.str))∧H nl=some (.lst (ns.map V.int))∧
 ((kd=.plain∧ext=[]∧ns=[ro])∨(∃g,kd≠.plain∧ext=[vU kd,g]∧ns=[ro,ex]))∧∀(x:Addr) (H':Hp),Same H H'→H x=none→LockAt cs H' x kd (.str nm) (.int hi) (.int lo) ro ex→Q (.ref x) H'
theorem bZ {ws:List Str} {i:Nat} {v:V} (h:(ws.map V.str)[i]?=some v):∃w,ws[i]?=some w∧v=.str w:=by
 rw [List.getElem?_map] at h
 cases hw:ws[i]? with
 |none=>rw [hw] at h;cases h
 |some w=>rw [hw] at h;cases h;exact ⟨w,rfl,rfl⟩
theorem t9 (zs:List Str):(zs.map V.str).all qZ=true:=by rw [List.all_map,List.all_eq_true];intro _ _;rfl
theorem AJ {zs:List Str} {nm:Str} (h:ZL zs nm):JF (.str nm) (zs.map V.str)=false:=by
 unfold JF
 rw [List.any_map,Bool.eq_false_iff]
 intro e
 obtain ⟨z,hz,e⟩:=List.any_eq_true.mp e
 obtain ⟨i,hi⟩:=List.mem_iff_getElem?.mp hz
 have e:(z == nm)=true:=e
 rw [eq_of_beq e] at hi
 exact h i hi
theorem AllAt.append {α:Type} {P:V→α→Prop} {vs us:List V} {xs ys:List α} (h:AllAt P vs xs) (h':AllAt P us ys):AllAt P (vs++us) (xs++ys):=by
 refine ⟨by rw [List.length_append,List.length_append,h.1,h'.1],fun i v hv=>?_⟩
 by_cases hl:i<vs.length
 ·rw [List.getElem?_append_left hl] at hv
  rw [List.getElem?_append_left (by rw [← h.1];exact hl)]
  exact h.2 i v hv
 ·rw [List.getElem?_append_right (by omega)] at hv
  rw [List.getElem?_append_right (by rw [← h.1];omega),← h.1]
  exact h'.2 _ v hv
def qH (R:List RC):List Str:=R.map (·.name)
def JE (L:List LC):List Str:=L.map (·.name)
theorem ZI {K:W.Frag} {cR:Addr} {H:Hp} {rs:List V} {R:List RC} (c:Cls K cR) (n:NoAttr K cR "name") (h:AllAt (RcO cR H) rs R):AllAt (Named K H) rs (qH R):=by
 refine ⟨by unfold qH;rw [h.1,List.length_map],fun i v hv=>?_⟩
 obtain ⟨r,hr,x,rfl,dx,fs,hx,hf⟩:=h.2 i v hv
 exact ⟨r.name,by unfold qH;rw [List.getElem?_map,hr];rfl,x,cR,dx,fs,rfl,hx,c,n,hf.1⟩
theorem AK {K:W.Frag} {cs:Kd→Addr} {H:Hp} {rs:List V} {L:List LC} (c:∀kd,Cls K (cs kd)) (n:∀kd,NoAttr K (cs kd) "name") (h:AllAt (LkO cs H) rs L):AllAt (Named K H) rs (JE L):=by
 refine ⟨by unfold JE;rw [h.1,List.length_map],fun i v hv=>?_⟩
 obtain ⟨l,hl,x,rfl,dx,hx⟩:=h.2 i v hv
 exact ⟨l.name,by unfold JE;rw [List.getElem?_map,hl];rfl,x,_,dx,_,rfl,hx,c _,n _,cG ..⟩
def bQ (R:List RC) (ws:List Str) (r:RC):Prop:=∃w2 w3 w4 w5 tg:Str,ws=[("reach":Str),r.name,w2,w3,w4,w5,tg]∧r.name≠"sea"∧yH r.name∧yH tg∧y8 w2 r.least∧y8 w3 r.crest∧y8 w4 r.berths∧y8 w5 r.water∧ZL (qH R) r.name∧
 ((tg="sea"∧r.target = -1)∨(tg≠"sea"∧∃i:Nat,FirstAt (qH R) tg i∧r.target=(i:Int)))∧r.least≤r.crest∧1≤r.berths∧r.berths≤9∧R.length<8
def bY (R:List RC) (L:List LC) (ws:List Str) (l:LC):Prop:=∃(hi lo w4:Str) (ext:List Str) (i j:Nat),ws=[("lock":Str),l.name,hi,lo,w4]++ext∧yH l.name∧yH hi∧yH lo∧y8 w4 l.room∧((l.kd=.plain∧ext=[])∨∃g,l.kd≠.plain∧ext=[vU l.kd,g]∧y8 g l.extra)∧
 ZL (JE L) l.name∧FirstAt (qH R) hi i∧l.high=(i:Int)∧FirstAt (qH R) lo j∧l.low=(j:Int)∧l.low<l.high∧l.room≠0∧(l.kd≠.plain→1≤l.extra∧l.extra≤l.room)∧L.length<8
def q0 (qs:List (Str×Str×Str)):List Str:=qs.flatMap fun q=>[q.1,q.2.1,q.2.2]
def fC (Z:List Str) (q:Str×Str×Str) (t:Nat×Int×Int):Prop:=yH q.1∧FirstAt Z q.1 t.1∧y8 q.2.1 t.2.1∧y8 q.2.2 t.2.2
def bT (R:List RC) (N:List (List (Int×Int))) (ws:List Str) (p:List (Int×Int)):Prop:=∃(qs:List (Str×Str×Str)) (ts:List (Nat×Int×Int)),ws=("night":Str)::q0 qs∧qs.length=ts.length∧qs.length≤30∧(∀(i:Nat) (q:Str×Str×Str) (t:Nat×Int×Int),qs[i]?=some q→ts[i]?=some t→fC (qH R) q t)∧(qs.map (·.1)).Nodup∧p=qP R.length ts∧N.length<6
theorem iK (qs:List (Str×Str×Str)):(q0 qs).length=3*qs.length:=by
 induction qs with
 |nil=>rfl
 |cons q qs ih=>show ([q.1,q.2.1,q.2.2]++q0 qs).length=_;rw [List.length_append,ih];show 3+_=3*(_+1);omega
theorem eO (qs:List (Str×Str×Str)):∀k:Nat,(q0 qs)[3*k]?=qs[k]?.map (·.1)∧(q0 qs)[3*k+1]?=qs[k]?.map (·.2.1)∧(q0 qs)[3*k+2]?=qs[k]?.map (·.2.2):=by
 induction qs with
 |nil=>intro k;exact ⟨rfl,rfl,rfl⟩
 |cons q qs ih =>
  intro k
  have e:q0 (q::qs)=q.1::q.2.1::q.2.2::q0 qs:=rfl
  cases k with
  |zero=>exact ⟨rfl,rfl,rfl⟩
  |succ k =>
   obtain ⟨h1,h2,h3⟩:=ih k
   rw [e,show 3*(k+1)=3*k+1+1+1 by omega,show 3*k+1+1+1+1=3*k+1+1+1+1 from rfl]
   refine ⟨?_,?_,?_⟩
   ·rw [List.getElem?_cons_succ,List.getElem?_cons_succ,List.getElem?_cons_succ,List.getElem?_cons_succ];exact h1
   ·rw [show 3*k+1+1+1+1=(3*k+1)+1+1+1 by omega,List.getElem?_cons_succ,List.getElem?_cons_succ,List.getElem?_cons_succ,List.getElem?_cons_succ];exact h2
   ·rw [show 3*k+1+1+1+2=(3*k+2)+1+1+1 by omega,List.getElem?_cons_succ,List.getElem?_cons_succ,List.getElem?_cons_succ,List.getElem?_cons_succ];exact h3
theorem eK {α β:Type} (f:α→β) (xs:List α):(List.range xs.length).filterMap (fun k=>xs[k]?.map f)=xs.map f:=by
 have key:∀n,n≤xs.length→(List.range n).filterMap (fun k=>xs[k]?.map f)=(xs.take n).map f:=by
  intro n
  induction n with
  |zero=>intro _;rfl
  |succ n ih =>
   intro hn
   rw [List.range_succ,List.filterMap_append,ih (by omega),List.take_add_one,List.map_append,List.getElem?_eq_getElem (by omega)]
   simp [List.getElem?_eq_getElem (show n<xs.length by omega)]
 rw [key _ (Nat.le_refl _),List.take_length]
theorem sZ (qs:List (Str×Str×Str)):zH ((("night":Str)::q0 qs).map V.str) (some 1) none (some 3)=(qs.map (·.1)).map V.str∧zH ((("night":Str)::q0 qs).map V.str) (some 2) none (some 3)=(qs.map (·.2.1)).map V.str∧zH ((("night":Str)::q0 qs).map V.str) (some 3) none (some 3)=(qs.map (·.2.2)).map V.str:=by
 have hl:((("night":Str)::q0 qs).map V.str).length=3*qs.length+1:=by rw [List.length_map,List.length_cons,iK]
 refine ⟨?_,?_,?_⟩
 ·refine (dZ ((("night":Str)::q0 qs).map V.str) qs.length 1 (by decide) (by decide) hl).trans ?_
  rw [List.map_map]
  refine Eq.trans ?_ (eK (V.str∘fun q:Str×Str×Str=>q.1) qs)
  refine congrArg (fun g=>List.filterMap g (List.range qs.length)) (funext fun k=>?_)
  rw [List.getElem?_map,show 1+3*k=3*k+1 by omega,List.getElem?_cons_succ,(eO qs k).1]
  cases qs[k]?<;>rfl
 ·refine (dZ ((("night":Str)::q0 qs).map V.str) qs.length 2 (by decide) (by decide) hl).trans ?_
  rw [List.map_map]
  refine Eq.trans ?_ (eK (V.str∘fun q:Str×Str×Str=>q.2.1) qs)
  refine congrArg (fun g=>List.filterMap g (List.range qs.length)) (funext fun k=>?_)
  rw [List.getElem?_map,show 2+3*k=(3*k+1)+1 by omega,List.getElem?_cons_succ,(eO qs k).2.1]
  cases qs[k]?<;>rfl
 ·refine (dZ ((("night":Str)::q0 qs).map V.str) qs.length 3 (by decide) (by decide) hl).trans ?_
  rw [List.map_map]
  refine Eq.trans ?_ (eK (V.str∘fun q:Str×Str×Str=>q.2.2) qs)
  refine congrArg (fun g=>List.filterMap g (List.range qs.length)) (funext fun k=>?_)
  rw [List.getElem?_map,show 3+3*k=(3*k+2)+1 by omega,List.getElem?_cons_succ,(eO qs k).2.2]
  cases qs[k]?<;>rfl
def fZ (cR:Addr):Sp:=fun vs H Q _=>∃(wl rl:Addr) (ws:List Str) (rs:List V) (R:List RC) (r:RC),vs=[.ref wl,.ref rl]∧H wl=some (.lst (ws.map V.str))∧H rl=some (.lst rs)∧AllAt (RcO cR H) rs R∧bQ R ws r∧∀(x:Addr) (H':Hp),Same H H'→H x=none→RcAt cR H' x r→Q (.ref x) H'
def gK (cs:Kd→Addr) (cR:Addr):Sp:=fun vs H Q _=>∃(wl rl ll:Addr) (ws:List Str) (rs ls:List V) (R:List RC) (L:List LC) (l:LC),vs=[.ref wl,.ref rl,.ref ll]∧H wl=some (.lst (ws.map V.str))∧H rl=some (.lst rs)∧H ll=some (.lst ls)∧AllAt (RcO cR H) rs R∧AllAt (LkO cs H) ls L∧R.length≤8∧bY R L ws l∧∀(x:Addr) (H':Hp),Same H H'→H x=none→LkO cs H' (.ref x) l→Q (.ref x) H'
def gA (cR:Addr):Sp:=fun vs H Q _=>∃(wl rl nl:Addr) (ws:List Str) (rs ms:List V) (R:List RC) (N:List (List (Int×Int))) (p:List (Int×Int)),vs=[.ref wl,.ref rl,.ref nl]∧H wl=some (.lst (ws.map V.str))∧H rl=some (.lst rs)∧H nl=some (.lst ms)∧AllAt (RcO cR H) rs R∧ms.length=N.length∧R.length≤8∧bT R N ws p∧∀(x:Addr) (qs:List V) (H':Hp),Same H H'→H x=none→H' x=some (.lst qs)→AllAt (QAt H') qs p→Q (.ref x) H'
abbrev vO:=List RC×List LC×List (List (Int×Int))
def RdAt (cs:Kd→Addr) (cR:Addr) (H:Hp) (rl ll nl:Addr) (S:vO):Prop:=∃rs ls ms:List V,H rl=some (.lst rs)∧H ll=some (.lst ls)∧H nl=some (.lst ms)∧AllAt (RcO cR H) rs S.1∧AllAt (LkO cs H) ls S.2.1∧AllAt (NAt [rl,ll,nl] H) ms S.2.2∧rl≠ll∧rl≠nl∧ll≠nl
theorem RdAt.same {cs:Kd→Addr} {cR:Addr} {H H':Hp} {rl ll nl:Addr} {S:vO} (e:Same H H') (h:RdAt cs cR H rl ll nl S):RdAt cs cR H' rl ll nl S:=by
 obtain ⟨rs,ls,ms,h1,h2,h3,h4,h5,h6,h7⟩:=h
 exact ⟨rs,ls,ms,e _ _ h1,e _ _ h2,e _ _ h3,h4.mono (RcO.same e),h5.mono (LkO.same e),h6.mono (NAt.same e),h7⟩
def cJ (ws:List Str) (S S':vO):Prop:=S.1.length≤8∧((∃r,bQ S.1 ws r∧S'=(S.1++[r],S.2.1,S.2.2))∨(∃l,bY S.1 S.2.1 ws l∧S'=(S.1,S.2.1++[l],S.2.2))∨∃p,bT S.1 S.2.2 ws p∧S'=(S.1,S.2.1,S.2.2++[p]))
def nG (a b c:Addr) (H H':Hp):Prop:=∀d o,d≠a→d≠b→d≠c→H d=some o→H' d=some o
def gU (cs:Kd→Addr) (cR:Addr):Sp:=fun vs H Q _=>∃(wl rl ll nl:Addr) (ws:List Str) (S S':vO),vs=[.ref wl,.ref rl,.ref ll,.ref nl]∧H wl=some (.lst (ws.map V.str))∧RdAt cs cR H rl ll nl S∧cJ ws S S'∧∀H':Hp,nG rl ll nl H H'→RdAt cs cR H' rl ll nl S'→Q .non H'
def yY:List Str→vO→vO→Prop
 |[],S,S'=>S=S'
 |row::rest,S,S'=>(row=""∧yY rest S S')∨(row≠""∧row.length≤1000000∧∃S1,cJ (Txt.split row blankS) S S1∧yY rest S1 S')
theorem wQ {ws:List Str} {i:Nat} {v:V} (h:(ws.map V.str)[i]?=some v):∃w,ws[i]?=some w∧v=.str w:=by
 rw [List.getElem?_map] at h
 cases hw:ws[i]? with
 |none=>rw [hw] at h;cases h
 |some w=>rw [hw] at h;cases h;exact ⟨w,rfl,rfl⟩
theorem wG {H Hi H5:Hp} {D:Addr} {caps:St} {R:Nat→List V→Hp→Prop} {i:Nat} {ys:List V} {c:Option V} {v:V} (hD:H D=none) (s:Same H Hi) (hY:Hi D=some (.lst ys)) (hl:ys.length≤i) (hi:i≤1000000) (s5:Same Hi H5)
  (r:R (i+1) (ys++[v]) (upd H5 D (.lst (ys++[v])))):∃zs,H5 D=some (.lst zs)∧zs.length<sizeLine∧vJ H D caps R (i+1) (c::caps) (upd H5 D (.lst (zs++[v]))):=by
 refine ⟨ys,s5 _ _ hY,by rw [sizeLine_eq];omega,ys++[v],c,rfl,kU hD (s.trans s5),jD,?_,r⟩
 rw [List.length_append,List.length_singleton];omega
def ZY (z:Str):Bool := !decide (z="")
def cX (z:Str):List Str:=(Txt.split z feedS).filter ZY
def iV:Sp:=fun vs H Q _=>∃z:Str,vs=[.str z]∧z.length≤1000000∧∀(l:Addr) (H':Hp),Same H H'→H l=none→H' l=some (.lst ((cX z).map V.str))→Q (.ref l) H'
theorem gF {zs:List Str} {i:Nat} {z:Str} (h:zs[i]?=some z) (f:Str→Bool):(zs.take (i+1)).filter f=(zs.take i).filter f++(if f z=true then [z] else []):=by
 rw [List.take_add_one,h,List.filter_append]
 show _++List.filter f [z]=_
 rw [List.filter_cons]
 rfl
theorem eF:∀{rows:List Str} {S S':vO},yY rows S S'→yY (rows.filter ZY) S S'
 |[],_,_,h=>h
 |row::rest,S,S',h=>by
  rcases h with ⟨e,h⟩|⟨e,hl,S1,h1,h⟩
  ·rw [List.filter_cons,if_neg (by rw [e];decide)];exact eF h
  ·rw [List.filter_cons,if_pos (by unfold ZY;rw [decide_eq_false e];rfl)];exact .inr ⟨e,hl,S1,h1,eF h⟩
def gY (cs:Kd→Addr) (cR cN:Addr):Sp:=fun vs H Q _=>∃(z:Str) (S:vO),vs=[.str z]∧z.length≤1000000∧yY (Txt.split z feedS) ([],[],[]) S∧S.1≠[]∧S.1.length≤8∧S.2.2.length≤6∧(∀p∈S.2.2,p.length≤S.1.length)∧∀(x:Addr) (H':Hp),Same H H'→H x=none→CnAt cs cR cN [] H' x S.1 S.2.1 (S.2.2.map (v3 S.1.length))→Q (.ref x) H'
theorem sW {R:List RC} {ws:List Str} {r:RC} (h:bQ R ws r):qE (ws.map V.str) 0=some (V.str "reach"):=by
 obtain ⟨w2,w3,w4,w5,tg,rfl,_⟩:=h
 rfl
theorem iD {R:List RC} {L:List LC} {ws:List Str} {l:LC} (h:bY R L ws l):qE (ws.map V.str) 0=some (V.str "lock"):=by
 obtain ⟨hi,lo,w4,ext,i,j,rfl,_,_,_,_,hc,_⟩:=h
 rcases hc with ⟨_,rfl⟩|⟨g,_,rfl,_⟩<;>rfl
theorem d4 {R:List RC} {N:List (List (Int×Int))} {ws:List Str} {p:List (Int×Int)} (h:bT R N ws p):qE (ws.map V.str) 0=some (V.str "night"):=by
 obtain ⟨qs,ts,rfl,_⟩:=h
 exact qW (j:=0) rfl
def GoodIts (rn:Nat→List Nat):List PIt→vO→vO→Prop
 |[],S,S'=>S=S'
 |it::rest,S,S'=>∃S1,cJ (kI rn it) S S1∧GoodIts rn rest S1 S'
theorem GoodIts.snoc {rn:Nat→List Nat} {it:PIt} {S1 S2:vO} (h2:cJ (kI rn it) S1 S2):∀{its:List PIt} {S:vO},GoodIts rn its S S1→GoodIts rn (its++[it]) S S2
 |[],S,h=>by obtain rfl:S=S1:=h;exact ⟨S2,h2,rfl⟩
 |i::its,S,⟨S',h1,h⟩=>⟨S',h1,GoodIts.snoc h2 h⟩
structure NamesOk (rn gn:Nat→List Nat):Prop where
 rlen:∀k,k<8→1≤(rn k).length∧(rn k).length≤12
 rlet:∀k,k<8→∀c∈rn k,97≤c∧c≤122
 rinj:∀j k,j<8→k<8→rn j=rn k→j=k
 rsea:∀k,k<8→rn k≠seaL
 glen:∀k,k<8→1≤(gn k).length∧(gn k).length≤12
 glet:∀k,k<8→∀c∈gn k,97≤c∧c≤122
 ginj:∀j k,j<8→k<8→gn j=gn k→j=k
theorem sI {c0 c1:Int} (h0:0≤c0) (h1:0≤c1):NamesOk (qB c0) (qT c0 c1) :=
 ⟨fun k hk=>d9 c0 hk,fun k _=>d8 c0 k,fun j k hj hk e=>eA h0 hj hk e,fun k _=>d7 c0 k,fun k hk=>wB c0 c1 hk,fun k _=>wA c0 c1 k,fun j k hj hk e=>wC h0 h1 hj hk e⟩
theorem NamesOk.name {rn gn:Nat→List Nat} (n:NamesOk rn gn) {k:Nat} (hk:k<8):yH (jJ (rn k)):=iC (n.rlen k hk).1 (n.rlen k hk).2 (n.rlet k hk)
theorem NamesOk.gname {rn gn:Nat→List Nat} (n:NamesOk rn gn) {k:Nat} (hk:k<8):yH (jJ (gn k)):=iC (n.glen k hk).1 (n.glen k hk).2 (n.glet k hk)
theorem NamesOk.nsea {rn gn:Nat→List Nat} (n:NamesOk rn gn) {k:Nat} (hk:k<8):jJ (rn k)≠"sea":=fun e=>n.rsea k hk (QO (e.trans bU))
theorem mU {rn gn:Nat→List Nat} {its:List PIt} {a b c:Nat} (h:PlanOk rn gn its a b c) {i:Nat} (hi:i<a):(qH (kC its))[i]?=some (jJ (rn i)):=by
 have hl:i<(kC its).length:=by rw [(vY h).1];exact hi
 unfold qH
 rw [List.getElem?_map,List.getElem?_eq_getElem hl]
 exact congrArg some ((dY h).1 i _ (List.getElem?_eq_getElem hl)).2.1
theorem mT {rn gn:Nat→List Nat} {its:List PIt} {a b c:Nat} (h:PlanOk rn gn its a b c) {i:Nat} {z:Str} (hz:(qH (kC its))[i]?=some z):i<a∧z=jJ (rn i):=by
 have hl:=(List.getElem?_eq_some_iff.mp hz).1
 unfold qH at hl
 rw [List.length_map,(vY h).1] at hl
 rw [mU h hl] at hz
 exact ⟨hl,(Option.some.inj hz).symm⟩
theorem BU {rn gn:Nat→List Nat} {its:List PIt} {a b c:Nat} (h:PlanOk rn gn its a b c) {i:Nat} {z:Str} (hz:(JE (kJ its))[i]?=some z):i<b∧z=jJ (gn i):=by
 unfold JE at hz
 rw [List.getElem?_map] at hz
 cases hl:(kJ its)[i]? with
 |none=>rw [hl] at hz;cases hz
 |some l =>
  rw [hl] at hz
  cases hz
  obtain ⟨_,h2,h3⟩:=(dY h).2 i l hl
  exact ⟨h3,h2⟩
theorem cI {rn gn:Nat→List Nat} (n:NamesOk rn gn) {its:List PIt} {a b c:Nat} (h:PlanOk rn gn its a b c) {i:Nat} (hi:i<a):FirstAt (qH (kC its)) (jJ (rn i)) i:=by
 have hb:=h.bounds.1
 refine ⟨mU h hi,fun j hj e=>?_⟩
 obtain ⟨h1,h2⟩:=mT h e
 have:=n.rinj i j (by omega) (by omega) (QO h2)
 omega
theorem tO {rn gn:Nat→List Nat} (n:NamesOk rn gn) {its:List PIt} {a b c:Nat} (h:PlanOk rn gn its a b c) {r:RC} (ha:a<8) (hn:r.name=jJ (rn a)) (hg:r.good a):bQ (kC its) (kI rn (.reach r)) r:=by
 obtain ⟨g1,g2,g3,g4,g5,g6,g7,g8,g9⟩:=hg
 refine ⟨_,_,_,_,_,rfl,?_,?_,?_,zG g1 (by omega),zG (by omega) g3,zG (by omega) (by omega),zG g6 g7,?_,?_,g2,g4,g5,by rw [(vY h).1];exact ha⟩
 ·rw [hn];exact n.nsea ha
 ·rw [hn];exact n.name ha
 ·unfold yS
  split
  ·exact n.name (by omega)
  ·exact xD
 ·rw [hn]
  intro i e
  obtain ⟨h1,h2⟩:=mT h e
  have:=n.rinj a i ha (by omega) (QO h2)
  omega
 ·unfold yS
  by_cases hz:0≤r.target
  ·rw [if_pos hz]
   exact .inr ⟨n.nsea (by omega),r.target.toNat,cI n h (by omega),by omega⟩
  ·rw [if_neg hz]
   exact .inl ⟨rfl,by omega⟩
theorem uZ {rn gn:Nat→List Nat} (n:NamesOk rn gn) {its:List PIt} {a b c:Nat} (h:PlanOk rn gn its a b c) {l:LC} (hb:b<8) (hn:l.name=jJ (gn b)) (hg:l.good a):bY (kC its) (kJ its) (kI rn (.lock l)) l:=by
 obtain ⟨g1,g2,g3,g4,g5,g6,g7,g8⟩:=hg
 have hb8:=h.bounds.1
 refine ⟨_,_,_,dC l.kd l.extra,l.high.toNat,l.low.toNat,rfl,?_,n.name (by omega),n.name (by omega),zG (by omega) g6,?_,?_,cI n h (by omega),by omega,cI n h (by omega),by omega,by omega,by omega,g8,by rw [(vY h).2.1];exact hb⟩
 ·rw [hn];exact n.gname hb
 ·by_cases hk:l.kd=.plain
  ·exact .inl ⟨hk,by rw [hk];rfl⟩
  ·exact .inr ⟨kF l.extra,hk,bW hk _,zG (by have:=g8 hk;omega) (by have:=g8 hk;omega)⟩
 ·rw [hn]
  intro i e
  obtain ⟨h1,h2⟩:=BU h e
  have:=n.ginj b i hb (by omega) (QO h2)
  omega
theorem gC {rn:Nat→List Nat} (hinj:∀j k,j<8→k<8→rn j=rn k→j=k):∀ts:List (Nat×Int×Int),(∀t∈ts,t.1<8)→(ts.map (·.1)).Nodup→(ts.map fun t=>jJ (rn t.1)).Nodup
 |[],_,_=>List.nodup_nil
 |t::ts,h8,hnd=>by
  rw [List.map_cons,List.nodup_cons] at hnd ⊢
  refine ⟨fun hm=>hnd.1 ?_,gC hinj ts (fun u hu=>h8 u (List.mem_cons_of_mem _ hu)) hnd.2⟩
  obtain ⟨u,hu,e⟩:=List.mem_map.mp hm
  have:=hinj u.1 t.1 (h8 u (List.mem_cons_of_mem _ hu)) (h8 t List.mem_cons_self) (QO e)
  exact List.mem_map.mpr ⟨u,hu,this⟩
theorem tP {rn gn:Nat→List Nat} (n:NamesOk rn gn) {its:List PIt} {a b c:Nat} (h:PlanOk rn gn its a b c) {N:List (List (Int×Int))} (hN:N.length<6) {ts:List (Nat×Int×Int)} (ht:tripsOk ts a) (hl:ts.length≤8):bT (kC its) N (kI rn (.night ts)) (qP a ts):=by
 have hb8:=h.bounds.1
 refine ⟨ts.map fun q=>(jJ (rn q.1),kF q.2.1,kF q.2.2),ts,?_,List.length_map _,by rw [List.length_map];omega,fun i q t hq hti=>?_,?_,by rw [(vY h).1],hN⟩
 ·show _::_=_::_
  unfold q0
  rw [List.flatMap_map]
 ·rw [List.getElem?_map,hti] at hq
  cases hq
  obtain ⟨h1,h2,h3,h4,h5⟩:=ht.2 t (List.mem_of_getElem? hti)
  exact ⟨n.name (by omega),cI n h h1,zG h2 h3,zG h4 h5⟩
 ·rw [List.map_map]
  exact gC n.rinj ts (fun t hm=>by have:=(ht.2 t hm).1;omega) ht.1
theorem x9 {α:Type} (xs ys:List α) {i:Nat} (v:α) (h:i<xs.length):(xs++ys).set i v=xs.set i v++ys:=List.set_append_left i v h
theorem lL (ys:List (Int×Int)):∀(ts:List (Nat×Int×Int)) (xs:List (Int×Int)),(∀t∈ts,t.1<xs.length)→ts.foldl (fun ps q=>ps.set q.1 (q.2.1,q.2.2)) (xs++ys)=ts.foldl (fun ps q=>ps.set q.1 (q.2.1,q.2.2)) xs++ys
 |[],_,_=>rfl
 |t::ts,xs,h=>by
  rw [List.foldl_cons,List.foldl_cons,x9 xs ys _ (h t List.mem_cons_self)]
  exact lL ys ts _ fun u hu=>by rw [List.length_set];exact h u (List.mem_cons_of_mem _ hu)
theorem sG {a n:Nat} {ts:List (Nat×Int×Int)} (ht:tripsOk ts a) (hn:a≤n):v3 n (qP a ts)=qP n ts:=by
 unfold v3
 rw [Q6]
 unfold qP
 rw [show n=a+(n - a) by omega,← List.replicate_append_replicate,lL _ ts _ (fun t hm=>by rw [List.length_replicate];exact (ht.2 t hm).1)]
 rw [show a+(n - a) - a=n - a by omega]
theorem uH {rn gn:Nat→List Nat} (n:NamesOk rn gn) {its:List PIt} {a b c:Nat} (h:PlanOk rn gn its a b c):∃N:List (List (Int×Int)),N.length=c∧(∀p∈N,p.length≤a)∧(∀m,a≤m→N.map (v3 m)=its.filterMap (v6 m))∧GoodIts rn its ([],[],[]) (kC its,kJ its,N):=by
 induction h with
 |nil=>exact ⟨[],rfl,(fun p hp=>by cases hp),fun _ _=>rfl,rfl⟩
 |@reach its a b c r h ha hn hg ih =>
  obtain ⟨N,h1,h2,h3,h4⟩:=ih
  have e1:kC (its++[.reach r])=kC its++[r]:=by unfold kC;rw [List.filterMap_append];rfl
  have e2:kJ (its++[.reach r])=kJ its:=by unfold kJ;rw [List.filterMap_append];exact List.append_nil _
  refine ⟨N,h1,fun p hp=>Nat.le_succ_of_le (h2 p hp),fun m hm=>by rw [List.filterMap_append,h3 m (by omega)];exact (List.append_nil _).symm,?_⟩
  rw [e1,e2]
  exact GoodIts.snoc ⟨by show (kC its).length≤8;rw [(vY h).1];omega,.inl ⟨r,tO n h ha hn hg,rfl⟩⟩ h4
 |@lock its a b c l h hb hn hg ih =>
  obtain ⟨N,h1,h2,h3,h4⟩:=ih
  have e1:kC (its++[.lock l])=kC its:=by unfold kC;rw [List.filterMap_append];exact List.append_nil _
  have e2:kJ (its++[.lock l])=kJ its++[l]:=by unfold kJ;rw [List.filterMap_append];rfl
  refine ⟨N,h1,h2,fun m hm=>by rw [List.filterMap_append,h3 m hm];exact (List.append_nil _).symm,?_⟩
  rw [e1,e2]
  exact GoodIts.snoc ⟨by show (kC its).length≤8;rw [(vY h).1];exact h.bounds.1,.inr (.inl ⟨l,uZ n h hb hn hg,rfl⟩)⟩ h4
 |@night its a b c ts h hc ht hl ih =>
  obtain ⟨N,h1,h2,h3,h4⟩:=ih
  have e1:kC (its++[.night ts])=kC its:=by unfold kC;rw [List.filterMap_append];exact List.append_nil _
  have e2:kJ (its++[.night ts])=kJ its:=by unfold kJ;rw [List.filterMap_append];exact List.append_nil _
  refine ⟨N++[qP a ts],by rw [List.length_append,h1];rfl,fun p hp=>?_,fun m hm=>?_,?_⟩
  ·rcases List.mem_append.mp hp with hp|hp
   ·exact h2 p hp
   ·rw [List.mem_singleton.mp hp,Q6];exact Nat.le_refl _
  ·rw [List.map_append,List.filterMap_append,h3 m hm]
   show _++[v3 m (qP a ts)]=_++[qP m ts]
   rw [sG ht hm]
  ·rw [e1,e2]
   exact GoodIts.snoc ⟨by show (kC its).length≤8;rw [(vY h).1];exact h.bounds.1,.inr (.inr ⟨_,tP n h (by show N.length<6;omega) ht hl,rfl⟩)⟩ h4
theorem d6 {rn:Nat→List Nat}:∀{rows:List Str} {its:List PIt} {S S':vO},rows.filter z8=its.map (vL rn)→(∀it∈its,Txt.split (vL rn it) blankS=kI rn it∧(vL rn it).length≤1000000)→GoodIts rn its S S'→yY rows S S'
 |[],its,S,S',hf,_,h=>by
  have:its=[]:=List.map_eq_nil_iff.mp hf.symm
  subst this
  exact h
 |row::rows,its,S,S',hf,hi,h=>by
  by_cases e:row=""
  ·rw [List.filter_cons,if_neg (by rw [e,lK];decide)] at hf
   exact .inl ⟨e,d6 hf hi h⟩
  ·rw [List.filter_cons,if_pos (by unfold z8;rw [decide_eq_false e];rfl)] at hf
   cases its with
   |nil=>cases hf
   |cons it its =>
    rw [List.map_cons] at hf
    injection hf with hf1 hf2
    obtain ⟨S1,h1,h2⟩:=h
    obtain ⟨h3,h4⟩:=hi it List.mem_cons_self
    refine .inr ⟨e,by rw [hf1];exact h4,S1,by rw [hf1,h3];exact h1,d6 hf2 (fun i hm=>hi i (List.mem_cons_of_mem _ hm)) h2⟩
theorem t7 {rn gn:Nat→List Nat} (n:NamesOk rn gn) {its:List PIt} {a b c:Nat} (h:PlanOk rn gn its a b c) (ha:1≤a) {rows:List Str} (hr:RowsOk rn rows its) (hl:rows.length≤46) :
  ∃S:vO,(Str.join feedS rows).length≤1000000∧yY (Txt.split (Str.join feedS rows) feedS) ([],[],[]) S∧S.1=kC its∧S.2.1=kJ its∧S.2.2.map (v3 S.1.length)=z3 its∧S.2.2.length≤6∧∀p∈S.2.2,p.length≤S.1.length:=by
 have hrl:∀k,k<8→(rn k).length≤12:=fun k hk=>(n.rlen k hk).2
 have hgl:∀k,k<8→(gn k).length≤12:=fun k hk=>(n.glen k hk).2
 have hi:=mB hrl hgl h
 have hlet:=wZ n.rlet n.glet h
 obtain ⟨N,h1,h2,h3,h4⟩:=uH n h
 have t1:=(vY h).1
 have hne:its≠[]:=fun e=>by
  have:=h.bounds.2.2.2
  rw [e] at this
  have hz:([]:List PIt).length=0:=rfl
  omega
 refine ⟨(kC its,kJ its,N),?_,?_,rfl,rfl,?_,by rw [h1];exact h.bounds.2.2.1,fun p hp=>by rw [t1];exact h2 p hp⟩
 ·have h5:=StrLaws.join_length_le feedS rows
  have h6:=gB hrl hr hl hi
  have h7:feedS.length=1:=rfl
  have h8:=ZM (B:=400) rows (fun z hz=>by
   rcases hr.2 z hz with rfl|⟨it,hit,rfl⟩
   ·decide +kernel
   ·obtain ⟨m,hm⟩:=hi it hit
    exact e9 hrl hm)
  have h9:rows.length*400≤46*400:=Nat.mul_le_mul_right _ hl
  have h10:(rows.map (·.length)).sum=z4 rows:=rfl
  rw [h7,Nat.mul_one] at h5
  omega
 ·rw [sS n.rlet hr hne hi hlet]
  refine d6 hr.1 (fun it hit=>?_) h4
  obtain ⟨m,hm⟩:=hi it hit
  exact ⟨uE n.rlet hm (hlet it hit),by have:=e9 hrl hm;omega⟩
 ·show N.map (v3 (kC its).length)=its.filterMap (v6 (kC its).length)
  exact h3 _ (by omega)
structure Txt (K:W.Frag) (mg:Str→Option Value) (cP cB cU:Addr) (cR:Addr) (cN:Addr) (tkS:Tok) (j0:Tok) (jZ:Tok) (j7:Tok) (j6:Tok) (j4:Tok) (j5:Tok) (j3:Tok):Prop where
 z_list:mg "list"=none
 z_enumerate:mg "enumerate"=none
 z_all:mg "all"=none
 z_len:mg "len"=none
 z_int:mg "int"=none
 z_zip:mg "zip"=none
 z_set:mg "set"=none
 z_isinstance:mg "isinstance"=none
 z_bool:mg "bool"=none
 z_range:mg "range"=none
 z_min:mg "min"=none
 z_max:mg "max"=none
 z_str:mg "str"=none
 z_tuple:mg "tuple"=none
 cl:∀kd,Cls K ((jO cP cB cU) kd)
 n_name:∀kd,NoAttr K ((jO cP cB cU) kd) "name"
 n_high:∀kd,NoAttr K ((jO cP cB cU) kd) "high"
 n_low:∀kd,NoAttr K ((jO cP cB cU) kd) "low"
 n_room:∀kd,NoAttr K ((jO cP cB cU) kd) "room"
 n_side:NoAttr K cB "side"
 n_lift:NoAttr K cU "lift"
 c_PlainLock:mg "PlainLock"=some (.ref cP)
 c_BasinLock:mg "BasinLock"=some (.ref cB)
 c_PumpLock:mg "PumpLock"=some (.ref cU)
 clR:Cls K cR
 nR_name:NoAttr K cR "name"
 nR_least:NoAttr K cR "least"
 nR_crest:NoAttr K cR "crest"
 nR_berths:NoAttr K cR "berths"
 nR_water:NoAttr K cR "water"
 nR_target:NoAttr K cR "target"
 c_Reach:mg "Reach"=some (.ref cR)
 clN:Cls K cN
 nN_reaches:NoAttr K cN "reaches"
 nN_locks:NoAttr K cN "locks"
 nN_nights:NoAttr K cN "nights"
 c_Canal:mg "Canal"=some (.ref cN)
 tyR:∀(H:Hp) (a dx:Addr) (fs:List (Str×V)),H a=some (.ins cR dx fs)→TyOf K H (.ref a) (.ref cR)
 tyN:∀(H:Hp) (a dx:Addr) (fs:List (Str×V)),H a=some (.ins cN dx fs)→TyOf K H (.ref a) (.ref cN)
 tyL:∀(kd:Kd) (H:Hp) (a dx:Addr) (fs:List (Str×V)),H a=some (.ins ((jO cP cB cU) kd) dx fs)→TyOf K H (.ref a) (.ref ((jO cP cB cU) kd))
 ktR:W.kitOne K (.ref cR) (.ref cR)=some true
 ktN:W.kitOne K (.ref cN) (.ref cN)=some true
 ktLP:∀kd,W.kitOne K (.ref ((jO cP cB cU) kd)) (.ref cP)=some true
 ktLB:∀kd,W.kitOne K (.ref ((jO cP cB cU) kd)) (.ref cB)=some (nU kd)
 ktLU:∀kd,W.kitOne K (.ref ((jO cP cB cU) kd)) (.ref cU)=some (nR kd)
 g_SEA:mg "SEA"=some (.int (-1) tkS)
 g_LETTERS:mg "LETTERS"=some (.str lettersS j0)
 g_FIGURES:mg "FIGURES"=some (.str zA jZ)
 g_MOST_SIGNS:mg "MOST_SIGNS"=some (.int 12 j7)
 g_MOST_REACHES:mg "MOST_REACHES"=some (.int 8 j6)
 g_MOST_LOCKS:mg "MOST_LOCKS"=some (.int 8 j4)
 g_MOST_NIGHTS:mg "MOST_NIGHTS"=some (.int 6 j5)
 g_MOST_BERTHS:mg "MOST_BERTHS"=some (.int 9 j3)
set_option maxHeartbeats 4000000
section
variable {P:Program} {w:World} {K:W.Frag} {mg:Str→Option Value} {base:Heap} {cP cB cU:Addr} {cR:Addr} {cN:Addr} {tkS:Tok} {j0:Tok} {jZ:Tok} {j7:Tok} {j6:Tok} {j4:Tok} {j5:Tok} {j3:Tok}
theorem pS:FnScope ["self","name","high","low","room"] ["self","name","high","low","room"] (jG JL):=⟨rfl,rfl,rfl,by decide +kernel,rfl,by decide +kernel,by decide +kernel⟩
theorem oB {f:Addr} {fd:FuncData} (F:Fun K "__init__" "PlainLock.__init__" JL f fd) (T:Txt K mg cP cB cU cR cN tkS j0 jZ j7 j6 j4 j5 j3) : FnOk P w K mg base jR 1 f fd ["self","name","high","low","room"] (QQ (jO cP cB cU)):=by
 refine F.ok pS (fun vs H Q E h=>?_) (fun cdv A outer s H vs Q E hr h=>?_)
 ·obtain ⟨kd,x,dx,n,h₁,l,r,rfl,hx,q⟩:=h
  rfl
 obtain ⟨kd,x,dx,n,h₁,l,r,rfl,hx,q⟩:=h
 have hu:_<cLine:=hr.units0
 have hu1:=kD hr
 refine ⟨_,(@jH _ _ _ _ _ (vI (pv 0) (pv 1) rfl)
   (@jH _ _ _ _ _ (vI (pv 0) (pv 2) rfl)
   (@jH _ _ _ _ _ (vI (pv 0) (pv 3) rfl)
   (@jE _ _ _ (vI (pv 0) (pv 4) rfl))))),?_⟩
 refine ⟨_,rfl,_,rfl,x,_,dx,_,rfl,hx,T.cl kd,T.n_name kd,(by show 0<1000;decide),?_⟩
 refine ⟨_,rfl,_,rfl,x,_,dx,_,rfl,jD,T.cl kd,T.n_high kd,(by show 1<1000;decide),?_⟩
 refine ⟨_,rfl,_,rfl,x,_,dx,_,rfl,jD,T.cl kd,T.n_low kd,?_,?_⟩
 ·have:=yL "high" h₁ (jL "name" n [])
  have h2:(jL ("name":Str) n []).length=1:=rfl
  omega
 refine ⟨_,rfl,_,rfl,x,_,dx,_,rfl,jD,T.cl kd,T.n_room kd,?_,?_⟩
 ·have:=yL "low" l (jL "high" h₁ (jL "name" n []))
  have h1:=yL "high" h₁ (jL "name" n [])
  have h2:(jL ("name":Str) n []).length=1:=rfl
  omega
 exact q _ (((((Keep.refl x H).upd _).upd _).upd _).upd _) jD
theorem pO:FnScope ["self","name","high","low","room","side"] ["self","name","high","low","room","side"] (jG JI):=⟨rfl,rfl,rfl,by decide +kernel,rfl,by decide +kernel,by decide +kernel⟩
theorem n0 {f:Addr} {fd:FuncData} (F:Fun K "__init__" "BasinLock.__init__" JI f fd) (T:Txt K mg cP cB cU cR cN tkS j0 jZ j7 j6 j4 j5 j3) (CM_PlainLock___init__:CmD P w K mg base 1 "PlainLock" cP "__init__" ["self","name","high","low","room"] (QQ (jO cP cB cU))):FnOk P w K mg base jR 2 f fd ["self","name","high","low","room","side"] (QP (jO cP cB cU) .basin):=by
 refine F.ok pO (fun vs H Q E h=>?_) (fun cdv A outer s H vs Q E hr h=>?_)
 ·obtain ⟨x,dx,n,h₁,l,r,v,rfl,hx,q⟩:=h
  rfl
 obtain ⟨x,dx,n,h₁,l,r,v,rfl,hx,q⟩:=h
 have hu:_<cLine:=hr.units0
 have hu1:=kD hr
 refine ⟨_,(@jH _ _ _ _ _ (kW (mC CM_PlainLock___init__ hr rfl (@jA _ _ _ _ _ (pv 0) (@jA _ _ _ _ _ (pv 1) (@jA _ _ _ _ _ (pv 2) (@jA _ _ _ _ _ (pv 3) (@jA _ _ _ _ _ (pv 4) jC (by rfl)) (by rfl)) (by rfl)) (by rfl)) (by rfl))))
   (@jE _ _ _ (vI (pv 0) (pv 5) rfl))),?_⟩
 refine ⟨_,rfl,_,rfl,_,rfl,_,rfl,_,rfl,.basin,x,dx,n,h₁,l,r,rfl,hx,fun H' kp hx'=>?_⟩
 refine ⟨_,rfl,_,rfl,x,_,dx,_,rfl,hx',T.cl .basin,T.n_side,gO _ _ _ _,?_⟩
 exact q _ (kp.upd _) jD
theorem pV:FnScope ["self","name","high","low","room","lift"] ["self","name","high","low","room","lift"] (jG JO):=⟨rfl,rfl,rfl,by decide +kernel,rfl,by decide +kernel,by decide +kernel⟩
theorem oF {f:Addr} {fd:FuncData} (F:Fun K "__init__" "PumpLock.__init__" JO f fd) (T:Txt K mg cP cB cU cR cN tkS j0 jZ j7 j6 j4 j5 j3) (CM_PlainLock___init__:CmD P w K mg base 1 "PlainLock" cP "__init__" ["self","name","high","low","room"] (QQ (jO cP cB cU))):FnOk P w K mg base jR 2 f fd ["self","name","high","low","room","lift"] (QP (jO cP cB cU) .pump):=by
 refine F.ok pV (fun vs H Q E h=>?_) (fun cdv A outer s H vs Q E hr h=>?_)
 ·obtain ⟨x,dx,n,h₁,l,r,v,rfl,hx,q⟩:=h
  rfl
 obtain ⟨x,dx,n,h₁,l,r,v,rfl,hx,q⟩:=h
 have hu:_<cLine:=hr.units0
 have hu1:=kD hr
 refine ⟨_,(@jH _ _ _ _ _ (kW (mC CM_PlainLock___init__ hr rfl (@jA _ _ _ _ _ (pv 0) (@jA _ _ _ _ _ (pv 1) (@jA _ _ _ _ _ (pv 2) (@jA _ _ _ _ _ (pv 3) (@jA _ _ _ _ _ (pv 4) jC (by rfl)) (by rfl)) (by rfl)) (by rfl)) (by rfl))))
   (@jE _ _ _ (vI (pv 0) (pv 5) rfl))),?_⟩
 refine ⟨_,rfl,_,rfl,_,rfl,_,rfl,_,rfl,.pump,x,dx,n,h₁,l,r,rfl,hx,fun H' kp hx'=>?_⟩
 refine ⟨_,rfl,_,rfl,x,_,dx,_,rfl,hx',T.cl .pump,T.n_lift,gO _ _ _ _,?_⟩
 exact q _ (kp.upd _) jD
theorem pY:FnScope ["self","name","least","crest","berths","water","target"] ["self","name","least","crest","berths","water","target"] (jG JR):=⟨rfl,rfl,rfl,by decide +kernel,rfl,by decide +kernel,by decide +kernel⟩
theorem oI {f:Addr} {fd:FuncData} (F:Fun K "__init__" "Reach.__init__" JR f fd) (T:Txt K mg cP cB cU cR cN tkS j0 jZ j7 j6 j4 j5 j3) : FnOk P w K mg base jR 1 f fd ["self","name","least","crest","berths","water","target"] (dS cR):=by
 refine F.ok pY (fun vs H Q E h=>?_) (fun cdv A outer s H vs Q E hr h=>?_)
 ·obtain ⟨x,dx,v_name,v_least,v_crest,v_berths,v_water,v_target,rfl,hx,q⟩:=h
  rfl
 obtain ⟨x,dx,v_name,v_least,v_crest,v_berths,v_water,v_target,rfl,hx,q⟩:=h
 have hu:_<cLine:=hr.units0
 have hu1:=kD hr
 refine ⟨_,(@jH _ _ _ _ _ (vI (pv 0) (pv 1) rfl)
   (@jH _ _ _ _ _ (vI (pv 0) (pv 2) rfl)
   (@jH _ _ _ _ _ (vI (pv 0) (pv 3) rfl)
   (@jH _ _ _ _ _ (vI (pv 0) (pv 4) rfl)
   (@jH _ _ _ _ _ (vI (pv 0) (pv 5) rfl)
   (@jE _ _ _ (vI (pv 0) (pv 6) rfl))))))),?_⟩
 have ln:∀(f:Str) (z:V) (fs:List (Str×V)) (m:Nat),fs.length≤m→(jL f z fs).length≤m+1:=fun f z fs m h=>Nat.le_trans (yL f z fs) (by omega)
 have l0:([]:List (Str×V)).length≤0:=Nat.le_refl _
 refine ⟨_,rfl,_,rfl,x,cR,dx,_,rfl,hx,T.clR,T.nR_name,by omega,?_⟩
 have l1:=ln "name" v_name _ _ l0
 refine ⟨_,rfl,_,rfl,x,cR,dx,_,rfl,jD,T.clR,T.nR_least,by omega,?_⟩
 have l2:=ln "least" v_least _ _ l1
 refine ⟨_,rfl,_,rfl,x,cR,dx,_,rfl,jD,T.clR,T.nR_crest,by omega,?_⟩
 have l3:=ln "crest" v_crest _ _ l2
 refine ⟨_,rfl,_,rfl,x,cR,dx,_,rfl,jD,T.clR,T.nR_berths,by omega,?_⟩
 have l4:=ln "berths" v_berths _ _ l3
 refine ⟨_,rfl,_,rfl,x,cR,dx,_,rfl,jD,T.clR,T.nR_water,by omega,?_⟩
 have l5:=ln "water" v_water _ _ l4
 refine ⟨_,rfl,_,rfl,x,cR,dx,_,rfl,jD,T.clR,T.nR_target,by omega,?_⟩
 have l6:=ln "target" v_target _ _ l5
 exact q _ _ (((((((Keep.refl x H).upd _).upd _).upd _).upd _).upd _).upd _) jD (tU _ _ _ _ _ _)
theorem pU:FnScope ["self"] ["self"] (jG JN):=⟨rfl,rfl,rfl,by decide +kernel,rfl,by decide +kernel,by decide +kernel⟩
theorem oE {f:Addr} {fd:FuncData} (F:Fun K "kind" "PlainLock.kind" JN f fd) (T:Txt K mg cP cB cU cR cN tkS j0 jZ j7 j6 j4 j5 j3) : FnOk P w K mg base jR 1 f fd ["self"] (qR (jO cP cB cU) (fun kd _=>V.str (match kd with|.plain=>"plain"|.basin=>"basin"|.pump=>"pump")) .plain):=by
 refine F.ok pU (fun vs H Q E h=>?_) (fun cdv A outer s H vs Q E hr h=>?_)
 ·obtain ⟨x,n,h₁,l,room,v,rfl,⟨dx,hx⟩,q⟩:=h
  rfl
 obtain ⟨x,n,h₁,l,room,v,rfl,⟨dx,hx⟩,q⟩:=h
 have hu:_<cLine:=hr.units0
 have hu1:=kD hr
 refine ⟨_,(@jE _ _ _ (@jS _ _ _ _ kB)),?_⟩
 exact q
theorem pQ:FnScope ["self"] ["self"] (jG JK):=⟨rfl,rfl,rfl,by decide +kernel,rfl,by decide +kernel,by decide +kernel⟩
theorem n5 {f:Addr} {fd:FuncData} (F:Fun K "kind" "BasinLock.kind" JK f fd) (T:Txt K mg cP cB cU cR cN tkS j0 jZ j7 j6 j4 j5 j3) : FnOk P w K mg base jR 1 f fd ["self"] (qR (jO cP cB cU) (fun kd _=>V.str (match kd with|.plain=>"plain"|.basin=>"basin"|.pump=>"pump")) .basin):=by
 refine F.ok pQ (fun vs H Q E h=>?_) (fun cdv A outer s H vs Q E hr h=>?_)
 ·obtain ⟨x,n,h₁,l,room,v,rfl,⟨dx,hx⟩,q⟩:=h
  rfl
 obtain ⟨x,n,h₁,l,room,v,rfl,⟨dx,hx⟩,q⟩:=h
 have hu:_<cLine:=hr.units0
 have hu1:=kD hr
 refine ⟨_,(@jE _ _ _ (@jS _ _ _ _ kB)),?_⟩
 exact q
theorem pX:FnScope ["self"] ["self"] (jG JQ):=⟨rfl,rfl,rfl,by decide +kernel,rfl,by decide +kernel,by decide +kernel⟩
theorem oH {f:Addr} {fd:FuncData} (F:Fun K "kind" "PumpLock.kind" JQ f fd) (T:Txt K mg cP cB cU cR cN tkS j0 jZ j7 j6 j4 j5 j3) : FnOk P w K mg base jR 1 f fd ["self"] (qR (jO cP cB cU) (fun kd _=>V.str (match kd with|.plain=>"plain"|.basin=>"basin"|.pump=>"pump")) .pump):=by
 refine F.ok pX (fun vs H Q E h=>?_) (fun cdv A outer s H vs Q E hr h=>?_)
 ·obtain ⟨x,n,h₁,l,room,v,rfl,⟨dx,hx⟩,q⟩:=h
  rfl
 obtain ⟨x,n,h₁,l,room,v,rfl,⟨dx,hx⟩,q⟩:=h
 have hu:_<cLine:=hr.units0
 have hu1:=kD hr
 refine ⟨_,(@jE _ _ _ (@jS _ _ _ _ kB)),?_⟩
 exact q
theorem pT:FnScope ["self"] ["self"] (jG JM):=⟨rfl,rfl,rfl,by decide +kernel,rfl,by decide +kernel,by decide +kernel⟩
theorem oC {f:Addr} {fd:FuncData} (F:Fun K "extra" "PlainLock.extra" JM f fd) (T:Txt K mg cP cB cU cR cN tkS j0 jZ j7 j6 j4 j5 j3) : FnOk P w K mg base jR 1 f fd ["self"] (qR (jO cP cB cU) (fun kd v=>V.int (match kd with|.plain=>0|.basin=>v|.pump=>v)) .plain):=by
 refine F.ok pT (fun vs H Q E h=>?_) (fun cdv A outer s H vs Q E hr h=>?_)
 ·obtain ⟨x,n,h₁,l,room,v,rfl,⟨dx,hx⟩,q⟩:=h
  rfl
 obtain ⟨x,n,h₁,l,room,v,rfl,⟨dx,hx⟩,q⟩:=h
 have hu:_<cLine:=hr.units0
 have hu1:=kD hr
 refine ⟨_,(@jE _ _ _ (@jS _ _ _ _ jB)),?_⟩
 exact q
theorem pP:FnScope ["self"] ["self"] (jG JJ):=⟨rfl,rfl,rfl,by decide +kernel,rfl,by decide +kernel,by decide +kernel⟩
theorem n4 {f:Addr} {fd:FuncData} (F:Fun K "extra" "BasinLock.extra" JJ f fd) (T:Txt K mg cP cB cU cR cN tkS j0 jZ j7 j6 j4 j5 j3) : FnOk P w K mg base jR 1 f fd ["self"] (qR (jO cP cB cU) (fun kd v=>V.int (match kd with|.plain=>0|.basin=>v|.pump=>v)) .basin):=by
 refine F.ok pP (fun vs H Q E h=>?_) (fun cdv A outer s H vs Q E hr h=>?_)
 ·obtain ⟨x,n,h₁,l,room,v,rfl,⟨dx,hx⟩,q⟩:=h
  rfl
 obtain ⟨x,n,h₁,l,room,v,rfl,⟨dx,hx⟩,q⟩:=h
 have hu:_<cLine:=hr.units0
 have hu1:=kD hr
 refine ⟨_,(@jE _ _ _ (@jS _ _ _ _ (kP (pv 0) rfl))),?_⟩
 exact ⟨_,rfl,x,cB,dx,_,_,rfl,hx,T.cl .basin,T.n_side,lR _ _ _ _ _ _,q⟩
theorem pW:FnScope ["self"] ["self"] (jG JP):=⟨rfl,rfl,rfl,by decide +kernel,rfl,by decide +kernel,by decide +kernel⟩
theorem oG {f:Addr} {fd:FuncData} (F:Fun K "extra" "PumpLock.extra" JP f fd) (T:Txt K mg cP cB cU cR cN tkS j0 jZ j7 j6 j4 j5 j3) : FnOk P w K mg base jR 1 f fd ["self"] (qR (jO cP cB cU) (fun kd v=>V.int (match kd with|.plain=>0|.basin=>v|.pump=>v)) .pump):=by
 refine F.ok pW (fun vs H Q E h=>?_) (fun cdv A outer s H vs Q E hr h=>?_)
 ·obtain ⟨x,n,h₁,l,room,v,rfl,⟨dx,hx⟩,q⟩:=h
  rfl
 obtain ⟨x,n,h₁,l,room,v,rfl,⟨dx,hx⟩,q⟩:=h
 have hu:_<cLine:=hr.units0
 have hu1:=kD hr
 refine ⟨_,(@jE _ _ _ (@jS _ _ _ _ (kP (pv 0) rfl))),?_⟩
 exact ⟨_,rfl,x,cU,dx,_,_,rfl,hx,T.cl .pump,T.n_lift,lR _ _ _ _ _ _,q⟩
theorem pR:FnScope ["self","reaches","locks","nights"] ["self","reaches","locks","nights"] (jG zN):=⟨rfl,rfl,rfl,by decide +kernel,rfl,by decide +kernel,by decide +kernel⟩
theorem oA {f:Addr} {fd:FuncData} {ds:List Value} (F:FunD K "__init__" "Canal.__init__" zN f fd ds) (T:Txt K mg cP cB cU cR cN tkS j0 jZ j7 j6 j4 j5 j3) : FnOk P w K mg base jR 1 f fd ["self","reaches","locks","nights"] (dU (jO cP cB cU) cR cN):=by
 refine F.ok pR (fun vs H Q E h=>?_) (fun cdv A outer s H vs Q E hr h=>?_)
 ·obtain ⟨x,dx,rl,ll,nv,rs,ls,R,L,N,rfl,hx,hrl,hll,hR,hL,hN,q⟩:=h
  rfl
 obtain ⟨x,dx,rl,ll,nv,rs,ls,R,L,N,rfl,hx,hrl,hll,hR,hL,hN,q⟩:=h
 have hu:_<cLine:=hr.units0
 have hu1:=kD hr
 refine ⟨_,(@jH _ _ _ _ _ (vI (pv 0) (yJ Z8 (by rfl) T.z_list PyProof.Rows.boot_list (jA (pv 1) jC)) rfl)
   (@jH _ _ _ _ _ (vI (pv 0) (yJ Z8 (by rfl) T.z_list PyProof.Rows.boot_list (jA (pv 2) jC)) rfl)
   (@jE _ _ _ (vI (pv 0) (eM (jQ BS (pv 3) BP (jP _)) (kZ jC) (yO ["night"] (qV 1 []) rfl (vP (jG zN) rfl rfl (by decide +kernel) (by decide +kernel) (by decide +kernel)) (vF 1 [] rfl rfl (by decide +kernel)) (q9 (pv 3)) (fun _ _ _ _ _=>(kM (i:=0) (show List.Nodup (["night"]:List Str) from by decide +kernel) rfl (by first|exact Or.inl rfl|exact Or.inr rfl))) (fun _ _ _ _ _=>yA) (fun _ _ _ _ _=>(yJ (rW K) (by rfl) T.z_list PyProof.Rows.boot_list (jA (pv 0) jC))))) rfl)))),?_⟩
 have ln:∀(f:Str) (z:V) (fs:List (Str×V)) (m:Nat),fs.length≤m→(jL f z fs).length≤m+1:=fun f z fs m h=>Nat.le_trans (yL f z fs) (by omega)
 have nrx:rl≠x:=vK hrl hx (fun z=>nomatch z)
 have nlx:ll≠x:=vK hll hx (fun z=>nomatch z)
 refine ⟨_,rfl,rl,_,rfl,.inl (SqL.of hrl),fun r2 hr20=>?_⟩
 have s1:=jM hr20 (.lst rs)
 have nr2:r2≠x:=(j8 hx hr20).symm
 refine ⟨_,rfl,x,cN,dx,_,rfl,s1 _ _ hx,T.clN,T.nN_reaches,(by show 0<1000;decide),?_⟩
 have k1:Keep x H (upd (upd H r2 (.lst rs)) x (.ins cN dx (jL "reaches" (.ref r2) []))):=(Keep.of s1).upd _
 have hr2:upd (upd H r2 (.lst rs)) x (.ins cN dx (jL "reaches" (.ref r2) [])) r2=some (.lst rs):=by rw [jY nr2];exact jD
 have hx1:upd (upd H r2 (.lst rs)) x (.ins cN dx (jL "reaches" (.ref r2) [])) x=some (.ins cN dx (jL "reaches" (.ref r2) [])):=jD
 generalize upd (upd H r2 (.lst rs)) x (.ins cN dx (jL "reaches" (.ref r2) []))=H1 at k1 hr2 hx1 ⊢
 have l1:=ln "reaches" (.ref r2) [] 0 (Nat.le_refl _)
 refine ⟨_,rfl,ll,_,rfl,.inl (SqL.of (k1 _ _ nlx hll)),fun l2 hl20=>?_⟩
 have s2:=jM hl20 (.lst ls)
 have nl2:l2≠x:=(j8 hx1 hl20).symm
 refine ⟨_,rfl,x,cN,dx,_,rfl,s2 _ _ hx1,T.clN,T.nN_locks,by omega,?_⟩
 have l2':=ln "locks" (.ref l2) _ _ l1
 have k2:Keep x H (upd (upd H1 l2 (.lst ls)) x (.ins cN dx (jL "locks" (.ref l2) (jL "reaches" (.ref r2) [])))):=(k1.trans (Keep.of s2)).upd _
 have hr2b:upd (upd H1 l2 (.lst ls)) x (.ins cN dx (jL "locks" (.ref l2) (jL "reaches" (.ref r2) []))) r2=some (.lst rs):=by rw [jY nr2];exact s2 _ _ hr2
 have hl2:upd (upd H1 l2 (.lst ls)) x (.ins cN dx (jL "locks" (.ref l2) (jL "reaches" (.ref r2) []))) l2=some (.lst ls):=by rw [jY nl2];exact jD
 have hx2:upd (upd H1 l2 (.lst ls)) x (.ins cN dx (jL "locks" (.ref l2) (jL "reaches" (.ref r2) []))) x=some (.ins cN dx (jL "locks" (.ref l2) (jL "reaches" (.ref r2) []))):=jD
 generalize upd (upd H1 l2 (.lst ls)) x (.ins cN dx (jL "locks" (.ref l2) (jL "reaches" (.ref r2) [])))=H2 at k2 hr2b hl2 hx2 ⊢
 have frR:∀D:List Addr,(∀d∈D,H d≠none)→r2∉D:=fun D hD z=>hD _ z hr20
 have frL:∀D:List Addr,(∀d∈D,H d≠none)→l2∉D:=fun D hD z=>by
  by_cases e:l2=x
  ·exact nl2 e
  ·cases hh:H l2 with
   |none=>exact hD _ z hh
   |some o=>rw [k1 _ _ e hh] at hl20;cases hl20
 have done:∀(n2:Addr) (ns:List V) (H3:Hp),Keep x H2 H3→H2 n2=none→H3 x=some (.ins cN dx (jL "locks" (.ref l2) (jL "reaches" (.ref r2) [])))→H3 n2=some (.lst ns)→(∀D:List Addr,(∀d∈D,H2 d≠none)→AllAt (NAt D H3) ns N)→Q .non (upd H3 x (.ins cN dx (jL "nights" (.ref n2) (jL "locks" (.ref l2) (jL "reaches" (.ref r2) []))))):=by
  intro n2 ns H3 k3 hn20 hx3 hn2 hNs
  have kf:Keep x H (upd H3 x (.ins cN dx (jL "nights" (.ref n2) (jL "locks" (.ref l2) (jL "reaches" (.ref r2) []))))):=(k2.trans k3).upd _
  have kl:Keep x H3 (upd H3 x (.ins cN dx (jL "nights" (.ref n2) (jL "locks" (.ref l2) (jL "reaches" (.ref r2) []))))):=(Keep.refl x H3).upd _
  have nn2:n2≠x:=fun z=>by rw [z,hx2] at hn20;cases hn20
  have old:∀d,H d≠none→H2 d≠none:=fun d hd=>by
   by_cases e:d=x
   ·rw [e,hx2];exact fun z=>nomatch z
   ·cases hh:H d with
    |none=>exact absurd hh hd
    |some o=>rw [k2 _ _ e hh];exact fun z=>nomatch z
  refine q _ kf fun D hD=>⟨dx,r2,l2,n2,_,rs,ls,ns,jD,tV _ _ _,?_,?_,?_,hR.mono (RcO.keepI kf hx),hL.mono (LkO.keepI kf hx),?_,frR D hD,frL D hD,fun z=>old _ (hD _ z) hn20⟩
  ·rw [jY nr2];exact k3 _ _ nr2 hr2b
  ·rw [jY nl2];exact k3 _ _ nl2 hl2
  ·rw [jY nn2];exact hn2
  ·refine (hNs D (fun d hd=>old d (hD d hd))).mono ?_
   rintro v p ⟨l,qs,e1,e2,e3,e4⟩
   exact ⟨l,qs,e1,kl _ _ (fun z=>by rw [z,hx3] at e2;cases e2) e2,e3.mono (QAt.keep kl hx3 (fun _ z=>nomatch z)),e4⟩
 refine ⟨_,rfl,rfl,_,rfl,?_⟩
 rcases hN with ⟨rfl,rfl⟩|⟨nl,ns,rfl,hnl,hN,hnl100⟩
 ·refine kL rfl ⟨zz0,fun n2 hn20=>?_⟩
  have s3:=jM hn20 (.lst [])
  refine ⟨_,rfl,x,cN,dx,_,rfl,s3 _ _ hx2,T.clN,T.nN_nights,by omega,?_⟩
  exact done n2 [] _ (Keep.of s3) hn20 (s3 _ _ hx2) jD (fun D _=>AllAt.nil)
 ·have nnx:nl≠x:=vK hnl hx (fun z=>nomatch z)
  have hnl2:=k2 _ _ nnx hnl
  have hN2:AllAt (NAt [] H2) ns N:=hN.mono fun v p=>by
   rintro ⟨l,qs,e1,e2,e3,e4⟩
   exact ⟨l,qs,e1,k2 _ _ (vK e2 hx (fun z=>nomatch z)) e2,e3.mono (QAt.keep k2 hx (fun _ z=>nomatch z)),e4⟩
  refine kG (fun z=>nomatch z) ⟨_,rfl,nl,rfl,⟨_,SqL.of hnl2⟩,fun n2 hn20=>?_⟩
  refine v9 (K:=K) (a:=nl) (xs:=ns) (caps:=[]) (fun i ys Hi=>(∀D:List Addr,n2∈D→(∀d∈D,d≠n2→H2 d≠none)→AllAt (NAt D Hi) ys (N.take i))) hn20 (SqL.of hnl2) (fun D _ _=>AllAt.nil) ?_ ?_
  ·rintro i v ys Hi hv hi hle sm hY hI
   obtain ⟨p,hp,l,qs,rfl,hl,hq,_⟩:=hN2.2 i v hv
   refine yD (vM ?_)
   refine ⟨_,rfl,l,qs,rfl,.inl (SqL.of (sm _ _ hl)),fun c hc0=>?_⟩
   have u:=jM hc0 (.lst qs)
   refine vQ hn20 sm hY hle (by omega) u ?_
   intro D hnD hD
   rw [List.take_add_one,hp]
   refine (((hI D hnD hD).mono (NAt.same u)).snoc (v:=.ref c) (x:=p) ⟨c,qs,rfl,jD,(hq.mono (QAt.same sm)).mono (QAt.same u),fun z=>?_⟩).mono (NAt.put (u _ _ hY) hnD)
   by_cases e:c=n2
   ·rw [e,hY] at hc0;cases hc0
   ·cases hh:H2 c with
    |none=>exact hD _ z e hh
    |some o=>rw [sm _ _ hh] at hc0;cases hc0
  rintro ys H3 s3 hY hle hI
  rw [hN2.1,List.take_length] at hI
  refine ⟨_,rfl,x,cN,dx,_,rfl,s3 _ _ hx2,T.clN,T.nN_nights,by omega,?_⟩
  exact done n2 ys H3 (Keep.of s3) hn20 (s3 _ _ hx2) hY (fun D hD=>(hI (n2::D) List.mem_cons_self (fun d hd ne=>(List.mem_cons.mp hd).elim (fun z=>absurd z ne) (hD d))).mono (NAt.less (fun d hd=>List.mem_cons_of_mem _ hd)))
theorem dO:FnScope ["name","things","place","thing"] ["name","things"] (jG QC):=⟨rfl,rfl,rfl,by decide +kernel,rfl,by decide +kernel,by decide +kernel⟩
theorem pD {f:Addr} {fd:FuncData} (F:Fun K "place_called" "place_called" QC f fd) (T:Txt K mg cP cB cU cR cN tkS j0 jZ j7 j6 j4 j5 j3) : FnOk P w K mg base jR 1 f fd ["name","things"] (bH K):=by
 refine F.ok dO (fun vs H Q E h=>?_) (fun cdv A outer s H vs Q E hr h=>?_)
 ·obtain ⟨nm,l,us,zs,i₀,rfl,hl,hA,h100,hfirst,q⟩:=h
  rfl
 obtain ⟨nm,l,us,zs,i₀,rfl,hl,hA,h100,hfirst,q⟩:=h
 have hu:_<cLine:=hr.units0
 have hu1:=kD hr
 refine ⟨_,(@jH _ _ _ _ _ (vC PassesOwn.never rfl (AD (by rfl) T.z_enumerate (jA (pv 1) jC)) (cO rfl (yM (kM (i:=2) dO.nd rfl (by first|exact Or.inl rfl|exact Or.inr rfl)) (yM (kM (i:=3) dO.nd rfl (by first|exact Or.inl rfl|exact Or.inr rfl)) cD)))
    (@jE _ _ _ (jV (jQ kO (kP (pv 3) rfl) (pv 0) (jP _)) (@jE _ _ _ (@jS _ _ _ _ (pv 2))) j9)))
   (@jE _ _ _ vB)),?_⟩
 refine ⟨_,rfl,l,rfl,⟨_,SqL.of hl⟩,xP (K:=K) (a:=l) (xs:=us) (fun i σ Hi=>∃c2 c3:Option V,σ=[some (.str nm),some (.ref l),c2,c3]∧(∀j:Nat,j<i→zs[j]?≠some nm)∧Same H Hi) ⟨none,none,rfl,fun j hj=>absurd hj (Nat.not_lt_zero j),Same.refl _⟩ (fun i σ Hi _ ⟨_,_,_,_,s⟩=>SqL.of (s _ _ hl)) ?_ ?_⟩
 ·rintro i v σ Hi T₁ hv ⟨c2,c3,rfl,hno,sm⟩ hT
  obtain ⟨z,hz,x,C,dx,fs,rfl,hx,cC,nC,lk⟩:=hA.2 i v hv
  have u:=jM hT (.tup [V.int (i:Int),V.ref x])
  have smu:=sm.trans u
  refine ⟨T₁,_,rfl,SqT.of jD,rfl,_,_,rfl,_,_,rfl,rfl,?_⟩
  refine ⟨_,rfl,x,C,dx,_,_,rfl,smu _ _ hx,cC,nC,lk,_,rfl,rfl,_,rfl,?_⟩
  by_cases h:z=nm
  ·refine kL (congrArg V.str h) ⟨_,rfl,?_⟩
   obtain rfl:i=i₀:=FirstAt.uniq (show FirstAt zs nm i from ⟨by rw [← h];exact hz,hno⟩) hfirst
   exact q _ smu
  ·refine kG (fun e=>h (V.str.inj e)) ⟨_,_,rfl,fun j hj=>?_,smu⟩
   by_cases c:j=i
   ·rw [c,hz];exact fun e=>h (Option.some.inj e)
   ·exact hno j (by omega)
 rintro σ Hi ⟨c2,c3,rfl,hno,sm⟩
 have hl':i₀<zs.length:=(List.getElem?_eq_some_iff.mp hfirst.1).1
 exact absurd hfirst.1 (hno i₀ (by rw [hA.1];exact hl'))
theorem rN:FnScope ["word","signs"] ["word","signs"] (jG zX):=⟨rfl,rfl,rfl,by decide +kernel,rfl,by decide +kernel,by decide +kernel⟩
theorem pN {f:Addr} {fd:FuncData} (F:Fun K "written_with" "written_with" zX f fd) (T:Txt K mg cP cB cU cR cN tkS j0 jZ j7 j6 j4 j5 j3) : FnOk P w K mg base jR 1 f fd ["word","signs"] (eY):=by
 refine F.ok rN (fun vs H Q E h=>?_) (fun cdv A outer s H vs Q E hr h=>?_)
 ·obtain ⟨w,S,rfl,hw,q⟩:=h
  rfl
 obtain ⟨w,S,rfl,hw,q⟩:=h
 have hu:_<cLine:=hr.units0
 have hu1:=kD hr
 refine ⟨_,(@jE _ _ _ (@jS _ _ _ _ (fA (w8 QX QX jB (kA sD (by rfl) T.z_len PySem.boot_len (jA (pv 0) jC)) (vS (v:=.int 12) rfl T.g_MOST_SIGNS ⟨_,rfl⟩)) (cQ (kA (iO rfl) (by rfl) T.z_all PyProof.Rows.boot_all (jA (yO ["sign","signs"] (qV 1 [1]) rfl (vP (jG zX) rfl rfl (by decide +kernel) (by decide +kernel) (by decide +kernel)) (vF 1 [1] rfl rfl (by decide +kernel)) (BM (pv 0)) (fun _ _ _ _ _=>(kM (i:=0) (show List.Nodup (["sign","signs"]:List Str) from by decide +kernel) rfl (by first|exact Or.inl rfl|exact Or.inr rfl))) (fun _ _ _ _ _=>yA) (fun _ _ _ _ _=>(QR uL (pv 0) (pv 1) (by with_unfolding_all rfl)))) jC)))))),?_⟩
 have hws:w.length≤sizeLine:=small (by omega)
 refine ⟨_,rfl,w,rfl,hws,_,_,rfl,rfl,_,rfl,?_⟩
 have bad:∀H':Hp,Same H H'→qO S w=false→Q (.bl false) H':=fun H' s e=>by
  have:=q H' s
  rw [e] at this
  exact this
 by_cases h1:(1:Int)≤((w.length:Nat):Int)
 ·refine kL h1 ⟨_,_,rfl,rfl,_,rfl,?_⟩
  by_cases h2:((w.length:Nat):Int)≤12
  ·refine kL h2 ⟨_,rfl,w,rfl,fun D hD=>?_⟩
   refine wF (z:=w) (caps:=[some (.str S)]) (fun i ys Hi=>∃bs:List Bool,ys=bs.map V.bl∧bs.length=i∧bs.all id=JB S w i) hD ⟨[],rfl,rfl,rfl⟩ ?_ ?_
   ·rintro i c ys Hi hc hle sm hY ⟨bs,rfl,hbl,hba⟩
    have hi:i<w.length:=(Array.getElem?_eq_some_iff.mp hc).1
    refine yD (vM ⟨_,rfl,_,rfl,_,_,rfl,rfl,?_⟩)
    refine vQ hD sm hY hle (by omega) (Same.refl _) ⟨bs++[QY S c],by rw [List.map_append];rfl,by rw [List.length_append,hbl];rfl,?_⟩
    rw [wK hc,List.all_append,hba]
    simp
   ·rintro ys Hf sm hY hle ⟨bs,rfl,hbl,hba⟩
    refine ⟨D,bs,rfl,SqL.of hY,?_⟩
    have e:bs.all id=qO S w:=by
     unfold qO
     rw [hba,decide_eq_true (show 0<w.length by omega),decide_eq_true (show w.length<13 by omega)]
     rfl
    rw [e]
    exact q Hf sm
  ·refine kG h2 (bad H (Same.refl _) ?_)
   unfold qO
   rw [decide_eq_false (show ¬w.length<13 by omega),Bool.and_false]
   rfl
 ·refine kG h1 ⟨_,rfl,kS (bad H (Same.refl _) ?_)⟩
  unfold qO
  rw [decide_eq_false (show ¬0<w.length by omega)]
  rfl
theorem p9:FnScope ["word"] ["word"] (jG J7):=⟨rfl,rfl,rfl,by decide +kernel,rfl,by decide +kernel,by decide +kernel⟩
theorem o5 {f:Addr} {fd:FuncData} (F:Fun K "is_name" "is_name" J7 f fd) (T:Txt K mg cP cB cU cR cN tkS j0 jZ j7 j6 j4 j5 j3) (D_written_with:Def P w K mg base 1 "written_with" ["word","signs"] [] (eY)):FnOk P w K mg base jR 2 f fd ["word"] (iZ):=by
 refine F.ok p9 (fun vs H Q E h=>?_) (fun cdv A outer s H vs Q E hr h=>?_)
 ·obtain ⟨w,rfl,hw,q⟩:=h
  rfl
 obtain ⟨w,rfl,hw,q⟩:=h
 have hu:_<cLine:=hr.units0
 have hu1:=kD hr
 refine ⟨_,(@jE _ _ _ (@jS _ _ _ _ (jX D_written_with hr rfl (jA (pv 0) (jA (vS (v:=.str lettersS) rfl T.g_LETTERS ⟨_,rfl⟩) jC))))),?_⟩
 exact ⟨_,rfl,w,lettersS,rfl,hw,q⟩
theorem rA:FnScope ["word"] ["word"] (jG J8):=⟨rfl,rfl,rfl,by decide +kernel,rfl,by decide +kernel,by decide +kernel⟩
theorem o6 {f:Addr} {fd:FuncData} (F:Fun K "is_number" "is_number" J8 f fd) (T:Txt K mg cP cB cU cR cN tkS j0 jZ j7 j6 j4 j5 j3) (D_written_with:Def P w K mg base 1 "written_with" ["word","signs"] [] (eY)):FnOk P w K mg base jR 2 f fd ["word"] (lZ):=by
 refine F.ok rA (fun vs H Q E h=>?_) (fun cdv A outer s H vs Q E hr h=>?_)
 ·obtain ⟨w,rfl,hw,q⟩:=h
  rfl
 obtain ⟨w,rfl,hw,q⟩:=h
 have hu:_<cLine:=hr.units0
 have hu1:=kD hr
 refine ⟨_,(@jE _ _ _ (@jS _ _ _ _ (CG (QR kO (pv 0) kB (jP _)) (cQ (fA (jX D_written_with hr rfl (jA (pv 0) (jA (vS (v:=.str zA) rfl T.g_FIGURES ⟨_,rfl⟩) jC))) (cQ (QR qN (jI cS (pv 0) jB (fun _ _=>rfl)) kB (jP _)))))))),?_⟩
 refine ⟨_,rfl,rfl,_,rfl,?_⟩
 unfold QT at q
 by_cases h0:w="0"
 ·rw [decide_eq_true h0] at q
  exact kL (congrArg V.str h0) (q H (Same.refl _))
 rw [decide_eq_false h0,Bool.false_or] at q
 refine kG (fun z=>h0 (V.str.inj z)) ⟨_,rfl,w,zA,rfl,hw,fun H1 s1=>⟨_,rfl,?_⟩⟩
 by_cases hg:qO zA w=true
 ·obtain ⟨h1,h2,h3⟩:=gE hg
  rw [hg] at q ⊢
  rw [Bool.true_and] at q
  obtain ⟨c,hc,hc2⟩:=xU (z:=w) (i:=0) (Int.le_refl _) (by omega)
  refine vM ⟨_,rfl,w,_,c,rfl,rfl,small (by omega),hc,rfl,?_⟩
  rw [xR]
  have q:=q H1 s1
  rw [show w.cps[0]?=some c from hc2,show decide (some c=some 48)=decide (c=48) from decide_eq_decide.mpr ⟨fun e=>Option.some.inj e,fun e=>by rw [e]⟩] at q
  exact q
 ·rw [Bool.eq_false_iff.mpr hg] at q ⊢
  exact kS (q H1 s1)
theorem rC:FnScope ["word"] ["word"] (jG QB):=⟨rfl,rfl,rfl,by decide +kernel,rfl,by decide +kernel,by decide +kernel⟩
theorem pB {f:Addr} {fd:FuncData} (F:Fun K "number_of" "number_of" QB f fd) (T:Txt K mg cP cB cU cR cN tkS j0 jZ j7 j6 j4 j5 j3) (D_is_number:Def P w K mg base 2 "is_number" ["word"] [] (lZ)):FnOk P w K mg base jR 3 f fd ["word"] (lX):=by
 refine F.ok rC (fun vs H Q E h=>?_) (fun cdv A outer s H vs Q E hr h=>?_)
 ·obtain ⟨w,rfl,⟨hw,hn⟩,q⟩:=h
  rfl
 obtain ⟨w,rfl,⟨hw,hn⟩,q⟩:=h
 have hu:_<cLine:=hr.units0
 have hu1:=kD hr
 refine ⟨_,(@jH _ _ _ _ _ (jV (qG (qS (jX D_is_number hr rfl (jA (pv 0) jC)))) (@jE _ _ _ vB) j9)
   (@jE _ _ _ (@jS _ _ _ _ (yJ wI (by rfl) T.z_int PyProof.Rows.boot_int (jA (pv 0) jC))))),?_⟩
 refine ⟨_,rfl,w,rfl,hw,fun H1 s1=>⟨_,rfl,?_⟩⟩
 rw [hn]
 exact kS ⟨_,rfl,w,_,rfl,by omega,uO hw hn,q H1 s1⟩
theorem rD:FnScope ["words"] ["words"] (jG zT):=⟨rfl,rfl,rfl,by decide +kernel,rfl,by decide +kernel,by decide +kernel⟩
theorem pC {f:Addr} {fd:FuncData} (F:Fun K "numbers_of" "numbers_of" zT f fd) (T:Txt K mg cP cB cU cR cN tkS j0 jZ j7 j6 j4 j5 j3) (D_number_of:Def P w K mg base 3 "number_of" ["word"] [] (lX)):FnOk P w K mg base jR 4 f fd ["words"] (Z9):=by
 refine F.ok rD (fun vs H Q E h=>?_) (fun cdv A outer s H vs Q E hr h=>?_)
 ·obtain ⟨l,ws,rfl,hl,hall,h100,q⟩:=h
  rfl
 obtain ⟨l,ws,rfl,hl,hall,h100,q⟩:=h
 have hu:_<cLine:=hr.units0
 have hu1:=kD hr
 refine ⟨_,(@jE _ _ _ (@jS _ _ _ _ (yO ["word"] (qV 1 []) rfl (vP (jG zT) rfl rfl (by decide +kernel) (by decide +kernel) (by decide +kernel)) (vF 1 [] rfl rfl (by decide +kernel)) (q9 (pv 0)) (fun _ _ _ _ _=>(kM (i:=0) (show List.Nodup (["word"]:List Str) from by decide +kernel) rfl (by first|exact Or.inl rfl|exact Or.inr rfl))) (fun _ _ _ _ _=>yA) (fun _ _ _ _ _=>(jX D_number_of hr rfl (jA (pv 0) jC)))))),?_⟩
 refine ⟨_,rfl,l,rfl,⟨_,SqL.of hl⟩,fun D hD=>?_⟩
 refine v9 (K:=K) (a:=l) (xs:=ws.map V.str) (caps:=[]) (fun i ys Hi=>ys=((ws.take i).map zJ).map V.int) hD (SqL.of hl) rfl ?_ ?_
 ·rintro i v ys Hi hv hi hle sm hY rfl
  obtain ⟨w,hw,rfl⟩:=bZ hv
  have hi1:i<100:=by rw [List.length_map] at hi;omega
  refine yD (vM ⟨_,rfl,w,rfl,hall w (List.mem_of_getElem? hw),fun H1 s1=>?_⟩)
  refine vQ hD sm hY hle (by omega) s1 ?_
  rw [List.take_add_one,hw,List.map_append,List.map_append]
  rfl
 rintro ys Hf sm hY hle rfl
 rw [List.length_map,List.take_length] at hY
 exact q D Hf sm hD hY
theorem rJ:FnScope ["words"] ["words"] (jG zU):=⟨rfl,rfl,rfl,by decide +kernel,rfl,by decide +kernel,by decide +kernel⟩
theorem pJ {f:Addr} {fd:FuncData} (F:Fun K "refuse_no_names" "refuse_no_names" zU f fd) (T:Txt K mg cP cB cU cR cN tkS j0 jZ j7 j6 j4 j5 j3) (D_is_name:Def P w K mg base 2 "is_name" ["word"] [] (iZ)):FnOk P w K mg base jR 3 f fd ["words"] (bJ):=by
 refine F.ok rJ (fun vs H Q E h=>?_) (fun cdv A outer s H vs Q E hr h=>?_)
 ·obtain ⟨l,ws,rfl,hl,hall,h100,q⟩:=h
  rfl
 obtain ⟨l,ws,rfl,hl,hall,h100,q⟩:=h
 have hu:_<cLine:=hr.units0
 have hu1:=kD hr
 refine ⟨_,(@jE _ _ _ (jV (qG (qS (kA (iO rfl) (by rfl) T.z_all PyProof.Rows.boot_all (jA (yO ["word"] (qV 1 []) rfl (vP (jG zU) rfl rfl (by decide +kernel) (by decide +kernel) (by decide +kernel)) (vF 1 [] rfl rfl (by decide +kernel)) (q9 (pv 0)) (fun _ _ _ _ _=>(kM (i:=0) (show List.Nodup (["word"]:List Str) from by decide +kernel) rfl (by first|exact Or.inl rfl|exact Or.inr rfl))) (fun _ _ _ _ _=>yA) (fun _ _ _ _ _=>(jX D_is_name hr rfl (jA (pv 0) jC)))) jC)))) (@jE _ _ _ vB) j9)),?_⟩
 refine ⟨_,rfl,l,rfl,⟨_,SqL.of hl⟩,fun D hD=>?_⟩
 refine v9 (K:=K) (a:=l) (xs:=ws.map V.str) (caps:=[]) (fun i ys Hi=>ys=(List.replicate i true).map V.bl) hD (SqL.of hl) rfl ?_ ?_
 ·rintro i v ys Hi hv hi hle sm hY rfl
  obtain ⟨w,hw,rfl⟩:=bZ hv
  have hi1:i<100:=by rw [List.length_map] at hi;omega
  have hg:=hall w (List.mem_of_getElem? hw)
  refine yD (vM ⟨_,rfl,w,rfl,by have:=u0 hg;omega,fun H1 s1=>?_⟩)
  rw [show qO lettersS w=true from hg]
  refine vQ hD sm hY hle (by omega) s1 ?_
  rw [List.replicate_succ',List.map_append]
  rfl
 rintro ys Hf sm hY hle rfl
 refine ⟨D,_,rfl,SqL.of hY,_,rfl,?_⟩
 rw [show (List.replicate (ws.map V.str).length true).all id=true by simp]
 exact kS (q Hf sm)
theorem rK:FnScope ["name","things"] ["name","things"] (jG zV):=⟨rfl,rfl,rfl,by decide +kernel,rfl,by decide +kernel,by decide +kernel⟩
theorem pK {f:Addr} {fd:FuncData} (F:Fun K "refuse_told" "refuse_told" zV f fd) (T:Txt K mg cP cB cU cR cN tkS j0 jZ j7 j6 j4 j5 j3) : FnOk P w K mg base jR 1 f fd ["name","things"] (eZ K):=by
 refine F.ok rK (fun vs H Q E h=>?_) (fun cdv A outer s H vs Q E hr h=>?_)
 ·obtain ⟨nm,l,us,zs,rfl,hl,hA,h100,hno,q⟩:=h
  rfl
 obtain ⟨nm,l,us,zs,rfl,hl,hA,h100,hno,q⟩:=h
 have hu:_<cLine:=hr.units0
 have hu1:=kD hr
 refine ⟨_,(@jE _ _ _ (jV (jQ uM (pv 0) (yO ["thing"] (qV 1 []) rfl (vP (jG zV) rfl rfl (by decide +kernel) (by decide +kernel) (by decide +kernel)) (vF 1 [] rfl rfl (by decide +kernel)) (q9 (pv 1)) (fun _ _ _ _ _=>(kM (i:=0) (show List.Nodup (["thing"]:List Str) from by decide +kernel) rfl (by first|exact Or.inl rfl|exact Or.inr rfl))) (fun _ _ _ _ _=>yA) (fun _ _ _ _ _=>(AF K (pv 0) rfl))) (by with_unfolding_all rfl)) (@jE _ _ _ vB) j9)),?_⟩
 refine ⟨_,rfl,_,rfl,l,rfl,⟨_,SqL.of hl⟩,fun D hD=>?_⟩
 refine v9 (K:=K) (a:=l) (xs:=us) (caps:=[]) (fun i ys Hi=>ys=(zs.take i).map V.str) hD (SqL.of hl) rfl ?_ ?_
 ·rintro i v ys Hi hv hi hle sm hY rfl
  obtain ⟨z,hz,x,C,dx,fs,rfl,hx,cC,nC,lk⟩:=hA.2 i v hv
  refine yD (vM ⟨_,rfl,x,C,dx,_,_,rfl,sm _ _ hx,cC,nC,lk,?_⟩)
  refine vQ hD sm hY hle (by omega) (Same.refl _) ?_
  rw [List.take_add_one,hz,List.map_append]
  rfl
 rintro ys Hf sm hY hle rfl
 rw [hA.1,List.take_length] at hY
 refine ⟨D,_,rfl,.inl (SqL.of hY),rfl,t9 zs,_,rfl,?_⟩
 rw [show (if false=true then !JF (V.str nm) (zs.map V.str) else JF (V.str nm) (zs.map V.str))=false from AJ hno]
 exact kS (q Hf sm)
theorem rG:FnScope ["reach"] ["reach"] (jG QG):=⟨rfl,rfl,rfl,by decide +kernel,rfl,by decide +kernel,by decide +kernel⟩
theorem pH {f:Addr} {fd:FuncData} (F:Fun K "refuse_bad_reach" "refuse_bad_reach" QG f fd) (T:Txt K mg cP cB cU cR cN tkS j0 jZ j7 j6 j4 j5 j3) : FnOk P w K mg base jR 1 f fd ["reach"] (gM cR):=by
 refine F.ok rG (fun vs H Q E h=>?_) (fun cdv A outer s H vs Q E hr h=>?_)
 ·obtain ⟨y,r,rfl,⟨dy,gs,hy,hg⟩,h1,h2,h3,q⟩:=h
  rfl
 obtain ⟨y,r,rfl,⟨dy,gs,hy,hg⟩,h1,h2,h3,q⟩:=h
 have hu:_<cLine:=hr.units0
 have hu1:=kD hr
 refine ⟨_,(@jH _ _ _ _ _ (jV (jQ m8 (kP (pv 0) rfl) (kP (pv 0) rfl) (jP _)) (@jE _ _ _ vB) j9)
   (@jE _ _ _ (jV (qG (lC QX QX jB (kP (pv 0) rfl) (vS (v:=.int 9) rfl T.g_MOST_BERTHS ⟨_,rfl⟩))) (@jE _ _ _ vB) j9))),?_⟩
 refine ⟨_,rfl,y,cR,dy,_,_,rfl,hy,T.clR,T.nR_least,hg.2.1,_,rfl,y,cR,dy,_,_,rfl,hy,T.clR,T.nR_crest,hg.2.2.1,_,_,rfl,rfl,_,rfl,kG (by omega) ?_⟩
 refine ⟨_,rfl,y,cR,dy,_,_,rfl,hy,T.clR,T.nR_berths,hg.2.2.2.1,_,_,rfl,rfl,_,rfl,kL h2 ⟨_,_,rfl,rfl,_,rfl,qD h3 q⟩⟩
theorem rF:FnScope ["lock"] ["lock"] (jG QF):=⟨rfl,rfl,rfl,by decide +kernel,rfl,by decide +kernel,by decide +kernel⟩
theorem pG {f:Addr} {fd:FuncData} (F:Fun K "refuse_bad_lock" "refuse_bad_lock" QF f fd) (T:Txt K mg cP cB cU cR cN tkS j0 jZ j7 j6 j4 j5 j3) (MP_extra:MeK P w K mg base 1 (jO cP cB cU) "extra" ["self"] (qR (jO cP cB cU) (fun kd v=>V.int (match kd with|.plain=>0|.basin=>v|.pump=>v)))) (MP_kind:MeK P w K mg base 1 (jO cP cB cU) "kind" ["self"] (qR (jO cP cB cU) (fun kd _=>V.str (match kd with|.plain=>"plain"|.basin=>"basin"|.pump=>"pump")))):FnOk P w K mg base jR 2 f fd ["lock"] (g0 (jO cP cB cU)):=by
 refine F.ok rF (fun vs H Q E h=>?_) (fun cdv A outer s H vs Q E hr h=>?_)
 ·obtain ⟨y,l,rfl,⟨dl,hl⟩,h1,h2,h3,q⟩:=h
  rfl
 obtain ⟨y,l,rfl,⟨dl,hl⟩,h1,h2,h3,q⟩:=h
 have hu:_<cLine:=hr.units0
 have hu1:=kD hr
 refine ⟨_,(@jH _ _ _ _ _ (jV (jQ fF (kP (pv 0) rfl) (kP (pv 0) rfl) (jP _)) (@jE _ _ _ vB) j9)
   (@jH _ _ _ _ _ (jV (jQ kO (kP (pv 0) rfl) jB (jP _)) (@jE _ _ _ vB) j9)
   (@jE _ _ _ (jV (PW.pt (ZN (jQ qN (ZR MP_kind hr (pv 0)) kB (jP _)) (cA (qG (lC QX QX jB (ZR MP_extra hr (pv 0)) (kP (pv 0) rfl)))))) (@jE _ _ _ vB) j9)))),?_⟩
 refine ⟨_,rfl,y,_,dl,_,_,rfl,hl,T.cl l.kd,T.n_low l.kd,cT l.kd _ _ _ _ _,_,rfl,y,_,dl,_,_,rfl,hl,T.cl l.kd,T.n_high l.kd,cH l.kd _ _ _ _ _,_,_,rfl,rfl,_,rfl,kG (by omega) ?_⟩
 refine ⟨_,rfl,y,_,dl,_,_,rfl,hl,T.cl l.kd,T.n_room l.kd,QS l.kd _ _ _ _ _,rfl,_,rfl,kG (fun z=>h2 (V.int.inj z)) ?_⟩
 obtain ⟨nm,hi,lo,ro,kd,ex⟩:=l
 cases kd with
 |plain =>
  refine ⟨_,rfl,.plain,y,dl,_,rfl,hl,y0 .plain _ _ _ _ _,y,_,_,_,_,_,rfl,⟨dl,hl⟩,rfl,_,rfl,qD rfl (kS q)⟩
 |basin =>
  refine ⟨_,rfl,.basin,y,dl,_,rfl,hl,y0 .basin _ _ _ _ _,y,_,_,_,_,_,rfl,⟨dl,hl⟩,rfl,_,rfl,ZV (fun z=>absurd (V.str.inj z) (by decide +kernel)) ?_⟩
  refine ⟨_,rfl,.basin,y,dl,_,rfl,hl,ZG .basin _ _ _ _ _,y,_,_,_,_,_,rfl,⟨dl,hl⟩,_,_,rfl,rfl,_,rfl,kL (h3 (fun z=>nomatch z)).1 ⟨_,rfl,y,_,dl,_,_,rfl,hl,T.cl .basin,T.n_room .basin,QS .basin _ _ _ _ _,_,_,rfl,rfl,_,rfl,qD (h3 (fun z=>nomatch z)).2 q⟩⟩
 |pump =>
  refine ⟨_,rfl,.pump,y,dl,_,rfl,hl,y0 .pump _ _ _ _ _,y,_,_,_,_,_,rfl,⟨dl,hl⟩,rfl,_,rfl,ZV (fun z=>absurd (V.str.inj z) (by decide +kernel)) ?_⟩
  refine ⟨_,rfl,.pump,y,dl,_,rfl,hl,ZG .pump _ _ _ _ _,y,_,_,_,_,_,rfl,⟨dl,hl⟩,_,_,rfl,rfl,_,rfl,kL (h3 (fun z=>nomatch z)).1 ⟨_,rfl,y,_,dl,_,_,rfl,hl,T.cl .pump,T.n_room .pump,QS .pump _ _ _ _ _,_,_,rfl,rfl,_,rfl,qD (h3 (fun z=>nomatch z)).2 q⟩⟩
theorem rH:FnScope ["things","most"] ["things","most"] (jG QH):=⟨rfl,rfl,rfl,by decide +kernel,rfl,by decide +kernel,by decide +kernel⟩
theorem pI {f:Addr} {fd:FuncData} (F:Fun K "refuse_many" "refuse_many" QH f fd) (T:Txt K mg cP cB cU cR cN tkS j0 jZ j7 j6 j4 j5 j3) : FnOk P w K mg base jR 1 f fd ["things","most"] (cK):=by
 refine F.ok rH (fun vs H Q E h=>?_) (fun cdv A outer s H vs Q E hr h=>?_)
 ·obtain ⟨l,us,m,rfl,hl,hm,q⟩:=h
  rfl
 obtain ⟨l,us,m,rfl,hl,hm,q⟩:=h
 have hu:_<cLine:=hr.units0
 have hu1:=kD hr
 refine ⟨_,(@jE _ _ _ (jV (jQ fF (kA kX (by rfl) T.z_len PySem.boot_len (jA (pv 0) jC)) (pv 1) (jP _)) (@jE _ _ _ vB) j9)),?_⟩
 exact ⟨_,rfl,l,_,rfl,.inl (SqL.of hl),_,rfl,_,_,rfl,rfl,_,rfl,kG (by omega) q⟩
theorem rM:FnScope ["night","many"] ["night","many"] (jG QI):=⟨rfl,rfl,rfl,by decide +kernel,rfl,by decide +kernel,by decide +kernel⟩
theorem pM {f:Addr} {fd:FuncData} (F:Fun K "widened" "widened" QI f fd) (T:Txt K mg cP cB cU cR cN tkS j0 jZ j7 j6 j4 j5 j3) : FnOk P w K mg base jR 1 f fd ["night","many"] (d5):=by
 refine F.ok rM (fun vs H Q E h=>?_) (fun cdv A outer s H vs Q E hr h=>?_)
 ·obtain ⟨l,qs,p,n,rfl,hl,hA,hpn,hn,q⟩:=h
  rfl
 obtain ⟨l,qs,p,n,rfl,hl,hA,hpn,hn,q⟩:=h
 have hu:_<cLine:=hr.units0
 have hu1:=kD hr
 refine ⟨_,(@jE _ _ _ (@jS _ _ _ _ (@jF _ _ _ _ _ _ _ _ z6 (pv 0) (@jF _ _ _ _ _ _ _ _ BR (kZ (jA (yQ (jA jB (jA jB jC))) jC)) (@jF _ _ _ _ _ _ _ _ yR (pv 1) (kA kX (by rfl) T.z_len PySem.boot_len (jA (pv 0) jC))))))),?_⟩
 have hlen:qs.length=p.length:=hA.1
 refine ⟨_,rfl,zz2,fun t ht=>?_⟩
 have s1:=jM ht (.tup [V.int 0,V.int 0])
 refine ⟨zz1,fun b hb=>?_⟩
 have s2:=jM hb (.lst [V.ref t])
 have s12:=s1.trans s2
 refine ⟨_,rfl,_,rfl,l,_,rfl,.inl (SqL.of (s12 _ _ hl)),_,_,rfl,rfl,b,_,_,rfl,rfl,jD,by omega,by omega,?_,fun c hc=>?_⟩
 ·have:(1000:Nat)≤sizeLine:=by decide
  rw [List.length_singleton];omega
 have s3:=jM hc (.lst (List.replicate ((n:Int) - ((qs.length:Nat):Int)).toNat [V.ref t]).flatten)
 have e:(List.replicate ((n:Int) - ((qs.length:Nat):Int)).toNat [V.ref t]).flatten=List.replicate (n - p.length) (V.ref t):=by
  rw [show ((n:Int) - ((qs.length:Nat):Int)).toNat=n - p.length by omega]
  generalize n - p.length=m
  induction m with
  |zero=>rfl
  |succ m ih=>rw [List.replicate_succ,List.flatten_cons,ih,List.replicate_succ];rfl
 rw [e] at s3 ⊢
 refine ⟨l,c,_,_,rfl,rfl,s3 _ _ (s12 _ _ hl),jD,?_,fun d hd=>?_⟩
 ·have:(1000:Nat)≤sizeLine:=by decide
  rw [List.length_replicate];omega
 have s4:=jM hd (.lst (qs++List.replicate (n - p.length) (V.ref t)))
 have s14:=(s12.trans s3).trans s4
 refine q d _ _ s14 ((s12.trans s3).free hd) jD ?_
 have hz:AllAt (QAt (upd (upd (upd (upd H t (.tup [V.int 0,V.int 0])) b (.lst [V.ref t])) c (.lst (List.replicate (n - p.length) (V.ref t)))) d (.lst (qs++List.replicate (n - p.length) (V.ref t))))) (List.replicate (n - p.length) (V.ref t)) (List.replicate (n - p.length) ((0:Int),(0:Int))):=by
  refine ⟨by rw [List.length_replicate,List.length_replicate],fun i v hv=>?_⟩
  rw [List.getElem?_replicate] at hv
  by_cases hi:i<n - p.length
  ·rw [if_pos hi] at hv
   cases hv
   exact ⟨(0,0),by rw [List.getElem?_replicate,if_pos hi],t,rfl,s4 _ _ (s3 _ _ (s2 _ _ jD))⟩
  ·rw [if_neg hi] at hv;cases hv
 exact (hA.mono (QAt.same s14)).append hz
theorem rB:FnScope ["words","high","low","numbers"] ["words","high","low","numbers"] (jG J9):=⟨rfl,rfl,rfl,by decide +kernel,rfl,by decide +kernel,by decide +kernel⟩
theorem o8 {f:Addr} {fd:FuncData} (F:Fun K "lock_made" "lock_made" J9 f fd) (T:Txt K mg cP cB cU cR cN tkS j0 jZ j7 j6 j4 j5 j3) (M_PlainLock:MkD P w K mg base 1 "PlainLock" cP ["self","name","high","low","room"] (QQ (jO cP cB cU))) (M_BasinLock:MkD P w K mg base 2 "BasinLock" cB ["self","name","high","low","room","side"] (QP (jO cP cB cU) .basin)) (M_PumpLock:MkD P w K mg base 2 "PumpLock" cU ["self","name","high","low","room","lift"] (QP (jO cP cB cU) .pump)):FnOk P w K mg base jR 4 f fd ["words","high","low","numbers"] (gL (jO cP cB cU)):=by
 refine F.ok rB (fun vs H Q E h=>?_) (fun cdv A outer s H vs Q E hr h=>?_)
 ·obtain ⟨wl,nl,a,nm,b,c,d,kd,hi,lo,ro,ex,ext,ns,rfl,hwl,hnl,hcase,q⟩:=h
  rfl
 obtain ⟨wl,nl,a,nm,b,c,d,kd,hi,lo,ro,ex,ext,ns,rfl,hwl,hnl,hcase,q⟩:=h
 have hu:_<cLine:=hr.units0
 have hu1:=kD hr
 refine ⟨_,(@jH _ _ _ _ _ (jV (jQ kO (kA kX (by rfl) T.z_len PySem.boot_len (jA (pv 0) jC)) jB (jP _)) (@jE _ _ _ (@jS _ _ _ _ (ZT M_PlainLock hr rfl (@jA _ _ _ _ _ (jI jN (pv 0) jB (fun _ _=>rfl)) (@jA _ _ _ _ _ (pv 1) (@jA _ _ _ _ _ (pv 2) (@jA _ _ _ _ _ (jI jN (pv 3) jB (fun _ _=>rfl)) jC (by rfl)) (by rfl)) (by rfl)) (by rfl))))) j9)
   (@jH _ _ _ _ _ (jV (jQ kO (jI jN (pv 0) jB (fun _ _=>rfl)) kB (jP _)) (@jE _ _ _ (@jS _ _ _ _ (ZT M_BasinLock hr rfl (@jA _ _ _ _ _ (jI jN (pv 0) jB (fun _ _=>rfl)) (@jA _ _ _ _ _ (pv 1) (@jA _ _ _ _ _ (pv 2) (@jA _ _ _ _ _ (jI jN (pv 3) jB (fun _ _=>rfl)) (@jA _ _ _ _ _ (jI jN (pv 3) jB (fun _ _=>rfl)) jC (by rfl)) (by rfl)) (by rfl)) (by rfl)) (by rfl))))) j9)
   (@jE _ _ _ (@jS _ _ _ _ (ZT M_PumpLock hr rfl (@jA _ _ _ _ _ (jI jN (pv 0) jB (fun _ _=>rfl)) (@jA _ _ _ _ _ (pv 1) (@jA _ _ _ _ _ (pv 2) (@jA _ _ _ _ _ (jI jN (pv 3) jB (fun _ _=>rfl)) (@jA _ _ _ _ _ (jI jN (pv 3) jB (fun _ _=>rfl)) jC (by rfl)) (by rfl)) (by rfl)) (by rfl)) (by rfl))))))),?_⟩
 rcases hcase with ⟨rfl,rfl,rfl⟩|⟨g,hk,rfl,rfl⟩
 ·refine ⟨_,rfl,wl,_,rfl,.inl (SqL.of hwl),rfl,_,rfl,kL rfl ⟨_,rfl,wl,_,_,_,rfl,rfl,SqL.of hwl,rfl,_,rfl,_,rfl,_,rfl,nl,_,_,_,rfl,rfl,SqL.of hnl,rfl,?_⟩⟩
  intro x dx nx ndx nex
  refine ⟨.plain,x,dx,_,_,_,_,rfl,jD,fun H' kp hx=>⟨rfl,?_⟩⟩
  refine q x H' (fun b₁ o e=>?_) nx ⟨dx,hx⟩
  refine kp b₁ o (j8 e nx) ?_
  rw [jY (j8 e nx),jY (j8 e ndx)]
  exact e
 refine ⟨_,rfl,wl,_,rfl,.inl (SqL.of hwl),rfl,_,rfl,kG (fun z=>absurd (V.int.inj z) (by show ¬((7:Int)=5);decide)) ?_⟩
 cases kd with
 |plain=>exact absurd rfl hk
 |basin =>
  refine ⟨_,rfl,wl,_,_,_,rfl,rfl,SqL.of hwl,rfl,rfl,_,rfl,kL rfl ⟨_,rfl,wl,_,_,_,rfl,rfl,SqL.of hwl,rfl,_,rfl,_,rfl,_,rfl,nl,_,_,_,rfl,rfl,SqL.of hnl,rfl,_,rfl,nl,_,_,_,rfl,rfl,SqL.of hnl,rfl,?_⟩⟩
  intro x dx nx ndx nex
  refine ⟨x,dx,_,_,_,_,_,rfl,jD,fun H' kp hx=>⟨rfl,?_⟩⟩
  refine q x H' (fun b₁ o e=>?_) nx ⟨dx,hx⟩
  refine kp b₁ o (j8 e nx) ?_
  rw [jY (j8 e nx),jY (j8 e ndx)]
  exact e
 |pump =>
  refine ⟨_,rfl,wl,_,_,_,rfl,rfl,SqL.of hwl,rfl,rfl,_,rfl,kG (fun z=>DL (V.str.inj z)) ⟨_,rfl,wl,_,_,_,rfl,rfl,SqL.of hwl,rfl,_,rfl,_,rfl,_,rfl,nl,_,_,_,rfl,rfl,SqL.of hnl,rfl,_,rfl,nl,_,_,_,rfl,rfl,SqL.of hnl,rfl,?_⟩⟩
  intro x dx nx ndx nex
  refine ⟨x,dx,_,_,_,_,_,rfl,jD,fun H' kp hx=>⟨rfl,?_⟩⟩
  refine q x H' (fun b₁ o e=>?_) nx ⟨dx,hx⟩
  refine kp b₁ o (j8 e nx) ?_
  rw [jY (j8 e nx),jY (j8 e ndx)]
  exact e
theorem Z7:FnScope ["words","reaches","numbers","target","reach"] ["words","reaches"] (jG QD):=⟨rfl,rfl,rfl,by decide +kernel,rfl,by decide +kernel,by decide +kernel⟩
theorem pE {f:Addr} {fd:FuncData} (F:Fun K "reach_read" "reach_read" QD f fd) (T:Txt K mg cP cB cU cR cN tkS j0 jZ j7 j6 j4 j5 j3) (D_refuse_no_names:Def P w K mg base 3 "refuse_no_names" ["words"] [] (bJ)) (D_numbers_of:Def P w K mg base 4 "numbers_of" ["words"] [] (Z9)) (D_refuse_told:Def P w K mg base 1 "refuse_told" ["name","things"] [] (eZ K)) (D_place_called:Def P w K mg base 1 "place_called" ["name","things"] [] (bH K)) (M_Reach:MkD P w K mg base 1 "Reach" cR ["self","name","least","crest","berths","water","target"] (dS cR)) (D_refuse_bad_reach:Def P w K mg base 1 "refuse_bad_reach" ["reach"] [] (gM cR)) (D_refuse_many:Def P w K mg base 1 "refuse_many" ["things","most"] [] (cK)):FnOk P w K mg base jR 5 f fd ["words","reaches"] (fZ cR):=by
 refine F.ok Z7 (fun vs H Q E h=>?_) (fun cdv A outer s H vs Q E hr h=>?_)
 ·obtain ⟨wl,rl,ws,rs,R,r,rfl,hwl,hrl,hR,⟨w2,w3,w4,w5,tg,rfl,hsea,n1,n6,m2,m3,m4,m5,hno,htg,c1,c2,c3,c4⟩,q⟩:=h
  rfl
 obtain ⟨wl,rl,ws,rs,R,r,rfl,hwl,hrl,hR,⟨w2,w3,w4,w5,tg,rfl,hsea,n1,n6,m2,m3,m4,m5,hno,htg,c1,c2,c3,c4⟩,q⟩:=h
 have hu:_<cLine:=hr.units0
 have hu1:=kD hr
 refine ⟨_,(@jH _ _ _ _ _ (jV (PW.pt (v1 (jQ qN (kA kX (by rfl) T.z_len PySem.boot_len (jA (pv 0) jC)) jB (jP _)) (yE (jQ kO (jI jN (pv 0) jB (fun _ _=>rfl)) kB (jP _))))) (@jE _ _ _ vB) j9)
   (@jH _ _ _ _ _ (kW (jX D_refuse_no_names hr rfl (jA (kZ (jA (jI jN (pv 0) jB (fun _ _=>rfl)) (jA (jI jN (pv 0) jB (fun _ _=>rfl)) jC))) jC)))
   (@jH _ _ _ _ _ (jU (i:=2) Z7.nd rfl (by first|exact Or.inl rfl|exact Or.inr rfl) (jX D_numbers_of hr rfl (jA (v0 ZH (pv 0) (qA jB) (qA jB)) jC)))
   (@jH _ _ _ _ _ (kW (jX D_refuse_told hr rfl (jA (jI jN (pv 0) jB (fun _ _=>rfl)) (jA (pv 1) jC))))
   (vH (jU (i:=3) Z7.nd rfl (by first|exact Or.inl rfl|exact Or.inr rfl) (eM (jQ kO (jI jN (pv 0) jB (fun _ _=>rfl)) kB (jP _)) (vS (v:=.int (-1)) rfl T.g_SEA ⟨_,rfl⟩) (jX D_place_called hr rfl (jA (jI jN (pv 0) jB (fun _ _=>rfl)) (jA (pv 1) jC)))))
   (@jH _ _ _ _ _ (jU (i:=4) Z7.nd rfl (by first|exact Or.inl rfl|exact Or.inr rfl) (ZT M_Reach hr rfl (@jA _ _ _ _ _ (jI jN (pv 0) jB (fun _ _=>rfl)) (@jA _ _ _ _ _ (jI jN (pv 2) jB (fun _ _=>rfl)) (@jA _ _ _ _ _ (jI jN (pv 2) jB (fun _ _=>rfl)) (@jA _ _ _ _ _ (jI jN (pv 2) jB (fun _ _=>rfl)) (@jA _ _ _ _ _ (jI jN (pv 2) jB (fun _ _=>rfl)) (@jA _ _ _ _ _ (pv 3) jC (by rfl)) (by rfl)) (by rfl)) (by rfl)) (by rfl)) (by rfl))))
   (@jH _ _ _ _ _ (kW (jX D_refuse_bad_reach hr rfl (jA (pv 4) jC)))
   (@jH _ _ _ _ _ (kW (jX D_refuse_many hr rfl (jA (pv 1) (jA (vS (v:=.int 8) rfl T.g_MOST_REACHES ⟨_,rfl⟩) jC))))
   (@jE _ _ _ (@jS _ _ _ _ (pv 4))))))))))),?_⟩
 have hr8:rs.length<8:=by rw [hR.1];exact c4
 refine ⟨_,rfl,wl,_,rfl,.inl (SqL.of hwl),rfl,_,rfl,qD rfl ⟨_,rfl,wl,_,_,_,rfl,rfl,SqL.of hwl,rfl,rfl,_,rfl,kG (fun z=>hsea (V.str.inj z)) ?_⟩⟩
 refine ⟨_,rfl,wl,_,_,_,rfl,rfl,SqL.of hwl,rfl,_,rfl,wl,_,_,_,rfl,rfl,SqL.of hwl,rfl,zz2,fun p hp=>?_⟩
 have s1:=jM hp (.lst [V.str r.name,V.str tg])
 refine ⟨p,[r.name,tg],rfl,jD,fun w hw=>?_,(by show 2≤100;decide),fun H2 s2=>?_⟩
 ·rcases List.mem_cons.mp hw with rfl|hw
  ·exact n1
  ·rw [List.mem_singleton.mp hw];exact n6
 have s12:=s1.trans s2
 refine ⟨_,rfl,_,rfl,_,rfl,wl,_,rfl,SqL.of (s12 _ _ hwl),fun c hc=>?_⟩
 have s3:=jM hc (.lst ([w2,w3,w4,w5].map V.str))
 refine ⟨c,[w2,w3,w4,w5],rfl,jD,fun w hw=>?_,(by show 4≤100;decide),fun nl H4 s4 hn0 hnl=>?_⟩
 ·simp only [List.mem_cons,List.mem_nil_iff,or_false] at hw
  rcases hw with rfl|rfl|rfl|rfl
  ·exact m2.1
  ·exact m3.1
  ·exact m4.1
  ·exact m5.1
 have s14:=s12.trans (s3.trans s4)
 rw [show ([w2,w3,w4,w5].map zJ).map V.int=[V.int r.least,V.int r.crest,V.int r.berths,V.int r.water] by rw [← m2.2,← m3.2,← m4.2,← m5.2];rfl] at hnl
 refine ⟨_,rfl,wl,_,_,_,rfl,rfl,SqL.of (s14 _ _ hwl),rfl,_,rfl,r.name,rl,rs,qH R,rfl,s14 _ _ hrl,ZI T.clR T.nR_name (hR.mono (RcO.same s14)),by omega,hno,fun H5 s5=>?_⟩
 have s15:=s14.trans s5
 refine ⟨fun σ' H'=>σ'=[some (.ref wl),some (.ref rl),some (.ref nl),some (.int r.target),none]∧Same H5 H',?_,?_⟩
 ·refine ⟨_,rfl,wl,_,_,_,rfl,rfl,SqL.of (s15 _ _ hwl),rfl,rfl,_,rfl,?_⟩
  rcases htg with ⟨e1,e2⟩|⟨e1,i,e2,e3⟩
  ·refine kL (congrArg V.str e1) ⟨?_,Same.refl _⟩
   rw [e2];rfl
  ·refine kG (fun z=>e1 (V.str.inj z)) ⟨_,rfl,wl,_,_,_,rfl,rfl,SqL.of (s15 _ _ hwl),rfl,_,rfl,tg,rl,rs,qH R,i,rfl,s15 _ _ hrl,ZI T.clR T.nR_name (hR.mono (RcO.same s15)),by omega,e2,fun H6 s6=>⟨?_,s6⟩⟩
   rw [e3];rfl
 rintro σ' H6 ⟨rfl,s6⟩
 have s16:=s15.trans s6
 have hnl6:=s6 _ _ (s5 _ _ hnl)
 refine ⟨_,rfl,wl,_,_,_,rfl,rfl,SqL.of (s16 _ _ hwl),rfl,_,rfl,nl,_,_,_,rfl,rfl,SqL.of hnl6,rfl,_,rfl,nl,_,_,_,rfl,rfl,SqL.of hnl6,rfl,_,rfl,nl,_,_,_,rfl,rfl,SqL.of hnl6,rfl,_,rfl,nl,_,_,_,rfl,rfl,SqL.of hnl6,rfl,_,rfl,?_⟩
 intro x dx nx ndx nex
 refine ⟨x,dx,_,_,_,_,_,_,rfl,jD,fun H' fs kp hx hfl=>⟨rfl,?_⟩⟩
 have u:Same H6 H':=fun b o e=>kp b o (j8 e nx) (by rw [jY (j8 e nx),jY (j8 e ndx)];exact e)
 have hrc:RcAt cR H' x r:=⟨dx,fs,hx,hfl⟩
 refine ⟨_,rfl,x,r,rfl,hrc,c1,c2,c3,?_⟩
 refine ⟨_,rfl,rl,rs,8,rfl,u _ _ (s16 _ _ hrl),by omega,?_⟩
 exact ⟨_,rfl,q x H' (s16.trans u) (s16.free nx) hrc⟩
theorem Q5:FnScope ["words","reaches","locks","numbers","high","low","lock"] ["words","reaches","locks"] (jG QA):=⟨rfl,rfl,rfl,by decide +kernel,rfl,by decide +kernel,by decide +kernel⟩
theorem o9 {f:Addr} {fd:FuncData} (F:Fun K "lock_read" "lock_read" QA f fd) (T:Txt K mg cP cB cU cR cN tkS j0 jZ j7 j6 j4 j5 j3) (D_refuse_no_names:Def P w K mg base 3 "refuse_no_names" ["words"] [] (bJ)) (D_numbers_of:Def P w K mg base 4 "numbers_of" ["words"] [] (Z9)) (D_refuse_told:Def P w K mg base 1 "refuse_told" ["name","things"] [] (eZ K)) (D_place_called:Def P w K mg base 1 "place_called" ["name","things"] [] (bH K)) (D_lock_made:Def P w K mg base 4 "lock_made" ["words","high","low","numbers"] [] (gL (jO cP cB cU))) (D_refuse_bad_lock:Def P w K mg base 2 "refuse_bad_lock" ["lock"] [] (g0 (jO cP cB cU))) (D_refuse_many:Def P w K mg base 1 "refuse_many" ["things","most"] [] (cK)):FnOk P w K mg base jR 5 f fd ["words","reaches","locks"] (gK (jO cP cB cU) cR):=by
 refine F.ok Q5 (fun vs H Q E h=>?_) (fun cdv A outer s H vs Q E hr h=>?_)
 ·obtain ⟨wl,rl,ll,ws,rs,ls,R,L,l,rfl,hwl,hrl,hll,hR,hL,h8,⟨hi,lo,w4,ext,i,j,hws,n1,n2,n3,m4,hcase,hno,f1,e1,f2,e2,c1,c2,c3,c4⟩,q⟩:=h
  rfl
 obtain ⟨wl,rl,ll,ws,rs,ls,R,L,l,rfl,hwl,hrl,hll,hR,hL,h8,⟨hi,lo,w4,ext,i,j,hws,n1,n2,n3,m4,hcase,hno,f1,e1,f2,e2,c1,c2,c3,c4⟩,q⟩:=h
 have hu:_<cLine:=hr.units0
 have hu1:=kD hr
 refine ⟨_,(vH (jV (PW.pt (ZN (jQ qN (kA kX (by rfl) T.z_len PySem.boot_len (jA (pv 0) jC)) jB (jP _)) (cA (PW.pt (v1 (jQ qN (kA kX (by rfl) T.z_len PySem.boot_len (jA (pv 0) jC)) jB (jP _)) (yE (jQ rZ (jI jN (pv 0) jB (fun _ _=>rfl)) (yQ (jA kB (jA kB jC))) (by with_unfolding_all rfl)))))))) (@jE _ _ _ vB) j9)
   (@jH _ _ _ _ _ (kW (jX D_refuse_no_names hr rfl (jA (v0 ZH (pv 0) (qA jB) (qA jB)) jC)))
   (@jH _ _ _ _ _ (jU (i:=3) Q5.nd rfl (by first|exact Or.inl rfl|exact Or.inr rfl) (jX D_numbers_of hr rfl (jA (@jF _ _ _ _ _ _ _ _ z6 (v0 ZH (pv 0) (qA jB) (qA jB)) (v0 ZH (pv 0) (qA jB) yN)) jC)))
   (@jH _ _ _ _ _ (kW (jX D_refuse_told hr rfl (jA (jI jN (pv 0) jB (fun _ _=>rfl)) (jA (pv 2) jC))))
   (@jH _ _ _ _ _ (jU (i:=4) Q5.nd rfl (by first|exact Or.inl rfl|exact Or.inr rfl) (jX D_place_called hr rfl (jA (jI jN (pv 0) jB (fun _ _=>rfl)) (jA (pv 1) jC))))
   (@jH _ _ _ _ _ (jU (i:=5) Q5.nd rfl (by first|exact Or.inl rfl|exact Or.inr rfl) (jX D_place_called hr rfl (jA (jI jN (pv 0) jB (fun _ _=>rfl)) (jA (pv 1) jC))))
   (@jH _ _ _ _ _ (jU (i:=6) Q5.nd rfl (by first|exact Or.inl rfl|exact Or.inr rfl) (jX D_lock_made hr rfl (@jA _ _ _ _ _ (pv 0) (@jA _ _ _ _ _ (pv 4) (@jA _ _ _ _ _ (pv 5) (@jA _ _ _ _ _ (pv 3) jC (by rfl)) (by rfl)) (by rfl)) (by rfl))))
   (@jH _ _ _ _ _ (kW (jX D_refuse_bad_lock hr rfl (jA (pv 6) jC)))
   (@jH _ _ _ _ _ (kW (jX D_refuse_many hr rfl (jA (pv 2) (jA (vS (v:=.int 8) rfl T.g_MOST_LOCKS ⟨_,rfl⟩) jC))))
   (@jE _ _ _ (@jS _ _ _ _ (pv 6)))))))))))),?_⟩
 have hr8:rs.length≤8:=by rw [hR.1];exact h8
 have hl8:ls.length<8:=by rw [hL.1];exact c4
 have facts:qE (ws.map V.str) 1=some (V.str l.name)∧qE (ws.map V.str) 2=some (V.str hi)∧qE (ws.map V.str) 3=some (V.str lo)∧q8 (ws.map V.str) (some 1) (some 4)=[l.name,hi,lo].map V.str∧q8 (ws.map V.str) (some 4) (some 5)=[w4].map V.str∧q8 (ws.map V.str) (some 6) none=(ext.drop 1).map V.str:=by
  rcases hcase with ⟨_,rfl⟩|⟨g,_,rfl,_⟩<;>subst hws<;>exact ⟨rfl,rfl,rfl,rfl,rfl,rfl⟩
 obtain ⟨a1,a2,a3,k1,k4,k6⟩:=facts
 refine ⟨fun σ' H'=>σ'=[some (.ref wl),some (.ref rl),some (.ref ll),none,none,none,none]∧Same H H',?_,?_⟩
 ·rcases hcase with ⟨_,rfl⟩|⟨g,hk,rfl,_⟩
  ·subst hws
   exact ⟨_,rfl,wl,_,rfl,.inl (SqL.of hwl),rfl,_,rfl,qD rfl ⟨rfl,Same.refl _⟩⟩
  ·subst hws
   refine ⟨_,rfl,wl,_,rfl,.inl (SqL.of hwl),rfl,_,rfl,ZV (fun z=>absurd (V.int.inj z) (by show ¬((7:Int)=5);decide)) ⟨_,rfl,wl,_,rfl,.inl (SqL.of hwl),rfl,_,rfl,qD rfl ⟨_,rfl,wl,_,_,_,rfl,rfl,SqL.of hwl,rfl,zz2,fun tp htp=>?_⟩⟩⟩
   have hin:JF (V.str (vU l.kd)) [V.str "basin",V.str "pump"]=true:=by
    cases hq:l.kd with
    |plain=>exact absurd hq hk
    |basin=>decide +kernel
    |pump=>decide +kernel
   refine ⟨tp,_,rfl,.inr (SqT.of jD),rfl,rfl,_,rfl,?_⟩
   rw [hin]
   exact kS ⟨rfl,jM htp _⟩
 rintro σ' H1 ⟨rfl,s1⟩
 refine ⟨_,rfl,_,rfl,_,rfl,wl,_,rfl,SqL.of (s1 _ _ hwl),fun p hp=>?_⟩
 rw [k1]
 have s2:=jM hp (.lst ([l.name,hi,lo].map V.str))
 refine ⟨p,[l.name,hi,lo],rfl,jD,fun w hw=>?_,(by show 3≤100;decide),fun H3 s3=>?_⟩
 ·simp only [List.mem_cons,List.mem_nil_iff,or_false] at hw
  rcases hw with rfl|rfl|rfl
  ·exact n1
  ·exact n2
  ·exact n3
 have s13:=s1.trans (s2.trans s3)
 refine ⟨_,rfl,_,rfl,_,rfl,wl,_,rfl,SqL.of (s13 _ _ hwl),fun c hc=>?_⟩
 rw [k4]
 have s4:=jM hc (.lst ([w4].map V.str))
 have s14:=s13.trans s4
 refine ⟨_,rfl,_,rfl,wl,_,rfl,SqL.of (s14 _ _ hwl),fun d hd=>?_⟩
 rw [k6]
 have s5:=jM hd (.lst ((ext.drop 1).map V.str))
 have s15:=s14.trans s5
 have hx2:ext.length≤2:=by rcases hcase with ⟨_,rfl⟩|⟨g,_,rfl,_⟩;exact Nat.zero_le _;exact Nat.le_refl _
 have hdl:(ext.drop 1).length≤1:=by rw [List.length_drop];omega
 refine ⟨c,d,_,_,rfl,rfl,s5 _ _ jD,jD,small (by rw [List.length_map,List.length_map];show 1+_≤1000;omega),fun e he=>?_⟩
 have s6:=jM he (.lst ([w4].map V.str++(ext.drop 1).map V.str))
 have s16:=s15.trans s6
 refine ⟨e,w4::ext.drop 1,rfl,jD,fun w hw=>?_,by rw [List.length_cons];omega,fun nl H7 s7 hn0 hnl=>?_⟩
 ·rcases List.mem_cons.mp hw with rfl|hw
  ·exact m4.1
  ·rcases hcase with ⟨_,rfl⟩|⟨g,_,rfl,hg⟩
   ·cases hw
   ·rw [List.mem_singleton.mp hw];exact hg.1
 have s17:=s16.trans s7
 refine ⟨_,rfl,wl,_,_,_,rfl,rfl,SqL.of (s17 _ _ hwl),a1,_,rfl,l.name,ll,ls,JE L,rfl,s17 _ _ hll,AK T.cl T.n_name (hL.mono (LkO.same s17)),by omega,hno,fun H8 s8=>?_⟩
 have s18:=s17.trans s8
 refine ⟨_,rfl,wl,_,_,_,rfl,rfl,SqL.of (s18 _ _ hwl),a2,_,rfl,hi,rl,rs,qH R,i,rfl,s18 _ _ hrl,ZI T.clR T.nR_name (hR.mono (RcO.same s18)),by omega,f1,fun H9 s9=>?_⟩
 have s19:=s18.trans s9
 refine ⟨_,rfl,wl,_,_,_,rfl,rfl,SqL.of (s19 _ _ hwl),a3,_,rfl,lo,rl,rs,qH R,j,rfl,s19 _ _ hrl,ZI T.clR T.nR_name (hR.mono (RcO.same s19)),by omega,f2,fun HA sA=>?_⟩
 have s1A:=s19.trans sA
 have hnA:=sA _ _ (s9 _ _ (s8 _ _ hnl))
 refine ⟨_,rfl,_,rfl,_,rfl,_,rfl,wl,nl,"lock",l.name,hi,lo,w4,l.kd,(i:Int),(j:Int),l.room,l.extra,ext,(w4::ext.drop 1).map zJ,rfl,?_,hnA,?_,fun x HB sB hx0 hlk=>?_⟩
 ·rw [s1A _ _ hwl,hws]
 ·rcases hcase with ⟨hk,rfl⟩|⟨g,hk,rfl,hg⟩
  ·exact .inl ⟨hk,rfl,by rw [← m4.2];rfl⟩
  ·exact .inr ⟨g,hk,rfl,by rw [← m4.2,← hg.2];rfl⟩
 rw [← e1,← e2] at hlk
 refine ⟨_,rfl,x,l,rfl,hlk,c1,c2,c3,?_⟩
 refine ⟨_,rfl,ll,ls,8,rfl,sB _ _ (s1A _ _ hll),by omega,?_⟩
 exact ⟨_,rfl,q x HB (s1A.trans sB) (s1A.free hx0) ⟨x,rfl,hlk⟩⟩
theorem zZ:FnScope ["words","reaches","nights","names","weather","places","night","place","pair"] ["words","reaches","nights"] (jG zS):=⟨rfl,rfl,rfl,by decide +kernel,rfl,by decide +kernel,by decide +kernel⟩
theorem pA {f:Addr} {fd:FuncData} (F:Fun K "night_read" "night_read" zS f fd) (T:Txt K mg cP cB cU cR cN tkS j0 jZ j7 j6 j4 j5 j3) (D_refuse_no_names:Def P w K mg base 3 "refuse_no_names" ["words"] [] (bJ)) (D_numbers_of:Def P w K mg base 4 "numbers_of" ["words"] [] (Z9)) (D_place_called:Def P w K mg base 1 "place_called" ["name","things"] [] (bH K)) (D_refuse_many:Def P w K mg base 1 "refuse_many" ["things","most"] [] (cK)) (D_widened:Def P w K mg base 1 "widened" ["night","many"] [] (d5)):FnOk P w K mg base jR 5 f fd ["words","reaches","nights"] (gA cR):=by
 refine F.ok zZ (fun vs H Q E h=>?_) (fun cdv A outer s H vs Q E hr h=>?_)
 ·obtain ⟨wl,rl,nl,ws,rs,ms,R,N,p,rfl,hwl,hrl,hnl,hR,hmN,h8,⟨qs,ts,rfl,hqt,hq30,htr,hnd,rfl,h6⟩,q⟩:=h
  rfl
 obtain ⟨wl,rl,nl,ws,rs,ms,R,N,p,rfl,hwl,hrl,hnl,hR,hmN,h8,⟨qs,ts,rfl,hqt,hq30,htr,hnd,rfl,h6⟩,q⟩:=h
 have hu:_<cLine:=hr.units0
 have hu1:=kD hr
 refine ⟨_,(@jH _ _ _ _ _ (jV (jQ qN (@jF _ _ _ _ _ _ _ _ kH (kA kX (by rfl) T.z_len PySem.boot_len (jA (pv 0) jC)) jB) jB (jP _)) (@jE _ _ _ vB) j9)
   (@jH _ _ _ _ _ (jU (i:=3) zZ.nd rfl (by first|exact Or.inl rfl|exact Or.inr rfl) (eB (pv 0) (qA jB) yN (qA jB)))
   (@jH _ _ _ _ _ (kW (jX D_refuse_no_names hr rfl (jA (pv 3) jC)))
   (@jH _ _ _ _ _ (jU (i:=4) zZ.nd rfl (by first|exact Or.inl rfl|exact Or.inr rfl) (tD rfl (by rfl) T.z_list (by rfl) T.z_zip (jA (jX D_numbers_of hr rfl (jA (eB (pv 0) (qA jB) yN (qA jB)) jC)) (jA (jX D_numbers_of hr rfl (jA (eB (pv 0) (qA jB) yN (qA jB)) jC)) jC))))
   (@jH _ _ _ _ _ (jV (jQ qN (uI rfl (by rfl) T.z_len (by rfl) T.z_set (pv 3)) (kA kX (by rfl) T.z_len PySem.boot_len (jA (pv 3) jC)) (jP _)) (@jE _ _ _ vB) j9)
   (@jH _ _ _ _ _ (bB (i:=5) ["name","reaches"] (qV 1 [1]) zZ.nd rfl (by first|exact Or.inl rfl|exact Or.inr rfl) rfl (vP (jG zS) rfl rfl (by decide +kernel) (by decide +kernel) (by decide +kernel)) (vF 1 [1] rfl rfl (by decide +kernel)) (q9 (pv 3)) (fun _ _ _ _ _=>(kM (i:=0) (show List.Nodup (["name","reaches"]:List Str) from by decide +kernel) rfl (by first|exact Or.inl rfl|exact Or.inr rfl))) (fun _ _ _ _ _=>yA) (fun _ _ _ _ _=>(jX D_place_called hr rfl (jA (pv 0) (jA (pv 1) jC)))))
   (@jH _ _ _ _ _ (kW (jX D_refuse_many hr rfl (jA (pv 2) (jA (vS (v:=.int 6) rfl T.g_MOST_NIGHTS ⟨_,rfl⟩) jC))))
   (@jH _ _ _ _ _ (jU (i:=6) zZ.nd rfl (by first|exact Or.inl rfl|exact Or.inr rfl) (jX D_widened hr rfl (jA (kZ jC) (jA (kA kX (by rfl) T.z_len PySem.boot_len (jA (pv 1) jC)) jC))))
   (@jH _ _ _ _ _ (vC PassesOwn.never rfl (BK (by rfl) T.z_zip (jA (pv 5) (jA (pv 4) jC))) (cO rfl (yM (kM (i:=7) zZ.nd rfl (by first|exact Or.inl rfl|exact Or.inr rfl)) (yM (kM (i:=8) zZ.nd rfl (by first|exact Or.inl rfl|exact Or.inr rfl)) cD)))
    (@jE _ _ _ (ZO (pv 8) (ZQ (pv 6) (pv 7) ZB))))
   (@jE _ _ _ (@jS _ _ _ _ (pv 6)))))))))))),?_⟩
 have hr8:rs.length≤8:=by rw [hR.1];exact h8
 have hlen:((("night":Str)::q0 qs).map V.str).length=3*qs.length+1:=by rw [List.length_map,List.length_cons,iK]
 obtain ⟨k1,k2,k3⟩:=sZ qs
 have trip:∀(i:Nat) (q:Str×Str×Str),qs[i]?=some q→∃t,ts[i]?=some t∧fC (qH R) q t:=fun i q hq=>by
  have hi:i<ts.length:=by rw [← hqt];exact (List.getElem?_eq_some_iff.mp hq).1
  exact ⟨_,List.getElem?_eq_getElem hi,htr i q _ hq (List.getElem?_eq_getElem hi)⟩
 have tripM:∀q∈qs,∃t,fC (qH R) q t:=fun q hq=>by
  obtain ⟨i,hi⟩:=List.mem_iff_getElem?.mp hq
  obtain ⟨t,_,ht⟩:=trip i q hi
  exact ⟨t,ht⟩
 refine ⟨_,rfl,wl,_,rfl,.inl (SqL.of hwl),_,_,rfl,rfl,(by show (0:Int)<3;decide),rfl,_,rfl,qD (by rw [hlen];exact congrArg V.int (by omega)) ?_⟩
 refine ⟨_,rfl,_,rfl,_,rfl,wl,_,rfl,SqL.of hwl,(fun z=>nomatch z),fun c hc=>?_⟩
 rw [k1]
 have s1:=jM hc (.lst ((qs.map (·.1)).map V.str))
 refine ⟨_,rfl,c,qs.map (·.1),rfl,jD,fun w hw=>?_,by rw [List.length_map];omega,fun H2 s2=>?_⟩
 ·obtain ⟨q,hq,rfl⟩:=List.mem_map.mp hw
  obtain ⟨t,ht⟩:=tripM q hq
  exact ht.1
 have s12:=s1.trans s2
 have hc2:=s2 _ _ (jD (H:=H) (a:=c) (o:=.lst ((qs.map (·.1)).map V.str)))
 refine ⟨_,rfl,_,rfl,_,rfl,wl,_,rfl,SqL.of (s12 _ _ hwl),(fun z=>nomatch z),fun d hd=>?_⟩
 rw [k2]
 have s3:=jM hd (.lst ((qs.map (·.2.1)).map V.str))
 have s13:=s12.trans s3
 refine ⟨d,qs.map (·.2.1),rfl,jD,fun w hw=>?_,by rw [List.length_map];omega,fun xl H4 s4 hxl0 hxl=>?_⟩
 ·obtain ⟨q,hq,rfl⟩:=List.mem_map.mp hw
  obtain ⟨t,ht⟩:=tripM q hq
  exact ht.2.2.1.1
 have s14:=s13.trans s4
 refine ⟨_,rfl,_,rfl,_,rfl,wl,_,rfl,SqL.of (s14 _ _ hwl),(fun z=>nomatch z),fun e he=>?_⟩
 rw [k3]
 have s5:=jM he (.lst ((qs.map (·.2.2)).map V.str))
 have s15:=s14.trans s5
 refine ⟨e,qs.map (·.2.2),rfl,jD,fun w hw=>?_,by rw [List.length_map];omega,fun yl H6 s6 hyl0 hyl=>?_⟩
 ·obtain ⟨q,hq,rfl⟩:=List.mem_map.mp hw
  obtain ⟨t,ht⟩:=tripM q hq
  exact ht.2.2.2.1
 have s16:=s15.trans s6
 have hxl6:=s6 _ _ (s5 _ _ hxl)
 refine ⟨xl,yl,_,_,rfl,SqL.of hxl6,SqL.of hyl,fun wt us H7 s7 hwt0 hwt hul hus=>?_⟩
 have s17:=s16.trans s7
 have hul:us.length=qs.length:=by rw [hul];simp only [List.length_map];exact Nat.min_self _
 have s37:Same H2 H7:=((s3.trans s4).trans (s5.trans s6)).trans s7
 refine ⟨_,rfl,c,qs.map (·.1),rfl,SqL.of (s37 _ _ hc2),by rw [List.length_map];omega,_,rfl,c,_,rfl,.inl (SqL.of (s37 _ _ hc2)),rfl,_,rfl,qD (congrArg (fun n:Nat=>V.int (n:Int)) (by rw [(tG _).mpr hnd];exact (List.length_map _).symm)) ?_⟩
 refine ⟨_,rfl,c,rfl,⟨_,SqL.of (s37 _ _ hc2)⟩,fun D hD=>?_⟩
 refine v9 (K:=K) (a:=c) (xs:=(qs.map (·.1)).map V.str) (caps:=[some (.ref rl)]) (fun i ys Hi=>ys=((ts.take i).map (fun t:Nat×Int×Int=>(t.1:Int))).map V.int) hD (SqL.of (s37 _ _ hc2)) rfl ?_ ?_
 ·rintro i v ys Hi hv hi hle sm hY rfl
  obtain ⟨w,hw,rfl⟩:=bZ hv
  rw [List.getElem?_map] at hw
  cases hq:qs[i]? with
  |none=>rw [hq] at hw;cases hw
  |some q₁ =>
   rw [hq] at hw
   cases hw
   obtain ⟨t,ht,hti⟩:=trip i q₁ hq
   have hi1:i<100:=by rw [List.length_map,List.length_map] at hi;omega
   have s1i:=s17.trans sm
   refine yD (vM ⟨_,rfl,_,rfl,q₁.1,rl,rs,qH R,t.1,rfl,s1i _ _ hrl,ZI T.clR T.nR_name (hR.mono (RcO.same s1i)),by omega,hti.2.1,fun H8 s8=>?_⟩)
   refine vQ hD sm hY hle (by omega) s8 ?_
   rw [List.take_add_one,ht,List.map_append,List.map_append]
   rfl
 rintro ys H8 s8 hpl hle8 rfl
 have htl:((qs.map (·.1)).map V.str).length=ts.length:=by rw [List.length_map,List.length_map,hqt]
 rw [htl,List.take_length] at hpl
 have s18:=s17.trans s8
 have hwt8:=s8 _ _ hwt
 refine ⟨_,rfl,nl,ms,6,rfl,s18 _ _ hnl,by rw [hmN];omega,?_⟩
 refine ⟨(by show 0≤sizeLine;exact Nat.zero_le _),fun el hel=>?_⟩
 have s9:=jM hel (.lst [])
 have s19:=s18.trans s9
 refine ⟨_,rfl,rl,_,rfl,.inl (SqL.of (s19 _ _ hrl)),el,[],[],rs.length,rfl,jD,AllAt.nil,Nat.zero_le _,by omega,fun gl gs HA sA hgl0 hgl hG=>?_⟩
 have s1A:=s19.trans sA
 have e0:v3 rs.length []=qP R.length (ts.take 0):=by rw [hR.1];rfl
 rw [e0] at hG
 have hplA:=sA _ _ (s9 _ _ hpl)
 have hwtA:=sA _ _ (s9 _ _ hwt8)
 have ngp:gl≠D:=fun z=>by rw [z,s9 _ _ hpl] at hgl0;cases hgl0
 have ngw:gl≠wt:=fun z=>by rw [z,s9 _ _ hwt8] at hgl0;cases hgl0
 have hml:((ts.map (fun t:Nat×Int×Int=>(t.1:Int))).map V.int).length=ts.length:=by rw [List.length_map,List.length_map]
 have s7A:Same H7 HA:=(s8.trans s9).trans sA
 have hgf:H gl=none:=s19.free hgl0
 refine ⟨_,rfl,_,rfl,D,wt,rfl,⟨_,SqL.of hplA⟩,⟨_,SqL.of hwtA⟩,AW (K:=K) (a1:=D) (a2:=wt) (xs:=(ts.map (fun t:Nat×Int×Int=>(t.1:Int))).map V.int) (ys:=us) (fun i σ Hi=>∃(c7 c8:Option V) (gs':List V),σ=[some (.ref wl),some (.ref rl),some (.ref nl),some (.ref c),some (.ref wt),some (.ref D),some (.ref gl),c7,c8]∧Keep gl HA Hi∧Hi gl=some (.lst gs')∧AllAt (QAt Hi) gs' (qP R.length (ts.take i))) ⟨none,none,gs,rfl,Keep.refl gl HA,hgl,hG⟩ ?_ ?_ ?_⟩
 ·rintro i σ Hi _ ⟨_,_,_,_,kp,_,_⟩
  exact ⟨SqL.of (kp _ _ ngp.symm hplA),SqL.of (kp _ _ ngw.symm hwtA)⟩
 ·rintro i x y σ Hi T₁ hx hy ⟨c7,c8,gs',rfl,kp,hgs,hQ⟩ hT
  obtain ⟨Tp,x1,y1,rfl,hTp,hx1,hy1⟩:=hus i y hy
  rw [List.getElem?_map,List.getElem?_map] at hx
  cases ht:ts[i]? with
  |none=>rw [ht] at hx;cases hx
  |some t =>
   rw [ht] at hx
   cases hx
   have hqi:i<qs.length:=by rw [hqt];exact (List.getElem?_eq_some_iff.mp ht).1
   have hq:qs[i]?=some qs[i]:=List.getElem?_eq_getElem hqi
   have hti:=htr i _ _ hq ht
   rw [List.getElem?_map,List.getElem?_map,List.getElem?_map,hq] at hx1
   rw [List.getElem?_map,List.getElem?_map,List.getElem?_map,hq] at hy1
   cases hx1
   cases hy1
   rw [hti.2.2.1.2,hti.2.2.2.2] at hTp
   have u:=jM hT (.tup [V.int (t.1:Int),V.ref Tp])
   have hTpA:=s7A _ _ hTp
   have nTp:Tp≠gl:=fun z=>by rw [z,hgl] at hTpA;cases hTpA
   have hTpi:=kp _ _ nTp hTpA
   have ht1:t.1<R.length:=by
    have:=(List.getElem?_eq_some_iff.mp hti.2.1.1).1
    unfold qH at this
    rw [List.length_map] at this
    exact this
   have hgl':gs'.length=R.length:=by rw [hQ.1,Q6]
   refine ⟨T₁,_,rfl,SqT.of jD,rfl,_,_,rfl,_,_,rfl,rfl,?_⟩
   refine ⟨_,rfl,_,rfl,_,rfl,gl,gs',_,t.1,rfl,rfl,u _ _ hgs,mJ (by omega),_,_,_,rfl,(kp.trans (Keep.of u)).upd _,jD,?_⟩
   rw [fY _ _ ht]
   exact ((hQ.mono (QAt.same u)).put t.1 (v:=.ref Tp) (x:=(t.2.1,t.2.2)) ⟨Tp,rfl,u _ _ hTpi⟩).mono (QAt.put (u _ _ hgs))
 rintro σ Hi ⟨c7,c8,gs',rfl,kp,hgs,hQ⟩
 have hmin:min ((ts.map (fun t:Nat×Int×Int=>(t.1:Int))).map V.int).length us.length=ts.length:=by rw [hml,hul,hqt];exact Nat.min_self _
 rw [hmin,List.take_length] at hQ
 refine ⟨_,rfl,q gl gs' Hi (fun b o e=>kp b o (j8 e hgf) (s1A _ _ e)) hgf hgs hQ⟩
theorem rE:FnScope ["words","reaches","locks","nights"] ["words","reaches","locks","nights"] (jG QE):=⟨rfl,rfl,rfl,by decide +kernel,rfl,by decide +kernel,by decide +kernel⟩
theorem pF {f:Addr} {fd:FuncData} (F:Fun K "read_row" "read_row" QE f fd) (T:Txt K mg cP cB cU cR cN tkS j0 jZ j7 j6 j4 j5 j3) (D_reach_read:Def P w K mg base 5 "reach_read" ["words","reaches"] [] (fZ cR)) (D_lock_read:Def P w K mg base 5 "lock_read" ["words","reaches","locks"] [] (gK (jO cP cB cU) cR)) (D_night_read:Def P w K mg base 5 "night_read" ["words","reaches","nights"] [] (gA cR)):FnOk P w K mg base jR 6 f fd ["words","reaches","locks","nights"] (gU (jO cP cB cU) cR):=by
 refine F.ok rE (fun vs H Q E h=>?_) (fun cdv A outer s H vs Q E hr h=>?_)
 ·obtain ⟨wl,rl,ll,nl,ws,S,S2,rfl,hwl,⟨rs,ls,ms,hrl,hll,hnl,hR,hL,hN,d1,d2,d3⟩,⟨h8,hrow⟩,q⟩:=h
  rfl
 obtain ⟨wl,rl,ll,nl,ws,S,S2,rfl,hwl,⟨rs,ls,ms,hrl,hll,hnl,hR,hL,hN,d1,d2,d3⟩,⟨h8,hrow⟩,q⟩:=h
 have hu:_<cLine:=hr.units0
 have hu1:=kD hr
 refine ⟨_,(@jE _ _ _ (jV (jQ kO (jI jN (pv 0) jB (fun _ _=>rfl)) kB (jP _)) (@jE _ _ _ (kW (qM PySem.F.plainAttrs_list PySem.F.slot_list_append PySem.F.type_list_append vR (pv 1) (jA (jX D_reach_read hr rfl (jA (pv 0) (jA (pv 1) jC))) jC)))) (@jE _ _ _ (jV (jQ kO (jI jN (pv 0) jB (fun _ _=>rfl)) kB (jP _)) (@jE _ _ _ (kW (qM PySem.F.plainAttrs_list PySem.F.slot_list_append PySem.F.type_list_append vR (pv 2) (jA (jX D_lock_read hr rfl (@jA _ _ _ _ _ (pv 0) (@jA _ _ _ _ _ (pv 1) (@jA _ _ _ _ _ (pv 2) jC (by rfl)) (by rfl)) (by rfl))) jC)))) (@jE _ _ _ (jV (jQ kO (jI jN (pv 0) jB (fun _ _=>rfl)) kB (jP _)) (@jE _ _ _ (kW (qM PySem.F.plainAttrs_list PySem.F.slot_list_append PySem.F.type_list_append vR (pv 3) (jA (jX D_night_read hr rfl (@jA _ _ _ _ _ (pv 0) (@jA _ _ _ _ _ (pv 1) (@jA _ _ _ _ _ (pv 3) jC (by rfl)) (by rfl)) (by rfl))) jC)))) (@jE _ _ _ vB))))))),?_⟩
 have hrs:rs.length≤8:=by rw [hR.1];exact h8
 rcases hrow with ⟨r,hg,rfl⟩|⟨l,hg,rfl⟩|⟨p,hg,rfl⟩
 ·refine ⟨_,rfl,wl,_,_,_,rfl,rfl,SqL.of hwl,sW hg,rfl,_,rfl,kL rfl ?_⟩
  refine ⟨_,rfl,.inl ⟨rfl,_,SqL.of hrl⟩,_,rfl,_,rfl,wl,rl,ws,rs,S.1,r,rfl,hwl,hrl,hR,hg,fun x H1 s1 hx0 hrc=>?_⟩
  have kp:Keep rl H1 (upd H1 rl (.lst (rs++[.ref x]))):=(Keep.refl rl _).upd _
  have h1:=s1 _ _ hrl
  refine ⟨rl,_,_,rfl,rfl,h1,qJ (by omega),?_⟩
  exact q _ (fun d o e1 e2 e3 e=>by rw [jY e1];exact s1 _ _ e) ⟨_,ls,ms,jD,kp _ _ d1.symm (s1 _ _ hll),kp _ _ d2.symm (s1 _ _ hnl),((hR.mono (RcO.same s1)).snoc (v:=.ref x) (x:=r) ⟨x,rfl,hrc⟩).mono (RcO.keep kp h1),(hL.mono (LkO.same s1)).mono (LkO.keep kp h1),(hN.mono (NAt.same s1)).mono (NAt.keep kp h1 (by simp)),d1,d2,d3⟩
 ·refine ⟨_,rfl,wl,_,_,_,rfl,rfl,SqL.of hwl,iD hg,rfl,_,rfl,kG (fun z=>fI (V.str.inj z)) ⟨_,rfl,wl,_,_,_,rfl,rfl,SqL.of hwl,iD hg,rfl,_,rfl,kL rfl ?_⟩⟩
  have hls:ls.length<8:=by rw [hL.1];obtain ⟨_,_,_,_,_,_,_,_,_,_,_,_,_,_,_,_,_,_,_,_,h⟩:=hg;exact h
  refine ⟨_,rfl,.inl ⟨rfl,_,SqL.of hll⟩,_,rfl,_,rfl,_,rfl,wl,rl,ll,ws,rs,ls,S.1,S.2.1,l,rfl,hwl,hrl,hll,hR,hL,h8,hg,fun x H1 s1 hx0 hlk=>?_⟩
  have kp:Keep ll H1 (upd H1 ll (.lst (ls++[.ref x]))):=(Keep.refl ll _).upd _
  have h1:=s1 _ _ hll
  refine ⟨ll,_,_,rfl,rfl,h1,qJ (by omega),?_⟩
  exact q _ (fun d o e1 e2 e3 e=>by rw [jY e2];exact s1 _ _ e) ⟨rs,_,ms,kp _ _ d1 (s1 _ _ hrl),jD,kp _ _ d3.symm (s1 _ _ hnl),(hR.mono (RcO.same s1)).mono (RcO.keep kp h1),((hL.mono (LkO.same s1)).snoc (v:=.ref x) (x:=l) hlk).mono (LkO.keep kp h1),(hN.mono (NAt.same s1)).mono (NAt.keep kp h1 (by simp)),d1,d2,d3⟩
 ·refine ⟨_,rfl,wl,_,_,_,rfl,rfl,SqL.of hwl,d4 hg,rfl,_,rfl,kG (fun z=>fH (V.str.inj z)) ⟨_,rfl,wl,_,_,_,rfl,rfl,SqL.of hwl,d4 hg,rfl,_,rfl,kG (fun z=>fJ (V.str.inj z)) ⟨_,rfl,wl,_,_,_,rfl,rfl,SqL.of hwl,d4 hg,rfl,_,rfl,kL rfl ?_⟩⟩⟩
  have hms:ms.length<6:=by rw [hN.1];obtain ⟨_,_,_,_,_,_,_,_,h⟩:=hg;exact h
  refine ⟨_,rfl,.inl ⟨rfl,_,SqL.of hnl⟩,_,rfl,_,rfl,_,rfl,wl,rl,nl,ws,rs,ms,S.1,S.2.2,p,rfl,hwl,hrl,hnl,hR,hN.1,h8,hg,fun x gs H1 s1 hx0 hx hq=>?_⟩
  have kp:Keep nl H1 (upd H1 nl (.lst (ms++[.ref x]))):=(Keep.refl nl _).upd _
  have h1:=s1 _ _ hnl
  have nx:x∉[rl,ll,nl]:=by
   simp only [List.mem_cons,List.mem_nil_iff,or_false,not_or]
   exact ⟨fun z=>j8 hrl hx0 z.symm,fun z=>j8 hll hx0 z.symm,fun z=>j8 hnl hx0 z.symm⟩
  refine ⟨nl,_,_,rfl,rfl,h1,qJ (by omega),?_⟩
  exact q _ (fun d o e1 e2 e3 e=>by rw [jY e3];exact s1 _ _ e) ⟨rs,ls,_,kp _ _ d2 (s1 _ _ hrl),kp _ _ d3 (s1 _ _ hll),jD,(hR.mono (RcO.same s1)).mono (RcO.keep kp h1),(hL.mono (LkO.same s1)).mono (LkO.keep kp h1),((hN.mono (NAt.same s1)).snoc (v:=.ref x) (x:=p) ⟨x,gs,rfl,hx,hq,nx⟩).mono (NAt.keep kp h1 (by simp)),d1,d2,d3⟩
theorem rL:FnScope ["text"] ["text"] (jG zW):=⟨rfl,rfl,rfl,by decide +kernel,rfl,by decide +kernel,by decide +kernel⟩
theorem pL {f:Addr} {fd:FuncData} (F:Fun K "rows_of" "rows_of" zW f fd) (T:Txt K mg cP cB cU cR cN tkS j0 jZ j7 j6 j4 j5 j3) : FnOk P w K mg base jR 1 f fd ["text"] (iV):=by
 refine F.ok rL (fun vs H Q E h=>?_) (fun cdv A outer s H vs Q E hr h=>?_)
 ·obtain ⟨z,rfl,hz,q⟩:=h
  rfl
 obtain ⟨z,rfl,hz,q⟩:=h
 have hu:_<cLine:=hr.units0
 have hu1:=kD hr
 refine ⟨_,(@jE _ _ _ (@jS _ _ _ _ (yO ["row"] (qV 1 []) rfl (vP (jG zW) rfl rfl (by decide +kernel) (by decide +kernel) (by decide +kernel)) (vF 1 [] rfl rfl (by decide +kernel)) (q9 (qM PySem.F.plainAttrs_str PySem.F.slot_str_split PySem.F.type_str_split lH (pv 0) (jA kB jC))) (fun _ _ _ _ _=>(kM (i:=0) (show List.Nodup (["row"]:List Str) from by decide +kernel) rfl (by first|exact Or.inl rfl|exact Or.inr rfl))) (fun _ _ _ _ _=>(eS (jQ qN (pv 0) kB (jP _)))) (fun _ _ _ _ _=>(pv 0))))),?_⟩
 have hn:=gT z feedS (Nat.le_refl 1)
 refine ⟨_,rfl,rfl,z,feedS,rfl,rfl,rfl,hz,fun sl hsl0=>?_⟩
 have s0:=jM hsl0 (.lst ((Txt.split z feedS).map V.str))
 have hsl:upd H sl (.lst ((Txt.split z feedS).map V.str)) sl=some (.lst ((Txt.split z feedS).map V.str)):=jD
 generalize upd H sl (.lst ((Txt.split z feedS).map V.str))=H1 at s0 hsl ⊢
 refine ⟨sl,rfl,⟨_,SqL.of hsl⟩,fun l hl=>?_⟩
 refine v9 (K:=K) (a:=sl) (xs:=(Txt.split z feedS).map V.str) (caps:=[]) (fun i ys Hi=>ys=(((Txt.split z feedS).take i).filter ZY).map V.str) hl (SqL.of hsl) rfl ?_ ?_
 ·rintro i v ys Hi hv hi hle sm hY rfl
  obtain ⟨row,hrow,rfl⟩:=wQ hv
  have hi9:i≤1000000:=by rw [List.length_map] at hi;omega
  refine ⟨_,rfl,rfl,_,rfl,?_⟩
  by_cases e:row=""
  ·refine qD (congrArg V.str e) (Q9 sm hY hle (Same.refl _) ?_)
   rw [gF hrow,if_neg (by rw [e];decide),List.append_nil]
  ·refine ZV (fun x=>e (V.str.inj x)) ⟨_,rfl,wG hl sm hY hle hi9 (Same.refl _) ?_⟩
   rw [gF hrow,if_pos (by unfold ZY;rw [decide_eq_false e];rfl),List.map_append]
   rfl
 ·rintro ys Hf sm hY hle rfl
  rw [List.length_map,List.take_length] at hY
  exact q l Hf (s0.trans sm) (s0.free hl) hY
theorem Q3:FnScope ["text","reaches","locks","nights","row"] ["text"] (jG zR):=⟨rfl,rfl,rfl,by decide +kernel,rfl,by decide +kernel,by decide +kernel⟩
theorem o4 {f:Addr} {fd:FuncData} (F:Fun K "canal_of" "canal_of" zR f fd) (T:Txt K mg cP cB cU cR cN tkS j0 jZ j7 j6 j4 j5 j3) (D_rows_of:Def P w K mg base 1 "rows_of" ["text"] [] (iV)) (D_read_row:Def P w K mg base 6 "read_row" ["words","reaches","locks","nights"] [] (gU (jO cP cB cU) cR)) (M_Canal:MkD P w K mg base 1 "Canal" cN ["self","reaches","locks","nights"] (dU (jO cP cB cU) cR cN)) (D_widened:Def P w K mg base 1 "widened" ["night","many"] [] (d5)):FnOk P w K mg base jR 7 f fd ["text"] (gY (jO cP cB cU) cR cN):=by
 refine F.ok Q3 (fun vs H Q E h=>?_) (fun cdv A outer s H vs Q E hr h=>?_)
 ·obtain ⟨z,S,rfl,hz,hrows,hne,h8,h6,hpl,q⟩:=h
  rfl
 obtain ⟨z,S,rfl,hz,hrows,hne,h8,h6,hpl,q⟩:=h
 have hu:_<cLine:=hr.units0
 have hu1:=kD hr
 refine ⟨_,(@jH _ _ _ _ _ (jU (i:=1) Q3.nd rfl (by first|exact Or.inl rfl|exact Or.inr rfl) (kZ jC))
   (@jH _ _ _ _ _ (jU (i:=2) Q3.nd rfl (by first|exact Or.inl rfl|exact Or.inr rfl) (kZ jC))
   (@jH _ _ _ _ _ (jU (i:=3) Q3.nd rfl (by first|exact Or.inl rfl|exact Or.inr rfl) (kZ jC))
   (@jH _ _ _ _ _ (vC PassesOwn.never rfl (q9 (jX D_rows_of hr rfl (jA (pv 0) jC))) (kM (i:=4) Q3.nd rfl (by first|exact Or.inl rfl|exact Or.inr rfl))
    (@jE _ _ _ (kW (jX D_read_row hr rfl (@jA _ _ _ _ _ (qM PySem.F.plainAttrs_str PySem.F.slot_str_split PySem.F.type_str_split lH (pv 4) (jA kB jC)) (@jA _ _ _ _ _ (pv 1) (@jA _ _ _ _ _ (pv 2) (@jA _ _ _ _ _ (pv 3) jC (by rfl)) (by rfl)) (by rfl)) (by rfl))))))
   (@jH _ _ _ _ _ (jV (qG (wY (pv 1) (fun _=>rfl))) (@jE _ _ _ vB) j9)
   (@jE _ _ _ (@jS _ _ _ _ (ZT M_Canal hr rfl (@jA _ _ _ _ _ (pv 1) (@jA _ _ _ _ _ (pv 2) (@jA _ _ _ _ _ (yO ["night","reaches"] (qV 1 [1]) rfl (vP (jG zR) rfl rfl (by decide +kernel) (by decide +kernel) (by decide +kernel)) (vF 1 [1] rfl rfl (by decide +kernel)) (q9 (pv 3)) (fun _ _ _ _ _=>(kM (i:=0) (show List.Nodup (["night","reaches"]:List Str) from by decide +kernel) rfl (by first|exact Or.inl rfl|exact Or.inr rfl))) (fun _ _ _ _ _=>yA) (fun _ _ _ _ _=>(jX D_widened hr rfl (jA (pv 0) (jA (kA (rX K) (by rfl) T.z_len PySem.boot_len (jA (pv 1) jC)) jC))))) jC (by rfl)) (by rfl)) (by rfl)))))))))),?_⟩
 refine ⟨Nat.zero_le _,fun rl hrl0=>⟨Nat.zero_le _,fun ll hll0=>⟨Nat.zero_le _,fun nl hnl0=>?_⟩⟩⟩
 have t1:=jM hrl0 (.lst [])
 have t2:=jM hll0 (.lst [])
 have t3:=jM hnl0 (.lst [])
 have n12:rl≠ll:=j8 (jD (H:=H) (a:=rl) (o:=.lst [])) hll0
 have n13:rl≠nl:=j8 (t2 _ _ (jD (H:=H) (a:=rl) (o:=.lst []))) hnl0
 have n23:ll≠nl:=j8 (jD (a:=ll) (o:=.lst [])) hnl0
 have t13:=(t1.trans t2).trans t3
 have hrl1:=t3 _ _ (t2 _ _ (jD (H:=H) (a:=rl) (o:=.lst [])))
 have hll1:=t3 _ _ (jD (H:=upd H rl (.lst [])) (a:=ll) (o:=.lst []))
 have fr:H rl=none∧H ll=none∧H nl=none:=⟨hrl0,t1.free hll0,(t1.trans t2).free hnl0⟩
 have hnl1:upd (upd (upd H rl (.lst [])) ll (.lst [])) nl (.lst []) nl=some (.lst []):=jD
 generalize upd (upd (upd H rl (.lst [])) ll (.lst [])) nl (.lst [])=H1 at t13 hrl1 hll1 hnl1 ⊢
 clear t1 t2 t3 hrl0 hll0 hnl0
 have hrd:RdAt (jO cP cB cU) cR H1 rl ll nl ([],[],[]):=⟨[],[],[],hrl1,hll1,hnl1,AllAt.nil,AllAt.nil,AllAt.nil,n12,n13,n23⟩
 refine ⟨_,rfl,z,rfl,hz,fun sl H2 s2 hsl0 hsl=>?_⟩
 have hrd2:=hrd.same s2
 have ns:sl≠rl∧sl≠ll∧sl≠nl:=⟨(j8 hrl1 hsl0).symm,(j8 hll1 hsl0).symm,(j8 hnl1 hsl0).symm⟩
 have s12:=t13.trans s2
 have hrows:yY (cX z) ([],[],[]) S:=eF hrows
 have hfull:∀r∈cX z,r≠"":=fun r hr e=>by
  have:=(List.mem_filter.mp hr).2
  rw [e] at this
  exact absurd this (by decide)
 generalize cX z=rows at hrows hsl hfull
 refine ⟨sl,rfl,⟨_,SqL.of hsl⟩,ZF (K:=K) (a:=sl) (xs:=rows.map V.str) (fun i σ Hi=>∃(c4:Option V) (Si:vO),σ=[some (.str z),some (.ref rl),some (.ref ll),some (.ref nl),c4]∧RdAt (jO cP cB cU) cR Hi rl ll nl Si∧yY (rows.drop i) Si S∧nG rl ll nl H2 Hi) ⟨none,_,rfl,hrd2,hrows,fun _ _ _ _ _ e=>e⟩ ?_ ?_ ?_⟩
 ·rintro i σ Hi _ ⟨_,_,_,_,_,kp⟩
  exact SqL.of (kp _ _ ns.1 ns.2.1 ns.2.2 hsl)
 ·rintro i v σ Hi hv ⟨c4,Si,rfl,hrd,hgr,kp⟩
  obtain ⟨row,hrow,rfl⟩:=bZ hv
  have hdr:rows.drop i=row::rows.drop (i+1):=by rw [List.drop_eq_getElem_cons (List.getElem?_eq_some_iff.mp hrow).1,(List.getElem?_eq_some_iff.mp hrow).2]
  rw [hdr] at hgr
  rcases hgr with ⟨e,hgr⟩|⟨e,hlr,S1,hrw,hgr⟩
  ·exact absurd e (hfull row (List.mem_of_getElem? hrow))
  ·refine ⟨_,rfl,rfl,row,blankS,rfl,rfl,rfl,hlr,fun wl hwl0=>?_⟩
   have u:=jM hwl0 (.lst ((Txt.split row blankS).map V.str))
   refine ⟨_,rfl,_,rfl,_,rfl,wl,rl,ll,nl,Txt.split row blankS,Si,S1,rfl,jD,hrd.same u,hrw,fun H4 k4 hrd4=>?_⟩
   exact ⟨_,S1,rfl,hrd4,hgr,fun d o e1 e2 e3 ed=>k4 d o e1 e2 e3 (u _ _ (kp d o e1 e2 e3 ed))⟩
 rintro σ H3 ⟨c4,Si,rfl,⟨rs,ls,ms,hrl,hll,hnl,hR,hL,hN,_⟩,hgr,kp⟩
 rw [List.length_map,List.drop_length] at hgr
 obtain rfl:Si=S:=hgr
 have s3:Same H H3:=fun d o e=>kp d o (j8 e fr.1) (j8 e fr.2.1) (j8 e fr.2.2) (s12 _ _ e)
 have hrs:rs.length=Si.1.length:=hR.1
 have hms:ms.length=Si.2.2.length:=hN.1
 have hrne:0<rs.length:=by rw [hrs];exact List.length_pos_iff.mpr hne
 refine ⟨_,rfl,true,.inl ⟨rs,SqL.of hrl,by cases rs with|nil=>exact absurd hrne (by decide)|cons a b=>rfl⟩,kS ?_⟩
 refine ⟨_,rfl,_,rfl,_,rfl,nl,rfl,⟨_,SqL.of hnl⟩,fun D hD=>?_⟩
 refine v9 (K:=K) (a:=nl) (xs:=ms) (caps:=[some (.ref rl)]) (fun i ys Hi=>AllAt (NAt [D] Hi) ys ((Si.2.2.take i).map (v3 Si.1.length))) hD (SqL.of hnl) AllAt.nil ?_ ?_
 ·rintro i v ys Hi hv hi hle sm hY hI
  obtain ⟨p,hp,l,qs,rfl,hl,hq,_⟩:=hN.2 i v hv
  have hi8:i<100:=by omega
  have hpn:=hpl p (List.mem_of_getElem? hp)
  refine yD (vM ?_)
  refine ⟨_,rfl,_,rfl,rl,_,rfl,.inl (SqL.of (sm _ _ hrl)),l,qs,p,rs.length,rfl,sm _ _ hl,hq.mono (QAt.same sm),by omega,by omega,fun g gs H5 s5 hg0 hg hG=>?_⟩
  rw [hrs] at hG
  refine vQ hD sm hY hle (by omega) s5 ?_
  rw [List.take_add_one,hp,List.map_append]
  exact ((hI.mono (NAt.same s5)).snoc (v:=.ref g) (x:=v3 Si.1.length p) ⟨g,gs,rfl,hg,hG,fun z=>j8 hY hg0 (List.mem_singleton.mp z).symm⟩).mono (NAt.put (s5 _ _ hY) (by simp))
 rintro ys H4 s4 hYD hle4 hM
 rw [hms,List.take_length] at hM
 have s14:=s3.trans s4
 intro x dx nx ndx nex
 have u:=fun o o'=>AL (o:=o) (o':=o') nx ndx
 refine ⟨x,dx,rl,ll,_,rs,ls,Si.1,Si.2.1,Si.2.2.map (v3 Si.1.length),rfl,jD,u _ _ _ _ (s4 _ _ hrl),u _ _ _ _ (s4 _ _ hll),(hR.mono (RcO.same s4)).mono (RcO.same (u _ _)),(hL.mono (LkO.same s4)).mono (LkO.same (u _ _)),.inr ⟨D,ys,rfl,u _ _ _ _ hYD,(hM.mono (NAt.same (u _ _))).mono (NAt.less (by simp)),by omega⟩,fun H' kp hC=>⟨rfl,?_⟩⟩
 exact q x H' (s14.trans (xE nx (u _ _) kp)) (s14.free nx) (hC [] (fun d hd=>nomatch hd))
theorem pZ:FnScope ["script","k"] ["script","k"] (jG JT):=⟨rfl,rfl,rfl,by decide +kernel,rfl,by decide +kernel,by decide +kernel⟩
theorem oK {f:Addr} {fd:FuncData} (F:Fun K "_law_cell_at" "_law_cell_at" JT f fd) (T:Txt K mg cP cB cU cR cN tkS j0 jZ j7 j6 j4 j5 j3) : FnOk P w K mg base jR 1 f fd ["script","k"] (e7 K):=by
 refine F.ok pZ (fun vs H Q E h=>?_) (fun cdv A outer s H vs Q E hr h=>?_)
 ·obtain ⟨a,ns,k,rfl,hS,q⟩:=h
  rfl
 obtain ⟨a,ns,k,rfl,hS,q⟩:=h
 have hu:_<cLine:=hr.units0
 have hu1:=kD hr
 refine ⟨_,(@jH _ _ _ _ _ (jV (jQ ZU (pv 1) (kA kX (by rfl) T.z_len PySem.boot_len (jA (pv 0) jC)) (jP _)) (@jE _ _ _ (@jS _ _ _ _ (jI jN (pv 0) (pv 1) (fun _ _=>rfl)))) j9)
   (@jE _ _ _ (@jS _ _ _ _ jB))),?_⟩
 refine ⟨_,rfl,_,rfl,a,_,rfl,.inl hS,_,_,rfl,rfl,_,rfl,?_⟩
 refine z9 (fun c=>?_) (fun c=>?_)
 ·have c':(k:Int)<(((ns.map V.int).length:Nat):Int):=of_decide_eq_true c
  rw [List.length_map] at c'
  exact ⟨_,rfl,_,rfl,a,_,_,_,rfl,rfl,hS,eP (by omega),q⟩
 ·have c':¬(k:Int)<(((ns.map V.int).length:Nat):Int):=of_decide_eq_false (Bool.eq_false_iff.mpr c)
  rw [List.length_map] at c'
  have e:ns.getD k 0=0:=by rw [List.getD_eq_getElem?_getD,List.getElem?_eq_none (by omega)];rfl
  rw [e] at q
  exact q
theorem p8:FnScope ["found"] ["found"] (jG J6):=⟨rfl,rfl,rfl,by decide +kernel,rfl,by decide +kernel,by decide +kernel⟩
theorem o3 {f:Addr} {fd:FuncData} (F:Fun K "_law_whole" "_law_whole" J6 f fd) (T:Txt K mg cP cB cU cR cN tkS j0 jZ j7 j6 j4 j5 j3) : FnOk P w K mg base jR 1 f fd ["found"] (lU):=by
 refine F.ok p8 (fun vs H Q E h=>?_) (fun cdv A outer s H vs Q E hr h=>?_)
 ·obtain ⟨i,rfl,q⟩:=h
  rfl
 obtain ⟨i,rfl,q⟩:=h
 have hu:_<cLine:=hr.units0
 have hu1:=kD hr
 refine ⟨_,(@jE _ _ _ (@jS _ _ _ _ (fA (kA vG (by rfl) T.z_isinstance PyProof.Rows.boot_isinstance (jA (pv 0) (jA (yP (v:=.ty "int") rfl T.z_int PyProof.Rows.boot_int rfl) jC))) (cQ (BO (kA vG (by rfl) T.z_isinstance PyProof.Rows.boot_isinstance (jA (pv 0) (jA (yP (v:=.ty "bool") rfl T.z_bool PyProof.Rows.boot_bool rfl) jC)))))))),?_⟩
 refine ⟨_,rfl,_,_,_,_,_,rfl,rfl,TyOf.int i,yB "int",true,rfl,vM ?_⟩
 exact ⟨_,rfl,_,_,_,_,_,rfl,rfl,TyOf.int i,sC,false,rfl,q⟩
theorem vW:FnScope ["cell","many","signs","base","k","size","at","names","sign","name"] ["cell","many"] (jG JX):=⟨rfl,rfl,rfl,by decide +kernel,rfl,by decide +kernel,by decide +kernel⟩
theorem oQ {f:Addr} {fd:FuncData} (F:Fun K "_law_names" "_law_names" JX f fd) (T:Txt K mg cP cB cU cR cN tkS j0 jZ j7 j6 j4 j5 j3) : FnOk P w K mg base jR 1 f fd ["cell","many"] (eH):=by
 refine F.ok vW (fun vs H Q E h=>?_) (fun cdv A outer s H vs Q E hr h=>?_)
 ·obtain ⟨c,rfl,q⟩:=h
  rfl
 obtain ⟨c,rfl,q⟩:=h
 have hu:_<cLine:=hr.units0
 have hu1:=kD hr
 refine ⟨_,(@jH _ _ _ _ _ (jU (i:=2) vW.nd rfl (by first|exact Or.inl rfl|exact Or.inr rfl) kB)
   (@jH _ _ _ _ _ (jU (i:=3) vW.nd rfl (by first|exact Or.inl rfl|exact Or.inr rfl) kB)
   (@jH _ _ _ _ _ (vC PassesOwn.never rfl (yX (by rfl) T.z_range (jA jB jC)) (kM (i:=4) vW.nd rfl (by first|exact Or.inl rfl|exact Or.inr rfl))
    (@jE _ _ _ (jU (i:=3) vW.nd rfl (by first|exact Or.inl rfl|exact Or.inr rfl) (@jF _ _ _ _ _ _ _ _ d0 (pv 3) (jI cS (pv 2) (@jF _ _ _ _ _ _ _ _ kH (@jF _ _ _ _ _ _ _ _ qC (@jF _ _ _ _ _ _ _ _ qC (@jF _ _ _ _ _ _ _ _ qK (pv 0) jB) (@jF _ _ _ _ _ _ _ _ z5 (@jF _ _ _ _ _ _ _ _ qK (pv 0) jB) (pv 4))) (@jF _ _ _ _ _ _ _ _ z5 (pv 4) (pv 4))) jB) (fun _ _=>rfl))))))
   (@jH _ _ _ _ _ (jU (i:=5) vW.nd rfl (by first|exact Or.inl rfl|exact Or.inr rfl) (@jF _ _ _ _ _ _ _ _ qC jB (@jF _ _ _ _ _ _ _ _ kH (@jF _ _ _ _ _ _ _ _ qK (pv 0) jB) jB)))
   (@jH _ _ _ _ _ (jU (i:=6) vW.nd rfl (by first|exact Or.inl rfl|exact Or.inr rfl) (@jF _ _ _ _ _ _ _ _ kH (@jF _ _ _ _ _ _ _ _ qK (pv 0) jB) (pv 5)))
   (@jH _ _ _ _ _ (jU (i:=7) vW.nd rfl (by first|exact Or.inl rfl|exact Or.inr rfl) (kZ jC))
   (@jH _ _ _ _ _ (vC PassesOwn.never rfl (yX (by rfl) T.z_range (jA (pv 1) jC)) (kM (i:=4) vW.nd rfl (by first|exact Or.inl rfl|exact Or.inr rfl))
    (@jH _ _ _ _ _ (jU (i:=8) vW.nd rfl (by first|exact Or.inl rfl|exact Or.inr rfl) (jI cS (pv 2) (@jF _ _ _ _ _ _ _ _ kH (@jF _ _ _ _ _ _ _ _ qC (@jF _ _ _ _ _ _ _ _ qK (pv 0) jB) (@jF _ _ _ _ _ _ _ _ z5 jB (pv 4))) jB) (fun _ _=>rfl)))
   (@jH _ _ _ _ _ (jU (i:=9) vW.nd rfl (by first|exact Or.inl rfl|exact Or.inr rfl) (@jF _ _ _ _ _ _ _ _ d0 (@jF _ _ _ _ _ _ _ _ d0 (v0 cM (pv 3) yN (qA (pv 6))) (pv 8)) (v0 cM (pv 3) (qA (@jF _ _ _ _ _ _ _ _ qC (pv 6) jB)) (qA (pv 5)))))
   (vH (jV (jQ kO (@jF _ _ _ _ _ _ _ _ kH (pv 0) jB) jB (jP _)) (@jE _ _ _ (jU (i:=9) vW.nd rfl (by first|exact Or.inl rfl|exact Or.inr rfl) (v0 cM (pv 3) yN (qA (@jF _ _ _ _ _ _ _ _ qC (pv 4) jB))))) j9)
   (vH (jV (jQ kO (@jF _ _ _ _ _ _ _ _ kH (pv 0) jB) jB (jP _)) (@jE _ _ _ (jU (i:=9) vW.nd rfl (by first|exact Or.inl rfl|exact Or.inr rfl) (v0 cM (pv 3) (qA (@jF _ _ _ _ _ _ _ _ yR jB (pv 4))) yN))) j9)
   (@jE _ _ _ (kW (qM PySem.F.plainAttrs_list PySem.F.slot_list_append PySem.F.type_list_append vR (pv 7) (jA (pv 9) jC)))))))))
   (@jE _ _ _ (@jS _ _ _ _ (pv 7)))))))))),?_⟩
 refine ⟨_,rfl,by decide,by decide,zE (n:=Int.toNat 12) (fun i σ Hi=>∃ck:Option V,σ=[some (.int c),some (.int 8),some (.str lettersS),some (.str (jJ ((kR c).take i))),ck,none,none,none,none,none]∧H=Hi) ⟨none,by rw [xQ];rfl,rfl⟩ ?_ ?_⟩
 ·rintro i σ Hi hi ⟨ck,rfl,rfl⟩
  have hi12:i<12:=hi
  rw [Int.zero_add]
  have hbl:(jJ ((kR c).take i)).length≤12:=by rw [vZ,List.length_take,qQ];omega
  refine ⟨_,rfl,_,rfl,_,rfl,_,_,rfl,rfl,⟨by decide,by decide⟩,_,rfl,_,_,rfl,rfl,⟨by decide,by decide⟩,_,rfl,_,_,rfl,rfl,.inr ⟨by omega,by omega⟩,_,_,rfl,rfl,_,rfl,_,rfl,_,_,rfl,rfl,.inr ⟨by omega,by omega⟩,_,_,rfl,rfl,_,_,rfl,rfl,(by show (0:Int)<26;decide),lettersS,_,_,rfl,rfl,fV,iT _,_,_,rfl,rfl,?_,?_⟩
  ·exact small (by show _+1≤1000;omega)
  ·refine ⟨some (.int (i:Int)),?_,rfl⟩
   show [some (V.int c),some (V.int 8),some (V.str lettersS),some (V.str (jJ ((kR c).take i)++jJ [qU (c / 4+c / 100*(i:Int)+(i:Int)*(i:Int))])),some (V.int (i:Int)),none,none,none,none,none]=_
   rw [eG,wJ c hi12]
 rintro σ Hi ⟨ck,rfl,rfl⟩
 rw [show (kR c).take (Int.toNat 12)=kR c from List.take_of_length_le (by rw [qQ];exact Nat.le_refl 12)]
 have hbs:(jJ (kR c)).length≤sizeLine:=small (by rw [vZ,qQ];decide)
 have hsz0:=Int.emod_nonneg (c / 16) (by decide:(12:Int)≠0)
 have hsz1:=Int.emod_lt_of_pos (c / 16) (by decide:(0:Int)<12)
 have hpos:(0:Int)<1+c / 16%12:=by omega
 have hat0:=Int.emod_nonneg (c / 32) (show (1+c / 16%12:Int)≠0 by omega)
 have hat1:=Int.emod_lt_of_pos (c / 32) hpos
 refine ⟨_,rfl,_,_,rfl,rfl,⟨by decide,by decide⟩,_,_,rfl,rfl,(by show (0:Int)<12;decide),_,_,rfl,rfl,_,rfl,_,_,rfl,rfl,⟨by decide,by decide⟩,_,rfl,_,_,rfl,rfl,hpos,zz0,fun nl hnl=>?_⟩
 refine ⟨_,rfl,_,rfl,by decide,by decide,zE (n:=Int.toNat 8) (fun i σ Hi=>∃ck cs cn:Option V,σ=[some (.int c),some (.int 8),some (.str lettersS),some (.str (jJ (kR c))),ck,some (.int (1+c / 16%12)),some (.int (c / 32%(1+c / 16%12))),some (.ref nl),cs,cn]∧Hi nl=some (.lst (kN (kK c) i))∧Same H Hi) ⟨_,none,none,rfl,jD,jM hnl _⟩ ?_ ?_⟩
 ·rintro i σ Hi hi ⟨ck,cs,cn,rfl,hn,sm⟩
  have hi8:i<8:=hi
  rw [Int.zero_add]
  refine ⟨_,rfl,_,rfl,_,_,rfl,rfl,⟨by decide,by decide⟩,_,rfl,_,_,rfl,rfl,.inl ⟨by decide,by decide⟩,_,_,rfl,rfl,_,_,rfl,rfl,(by show (0:Int)<26;decide),lettersS,_,_,rfl,rfl,fV,iT _,?_⟩
  have l1:=fun a b=>Txt.slice_le (jJ (kR c)) a b
  have hb12:(jJ (kR c)).length=12:=by rw [vZ,qQ]
  refine ⟨_,rfl,_,rfl,_,rfl,_,rfl,hbs,_,rfl,_,_,rfl,rfl,?_,_,rfl,_,rfl,_,_,rfl,rfl,_,rfl,_,rfl,_,rfl,_,rfl,hbs,_,_,rfl,rfl,?_,?_⟩
  ·exact small (by have:=l1 none (some (c / 32%(1+c / 16%12)));show _+1≤1000;omega)
  ·exact small (by rw [Str.length_append];have:=l1 none (some (c / 32%(1+c / 16%12)));have:=l1 (some (c / 32%(1+c / 16%12)+1)) (some (1+c / 16%12));show _+1+_≤1000;omega)
  have hmid:Txt.slice (jJ (kR c)) none (some (c / 32%(1+c / 16%12)))++⟨#[qU (c / 4+3*(i:Int))]⟩++Txt.slice (jJ (kR c)) (some (c / 32%(1+c / 16%12)+1)) (some (1+c / 16%12))=jJ (yI c i):=by
   rw [lB _ hat0 (by rw [qQ];omega),uB _ (by omega) (by omega) (by rw [qQ];omega),w9,eG,eG]
   unfold yI zC y7
   rw [show (c / 32%(1+c / 16%12)+1).toNat=(c / 32%(1+c / 16%12)).toNat+1 by omega]
  rw [hmid]
  refine ⟨fun σ' H'=>σ'=[some (.int c),some (.int 8),some (.str lettersS),some (.str (jJ (kR c))),some (.int (i:Int)),some (.int (1+c / 16%12)),some (.int (c / 32%(1+c / 16%12))),some (.ref nl),some (.str ⟨#[qU (c / 4+3*(i:Int))]⟩),some (.str (jJ (if c%4=0 then (kR c).take (i+1) else yI c i)))]∧H'=Hi,?_,?_⟩
  ·refine ⟨_,rfl,_,_,rfl,rfl,(by show (0:Int)<4;decide),rfl,_,rfl,?_⟩
   by_cases h4:c%4=0
   ·refine kL (congrArg V.int h4) ⟨_,rfl,_,rfl,_,_,rfl,rfl,_,rfl,_,rfl,hbs,?_,rfl⟩
    rw [lB _ (by omega) (by rw [qQ];omega),if_pos h4,show ((i:Int)+1).toNat=i+1 by omega]
    rfl
   ·refine kG (fun z=>h4 (V.int.inj z)) ⟨?_,rfl⟩
    rw [if_neg h4]
    rfl
  rintro σ' H' ⟨rfl,rfl⟩
  refine ⟨fun σ' H2=>σ'=[some (.int c),some (.int 8),some (.str lettersS),some (.str (jJ (kR c))),some (.int (i:Int)),some (.int (1+c / 16%12)),some (.int (c / 32%(1+c / 16%12))),some (.ref nl),some (.str ⟨#[qU (c / 4+3*(i:Int))]⟩),some (.str (jJ (kK c i)))]∧H2=H',?_,?_⟩
  ·refine ⟨_,rfl,_,_,rfl,rfl,(by show (0:Int)<4;decide),rfl,_,rfl,?_⟩
   by_cases h4:c%4=1
   ·refine kL (congrArg V.int h4) ⟨_,rfl,_,rfl,_,_,rfl,rfl,_,rfl,_,rfl,hbs,?_,rfl⟩
    rw [sT _ (by omega) (by rw [qQ];omega),show ((11:Int) - (i:Int)).toNat=11 - i by omega]
    have e:kK c i=(kR c).drop (11 - i):=by unfold kK;rw [if_neg (by omega),if_pos h4]
    rw [e]
    rfl
   ·refine kG (fun z=>h4 (V.int.inj z)) ⟨?_,rfl⟩
    unfold kK
    rw [if_neg h4]
  rintro σ' H2 ⟨rfl,rfl⟩
  refine ⟨_,rfl,.inl ⟨rfl,_,SqL.of hn⟩,_,rfl,nl,_,_,rfl,rfl,hn,qJ (by rw [Q7];omega),?_⟩
  refine ⟨_,_,_,rfl,?_,kU hnl sm⟩
  rw [jD,dR]
 ·rintro σ Hi ⟨ck,cs,cn,rfl,hn,sm⟩
  exact ⟨_,rfl,q nl Hi sm hnl hn⟩
theorem Z5:FnScope ["cell","names","other"] ["cell"] (jG zP):=⟨rfl,rfl,rfl,by decide +kernel,rfl,by decide +kernel,by decide +kernel⟩
theorem oY {f:Addr} {fd:FuncData} (F:Fun K "_law_reach_names" "_law_reach_names" zP f fd) (T:Txt K mg cP cB cU cR cN tkS j0 jZ j7 j6 j4 j5 j3) (D__law_names:Def P w K mg base 1 "_law_names" ["cell","many"] [] (eH)):FnOk P w K mg base jR 2 f fd ["cell"] (dQ):=by
 refine F.ok Z5 (fun vs H Q E h=>?_) (fun cdv A outer s H vs Q E hr h=>?_)
 ·obtain ⟨c,rfl,q⟩:=h
  rfl
 obtain ⟨c,rfl,q⟩:=h
 have hu:_<cLine:=hr.units0
 have hu1:=kD hr
 refine ⟨_,(@jH _ _ _ _ _ (jU (i:=1) Z5.nd rfl (by first|exact Or.inl rfl|exact Or.inr rfl) (jX D__law_names hr rfl (jA (pv 0) (jA jB jC))))
   (@jH _ _ _ _ _ (jU (i:=2) Z5.nd rfl (by first|exact Or.inl rfl|exact Or.inr rfl) kB)
   (vH (jV (jQ ZU (@jF _ _ _ _ _ _ _ _ kH (pv 0) jB) jB (jP _)) (@jE _ _ _ (jU (i:=2) Z5.nd rfl (by first|exact Or.inl rfl|exact Or.inr rfl) kB)) j9)
   (@jE _ _ _ (@jS _ _ _ _ (yO ["name","other"] (qV 1 [2]) rfl (vP (jG zP) rfl rfl (by decide +kernel) (by decide +kernel) (by decide +kernel)) (vF 1 [2] rfl rfl (by decide +kernel)) (q9 (pv 1)) (fun _ _ _ _ _=>(kM (i:=0) (show List.Nodup (["name","other"]:List Str) from by decide +kernel) rfl (by first|exact Or.inl rfl|exact Or.inr rfl))) (fun _ _ _ _ _=>yA) (fun _ _ _ _ _=>(eM (jQ kO (pv 0) kB (jP _)) (pv 1) (pv 0))))))))),?_⟩
 refine ⟨_,rfl,c,rfl,fun nl H1 s1 hnl0 hnl=>?_⟩
 refine ⟨fun σ' H'=>σ'=[some (.int c),some (.ref nl),some (.str (jJ (vD c)))]∧H1=H',?_,?_⟩
 ·refine ⟨_,rfl,_,_,rfl,rfl,(by show (0:Int)<4;decide),_,_,rfl,rfl,_,rfl,?_⟩
  by_cases h:c%4<2
  ·refine kL h ⟨?_,rfl⟩
   rw [show vD c=[115,101,98] from if_pos h,← wT]
   rfl
  ·refine kG h ⟨?_,rfl⟩
   rw [show vD c=[115,101,97,122] from if_neg h,← uC]
   rfl
 rintro σ' H' ⟨rfl,rfl⟩
 refine ⟨_,rfl,nl,rfl,⟨_,SqL.of hnl⟩,fun D hD=>?_⟩
 refine v9 (K:=K) (a:=nl) (caps:=[some (.str (jJ (vD c)))]) (fun i ys Hi=>ys=kN (qB c) i) hD (SqL.of hnl) rfl ?_ ?_
 ·rintro i y ys Hi hy hi hle sm hY rfl
  have hi8:i<8:=by rw [Q7] at hi;exact hi
  rw [Q8 _ hi8] at hy
  cases hy
  refine yD (vM ?_)
  refine ⟨_,rfl,rfl,_,rfl,?_⟩
  have hd:(V.str (jJ (kK c i))=V.str "sea")↔kK c i=seaL:=⟨fun z=>QO ((V.str.inj z).trans bU),fun z=>by rw [z,bU]⟩
  by_cases h:kK c i=seaL
  ·refine kL (hd.mpr h) ⟨_,rfl,?_⟩
   refine vQ hD sm hY hle (by omega) (Same.refl _) ?_
   rw [show jJ (vD c)=jJ (qB c i) by unfold qB;rw [if_pos h],dR]
  ·refine kG (fun z=>h (hd.mp z)) ⟨_,rfl,?_⟩
   refine vQ hD sm hY hle (by omega) (Same.refl _) ?_
   rw [show jJ (kK c i)=jJ (qB c i) by unfold qB;rw [if_neg h],dR]
 ·rintro ys Hf sm hY hle rfl
  rw [Q7] at hY
  exact q D Hf (s1.trans sm) (s1.free hD) hY
theorem p0:FnScope ["cell","names"] ["cell","names"] (jG JU):=⟨rfl,rfl,rfl,by decide +kernel,rfl,by decide +kernel,by decide +kernel⟩
theorem oN {f:Addr} {fd:FuncData} (F:Fun K "_law_gates" "_law_gates" JU f fd) (T:Txt K mg cP cB cU cR cN tkS j0 jZ j7 j6 j4 j5 j3) (D__law_reach_names:Def P w K mg base 2 "_law_reach_names" ["cell"] [] (dQ)) (D__law_names:Def P w K mg base 1 "_law_names" ["cell","many"] [] (eH)):FnOk P w K mg base jR 3 f fd ["cell","names"] (lA):=by
 refine F.ok p0 (fun vs H Q E h=>?_) (fun cdv A outer s H vs Q E hr h=>?_)
 ·obtain ⟨c,r,a,rfl,ha,q⟩:=h
  rfl
 obtain ⟨c,r,a,rfl,ha,q⟩:=h
 have hu:_<cLine:=hr.units0
 have hu1:=kD hr
 refine ⟨_,(@jH _ _ _ _ _ (jV (jQ kO (@jF _ _ _ _ _ _ _ _ kH (pv 0) jB) jB (jP _)) (@jE _ _ _ (@jS _ _ _ _ (pv 1))) j9)
   (@jH _ _ _ _ _ (jV (jQ kO (@jF _ _ _ _ _ _ _ _ kH (pv 0) jB) jB (jP _)) (@jE _ _ _ (@jS _ _ _ _ (@jF _ _ _ _ _ _ _ _ z6 (kZ (jA kB jC)) (v0 ZH (jX D__law_reach_names hr rfl (jA (@jF _ _ _ _ _ _ _ _ qC (@jF _ _ _ _ _ _ _ _ z5 (@jF _ _ _ _ _ _ _ _ qK (pv 0) jB) jB) jB) jC)) yN (qA jB))))) j9)
   (@jE _ _ _ (@jS _ _ _ _ (jX D__law_names hr rfl (jA (@jF _ _ _ _ _ _ _ _ qK (pv 0) jB) (jA jB jC))))))),?_⟩
 refine ⟨_,rfl,_,_,rfl,rfl,(by show (0:Int)<5;decide),rfl,_,rfl,?_⟩
 by_cases h0:c%5=0
 ·refine kL (congrArg V.int h0) ⟨_,rfl,q a H (Same.refl _) ?_⟩
  rw [ha]
  exact congrArg (fun z=>some (HO.lst z)) (fU fun k=>(if_pos h0:qT r c k=qB r k).symm)
 refine kG (fun z=>h0 (V.int.inj z)) ⟨_,rfl,_,_,rfl,rfl,(by show (0:Int)<5;decide),rfl,_,rfl,?_⟩
 by_cases h1:c%5=1
 ·refine kL (congrArg V.int h1) ⟨zz1,fun p hp=>?_⟩
  have s1:=jM hp (.lst [V.str "sea"])
  refine ⟨_,rfl,_,_,rfl,rfl,⟨by decide,by decide⟩,_,_,rfl,rfl,.inr ⟨by decide,by decide⟩,_,_,rfl,rfl,c / 5*4+3,rfl,fun nl H1 s2 hnl0 hnl=>?_⟩
  refine ⟨_,rfl,nl,_,rfl,SqL.of hnl,fun sl hsl=>?_⟩
  have s3:=jM hsl (.lst (q8 (kN (qB (c / 5*4+3)) 8) none (some 7)))
  refine ⟨p,sl,_,_,rfl,rfl,s3 _ _ (s2 _ _ jD),jD,?_,fun l hl=>q l _ (((s1.trans s2).trans s3).trans (jM hl _)) ?_⟩
  ·rw [mX,Q7];decide
  rw [jD,mX,bU]
  show some (HO.lst (V.str (jJ seaL)::kN (qB (c / 5*4+3)) 7))=_
  rw [r9 seaL _ (qT r c) 7 (by unfold qT;rw [if_neg h0,if_pos h1]) (fun k=>by unfold qT;rw [if_neg h0,if_pos h1])]
 refine kG (fun z=>h1 (V.int.inj z)) ⟨_,rfl,_,_,rfl,rfl,⟨by decide,by decide⟩,c / 5,rfl,fun nl H1 s2 hnl0 hnl=>q nl H1 s2 ?_⟩
 rw [hnl]
 exact congrArg (fun z=>some (HO.lst z)) (fU fun k=>((by unfold qT;rw [if_neg h0,if_neg h1]):qT r c k=kK (c / 5) k).symm)
theorem QL:FnScope ["name","a","b","c","many","least","crest","some","water"] ["name","a","b","c","many"] (jG J3):=⟨rfl,rfl,rfl,by decide +kernel,rfl,by decide +kernel,by decide +kernel⟩
theorem oW {f:Addr} {fd:FuncData} (F:Fun K "_law_reach" "_law_reach" J3 f fd) (T:Txt K mg cP cB cU cR cN tkS j0 jZ j7 j6 j4 j5 j3) : FnOk P w K mg base jR 1 f fd ["name","a","b","c","many"] (iW):=by
 refine F.ok QL (fun vs H Q E h=>?_) (fun cdv A outer s H vs Q E hr h=>?_)
 ·obtain ⟨nm,a,b,c,n,rfl,q⟩:=h
  rfl
 obtain ⟨nm,a,b,c,n,rfl,q⟩:=h
 have hu:_<cLine:=hr.units0
 have hu1:=kD hr
 refine ⟨_,(@jH _ _ _ _ _ (jU (i:=5) QL.nd rfl (by first|exact Or.inl rfl|exact Or.inr rfl) (kA (iM rfl) (by rfl) T.z_min PyProof.Rows.boot_min (jA (@jF _ _ _ _ _ _ _ _ kH (pv 2) (@jF _ _ _ _ _ _ _ _ vT jB jB)) (jA (@jF _ _ _ _ _ _ _ _ kH (pv 3) (@jF _ _ _ _ _ _ _ _ vT jB jB)) jC))))
   (@jH _ _ _ _ _ (jU (i:=6) QL.nd rfl (by first|exact Or.inl rfl|exact Or.inr rfl) (kA (iN rfl) (by rfl) T.z_max PyProof.Rows.boot_max (jA (@jF _ _ _ _ _ _ _ _ kH (pv 2) (@jF _ _ _ _ _ _ _ _ vT jB jB)) (jA (@jF _ _ _ _ _ _ _ _ kH (pv 3) (@jF _ _ _ _ _ _ _ _ vT jB jB)) jC))))
   (vH (jV (jQ kO (@jF _ _ _ _ _ _ _ _ kH (@jF _ _ _ _ _ _ _ _ qK (pv 1) jB) jB) jB (jP _)) (@jE _ _ _ (jU (i:=5) QL.nd rfl (by first|exact Or.inl rfl|exact Or.inr rfl) (pv 6))) j9)
   (@jH _ _ _ _ _ (jU (i:=7) QL.nd rfl (by first|exact Or.inl rfl|exact Or.inr rfl) (kZ (@jA _ _ _ _ _ jB (@jA _ _ _ _ _ (pv 5) (@jA _ _ _ _ _ (pv 6) (@jA _ _ _ _ _ (kA (iM rfl) (by rfl) T.z_min PyProof.Rows.boot_min (jA (@jF _ _ _ _ _ _ _ _ qC (pv 6) jB) (jA (@jF _ _ _ _ _ _ _ _ yR (@jF _ _ _ _ _ _ _ _ vT jB jB) jB) jC))) (@jA _ _ _ _ _ (kA (iN rfl) (by rfl) T.z_max PyProof.Rows.boot_max (jA jB (jA (@jF _ _ _ _ _ _ _ _ yR (pv 5) jB) jC))) (@jA _ _ _ _ _ (@jF _ _ _ _ _ _ _ _ kH (@jF _ _ _ _ _ _ _ _ qC (@jF _ _ _ _ _ _ _ _ z5 (pv 2) jB) (pv 3)) (@jF _ _ _ _ _ _ _ _ vT jB jB)) jC (by rfl)) (by rfl)) (by rfl)) (by rfl)) (by rfl)) (by rfl))))
   (@jH _ _ _ _ _ (jU (i:=8) QL.nd rfl (by first|exact Or.inl rfl|exact Or.inr rfl) (jI jN (pv 7) (@jF _ _ _ _ _ _ _ _ kH (@jF _ _ _ _ _ _ _ _ qK (pv 1) jB) jB) (fun _ _=>rfl)))
   (@jE _ _ _ (@jS _ _ _ _ (yQ (@jA _ _ _ _ _ kB (@jA _ _ _ _ _ (pv 0) (@jA _ _ _ _ _ (pv 5) (@jA _ _ _ _ _ (pv 6) (@jA _ _ _ _ _ (@jF _ _ _ _ _ _ _ _ qC jB (@jF _ _ _ _ _ _ _ _ kH (@jF _ _ _ _ _ _ _ _ qK (pv 3) jB) jB)) (@jA _ _ _ _ _ (pv 8) (@jA _ _ _ _ _ (@jF _ _ _ _ _ _ _ _ yR (@jF _ _ _ _ _ _ _ _ kH (@jF _ _ _ _ _ _ _ _ qK (pv 1) jB) (@jF _ _ _ _ _ _ _ _ qC (pv 4) jB)) jB) jC (by rfl)) (by rfl)) (by rfl)) (by rfl)) (by rfl)) (by rfl)) (by rfl)))))))))),?_⟩
 have eb0:=Int.emod_nonneg b (show (10:Int) ^ Int.toNat 12≠0 from by decide +kernel)
 have eb1:=Int.emod_lt_of_pos b (show (0:Int)<10 ^ Int.toNat 12 from by decide +kernel)
 have ec0:=Int.emod_nonneg c (show (10:Int) ^ Int.toNat 12≠0 from by decide +kernel)
 have ec1:=Int.emod_lt_of_pos c (show (0:Int)<10 ^ Int.toNat 12 from by decide +kernel)
 have ed0:=Int.emod_nonneg (b*48271+c) (show (10:Int) ^ Int.toNat 12≠0 from by decide +kernel)
 have ed1:=Int.emod_lt_of_pos (b*48271+c) (show (0:Int)<10 ^ Int.toNat 12 from by decide +kernel)
 refine ⟨_,rfl,_,_,rfl,rfl,⟨by decide,by decide,by decide⟩,_,_,rfl,rfl,(show (0:Int)<10 ^ Int.toNat 12 from by decide +kernel),_,rfl,_,_,rfl,rfl,⟨by decide,by decide,by decide⟩,_,_,rfl,rfl,(show (0:Int)<10 ^ Int.toNat 12 from by decide +kernel),_,_,rfl,_,rfl,_,_,rfl,rfl,⟨by decide,by decide,by decide⟩,_,_,rfl,rfl,(show (0:Int)<10 ^ Int.toNat 12 from by decide +kernel),_,rfl,_,_,rfl,rfl,⟨by decide,by decide,by decide⟩,_,_,rfl,rfl,(show (0:Int)<10 ^ Int.toNat 12 from by decide +kernel),_,_,rfl,?_⟩
 try dsimp only
 generalize hB:b%10 ^ Int.toNat 12=B at eb0 eb1 ⊢
 generalize hC:c%10 ^ Int.toNat 12=C at ec0 ec1 ⊢
 generalize hD:(b*48271+c)%10 ^ Int.toNat 12=D at ed0 ed1
 rw [fQ] at eb1 ec1 ed1
 obtain ⟨least,hle⟩:∃z,(if C<B then C else B)=z:=⟨_,rfl⟩
 obtain ⟨crest,hcr⟩:∃z,(if C>B then C else B)=z:=⟨_,rfl⟩
 rw [hle,hcr]
 have f1:0≤least∧least≤crest∧crest≤999999999999:=by
  rw [← hle,← hcr]
  split<;>split<;>omega
 clear hle hcr
 refine ⟨fun σ' H'=>∃le:Int,σ'=[some (.str nm),some (.int a),some (.int b),some (.int c),some (.int (n:Int)),some (.int le),some (.int crest),none,none]∧H=H'∧0≤le∧le≤crest,?_,?_⟩
 ·refine ⟨_,rfl,_,_,rfl,rfl,⟨by decide,by decide⟩,_,_,rfl,rfl,(by show (0:Int)<5;decide),rfl,_,rfl,z9 (fun _=>?_) (fun _=>?_)⟩
  ·exact ⟨_,rfl,crest,rfl,rfl,by omega,Int.le_refl _⟩
  ·exact ⟨least,rfl,rfl,f1.1,f1.2.1⟩
 rintro σ' H' ⟨le,rfl,rfl,g1,g2⟩
 refine ⟨_,rfl,_,rfl,_,rfl,_,_,rfl,rfl,_,_,rfl,rfl,⟨by decide,by decide,by decide⟩,_,_,rfl,rfl,_,_,rfl,_,rfl,_,_,rfl,rfl,_,_,rfl,_,rfl,_,_,rfl,rfl,.inr ⟨by decide,by decide⟩,_,rfl,_,_,rfl,rfl,_,_,rfl,rfl,⟨by decide,by decide,by decide⟩,_,_,rfl,rfl,(show (0:Int)<10 ^ Int.toNat 12 from by decide +kernel),zz6,fun p hp=>?_⟩
 have s1:=jM hp (.lst [V.int 0,V.int le,V.int crest,V.int (if 10 ^ Int.toNat 12 - 1<crest+1 then 10 ^ Int.toNat 12 - 1 else crest+1),V.int (if le - 1>0 then le - 1 else 0),V.int ((b*48271+c)%10 ^ Int.toNat 12)])
 have hpl:=jD (H:=H) (a:=p) (o:=.lst [V.int 0,V.int le,V.int crest,V.int (if 10 ^ Int.toNat 12 - 1<crest+1 then 10 ^ Int.toNat 12 - 1 else crest+1),V.int (if le - 1>0 then le - 1 else 0),V.int ((b*48271+c)%10 ^ Int.toNat 12)])
 obtain ⟨wt,hwt,w1,w2⟩:=CD (n:=a / 4) (lo:=0) (hi:=999999999999) (x0:=0) (x1:=le) (x2:=crest) (x3:=if 10 ^ Int.toNat 12 - 1<crest+1 then 10 ^ Int.toNat 12 - 1 else crest+1) (x4:=if le - 1>0 then le - 1 else 0) (x5:=(b*48271+c)%10 ^ Int.toNat 12) ⟨by omega,by omega⟩ ⟨by omega,by omega⟩ ⟨by omega,by omega⟩ (by rw [fQ];split<;>omega) (by split<;>omega) (by rw [hD];omega)
 refine ⟨_,rfl,_,rfl,_,_,rfl,rfl,⟨by decide,by decide⟩,_,_,rfl,rfl,(by show (0:Int)<6;decide),p,_,_,_,rfl,rfl,SqL.of hpl,hwt,?_⟩
 have hn1:(0:Int)<(n:Int)+1:=by omega
 have t0:=Int.emod_nonneg (a / 16) (show ((n:Int)+1)≠0 by omega)
 have t1:=Int.emod_lt_of_pos (a / 16) hn1
 have b0:=Int.emod_nonneg (c / 2) (by decide:(9:Int)≠0)
 have b1:=Int.emod_lt_of_pos (c / 2) (by decide:(0:Int)<9)
 refine ⟨_,rfl,_,rfl,_,rfl,_,rfl,_,_,rfl,rfl,⟨by decide,by decide⟩,_,_,rfl,rfl,(by show (0:Int)<9;decide),_,_,rfl,rfl,_,rfl,_,rfl,_,_,rfl,rfl,⟨by decide,by decide⟩,_,rfl,_,_,rfl,rfl,_,_,rfl,rfl,hn1,_,_,rfl,rfl,zz7,fun t ht=>?_⟩
 exact q ⟨nm,le,crest,1+c / 2%9,wt,a / 16%((n:Int)+1) - 1⟩ t _ rfl ⟨g1,g2,f1.2.2,by show 1≤1+c / 2%9;omega,by show 1+c / 2%9≤9;omega,w1,w2,by show -1≤a / 16%((n:Int)+1) - 1;omega,by show a / 16%((n:Int)+1) - 1<(n:Int);omega⟩ (s1.trans (jM ht _)) (s1.free ht) jD
theorem zY:FnScope ["name","a","b","c","many","high","room","extra","word"] ["name","a","b","c","many"] (jG JV):=⟨rfl,rfl,rfl,by decide +kernel,rfl,by decide +kernel,by decide +kernel⟩
theorem oO {f:Addr} {fd:FuncData} (F:Fun K "_law_lock" "_law_lock" JV f fd) (T:Txt K mg cP cB cU cR cN tkS j0 jZ j7 j6 j4 j5 j3) : FnOk P w K mg base jR 1 f fd ["name","a","b","c","many"] (lY):=by
 refine F.ok zY (fun vs H Q E h=>?_) (fun cdv A outer s H vs Q E hr h=>?_)
 ·obtain ⟨nm,a,b,c,n,rfl,hn,q⟩:=h
  rfl
 obtain ⟨nm,a,b,c,n,rfl,hn,q⟩:=h
 have hu:_<cLine:=hr.units0
 have hu1:=kD hr
 refine ⟨_,(@jH _ _ _ _ _ (jU (i:=5) zY.nd rfl (by first|exact Or.inl rfl|exact Or.inr rfl) (@jF _ _ _ _ _ _ _ _ qC jB (@jF _ _ _ _ _ _ _ _ kH (@jF _ _ _ _ _ _ _ _ qK (pv 1) jB) (@jF _ _ _ _ _ _ _ _ yR (pv 4) jB))))
   (@jH _ _ _ _ _ (jU (i:=6) zY.nd rfl (by first|exact Or.inl rfl|exact Or.inr rfl) (@jF _ _ _ _ _ _ _ _ qC jB (@jF _ _ _ _ _ _ _ _ kH (pv 2) (@jF _ _ _ _ _ _ _ _ yR (@jF _ _ _ _ _ _ _ _ vT jB jB) jB))))
   (@jH _ _ _ _ _ (jU (i:=7) zY.nd rfl (by first|exact Or.inl rfl|exact Or.inr rfl) (@jF _ _ _ _ _ _ _ _ qC jB (@jF _ _ _ _ _ _ _ _ kH (@jF _ _ _ _ _ _ _ _ qK (pv 3) jB) (pv 6))))
   (vH (jV (jQ kO (@jF _ _ _ _ _ _ _ _ kH (@jF _ _ _ _ _ _ _ _ qK (pv 3) jB) jB) jB (jP _)) (@jE _ _ _ (jU (i:=7) zY.nd rfl (by first|exact Or.inl rfl|exact Or.inr rfl) (pv 6))) j9)
   (@jH _ _ _ _ _ (jU (i:=8) zY.nd rfl (by first|exact Or.inl rfl|exact Or.inr rfl) (jI jN (kZ (@jA _ _ _ _ _ kB (@jA _ _ _ _ _ kB (@jA _ _ _ _ _ kB jC (by rfl)) (by rfl)) (by rfl))) (@jF _ _ _ _ _ _ _ _ kH (pv 3) jB) (fun _ _=>rfl)))
   (vH (jV (jQ kO (pv 8) kB (jP _)) (@jE _ _ _ (jU (i:=7) zY.nd rfl (by first|exact Or.inl rfl|exact Or.inr rfl) jB)) j9)
   (@jE _ _ _ (@jS _ _ _ _ (yQ (@jA _ _ _ _ _ kB (@jA _ _ _ _ _ (pv 0) (@jA _ _ _ _ _ (pv 5) (@jA _ _ _ _ _ (@jF _ _ _ _ _ _ _ _ kH (@jF _ _ _ _ _ _ _ _ qK (pv 1) jB) (pv 5)) (@jA _ _ _ _ _ (pv 6) (@jA _ _ _ _ _ (pv 8) (@jA _ _ _ _ _ (pv 7) jC (by rfl)) (by rfl)) (by rfl)) (by rfl)) (by rfl)) (by rfl)) (by rfl))))))))))),?_⟩
 have hn1:(0:Int)<(n:Int) - 1:=by omega
 have a0:=Int.emod_nonneg (a / 4) (show (n:Int) - 1≠0 by omega)
 have a1:=Int.emod_lt_of_pos (a / 4) hn1
 have em:(10:Int) ^ Int.toNat 12 - 1=999999999999:=by decide +kernel
 have hr0:=Int.emod_nonneg b (show (10:Int) ^ Int.toNat 12 - 1≠0 from by decide +kernel)
 have hr1:=Int.emod_lt_of_pos b (show (0:Int)<10 ^ Int.toNat 12 - 1 from by decide +kernel)
 refine ⟨_,rfl,_,_,rfl,rfl,⟨by decide,by decide⟩,_,rfl,_,_,rfl,rfl,_,_,rfl,rfl,hn1,_,_,rfl,rfl,_,rfl,_,_,rfl,rfl,⟨by decide,by decide,by decide⟩,_,_,rfl,rfl,_,_,rfl,rfl,(show (0:Int)<10 ^ Int.toNat 12 - 1 from by decide +kernel),_,_,rfl,rfl,?_⟩
 try dsimp only
 generalize hH:1+a / 4%((n:Int) - 1)=high
 generalize hR:1+b%(10 ^ Int.toNat 12 - 1)=room
 rw [em] at hr0 hr1 hR
 have hh1:1≤high:=by omega
 have hh2:high<(n:Int):=by omega
 have hrm1:1≤room:=by omega
 have hrm2:room≤999999999999:=by omega
 have x0:=Int.emod_nonneg (c / 3) (show room≠0 by omega)
 have x1:=Int.emod_lt_of_pos (c / 3) (show 0<room by omega)
 have l0:=Int.emod_nonneg (a / 32) (show high≠0 by omega)
 have l1:=Int.emod_lt_of_pos (a / 32) (show 0<high by omega)
 refine ⟨_,rfl,_,_,rfl,rfl,⟨by decide,by decide⟩,_,rfl,_,_,rfl,rfl,(show (0:Int)<room by omega),_,_,rfl,rfl,?_⟩
 refine ⟨fun σ' H'=>∃ex:Int,σ'=[some (.str nm),some (.int a),some (.int b),some (.int c),some (.int (n:Int)),some (.int high),some (.int room),some (.int ex),none]∧H=H'∧1≤ex∧ex≤room,?_,?_⟩
 ·refine ⟨_,rfl,_,_,rfl,rfl,⟨by decide,by decide⟩,_,_,rfl,rfl,(by show (0:Int)<4;decide),rfl,_,rfl,z9 (fun _=>?_) (fun _=>?_)⟩
  ·exact ⟨_,rfl,room,rfl,rfl,hrm1,Int.le_refl _⟩
  ·exact ⟨_,rfl,rfl,by omega,by omega⟩
 rintro σ' H' ⟨ex,rfl,rfl,g1,g2⟩
 obtain ⟨kd,hkd⟩:=BJ c
 refine ⟨zz3,fun p hp=>?_⟩
 have s1:=jM hp (.lst [V.str "plain",V.str "basin",V.str "pump"])
 refine ⟨_,rfl,_,_,rfl,rfl,(by show (0:Int)<3;decide),p,_,_,_,rfl,rfl,SqL.of jD,hkd,?_⟩
 generalize upd H p (.lst [V.str "plain",V.str "basin",V.str "pump"])=H1 at s1 ⊢
 refine ⟨fun σ' H'=>∃ex:Int,σ'=[some (.str nm),some (.int a),some (.int b),some (.int c),some (.int (n:Int)),some (.int high),some (.int room),some (.int ex),some (.str (vU kd))]∧H1=H'∧(kd=.plain→ex=0)∧(kd≠.plain→1≤ex∧ex≤room),?_,?_⟩
 ·refine ⟨_,rfl,rfl,_,rfl,?_⟩
  by_cases hk:kd=.plain
  ·exact kL ((bO kd).mpr hk) ⟨0,rfl,rfl,fun _=>rfl,fun z=>absurd hk z⟩
  ·exact kG (fun z=>hk ((bO kd).mp z)) ⟨ex,rfl,rfl,fun z=>absurd z hk,fun _=>⟨g1,g2⟩⟩
 rintro σ' H' ⟨ex,rfl,rfl,e1,e2⟩
 refine ⟨_,rfl,_,rfl,_,rfl,_,_,rfl,rfl,⟨by decide,by decide⟩,_,rfl,_,_,rfl,rfl,(show (0:Int)<high by omega),_,rfl,_,rfl,_,rfl,zz7,fun t ht=>?_⟩
 exact q ⟨nm,high,a / 32%high,room,kd,ex⟩ t _ rfl ⟨hh1,hh2,l0,l1,hrm1,hrm2,e1,e2⟩ (s1.trans (jM ht _)) (s1.free ht) jD
theorem QJ:FnScope ["a","b","c","many","told","bits","k","comes"] ["a","b","c","many"] (jG JY):=⟨rfl,rfl,rfl,by decide +kernel,rfl,by decide +kernel,by decide +kernel⟩
theorem oR {f:Addr} {fd:FuncData} (F:Fun K "_law_night" "_law_night" JY f fd) (T:Txt K mg cP cB cU cR cN tkS j0 jZ j7 j6 j4 j5 j3) : FnOk P w K mg base jR 1 f fd ["a","b","c","many"] (iX):=by
 refine F.ok QJ (fun vs H Q E h=>?_) (fun cdv A outer s H vs Q E hr h=>?_)
 ·obtain ⟨a,b,c,n,rfl,hn,q⟩:=h
  rfl
 obtain ⟨a,b,c,n,rfl,hn,q⟩:=h
 have hu:_<cLine:=hr.units0
 have hu1:=kD hr
 refine ⟨_,(@jH _ _ _ _ _ (jU (i:=4) QJ.nd rfl (by first|exact Or.inl rfl|exact Or.inr rfl) (kZ jC))
   (@jH _ _ _ _ _ (jU (i:=5) QJ.nd rfl (by first|exact Or.inl rfl|exact Or.inr rfl) (@jF _ _ _ _ _ _ _ _ qK (pv 0) jB))
   (@jH _ _ _ _ _ (vC PassesOwn.never rfl (yX (by rfl) T.z_range (jA (pv 3) jC)) (kM (i:=6) QJ.nd rfl (by first|exact Or.inl rfl|exact Or.inr rfl))
    (vH (jV (jQ kO (@jF _ _ _ _ _ _ _ _ kH (pv 5) jB) jB (jP _)) (@jH _ _ _ _ _ (jU (i:=7) QJ.nd rfl (by first|exact Or.inl rfl|exact Or.inr rfl) (jI jN (kZ (@jA _ _ _ _ _ jB (@jA _ _ _ _ _ (@jF _ _ _ _ _ _ _ _ kH (pv 1) (@jF _ _ _ _ _ _ _ _ vT jB jB)) (@jA _ _ _ _ _ (@jF _ _ _ _ _ _ _ _ kH (@jF _ _ _ _ _ _ _ _ qC (@jF _ _ _ _ _ _ _ _ z5 (pv 1) (@jF _ _ _ _ _ _ _ _ qC (pv 6) jB)) (pv 2)) (@jF _ _ _ _ _ _ _ _ vT jB jB)) jC (by rfl)) (by rfl)) (by rfl))) (@jF _ _ _ _ _ _ _ _ kH (@jF _ _ _ _ _ _ _ _ qC (pv 1) (pv 6)) jB) (fun _ _=>rfl)))
   (@jE _ _ _ (kW (qM PySem.F.plainAttrs_list PySem.F.slot_list_append PySem.F.type_list_append vR (pv 4) (jA (yQ (@jA _ _ _ _ _ (pv 6) (@jA _ _ _ _ _ (pv 7) (@jA _ _ _ _ _ (jI jN (kZ (@jA _ _ _ _ _ jB (@jA _ _ _ _ _ (@jF _ _ _ _ _ _ _ _ kH (pv 2) jB) (@jA _ _ _ _ _ (@jF _ _ _ _ _ _ _ _ kH (@jF _ _ _ _ _ _ _ _ qC (@jF _ _ _ _ _ _ _ _ z5 (pv 2) (@jF _ _ _ _ _ _ _ _ qC (pv 6) jB)) (pv 1)) (@jF _ _ _ _ _ _ _ _ vT jB jB)) jC (by rfl)) (by rfl)) (by rfl))) (@jF _ _ _ _ _ _ _ _ kH (@jF _ _ _ _ _ _ _ _ qC (pv 2) (pv 6)) jB) (fun _ _=>rfl)) jC (by rfl)) (by rfl)) (by rfl))) jC))))) j9)
   (@jE _ _ _ (jU (i:=5) QJ.nd rfl (by first|exact Or.inl rfl|exact Or.inr rfl) (@jF _ _ _ _ _ _ _ _ qK (pv 5) jB)))))
   (vH (jV (jQ kO (@jF _ _ _ _ _ _ _ _ kH (pv 2) jB) jB (jP _)) (@jE _ _ _ (kW (BQ PySem.F.plainAttrs_list PySem.F.slot_list_reverse PySem.F.type_list_reverse tF (pv 4)))) j9)
   (@jE _ _ _ (@jS _ _ _ _ (yQ (jA kB (jA (pv 4) jC))))))))),?_⟩
 refine ⟨zz0,fun l hl=>?_⟩
 have s0:=jM hl (.lst [])
 refine ⟨_,rfl,_,_,rfl,rfl,⟨by decide,by decide⟩,?_⟩
 refine ⟨_,rfl,_,rfl,by omega,by omega,zE (n:=Int.toNat (n:Int)) (fun i σ Hi=>∃(bits:Int) (ck cc:Option V) (rs:List V) (ts:List (Nat×Int×Int)),σ=[some (.int a),some (.int b),some (.int c),some (.int (n:Int)),some (.ref l),some (.int bits),ck,cc]∧Hi l=some (.lst rs)∧TripsAt Hi rs ts∧tripsOk ts i∧ts.length≤i∧Same H Hi) ⟨_,none,none,[],[],rfl,jD,⟨rfl,fun i r h=>by cases h⟩,⟨List.nodup_nil,fun q h=>by cases h⟩,Nat.le_refl _,s0⟩ ?_ ?_⟩
 ·rintro i σ Hi hi ⟨bits,ck,cc,rs,ts,rfl,hl1,htr,hok,hlen,sm⟩
  have hi8:i<8:=by have:i<Int.toNat (n:Int):=hi;omega
  rw [Int.zero_add]
  refine ⟨fun σ' H'=>∃(cc:Option V) (rs:List V) (ts:List (Nat×Int×Int)),σ'=[some (.int a),some (.int b),some (.int c),some (.int (n:Int)),some (.ref l),some (.int bits),some (.int (i:Int)),cc]∧H' l=some (.lst rs)∧TripsAt H' rs ts∧tripsOk ts (i+1)∧ts.length≤i+1∧Same H H',?_,?_⟩
  ·refine ⟨_,rfl,_,_,rfl,rfl,(by show (0:Int)<2;decide),rfl,_,rfl,z9 (fun _=>?_) (fun _=>⟨cc,rs,ts,rfl,hl1,htr,hok.more (by omega),by omega,sm⟩)⟩
   refine ⟨_,rfl,_,_,rfl,rfl,⟨by decide,by decide,by decide⟩,_,_,rfl,rfl,(show (0:Int)<10 ^ Int.toNat 12 from by decide +kernel),_,rfl,_,rfl,_,_,rfl,rfl,_,_,rfl,rfl,.inr ⟨by omega,by omega⟩,_,rfl,_,_,rfl,rfl,_,_,rfl,rfl,⟨by decide,by decide,by decide⟩,_,_,rfl,rfl,(show (0:Int)<10 ^ Int.toNat 12 from by decide +kernel),zz3,fun p hp=>?_⟩
   obtain ⟨x,hx,hx1,hx2⟩:=m7 (n:=b+(i:Int)) (x0:=0) (x1:=b%10 ^ Int.toNat 12) (x2:=(b*((i:Int)+1)+c)%10 ^ Int.toNat 12) (lo:=0) (hi:=999999999999) ⟨by decide,by decide⟩ (fP _) (fP _)
   refine ⟨_,rfl,_,rfl,_,_,rfl,rfl,_,_,rfl,rfl,(by show (0:Int)<3;decide),p,_,_,_,rfl,rfl,SqL.of jD,hx,?_⟩
   have u1:=jM hp (.lst [V.int 0,V.int (b%10 ^ Int.toNat 12),V.int ((b*((i:Int)+1)+c)%10 ^ Int.toNat 12)])
   generalize upd Hi p (.lst [V.int 0,V.int (b%10 ^ Int.toNat 12),V.int ((b*((i:Int)+1)+c)%10 ^ Int.toNat 12)])=H1 at u1 ⊢
   have hc7:0≤c%7∧c%7≤999999999999:=by have:=Int.emod_nonneg c (by decide:(7:Int)≠0);have:=Int.emod_lt_of_pos c (by decide:(0:Int)<7);omega
   refine ⟨_,rfl,.inl ⟨rfl,_,SqL.of (u1 _ _ hl1)⟩,_,rfl,_,rfl,_,rfl,_,_,rfl,rfl,(by show (0:Int)<7;decide),_,rfl,_,rfl,_,_,rfl,rfl,_,_,rfl,rfl,.inr ⟨by omega,by omega⟩,_,rfl,_,_,rfl,rfl,_,_,rfl,rfl,⟨by decide,by decide,by decide⟩,_,_,rfl,rfl,(show (0:Int)<10 ^ Int.toNat 12 from by decide +kernel),zz3,fun p2 hp2=>?_⟩
   obtain ⟨y,hy,hy1,hy2⟩:=m7 (n:=c+(i:Int)) (x0:=0) (x1:=c%7) (x2:=(c*((i:Int)+3)+b)%10 ^ Int.toNat 12) (lo:=0) (hi:=999999999999) ⟨by decide,by decide⟩ hc7 (fP _)
   have u2:=jM hp2 (.lst [V.int 0,V.int (c%7),V.int ((c*((i:Int)+3)+b)%10 ^ Int.toNat 12)])
   refine ⟨_,rfl,_,rfl,_,_,rfl,rfl,_,_,rfl,rfl,(by show (0:Int)<3;decide),p2,_,_,_,rfl,rfl,SqL.of jD,hy,?_⟩
   generalize upd H1 p2 (.lst [V.int 0,V.int (c%7),V.int ((c*((i:Int)+3)+b)%10 ^ Int.toNat 12)])=H2 at u2 ⊢
   refine ⟨zz3,fun tp htp=>?_⟩
   have u3:=jM htp (.tup [V.int (i:Int),V.int x,V.int y])
   have htp1:upd H2 tp (.tup [V.int (i:Int),V.int x,V.int y]) tp=some (.tup [V.int (i:Int),V.int x,V.int y]):=jD
   have sHi:=(u1.trans u2).trans u3
   generalize upd H2 tp (.tup [V.int (i:Int),V.int x,V.int y])=H3 at u3 htp1 sHi ⊢
   have hl3:=sHi _ _ hl1
   refine ⟨l,_,_,rfl,rfl,hl3,qJ (by rw [htr.1];omega),?_⟩
   refine ⟨_,rs++[.ref tp],ts++[(i,x,y)],rfl,jD,?_,hok.snoc ⟨hx1,hx2⟩ ⟨hy1,hy2⟩,by rw [List.length_append];show ts.length+1≤i+1;omega,kU hl (sm.trans sHi)⟩
   exact ((htr.same sHi).snoc htp1).keep ((Keep.refl l _).upd _) hl3
  rintro σ' H' ⟨cc,rs,ts,rfl,hl1,htr,hok,hlen,sm⟩
  exact ⟨_,rfl,_,_,rfl,rfl,⟨by decide,by decide⟩,_,_,cc,rs,ts,rfl,hl1,htr,hok,hlen,sm⟩
 rintro σ Hi ⟨bits,ck,cc,rs,ts,rfl,hl1,htr,hok,hlen,sm⟩
 have hok:tripsOk ts n:=hok
 have hlen:ts.length≤8:=by have:ts.length≤Int.toNat (n:Int):=hlen;omega
 refine ⟨fun σ' H'=>∃(rs:List V) (ts:List (Nat×Int×Int)),σ'=[some (.int a),some (.int b),some (.int c),some (.int (n:Int)),some (.ref l),some (.int bits),ck,cc]∧H' l=some (.lst rs)∧TripsAt H' rs ts∧tripsOk ts n∧ts.length≤8∧Same H H',?_,?_⟩
 ·refine ⟨_,rfl,_,_,rfl,rfl,(by show (0:Int)<2;decide),rfl,_,rfl,z9 (fun _=>?_) (fun _=>⟨rs,ts,rfl,hl1,htr,hok,hlen,sm⟩)⟩
  refine ⟨_,rfl,.inl ⟨rfl,_,SqL.of hl1⟩,l,_,rfl,rfl,hl1,?_⟩
  exact ⟨rs.reverse,ts.reverse,rfl,jD,htr.rev.keep ((Keep.refl l _).upd _) hl1,hok.rev,by rw [List.length_reverse];exact hlen,kU hl sm⟩
 rintro σ' H' ⟨rs,ts,rfl,hl1,htr,hok,hlen,sm⟩
 refine ⟨_,rfl,zz2,fun t ht=>?_⟩
 have u:=jM ht (.tup [V.str "night",V.ref l])
 exact q ts rs t l _ hok hlen (sm.trans u) (sm.free ht) hl jD (u _ _ hl1) (htr.same u)
theorem QK:FnScope ["script","names","gates","plan","many","at","cells","way"] ["script","names","gates"] (jG zO):=⟨rfl,rfl,rfl,by decide +kernel,rfl,by decide +kernel,by decide +kernel⟩
theorem oV {f:Addr} {fd:FuncData} (F:Fun K "_law_plan" "_law_plan" zO f fd) (T:Txt K mg cP cB cU cR cN tkS j0 jZ j7 j6 j4 j5 j3) (D__law_cell_at:Def P w K mg base 1 "_law_cell_at" ["script","k"] [] (e7 K)) (D__law_night:Def P w K mg base 1 "_law_night" ["a","b","c","many"] [] (iX)) (D__law_lock:Def P w K mg base 1 "_law_lock" ["name","a","b","c","many"] [] (lY)) (D__law_reach:Def P w K mg base 1 "_law_reach" ["name","a","b","c","many"] [] (iW)):FnOk P w K mg base jR 2 f fd ["script","names","gates"] (lW K):=by
 refine F.ok QK (fun vs H Q E h=>?_) (fun cdv A outer s H vs Q E hr h=>?_)
 ·obtain ⟨s,nl,gl,ns,rn,gn,rfl,hS,h63,hnl,hgl,q⟩:=h
  rfl
 obtain ⟨s,nl,gl,ns,rn,gn,rfl,hS,h63,hnl,hgl,q⟩:=h
 have hu:_<cLine:=hr.units0
 have hu1:=kD hr
 refine ⟨_,(@jH _ _ _ _ _ (jU (i:=3) QK.nd rfl (by first|exact Or.inl rfl|exact Or.inr rfl) (kZ jC))
   (@jH _ _ _ _ _ (jU (i:=4) QK.nd rfl (by first|exact Or.inl rfl|exact Or.inr rfl) (kZ (@jA _ _ _ _ _ jB (@jA _ _ _ _ _ jB (@jA _ _ _ _ _ jB jC (by rfl)) (by rfl)) (by rfl))))
   (@jH _ _ _ _ _ (vC PassesOwn.never rfl (AC (by rfl) T.z_range (@jA _ _ _ _ _ jB (@jA _ _ _ _ _ (kA kX (by rfl) T.z_len PySem.boot_len (jA (pv 0) jC)) (@jA _ _ _ _ _ jB jC (by rfl)) (by rfl)) (by rfl))) (kM (i:=5) QK.nd rfl (by first|exact Or.inl rfl|exact Or.inr rfl))
    (@jH _ _ _ _ _ (bB (i:=6) ["k","script","at"] (qV 1 [0,5]) QK.nd rfl (by first|exact Or.inl rfl|exact Or.inr rfl) rfl (vP (jG zO) rfl rfl (by decide +kernel) (by decide +kernel) (by decide +kernel)) (vF 1 [0,5] rfl rfl (by decide +kernel)) (yX (by rfl) T.z_range (jA jB jC)) (fun _ _ _ _ _=>(kM (i:=0) (show List.Nodup (["k","script","at"]:List Str) from by decide +kernel) rfl (by first|exact Or.inl rfl|exact Or.inr rfl))) (fun _ _ _ _ _=>yA) (fun _ _ _ _ _=>(@jF _ _ _ _ _ _ _ _ kH (jX D__law_cell_at hr rfl (jA (pv 1) (jA (@jF _ _ _ _ _ _ _ _ qC (pv 2) (pv 0)) jC))) (@jF _ _ _ _ _ _ _ _ vT jB jB))))
   (@jH _ _ _ _ _ (jU (i:=7) QK.nd rfl (by first|exact Or.inl rfl|exact Or.inr rfl) (@jF _ _ _ _ _ _ _ _ kH (jI jN (pv 6) jB (fun _ _=>rfl)) jB))
   (@jE _ _ _ (jV (PW.pt (ZN (jQ kO (pv 7) jB (jP _)) (cA (jQ ZU (jI jN (pv 4) jB (fun _ _=>rfl)) jB (jP _))))) (@jH _ _ _ _ _ (ZO (@jF _ _ _ _ _ _ _ _ qC (jI jN (pv 4) jB (fun _ _=>rfl)) jB) (ZQ (pv 4) jB ZB))
   (@jE _ _ _ (kW (qM PySem.F.plainAttrs_list PySem.F.slot_list_append PySem.F.type_list_append vR (pv 3) (jA (jX D__law_night hr rfl (@jA _ _ _ _ _ (jI jN (pv 6) jB (fun _ _=>rfl)) (@jA _ _ _ _ _ (jI jN (pv 6) jB (fun _ _=>rfl)) (@jA _ _ _ _ _ (jI jN (pv 6) jB (fun _ _=>rfl)) (@jA _ _ _ _ _ (jI jN (pv 4) jB (fun _ _=>rfl)) jC (by rfl)) (by rfl)) (by rfl)) (by rfl))) jC))))) (@jE _ _ _ (jV (PW.pt (ZN (jQ kO (pv 7) jB (jP _)) (ZN (jQ m8 (jI jN (pv 4) jB (fun _ _=>rfl)) jB (jP _)) (cA (jQ ZU (jI jN (pv 4) jB (fun _ _=>rfl)) jB (jP _)))))) (@jH _ _ _ _ _ (ZO (@jF _ _ _ _ _ _ _ _ qC (jI jN (pv 4) jB (fun _ _=>rfl)) jB) (ZQ (pv 4) jB ZB))
   (@jE _ _ _ (kW (qM PySem.F.plainAttrs_list PySem.F.slot_list_append PySem.F.type_list_append vR (pv 3) (jA (jX D__law_lock hr rfl (@jA _ _ _ _ _ (jI jN (pv 2) (@jF _ _ _ _ _ _ _ _ yR (jI jN (pv 4) jB (fun _ _=>rfl)) jB) (fun _ _=>rfl)) (@jA _ _ _ _ _ (jI jN (pv 6) jB (fun _ _=>rfl)) (@jA _ _ _ _ _ (jI jN (pv 6) jB (fun _ _=>rfl)) (@jA _ _ _ _ _ (jI jN (pv 6) jB (fun _ _=>rfl)) (@jA _ _ _ _ _ (jI jN (pv 4) jB (fun _ _=>rfl)) jC (by rfl)) (by rfl)) (by rfl)) (by rfl)) (by rfl))) jC))))) (@jE _ _ _ (jV (jQ ZU (jI jN (pv 4) jB (fun _ _=>rfl)) jB (jP _)) (@jH _ _ _ _ _ (ZO (@jF _ _ _ _ _ _ _ _ qC (jI jN (pv 4) jB (fun _ _=>rfl)) jB) (ZQ (pv 4) jB ZB))
   (@jE _ _ _ (kW (qM PySem.F.plainAttrs_list PySem.F.slot_list_append PySem.F.type_list_append vR (pv 3) (jA (jX D__law_reach hr rfl (@jA _ _ _ _ _ (jI jN (pv 1) (@jF _ _ _ _ _ _ _ _ yR (jI jN (pv 4) jB (fun _ _=>rfl)) jB) (fun _ _=>rfl)) (@jA _ _ _ _ _ (jI jN (pv 6) jB (fun _ _=>rfl)) (@jA _ _ _ _ _ (jI jN (pv 6) jB (fun _ _=>rfl)) (@jA _ _ _ _ _ (jI jN (pv 6) jB (fun _ _=>rfl)) (@jA _ _ _ _ _ (@jF _ _ _ _ _ _ _ _ yR (jI jN (pv 4) jB (fun _ _=>rfl)) jB) jC (by rfl)) (by rfl)) (by rfl)) (by rfl)) (by rfl))) jC))))) j9)))))))))
   (vH (jV (jQ kO (jI jN (pv 4) jB (fun _ _=>rfl)) jB (jP _)) (@jE _ _ _ (kW (qM PySem.F.plainAttrs_list PySem.F.slot_list_append PySem.F.type_list_append vR (pv 3) (jA (yQ (@jA _ _ _ _ _ kB (@jA _ _ _ _ _ (jI jN (pv 1) jB (fun _ _=>rfl)) (@jA _ _ _ _ _ jB (@jA _ _ _ _ _ jB (@jA _ _ _ _ _ jB (@jA _ _ _ _ _ jB (@jA _ _ _ _ _ (CF BC jB) jC (by rfl)) (by rfl)) (by rfl)) (by rfl)) (by rfl)) (by rfl)) (by rfl))) jC)))) j9)
   (@jE _ _ _ (@jS _ _ _ _ (pv 3))))))),?_⟩
 refine ⟨zz0,fun pl hpl0=>?_⟩
 have s1:=jM hpl0 (.lst [])
 refine ⟨zz3,fun mn hmn1=>?_⟩
 have s2:=jM hmn1 (.lst [V.int 0,V.int 0,V.int 0])
 have hmn0:=s1.free hmn1
 have npm:pl≠mn:=j8 (jD (H:=H) (a:=pl) (o:=.lst [])) hmn1
 have hml:(ns.map V.int).length=ns.length:=List.length_map _
 obtain ⟨n,hn,hn21⟩:∃n:Nat,Builtin.Range.rangeSize 2 (((ns.map V.int).length:Nat):Int) 3=(n:Int)∧n≤21:=by
  rw [uA (by decide),hml]
  split
  ·exact ⟨(((ns.length:Nat):Int) - 2 - 1).toNat / 3+1,by omega,by omega⟩
  ·exact ⟨0,rfl,by omega⟩
 refine ⟨_,rfl,s,_,rfl,.inl ((s1.trans s2).seq hS),2,_,3,n,rfl,by decide,by decide,(by rw [hml];exact uF h63),hn,?_⟩
 refine xO (a:=2) (c:=3) (n:=n) (fun i σ Hi=>∃(its:List PIt) (a b c:Nat) (vs:List V) (c5 c6 c7:Option V),σ=[some (.ref s),some (.ref nl),some (.ref gl),some (.ref pl),some (.ref mn),c5,c6,c7]∧PlanOk rn gn its a b c∧Hi pl=some (.lst vs)∧Hi mn=some (.lst [V.int (a:Int),V.int (b:Int),V.int (c:Int)])∧PlanAt [pl,mn] Hi vs its∧Same H Hi) ⟨[],0,0,0,[],none,none,none,rfl,.nil,s2 _ _ jD,jD,PlanAt.nil,s1.trans s2⟩ ?_ ?_
 ·rintro i σ Hi hi ⟨its,a,b,c,vs,c5,c6,c7,rfl,ok,hpl,hmn,hpa,sm⟩
  refine ⟨_,rfl,by decide,by decide,fun cl hcl0=>?_⟩
  refine sK (n:=3) (caps:=[some (.ref s),some (.int (2+(i:Int)*3))]) (fun j ys Hj=>∃zs:List Int,ys=zs.map V.int∧zs.length=j) hcl0 ⟨[],rfl,rfl⟩ ?_ ?_
  ·rintro j ys Hj hj hle sm3 hY ⟨zs,rfl,hzl⟩
   rw [Int.zero_add]
   refine yD (vM ?_)
   refine ⟨_,rfl,_,rfl,_,rfl,_,_,rfl,rfl,s,ns,2+i*3+j,(by rw [show ((2+i*3+j:Nat):Int)=2+(i:Int)*3+(j:Int) by omega];rfl),(sm.trans sm3).seq hS,_,_,rfl,rfl,⟨by decide,by decide,by decide⟩,_,_,rfl,rfl,(show (0:Int)<10 ^ Int.toNat 40 from by decide +kernel),?_⟩
   refine vQ hcl0 sm3 hY hle (by omega) (Same.refl _) ⟨zs++[ns.getD (2+i*3+j) 0%10 ^ Int.toNat 40],by rw [List.map_append];rfl,by rw [List.length_append,hzl];rfl⟩
  rintro ys Hj sj hcl hle ⟨zs,rfl,hzl⟩
  obtain ⟨z0,z1,z2,rfl⟩:∃z0 z1 z2,zs=[z0,z1,z2]:=by
   match zs,hzl with
   |[z0,z1,z2],_=>exact ⟨z0,z1,z2,rfl⟩
  have ncm:cl≠mn:=(j8 hmn hcl0).symm
  have hpl:=sj _ _ hpl
  have hmn:=sj _ _ hmn
  have hpa:=hpa.same sj
  have sm:=sm.trans sj
  clear hcl0
  refine ⟨_,rfl,cl,_,_,_,rfl,rfl,SqL.of hcl,rfl,_,_,rfl,rfl,(by show (0:Int)<4;decide),?_⟩
  try dsimp only
  generalize z0%4=way
  refine ⟨_,rfl,rfl,_,rfl,?_⟩
  by_cases h3:way=3
  ·refine kL (congrArg V.int h3) ⟨_,rfl,mn,_,_,_,rfl,rfl,SqL.of hmn,rfl,_,_,rfl,rfl,_,rfl,?_⟩
   by_cases hc6:c<6
   ·refine kL (by omega) ?_
    refine ⟨_,rfl,mn,_,_,_,rfl,rfl,SqL.of hmn,rfl,_,_,rfl,rfl,_,rfl,mn,_,_,_,rfl,rfl,hmn,rfl,?_⟩
    have km:Keep mn Hj (upd Hj mn (.lst [V.int (a:Int),V.int (b:Int),V.int ((c:Int)+1)])):=(Keep.refl mn _).upd _
    have hmn2:upd Hj mn (.lst [V.int (a:Int),V.int (b:Int),V.int ((c:Int)+1)]) mn=some (.lst [V.int (a:Int),V.int (b:Int),V.int ((c:Int)+1)]):=jD
    have hpl2:=km _ _ npm hpl
    have hpa2:=hpa.keep km hmn (by simp)
    have sm2:Same H (upd Hj mn (.lst [V.int (a:Int),V.int (b:Int),V.int ((c:Int)+1)])):=kU hmn0 sm
    have hcl2:=km _ _ ncm hcl
    have hset:([V.int (a:Int),V.int (b:Int),V.int (c:Int)]:List V).set (Int.toNat 2) (V.int ((c:Int)+1))=[V.int (a:Int),V.int (b:Int),V.int ((c:Int)+1)]:=rfl
    try rw [hset]
    generalize upd Hj mn (.lst [V.int (a:Int),V.int (b:Int),V.int ((c:Int)+1)])=Hk at km hmn2 hpl2 hpa2 sm2 hcl2 ⊢
    refine ⟨_,rfl,.inl ⟨rfl,_,SqL.of hpl2⟩,_,rfl,cl,_,_,_,rfl,rfl,SqL.of hcl2,rfl,_,rfl,cl,_,_,_,rfl,rfl,SqL.of hcl2,rfl,_,rfl,cl,_,_,_,rfl,rfl,SqL.of hcl2,rfl,_,rfl,mn,_,_,_,rfl,rfl,SqL.of hmn2,rfl,z0,z1,z2,a,rfl,ok.bounds.1,fun ts rs t l Hm hts htl sM ht0 hl0 ht hl htr=>?_⟩
    have hpl3:=sM _ _ hpl2
    have kp:Keep pl Hm (upd Hm pl (.lst (vs++[.ref t]))):=(Keep.refl pl _).upd _
    refine ⟨pl,_,_,rfl,rfl,hpl3,qJ (by rw [hpa.1,ok.bounds.2.2.2];have:=ok.bounds;omega),?_⟩
    refine ⟨its++[.night ts],a,b,c+1,_,_,_,_,rfl,ok.night hc6 hts htl,jD,kp _ _ (fun z=>npm z.symm) (sM _ _ hmn2),?_,kU hpl0 (sm2.trans sM)⟩
    exact ((hpa2.same sM).snoc (v:=.ref t) (it:=.night ts) ⟨t,l,rs,rfl,ht,hl,htr,by simp only [List.mem_cons,List.mem_nil_iff,or_false,not_or];exact ⟨fun z=>j8 hpl2 (z▸hl0) rfl,fun z=>j8 hmn2 (z▸hl0) rfl⟩⟩).keep kp hpl3 (by simp)
   ·refine kG (by omega) ⟨_,rfl,rfl,_,rfl,kG (fun z=>absurd (V.int.inj z) (by omega)) ?_⟩
    refine ⟨_,rfl,mn,_,_,_,rfl,rfl,SqL.of hmn,rfl,_,_,rfl,rfl,_,rfl,?_⟩
    by_cases ha8:a<8
    ·refine kL (by omega) ?_
     refine ⟨_,rfl,mn,_,_,_,rfl,rfl,SqL.of hmn,rfl,_,_,rfl,rfl,_,rfl,mn,_,_,_,rfl,rfl,hmn,rfl,?_⟩
     have km:Keep mn Hj (upd Hj mn (.lst [V.int ((a:Int)+1),V.int (b:Int),V.int (c:Int)])):=(Keep.refl mn _).upd _
     have hmn2:upd Hj mn (.lst [V.int ((a:Int)+1),V.int (b:Int),V.int (c:Int)]) mn=some (.lst [V.int ((a:Int)+1),V.int (b:Int),V.int (c:Int)]):=jD
     have hpl2:=km _ _ npm hpl
     have hpa2:=hpa.keep km hmn (by simp)
     have sm2:Same H (upd Hj mn (.lst [V.int ((a:Int)+1),V.int (b:Int),V.int (c:Int)])):=kU hmn0 sm
     have hcl2:=km _ _ ncm hcl
     have hset:([V.int (a:Int),V.int (b:Int),V.int (c:Int)]:List V).set (Int.toNat 0) (V.int ((a:Int)+1))=[V.int ((a:Int)+1),V.int (b:Int),V.int (c:Int)]:=rfl
     try rw [hset]
     generalize upd Hj mn (.lst [V.int ((a:Int)+1),V.int (b:Int),V.int (c:Int)])=Hk at km hmn2 hpl2 hpa2 sm2 hcl2 ⊢
     refine ⟨_,rfl,.inl ⟨rfl,_,SqL.of hpl2⟩,_,rfl,_,rfl,mn,_,_,_,rfl,rfl,SqL.of hmn2,rfl,_,_,rfl,rfl,nl,_,_,_,rfl,rfl,SqL.of (sm2 _ _ hnl),ZC rn ha8,_,rfl,cl,_,_,_,rfl,rfl,SqL.of hcl2,rfl,_,rfl,cl,_,_,_,rfl,rfl,SqL.of hcl2,rfl,_,rfl,cl,_,_,_,rfl,rfl,SqL.of hcl2,rfl,_,rfl,mn,_,_,_,rfl,rfl,SqL.of hmn2,rfl,_,_,rfl,rfl,jJ (rn a),z0,z1,z2,a,(by show [V.str (jJ (rn a)),V.int z0,V.int z1,V.int z2,V.int ((a:Int)+1 - 1)]=_;rw [show (a:Int)+1 - 1=(a:Int) by omega]),fun r t Hm hnm hg sM ht0 ht=>?_⟩
     have hpl3:=sM _ _ hpl2
     have kp:Keep pl Hm (upd Hm pl (.lst (vs++[.ref t]))):=(Keep.refl pl _).upd _
     refine ⟨pl,_,_,rfl,rfl,hpl3,qJ (by rw [hpa.1,ok.bounds.2.2.2];have:=ok.bounds;omega),?_⟩
     refine ⟨its++[.reach r],a+1,b,c,_,_,_,_,rfl,ok.reach ha8 hnm hg,jD,kp _ _ (fun z=>npm z.symm) (sM _ _ hmn2),?_,kU hpl0 (sm2.trans sM)⟩
     exact ((hpa2.same sM).snoc (v:=.ref t) (it:=.reach r) ⟨t,rfl,ht⟩).keep kp hpl3 (by simp)
    ·exact kG (by omega) ⟨its,a,b,c,vs,_,_,_,rfl,ok,hpl,hmn,hpa,sm⟩
  ·refine kG (fun z=>h3 (V.int.inj z)) ⟨_,rfl,rfl,_,rfl,?_⟩
   by_cases h2:way=2
   ·refine kL (congrArg V.int h2) ⟨_,rfl,mn,_,_,_,rfl,rfl,SqL.of hmn,rfl,_,_,rfl,rfl,_,rfl,?_⟩
    by_cases ha1:1<a
    ·refine kL (by omega) ⟨_,rfl,mn,_,_,_,rfl,rfl,SqL.of hmn,rfl,_,_,rfl,rfl,_,rfl,?_⟩
     by_cases hb8:b<8
     ·refine kL (by omega) ?_
      refine ⟨_,rfl,mn,_,_,_,rfl,rfl,SqL.of hmn,rfl,_,_,rfl,rfl,_,rfl,mn,_,_,_,rfl,rfl,hmn,rfl,?_⟩
      have km:Keep mn Hj (upd Hj mn (.lst [V.int (a:Int),V.int ((b:Int)+1),V.int (c:Int)])):=(Keep.refl mn _).upd _
      have hmn2:upd Hj mn (.lst [V.int (a:Int),V.int ((b:Int)+1),V.int (c:Int)]) mn=some (.lst [V.int (a:Int),V.int ((b:Int)+1),V.int (c:Int)]):=jD
      have hpl2:=km _ _ npm hpl
      have hpa2:=hpa.keep km hmn (by simp)
      have sm2:Same H (upd Hj mn (.lst [V.int (a:Int),V.int ((b:Int)+1),V.int (c:Int)])):=kU hmn0 sm
      have hcl2:=km _ _ ncm hcl
      have hset:([V.int (a:Int),V.int (b:Int),V.int (c:Int)]:List V).set (Int.toNat 1) (V.int ((b:Int)+1))=[V.int (a:Int),V.int ((b:Int)+1),V.int (c:Int)]:=rfl
      try rw [hset]
      generalize upd Hj mn (.lst [V.int (a:Int),V.int ((b:Int)+1),V.int (c:Int)])=Hk at km hmn2 hpl2 hpa2 sm2 hcl2 ⊢
      refine ⟨_,rfl,.inl ⟨rfl,_,SqL.of hpl2⟩,_,rfl,_,rfl,mn,_,_,_,rfl,rfl,SqL.of hmn2,rfl,_,_,rfl,rfl,gl,_,_,_,rfl,rfl,SqL.of (sm2 _ _ hgl),ZC gn hb8,_,rfl,cl,_,_,_,rfl,rfl,SqL.of hcl2,rfl,_,rfl,cl,_,_,_,rfl,rfl,SqL.of hcl2,rfl,_,rfl,cl,_,_,_,rfl,rfl,SqL.of hcl2,rfl,_,rfl,mn,_,_,_,rfl,rfl,SqL.of hmn2,rfl,jJ (gn b),z0,z1,z2,a,rfl,ha1,fun r t Hm hnm hg sM ht0 ht=>?_⟩
      have hpl3:=sM _ _ hpl2
      have kp:Keep pl Hm (upd Hm pl (.lst (vs++[.ref t]))):=(Keep.refl pl _).upd _
      refine ⟨pl,_,_,rfl,rfl,hpl3,qJ (by rw [hpa.1,ok.bounds.2.2.2];have:=ok.bounds;omega),?_⟩
      refine ⟨its++[.lock r],a,b+1,c,_,_,_,_,rfl,ok.lock hb8 hnm hg,jD,kp _ _ (fun z=>npm z.symm) (sM _ _ hmn2),?_,kU hpl0 (sm2.trans sM)⟩
      exact ((hpa2.same sM).snoc (v:=.ref t) (it:=.lock r) ⟨t,rfl,ht⟩).keep kp hpl3 (by simp)
     ·refine kG (by omega) ?_
      refine ⟨_,rfl,mn,_,_,_,rfl,rfl,SqL.of hmn,rfl,_,_,rfl,rfl,_,rfl,?_⟩
      by_cases ha8:a<8
      ·refine kL (by omega) ?_
       refine ⟨_,rfl,mn,_,_,_,rfl,rfl,SqL.of hmn,rfl,_,_,rfl,rfl,_,rfl,mn,_,_,_,rfl,rfl,hmn,rfl,?_⟩
       have km:Keep mn Hj (upd Hj mn (.lst [V.int ((a:Int)+1),V.int (b:Int),V.int (c:Int)])):=(Keep.refl mn _).upd _
       have hmn2:upd Hj mn (.lst [V.int ((a:Int)+1),V.int (b:Int),V.int (c:Int)]) mn=some (.lst [V.int ((a:Int)+1),V.int (b:Int),V.int (c:Int)]):=jD
       have hpl2:=km _ _ npm hpl
       have hpa2:=hpa.keep km hmn (by simp)
       have sm2:Same H (upd Hj mn (.lst [V.int ((a:Int)+1),V.int (b:Int),V.int (c:Int)])):=kU hmn0 sm
       have hcl2:=km _ _ ncm hcl
       have hset:([V.int (a:Int),V.int (b:Int),V.int (c:Int)]:List V).set (Int.toNat 0) (V.int ((a:Int)+1))=[V.int ((a:Int)+1),V.int (b:Int),V.int (c:Int)]:=rfl
       try rw [hset]
       generalize upd Hj mn (.lst [V.int ((a:Int)+1),V.int (b:Int),V.int (c:Int)])=Hk at km hmn2 hpl2 hpa2 sm2 hcl2 ⊢
       refine ⟨_,rfl,.inl ⟨rfl,_,SqL.of hpl2⟩,_,rfl,_,rfl,mn,_,_,_,rfl,rfl,SqL.of hmn2,rfl,_,_,rfl,rfl,nl,_,_,_,rfl,rfl,SqL.of (sm2 _ _ hnl),ZC rn ha8,_,rfl,cl,_,_,_,rfl,rfl,SqL.of hcl2,rfl,_,rfl,cl,_,_,_,rfl,rfl,SqL.of hcl2,rfl,_,rfl,cl,_,_,_,rfl,rfl,SqL.of hcl2,rfl,_,rfl,mn,_,_,_,rfl,rfl,SqL.of hmn2,rfl,_,_,rfl,rfl,jJ (rn a),z0,z1,z2,a,(by show [V.str (jJ (rn a)),V.int z0,V.int z1,V.int z2,V.int ((a:Int)+1 - 1)]=_;rw [show (a:Int)+1 - 1=(a:Int) by omega]),fun r t Hm hnm hg sM ht0 ht=>?_⟩
       have hpl3:=sM _ _ hpl2
       have kp:Keep pl Hm (upd Hm pl (.lst (vs++[.ref t]))):=(Keep.refl pl _).upd _
       refine ⟨pl,_,_,rfl,rfl,hpl3,qJ (by rw [hpa.1,ok.bounds.2.2.2];have:=ok.bounds;omega),?_⟩
       refine ⟨its++[.reach r],a+1,b,c,_,_,_,_,rfl,ok.reach ha8 hnm hg,jD,kp _ _ (fun z=>npm z.symm) (sM _ _ hmn2),?_,kU hpl0 (sm2.trans sM)⟩
       exact ((hpa2.same sM).snoc (v:=.ref t) (it:=.reach r) ⟨t,rfl,ht⟩).keep kp hpl3 (by simp)
      ·exact kG (by omega) ⟨its,a,b,c,vs,_,_,_,rfl,ok,hpl,hmn,hpa,sm⟩
    ·refine kG (by omega) ?_
     refine ⟨_,rfl,mn,_,_,_,rfl,rfl,SqL.of hmn,rfl,_,_,rfl,rfl,_,rfl,?_⟩
     by_cases ha8:a<8
     ·refine kL (by omega) ?_
      refine ⟨_,rfl,mn,_,_,_,rfl,rfl,SqL.of hmn,rfl,_,_,rfl,rfl,_,rfl,mn,_,_,_,rfl,rfl,hmn,rfl,?_⟩
      have km:Keep mn Hj (upd Hj mn (.lst [V.int ((a:Int)+1),V.int (b:Int),V.int (c:Int)])):=(Keep.refl mn _).upd _
      have hmn2:upd Hj mn (.lst [V.int ((a:Int)+1),V.int (b:Int),V.int (c:Int)]) mn=some (.lst [V.int ((a:Int)+1),V.int (b:Int),V.int (c:Int)]):=jD
      have hpl2:=km _ _ npm hpl
      have hpa2:=hpa.keep km hmn (by simp)
      have sm2:Same H (upd Hj mn (.lst [V.int ((a:Int)+1),V.int (b:Int),V.int (c:Int)])):=kU hmn0 sm
      have hcl2:=km _ _ ncm hcl
      have hset:([V.int (a:Int),V.int (b:Int),V.int (c:Int)]:List V).set (Int.toNat 0) (V.int ((a:Int)+1))=[V.int ((a:Int)+1),V.int (b:Int),V.int (c:Int)]:=rfl
      try rw [hset]
      generalize upd Hj mn (.lst [V.int ((a:Int)+1),V.int (b:Int),V.int (c:Int)])=Hk at km hmn2 hpl2 hpa2 sm2 hcl2 ⊢
      refine ⟨_,rfl,.inl ⟨rfl,_,SqL.of hpl2⟩,_,rfl,_,rfl,mn,_,_,_,rfl,rfl,SqL.of hmn2,rfl,_,_,rfl,rfl,nl,_,_,_,rfl,rfl,SqL.of (sm2 _ _ hnl),ZC rn ha8,_,rfl,cl,_,_,_,rfl,rfl,SqL.of hcl2,rfl,_,rfl,cl,_,_,_,rfl,rfl,SqL.of hcl2,rfl,_,rfl,cl,_,_,_,rfl,rfl,SqL.of hcl2,rfl,_,rfl,mn,_,_,_,rfl,rfl,SqL.of hmn2,rfl,_,_,rfl,rfl,jJ (rn a),z0,z1,z2,a,(by show [V.str (jJ (rn a)),V.int z0,V.int z1,V.int z2,V.int ((a:Int)+1 - 1)]=_;rw [show (a:Int)+1 - 1=(a:Int) by omega]),fun r t Hm hnm hg sM ht0 ht=>?_⟩
      have hpl3:=sM _ _ hpl2
      have kp:Keep pl Hm (upd Hm pl (.lst (vs++[.ref t]))):=(Keep.refl pl _).upd _
      refine ⟨pl,_,_,rfl,rfl,hpl3,qJ (by rw [hpa.1,ok.bounds.2.2.2];have:=ok.bounds;omega),?_⟩
      refine ⟨its++[.reach r],a+1,b,c,_,_,_,_,rfl,ok.reach ha8 hnm hg,jD,kp _ _ (fun z=>npm z.symm) (sM _ _ hmn2),?_,kU hpl0 (sm2.trans sM)⟩
      exact ((hpa2.same sM).snoc (v:=.ref t) (it:=.reach r) ⟨t,rfl,ht⟩).keep kp hpl3 (by simp)
     ·exact kG (by omega) ⟨its,a,b,c,vs,_,_,_,rfl,ok,hpl,hmn,hpa,sm⟩
   ·refine kG (fun z=>h2 (V.int.inj z)) ?_
    refine ⟨_,rfl,mn,_,_,_,rfl,rfl,SqL.of hmn,rfl,_,_,rfl,rfl,_,rfl,?_⟩
    by_cases ha8:a<8
    ·refine kL (by omega) ?_
     refine ⟨_,rfl,mn,_,_,_,rfl,rfl,SqL.of hmn,rfl,_,_,rfl,rfl,_,rfl,mn,_,_,_,rfl,rfl,hmn,rfl,?_⟩
     have km:Keep mn Hj (upd Hj mn (.lst [V.int ((a:Int)+1),V.int (b:Int),V.int (c:Int)])):=(Keep.refl mn _).upd _
     have hmn2:upd Hj mn (.lst [V.int ((a:Int)+1),V.int (b:Int),V.int (c:Int)]) mn=some (.lst [V.int ((a:Int)+1),V.int (b:Int),V.int (c:Int)]):=jD
     have hpl2:=km _ _ npm hpl
     have hpa2:=hpa.keep km hmn (by simp)
     have sm2:Same H (upd Hj mn (.lst [V.int ((a:Int)+1),V.int (b:Int),V.int (c:Int)])):=kU hmn0 sm
     have hcl2:=km _ _ ncm hcl
     have hset:([V.int (a:Int),V.int (b:Int),V.int (c:Int)]:List V).set (Int.toNat 0) (V.int ((a:Int)+1))=[V.int ((a:Int)+1),V.int (b:Int),V.int (c:Int)]:=rfl
     try rw [hset]
     generalize upd Hj mn (.lst [V.int ((a:Int)+1),V.int (b:Int),V.int (c:Int)])=Hk at km hmn2 hpl2 hpa2 sm2 hcl2 ⊢
     refine ⟨_,rfl,.inl ⟨rfl,_,SqL.of hpl2⟩,_,rfl,_,rfl,mn,_,_,_,rfl,rfl,SqL.of hmn2,rfl,_,_,rfl,rfl,nl,_,_,_,rfl,rfl,SqL.of (sm2 _ _ hnl),ZC rn ha8,_,rfl,cl,_,_,_,rfl,rfl,SqL.of hcl2,rfl,_,rfl,cl,_,_,_,rfl,rfl,SqL.of hcl2,rfl,_,rfl,cl,_,_,_,rfl,rfl,SqL.of hcl2,rfl,_,rfl,mn,_,_,_,rfl,rfl,SqL.of hmn2,rfl,_,_,rfl,rfl,jJ (rn a),z0,z1,z2,a,(by show [V.str (jJ (rn a)),V.int z0,V.int z1,V.int z2,V.int ((a:Int)+1 - 1)]=_;rw [show (a:Int)+1 - 1=(a:Int) by omega]),fun r t Hm hnm hg sM ht0 ht=>?_⟩
     have hpl3:=sM _ _ hpl2
     have kp:Keep pl Hm (upd Hm pl (.lst (vs++[.ref t]))):=(Keep.refl pl _).upd _
     refine ⟨pl,_,_,rfl,rfl,hpl3,qJ (by rw [hpa.1,ok.bounds.2.2.2];have:=ok.bounds;omega),?_⟩
     refine ⟨its++[.reach r],a+1,b,c,_,_,_,_,rfl,ok.reach ha8 hnm hg,jD,kp _ _ (fun z=>npm z.symm) (sM _ _ hmn2),?_,kU hpl0 (sm2.trans sM)⟩
     exact ((hpa2.same sM).snoc (v:=.ref t) (it:=.reach r) ⟨t,rfl,ht⟩).keep kp hpl3 (by simp)
    ·exact kG (by omega) ⟨its,a,b,c,vs,_,_,_,rfl,ok,hpl,hmn,hpa,sm⟩
 rintro σ Hi ⟨its,a,b,c,vs,c5,c6,c7,rfl,ok,hpl,hmn,hpa,sm⟩
 refine ⟨fun σ' H'=>∃(its:List PIt) (a b c:Nat) (vs:List V),σ'=[some (.ref s),some (.ref nl),some (.ref gl),some (.ref pl),some (.ref mn),c5,c6,c7]∧1≤a∧PlanOk rn gn its a b c∧H' pl=some (.lst vs)∧PlanAt [pl,mn] H' vs its∧Same H H',?_,?_⟩
 ·refine ⟨_,rfl,mn,_,_,_,rfl,rfl,SqL.of hmn,rfl,rfl,_,rfl,?_⟩
  by_cases ha:a=0
  ·subst ha
   refine kL rfl ⟨_,rfl,.inl ⟨rfl,_,SqL.of hpl⟩,_,rfl,nl,_,_,_,rfl,rfl,SqL.of (sm _ _ hnl),uR rn,_,rfl,zz7,fun t ht=>?_⟩
   have u:=jM ht (.tup (v5 ⟨jJ (rn 0),0,7,1,9,-1⟩))
   have hpl3:=u _ _ hpl
   have kp:Keep pl (upd Hi t (.tup (v5 ⟨jJ (rn 0),0,7,1,9,-1⟩))) (upd (upd Hi t (.tup (v5 ⟨jJ (rn 0),0,7,1,9,-1⟩))) pl (.lst (vs++[.ref t]))):=(Keep.refl pl _).upd _
   refine ⟨pl,_,_,rfl,rfl,hpl3,qJ (by rw [hpa.1,ok.bounds.2.2.2];have:=ok.bounds;omega),?_⟩
   refine ⟨its++[.reach ⟨jJ (rn 0),0,7,1,9,-1⟩],1,b,c,vs++[.ref t],rfl,by decide,ok.reach (by decide) rfl (CS _),jD,?_,kU hpl0 (sm.trans u)⟩
   exact ((hpa.same u).snoc (v:=.ref t) (it:=.reach ⟨jJ (rn 0),0,7,1,9,-1⟩) ⟨t,rfl,jD⟩).keep kp hpl3 (by simp)
  ·exact kG (fun z=>ha (by have:=V.int.inj z;omega)) ⟨its,a,b,c,vs,rfl,by omega,ok,hpl,hpa,sm⟩
 rintro σ' H' ⟨its,a,b,c,vs,rfl,ha,ok,hpl,hpa,sm⟩
 exact ⟨_,rfl,q its a b c pl vs H' ok ha sm hpl0 hpl (hpa.less (by simp))⟩
theorem zD:FnScope ["plan","reaches","nights","one","pairs","k","comes","goes"] ["plan"] (jG yU):=⟨rfl,rfl,rfl,by decide +kernel,rfl,by decide +kernel,by decide +kernel⟩
theorem oM {f:Addr} {fd:FuncData} (F:Fun K "_law_due" "_law_due" yU f fd) (T:Txt K mg cP cB cU cR cN tkS j0 jZ j7 j6 j4 j5 j3) : FnOk P w K mg base jR 1 f fd ["plan"] (mS):=by
 refine F.ok zD (fun vs H Q E h=>?_) (fun cdv A outer s H vs Q E hr h=>?_)
 ·obtain ⟨pl,us,its,rn,gn,a,b,c,rfl,hpl,hpa,ok,q⟩:=h
  rfl
 obtain ⟨pl,us,its,rn,gn,a,b,c,rfl,hpl,hpa,ok,q⟩:=h
 have hu:_<cLine:=hr.units0
 have hu1:=kD hr
 refine ⟨_,(@jH _ _ _ _ _ (bB (i:=1) ["one"] (qV 1 []) zD.nd rfl (by first|exact Or.inl rfl|exact Or.inr rfl) rfl (vP (jG yU) rfl rfl (by decide +kernel) (by decide +kernel) (by decide +kernel)) (vF 1 [] rfl rfl (by decide +kernel)) (q9 (pv 0)) (fun _ _ _ _ _=>(kM (i:=0) (show List.Nodup (["one"]:List Str) from by decide +kernel) rfl (by first|exact Or.inl rfl|exact Or.inr rfl))) (fun _ _ _ _ _=>(eS (jQ kO (jI (mH K) (pv 0) jB (fun _ _=>rfl)) kB (jP _)))) (fun _ _ _ _ _=>(pv 0)))
   (@jH _ _ _ _ _ (jU (i:=2) zD.nd rfl (by first|exact Or.inl rfl|exact Or.inr rfl) (kZ jC))
   (@jH _ _ _ _ _ (vC PassesOwn.never rfl (q9 (pv 0)) (kM (i:=3) zD.nd rfl (by first|exact Or.inl rfl|exact Or.inr rfl))
    (@jE _ _ _ (jV (jQ kO (jI ix_tup (pv 3) jB (fun _ _=>rfl)) kB (jP _)) (@jH _ _ _ _ _ (bB (i:=4) ["reach"] (qV 1 []) zD.nd rfl (by first|exact Or.inl rfl|exact Or.inr rfl) rfl (vP (jG yU) rfl rfl (by decide +kernel) (by decide +kernel) (by decide +kernel)) (vF 1 [] rfl rfl (by decide +kernel)) (q9 (pv 1)) (fun _ _ _ _ _=>(kM (i:=0) (show List.Nodup (["reach"]:List Str) from by decide +kernel) rfl (by first|exact Or.inl rfl|exact Or.inr rfl))) (fun _ _ _ _ _=>yA) (fun _ _ _ _ _=>(yQ (jA jB (jA jB jC)))))
   (@jH _ _ _ _ _ (vC PassesOwn.never rfl (q9 (jI ix_tup (pv 3) jB (fun _ _=>rfl))) (cO rfl (yM (kM (i:=5) zD.nd rfl (by first|exact Or.inl rfl|exact Or.inr rfl)) (yM (kM (i:=6) zD.nd rfl (by first|exact Or.inl rfl|exact Or.inr rfl)) (yM (kM (i:=7) zD.nd rfl (by first|exact Or.inl rfl|exact Or.inr rfl)) cD))))
    (@jE _ _ _ (ZO (yQ (jA (pv 6) (jA (pv 7) jC))) (ZQ (pv 4) (pv 5) ZB))))
   (@jE _ _ _ (kW (qM PySem.F.plainAttrs_list PySem.F.slot_list_append PySem.F.type_list_append vR (pv 2) (jA (pv 4) jC)))))) j9)))
   (@jE _ _ _ (@jS _ _ _ _ (yQ (@jA _ _ _ _ _ (pv 1) (@jA _ _ _ _ _ (yO ["one"] (qV 1 []) rfl (vP (jG yU) rfl rfl (by decide +kernel) (by decide +kernel) (by decide +kernel)) (vF 1 [] rfl rfl (by decide +kernel)) (q9 (pv 0)) (fun _ _ _ _ _=>(kM (i:=0) (show List.Nodup (["one"]:List Str) from by decide +kernel) rfl (by first|exact Or.inl rfl|exact Or.inr rfl))) (fun _ _ _ _ _=>(eS (jQ kO (jI (mH K) (pv 0) jB (fun _ _=>rfl)) kB (jP _)))) (fun _ _ _ _ _=>(pv 0))) (@jA _ _ _ _ _ (pv 2) jC (by rfl)) (by rfl)) (by rfl)))))))),?_⟩
 refine ⟨_,rfl,pl,rfl,⟨_,SqL.of hpl⟩,fun rl hrl0=>?_⟩
 refine v9 (K:=K) (a:=pl) (xs:=us) (caps:=[]) (fun i ys Hi=>AllAt (RAt H) ys ((its.take i).filterMap JC)) hrl0 (SqL.of hpl) AllAt.nil ?_ ?_
 ·rintro i v ys Hi hv hi hle sm hY hR
  obtain ⟨it,hit,hat⟩:=hpa.2 i v hv
  have hi30:i<30:=by have:=(List.getElem?_eq_some_iff.mp hit).1;have:=ok.bounds;omega
  cases it with
  |reach r =>
   obtain ⟨t,rfl,ht⟩:=hat
   refine ⟨_,rfl,t,_,_,_,rfl,rfl,SqT.of (sm _ _ ht),rfl,rfl,_,rfl,kL rfl ⟨_,rfl,vQ hrl0 sm hY hle (by omega) (Same.refl _) ?_⟩⟩
   rw [yZ JC its hit]
   exact hR.snoc ⟨t,rfl,ht⟩
  |lock r =>
   obtain ⟨t,rfl,ht⟩:=hat
   refine ⟨_,rfl,t,_,_,_,rfl,rfl,SqT.of (sm _ _ ht),rfl,rfl,_,rfl,kG (fun z=>fI (V.str.inj z)) (Q9 sm hY hle (Same.refl _) ?_)⟩
   rw [yZ JC its hit,show (JC (.lock r)).toList=[] from rfl,List.append_nil]
   exact hR
  |night ts =>
   obtain ⟨t,_,_,rfl,ht,_⟩:=hat
   refine ⟨_,rfl,t,_,_,_,rfl,rfl,SqT.of (sm _ _ ht),rfl,rfl,_,rfl,kG (fun z=>fH (V.str.inj z)) (Q9 sm hY hle (Same.refl _) ?_)⟩
   rw [yZ JC its hit,show (JC (.night ts)).toList=[] from rfl,List.append_nil]
   exact hR
 rintro rs H1 s1 hrl hle1 hR
 rw [hpa.1,List.take_length] at hR
 have hR:AllAt (RAt H) rs (kC its):=hR
 refine ⟨zz0,fun nl hnl0=>?_⟩
 have s2:=jM hnl0 (.lst [])
 have s12:=s1.trans s2
 have nrl:rl≠nl:=j8 hrl hnl0
 obtain ⟨tr1,tr2,tr3⟩:=vY ok
 have hrl2:=s2 _ _ hrl
 have hrs:rs.length=a:=by rw [hR.1,tr1]
 generalize hH2:upd H1 nl (.lst [])=H2 at s2 s12 hrl2 ⊢
 have hnl2:H2 nl=some (.lst []):=by rw [← hH2];exact jD
 clear hH2
 refine ⟨_,rfl,pl,rfl,⟨_,SqL.of (s12 _ _ hpl)⟩,ZF (K:=K) (a:=pl) (xs:=us) (fun i σ Hi=>∃(ns:List V) (c3 c4 c5 c6 c7:Option V),σ=[some (.ref pl),some (.ref rl),some (.ref nl),c3,c4,c5,c6,c7]∧Hi nl=some (.lst ns)∧AllAt (NAt [rl,nl] Hi) ns ((its.take i).filterMap (v6 a))∧Hi rl=some (.lst rs)∧Same H Hi)
  ⟨[],none,none,none,none,none,rfl,hnl2,AllAt.nil,hrl2,s12⟩ (fun i σ Hi _ ⟨_,_,_,_,_,_,_,_,_,_,s⟩=>SqL.of (s _ _ hpl)) ?_ ?_⟩
 ·rintro i v σ Hi hv ⟨ns,c3,c4,c5,c6,c7,rfl,hnl,hN,hrl,sm⟩
  obtain ⟨it,hit,hat⟩:=hpa.2 i v hv
  have hi30:i<30:=by have:=(List.getElem?_eq_some_iff.mp hit).1;have:=ok.bounds;omega
  cases it with
  |reach r =>
   obtain ⟨t,rfl,ht⟩:=hat
   refine ⟨_,rfl,t,_,_,_,rfl,rfl,SqT.of (sm _ _ ht),rfl,rfl,_,rfl,kG (fun z=>CW (V.str.inj z)) ⟨ns,_,c4,c5,c6,c7,rfl,hnl,?_,hrl,sm⟩⟩
   rw [yZ (v6 a) its hit,show (v6 a (.reach r)).toList=[] from rfl,List.append_nil]
   exact hN
  |lock r =>
   obtain ⟨t,rfl,ht⟩:=hat
   refine ⟨_,rfl,t,_,_,_,rfl,rfl,SqT.of (sm _ _ ht),rfl,rfl,_,rfl,kG (fun z=>CY (V.str.inj z)) ⟨ns,_,c4,c5,c6,c7,rfl,hnl,?_,hrl,sm⟩⟩
   rw [yZ (v6 a) its hit,show (v6 a (.lock r)).toList=[] from rfl,List.append_nil]
   exact hN
  |night ts =>
   obtain ⟨t,l,trs,rfl,ht,hl,htr,hlD⟩:=hat
   obtain ⟨tok,tlen⟩:=tr3 ts (List.mem_of_getElem? hit)
   refine ⟨_,rfl,t,_,_,_,rfl,rfl,SqT.of (sm _ _ ht),rfl,rfl,_,rfl,kL rfl ?_⟩
   refine ⟨_,rfl,rl,rfl,⟨_,SqL.of hrl⟩,fun pr hpr0=>?_⟩
   refine v9 (K:=K) (a:=rl) (xs:=rs) (caps:=[]) (fun j ys Hj=>AllAt (QAt Hj) ys (List.replicate j ((0:Int),(0:Int)))) hpr0 (SqL.of hrl) AllAt.nil ?_ ?_
   ·rintro j y ys Hj hy hj hle sj hY hQ
    have hj8:j<30:=by rw [hrs] at hj;have:=ok.bounds;omega
    refine yD (vM ⟨zz2,fun tp htp=>?_⟩)
    have u:=jM htp (.tup [V.int 0,V.int 0])
    refine vQ hpr0 sj hY hle (by omega) u ?_
    rw [List.replicate_succ']
    exact ((hQ.mono (QAt.same u)).snoc (v:=.ref tp) (x:=((0:Int),(0:Int))) ⟨tp,rfl,jD⟩).mono (QAt.put (u _ _ hY))
   rintro qs Hj sj hpr hle hQ
   rw [hrs] at hQ
   have sm1:=sm.trans sj
   refine ⟨_,rfl,t,_,_,_,rfl,rfl,SqT.of (sm1 _ _ ht),rfl,l,rfl,⟨trs,SqL.of (sm1 _ _ hl)⟩,ZF (K:=K) (a:=l) (xs:=trs) (fun j σ Hm=>∃(qs:List V) (c5 c6 c7:Option V),σ=[some (.ref pl),some (.ref rl),some (.ref nl),some (.ref t),some (.ref pr),c5,c6,c7]∧Hm pr=some (.lst qs)∧AllAt (QAt Hm) qs (qP a (ts.take j))∧Same Hi Hm)
    ⟨qs,c5,c6,c7,rfl,hpr,hQ,sj⟩ (fun j σ Hm _ ⟨_,_,_,_,_,_,_,s⟩=>SqL.of ((sm.trans s) _ _ hl)) ?_ ?_⟩
   ·rintro j y σ Hm hy ⟨qs,c5,c6,c7,rfl,hpr,hQ,sM⟩
    obtain ⟨ta,k,x,z,rfl,htk,hta⟩:=htr.2 j y hy
    have hk:=(tok.2 _ (List.mem_of_getElem? htk)).1
    have hk:k<a:=hk
    refine ⟨ta,_,rfl,SqT.of ((sm.trans sM) _ _ hta),rfl,_,_,rfl,_,_,rfl,_,_,rfl,rfl,?_⟩
    refine ⟨_,rfl,_,rfl,zz2,fun tp htp=>?_⟩
    have u:=jM htp (.tup [V.int x,V.int z])
    have hpr2:=u _ _ hpr
    refine ⟨_,rfl,_,rfl,pr,_,_,_,rfl,rfl,hpr2,mJ (by rw [hQ.1,Q6];exact hk),?_⟩
    refine ⟨_,_,_,_,rfl,jD,?_,?_⟩
    ·rw [fY a ts htk]
     exact ((hQ.mono (QAt.same u)).put k (v:=.ref tp) (x:=(x,z)) ⟨tp,rfl,jD⟩).mono (QAt.put hpr2)
    ·exact kU hpr0 (sM.trans u)
   ·rintro σ Hm ⟨qs,c5,c6,c7,rfl,hpr,hQ,sM⟩
    rw [htr.1,List.take_length] at hQ
    have hnl3:=sM _ _ hnl
    refine ⟨_,rfl,.inl ⟨rfl,_,SqL.of hnl3⟩,_,rfl,nl,_,_,rfl,rfl,hnl3,qJ (by rw [hN.1];have:=List.length_filterMap_le (v6 a) (its.take i);rw [List.length_take] at this;omega),?_⟩
    have npn:pr≠nl:=(j8 hnl hpr0).symm
    have npr:pr≠rl:=(j8 hrl hpr0).symm
    refine ⟨ns++[.ref pr],_,_,_,_,_,rfl,jD,?_,by rw [jY nrl];exact sM _ _ hrl,kU (s1.free hnl0) (sm.trans sM)⟩
    rw [yZ (v6 a) its hit]
    refine ((hN.mono (NAt.same sM)).snoc (v:=.ref pr) (x:=qP a ts) ⟨pr,qs,rfl,hpr,hQ,?_⟩).mono (NAt.put hnl3 (by simp))
    simp only [List.mem_cons,List.mem_nil_iff,or_false,not_or]
    exact ⟨npr,npn⟩
 rintro σ Hi ⟨ns,c3,c4,c5,c6,c7,rfl,hnl,hN,hrl,sm⟩
 rw [hpa.1,List.take_length] at hN
 refine ⟨_,rfl,_,rfl,pl,rfl,⟨_,SqL.of (sm _ _ hpl)⟩,fun ll hll0=>?_⟩
 have smO:=sm
 have hN2:AllAt (NAt [rl,ll,nl] Hi) ns (its.filterMap (v6 a)):=hN.mono fun v ps=>by
  rintro ⟨l,qs,h1,h2,h3,h4⟩
  refine ⟨l,qs,h1,h2,h3,?_⟩
  simp only [List.mem_cons,List.mem_nil_iff,or_false,not_or] at h4 ⊢
  exact ⟨h4.1,j8 h2 hll0,h4.2⟩
 refine v9 (K:=K) (a:=pl) (xs:=us) (caps:=[]) (fun i ys Hj=>AllAt (LAt H) ys ((its.take i).filterMap JD)) hll0 (SqL.of (sm _ _ hpl)) AllAt.nil ?_ ?_
 ·rintro i v ys Hi hv hi hle sm hY hR
  obtain ⟨it,hit,hat⟩:=hpa.2 i v hv
  have hi30:i<30:=by have:=(List.getElem?_eq_some_iff.mp hit).1;have:=ok.bounds;omega
  cases it with
  |reach r =>
   obtain ⟨t,rfl,ht⟩:=hat
   refine ⟨_,rfl,t,_,_,_,rfl,rfl,SqT.of (sm _ _ (smO _ _ ht)),rfl,rfl,_,rfl,kG (fun z=>CZ (V.str.inj z)) (Q9 sm hY hle (Same.refl _) ?_)⟩
   rw [yZ JD its hit,show (JD (.reach r)).toList=[] from rfl,List.append_nil]
   exact hR
  |lock r =>
   obtain ⟨t,rfl,ht⟩:=hat
   refine ⟨_,rfl,t,_,_,_,rfl,rfl,SqT.of (sm _ _ (smO _ _ ht)),rfl,rfl,_,rfl,kL rfl ⟨_,rfl,vQ hll0 sm hY hle (by omega) (Same.refl _) ?_⟩⟩
   rw [yZ JD its hit]
   exact hR.snoc ⟨t,rfl,ht⟩
  |night ts =>
   obtain ⟨t,_,_,rfl,ht,_⟩:=hat
   refine ⟨_,rfl,t,_,_,_,rfl,rfl,SqT.of (sm _ _ (smO _ _ ht)),rfl,rfl,_,rfl,kG (fun z=>fJ (V.str.inj z)) (Q9 sm hY hle (Same.refl _) ?_)⟩
   rw [yZ JD its hit,show (JD (.night ts)).toList=[] from rfl,List.append_nil]
   exact hR
 rintro ls H3 s3 hll hle hL
 rw [hpa.1,List.take_length] at hL
 refine ⟨_,rfl,zz3,fun t ht=>?_⟩
 have u:=jM ht (.tup [V.ref rl,V.ref ll,V.ref nl])
 have sF:=(sm.trans s3).trans u
 refine q t rl ll nl rs ls ns _ sF jD (u _ _ (s3 _ _ hrl)) (u _ _ hll) (u _ _ (s3 _ _ hnl)) (hR.mono (RAt.same sF)) (hL.mono (LAt.same sF)) ?_
 unfold z3
 rw [tr1]
 exact hN2.mono (NAt.same (s3.trans u))
theorem fT:FnScope ["found","due","k"] ["found","due"] (jG J0):=⟨rfl,rfl,rfl,by decide +kernel,rfl,by decide +kernel,by decide +kernel⟩
theorem oU {f:Addr} {fd:FuncData} (F:Fun K "_law_numbers" "_law_numbers" J0 f fd) (T:Txt K mg cP cB cU cR cN tkS j0 jZ j7 j6 j4 j5 j3) (D__law_whole:Def P w K mg base 1 "_law_whole" ["found"] [] (lU)):FnOk P w K mg base jR 2 f fd ["found","due"] (bI K):=by
 refine F.ok fT (fun vs H Q E h=>?_) (fun cdv A outer s H vs Q E hr h=>?_)
 ·obtain ⟨f₁,d,ms,rfl,hF,hD,hn,q⟩:=h
  rfl
 obtain ⟨f₁,d,ms,rfl,hF,hD,hn,q⟩:=h
 have hu:_<cLine:=hr.units0
 have hu1:=kD hr
 refine ⟨_,(@jH _ _ _ _ _ (vC PassesOwn.never rfl (yX (by rfl) T.z_range (jA (kA kX (by rfl) T.z_len PySem.boot_len (jA (pv 1) jC)) jC)) (kM (i:=2) fT.nd rfl (by first|exact Or.inl rfl|exact Or.inr rfl))
    (@jE _ _ _ (jV (PW.pt (v1 (qG (qS (jX D__law_whole hr rfl (jA (jI fB (pv 0) (pv 2) (fun _ _=>rfl)) jC)))) (yE (jQ qN (jI fB (pv 0) (pv 2) (fun _ _=>rfl)) (jI fB (pv 1) (pv 2) (fun _ _=>rfl)) (jP _))))) (@jE _ _ _ (@jS _ _ _ _ qY)) j9)))
   (@jE _ _ _ (@jS _ _ _ _ (QR kO (kA kX (by rfl) T.z_len PySem.boot_len (jA (pv 0) jC)) (kA kX (by rfl) T.z_len PySem.boot_len (jA (pv 1) jC)) (jP _))))),?_⟩
 have hml:(ms.map V.int).length=ms.length:=List.length_map _
 refine ⟨_,rfl,d,_,rfl,hD,_,rfl,by omega,by rw [hml];omega,zE (n:=(((ms.map V.int).length:Nat):Int).toNat) (fun i σ Hi=>∃c,σ=[some (.ref f₁),some (.ref d),c]∧H=Hi) ⟨none,rfl,rfl⟩ ?_ ?_⟩
 ·rintro i σ Hi hi ⟨c,rfl,rfl⟩
  have hi':i<ms.length:=by rw [Int.toNat_natCast,hml] at hi;exact hi
  rw [Int.zero_add]
  refine ⟨_,rfl,_,rfl,eL hF hi' ?_⟩
  refine ⟨_,rfl,_,rfl,kS ?_⟩
  refine ⟨_,rfl,_,rfl,eL hF hi' ⟨_,rfl,_,rfl,eL hD hi' ⟨rfl,_,rfl,qD rfl ⟨_,rfl,rfl⟩⟩⟩⟩
 ·rintro σ Hi ⟨c,rfl,rfl⟩
  refine ⟨_,rfl,f₁,_,rfl,hF,_,rfl,d,_,rfl,hD,rfl,?_⟩
  rw [decide_eq_true rfl]
  exact q
theorem p7:FnScope ["reach","due"] ["reach","due"] (jG J4):=⟨rfl,rfl,rfl,by decide +kernel,rfl,by decide +kernel,by decide +kernel⟩
theorem oX {f:Addr} {fd:FuncData} (F:Fun K "_law_reach_is" "_law_reach_is" J4 f fd) (T:Txt K mg cP cB cU cR cN tkS j0 jZ j7 j6 j4 j5 j3) (D__law_numbers:Def P w K mg base 2 "_law_numbers" ["found","due"] [] (bI K)):FnOk P w K mg base jR 3 f fd ["reach","due"] (gW cR):=by
 refine F.ok p7 (fun vs H Q E h=>?_) (fun cdv A outer s H vs Q E hr h=>?_)
 ·obtain ⟨y,t,r,rfl,⟨dy,gs,hy,hg⟩,ht,q⟩:=h
  rfl
 obtain ⟨y,t,r,rfl,⟨dy,gs,hy,hg⟩,ht,q⟩:=h
 have hu:_<cLine:=hr.units0
 have hu1:=kD hr
 refine ⟨_,(@jH _ _ _ _ _ (jV (PW.pt (v1 (qG (qS (kA vG (by rfl) T.z_isinstance PyProof.Rows.boot_isinstance (jA (pv 0) (jA (vS (v:=.ref cR) rfl T.c_Reach rfl) jC))))) (v1 (qG (qS (kA vG (by rfl) T.z_isinstance PyProof.Rows.boot_isinstance (jA (kP (pv 0) rfl) (jA (yP (v:=.ty "str") rfl T.z_str PyProof.Rows.boot_str rfl) jC))))) (yE (jQ qN (kP (pv 0) rfl) (jI ix_tup (pv 1) jB (fun _ _=>rfl)) (jP _)))))) (@jE _ _ _ (@jS _ _ _ _ qY)) j9)
   (@jE _ _ _ (@jS _ _ _ _ (jX D__law_numbers hr rfl (jA (kZ (@jA _ _ _ _ _ (kP (pv 0) rfl) (@jA _ _ _ _ _ (kP (pv 0) rfl) (@jA _ _ _ _ _ (kP (pv 0) rfl) (@jA _ _ _ _ _ (kP (pv 0) rfl) (@jA _ _ _ _ _ (kP (pv 0) rfl) jC (by rfl)) (by rfl)) (by rfl)) (by rfl)) (by rfl))) (jA (yJ Z8 (by rfl) T.z_list PyProof.Rows.boot_list (jA (v0 cL (pv 1) (qA jB) yN) jC)) jC)))))),?_⟩
 refine ⟨_,rfl,_,_,_,_,_,rfl,rfl,T.tyR _ _ _ _ hy,T.ktR,_,rfl,kS ?_⟩
 refine ⟨_,rfl,y,cR,dy,_,_,rfl,hy,T.clR,T.nR_name,hg.1,_,_,_,_,_,rfl,rfl,TyOf.str _,yB "str",_,rfl,kS ?_⟩
 refine ⟨_,rfl,y,cR,dy,_,_,rfl,hy,T.clR,T.nR_name,hg.1,_,rfl,t,_,_,_,rfl,rfl,SqT.of ht,rfl,rfl,_,rfl,qD rfl ?_⟩
 refine ⟨_,rfl,y,cR,dy,_,_,rfl,hy,T.clR,T.nR_least,hg.2.1,_,rfl,y,cR,dy,_,_,rfl,hy,T.clR,T.nR_crest,hg.2.2.1,_,rfl,y,cR,dy,_,_,rfl,hy,T.clR,T.nR_berths,hg.2.2.2.1,_,rfl,y,cR,dy,_,_,rfl,hy,T.clR,T.nR_water,hg.2.2.2.2.1,_,rfl,y,cR,dy,_,_,rfl,hy,T.clR,T.nR_target,hg.2.2.2.2.2,zz5,fun p1 hp1=>?_⟩
 have s1:=jM hp1 (.lst ([r.least,r.crest,r.berths,r.water,r.target].map V.int))
 refine ⟨_,rfl,_,rfl,t,_,rfl,SqT.of (s1 _ _ ht),(by show ¬(HT.sIx 7 0 (some 2)=0∧HT.sIx 7 7 none=7);decide),fun p2 hp2=>?_⟩
 have s2:=jM hp2 (.tup (q8 (v5 r) (some 2) none))
 refine ⟨p2,_,rfl,.inr (SqT.of jD),fun p3 hp3=>?_⟩
 have s3:=jM hp3 (.lst (q8 (v5 r) (some 2) none))
 refine ⟨p1,p3,[r.least,r.crest,r.berths,r.water,r.target],rfl,.inl (SqL.of (s3 _ _ (s2 _ _ jD))),.inl (SqL.of ?_),by show 5≤1000;decide,q _ ((s1.trans s2).trans s3)⟩
 rw [jD]
 rfl
theorem p6:FnScope ["lock","due"] ["lock","due"] (jG JW):=⟨rfl,rfl,rfl,by decide +kernel,rfl,by decide +kernel,by decide +kernel⟩
theorem oP {f:Addr} {fd:FuncData} (F:Fun K "_law_lock_is" "_law_lock_is" JW f fd) (T:Txt K mg cP cB cU cR cN tkS j0 jZ j7 j6 j4 j5 j3) (MP_kind:MeK P w K mg base 1 (jO cP cB cU) "kind" ["self"] (qR (jO cP cB cU) (fun kd _=>V.str (match kd with|.plain=>"plain"|.basin=>"basin"|.pump=>"pump")))) (D__law_numbers:Def P w K mg base 2 "_law_numbers" ["found","due"] [] (bI K)) (MP_extra:MeK P w K mg base 1 (jO cP cB cU) "extra" ["self"] (qR (jO cP cB cU) (fun kd v=>V.int (match kd with|.plain=>0|.basin=>v|.pump=>v)))):FnOk P w K mg base jR 3 f fd ["lock","due"] (iY (jO cP cB cU)):=by
 refine F.ok p6 (fun vs H Q E h=>?_) (fun cdv A outer s H vs Q E hr h=>?_)
 ·obtain ⟨y,t,l,rfl,⟨dl,hl⟩,h0,ht,q⟩:=h
  rfl
 obtain ⟨y,t,l,rfl,⟨dl,hl⟩,h0,ht,q⟩:=h
 have hu:_<cLine:=hr.units0
 have hu1:=kD hr
 refine ⟨_,(@jH _ _ _ _ _ (jV (PW.pt (v1 (qG (qS (kA vG (by rfl) T.z_isinstance PyProof.Rows.boot_isinstance (jA (pv 0) (jA (vS (v:=.ref cP) rfl T.c_PlainLock rfl) jC))))) (v1 (qG (qS (kA vG (by rfl) T.z_isinstance PyProof.Rows.boot_isinstance (jA (kP (pv 0) rfl) (jA (yP (v:=.ty "str") rfl T.z_str PyProof.Rows.boot_str rfl) jC))))) (yE (jQ qN (kP (pv 0) rfl) (jI ix_tup (pv 1) jB (fun _ _=>rfl)) (jP _)))))) (@jE _ _ _ (@jS _ _ _ _ qY)) j9)
   (@jH _ _ _ _ _ (jV (jQ qN (kA vG (by rfl) T.z_isinstance PyProof.Rows.boot_isinstance (jA (pv 0) (jA (vS (v:=.ref cB) rfl T.c_BasinLock rfl) jC))) (QR kO (jI ix_tup (pv 1) jB (fun _ _=>rfl)) kB (jP _)) (jP _)) (@jE _ _ _ (@jS _ _ _ _ qY)) j9)
   (@jH _ _ _ _ _ (jV (jQ qN (kA vG (by rfl) T.z_isinstance PyProof.Rows.boot_isinstance (jA (pv 0) (jA (vS (v:=.ref cU) rfl T.c_PumpLock rfl) jC))) (QR kO (jI ix_tup (pv 1) jB (fun _ _=>rfl)) kB (jP _)) (jP _)) (@jE _ _ _ (@jS _ _ _ _ qY)) j9)
   (@jH _ _ _ _ _ (jV (PW.pt (v1 (qG (qS (kA vG (by rfl) T.z_isinstance PyProof.Rows.boot_isinstance (jA (ZR MP_kind hr (pv 0)) (jA (yP (v:=.ty "str") rfl T.z_str PyProof.Rows.boot_str rfl) jC))))) (yE (jQ qN (ZR MP_kind hr (pv 0)) (jI ix_tup (pv 1) jB (fun _ _=>rfl)) (jP _))))) (@jE _ _ _ (@jS _ _ _ _ qY)) j9)
   (@jE _ _ _ (@jS _ _ _ _ (jX D__law_numbers hr rfl (jA (kZ (@jA _ _ _ _ _ (kP (pv 0) rfl) (@jA _ _ _ _ _ (kP (pv 0) rfl) (@jA _ _ _ _ _ (kP (pv 0) rfl) (@jA _ _ _ _ _ (ZR MP_extra hr (pv 0)) jC (by rfl)) (by rfl)) (by rfl)) (by rfl))) (jA (@jF _ _ _ _ _ _ _ _ AH (v0 cL (pv 1) (qA jB) (qA jB)) (v0 cL (pv 1) (qA jB) yN)) jC))))))))),?_⟩
 refine ⟨_,rfl,_,_,_,_,_,rfl,rfl,T.tyL _ _ _ _ _ hl,T.ktLP _,_,rfl,kS ?_⟩
 refine ⟨_,rfl,y,_,dl,_,_,rfl,hl,T.cl l.kd,T.n_name l.kd,cG l.kd _ _ _ _ _,_,_,_,_,_,rfl,rfl,TyOf.str _,yB "str",_,rfl,kS ?_⟩
 refine ⟨_,rfl,y,_,dl,_,_,rfl,hl,T.cl l.kd,T.n_name l.kd,cG l.kd _ _ _ _ _,_,rfl,t,_,_,_,rfl,rfl,SqT.of ht,rfl,rfl,_,rfl,qD rfl ?_⟩
 refine ⟨_,rfl,_,_,_,_,_,rfl,rfl,T.tyL _ _ _ _ _ hl,T.ktLB _,_,rfl,t,_,_,_,rfl,rfl,SqT.of ht,rfl,rfl,rfl,_,rfl,qD (congrArg V.bl (CU l.kd).symm) ?_⟩
 refine ⟨_,rfl,_,_,_,_,_,rfl,rfl,T.tyL _ _ _ _ _ hl,T.ktLU _,_,rfl,t,_,_,_,rfl,rfl,SqT.of ht,rfl,rfl,rfl,_,rfl,qD (congrArg V.bl (CC l.kd).symm) ?_⟩
 cases hkd:l.kd with
 |plain =>
  obtain ⟨nm,hi,lo,ro,kd,ex⟩:=l
  cases hkd
  have hex:ex=0:=h0 rfl
  subst hex
  refine ⟨_,rfl,.plain,y,dl,_,rfl,hl,y0 .plain _ _ _ _ _,y,_,_,_,_,_,rfl,⟨dl,hl⟩,_,_,_,_,_,rfl,rfl,TyOf.str _,yB "str",_,rfl,kS ?_⟩
  refine ⟨_,rfl,.plain,y,dl,_,rfl,hl,y0 .plain _ _ _ _ _,y,_,_,_,_,_,rfl,⟨dl,hl⟩,_,rfl,t,_,_,_,rfl,rfl,SqT.of ht,rfl,rfl,_,rfl,qD rfl ?_⟩
  refine ⟨_,rfl,y,_,dl,_,_,rfl,hl,T.cl .plain,T.n_high .plain,cH .plain _ _ _ _ _,_,rfl,y,_,dl,_,_,rfl,hl,T.cl .plain,T.n_low .plain,cT .plain _ _ _ _ _,_,rfl,y,_,dl,_,_,rfl,hl,T.cl .plain,T.n_room .plain,QS .plain _ _ _ _ _,_,rfl,.plain,y,dl,_,rfl,hl,ZG .plain _ _ _ _ _,y,_,_,_,_,_,rfl,⟨dl,hl⟩,zz4,fun p1 hp1=>?_⟩
  have s1:=jM hp1 (.lst ([hi,lo,ro,0].map V.int))
  refine ⟨_,rfl,_,rfl,_,rfl,t,_,rfl,SqT.of (s1 _ _ ht),(by show ¬(HT.sIx 7 0 (some 2)=0∧HT.sIx 7 7 (some 5)=7);decide),fun p2 hp2=>?_⟩
  have s2:=jM hp2 (.tup [V.int hi,V.int lo,V.int ro])
  refine ⟨_,rfl,_,rfl,t,_,rfl,SqT.of (s2 _ _ (s1 _ _ ht)),(by show ¬(HT.sIx 7 0 (some 6)=0∧HT.sIx 7 7 none=7);decide),fun p3 hp3=>?_⟩
  have s3:=jM hp3 (.tup [V.int 0])
  refine ⟨p2,p3,_,_,rfl,rfl,SqT.of (s3 _ _ jD),SqT.of jD,(fun z=>nomatch z),zz4,(fun z=>nomatch z),fun _ p4 hp4=>?_⟩
  have s4:=jM hp4 (.tup ([hi,lo,ro,0].map V.int))
  refine ⟨p1,p4,[hi,lo,ro,0],rfl,.inl (SqL.of (s4 _ _ (s3 _ _ (s2 _ _ jD)))),.inr (SqT.of jD),by show 4≤1000;decide,q _ (((s1.trans s2).trans s3).trans s4)⟩
 |basin =>
  obtain ⟨nm,hi,lo,ro,kd,ex⟩:=l
  cases hkd
  have hex:ex=ex:=rfl
  clear hex
  refine ⟨_,rfl,.basin,y,dl,_,rfl,hl,y0 .basin _ _ _ _ _,y,_,_,_,_,_,rfl,⟨dl,hl⟩,_,_,_,_,_,rfl,rfl,TyOf.str _,yB "str",_,rfl,kS ?_⟩
  refine ⟨_,rfl,.basin,y,dl,_,rfl,hl,y0 .basin _ _ _ _ _,y,_,_,_,_,_,rfl,⟨dl,hl⟩,_,rfl,t,_,_,_,rfl,rfl,SqT.of ht,rfl,rfl,_,rfl,qD rfl ?_⟩
  refine ⟨_,rfl,y,_,dl,_,_,rfl,hl,T.cl .basin,T.n_high .basin,cH .basin _ _ _ _ _,_,rfl,y,_,dl,_,_,rfl,hl,T.cl .basin,T.n_low .basin,cT .basin _ _ _ _ _,_,rfl,y,_,dl,_,_,rfl,hl,T.cl .basin,T.n_room .basin,QS .basin _ _ _ _ _,_,rfl,.basin,y,dl,_,rfl,hl,ZG .basin _ _ _ _ _,y,_,_,_,_,_,rfl,⟨dl,hl⟩,zz4,fun p1 hp1=>?_⟩
  have s1:=jM hp1 (.lst ([hi,lo,ro,ex].map V.int))
  refine ⟨_,rfl,_,rfl,_,rfl,t,_,rfl,SqT.of (s1 _ _ ht),(by show ¬(HT.sIx 7 0 (some 2)=0∧HT.sIx 7 7 (some 5)=7);decide),fun p2 hp2=>?_⟩
  have s2:=jM hp2 (.tup [V.int hi,V.int lo,V.int ro])
  refine ⟨_,rfl,_,rfl,t,_,rfl,SqT.of (s2 _ _ (s1 _ _ ht)),(by show ¬(HT.sIx 7 0 (some 6)=0∧HT.sIx 7 7 none=7);decide),fun p3 hp3=>?_⟩
  have s3:=jM hp3 (.tup [V.int ex])
  refine ⟨p2,p3,_,_,rfl,rfl,SqT.of (s3 _ _ jD),SqT.of jD,(fun z=>nomatch z),zz4,(fun z=>nomatch z),fun _ p4 hp4=>?_⟩
  have s4:=jM hp4 (.tup ([hi,lo,ro,ex].map V.int))
  refine ⟨p1,p4,[hi,lo,ro,ex],rfl,.inl (SqL.of (s4 _ _ (s3 _ _ (s2 _ _ jD)))),.inr (SqT.of jD),by show 4≤1000;decide,q _ (((s1.trans s2).trans s3).trans s4)⟩
 |pump =>
  obtain ⟨nm,hi,lo,ro,kd,ex⟩:=l
  cases hkd
  have hex:ex=ex:=rfl
  clear hex
  refine ⟨_,rfl,.pump,y,dl,_,rfl,hl,y0 .pump _ _ _ _ _,y,_,_,_,_,_,rfl,⟨dl,hl⟩,_,_,_,_,_,rfl,rfl,TyOf.str _,yB "str",_,rfl,kS ?_⟩
  refine ⟨_,rfl,.pump,y,dl,_,rfl,hl,y0 .pump _ _ _ _ _,y,_,_,_,_,_,rfl,⟨dl,hl⟩,_,rfl,t,_,_,_,rfl,rfl,SqT.of ht,rfl,rfl,_,rfl,qD rfl ?_⟩
  refine ⟨_,rfl,y,_,dl,_,_,rfl,hl,T.cl .pump,T.n_high .pump,cH .pump _ _ _ _ _,_,rfl,y,_,dl,_,_,rfl,hl,T.cl .pump,T.n_low .pump,cT .pump _ _ _ _ _,_,rfl,y,_,dl,_,_,rfl,hl,T.cl .pump,T.n_room .pump,QS .pump _ _ _ _ _,_,rfl,.pump,y,dl,_,rfl,hl,ZG .pump _ _ _ _ _,y,_,_,_,_,_,rfl,⟨dl,hl⟩,zz4,fun p1 hp1=>?_⟩
  have s1:=jM hp1 (.lst ([hi,lo,ro,ex].map V.int))
  refine ⟨_,rfl,_,rfl,_,rfl,t,_,rfl,SqT.of (s1 _ _ ht),(by show ¬(HT.sIx 7 0 (some 2)=0∧HT.sIx 7 7 (some 5)=7);decide),fun p2 hp2=>?_⟩
  have s2:=jM hp2 (.tup [V.int hi,V.int lo,V.int ro])
  refine ⟨_,rfl,_,rfl,t,_,rfl,SqT.of (s2 _ _ (s1 _ _ ht)),(by show ¬(HT.sIx 7 0 (some 6)=0∧HT.sIx 7 7 none=7);decide),fun p3 hp3=>?_⟩
  have s3:=jM hp3 (.tup [V.int ex])
  refine ⟨p2,p3,_,_,rfl,rfl,SqT.of (s3 _ _ jD),SqT.of jD,(fun z=>nomatch z),zz4,(fun z=>nomatch z),fun _ p4 hp4=>?_⟩
  have s4:=jM hp4 (.tup ([hi,lo,ro,ex].map V.int))
  refine ⟨p1,p4,[hi,lo,ro,ex],rfl,.inl (SqL.of (s4 _ _ (s3 _ _ (s2 _ _ jD)))),.inr (SqT.of jD),by show 4≤1000;decide,q _ (((s1.trans s2).trans s3).trans s4)⟩
theorem fS:FnScope ["night","due","k"] ["night","due"] (jG JZ):=⟨rfl,rfl,rfl,by decide +kernel,rfl,by decide +kernel,by decide +kernel⟩
theorem oS {f:Addr} {fd:FuncData} (F:Fun K "_law_night_is" "_law_night_is" JZ f fd) (T:Txt K mg cP cB cU cR cN tkS j0 jZ j7 j6 j4 j5 j3) (D__law_numbers:Def P w K mg base 2 "_law_numbers" ["found","due"] [] (bI K)):FnOk P w K mg base jR 3 f fd ["night","due"] (gX):=by
 refine F.ok fS (fun vs H Q E h=>?_) (fun cdv A outer s H vs Q E hr h=>?_)
 ·obtain ⟨y,t,D,D₂,p,rfl,⟨l₁,qs,e₁,hl,hq,_⟩,⟨l₂,us,e₂,huu,hv,_⟩,hp,q⟩:=h
  rfl
 obtain ⟨y,t,D,D₂,p,rfl,⟨l₁,qs,e₁,hl,hq,_⟩,⟨l₂,us,e₂,huu,hv,_⟩,hp,q⟩:=h
 have hu:_<cLine:=hr.units0
 have hu1:=kD hr
 refine ⟨_,(@jH _ _ _ _ _ (jV (PW.pt (v1 (qG (qS (kA vG (by rfl) T.z_isinstance PyProof.Rows.boot_isinstance (jA (pv 0) (jA (yP (v:=.ty "list") rfl T.z_list PyProof.Rows.boot_list rfl) jC))))) (yE (jQ qN (kA kX (by rfl) T.z_len PySem.boot_len (jA (pv 0) jC)) (kA kX (by rfl) T.z_len PySem.boot_len (jA (pv 1) jC)) (jP _))))) (@jE _ _ _ (@jS _ _ _ _ qY)) j9)
   (@jH _ _ _ _ _ (vC PassesOwn.never rfl (yX (by rfl) T.z_range (jA (kA kX (by rfl) T.z_len PySem.boot_len (jA (pv 1) jC)) jC)) (kM (i:=2) fS.nd rfl (by first|exact Or.inl rfl|exact Or.inr rfl))
    (@jE _ _ _ (jV (PW.pt (v1 (qG (qS (kA vG (by rfl) T.z_isinstance PyProof.Rows.boot_isinstance (jA (jI jN (pv 0) (pv 2) (fun _ _=>rfl)) (jA (yP (v:=.ty "tuple") rfl T.z_tuple PyProof.Rows.boot_tuple rfl) jC))))) (yE (qG (qS (jX D__law_numbers hr rfl (jA (jI jN (pv 0) (pv 2) (fun _ _=>rfl)) (jA (jI jN (pv 1) (pv 2) (fun _ _=>rfl)) jC)))))))) (@jE _ _ _ (@jS _ _ _ _ qY)) j9)))
   (@jE _ _ _ (@jS _ _ _ _ qY)))),?_⟩
 cases e₁
 cases e₂
 refine ⟨_,rfl,_,_,_,_,_,rfl,rfl,TyOf.lst hl,yB "list",_,rfl,kS ?_⟩
 refine ⟨_,rfl,y,_,rfl,.inl (SqL.of hl),_,rfl,t,_,rfl,.inl (SqL.of huu),rfl,_,rfl,qD (by rw [hq.1,hv.1]) ?_⟩
 refine ⟨_,rfl,t,_,rfl,.inl (SqL.of huu),_,rfl,by omega,by rw [hv.1];omega,zE (n:=((us.length:Nat):Int).toNat) (fun i σ Hi=>∃c:Option V,σ=[some (.ref y),some (.ref t),c]∧Hi=H) ⟨none,rfl,rfl⟩ ?_ ?_⟩
 ·rintro i σ Hi hi ⟨c,rfl,rfl⟩
  rw [Int.toNat_natCast,hv.1] at hi
  rw [Int.zero_add]
  obtain ⟨v,hv1,tq,rfl,htq⟩:=hq.get (List.getElem?_eq_getElem hi)
  obtain ⟨u,hu1,tu,rfl,htu⟩:=hv.get (List.getElem?_eq_getElem hi)
  refine ⟨_,rfl,_,rfl,y,_,_,_,rfl,rfl,SqL.of hl,qW hv1,_,_,_,_,_,rfl,rfl,TyOf.tup htq,yB "tuple",_,rfl,kS ?_⟩
  refine ⟨_,rfl,_,rfl,y,_,_,_,rfl,rfl,SqL.of hl,qW hv1,_,rfl,_,rfl,t,_,_,_,rfl,rfl,SqL.of huu,qW hu1,tq,tu,[p[i].1,p[i].2],rfl,.inr (SqT.of htq),.inr (SqT.of htu),by show 2≤1000;decide,_,rfl,kS ?_⟩
  exact ⟨_,rfl,rfl⟩
 ·rintro σ Hi ⟨c,rfl,rfl⟩
  exact q _ (Same.refl _)
theorem Z4:FnScope ["canal","due","k"] ["canal","due"] (jG JS):=⟨rfl,rfl,rfl,by decide +kernel,rfl,by decide +kernel,by decide +kernel⟩
theorem oJ {f:Addr} {fd:FuncData} (F:Fun K "_law_canal_is" "_law_canal_is" JS f fd) (T:Txt K mg cP cB cU cR cN tkS j0 jZ j7 j6 j4 j5 j3) (D__law_reach_is:Def P w K mg base 3 "_law_reach_is" ["reach","due"] [] (gW cR)) (D__law_lock_is:Def P w K mg base 3 "_law_lock_is" ["lock","due"] [] (iY (jO cP cB cU))) (D__law_night_is:Def P w K mg base 3 "_law_night_is" ["night","due"] [] (gX)):FnOk P w K mg base jR 4 f fd ["canal","due"] (gZ (jO cP cB cU) cR cN):=by
 refine F.ok Z4 (fun vs H Q E h=>?_) (fun cdv A outer s H vs Q E hr h=>?_)
 ·obtain ⟨x,t,D,D₂,R,L,N,rfl,⟨dx,rl,ll,nl,fs,rs,ls,ns,hx,hf,hrl,hll,hnl,hR,hL,hN,d1,d2,d3⟩,⟨rl2,ll2,nl2,rs2,ls2,ns2,ht,hrl2,hll2,hnl2,hR2,hL2,hN2,_⟩,bR,bL,bN,hpl,hpn,q⟩:=h
  rfl
 obtain ⟨x,t,D,D₂,R,L,N,rfl,⟨dx,rl,ll,nl,fs,rs,ls,ns,hx,hf,hrl,hll,hnl,hR,hL,hN,d1,d2,d3⟩,⟨rl2,ll2,nl2,rs2,ls2,ns2,ht,hrl2,hll2,hnl2,hR2,hL2,hN2,_⟩,bR,bL,bN,hpl,hpn,q⟩:=h
 have hu:_<cLine:=hr.units0
 have hu1:=kD hr
 refine ⟨_,(@jH _ _ _ _ _ (jV (PW.pt (v1 (qG (qS (kA vG (by rfl) T.z_isinstance PyProof.Rows.boot_isinstance (jA (pv 0) (jA (vS (v:=.ref cN) rfl T.c_Canal rfl) jC))))) (yE (qG (qS (kA vG (by rfl) T.z_isinstance PyProof.Rows.boot_isinstance (jA (kP (pv 0) rfl) (jA (yP (v:=.ty "list") rfl T.z_list PyProof.Rows.boot_list rfl) jC)))))))) (@jE _ _ _ (@jS _ _ _ _ qY)) j9)
   (@jH _ _ _ _ _ (jV (qG (qS (kA vG (by rfl) T.z_isinstance PyProof.Rows.boot_isinstance (jA (kP (pv 0) rfl) (jA (yP (v:=.ty "list") rfl T.z_list PyProof.Rows.boot_list rfl) jC))))) (@jE _ _ _ (@jS _ _ _ _ qY)) j9)
   (@jH _ _ _ _ _ (jV (PW.pt (v1 (qG (qS (kA vG (by rfl) T.z_isinstance PyProof.Rows.boot_isinstance (jA (kP (pv 0) rfl) (jA (yP (v:=.ty "list") rfl T.z_list PyProof.Rows.boot_list rfl) jC))))) (yE (jQ qN (kA kX (by rfl) T.z_len PySem.boot_len (jA (kP (pv 0) rfl) jC)) (kA kX (by rfl) T.z_len PySem.boot_len (jA (jI ix_tup (pv 1) jB (fun _ _=>rfl)) jC)) (jP _))))) (@jE _ _ _ (@jS _ _ _ _ qY)) j9)
   (@jH _ _ _ _ _ (jV (PW.pt (v1 (jQ qN (kA kX (by rfl) T.z_len PySem.boot_len (jA (kP (pv 0) rfl) jC)) (kA kX (by rfl) T.z_len PySem.boot_len (jA (jI ix_tup (pv 1) jB (fun _ _=>rfl)) jC)) (jP _)) (yE (jQ qN (kA kX (by rfl) T.z_len PySem.boot_len (jA (kP (pv 0) rfl) jC)) (kA kX (by rfl) T.z_len PySem.boot_len (jA (jI ix_tup (pv 1) jB (fun _ _=>rfl)) jC)) (jP _))))) (@jE _ _ _ (@jS _ _ _ _ qY)) j9)
   (@jH _ _ _ _ _ (vC PassesOwn.never rfl (yX (by rfl) T.z_range (jA (kA kX (by rfl) T.z_len PySem.boot_len (jA (jI ix_tup (pv 1) jB (fun _ _=>rfl)) jC)) jC)) (kM (i:=2) Z4.nd rfl (by first|exact Or.inl rfl|exact Or.inr rfl))
    (@jE _ _ _ (jV (qG (qS (jX D__law_reach_is hr rfl (jA (jI jN (kP (pv 0) rfl) (pv 2) (fun _ _=>rfl)) (jA (jI jN (jI ix_tup (pv 1) jB (fun _ _=>rfl)) (pv 2) (fun _ _=>rfl)) jC))))) (@jE _ _ _ (@jS _ _ _ _ qY)) j9)))
   (@jH _ _ _ _ _ (vC PassesOwn.never rfl (yX (by rfl) T.z_range (jA (kA kX (by rfl) T.z_len PySem.boot_len (jA (jI ix_tup (pv 1) jB (fun _ _=>rfl)) jC)) jC)) (kM (i:=2) Z4.nd rfl (by first|exact Or.inl rfl|exact Or.inr rfl))
    (@jE _ _ _ (jV (qG (qS (jX D__law_lock_is hr rfl (jA (jI jN (kP (pv 0) rfl) (pv 2) (fun _ _=>rfl)) (jA (jI jN (jI ix_tup (pv 1) jB (fun _ _=>rfl)) (pv 2) (fun _ _=>rfl)) jC))))) (@jE _ _ _ (@jS _ _ _ _ qY)) j9)))
   (@jH _ _ _ _ _ (vC PassesOwn.never rfl (yX (by rfl) T.z_range (jA (kA kX (by rfl) T.z_len PySem.boot_len (jA (jI ix_tup (pv 1) jB (fun _ _=>rfl)) jC)) jC)) (kM (i:=2) Z4.nd rfl (by first|exact Or.inl rfl|exact Or.inr rfl))
    (@jE _ _ _ (jV (qG (qS (jX D__law_night_is hr rfl (jA (jI jN (kP (pv 0) rfl) (pv 2) (fun _ _=>rfl)) (jA (jI jN (jI ix_tup (pv 1) jB (fun _ _=>rfl)) (pv 2) (fun _ _=>rfl)) jC))))) (@jE _ _ _ (@jS _ _ _ _ qY)) j9)))
   (@jE _ _ _ (@jS _ _ _ _ qY))))))))),?_⟩
 have fx:=hx
 refine ⟨_,rfl,_,_,_,_,_,rfl,rfl,T.tyN _ _ _ _ hx,T.ktN,_,rfl,kS ?_⟩
 refine ⟨_,rfl,x,cN,dx,_,_,rfl,hx,T.clN,T.nN_reaches,hf.1,_,_,_,_,_,rfl,rfl,TyOf.lst hrl,yB "list",_,rfl,kS ?_⟩
 refine ⟨_,rfl,x,cN,dx,_,_,rfl,hx,T.clN,T.nN_locks,hf.2.1,_,_,_,_,_,rfl,rfl,TyOf.lst hll,yB "list",_,rfl,kS ?_⟩
 refine ⟨_,rfl,x,cN,dx,_,_,rfl,hx,T.clN,T.nN_nights,hf.2.2.1,_,_,_,_,_,rfl,rfl,TyOf.lst hnl,yB "list",_,rfl,kS ?_⟩
 refine ⟨_,rfl,x,cN,dx,_,_,rfl,hx,T.clN,T.nN_nights,hf.2.2.1,nl,_,rfl,.inl (SqL.of hnl),_,rfl,t,_,_,_,rfl,rfl,SqT.of ht,rfl,nl2,_,rfl,.inl (SqL.of hnl2),rfl,_,rfl,qD (by rw [hN.1,hN2.1]) ?_⟩
 refine ⟨_,rfl,x,cN,dx,_,_,rfl,hx,T.clN,T.nN_reaches,hf.1,rl,_,rfl,.inl (SqL.of hrl),_,rfl,t,_,_,_,rfl,rfl,SqT.of ht,rfl,rl2,_,rfl,.inl (SqL.of hrl2),rfl,_,rfl,qD (by rw [hR.1,hR2.1]) ?_⟩
 refine ⟨_,rfl,x,cN,dx,_,_,rfl,hx,T.clN,T.nN_locks,hf.2.1,ll,_,rfl,.inl (SqL.of hll),_,rfl,t,_,_,_,rfl,rfl,SqT.of ht,rfl,ll2,_,rfl,.inl (SqL.of hll2),rfl,_,rfl,qD (by rw [hL.1,hL2.1]) ?_⟩
 have sm:Same H H:=Same.refl _
 refine ⟨_,rfl,t,_,_,_,rfl,rfl,SqT.of (sm _ _ ht),rfl,rl2,_,rfl,.inl (SqL.of (sm _ _ hrl2)),_,rfl,by omega,by rw [hR2.1];omega,zE (n:=((rs2.length:Nat):Int).toNat) (fun i σ Hi=>∃c:Option V,σ=[some (.ref x),some (.ref t),c]∧Same H Hi) ⟨none,rfl,sm⟩ ?_ ?_⟩
 ·rintro i σ Hi hi ⟨c,rfl,sm⟩
  rw [Int.toNat_natCast,hR2.1] at hi
  rw [Int.zero_add]
  obtain ⟨r,hr⟩:∃r,R[i]?=some r:=⟨_,List.getElem?_eq_getElem hi⟩
  obtain ⟨v,hv1,y,rfl,hy⟩:=hR.get hr
  obtain ⟨u,hu1,y2,rfl,hy2⟩:=hR2.get hr
  refine ⟨_,rfl,x,cN,dx,_,_,rfl,(sm _ _ fx),T.clN,T.nN_reaches,hf.1,_,rfl,rl,_,_,_,rfl,rfl,SqL.of (sm _ _ hrl),qW hv1,_,rfl,t,_,_,_,rfl,rfl,SqT.of (sm _ _ ht),rfl,_,rfl,rl2,_,_,_,rfl,rfl,SqL.of (sm _ _ hrl2),qW hu1,y,y2,r,rfl,hy.same sm,sm _ _ hy2,fun H' s'=>⟨_,rfl,kS ?_⟩⟩
  exact ⟨_,rfl,sm.trans s'⟩
 rintro σ Hi ⟨c,rfl,sm⟩
 refine ⟨_,rfl,t,_,_,_,rfl,rfl,SqT.of (sm _ _ ht),rfl,ll2,_,rfl,.inl (SqL.of (sm _ _ hll2)),_,rfl,by omega,by rw [hL2.1];omega,zE (n:=((ls2.length:Nat):Int).toNat) (fun i σ Hi=>∃c:Option V,σ=[some (.ref x),some (.ref t),c]∧Same H Hi) ⟨c,rfl,sm⟩ ?_ ?_⟩
 ·rintro i σ Hi hi ⟨c,rfl,sm⟩
  rw [Int.toNat_natCast,hL2.1] at hi
  rw [Int.zero_add]
  obtain ⟨r,hr⟩:∃r,L[i]?=some r:=⟨_,List.getElem?_eq_getElem hi⟩
  obtain ⟨v,hv1,y,rfl,hy⟩:=hL.get hr
  obtain ⟨u,hu1,y2,rfl,hy2⟩:=hL2.get hr
  refine ⟨_,rfl,x,cN,dx,_,_,rfl,(sm _ _ fx),T.clN,T.nN_locks,hf.2.1,_,rfl,ll,_,_,_,rfl,rfl,SqL.of (sm _ _ hll),qW hv1,_,rfl,t,_,_,_,rfl,rfl,SqT.of (sm _ _ ht),rfl,_,rfl,ll2,_,_,_,rfl,rfl,SqL.of (sm _ _ hll2),qW hu1,y,y2,r,rfl,hy.same sm,(fun e=>hpl r (List.mem_of_getElem? hr) e),sm _ _ hy2,fun H' s'=>⟨_,rfl,kS ?_⟩⟩
  exact ⟨_,rfl,sm.trans s'⟩
 rintro σ Hi ⟨c,rfl,sm⟩
 refine ⟨_,rfl,t,_,_,_,rfl,rfl,SqT.of (sm _ _ ht),rfl,nl2,_,rfl,.inl (SqL.of (sm _ _ hnl2)),_,rfl,by omega,by rw [hN2.1];omega,zE (n:=((ns2.length:Nat):Int).toNat) (fun i σ Hi=>∃c:Option V,σ=[some (.ref x),some (.ref t),c]∧Same H Hi) ⟨c,rfl,sm⟩ ?_ ?_⟩
 ·rintro i σ Hi hi ⟨c,rfl,sm⟩
  rw [Int.toNat_natCast,hN2.1] at hi
  rw [Int.zero_add]
  obtain ⟨r,hr⟩:∃r,N[i]?=some r:=⟨_,List.getElem?_eq_getElem hi⟩
  obtain ⟨v,hv1,hy⟩:=hN.get hr
  obtain ⟨u,hu1,hy2⟩:=hN2.get hr
  obtain ⟨y,rfl⟩:∃y,v=.ref y:=by obtain ⟨l,_,e,_⟩:=hy;exact ⟨l,e⟩
  obtain ⟨y2,rfl⟩:∃y2,u=.ref y2:=by obtain ⟨l,_,e,_⟩:=hy2;exact ⟨l,e⟩
  refine ⟨_,rfl,x,cN,dx,_,_,rfl,(sm _ _ fx),T.clN,T.nN_nights,hf.2.2.1,_,rfl,nl,_,_,_,rfl,rfl,SqL.of (sm _ _ hnl),qW hv1,_,rfl,t,_,_,_,rfl,rfl,SqT.of (sm _ _ ht),rfl,_,rfl,nl2,_,_,_,rfl,rfl,SqL.of (sm _ _ hnl2),qW hu1,y,y2,_,_,r,rfl,NAt.same sm _ _ hy,NAt.same sm _ _ hy2,hpn r (List.mem_of_getElem? hr),fun H' s'=>⟨_,rfl,kS ?_⟩⟩
  exact ⟨_,rfl,sm.trans s'⟩
 rintro σ Hi ⟨c,rfl,sm⟩
 exact q _ sm
theorem yK:FnScope ["one","names","target","words","k","comes","goes"] ["one","names"] (jG zQ):=⟨rfl,rfl,rfl,by decide +kernel,rfl,by decide +kernel,by decide +kernel⟩
theorem oZ {f:Addr} {fd:FuncData} (F:Fun K "_law_row" "_law_row" zQ f fd) (T:Txt K mg cP cB cU cR cN tkS j0 jZ j7 j6 j4 j5 j3) : FnOk P w K mg base jR 1 f fd ["one","names"] (mR):=by
 refine F.ok yK (fun vs H Q E h=>?_) (fun cdv A outer s H vs Q E hr h=>?_)
 ·obtain ⟨t,nl,it,rn,n,rfl,hat,hnl,hrn,hok,q⟩:=h
  rfl
 obtain ⟨t,nl,it,rn,n,rfl,hat,hnl,hrn,hok,q⟩:=h
 have hu:_<cLine:=hr.units0
 have hu1:=kD hr
 refine ⟨_,(@jH _ _ _ _ _ (jV (jQ kO (jI ix_tup (pv 0) jB (fun _ _=>rfl)) kB (jP _)) (@jH _ _ _ _ _ (jU (i:=2) yK.nd rfl (by first|exact Or.inl rfl|exact Or.inr rfl) kB)
   (vH (jV (jQ fF (jI ix_tup (pv 0) jB (fun _ _=>rfl)) jB (jP _)) (@jE _ _ _ (jU (i:=2) yK.nd rfl (by first|exact Or.inl rfl|exact Or.inr rfl) (jI jN (pv 1) (jI ix_tup (pv 0) jB (fun _ _=>rfl)) (fun _ _=>rfl)))) j9)
   (@jE _ _ _ (@jS _ _ _ _ (qM PySem.F.plainAttrs_str PySem.F.slot_str_join PySem.F.type_str_join cE kB (jA (@jF _ _ _ _ _ _ _ _ z6 (@jF _ _ _ _ _ _ _ _ z6 (kZ (jA kB (jA (jI ix_tup (pv 0) jB (fun _ _=>rfl)) jC))) (yO ["number"] (qV 1 []) rfl (vP (jG zQ) rfl rfl (by decide +kernel) (by decide +kernel) (by decide +kernel)) (vF 1 [] rfl rfl (by decide +kernel)) (BL (v0 cL (pv 0) (qA jB) (qA jB))) (fun _ _ _ _ _=>(kM (i:=0) (show List.Nodup (["number"]:List Str) from by decide +kernel) rfl (by first|exact Or.inl rfl|exact Or.inr rfl))) (fun _ _ _ _ _=>yA) (fun _ _ _ _ _=>(yJ ZA (by rfl) T.z_str PyProof.Rows.boot_str (jA (pv 0) jC))))) (kZ (jA (pv 2) jC))) jC)))))) j9)
   (@jH _ _ _ _ _ (jV (jQ kO (jI ix_tup (pv 0) jB (fun _ _=>rfl)) kB (jP _)) (@jH _ _ _ _ _ (jU (i:=3) yK.nd rfl (by first|exact Or.inl rfl|exact Or.inr rfl) (kZ (@jA _ _ _ _ _ kB (@jA _ _ _ _ _ (jI ix_tup (pv 0) jB (fun _ _=>rfl)) (@jA _ _ _ _ _ (jI jN (pv 1) (jI ix_tup (pv 0) jB (fun _ _=>rfl)) (fun _ _=>rfl)) (@jA _ _ _ _ _ (jI jN (pv 1) (jI ix_tup (pv 0) jB (fun _ _=>rfl)) (fun _ _=>rfl)) (@jA _ _ _ _ _ (yJ ZA (by rfl) T.z_str PyProof.Rows.boot_str (jA (jI ix_tup (pv 0) jB (fun _ _=>rfl)) jC)) jC (by rfl)) (by rfl)) (by rfl)) (by rfl)) (by rfl))))
   (vH (jV (jQ qN (jI ix_tup (pv 0) jB (fun _ _=>rfl)) kB (jP _)) (@jE _ _ _ (jU (i:=3) yK.nd rfl (by first|exact Or.inl rfl|exact Or.inr rfl) (@jF _ _ _ _ _ _ _ _ z6 (pv 3) (kZ (jA (jI ix_tup (pv 0) jB (fun _ _=>rfl)) (jA (yJ ZA (by rfl) T.z_str PyProof.Rows.boot_str (jA (jI ix_tup (pv 0) jB (fun _ _=>rfl)) jC)) jC)))))) j9)
   (@jE _ _ _ (@jS _ _ _ _ (qM PySem.F.plainAttrs_str PySem.F.slot_str_join PySem.F.type_str_join cE kB (jA (pv 3) jC)))))) j9)
   (@jH _ _ _ _ _ (jU (i:=3) yK.nd rfl (by first|exact Or.inl rfl|exact Or.inr rfl) (kZ (jA kB jC)))
   (@jH _ _ _ _ _ (vC PassesOwn.never rfl (q9 (jI ix_tup (pv 0) jB (fun _ _=>rfl))) (cO rfl (yM (kM (i:=4) yK.nd rfl (by first|exact Or.inl rfl|exact Or.inr rfl)) (yM (kM (i:=5) yK.nd rfl (by first|exact Or.inl rfl|exact Or.inr rfl)) (yM (kM (i:=6) yK.nd rfl (by first|exact Or.inl rfl|exact Or.inr rfl)) cD))))
    (@jE _ _ _ (jU (i:=3) yK.nd rfl (by first|exact Or.inl rfl|exact Or.inr rfl) (@jF _ _ _ _ _ _ _ _ z6 (pv 3) (kZ (@jA _ _ _ _ _ (jI jN (pv 1) (pv 4) (fun _ _=>rfl)) (@jA _ _ _ _ _ (yJ ZA (by rfl) T.z_str PyProof.Rows.boot_str (jA (pv 5) jC)) (@jA _ _ _ _ _ (yJ ZA (by rfl) T.z_str PyProof.Rows.boot_str (jA (pv 6) jC)) jC (by rfl)) (by rfl)) (by rfl)))))))
   (@jE _ _ _ (@jS _ _ _ _ (qM PySem.F.plainAttrs_str PySem.F.slot_str_join PySem.F.type_str_join cE kB (jA (pv 3) jC)))))))),?_⟩
 have hw:=sV hrn hok
 have hq:∀H',Same H H'→Q (.str (Str.join " " (kI rn it))) H':=fun H' s=>by rw [xT];exact q H' s
 obtain ⟨hn8,hok⟩:=hok
 cases it with
 |reach r =>
  obtain ⟨t',h',ht⟩:=hat
  cases h'
  obtain ⟨⟨g1,g2,g3,g4,g5,g6,g7,g8,g9⟩,hl⟩:=hok
  refine ⟨_,rfl,t,_,_,_,rfl,rfl,SqT.of ht,rfl,rfl,_,rfl,kL rfl ?_⟩
  refine ⟨fun σ' H'=>σ'=[some (.ref t),some (.ref nl),some (.str (yS rn r.target)),none,none,none,none]∧H=H',?_,?_⟩
  ·refine ⟨_,rfl,t,_,_,_,rfl,rfl,SqT.of ht,rfl,_,_,rfl,rfl,_,rfl,?_⟩
   by_cases hz:0≤r.target
   ·refine kL hz ⟨_,rfl,_,rfl,t,_,_,_,rfl,rfl,SqT.of ht,rfl,nl,_,_,_,rfl,rfl,SqL.of hnl,eD rn hz (by omega),?_,rfl⟩
    rw [show yS rn r.target=jJ (rn r.target.toNat) from if_pos hz]
    rfl
   ·refine kG hz ⟨?_,rfl⟩
    rw [show yS rn r.target="sea" from if_neg hz]
    rfl
  rintro σ' H' ⟨rfl,rfl⟩
  refine ⟨rfl,_,rfl,t,_,_,_,rfl,rfl,SqT.of ht,rfl,zz2,fun p1 hp1=>?_⟩
  have s1:=jM hp1 (.lst [V.str "reach",V.str r.name])
  have h1:upd H p1 (.lst [V.str "reach",V.str r.name]) p1=some (.lst [V.str "reach",V.str r.name]):=jD
  generalize upd H p1 (.lst [V.str "reach",V.str r.name])=H1 at s1 h1 ⊢
  refine ⟨_,rfl,_,rfl,_,rfl,t,_,rfl,SqT.of (s1 _ _ ht),(by show ¬(HT.sIx 7 0 (some 2)=0∧HT.sIx 7 7 (some 6)=7);decide),fun p2 hp2=>?_⟩
  have s2:=jM hp2 (.tup (q8 (v5 r) (some 2) (some 6)))
  have h2:upd H1 p2 (.tup (q8 (v5 r) (some 2) (some 6))) p2=some (.tup ([r.least,r.crest,r.berths,r.water].map V.int)):=jD
  generalize upd H1 p2 (.tup (q8 (v5 r) (some 2) (some 6)))=H2 at s2 h2 ⊢
  refine ⟨p2,rfl,⟨_,SqT.of h2⟩,fun D hD=>?_⟩
  have hb:∀z∈[r.least,r.crest,r.berths,r.water],0≤z∧z≤9999999999999:=by
   intro z hz
   simp only [List.mem_cons,List.mem_nil_iff,or_false] at hz
   rcases hz with rfl|rfl|rfl|rfl<;>omega
  refine wE (K:=K) (a:=p2) (xs:=[r.least,r.crest,r.berths,r.water].map V.int) (caps:=[]) (fun i ys Hi=>ys=(([r.least,r.crest,r.berths,r.water].take i).map fun z=>V.str (kF z))) hD h2 rfl ?_ ?_
  ·rintro i x ys Hi hx hi hle sm hY rfl
   obtain ⟨z,rfl,hz⟩:=xM hx
   have hzb:=hb z (List.mem_of_getElem? hz)
   refine yD (vM ⟨_,rfl,_,rfl,(vX hzb.1 hzb.2).1,?_⟩)
   refine vQ hD sm hY hle (by have:i<4:=hi;omega) (Same.refl _) ?_
   rw [List.take_add_one,hz,List.map_append]
   rfl
  rintro ys H3 s3 hDl hle rfl
  have s13:=s2.trans s3
  refine ⟨p1,D,_,_,rfl,rfl,s13 _ _ h1,hDl,zz6,fun p3 hp3=>?_⟩
  have s4:=jM hp3 (.lst ((kI rn (.reach r)).take 6 |>.map V.str))
  have h3:upd H3 p3 (.lst ((kI rn (.reach r)).take 6 |>.map V.str)) p3=some (.lst ((kI rn (.reach r)).take 6 |>.map V.str)):=jD
  refine ⟨_,rfl,zz1,fun p4 hp4=>?_⟩
  have s5:=jM hp4 (.lst [V.str (yS rn r.target)])
  refine ⟨p3,p4,_,_,rfl,rfl,s5 _ _ h3,jD,zz7,fun p5 hp5=>?_⟩
  refine ⟨" ",p5,kI rn (.reach r),rfl,rfl,SqL.of jD,by decide +kernel,hw,hq _ ?_⟩
  exact ((((s1.trans s13).trans s4).trans s5).trans (jM hp5 _))
 |lock l =>
  obtain ⟨t',h',ht⟩:=hat
  cases h'
  obtain ⟨⟨g1,g2,g3,g4,g5,g6,g7,g8⟩,hl⟩:=hok
  refine ⟨_,rfl,t,_,_,_,rfl,rfl,SqT.of ht,rfl,rfl,_,rfl,kG (fun z=>fI (V.str.inj z)) ⟨_,rfl,t,_,_,_,rfl,rfl,SqT.of ht,rfl,rfl,_,rfl,kL rfl ?_⟩⟩
  refine ⟨_,rfl,t,_,_,_,rfl,rfl,SqT.of ht,rfl,_,rfl,_,rfl,t,_,_,_,rfl,rfl,SqT.of ht,rfl,nl,_,_,_,rfl,rfl,SqL.of hnl,eD rn (by show 0≤l.high;omega) (by show l.high<8;omega),_,rfl,_,rfl,t,_,_,_,rfl,rfl,SqT.of ht,rfl,nl,_,_,_,rfl,rfl,SqL.of hnl,eD rn (by show 0≤l.low;omega) (by show l.low<8;omega),_,rfl,t,_,_,_,rfl,rfl,SqT.of ht,rfl,_,rfl,(vX (n:=l.room) (by omega) (by omega)).1,zz5,fun wl hwl=>?_⟩
  have s1:=jM hwl (.lst ([("lock":Str),l.name,jJ (rn l.high.toNat),jJ (rn l.low.toNat),kF l.room].map V.str))
  have h1:upd H wl (.lst ([("lock":Str),l.name,jJ (rn l.high.toNat),jJ (rn l.low.toNat),kF l.room].map V.str)) wl=some (.lst ([("lock":Str),l.name,jJ (rn l.high.toNat),jJ (rn l.low.toNat),kF l.room].map V.str)):=jD
  refine ⟨fun σ' H'=>∃w2:Addr,σ'=[some (.ref t),some (.ref nl),none,some (.ref w2),none,none,none]∧H' w2=some (.lst ((kI rn (.lock l)).map V.str))∧Same H H',?_,?_⟩
  ·refine ⟨_,rfl,t,_,_,_,rfl,rfl,SqT.of (s1 _ _ ht),rfl,rfl,_,rfl,?_⟩
   by_cases hk:l.kd=.plain
   ·refine qD ((bO l.kd).mpr hk) ⟨wl,rfl,?_,s1⟩
    rw [show kI rn (.lock l)=([("lock":Str),l.name,jJ (rn l.high.toNat),jJ (rn l.low.toNat),kF l.room]:List Str) by rw [bK,hk];rfl]
    exact h1
   ·have hx:=g8 hk
    refine ZV (fun z=>hk ((bO l.kd).mp z)) ⟨_,rfl,_,rfl,t,_,_,_,rfl,rfl,SqT.of (s1 _ _ ht),rfl,_,rfl,t,_,_,_,rfl,rfl,SqT.of (s1 _ _ ht),rfl,_,rfl,(vX (n:=l.extra) (by omega) (by omega)).1,zz2,fun w2 hw2=>?_⟩
    have s2:=jM hw2 (.lst [V.str (vU l.kd),V.str (kF l.extra)])
    refine ⟨wl,w2,_,_,rfl,rfl,s2 _ _ h1,jD,zz7,fun w3 hw3=>⟨w3,rfl,?_,(s1.trans s2).trans (jM hw3 _)⟩⟩
    rw [show kI rn (.lock l)=([("lock":Str),l.name,jJ (rn l.high.toNat),jJ (rn l.low.toNat),kF l.room]:List Str)++[vU l.kd,kF l.extra] by rw [bK,bW hk]]
    exact jD
  rintro σ' H' ⟨w2,rfl,h2,s2⟩
  exact ⟨rfl,_,rfl," ",w2,_,rfl,rfl,SqL.of h2,by decide +kernel,hw,hq _ s2⟩
 |night ts =>
  obtain ⟨t',l,trs,h',ht,hl,htr,_⟩:=hat
  cases h'
  obtain ⟨⟨hnd,hts⟩,htl⟩:=hok
  refine ⟨_,rfl,t,_,_,_,rfl,rfl,SqT.of ht,rfl,rfl,_,rfl,kG (fun z=>fH (V.str.inj z)) ⟨_,rfl,t,_,_,_,rfl,rfl,SqT.of ht,rfl,rfl,_,rfl,kG (fun z=>fJ (V.str.inj z)) ?_⟩⟩
  refine ⟨zz1,fun wl hwl=>?_⟩
  have s1:=jM hwl (.lst [V.str "night"])
  refine ⟨_,rfl,t,_,_,_,rfl,rfl,SqT.of (s1 _ _ ht),rfl,l,rfl,⟨_,SqL.of (s1 _ _ hl)⟩,ZF (K:=K) (a:=l) (xs:=trs) (fun j σ Hj=>∃(w2:Addr) (c4 c5 c6:Option V),σ=[some (.ref t),some (.ref nl),none,some (.ref w2),c4,c5,c6]∧Hj w2=some (.lst ((kI rn (.night (ts.take j))).map V.str))∧Same H Hj)
   ⟨wl,none,none,none,rfl,jD,s1⟩ (fun j σ Hj _ ⟨_,_,_,_,_,_,s⟩=>SqL.of (s _ _ hl)) ?_ ?_⟩
  ·rintro j y σ Hj hy ⟨w2,c4,c5,c6,rfl,hw2,sj⟩
   obtain ⟨ta,k,x,z,rfl,htk,hta⟩:=htr.2 j y hy
   obtain ⟨k1,k2,k3,k4,k5⟩:=hts _ (List.mem_of_getElem? htk)
   have k1:k<n:=k1
   have hj8:j<8:=by have:=(List.getElem?_eq_some_iff.mp htk).1;omega
   refine ⟨ta,_,rfl,SqT.of (sj _ _ hta),rfl,_,_,rfl,_,_,rfl,_,_,rfl,rfl,?_⟩
   refine ⟨_,rfl,_,rfl,_,rfl,nl,_,_,_,rfl,rfl,SqL.of (sj _ _ hnl),qW (Q8 rn (show k<8 by omega)),_,rfl,_,rfl,(vX (n:=x) k2 (by have:x≤999999999999:=k3;omega)).1,_,rfl,_,rfl,(vX (n:=z) k4 (by have:z≤999999999999:=k5;omega)).1,zz3,fun w3 hw3=>?_⟩
   have u:=jM hw3 (.lst [V.str (jJ (rn k)),V.str (kF x),V.str (kF z)])
   have hlen:((kI rn (.night (ts.take j))).map V.str).length≤900:=by
    rw [List.length_map]
    have:=(eJ (it:=.night (ts.take j)) (n:=n) hrn ⟨hn8,⟨by rw [List.map_take];exact hnd.sublist (List.take_sublist _ _),fun q hq=>hts q (List.mem_of_mem_take hq)⟩,by rw [List.length_take];omega⟩).1
    omega
   refine ⟨w2,w3,_,_,rfl,rfl,u _ _ hw2,jD,Nat.le_of_lt (qJ (by show _+3≤1000;omega)),fun w4 hw4=>⟨w4,_,_,_,rfl,?_,(sj.trans u).trans (jM hw4 _)⟩⟩
   rw [jD,wD rn ts htk,List.map_append]
   rfl
  ·rintro σ Hj ⟨w2,c4,c5,c6,rfl,hw2,sj⟩
   rw [htr.1,List.take_length] at hw2
   exact ⟨rfl,_,rfl," ",w2,_,rfl,rfl,SqL.of hw2,by decide +kernel,hw,hq _ sj⟩
theorem Z6:FnScope ["plan","names","cell","rows","one"] ["plan","names","cell"] (jG J5):=⟨rfl,rfl,rfl,by decide +kernel,rfl,by decide +kernel,by decide +kernel⟩
theorem o0 {f:Addr} {fd:FuncData} (F:Fun K "_law_text" "_law_text" J5 f fd) (T:Txt K mg cP cB cU cR cN tkS j0 jZ j7 j6 j4 j5 j3) (D__law_row:Def P w K mg base 1 "_law_row" ["one","names"] [] (mR)):FnOk P w K mg base jR 2 f fd ["plan","names","cell"] (lV):=by
 refine F.ok Z6 (fun vs H Q E h=>?_) (fun cdv A outer s H vs Q E hr h=>?_)
 ·obtain ⟨pl,nl,cell,us,its,rn,gn,a,b,c,rfl,hpl,hpa,ok,hnl,hrn,hgn,q⟩:=h
  rfl
 obtain ⟨pl,nl,cell,us,its,rn,gn,a,b,c,rfl,hpl,hpa,ok,hnl,hrn,hgn,q⟩:=h
 have hu:_<cLine:=hr.units0
 have hu1:=kD hr
 refine ⟨_,(@jH _ _ _ _ _ (jU (i:=3) Z6.nd rfl (by first|exact Or.inl rfl|exact Or.inr rfl) (kZ jC))
   (@jH _ _ _ _ _ (vC PassesOwn.never rfl (q9 (pv 0)) (kM (i:=4) Z6.nd rfl (by first|exact Or.inl rfl|exact Or.inr rfl))
    (vH (jV (jQ kO (@jF _ _ _ _ _ _ _ _ kH (pv 2) jB) jB (jP _)) (@jE _ _ _ (kW (qM PySem.F.plainAttrs_list PySem.F.slot_list_append PySem.F.type_list_append vR (pv 3) (jA kB jC)))) j9)
   (@jH _ _ _ _ _ (jU (i:=2) Z6.nd rfl (by first|exact Or.inl rfl|exact Or.inr rfl) (@jF _ _ _ _ _ _ _ _ qK (pv 2) jB))
   (@jE _ _ _ (kW (qM PySem.F.plainAttrs_list PySem.F.slot_list_append PySem.F.type_list_append vR (pv 3) (jA (jX D__law_row hr rfl (jA (pv 4) (jA (pv 1) jC))) jC)))))))
   (vH (jV (jQ kO (@jF _ _ _ _ _ _ _ _ kH (pv 2) jB) jB (jP _)) (@jE _ _ _ (kW (qM PySem.F.plainAttrs_list PySem.F.slot_list_append PySem.F.type_list_append vR (pv 3) (jA kB jC)))) j9)
   (@jE _ _ _ (@jS _ _ _ _ (qM PySem.F.plainAttrs_str PySem.F.slot_str_join PySem.F.type_str_join cE kB (jA (pv 3) jC))))))),?_⟩
 have hits:=mB hrn hgn ok
 have hb:=ok.bounds
 refine ⟨zz0,fun rl hrl=>?_⟩
 have s0:=jM hrl (.lst [])
 refine ⟨_,rfl,pl,rfl,⟨_,SqL.of (s0 _ _ hpl)⟩,ZF (K:=K) (a:=pl) (xs:=us) (fun i σ Hi=>∃(ce:Int) (rows:List Str) (c4:Option V),σ=[some (.ref pl),some (.ref nl),some (.int ce),some (.ref rl),c4]∧Hi rl=some (.lst (rows.map V.str))∧RowsOk rn rows (its.take i)∧rows.length≤2*i∧Same H Hi)
  ⟨cell,[],none,rfl,jD,⟨rfl,fun z hz=>by cases hz⟩,Nat.le_refl _,s0⟩ (fun i σ Hi _ ⟨_,_,_,_,_,_,_,s⟩=>SqL.of (s _ _ hpl)) ?_ ?_⟩
 ·rintro i v σ Hi hv ⟨ce,rows,c4,rfl,hr,hR,hlen,sm⟩
  obtain ⟨it,hit,hat⟩:=hpa.2 i v hv
  have hi22:i<22:=by have:=(List.getElem?_eq_some_iff.mp hit).1;omega
  obtain ⟨t,rfl⟩:∃t,v=.ref t:=by
   cases it with
   |reach r=>obtain ⟨t,h,_⟩:=hat;exact ⟨t,h⟩
   |lock r=>obtain ⟨t,h,_⟩:=hat;exact ⟨t,h⟩
   |night ts=>obtain ⟨t,_,_,h,_⟩:=hat;exact ⟨t,h⟩
  refine ⟨fun σ' H'=>∃rows:List Str,σ'=[some (.ref pl),some (.ref nl),some (.int ce),some (.ref rl),some (.ref t)]∧H' rl=some (.lst (rows.map V.str))∧RowsOk rn rows (its.take i)∧rows.length≤2*i+1∧Same H H',?_,?_⟩
  ·refine ⟨_,rfl,_,_,rfl,rfl,(by show (0:Int)<3;decide),rfl,_,rfl,z9 (fun _=>?_) (fun _=>⟨rows,rfl,hr,hR,by omega,sm⟩)⟩
   refine ⟨_,rfl,.inl ⟨rfl,_,SqL.of hr⟩,rl,_,_,rfl,rfl,hr,qJ (by rw [List.length_map];omega),rows++[("":Str)],rfl,?_,hR.emp,by rw [List.length_append];show _+1≤_;omega,kU hrl sm⟩
   rw [jD,List.map_append]
   rfl
  rintro σ' H' ⟨rows,rfl,hr,hR,hlen,sm⟩
  obtain ⟨n,hn⟩:=hits it (List.mem_of_getElem? hit)
  refine ⟨_,rfl,_,_,rfl,rfl,⟨by decide,by decide⟩,_,rfl,.inl ⟨rfl,_,SqL.of hr⟩,_,rfl,_,rfl,t,nl,it,rn,n,rfl,hat.same sm,sm _ _ hnl,hrn,hn,fun H2 s2=>?_⟩
  have hr2:=s2 _ _ hr
  refine ⟨rl,_,_,rfl,rfl,hr2,qJ (by rw [List.length_map];omega),_,rows++[vL rn it],_,rfl,?_,?_,by rw [List.length_append];show _+1≤_;omega,kU hrl (sm.trans s2)⟩
  ·rw [jD,List.map_append];rfl
  ·rw [List.take_add_one,hit];exact hR.row it
 rintro σ Hi ⟨ce,rows,c4,rfl,hr,hR,hlen,sm⟩
 rw [hpa.1,List.take_length] at hR
 have hlen:rows.length≤44:=by rw [hpa.1] at hlen;omega
 refine ⟨fun σ' H'=>∃rows:List Str,σ'=[some (.ref pl),some (.ref nl),some (.int ce),some (.ref rl),c4]∧H' rl=some (.lst (rows.map V.str))∧RowsOk rn rows its∧rows.length≤46∧Same H H',?_,?_⟩
 ·refine ⟨_,rfl,_,_,rfl,rfl,(by show (0:Int)<2;decide),rfl,_,rfl,z9 (fun _=>?_) (fun _=>⟨rows,rfl,hr,hR,by omega,sm⟩)⟩
  refine ⟨_,rfl,.inl ⟨rfl,_,SqL.of hr⟩,rl,_,_,rfl,rfl,hr,qJ (by rw [List.length_map];omega),rows++[("":Str)],rfl,?_,hR.emp,by rw [List.length_append];show _+1≤_;omega,kU hrl sm⟩
  rw [jD,List.map_append]
  rfl
 rintro σ' H' ⟨rows,rfl,hr,hR,hlen,sm⟩
 refine ⟨rfl,_,rfl,"\n",rl,rows,rfl,rfl,SqL.of hr,by decide +kernel,gB hrn hR hlen hits,?_⟩
 rw [AX]
 exact q rows H' hR hlen sm
theorem Q4:FnScope ["script","names","gates","plan","cell"] ["script"] (jG yV):=⟨rfl,rfl,rfl,by decide +kernel,rfl,by decide +kernel,by decide +kernel⟩
theorem o7 {f:Addr} {fd:FuncData} (F:Fun K "law" "law" yV f fd) (T:Txt K mg cP cB cU cR cN tkS j0 jZ j7 j6 j4 j5 j3) (D__law_reach_names:Def P w K mg base 2 "_law_reach_names" ["cell"] [] (dQ)) (D__law_cell_at:Def P w K mg base 1 "_law_cell_at" ["script","k"] [] (e7 K)) (D__law_gates:Def P w K mg base 3 "_law_gates" ["cell","names"] [] (lA)) (D__law_plan:Def P w K mg base 2 "_law_plan" ["script","names","gates"] [] (lW K)) (D__law_canal_is:Def P w K mg base 4 "_law_canal_is" ["canal","due"] [] (gZ (jO cP cB cU) cR cN)) (D__law_due:Def P w K mg base 1 "_law_due" ["plan"] [] (mS)) (D_canal_of:Def P w K mg base 7 "canal_of" ["text"] [] (gY (jO cP cB cU) cR cN)) (D__law_text:Def P w K mg base 2 "_law_text" ["plan","names","cell"] [] (lV)):FnOk P w K mg base jR 8 f fd ["script"] (cW K):=by
 refine F.ok Q4 (fun vs H Q E h=>?_) (fun cdv A outer s H vs Q E hr h=>?_)
 ·obtain ⟨a,ns,rfl,hS,h63,q⟩:=h
  rfl
 obtain ⟨a,ns,rfl,hS,h63,q⟩:=h
 have hu:_<cLine:=hr.units0
 have hu1:=kD hr
 refine ⟨_,(@jH _ _ _ _ _ (jU (i:=1) Q4.nd rfl (by first|exact Or.inl rfl|exact Or.inr rfl) (jX D__law_reach_names hr rfl (jA (@jF _ _ _ _ _ _ _ _ kH (jX D__law_cell_at hr rfl (jA (pv 0) (jA jB jC))) (@jF _ _ _ _ _ _ _ _ vT jB jB)) jC)))
   (@jH _ _ _ _ _ (jU (i:=2) Q4.nd rfl (by first|exact Or.inl rfl|exact Or.inr rfl) (jX D__law_gates hr rfl (jA (@jF _ _ _ _ _ _ _ _ kH (jX D__law_cell_at hr rfl (jA (pv 0) (jA jB jC))) (@jF _ _ _ _ _ _ _ _ vT jB jB)) (jA (pv 1) jC))))
   (@jH _ _ _ _ _ (jU (i:=3) Q4.nd rfl (by first|exact Or.inl rfl|exact Or.inr rfl) (jX D__law_plan hr rfl (@jA _ _ _ _ _ (pv 0) (@jA _ _ _ _ _ (pv 1) (@jA _ _ _ _ _ (pv 2) jC (by rfl)) (by rfl)) (by rfl))))
   (@jH _ _ _ _ _ (jU (i:=4) Q4.nd rfl (by first|exact Or.inl rfl|exact Or.inr rfl) (@jF _ _ _ _ _ _ _ _ kH (jX D__law_cell_at hr rfl (jA (pv 0) (jA jB jC))) (@jF _ _ _ _ _ _ _ _ vT jB jB)))
   (@jE _ _ _ (@jS _ _ _ _ (jX D__law_canal_is hr rfl (jA (jX D_canal_of hr rfl (jA (jX D__law_text hr rfl (@jA _ _ _ _ _ (pv 3) (@jA _ _ _ _ _ (pv 1) (@jA _ _ _ _ _ (@jF _ _ _ _ _ _ _ _ qK (pv 4) jB) jC (by rfl)) (by rfl)) (by rfl))) jC)) (jA (jX D__law_due hr rfl (jA (pv 3) jC)) jC))))))))),?_⟩
 refine ⟨_,rfl,a,ns,0,rfl,hS,_,_,rfl,rfl,⟨by decide,by decide,by decide⟩,_,_,rfl,rfl,(show (0:Int)<10 ^ Int.toNat 40 from by decide +kernel),_,rfl,fun nl H1 s1 hnl0 hnl=>?_⟩
 have hc0:0≤ns.getD 0 0%10 ^ Int.toNat 40:=Int.emod_nonneg _ (by decide +kernel)
 generalize ns.getD 0 0%10 ^ Int.toNat 40=c0 at hnl hc0
 refine ⟨_,rfl,a,ns,1,rfl,s1.seq hS,_,_,rfl,rfl,⟨by decide,by decide,by decide⟩,_,_,rfl,rfl,(show (0:Int)<10 ^ Int.toNat 40 from by decide +kernel),_,rfl,_,c0,nl,rfl,hnl,fun gl H2 s2 hgl=>?_⟩
 have hc1:0≤ns.getD 1 0%10 ^ Int.toNat 40:=Int.emod_nonneg _ (by decide +kernel)
 generalize ns.getD 1 0%10 ^ Int.toNat 40=c1 at hgl hc1
 have s12:=s1.trans s2
 refine ⟨_,rfl,_,rfl,_,rfl,a,nl,gl,ns,qB c0,qT c0 c1,rfl,s12.seq hS,h63,s2 _ _ hnl,hgl,fun its a₁ b₁ c₁ pl us H3 ok ha1 s3 hpl0 hpl hpa=>?_⟩
 have s13:=s12.trans s3
 have hdr:=sX ok ha1
 have nok:=sI hc0 hc1
 refine ⟨_,rfl,a,ns,1,rfl,s13.seq hS,_,_,rfl,rfl,⟨by decide,by decide,by decide⟩,_,_,rfl,rfl,(show (0:Int)<10 ^ Int.toNat 40 from by decide +kernel),?_⟩
 refine ⟨_,rfl,_,rfl,_,rfl,_,_,rfl,rfl,⟨by decide,by decide⟩,pl,nl,_,us,its,qB c0,qT c0 c1,a₁,b₁,c₁,rfl,hpl,hpa.less (by simp),ok,s3 _ _ (s2 _ _ hnl),fun k hk=>(nok.rlen k hk).2,fun k hk=>(nok.glen k hk).2,fun rows H4 hrows hl46 s4=>?_⟩
 have s14:=s13.trans s4
 obtain ⟨S,hz,hgr,e1,e2,e3,h6,hpl'⟩:=t7 nok ok ha1 hrows hl46
 refine ⟨_,S,rfl,hz,hgr,?_,by rw [e1];exact hdr.r8,h6,hpl',fun x H5 s5 hx0 hcn=>?_⟩
 ·rw [e1];have:=hdr.r1;intro e;rw [e] at this;exact absurd this (by decide)
 rw [e3,e1,e2] at hcn
 have s45:=s4.trans s5
 refine ⟨_,rfl,pl,us,its,_,_,a₁,b₁,c₁,rfl,s45 _ _ hpl,hpa.same s45,ok,fun t rl ll nl2 rs ls ns2 H6 s6 ht hrl hll hnl2 hR hL hN=>?_⟩
 generalize kC its=R at hR hdr hcn e1
 generalize kJ its=L at hL hdr hcn e2
 generalize z3 its=N at hN hdr hcn e3
 have b1:=hdr.r8
 have b2:=hdr.l8
 have b3:=hdr.n6
 have hdue:DueAt [] H6 t R L N:=⟨rl,ll,nl2,rs,ls,ns2,ht,hrl,hll,hnl2,hR,hL,hN.mono (NAt.less (by simp)),by simp,by simp,by simp⟩
 refine ⟨x,t,[],[],R,L,N,rfl,hcn.same s6,hdue,by omega,by omega,by omega,fun l hl=>?_,fun p hp=>by rw [hdr.night p hp];omega,fun H7 _=>q _⟩
 obtain ⟨i,hi,e⟩:=List.getElem_of_mem hl
 exact (hdr.lock i l (by rw [List.getElem?_eq_getElem hi,e])).2.2.2.2.2.2.1
end
theorem all_mk {l:W.OpenLaw} {w:World} {K:W.Frag} {h:Heap} {mg:Str→Option Value} {fa f0 f1 f2 f3 f4 f5 f6 f7 f8 f9 f10 f11 f12 f13 f14 f15 f16 f17 f18 f19 f20 f21 f22 f23 f24 f25 f26 f27 f28 f29 f30 f31 f32 f33 f34 f35 f36 f37 f38 f39 f40 f41 f42 f43 f44 f45 f46 f47:Addr} {cP cB cU:Addr} {cR:Addr} {cN:Addr} {dn0:Nat} {tkS:Tok} {j0:Tok} {jZ:Tok} {j7:Tok} {j6:Tok} {j4:Tok} {j5:Tok} {j3:Tok} (X:K.In h) (G:h.Ns mainGlobals mg) (hfa:mg "law"=some (.ref fa))
 {od0 an0 od1 an1 od2 an2 od3 an3 od4 an4 od5 an5 od6 an6 od7 an7 od8 an8 od9 an9 od10 an10 od11 an11 od12 an12 od13 an13 od14 an14 od15 an15 od16 an16 od17 an17 od18 an18 od19 an19 od20 an20 od21 an21 od22 an22 od23 an23 od24 an24 od25 an25 od26 an26 od27 an27 od28 an28 od29 an29 od30 an30 od31 an31 od32 an32 od33 an33 od34 an34 od35 an35 od36 an36 od37 an37 od38 an38 od39 an39 od40 an40 od41 an41 od42 an42 od43 an43 od44 an44 od45 an45 od46 an46 od47 an47:Option Addr} {sl0 sl1 sl2 sl3 sl4 sl5 sl6 sl7 sl8 sl9 sl10 sl11 sl12 sl13 sl14 sl15 sl16 sl17 sl18 sl19 sl20 sl21 sl22 sl23 sl24 sl25 sl26 sl27 sl28 sl29 sl30 sl31 sl32 sl33 sl34 sl35 sl36 sl37 sl38 sl39 sl40 sl41 sl42 sl43 sl44 sl45 sl46 sl47:Array (Option Value)} {oc0 kV0 dc0 pm0 cd0 ct0 oc1 kV1 dc1 pm1 cd1 ct1 oc2 kV2 dc2 pm2 cd2 ct2 oc3 kV3 dc3 pm3 cd3 ct3 oc4 kV4 dc4 pm4 cd4 ct4 oc5 kV5 dc5 pm5 cd5 ct5 oc6 kV6 dc6 pm6 cd6 ct6 oc7 kV7 dc7 pm7 cd7 ct7 oc8 kV8 dc8 pm8 cd8 ct8 oc9 kV9 dc9 pm9 cd9 ct9 oc10 kV10 dc10 pm10 cd10 ct10 oc11 kV11 dc11 pm11 cd11 ct11 oc12 kV12 dc12 pm12 cd12 ct12 oc13 kV13 dc13 pm13 cd13 ct13 oc14 kV14 dc14 pm14 cd14 ct14 oc15 kV15 dc15 pm15 cd15 ct15 oc16 kV16 dc16 pm16 cd16 ct16 oc17 kV17 dc17 pm17 cd17 ct17 oc18 kV18 dc18 pm18 cd18 ct18 oc19 kV19 dc19 pm19 cd19 ct19 oc20 kV20 dc20 pm20 cd20 ct20 oc21 kV21 dc21 pm21 cd21 ct21 oc22 kV22 dc22 pm22 cd22 ct22 oc23 kV23 dc23 pm23 cd23 ct23 oc24 kV24 dc24 pm24 cd24 ct24 oc25 kV25 dc25 pm25 cd25 ct25 oc26 kV26 dc26 pm26 cd26 ct26 oc27 kV27 dc27 pm27 cd27 ct27 oc28 kV28 dc28 pm28 cd28 ct28 oc29 kV29 dc29 pm29 cd29 ct29 oc30 kV30 dc30 pm30 cd30 ct30 oc31 kV31 dc31 pm31 cd31 ct31 oc32 kV32 dc32 pm32 cd32 ct32 oc33 kV33 dc33 pm33 cd33 ct33 oc34 kV34 dc34 pm34 cd34 ct34 oc35 kV35 dc35 pm35 cd35 ct35 oc36 kV36 dc36 pm36 cd36 ct36 oc37 kV37 dc37 pm37 cd37 ct37 oc38 kV38 dc38 pm38 cd38 ct38 oc39 kV39 dc39 pm39 cd39 ct39 oc40 kV40 dc40 pm40 cd40 ct40 oc41 kV41 dc41 pm41 cd41 ct41 oc42 kV42 dc42 pm42 cd42 ct42 oc43 kV43 dc43 pm43 cd43 ct43 oc44 kV44 dc44 pm44 cd44 ct44 oc45 kV45 dc45 pm45 cd45 ct45 oc46 kV46 dc46 pm46 cd46 ct46 oc47 kV47 dc47 pm47 cd47 ct47:Value}
 {T10:Addr} {oT10:Obj}
  (aC_P:W.nsIn K mainGlobals "PlainLock"=some (some (.ref cP)))
  (aC_B:W.nsIn K mainGlobals "BasinLock"=some (some (.ref cB)))
  (aC_U:W.nsIn K mainGlobals "PumpLock"=some (some (.ref cU)))
  (aC_R:W.nsIn K mainGlobals "Reach"=some (some (.ref cR)))
  (aC_N:W.nsIn K mainGlobals "Canal"=some (some (.ref cN)))
  (a0:W.findIn K (.ref cP) "__init__"=some (some (.ref f0)))
  (i0:W.isFn K (.ref f0)=true)
  (ac0:W.findCls K (.ref cP) (.type "type") "__init__"=some (.val (.ref f0)))
  (l0:K.lookup f0=some ⟨oc0,od0,.func (W.fnOf "__init__" "PlainLock.__init__" (jW JL) (jT JL) (jG JL) .none kV0 dc0 pm0 an0 cd0 ct0),sl0⟩)
  (c0:W.codeIn K cd0 "PlainLock.__init__"=true)
  (k0:W.keepIn K (.ref f0)=true)
  (a1:W.findIn K (.ref cB) "__init__"=some (some (.ref f1)))
  (i1:W.isFn K (.ref f1)=true)
  (l1:K.lookup f1=some ⟨oc1,od1,.func (W.fnOf "__init__" "BasinLock.__init__" (jW JI) (jT JI) (jG JI) .none kV1 dc1 pm1 an1 cd1 ct1),sl1⟩)
  (c1:W.codeIn K cd1 "BasinLock.__init__"=true)
  (k1:W.keepIn K (.ref f1)=true)
  (a2:W.findIn K (.ref cU) "__init__"=some (some (.ref f2)))
  (i2:W.isFn K (.ref f2)=true)
  (l2:K.lookup f2=some ⟨oc2,od2,.func (W.fnOf "__init__" "PumpLock.__init__" (jW JO) (jT JO) (jG JO) .none kV2 dc2 pm2 an2 cd2 ct2),sl2⟩)
  (c2:W.codeIn K cd2 "PumpLock.__init__"=true)
  (k2:W.keepIn K (.ref f2)=true)
  (a3:W.findIn K (.ref cR) "__init__"=some (some (.ref f3)))
  (i3:W.isFn K (.ref f3)=true)
  (l3:K.lookup f3=some ⟨oc3,od3,.func (W.fnOf "__init__" "Reach.__init__" (jW JR) (jT JR) (jG JR) .none kV3 dc3 pm3 an3 cd3 ct3),sl3⟩)
  (c3:W.codeIn K cd3 "Reach.__init__"=true)
  (k3:W.keepIn K (.ref f3)=true)
  (a4:W.findIn K (.ref cP) "kind"=some (some (.ref f4)))
  (i4:W.isFn K (.ref f4)=true)
  (l4:K.lookup f4=some ⟨oc4,od4,.func (W.fnOf "kind" "PlainLock.kind" (jW JN) (jT JN) (jG JN) .none kV4 dc4 pm4 an4 cd4 ct4),sl4⟩)
  (c4:W.codeIn K cd4 "PlainLock.kind"=true)
  (k4:W.keepIn K (.ref f4)=true)
  (a5:W.findIn K (.ref cB) "kind"=some (some (.ref f5)))
  (i5:W.isFn K (.ref f5)=true)
  (l5:K.lookup f5=some ⟨oc5,od5,.func (W.fnOf "kind" "BasinLock.kind" (jW JK) (jT JK) (jG JK) .none kV5 dc5 pm5 an5 cd5 ct5),sl5⟩)
  (c5:W.codeIn K cd5 "BasinLock.kind"=true)
  (k5:W.keepIn K (.ref f5)=true)
  (a6:W.findIn K (.ref cU) "kind"=some (some (.ref f6)))
  (i6:W.isFn K (.ref f6)=true)
  (l6:K.lookup f6=some ⟨oc6,od6,.func (W.fnOf "kind" "PumpLock.kind" (jW JQ) (jT JQ) (jG JQ) .none kV6 dc6 pm6 an6 cd6 ct6),sl6⟩)
  (c6:W.codeIn K cd6 "PumpLock.kind"=true)
  (k6:W.keepIn K (.ref f6)=true)
  (a7:W.findIn K (.ref cP) "extra"=some (some (.ref f7)))
  (i7:W.isFn K (.ref f7)=true)
  (l7:K.lookup f7=some ⟨oc7,od7,.func (W.fnOf "extra" "PlainLock.extra" (jW JM) (jT JM) (jG JM) .none kV7 dc7 pm7 an7 cd7 ct7),sl7⟩)
  (c7:W.codeIn K cd7 "PlainLock.extra"=true)
  (k7:W.keepIn K (.ref f7)=true)
  (a8:W.findIn K (.ref cB) "extra"=some (some (.ref f8)))
  (i8:W.isFn K (.ref f8)=true)
  (l8:K.lookup f8=some ⟨oc8,od8,.func (W.fnOf "extra" "BasinLock.extra" (jW JJ) (jT JJ) (jG JJ) .none kV8 dc8 pm8 an8 cd8 ct8),sl8⟩)
  (c8:W.codeIn K cd8 "BasinLock.extra"=true)
  (k8:W.keepIn K (.ref f8)=true)
  (a9:W.findIn K (.ref cU) "extra"=some (some (.ref f9)))
  (i9:W.isFn K (.ref f9)=true)
  (l9:K.lookup f9=some ⟨oc9,od9,.func (W.fnOf "extra" "PumpLock.extra" (jW JP) (jT JP) (jG JP) .none kV9 dc9 pm9 an9 cd9 ct9),sl9⟩)
  (c9:W.codeIn K cd9 "PumpLock.extra"=true)
  (k9:W.keepIn K (.ref f9)=true)
  (a10:W.findIn K (.ref cN) "__init__"=some (some (.ref f10)))
  (i10:W.isFn K (.ref f10)=true)
  (l10:K.lookup f10=some ⟨oc10,od10,.func (W.fnOf "__init__" "Canal.__init__" (jW zN) (jT zN) (jG zN) (.ref T10) kV10 dc10 pm10 an10 cd10 ct10),sl10⟩)
  (c10:W.codeIn K cd10 "Canal.__init__"=true)
  (k10:W.keepIn K (.ref f10)=true)
  (lT10:K.lookup T10=some oT10)
  (dT10:oT10.data=.seq ([.none]:List Value).toArray dn0)
  (a11:W.nsIn K mainGlobals "place_called"=some (some (.ref f11)))
  (l11:K.lookup f11=some ⟨oc11,od11,.func (W.fnOf "place_called" "place_called" (jW QC) (jT QC) (jG QC) .none kV11 dc11 pm11 an11 cd11 ct11),sl11⟩)
  (c11:W.codeIn K cd11 "place_called"=true)
  (k11:W.keepIn K (.ref f11)=true)
  (a12:W.nsIn K mainGlobals "written_with"=some (some (.ref f12)))
  (l12:K.lookup f12=some ⟨oc12,od12,.func (W.fnOf "written_with" "written_with" (jW zX) (jT zX) (jG zX) .none kV12 dc12 pm12 an12 cd12 ct12),sl12⟩)
  (c12:W.codeIn K cd12 "written_with"=true)
  (k12:W.keepIn K (.ref f12)=true)
  (a13:W.nsIn K mainGlobals "is_name"=some (some (.ref f13)))
  (l13:K.lookup f13=some ⟨oc13,od13,.func (W.fnOf "is_name" "is_name" (jW J7) (jT J7) (jG J7) .none kV13 dc13 pm13 an13 cd13 ct13),sl13⟩)
  (c13:W.codeIn K cd13 "is_name"=true)
  (k13:W.keepIn K (.ref f13)=true)
  (a14:W.nsIn K mainGlobals "is_number"=some (some (.ref f14)))
  (l14:K.lookup f14=some ⟨oc14,od14,.func (W.fnOf "is_number" "is_number" (jW J8) (jT J8) (jG J8) .none kV14 dc14 pm14 an14 cd14 ct14),sl14⟩)
  (c14:W.codeIn K cd14 "is_number"=true)
  (k14:W.keepIn K (.ref f14)=true)
  (a15:W.nsIn K mainGlobals "number_of"=some (some (.ref f15)))
  (l15:K.lookup f15=some ⟨oc15,od15,.func (W.fnOf "number_of" "number_of" (jW QB) (jT QB) (jG QB) .none kV15 dc15 pm15 an15 cd15 ct15),sl15⟩)
  (c15:W.codeIn K cd15 "number_of"=true)
  (k15:W.keepIn K (.ref f15)=true)
  (a16:W.nsIn K mainGlobals "numbers_of"=some (some (.ref f16)))
  (l16:K.lookup f16=some ⟨oc16,od16,.func (W.fnOf "numbers_of" "numbers_of" (jW zT) (jT zT) (jG zT) .none kV16 dc16 pm16 an16 cd16 ct16),sl16⟩)
  (c16:W.codeIn K cd16 "numbers_of"=true)
  (k16:W.keepIn K (.ref f16)=true)
  (a17:W.nsIn K mainGlobals "refuse_no_names"=some (some (.ref f17)))
  (l17:K.lookup f17=some ⟨oc17,od17,.func (W.fnOf "refuse_no_names" "refuse_no_names" (jW zU) (jT zU) (jG zU) .none kV17 dc17 pm17 an17 cd17 ct17),sl17⟩)
  (c17:W.codeIn K cd17 "refuse_no_names"=true)
  (k17:W.keepIn K (.ref f17)=true)
  (a18:W.nsIn K mainGlobals "refuse_told"=some (some (.ref f18)))
  (l18:K.lookup f18=some ⟨oc18,od18,.func (W.fnOf "refuse_told" "refuse_told" (jW zV) (jT zV) (jG zV) .none kV18 dc18 pm18 an18 cd18 ct18),sl18⟩)
  (c18:W.codeIn K cd18 "refuse_told"=true)
  (k18:W.keepIn K (.ref f18)=true)
  (a19:W.nsIn K mainGlobals "refuse_bad_reach"=some (some (.ref f19)))
  (l19:K.lookup f19=some ⟨oc19,od19,.func (W.fnOf "refuse_bad_reach" "refuse_bad_reach" (jW QG) (jT QG) (jG QG) .none kV19 dc19 pm19 an19 cd19 ct19),sl19⟩)
  (c19:W.codeIn K cd19 "refuse_bad_reach"=true)
  (k19:W.keepIn K (.ref f19)=true)
  (a20:W.nsIn K mainGlobals "refuse_bad_lock"=some (some (.ref f20)))
  (l20:K.lookup f20=some ⟨oc20,od20,.func (W.fnOf "refuse_bad_lock" "refuse_bad_lock" (jW QF) (jT QF) (jG QF) .none kV20 dc20 pm20 an20 cd20 ct20),sl20⟩)
  (c20:W.codeIn K cd20 "refuse_bad_lock"=true)
  (k20:W.keepIn K (.ref f20)=true)
  (a21:W.nsIn K mainGlobals "refuse_many"=some (some (.ref f21)))
  (l21:K.lookup f21=some ⟨oc21,od21,.func (W.fnOf "refuse_many" "refuse_many" (jW QH) (jT QH) (jG QH) .none kV21 dc21 pm21 an21 cd21 ct21),sl21⟩)
  (c21:W.codeIn K cd21 "refuse_many"=true)
  (k21:W.keepIn K (.ref f21)=true)
  (a22:W.nsIn K mainGlobals "widened"=some (some (.ref f22)))
  (l22:K.lookup f22=some ⟨oc22,od22,.func (W.fnOf "widened" "widened" (jW QI) (jT QI) (jG QI) .none kV22 dc22 pm22 an22 cd22 ct22),sl22⟩)
  (c22:W.codeIn K cd22 "widened"=true)
  (k22:W.keepIn K (.ref f22)=true)
  (a23:W.nsIn K mainGlobals "lock_made"=some (some (.ref f23)))
  (l23:K.lookup f23=some ⟨oc23,od23,.func (W.fnOf "lock_made" "lock_made" (jW J9) (jT J9) (jG J9) .none kV23 dc23 pm23 an23 cd23 ct23),sl23⟩)
  (c23:W.codeIn K cd23 "lock_made"=true)
  (k23:W.keepIn K (.ref f23)=true)
  (a24:W.nsIn K mainGlobals "reach_read"=some (some (.ref f24)))
  (l24:K.lookup f24=some ⟨oc24,od24,.func (W.fnOf "reach_read" "reach_read" (jW QD) (jT QD) (jG QD) .none kV24 dc24 pm24 an24 cd24 ct24),sl24⟩)
  (c24:W.codeIn K cd24 "reach_read"=true)
  (k24:W.keepIn K (.ref f24)=true)
  (a25:W.nsIn K mainGlobals "lock_read"=some (some (.ref f25)))
  (l25:K.lookup f25=some ⟨oc25,od25,.func (W.fnOf "lock_read" "lock_read" (jW QA) (jT QA) (jG QA) .none kV25 dc25 pm25 an25 cd25 ct25),sl25⟩)
  (c25:W.codeIn K cd25 "lock_read"=true)
  (k25:W.keepIn K (.ref f25)=true)
  (a26:W.nsIn K mainGlobals "night_read"=some (some (.ref f26)))
  (l26:K.lookup f26=some ⟨oc26,od26,.func (W.fnOf "night_read" "night_read" (jW zS) (jT zS) (jG zS) .none kV26 dc26 pm26 an26 cd26 ct26),sl26⟩)
  (c26:W.codeIn K cd26 "night_read"=true)
  (k26:W.keepIn K (.ref f26)=true)
  (a27:W.nsIn K mainGlobals "read_row"=some (some (.ref f27)))
  (l27:K.lookup f27=some ⟨oc27,od27,.func (W.fnOf "read_row" "read_row" (jW QE) (jT QE) (jG QE) .none kV27 dc27 pm27 an27 cd27 ct27),sl27⟩)
  (c27:W.codeIn K cd27 "read_row"=true)
  (k27:W.keepIn K (.ref f27)=true)
  (a28:W.nsIn K mainGlobals "rows_of"=some (some (.ref f28)))
  (l28:K.lookup f28=some ⟨oc28,od28,.func (W.fnOf "rows_of" "rows_of" (jW zW) (jT zW) (jG zW) .none kV28 dc28 pm28 an28 cd28 ct28),sl28⟩)
  (c28:W.codeIn K cd28 "rows_of"=true)
  (k28:W.keepIn K (.ref f28)=true)
  (a29:W.nsIn K mainGlobals "canal_of"=some (some (.ref f29)))
  (l29:K.lookup f29=some ⟨oc29,od29,.func (W.fnOf "canal_of" "canal_of" (jW zR) (jT zR) (jG zR) .none kV29 dc29 pm29 an29 cd29 ct29),sl29⟩)
  (c29:W.codeIn K cd29 "canal_of"=true)
  (k29:W.keepIn K (.ref f29)=true)
  (a30:W.nsIn K mainGlobals "_law_cell_at"=some (some (.ref f30)))
  (l30:K.lookup f30=some ⟨oc30,od30,.func (W.fnOf "_law_cell_at" "_law_cell_at" (jW JT) (jT JT) (jG JT) .none kV30 dc30 pm30 an30 cd30 ct30),sl30⟩)
  (c30:W.codeIn K cd30 "_law_cell_at"=true)
  (k30:W.keepIn K (.ref f30)=true)
  (a31:W.nsIn K mainGlobals "_law_whole"=some (some (.ref f31)))
  (l31:K.lookup f31=some ⟨oc31,od31,.func (W.fnOf "_law_whole" "_law_whole" (jW J6) (jT J6) (jG J6) .none kV31 dc31 pm31 an31 cd31 ct31),sl31⟩)
  (c31:W.codeIn K cd31 "_law_whole"=true)
  (k31:W.keepIn K (.ref f31)=true)
  (a32:W.nsIn K mainGlobals "_law_names"=some (some (.ref f32)))
  (l32:K.lookup f32=some ⟨oc32,od32,.func (W.fnOf "_law_names" "_law_names" (jW JX) (jT JX) (jG JX) .none kV32 dc32 pm32 an32 cd32 ct32),sl32⟩)
  (c32:W.codeIn K cd32 "_law_names"=true)
  (k32:W.keepIn K (.ref f32)=true)
  (a33:W.nsIn K mainGlobals "_law_reach_names"=some (some (.ref f33)))
  (l33:K.lookup f33=some ⟨oc33,od33,.func (W.fnOf "_law_reach_names" "_law_reach_names" (jW zP) (jT zP) (jG zP) .none kV33 dc33 pm33 an33 cd33 ct33),sl33⟩)
  (c33:W.codeIn K cd33 "_law_reach_names"=true)
  (k33:W.keepIn K (.ref f33)=true)
  (a34:W.nsIn K mainGlobals "_law_gates"=some (some (.ref f34)))
  (l34:K.lookup f34=some ⟨oc34,od34,.func (W.fnOf "_law_gates" "_law_gates" (jW JU) (jT JU) (jG JU) .none kV34 dc34 pm34 an34 cd34 ct34),sl34⟩)
  (c34:W.codeIn K cd34 "_law_gates"=true)
  (k34:W.keepIn K (.ref f34)=true)
  (a35:W.nsIn K mainGlobals "_law_reach"=some (some (.ref f35)))
  (l35:K.lookup f35=some ⟨oc35,od35,.func (W.fnOf "_law_reach" "_law_reach" (jW J3) (jT J3) (jG J3) .none kV35 dc35 pm35 an35 cd35 ct35),sl35⟩)
  (c35:W.codeIn K cd35 "_law_reach"=true)
  (k35:W.keepIn K (.ref f35)=true)
  (a36:W.nsIn K mainGlobals "_law_lock"=some (some (.ref f36)))
  (l36:K.lookup f36=some ⟨oc36,od36,.func (W.fnOf "_law_lock" "_law_lock" (jW JV) (jT JV) (jG JV) .none kV36 dc36 pm36 an36 cd36 ct36),sl36⟩)
  (c36:W.codeIn K cd36 "_law_lock"=true)
  (k36:W.keepIn K (.ref f36)=true)
  (a37:W.nsIn K mainGlobals "_law_night"=some (some (.ref f37)))
  (l37:K.lookup f37=some ⟨oc37,od37,.func (W.fnOf "_law_night" "_law_night" (jW JY) (jT JY) (jG JY) .none kV37 dc37 pm37 an37 cd37 ct37),sl37⟩)
  (c37:W.codeIn K cd37 "_law_night"=true)
  (k37:W.keepIn K (.ref f37)=true)
  (a38:W.nsIn K mainGlobals "_law_plan"=some (some (.ref f38)))
  (l38:K.lookup f38=some ⟨oc38,od38,.func (W.fnOf "_law_plan" "_law_plan" (jW zO) (jT zO) (jG zO) .none kV38 dc38 pm38 an38 cd38 ct38),sl38⟩)
  (c38:W.codeIn K cd38 "_law_plan"=true)
  (k38:W.keepIn K (.ref f38)=true)
  (a39:W.nsIn K mainGlobals "_law_due"=some (some (.ref f39)))
  (l39:K.lookup f39=some ⟨oc39,od39,.func (W.fnOf "_law_due" "_law_due" (jW yU) (jT yU) (jG yU) .none kV39 dc39 pm39 an39 cd39 ct39),sl39⟩)
  (c39:W.codeIn K cd39 "_law_due"=true)
  (k39:W.keepIn K (.ref f39)=true)
  (a40:W.nsIn K mainGlobals "_law_numbers"=some (some (.ref f40)))
  (l40:K.lookup f40=some ⟨oc40,od40,.func (W.fnOf "_law_numbers" "_law_numbers" (jW J0) (jT J0) (jG J0) .none kV40 dc40 pm40 an40 cd40 ct40),sl40⟩)
  (c40:W.codeIn K cd40 "_law_numbers"=true)
  (k40:W.keepIn K (.ref f40)=true)
  (a41:W.nsIn K mainGlobals "_law_reach_is"=some (some (.ref f41)))
  (l41:K.lookup f41=some ⟨oc41,od41,.func (W.fnOf "_law_reach_is" "_law_reach_is" (jW J4) (jT J4) (jG J4) .none kV41 dc41 pm41 an41 cd41 ct41),sl41⟩)
  (c41:W.codeIn K cd41 "_law_reach_is"=true)
  (k41:W.keepIn K (.ref f41)=true)
  (a42:W.nsIn K mainGlobals "_law_lock_is"=some (some (.ref f42)))
  (l42:K.lookup f42=some ⟨oc42,od42,.func (W.fnOf "_law_lock_is" "_law_lock_is" (jW JW) (jT JW) (jG JW) .none kV42 dc42 pm42 an42 cd42 ct42),sl42⟩)
  (c42:W.codeIn K cd42 "_law_lock_is"=true)
  (k42:W.keepIn K (.ref f42)=true)
  (a43:W.nsIn K mainGlobals "_law_night_is"=some (some (.ref f43)))
  (l43:K.lookup f43=some ⟨oc43,od43,.func (W.fnOf "_law_night_is" "_law_night_is" (jW JZ) (jT JZ) (jG JZ) .none kV43 dc43 pm43 an43 cd43 ct43),sl43⟩)
  (c43:W.codeIn K cd43 "_law_night_is"=true)
  (k43:W.keepIn K (.ref f43)=true)
  (a44:W.nsIn K mainGlobals "_law_canal_is"=some (some (.ref f44)))
  (l44:K.lookup f44=some ⟨oc44,od44,.func (W.fnOf "_law_canal_is" "_law_canal_is" (jW JS) (jT JS) (jG JS) .none kV44 dc44 pm44 an44 cd44 ct44),sl44⟩)
  (c44:W.codeIn K cd44 "_law_canal_is"=true)
  (k44:W.keepIn K (.ref f44)=true)
  (a45:W.nsIn K mainGlobals "_law_row"=some (some (.ref f45)))
  (l45:K.lookup f45=some ⟨oc45,od45,.func (W.fnOf "_law_row" "_law_row" (jW zQ) (jT zQ) (jG zQ) .none kV45 dc45 pm45 an45 cd45 ct45),sl45⟩)
  (c45:W.codeIn K cd45 "_law_row"=true)
  (k45:W.keepIn K (.ref f45)=true)
  (a46:W.nsIn K mainGlobals "_law_text"=some (some (.ref f46)))
  (l46:K.lookup f46=some ⟨oc46,od46,.func (W.fnOf "_law_text" "_law_text" (jW J5) (jT J5) (jG J5) .none kV46 dc46 pm46 an46 cd46 ct46),sl46⟩)
  (c46:W.codeIn K cd46 "_law_text"=true)
  (k46:W.keepIn K (.ref f46)=true)
  (a47:W.nsIn K mainGlobals "law"=some (some (.ref f47)))
  (l47:K.lookup f47=some ⟨oc47,od47,.func (W.fnOf "law" "law" (jW yV) (jT yV) (jG yV) .none kV47 dc47 pm47 an47 cd47 ct47),sl47⟩)
  (c47:W.codeIn K cd47 "law"=true)
  (k47:W.keepIn K (.ref f47)=true)
  (z_list:W.nsIn K mainGlobals "list"=some none)
  (z_enumerate:W.nsIn K mainGlobals "enumerate"=some none)
  (z_all:W.nsIn K mainGlobals "all"=some none)
  (z_len:W.nsIn K mainGlobals "len"=some none)
  (z_int:W.nsIn K mainGlobals "int"=some none)
  (z_zip:W.nsIn K mainGlobals "zip"=some none)
  (z_set:W.nsIn K mainGlobals "set"=some none)
  (z_isinstance:W.nsIn K mainGlobals "isinstance"=some none)
  (z_bool:W.nsIn K mainGlobals "bool"=some none)
  (z_range:W.nsIn K mainGlobals "range"=some none)
  (z_min:W.nsIn K mainGlobals "min"=some none)
  (z_max:W.nsIn K mainGlobals "max"=some none)
  (z_str:W.nsIn K mainGlobals "str"=some none)
  (z_tuple:W.nsIn K mainGlobals "tuple"=some none)
  (pg_P:W.plainGet K cP Str.empty=true)
  (hdd_P:W.hasDictIn K cP=true)
  (po_P:W.plainOver K cP=true)
  (sa_P:W.findIn K (.ref cP) "__setattr__"=some (some (.builtin "object.__setattr__")))
  (mk_P:W.makesIn K cP=true)
  (kc_P:W.keepIn K (.ref cP)=true)
  (n_name_P:W.findIn K (.ref cP) "name"=some none)
  (n_high_P:W.findIn K (.ref cP) "high"=some none)
  (n_low_P:W.findIn K (.ref cP) "low"=some none)
  (n_room_P:W.findIn K (.ref cP) "room"=some none)
  (pg_B:W.plainGet K cB Str.empty=true)
  (hdd_B:W.hasDictIn K cB=true)
  (po_B:W.plainOver K cB=true)
  (sa_B:W.findIn K (.ref cB) "__setattr__"=some (some (.builtin "object.__setattr__")))
  (mk_B:W.makesIn K cB=true)
  (kc_B:W.keepIn K (.ref cB)=true)
  (n_name_B:W.findIn K (.ref cB) "name"=some none)
  (n_high_B:W.findIn K (.ref cB) "high"=some none)
  (n_low_B:W.findIn K (.ref cB) "low"=some none)
  (n_room_B:W.findIn K (.ref cB) "room"=some none)
  (n_side_B:W.findIn K (.ref cB) "side"=some none)
  (pg_U:W.plainGet K cU Str.empty=true)
  (hdd_U:W.hasDictIn K cU=true)
  (po_U:W.plainOver K cU=true)
  (sa_U:W.findIn K (.ref cU) "__setattr__"=some (some (.builtin "object.__setattr__")))
  (mk_U:W.makesIn K cU=true)
  (kc_U:W.keepIn K (.ref cU)=true)
  (n_name_U:W.findIn K (.ref cU) "name"=some none)
  (n_high_U:W.findIn K (.ref cU) "high"=some none)
  (n_low_U:W.findIn K (.ref cU) "low"=some none)
  (n_room_U:W.findIn K (.ref cU) "room"=some none)
  (n_lift_U:W.findIn K (.ref cU) "lift"=some none)
  (g1:W.specialIn K (.ref cP) "__getattribute__"=some (some (.builtin "type.__getattribute__")))
  (g2:W.readsIn K cP (.type "type")=true)
  (pg_R:W.plainGet K cR Str.empty=true)
  (hdd_R:W.hasDictIn K cR=true)
  (po_R:W.plainOver K cR=true)
  (sa_R:W.findIn K (.ref cR) "__setattr__"=some (some (.builtin "object.__setattr__")))
  (mk_R:W.makesIn K cR=true)
  (kc_R:W.keepIn K (.ref cR)=true)
  (nR_name:W.findIn K (.ref cR) "name"=some none)
  (nR_least:W.findIn K (.ref cR) "least"=some none)
  (nR_crest:W.findIn K (.ref cR) "crest"=some none)
  (nR_berths:W.findIn K (.ref cR) "berths"=some none)
  (nR_water:W.findIn K (.ref cR) "water"=some none)
  (nR_target:W.findIn K (.ref cR) "target"=some none)
  (pg_N:W.plainGet K cN Str.empty=true)
  (hdd_N:W.hasDictIn K cN=true)
  (po_N:W.plainOver K cN=true)
  (sa_N:W.findIn K (.ref cN) "__setattr__"=some (some (.builtin "object.__setattr__")))
  (mk_N:W.makesIn K cN=true)
  (kc_N:W.keepIn K (.ref cN)=true)
  (nN_reaches:W.findIn K (.ref cN) "reaches"=some none)
  (nN_locks:W.findIn K (.ref cN) "locks"=some none)
  (nN_nights:W.findIn K (.ref cN) "nights"=some none)
  (ty2:W.specialIn K (.builtin "object.__class__") "__get__"=some (some (.builtin "getset_descriptor.__get__")))
  (ty3:W.takesIn K (.builtin "object.__class__")=some true)
  (ty1_R:W.findIn K (.ref cR) "__class__"=some (some (.builtin "object.__class__")))
  (ty4_R:W.mroIn K cR (.type "object")=some true)
  (ty1_N:W.findIn K (.ref cN) "__class__"=some (some (.builtin "object.__class__")))
  (ty4_N:W.mroIn K cN (.type "object")=some true)
  (ty1_P:W.findIn K (.ref cP) "__class__"=some (some (.builtin "object.__class__")))
  (ty4_P:W.mroIn K cP (.type "object")=some true)
  (ty1_B:W.findIn K (.ref cB) "__class__"=some (some (.builtin "object.__class__")))
  (ty4_B:W.mroIn K cB (.type "object")=some true)
  (ty1_U:W.findIn K (.ref cU) "__class__"=some (some (.builtin "object.__class__")))
  (ty4_U:W.mroIn K cU (.type "object")=some true)
  (kt_R:W.kitOne K (.ref cR) (.ref cR)=some true)
  (kt_N:W.kitOne K (.ref cN) (.ref cN)=some true)
  (kt_PP:W.kitOne K (.ref cP) (.ref cP)=some true)
  (kt_PB:W.kitOne K (.ref cP) (.ref cB)=some false)
  (kt_PU:W.kitOne K (.ref cP) (.ref cU)=some false)
  (kt_BP:W.kitOne K (.ref cB) (.ref cP)=some true)
  (kt_BB:W.kitOne K (.ref cB) (.ref cB)=some true)
  (kt_BU:W.kitOne K (.ref cB) (.ref cU)=some false)
  (kt_UP:W.kitOne K (.ref cU) (.ref cP)=some true)
  (kt_UB:W.kitOne K (.ref cU) (.ref cB)=some false)
  (kt_UU:W.kitOne K (.ref cU) (.ref cU)=some true)
  (gSEA:W.nsIn K mainGlobals "SEA"=some (some (.int (-1) tkS)))
  (gLETTERS:W.nsIn K mainGlobals "LETTERS"=some (some (.str lettersS j0)))
  (gFIGURES:W.nsIn K mainGlobals "FIGURES"=some (some (.str zA jZ)))
  (gMOST_SIGNS:W.nsIn K mainGlobals "MOST_SIGNS"=some (some (.int 12 j7)))
  (gMOST_REACHES:W.nsIn K mainGlobals "MOST_REACHES"=some (some (.int 8 j6)))
  (gMOST_LOCKS:W.nsIn K mainGlobals "MOST_LOCKS"=some (some (.int 8 j4)))
  (gMOST_NIGHTS:W.nsIn K mainGlobals "MOST_NIGHTS"=some (some (.int 6 j5)))
  (gMOST_BERTHS:W.nsIn K mainGlobals "MOST_BERTHS"=some (some (.int 9 j3))) :
  ∃fd:FuncData,(∀(s:Shared) (v:Value),BindsTo s fd ⟨[v],[]⟩ [("script",v)])∧∀base:Heap,K.In base→base.Ns mainGlobals mg→FnOk l.prog w K mg base jR 8 fa fd ["script"] (cW K):=by
 have e:=hfa.symm.trans (W.mg_of X G a47)
 cases e
 have F0:=kE (st:=JL) l0 c0 k0
 have b0:=F0.binds (ps:=["self","name","high","low","room"]) fun _ _ _ _ _ _ us hl=>match us,hl with|[_,_,_,_,_],_=>rfl
 have F1:=kE (st:=JI) l1 c1 k1
 have b1:=F1.binds (ps:=["self","name","high","low","room","side"]) fun _ _ _ _ _ _ us hl=>match us,hl with|[_,_,_,_,_,_],_=>rfl
 have F2:=kE (st:=JO) l2 c2 k2
 have b2:=F2.binds (ps:=["self","name","high","low","room","lift"]) fun _ _ _ _ _ _ us hl=>match us,hl with|[_,_,_,_,_,_],_=>rfl
 have F3:=kE (st:=JR) l3 c3 k3
 have b3:=F3.binds (ps:=["self","name","least","crest","berths","water","target"]) fun _ _ _ _ _ _ us hl=>match us,hl with|[_,_,_,_,_,_,_],_=>rfl
 have F4:=kE (st:=JN) l4 c4 k4
 have b4:=F4.binds (ps:=["self"]) fun _ _ _ _ _ _ us hl=>match us,hl with|[_],_=>rfl
 have F5:=kE (st:=JK) l5 c5 k5
 have b5:=F5.binds (ps:=["self"]) fun _ _ _ _ _ _ us hl=>match us,hl with|[_],_=>rfl
 have F6:=kE (st:=JQ) l6 c6 k6
 have b6:=F6.binds (ps:=["self"]) fun _ _ _ _ _ _ us hl=>match us,hl with|[_],_=>rfl
 have F7:=kE (st:=JM) l7 c7 k7
 have b7:=F7.binds (ps:=["self"]) fun _ _ _ _ _ _ us hl=>match us,hl with|[_],_=>rfl
 have F8:=kE (st:=JJ) l8 c8 k8
 have b8:=F8.binds (ps:=["self"]) fun _ _ _ _ _ _ us hl=>match us,hl with|[_],_=>rfl
 have F9:=kE (st:=JP) l9 c9 k9
 have b9:=F9.binds (ps:=["self"]) fun _ _ _ _ _ _ us hl=>match us,hl with|[_],_=>rfl
 have F10:=AV (st:=zN) (ds:=[.none]) (n:=dn0) l10 c10 k10 lT10 (by first|exact dT10|rfl)
 have b10:Binds K _ ["self","reaches","locks","nights"] []:=F10.binds [] 4 rfl fun _ _ _ _ _ _ _ us hl=>match us,hl with|[_,_,_,_],_=>⟨_,rfl,rfl⟩
 have b10_1:Binds K _ ["self","reaches","locks","nights"] [.none]:=F10.binds [.none] 3 rfl fun _ _ _ _ _ _ _ us hl=>match us,hl with|[_,_,_],_=>⟨_,rfl,rfl⟩
 have F11:=kE (st:=QC) l11 c11 k11
 have b11:=F11.binds (ps:=["name","things"]) fun _ _ _ _ _ _ us hl=>match us,hl with|[_,_],_=>rfl
 have F12:=kE (st:=zX) l12 c12 k12
 have b12:=F12.binds (ps:=["word","signs"]) fun _ _ _ _ _ _ us hl=>match us,hl with|[_,_],_=>rfl
 have F13:=kE (st:=J7) l13 c13 k13
 have b13:=F13.binds (ps:=["word"]) fun _ _ _ _ _ _ us hl=>match us,hl with|[_],_=>rfl
 have F14:=kE (st:=J8) l14 c14 k14
 have b14:=F14.binds (ps:=["word"]) fun _ _ _ _ _ _ us hl=>match us,hl with|[_],_=>rfl
 have F15:=kE (st:=QB) l15 c15 k15
 have b15:=F15.binds (ps:=["word"]) fun _ _ _ _ _ _ us hl=>match us,hl with|[_],_=>rfl
 have F16:=kE (st:=zT) l16 c16 k16
 have b16:=F16.binds (ps:=["words"]) fun _ _ _ _ _ _ us hl=>match us,hl with|[_],_=>rfl
 have F17:=kE (st:=zU) l17 c17 k17
 have b17:=F17.binds (ps:=["words"]) fun _ _ _ _ _ _ us hl=>match us,hl with|[_],_=>rfl
 have F18:=kE (st:=zV) l18 c18 k18
 have b18:=F18.binds (ps:=["name","things"]) fun _ _ _ _ _ _ us hl=>match us,hl with|[_,_],_=>rfl
 have F19:=kE (st:=QG) l19 c19 k19
 have b19:=F19.binds (ps:=["reach"]) fun _ _ _ _ _ _ us hl=>match us,hl with|[_],_=>rfl
 have F20:=kE (st:=QF) l20 c20 k20
 have b20:=F20.binds (ps:=["lock"]) fun _ _ _ _ _ _ us hl=>match us,hl with|[_],_=>rfl
 have F21:=kE (st:=QH) l21 c21 k21
 have b21:=F21.binds (ps:=["things","most"]) fun _ _ _ _ _ _ us hl=>match us,hl with|[_,_],_=>rfl
 have F22:=kE (st:=QI) l22 c22 k22
 have b22:=F22.binds (ps:=["night","many"]) fun _ _ _ _ _ _ us hl=>match us,hl with|[_,_],_=>rfl
 have F23:=kE (st:=J9) l23 c23 k23
 have b23:=F23.binds (ps:=["words","high","low","numbers"]) fun _ _ _ _ _ _ us hl=>match us,hl with|[_,_,_,_],_=>rfl
 have F24:=kE (st:=QD) l24 c24 k24
 have b24:=F24.binds (ps:=["words","reaches"]) fun _ _ _ _ _ _ us hl=>match us,hl with|[_,_],_=>rfl
 have F25:=kE (st:=QA) l25 c25 k25
 have b25:=F25.binds (ps:=["words","reaches","locks"]) fun _ _ _ _ _ _ us hl=>match us,hl with|[_,_,_],_=>rfl
 have F26:=kE (st:=zS) l26 c26 k26
 have b26:=F26.binds (ps:=["words","reaches","nights"]) fun _ _ _ _ _ _ us hl=>match us,hl with|[_,_,_],_=>rfl
 have F27:=kE (st:=QE) l27 c27 k27
 have b27:=F27.binds (ps:=["words","reaches","locks","nights"]) fun _ _ _ _ _ _ us hl=>match us,hl with|[_,_,_,_],_=>rfl
 have F28:=kE (st:=zW) l28 c28 k28
 have b28:=F28.binds (ps:=["text"]) fun _ _ _ _ _ _ us hl=>match us,hl with|[_],_=>rfl
 have F29:=kE (st:=zR) l29 c29 k29
 have b29:=F29.binds (ps:=["text"]) fun _ _ _ _ _ _ us hl=>match us,hl with|[_],_=>rfl
 have F30:=kE (st:=JT) l30 c30 k30
 have b30:=F30.binds (ps:=["script","k"]) fun _ _ _ _ _ _ us hl=>match us,hl with|[_,_],_=>rfl
 have F31:=kE (st:=J6) l31 c31 k31
 have b31:=F31.binds (ps:=["found"]) fun _ _ _ _ _ _ us hl=>match us,hl with|[_],_=>rfl
 have F32:=kE (st:=JX) l32 c32 k32
 have b32:=F32.binds (ps:=["cell","many"]) fun _ _ _ _ _ _ us hl=>match us,hl with|[_,_],_=>rfl
 have F33:=kE (st:=zP) l33 c33 k33
 have b33:=F33.binds (ps:=["cell"]) fun _ _ _ _ _ _ us hl=>match us,hl with|[_],_=>rfl
 have F34:=kE (st:=JU) l34 c34 k34
 have b34:=F34.binds (ps:=["cell","names"]) fun _ _ _ _ _ _ us hl=>match us,hl with|[_,_],_=>rfl
 have F35:=kE (st:=J3) l35 c35 k35
 have b35:=F35.binds (ps:=["name","a","b","c","many"]) fun _ _ _ _ _ _ us hl=>match us,hl with|[_,_,_,_,_],_=>rfl
 have F36:=kE (st:=JV) l36 c36 k36
 have b36:=F36.binds (ps:=["name","a","b","c","many"]) fun _ _ _ _ _ _ us hl=>match us,hl with|[_,_,_,_,_],_=>rfl
 have F37:=kE (st:=JY) l37 c37 k37
 have b37:=F37.binds (ps:=["a","b","c","many"]) fun _ _ _ _ _ _ us hl=>match us,hl with|[_,_,_,_],_=>rfl
 have F38:=kE (st:=zO) l38 c38 k38
 have b38:=F38.binds (ps:=["script","names","gates"]) fun _ _ _ _ _ _ us hl=>match us,hl with|[_,_,_],_=>rfl
 have F39:=kE (st:=yU) l39 c39 k39
 have b39:=F39.binds (ps:=["plan"]) fun _ _ _ _ _ _ us hl=>match us,hl with|[_],_=>rfl
 have F40:=kE (st:=J0) l40 c40 k40
 have b40:=F40.binds (ps:=["found","due"]) fun _ _ _ _ _ _ us hl=>match us,hl with|[_,_],_=>rfl
 have F41:=kE (st:=J4) l41 c41 k41
 have b41:=F41.binds (ps:=["reach","due"]) fun _ _ _ _ _ _ us hl=>match us,hl with|[_,_],_=>rfl
 have F42:=kE (st:=JW) l42 c42 k42
 have b42:=F42.binds (ps:=["lock","due"]) fun _ _ _ _ _ _ us hl=>match us,hl with|[_,_],_=>rfl
 have F43:=kE (st:=JZ) l43 c43 k43
 have b43:=F43.binds (ps:=["night","due"]) fun _ _ _ _ _ _ us hl=>match us,hl with|[_,_],_=>rfl
 have F44:=kE (st:=JS) l44 c44 k44
 have b44:=F44.binds (ps:=["canal","due"]) fun _ _ _ _ _ _ us hl=>match us,hl with|[_,_],_=>rfl
 have F45:=kE (st:=zQ) l45 c45 k45
 have b45:=F45.binds (ps:=["one","names"]) fun _ _ _ _ _ _ us hl=>match us,hl with|[_,_],_=>rfl
 have F46:=kE (st:=J5) l46 c46 k46
 have b46:=F46.binds (ps:=["plan","names","cell"]) fun _ _ _ _ _ _ us hl=>match us,hl with|[_,_,_],_=>rfl
 have F47:=kE (st:=yV) l47 c47 k47
 have b47:=F47.binds (ps:=["script"]) fun _ _ _ _ _ _ us hl=>match us,hl with|[_],_=>rfl
 have T:Txt K mg cP cB cU cR cN tkS j0 jZ j7 j6 j4 j5 j3:={z_list:=W.mg_none_of X G z_list,z_enumerate:=W.mg_none_of X G z_enumerate,z_all:=W.mg_none_of X G z_all,z_len:=W.mg_none_of X G z_len,z_int:=W.mg_none_of X G z_int,z_zip:=W.mg_none_of X G z_zip,z_set:=W.mg_none_of X G z_set,z_isinstance:=W.mg_none_of X G z_isinstance,z_bool:=W.mg_none_of X G z_bool,z_range:=W.mg_none_of X G z_range,z_min:=W.mg_none_of X G z_min,z_max:=W.mg_none_of X G z_max,z_str:=W.mg_none_of X G z_str,z_tuple:=W.mg_none_of X G z_tuple,cl:=fun kd=>match kd with|.plain=>⟨pg_P,hdd_P,po_P,sa_P⟩|.basin=>⟨pg_B,hdd_B,po_B,sa_B⟩|.pump=>⟨pg_U,hdd_U,po_U,sa_U⟩,n_name:=fun kd=>match kd with|.plain=>n_name_P|.basin=>n_name_B|.pump=>n_name_U,n_high:=fun kd=>match kd with|.plain=>n_high_P|.basin=>n_high_B|.pump=>n_high_U,n_low:=fun kd=>match kd with|.plain=>n_low_P|.basin=>n_low_B|.pump=>n_low_U,n_room:=fun kd=>match kd with|.plain=>n_room_P|.basin=>n_room_B|.pump=>n_room_U,n_side:=n_side_B,n_lift:=n_lift_U,c_PlainLock:=W.mg_of X G aC_P,c_BasinLock:=W.mg_of X G aC_B,c_PumpLock:=W.mg_of X G aC_U,clR:=⟨pg_R,hdd_R,po_R,sa_R⟩,nR_name:=nR_name,nR_least:=nR_least,nR_crest:=nR_crest,nR_berths:=nR_berths,nR_water:=nR_water,nR_target:=nR_target,c_Reach:=W.mg_of X G aC_R,clN:=⟨pg_N,hdd_N,po_N,sa_N⟩,nN_reaches:=nN_reaches,nN_locks:=nN_locks,nN_nights:=nN_nights,c_Canal:=W.mg_of X G aC_N,tyR:=fun H a dx fs e=>TyOf.ins e ⟨pg_R,hdd_R,po_R,sa_R⟩ ty1_R ty2 ty3 ty4_R,tyN:=fun H a dx fs e=>TyOf.ins e ⟨pg_N,hdd_N,po_N,sa_N⟩ ty1_N ty2 ty3 ty4_N,tyL:=fun kd=>match kd with|.plain=>fun H a dx fs e=>TyOf.ins e ⟨pg_P,hdd_P,po_P,sa_P⟩ ty1_P ty2 ty3 ty4_P|.basin=>fun H a dx fs e=>TyOf.ins e ⟨pg_B,hdd_B,po_B,sa_B⟩ ty1_B ty2 ty3 ty4_B|.pump=>fun H a dx fs e=>TyOf.ins e ⟨pg_U,hdd_U,po_U,sa_U⟩ ty1_U ty2 ty3 ty4_U,ktR:=kt_R,ktN:=kt_N,ktLP:=fun kd=>match kd with|.plain=>kt_PP|.basin=>kt_BP|.pump=>kt_UP,ktLB:=fun kd=>match kd with|.plain=>kt_PB|.basin=>kt_BB|.pump=>kt_UB,ktLU:=fun kd=>match kd with|.plain=>kt_PU|.basin=>kt_BU|.pump=>kt_UU,g_SEA:=W.mg_of X G gSEA,g_LETTERS:=W.mg_of X G gLETTERS,g_FIGURES:=W.mg_of X G gFIGURES,g_MOST_SIGNS:=W.mg_of X G gMOST_SIGNS,g_MOST_REACHES:=W.mg_of X G gMOST_REACHES,g_MOST_LOCKS:=W.mg_of X G gMOST_LOCKS,g_MOST_NIGHTS:=W.mg_of X G gMOST_NIGHTS,g_MOST_BERTHS:=W.mg_of X G gMOST_BERTHS}
 refine ⟨W.fnOf "law" "law" (jW yV) (jT yV) (jG yV) .none kV47 dc47 pm47 an47 cd47 ct47,fun s v=>.of_eq rfl,fun base _ _=>?_⟩
 have G0:=oB (P:=l.prog) (w:=w) (base:=base) F0 T
 have MK_PlainLock:MkD l.prog w K mg base 1 "PlainLock" cP ["self","name","high","low","room"] (QQ (jO cP cB cU)):=⟨T.c_PlainLock,_,_,⟨mk_P,a0,i0,kc_P⟩,G0,b0⟩
 have CM0:CmD l.prog w K mg base 1 "PlainLock" cP "__init__" ["self","name","high","low","room"] (QQ (jO cP cB cU)):=⟨T.c_PlainLock,_,_,⟨g1,g2,ac0,k0⟩,G0,b0⟩
 have G1:=n0 (P:=l.prog) (w:=w) (base:=base) F1 T CM0
 have MK_BasinLock:MkD l.prog w K mg base 2 "BasinLock" cB ["self","name","high","low","room","side"] (QP (jO cP cB cU) .basin):=⟨T.c_BasinLock,_,_,⟨mk_B,a1,i1,kc_B⟩,G1,b1⟩
 have G2:=oF (P:=l.prog) (w:=w) (base:=base) F2 T CM0
 have MK_PumpLock:MkD l.prog w K mg base 2 "PumpLock" cU ["self","name","high","low","room","lift"] (QP (jO cP cB cU) .pump):=⟨T.c_PumpLock,_,_,⟨mk_U,a2,i2,kc_U⟩,G2,b2⟩
 have G3:=oI (P:=l.prog) (w:=w) (base:=base) F3 T
 have MK_Reach:MkD l.prog w K mg base 1 "Reach" cR ["self","name","least","crest","berths","water","target"] (dS cR):=⟨T.c_Reach,_,_,⟨mk_R,a3,i3,kc_R⟩,G3,b3⟩
 have G4:=oE (P:=l.prog) (w:=w) (base:=base) F4 T
 have ME_kind_P:MeD l.prog w K mg base 1 cP "kind" ["self"] (qR (jO cP cB cU) (fun kd _=>V.str (match kd with|.plain=>"plain"|.basin=>"basin"|.pump=>"pump")) .plain):=⟨T.cl .plain,_,_,⟨a4,i4,k4⟩,G4,b4⟩
 have G5:=n5 (P:=l.prog) (w:=w) (base:=base) F5 T
 have ME_kind_B:MeD l.prog w K mg base 1 cB "kind" ["self"] (qR (jO cP cB cU) (fun kd _=>V.str (match kd with|.plain=>"plain"|.basin=>"basin"|.pump=>"pump")) .basin):=⟨T.cl .basin,_,_,⟨a5,i5,k5⟩,G5,b5⟩
 have G6:=oH (P:=l.prog) (w:=w) (base:=base) F6 T
 have ME_kind_U:MeD l.prog w K mg base 1 cU "kind" ["self"] (qR (jO cP cB cU) (fun kd _=>V.str (match kd with|.plain=>"plain"|.basin=>"basin"|.pump=>"pump")) .pump):=⟨T.cl .pump,_,_,⟨a6,i6,k6⟩,G6,b6⟩
 have MP_kind:MeK l.prog w K mg base 1 (jO cP cB cU) "kind" ["self"] (qR (jO cP cB cU) (fun kd _=>V.str (match kd with|.plain=>"plain"|.basin=>"basin"|.pump=>"pump"))):=⟨fun kd=>match kd with|.plain=>ME_kind_P|.basin=>ME_kind_B|.pump=>ME_kind_U⟩
 have G7:=oC (P:=l.prog) (w:=w) (base:=base) F7 T
 have ME_extra_P:MeD l.prog w K mg base 1 cP "extra" ["self"] (qR (jO cP cB cU) (fun kd v=>V.int (match kd with|.plain=>0|.basin=>v|.pump=>v)) .plain):=⟨T.cl .plain,_,_,⟨a7,i7,k7⟩,G7,b7⟩
 have G8:=n4 (P:=l.prog) (w:=w) (base:=base) F8 T
 have ME_extra_B:MeD l.prog w K mg base 1 cB "extra" ["self"] (qR (jO cP cB cU) (fun kd v=>V.int (match kd with|.plain=>0|.basin=>v|.pump=>v)) .basin):=⟨T.cl .basin,_,_,⟨a8,i8,k8⟩,G8,b8⟩
 have G9:=oG (P:=l.prog) (w:=w) (base:=base) F9 T
 have ME_extra_U:MeD l.prog w K mg base 1 cU "extra" ["self"] (qR (jO cP cB cU) (fun kd v=>V.int (match kd with|.plain=>0|.basin=>v|.pump=>v)) .pump):=⟨T.cl .pump,_,_,⟨a9,i9,k9⟩,G9,b9⟩
 have MP_extra:MeK l.prog w K mg base 1 (jO cP cB cU) "extra" ["self"] (qR (jO cP cB cU) (fun kd v=>V.int (match kd with|.plain=>0|.basin=>v|.pump=>v))):=⟨fun kd=>match kd with|.plain=>ME_extra_P|.basin=>ME_extra_B|.pump=>ME_extra_U⟩
 have G10:=oA (P:=l.prog) (w:=w) (base:=base) F10 T
 have MK_Canal:MkD l.prog w K mg base 1 "Canal" cN ["self","reaches","locks","nights"] (dU (jO cP cB cU) cR cN):=⟨T.c_Canal,_,_,⟨mk_N,a10,i10,kc_N⟩,G10,b10⟩
 have D11:Def l.prog w K mg base 1 "place_called" _ [] _:=⟨_,_,[],pD F11 T,W.mg_of X G a11,k11,.nil,b11⟩
 have D12:Def l.prog w K mg base 1 "written_with" _ [] _:=⟨_,_,[],pN F12 T,W.mg_of X G a12,k12,.nil,b12⟩
 have D13:Def l.prog w K mg base 2 "is_name" _ [] _:=⟨_,_,[],o5 F13 T D12,W.mg_of X G a13,k13,.nil,b13⟩
 have D14:Def l.prog w K mg base 2 "is_number" _ [] _:=⟨_,_,[],o6 F14 T D12,W.mg_of X G a14,k14,.nil,b14⟩
 have D15:Def l.prog w K mg base 3 "number_of" _ [] _:=⟨_,_,[],pB F15 T D14,W.mg_of X G a15,k15,.nil,b15⟩
 have D16:Def l.prog w K mg base 4 "numbers_of" _ [] _:=⟨_,_,[],pC F16 T D15,W.mg_of X G a16,k16,.nil,b16⟩
 have D17:Def l.prog w K mg base 3 "refuse_no_names" _ [] _:=⟨_,_,[],pJ F17 T D13,W.mg_of X G a17,k17,.nil,b17⟩
 have D18:Def l.prog w K mg base 1 "refuse_told" _ [] _:=⟨_,_,[],pK F18 T,W.mg_of X G a18,k18,.nil,b18⟩
 have D19:Def l.prog w K mg base 1 "refuse_bad_reach" _ [] _:=⟨_,_,[],pH F19 T,W.mg_of X G a19,k19,.nil,b19⟩
 have D20:Def l.prog w K mg base 2 "refuse_bad_lock" _ [] _:=⟨_,_,[],pG F20 T MP_extra MP_kind,W.mg_of X G a20,k20,.nil,b20⟩
 have D21:Def l.prog w K mg base 1 "refuse_many" _ [] _:=⟨_,_,[],pI F21 T,W.mg_of X G a21,k21,.nil,b21⟩
 have D22:Def l.prog w K mg base 1 "widened" _ [] _:=⟨_,_,[],pM F22 T,W.mg_of X G a22,k22,.nil,b22⟩
 have D23:Def l.prog w K mg base 4 "lock_made" _ [] _:=⟨_,_,[],o8 F23 T MK_PlainLock MK_BasinLock MK_PumpLock,W.mg_of X G a23,k23,.nil,b23⟩
 have D24:Def l.prog w K mg base 5 "reach_read" _ [] _:=⟨_,_,[],pE F24 T D17 D16 D18 D11 MK_Reach D19 D21,W.mg_of X G a24,k24,.nil,b24⟩
 have D25:Def l.prog w K mg base 5 "lock_read" _ [] _:=⟨_,_,[],o9 F25 T D17 D16 D18 D11 D23 D20 D21,W.mg_of X G a25,k25,.nil,b25⟩
 have D26:Def l.prog w K mg base 5 "night_read" _ [] _:=⟨_,_,[],pA F26 T D17 D16 D11 D21 D22,W.mg_of X G a26,k26,.nil,b26⟩
 have D27:Def l.prog w K mg base 6 "read_row" _ [] _:=⟨_,_,[],pF F27 T D24 D25 D26,W.mg_of X G a27,k27,.nil,b27⟩
 have D28:Def l.prog w K mg base 1 "rows_of" _ [] _:=⟨_,_,[],pL F28 T,W.mg_of X G a28,k28,.nil,b28⟩
 have D29:Def l.prog w K mg base 7 "canal_of" _ [] _:=⟨_,_,[],o4 F29 T D28 D27 MK_Canal D22,W.mg_of X G a29,k29,.nil,b29⟩
 have D30:Def l.prog w K mg base 1 "_law_cell_at" _ [] _:=⟨_,_,[],oK F30 T,W.mg_of X G a30,k30,.nil,b30⟩
 have D31:Def l.prog w K mg base 1 "_law_whole" _ [] _:=⟨_,_,[],o3 F31 T,W.mg_of X G a31,k31,.nil,b31⟩
 have D32:Def l.prog w K mg base 1 "_law_names" _ [] _:=⟨_,_,[],oQ F32 T,W.mg_of X G a32,k32,.nil,b32⟩
 have D33:Def l.prog w K mg base 2 "_law_reach_names" _ [] _:=⟨_,_,[],oY F33 T D32,W.mg_of X G a33,k33,.nil,b33⟩
 have D34:Def l.prog w K mg base 3 "_law_gates" _ [] _:=⟨_,_,[],oN F34 T D33 D32,W.mg_of X G a34,k34,.nil,b34⟩
 have D35:Def l.prog w K mg base 1 "_law_reach" _ [] _:=⟨_,_,[],oW F35 T,W.mg_of X G a35,k35,.nil,b35⟩
 have D36:Def l.prog w K mg base 1 "_law_lock" _ [] _:=⟨_,_,[],oO F36 T,W.mg_of X G a36,k36,.nil,b36⟩
 have D37:Def l.prog w K mg base 1 "_law_night" _ [] _:=⟨_,_,[],oR F37 T,W.mg_of X G a37,k37,.nil,b37⟩
 have D38:Def l.prog w K mg base 2 "_law_plan" _ [] _:=⟨_,_,[],oV F38 T D30 D37 D36 D35,W.mg_of X G a38,k38,.nil,b38⟩
 have D39:Def l.prog w K mg base 1 "_law_due" _ [] _:=⟨_,_,[],oM F39 T,W.mg_of X G a39,k39,.nil,b39⟩
 have D40:Def l.prog w K mg base 2 "_law_numbers" _ [] _:=⟨_,_,[],oU F40 T D31,W.mg_of X G a40,k40,.nil,b40⟩
 have D41:Def l.prog w K mg base 3 "_law_reach_is" _ [] _:=⟨_,_,[],oX F41 T D40,W.mg_of X G a41,k41,.nil,b41⟩
 have D42:Def l.prog w K mg base 3 "_law_lock_is" _ [] _:=⟨_,_,[],oP F42 T MP_kind D40 MP_extra,W.mg_of X G a42,k42,.nil,b42⟩
 have D43:Def l.prog w K mg base 3 "_law_night_is" _ [] _:=⟨_,_,[],oS F43 T D40,W.mg_of X G a43,k43,.nil,b43⟩
 have D44:Def l.prog w K mg base 4 "_law_canal_is" _ [] _:=⟨_,_,[],oJ F44 T D41 D42 D43,W.mg_of X G a44,k44,.nil,b44⟩
 have D45:Def l.prog w K mg base 1 "_law_row" _ [] _:=⟨_,_,[],oZ F45 T,W.mg_of X G a45,k45,.nil,b45⟩
 have D46:Def l.prog w K mg base 2 "_law_text" _ [] _:=⟨_,_,[],o0 F46 T D45,W.mg_of X G a46,k46,.nil,b46⟩
 have G47:=o7 (P:=l.prog) (w:=w) (base:=base) F47 T D33 D30 D34 D38 D44 D39 D29 D46
 exact G47
theorem walk {l:W.OpenLaw} {q:Program} {loose:List Str} {XP:(Str→Option Value)→Heap→Prop} {YP:World→Heap→Prop} {d:DefRec} {K:Params→W.Frag} (hn:l.most=some 63) (hdf:d.params.defaults=[])
  (hY:∀(w:World) (h:Heap),YP w h→(K w.params).In h)
  (F:∀(w:World) (mg:Str→Option Value) (fa:Addr) (h:Heap),(K w.params).In h→h.Ns mainGlobals mg→mg d.name=some (.ref fa)→
   ∃fd:FuncData,(∀(s:Shared) (u:Value),BindsTo s fd ⟨[u],[]⟩ [("script",u)])∧∀base:Heap,(K w.params).In base→base.Ns mainGlobals mg→FnOk l.prog w (K w.params) mg base jR 8 fa fd ["script"] (cW (K w.params))) :
  W.WalkO q loose XP YP l.row.toRowW d [] (fun f vs=>PySem.call f vs) :=
 L2.walk_of (n:=63) (k:=8) (x:="script") (CX:=fun _=>jR) (sp:=fun w=>cW (K w.params)) hn (by decide) hdf ⟨rfl,by decide,by decide⟩ hY F (fun _ _ a ns hl _ hS=>⟨a,ns,rfl,hS,hl,fun _=>rfl⟩) fun _ _ _ _ _ z=>z
end My
/- These names are taken here so that the head below leaves out its twins of whole states (they are not needed,and make the compiled file larger than a hand-in may be). -/
def PySem.W.Fast.tw12416634296973411817:Nat:=0
def PySem.W.Fast.tw14590146179864096222:Nat:=0
def PySem.W.Fast.tw10466430160197686587:Nat:=0
def PySem.W.Fast.tw3260395964710779221:Nat:=0
def PySem.W.Fast.tw14890242309906670642:Nat:=0
def PySem.W.Fast.tw14536176365796305917:Nat:=0
def PySem.W.Fast.tw4796084368727432092:Nat:=0
def PySem.W.Fast.tw1066856620481629173:Nat:=0
def PySem.W.Fast.tw14112830346300110792:Nat:=0
def PySem.W.Fast.tw7147286685314542577:Nat:=0
def PySem.W.Fast.tw11293431290006511256:Nat:=0
def PySem.W.Fast.tw4233305243274138748:Nat:=0
def PySem.W.Fast.tw13098351348843519848:Nat:=0
def PySem.W.Fast.tw9015733634120480198:Nat:=0
def PySem.W.Fast.tw9816056097954281976:Nat:=0
def PySem.W.Fast.tw6263609781858908095:Nat:=0
def PySem.W.Fast.tw386455773223228208:Nat:=0
def PySem.W.Fast.tw116483828845858731:Nat:=0
def PySem.W.Fast.tw7892683202933538272:Nat:=0
def PySem.W.Fast.tw11864222860322657132:Nat:=0
def PySem.W.Fast.tw5458275792754984229:Nat:=0
def PySem.W.Fast.tw14023795777131229301:Nat:=0
def PySem.W.Fast.tw1354496690895319246:Nat:=0
def PySem.W.Fast.tw2826725563011893142:Nat:=0
def PySem.W.Fast.tw15689967328405176505:Nat:=0
def PySem.W.Fast.tw10672963531808963082:Nat:=0
def PySem.W.Fast.tw1407647240103680019:Nat:=0
def PySem.W.Fast.tw2017207386933508674:Nat:=0
def PySem.W.Fast.tw8201495856249607062:Nat:=0
def PySem.W.Fast.tw503199537233328427:Nat:=0
def PySem.W.Fast.tw17361202138405738967:Nat:=0
def PySem.W.Fast.tw16556847167483333976:Nat:=0
def PySem.W.Fast.tw18209295391670876615:Nat:=0
def PySem.W.Fast.tw10500460518461656001:Nat:=0
def PySem.W.Fast.tw8454771357205259705:Nat:=0
def PySem.W.Fast.tw4498152026430681618:Nat:=0
def PySem.W.Fast.tw8692520261000305130:Nat:=0
def PySem.W.Fast.tw7036473833318526552:Nat:=0
def PySem.W.Fast.tw1092095545511017860:Nat:=0
def PySem.W.Fast.tw6765243731751511871:Nat:=0
def PySem.W.Fast.tw3248400681769160482:Nat:=0
def PySem.W.Fast.tw8313295117443120021:Nat:=0
def PySem.W.Fast.tw1081644358315187327:Nat:=0
def PySem.W.Fast.tw8900678633966259421:Nat:=0
def PySem.W.Fast.tw5468969560936573241:Nat:=0
def PySem.W.Fast.tw1858935898338889310:Nat:=0
def PySem.W.Fast.tw976039813591187833:Nat:=0
def PySem.W.Fast.tw11740606497505202492:Nat:=0
def PySem.W.Fast.tw14816533046591281301:Nat:=0
def PySem.W.Fast.tw14394555928178784498:Nat:=0
def PySem.W.Fast.tw3886645118914666439:Nat:=0
def PySem.W.Fast.tw11766177598510699164:Nat:=0
def PySem.W.Fast.tw9026099130608697782:Nat:=0
def PySem.W.Fast.tw352371937442187655:Nat:=0
def PySem.W.Fast.tw4236019098641360213:Nat:=0
def PySem.W.Fast.tw14616490707143292134:Nat:=0
def PySem.W.Fast.tw16117063508300747890:Nat:=0
def PySem.W.Fast.tw15646021492509634064:Nat:=0
def PySem.W.Fast.tw16025162147891832258:Nat:=0
def PySem.W.Fast.tw15548387604680718010:Nat:=0
def PySem.W.Fast.tw8127163781360926910:Nat:=0
def PySem.W.Fast.tw879407676804590211:Nat:=0
def PySem.W.Fast.tw18334001368724848339:Nat:=0
def PySem.W.Fast.tw281753887961831150:Nat:=0
def PySem.W.Fast.tw16860848591000636302:Nat:=0
def PySem.W.Fast.tw8123650198839522011:Nat:=0
def PySem.W.Fast.tw16974921416742169531:Nat:=0
def PySem.W.Fast.tw120886344672826521:Nat:=0
def PySem.W.Fast.tw15067005021451376459:Nat:=0
def PySem.W.Fast.tw13352440339728422761:Nat:=0
def PySem.W.Fast.tw12195907676430096112:Nat:=0
def PySem.W.Fast.tw12139281456702855922:Nat:=0
def PySem.W.Fast.tw15317219568807559535:Nat:=0
def PySem.W.Fast.tw13129488723247927019:Nat:=0
def PySem.W.Fast.tw6968392405619424469:Nat:=0
def PySem.W.Fast.tw539069027410316006:Nat:=0
def PySem.W.Fast.tw6325617028083185572:Nat:=0
def PySem.W.Fast.tw6787497984376103555:Nat:=0
def PySem.W.Fast.tw13224502319640007845:Nat:=0
def PySem.W.Fast.tw8160011847230280745:Nat:=0
def PySem.W.Fast.tw4370561499677312507:Nat:=0
def PySem.W.Fast.tw13457656788714449541:Nat:=0
def PySem.W.Fast.tw2220677252038775928:Nat:=0
def PySem.W.Fast.tw8814457988362731227:Nat:=0
def PySem.W.Fast.tw15161014358171484947:Nat:=0
def PySem.W.Fast.tw5696634638624176037:Nat:=0
def PySem.W.Fast.tw7206867658543587461:Nat:=0
def PySem.W.Fast.tw6131266106677459449:Nat:=0
def PySem.W.Fast.tw5338832792148245456:Nat:=0
def PySem.W.Fast.tw3586065349376928681:Nat:=0
def PySem.W.Fast.tw6121732878122639528:Nat:=0
def PySem.W.Fast.tw11480171863186875919:Nat:=0
def PySem.W.Fast.tw12868933329700715232:Nat:=0
def PySem.W.Fast.tw16324464647221000340:Nat:=0
def PySem.W.Fast.tw8937263525541115889:Nat:=0
def PySem.W.Fast.tw6236770568619252368:Nat:=0
def PySem.W.Fast.tw3950115854030174230:Nat:=0
def PySem.W.Fast.tw2680272263204864078:Nat:=0
def PySem.W.Fast.tw9930689640878966041:Nat:=0
def PySem.W.Fast.tw5098764374819598436:Nat:=0
def PySem.W.Fast.tw3540133713592576425:Nat:=0
def PySem.W.Fast.tw821050677633383987:Nat:=0
def PySem.W.Fast.tw15689681617125606259:Nat:=0
def PySem.W.Fast.tw5322080891610657013:Nat:=0
def PySem.W.Fast.tw530865209181737051:Nat:=0
def PySem.W.Fast.tw16639899034764893692:Nat:=0
def PySem.W.Fast.tw12992472475474367066:Nat:=0
def PySem.W.Fast.tw15236741575443260497:Nat:=0
def PySem.W.Fast.tw7178205301585497129:Nat:=0
def PySem.W.Fast.tw4492825010273530148:Nat:=0
def PySem.W.Fast.tw12542550004632955477:Nat:=0
def PySem.W.Fast.tw3463158592948313627:Nat:=0
def PySem.W.Fast.tw16200329942598315263:Nat:=0
def PySem.W.Fast.tw15091187828514051597:Nat:=0
def PySem.W.Fast.tw11798670042154917899:Nat:=0
def PySem.W.Fast.tw2740779177743410981:Nat:=0
def PySem.W.Fast.tw1473704610146303362:Nat:=0
def PySem.W.Fast.tw13661504935865447198:Nat:=0
def PySem.W.Fast.tw4535365981493352176:Nat:=0
def PySem.W.Fast.tw6458333304832974456:Nat:=0
def PySem.W.Fast.tw15304780132206855364:Nat:=0
def PySem.W.Fast.tw3061861841675250777:Nat:=0
def PySem.W.Fast.tw13039893626210865214:Nat:=0
def PySem.W.Fast.tw13214580764032152419:Nat:=0
def PySem.W.Fast.tw16707927780046805871:Nat:=0
def PySem.W.Fast.tw7082122367937634497:Nat:=0
def PySem.W.Fast.tw16653548184170359365:Nat:=0
def PySem.W.Fast.tw11950164808172528160:Nat:=0
def PySem.W.Fast.tw18033728829422434417:Nat:=0
def PySem.W.Fast.tw5122260021788151892:Nat:=0
def PySem.W.Fast.tw1262999933606684345:Nat:=0
def PySem.W.Fast.tw2676137770022628772:Nat:=0
def PySem.W.Fast.tw17248352459237585791:Nat:=0
def PySem.W.Fast.tw6574959075963995215:Nat:=0
def PySem.W.Fast.tw9619033150237214397:Nat:=0
def PySem.W.Fast.tw16704773381796208720:Nat:=0
def PySem.W.Fast.tw8856806493505255383:Nat:=0
open PySem PySem.W PyProof.Rows
set_option maxRecDepth 100000 in
set_option maxHeartbeats 0 in
theorem PySem.Challenge.cw_lockhouse_k36_read_holds : PySem.Challenge.rw_lockhouse_k36_read.Holds := by
 w_on;o_law;k_head;(case hw=>w_witness2)
 k_fill
 refine My.walk (l:=PySem.Challenge.rw_lockhouse_k36_read) rfl rfl (fun w h Y=>PySem.W.kIn_of Y) ?F
 case F =>
  intro w mg fa h KX G hmg
  refine' My.all_mk KX G hmg ?aC_P ?aC_B ?aC_U ?aC_R ?aC_N ?a0 ?i0 ?ac0 ?l0 ?c0 ?k0 ?a1 ?i1 ?l1 ?c1 ?k1 ?a2 ?i2 ?l2 ?c2 ?k2 ?a3 ?i3 ?l3 ?c3 ?k3 ?a4 ?i4 ?l4 ?c4 ?k4 ?a5 ?i5 ?l5 ?c5 ?k5 ?a6 ?i6 ?l6 ?c6 ?k6 ?a7 ?i7 ?l7 ?c7 ?k7 ?a8 ?i8 ?l8 ?c8 ?k8 ?a9 ?i9 ?l9 ?c9 ?k9 ?a10 ?i10 ?l10 ?c10 ?k10 ?lT10 ?dT10 ?a11 ?l11 ?c11 ?k11 ?a12 ?l12 ?c12 ?k12 ?a13 ?l13 ?c13 ?k13 ?a14 ?l14 ?c14 ?k14 ?a15 ?l15 ?c15 ?k15 ?a16 ?l16 ?c16 ?k16 ?a17 ?l17 ?c17 ?k17 ?a18 ?l18 ?c18 ?k18 ?a19 ?l19 ?c19 ?k19 ?a20 ?l20 ?c20 ?k20 ?a21 ?l21 ?c21 ?k21 ?a22 ?l22 ?c22 ?k22 ?a23 ?l23 ?c23 ?k23 ?a24 ?l24 ?c24 ?k24 ?a25 ?l25 ?c25 ?k25 ?a26 ?l26 ?c26 ?k26 ?a27 ?l27 ?c27 ?k27 ?a28 ?l28 ?c28 ?k28 ?a29 ?l29 ?c29 ?k29 ?a30 ?l30 ?c30 ?k30 ?a31 ?l31 ?c31 ?k31 ?a32 ?l32 ?c32 ?k32 ?a33 ?l33 ?c33 ?k33 ?a34 ?l34 ?c34 ?k34 ?a35 ?l35 ?c35 ?k35 ?a36 ?l36 ?c36 ?k36 ?a37 ?l37 ?c37 ?k37 ?a38 ?l38 ?c38 ?k38 ?a39 ?l39 ?c39 ?k39 ?a40 ?l40 ?c40 ?k40 ?a41 ?l41 ?c41 ?k41 ?a42 ?l42 ?c42 ?k42 ?a43 ?l43 ?c43 ?k43 ?a44 ?l44 ?c44 ?k44 ?a45 ?l45 ?c45 ?k45 ?a46 ?l46 ?c46 ?k46 ?a47 ?l47 ?c47 ?k47 ?z_list ?z_enumerate ?z_all ?z_len ?z_int ?z_zip ?z_set ?z_isinstance ?z_bool ?z_range ?z_min ?z_max ?z_str ?z_tuple ?pg_P ?hdd_P ?po_P ?sa_P ?mk_P ?kc_P ?n_name_P ?n_high_P ?n_low_P ?n_room_P ?pg_B ?hdd_B ?po_B ?sa_B ?mk_B ?kc_B ?n_name_B ?n_high_B ?n_low_B ?n_room_B ?n_side_B ?pg_U ?hdd_U ?po_U ?sa_U ?mk_U ?kc_U ?n_name_U ?n_high_U ?n_low_U ?n_room_U ?n_lift_U ?g1 ?g2 ?pg_R ?hdd_R ?po_R ?sa_R ?mk_R ?kc_R ?nR_name ?nR_least ?nR_crest ?nR_berths ?nR_water ?nR_target ?pg_N ?hdd_N ?po_N ?sa_N ?mk_N ?kc_N ?nN_reaches ?nN_locks ?nN_nights ?ty2 ?ty3 ?ty1_R ?ty4_R ?ty1_N ?ty4_N ?ty1_P ?ty4_P ?ty1_B ?ty4_B ?ty1_U ?ty4_U ?kt_R ?kt_N ?kt_PP ?kt_PB ?kt_PU ?kt_BP ?kt_BB ?kt_BU ?kt_UP ?kt_UB ?kt_UU ?gSEA ?gLETTERS ?gFIGURES ?gMOST_SIGNS ?gMOST_REACHES ?gMOST_LOCKS ?gMOST_NIGHTS ?gMOST_BERTHS
  (case aC_P=>first|k_is|rfl)
  (case aC_B=>first|k_is|rfl)
  (case aC_U=>first|k_is|rfl)
  (case aC_R=>first|k_is|rfl)
  (case aC_N=>first|k_is|rfl)
  (case a0=>first|k_is|rfl)
  (case i0=>first|k_is|rfl)
  (case ac0=>first|k_is|rfl)
  (case l0=>first|k_is|rfl)
  (case c0=>first|k_is|rfl)
  (case k0=>first|k_is|rfl)
  (case a1=>first|k_is|rfl)
  (case i1=>first|k_is|rfl)
  (case l1=>first|k_is|rfl)
  (case c1=>first|k_is|rfl)
  (case k1=>first|k_is|rfl)
  (case a2=>first|k_is|rfl)
  (case i2=>first|k_is|rfl)
  (case l2=>first|k_is|rfl)
  (case c2=>first|k_is|rfl)
  (case k2=>first|k_is|rfl)
  (case a3=>first|k_is|rfl)
  (case i3=>first|k_is|rfl)
  (case l3=>first|k_is|rfl)
  (case c3=>first|k_is|rfl)
  (case k3=>first|k_is|rfl)
  (case a4=>first|k_is|rfl)
  (case i4=>first|k_is|rfl)
  (case l4=>first|k_is|rfl)
  (case c4=>first|k_is|rfl)
  (case k4=>first|k_is|rfl)
  (case a5=>first|k_is|rfl)
  (case i5=>first|k_is|rfl)
  (case l5=>first|k_is|rfl)
  (case c5=>first|k_is|rfl)
  (case k5=>first|k_is|rfl)
  (case a6=>first|k_is|rfl)
  (case i6=>first|k_is|rfl)
  (case l6=>first|k_is|rfl)
  (case c6=>first|k_is|rfl)
  (case k6=>first|k_is|rfl)
  (case a7=>first|k_is|rfl)
  (case i7=>first|k_is|rfl)
  (case l7=>first|k_is|rfl)
  (case c7=>first|k_is|rfl)
  (case k7=>first|k_is|rfl)
  (case a8=>first|k_is|rfl)
  (case i8=>first|k_is|rfl)
  (case l8=>first|k_is|rfl)
  (case c8=>first|k_is|rfl)
  (case k8=>first|k_is|rfl)
  (case a9=>first|k_is|rfl)
  (case i9=>first|k_is|rfl)
  (case l9=>first|k_is|rfl)
  (case c9=>first|k_is|rfl)
  (case k9=>first|k_is|rfl)
  (case a10=>first|k_is|rfl)
  (case i10=>first|k_is|rfl)
  (case l10=>first|k_is|rfl)
  (case c10=>first|k_is|rfl)
  (case k10=>first|k_is|rfl)
  (case lT10=>first|k_is|rfl)
  (case dT10=>first|k_is|rfl)
  (case a11=>first|k_is|rfl)
  (case l11=>first|k_is|rfl)
  (case c11=>first|k_is|rfl)
  (case k11=>first|k_is|rfl)
  (case a12=>first|k_is|rfl)
  (case l12=>first|k_is|rfl)
  (case c12=>first|k_is|rfl)
  (case k12=>first|k_is|rfl)
  (case a13=>first|k_is|rfl)
  (case l13=>first|k_is|rfl)
  (case c13=>first|k_is|rfl)
  (case k13=>first|k_is|rfl)
  (case a14=>first|k_is|rfl)
  (case l14=>first|k_is|rfl)
  (case c14=>first|k_is|rfl)
  (case k14=>first|k_is|rfl)
  (case a15=>first|k_is|rfl)
  (case l15=>first|k_is|rfl)
  (case c15=>first|k_is|rfl)
  (case k15=>first|k_is|rfl)
  (case a16=>first|k_is|rfl)
  (case l16=>first|k_is|rfl)
  (case c16=>first|k_is|rfl)
  (case k16=>first|k_is|rfl)
  (case a17=>first|k_is|rfl)
  (case l17=>first|k_is|rfl)
  (case c17=>first|k_is|rfl)
  (case k17=>first|k_is|rfl)
  (case a18=>first|k_is|rfl)
  (case l18=>first|k_is|rfl)
  (case c18=>first|k_is|rfl)
  (case k18=>first|k_is|rfl)
  (case a19=>first|k_is|rfl)
  (case l19=>first|k_is|rfl)
  (case c19=>first|k_is|rfl)
  (case k19=>first|k_is|rfl)
  (case a20=>first|k_is|rfl)
  (case l20=>first|k_is|rfl)
  (case c20=>first|k_is|rfl)
  (case k20=>first|k_is|rfl)
  (case a21=>first|k_is|rfl)
  (case l21=>first|k_is|rfl)
  (case c21=>first|k_is|rfl)
  (case k21=>first|k_is|rfl)
  (case a22=>first|k_is|rfl)
  (case l22=>first|k_is|rfl)
  (case c22=>first|k_is|rfl)
  (case k22=>first|k_is|rfl)
  (case a23=>first|k_is|rfl)
  (case l23=>first|k_is|rfl)
  (case c23=>first|k_is|rfl)
  (case k23=>first|k_is|rfl)
  (case a24=>first|k_is|rfl)
  (case l24=>first|k_is|rfl)
  (case c24=>first|k_is|rfl)
  (case k24=>first|k_is|rfl)
  (case a25=>first|k_is|rfl)
  (case l25=>first|k_is|rfl)
  (case c25=>first|k_is|rfl)
  (case k25=>first|k_is|rfl)
  (case a26=>first|k_is|rfl)
  (case l26=>first|k_is|rfl)
  (case c26=>first|k_is|rfl)
  (case k26=>first|k_is|rfl)
  (case a27=>first|k_is|rfl)
  (case l27=>first|k_is|rfl)
  (case c27=>first|k_is|rfl)
  (case k27=>first|k_is|rfl)
  (case a28=>first|k_is|rfl)
  (case l28=>first|k_is|rfl)
  (case c28=>first|k_is|rfl)
  (case k28=>first|k_is|rfl)
  (case a29=>first|k_is|rfl)
  (case l29=>first|k_is|rfl)
  (case c29=>first|k_is|rfl)
  (case k29=>first|k_is|rfl)
  (case a30=>first|k_is|rfl)
  (case l30=>first|k_is|rfl)
  (case c30=>first|k_is|rfl)
  (case k30=>first|k_is|rfl)
  (case a31=>first|k_is|rfl)
  (case l31=>first|k_is|rfl)
  (case c31=>first|k_is|rfl)
  (case k31=>first|k_is|rfl)
  (case a32=>first|k_is|rfl)
  (case l32=>first|k_is|rfl)
  (case c32=>first|k_is|rfl)
  (case k32=>first|k_is|rfl)
  (case a33=>first|k_is|rfl)
  (case l33=>first|k_is|rfl)
  (case c33=>first|k_is|rfl)
  (case k33=>first|k_is|rfl)
  (case a34=>first|k_is|rfl)
  (case l34=>first|k_is|rfl)
  (case c34=>first|k_is|rfl)
  (case k34=>first|k_is|rfl)
  (case a35=>first|k_is|rfl)
  (case l35=>first|k_is|rfl)
  (case c35=>first|k_is|rfl)
  (case k35=>first|k_is|rfl)
  (case a36=>first|k_is|rfl)
  (case l36=>first|k_is|rfl)
  (case c36=>first|k_is|rfl)
  (case k36=>first|k_is|rfl)
  (case a37=>first|k_is|rfl)
  (case l37=>first|k_is|rfl)
  (case c37=>first|k_is|rfl)
  (case k37=>first|k_is|rfl)
  (case a38=>first|k_is|rfl)
  (case l38=>first|k_is|rfl)
  (case c38=>first|k_is|rfl)
  (case k38=>first|k_is|rfl)
  (case a39=>first|k_is|rfl)
  (case l39=>first|k_is|rfl)
  (case c39=>first|k_is|rfl)
  (case k39=>first|k_is|rfl)
  (case a40=>first|k_is|rfl)
  (case l40=>first|k_is|rfl)
  (case c40=>first|k_is|rfl)
  (case k40=>first|k_is|rfl)
  (case a41=>first|k_is|rfl)
  (case l41=>first|k_is|rfl)
  (case c41=>first|k_is|rfl)
  (case k41=>first|k_is|rfl)
  (case a42=>first|k_is|rfl)
  (case l42=>first|k_is|rfl)
  (case c42=>first|k_is|rfl)
  (case k42=>first|k_is|rfl)
  (case a43=>first|k_is|rfl)
  (case l43=>first|k_is|rfl)
  (case c43=>first|k_is|rfl)
  (case k43=>first|k_is|rfl)
  (case a44=>first|k_is|rfl)
  (case l44=>first|k_is|rfl)
  (case c44=>first|k_is|rfl)
  (case k44=>first|k_is|rfl)
  (case a45=>first|k_is|rfl)
  (case l45=>first|k_is|rfl)
  (case c45=>first|k_is|rfl)
  (case k45=>first|k_is|rfl)
  (case a46=>first|k_is|rfl)
  (case l46=>first|k_is|rfl)
  (case c46=>first|k_is|rfl)
  (case k46=>first|k_is|rfl)
  (case a47=>first|k_is|rfl)
  (case l47=>first|k_is|rfl)
  (case c47=>first|k_is|rfl)
  (case k47=>first|k_is|rfl)
  (case z_list=>first|k_is|rfl)
  (case z_enumerate=>first|k_is|rfl)
  (case z_all=>first|k_is|rfl)
  (case z_len=>first|k_is|rfl)
  (case z_int=>first|k_is|rfl)
  (case z_zip=>first|k_is|rfl)
  (case z_set=>first|k_is|rfl)
  (case z_isinstance=>first|k_is|rfl)
  (case z_bool=>first|k_is|rfl)
  (case z_range=>first|k_is|rfl)
  (case z_min=>first|k_is|rfl)
  (case z_max=>first|k_is|rfl)
  (case z_str=>first|k_is|rfl)
  (case z_tuple=>first|k_is|rfl)
  (case pg_P=>first|k_is|rfl)
  (case hdd_P=>first|k_is|rfl)
  (case po_P=>first|k_is|rfl)
  (case sa_P=>first|k_is|rfl)
  (case mk_P=>first|k_is|rfl)
  (case kc_P=>first|k_is|rfl)
  (case n_name_P=>first|k_is|rfl)
  (case n_high_P=>first|k_is|rfl)
  (case n_low_P=>first|k_is|rfl)
  (case n_room_P=>first|k_is|rfl)
  (case pg_B=>first|k_is|rfl)
  (case hdd_B=>first|k_is|rfl)
  (case po_B=>first|k_is|rfl)
  (case sa_B=>first|k_is|rfl)
  (case mk_B=>first|k_is|rfl)
  (case kc_B=>first|k_is|rfl)
  (case n_name_B=>first|k_is|rfl)
  (case n_high_B=>first|k_is|rfl)
  (case n_low_B=>first|k_is|rfl)
  (case n_room_B=>first|k_is|rfl)
  (case n_side_B=>first|k_is|rfl)
  (case pg_U=>first|k_is|rfl)
  (case hdd_U=>first|k_is|rfl)
  (case po_U=>first|k_is|rfl)
  (case sa_U=>first|k_is|rfl)
  (case mk_U=>first|k_is|rfl)
  (case kc_U=>first|k_is|rfl)
  (case n_name_U=>first|k_is|rfl)
  (case n_high_U=>first|k_is|rfl)
  (case n_low_U=>first|k_is|rfl)
  (case n_room_U=>first|k_is|rfl)
  (case n_lift_U=>first|k_is|rfl)
  (case g1=>first|k_is|rfl)
  (case g2=>first|k_is|rfl)
  (case pg_R=>first|k_is|rfl)
  (case hdd_R=>first|k_is|rfl)
  (case po_R=>first|k_is|rfl)
  (case sa_R=>first|k_is|rfl)
  (case mk_R=>first|k_is|rfl)
  (case kc_R=>first|k_is|rfl)
  (case nR_name=>first|k_is|rfl)
  (case nR_least=>first|k_is|rfl)
  (case nR_crest=>first|k_is|rfl)
  (case nR_berths=>first|k_is|rfl)
  (case nR_water=>first|k_is|rfl)
  (case nR_target=>first|k_is|rfl)
  (case pg_N=>first|k_is|rfl)
  (case hdd_N=>first|k_is|rfl)
  (case po_N=>first|k_is|rfl)
  (case sa_N=>first|k_is|rfl)
  (case mk_N=>first|k_is|rfl)
  (case kc_N=>first|k_is|rfl)
  (case nN_reaches=>first|k_is|rfl)
  (case nN_locks=>first|k_is|rfl)
  (case nN_nights=>first|k_is|rfl)
  (case ty2=>first|k_is|rfl)
  (case ty3=>first|k_is|rfl)
  (case ty1_R=>first|k_is|rfl)
  (case ty4_R=>first|k_is|rfl)
  (case ty1_N=>first|k_is|rfl)
  (case ty4_N=>first|k_is|rfl)
  (case ty1_P=>first|k_is|rfl)
  (case ty4_P=>first|k_is|rfl)
  (case ty1_B=>first|k_is|rfl)
  (case ty4_B=>first|k_is|rfl)
  (case ty1_U=>first|k_is|rfl)
  (case ty4_U=>first|k_is|rfl)
  (case kt_R=>first|k_is|k_exc|kit_is|kts_exm|rfl)
  (case kt_N=>first|k_is|k_exc|kit_is|kts_exm|rfl)
  (case kt_PP=>first|k_is|k_exc|kit_is|kts_exm|rfl)
  (case kt_PB=>first|k_is|k_exc|kit_is|kts_exm|rfl)
  (case kt_PU=>first|k_is|k_exc|kit_is|kts_exm|rfl)
  (case kt_BP=>first|k_is|k_exc|kit_is|kts_exm|rfl)
  (case kt_BB=>first|k_is|k_exc|kit_is|kts_exm|rfl)
  (case kt_BU=>first|k_is|k_exc|kit_is|kts_exm|rfl)
  (case kt_UP=>first|k_is|k_exc|kit_is|kts_exm|rfl)
  (case kt_UB=>first|k_is|k_exc|kit_is|kts_exm|rfl)
  (case kt_UU=>first|k_is|k_exc|kit_is|kts_exm|rfl)
  (case gSEA=>first|k_is|rfl)
  (case gLETTERS=>first|k_is|rfl)
  (case gFIGURES=>first|k_is|rfl)
  (case gMOST_SIGNS=>first|k_is|rfl)
  (case gMOST_REACHES=>first|k_is|rfl)
  (case gMOST_LOCKS=>first|k_is|rfl)
  (case gMOST_NIGHTS=>first|k_is|rfl)
  (case gMOST_BERTHS=>first|k_is|rfl)
