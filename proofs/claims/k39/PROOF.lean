import PyProof.Rows.All
import Wide.All
import OpenK.AllK
import Wide.FinOn
import Lean
import PyProof.EqAt
import PyProof.EqKinds
import PyProof.TupleCall
import PyProof.NeKinds
import OpenK.KOwn
import KE.KTryMore
import KE.RegKTryMore
import PyProof.NsDelKeeps
import KE.KIntText
import PySem.Challenge.RW_lockhouse_k39_whole_shown_and_read
set_option Elab.async false
set_option linter.all false
set_option maxRecDepth 100000
namespace L2
open PySem PySem.Spec PyProof.Rows
abbrev qG:=Sum Int Str
def tF:qG→Value→Bool
 |.inl k,v=>Value.isInt k v
 |.inr x,v=>Value.isStrOf x v
def K2 (w:World):qG→Int
 |.inl k=>hashInt k
 |.inr x=>hashStr w x
theorem zP:∀{k:qG} {v:Value},tF k v=true→(∃i t,k=Sum.inl i∧v=Value.int i t)∨(∃x t,k=Sum.inr x∧v=Value.str x t)
 |.inl i,v,h=>by
  obtain ⟨t,e⟩:=Value.isInt_shape (k:=i) (v:=v) h
  exact .inl ⟨i,t,rfl,e⟩
 |.inr x,v,h=>by
  obtain ⟨t,e⟩:=Value.isStrOf_shape (x:=x) (v:=v) h
  exact .inr ⟨x,t,rfl,e⟩
theorem HX (a b:Int):decide ((Sum.inl a:qG)=Sum.inl b)=(a == b):=by
 by_cases e:a=b
 ·subst e;simp
 ·have h:¬(Sum.inl a:qG)=Sum.inl b:=fun q=>e (Sum.inl.inj q)
  rw [decide_eq_false h]
  exact (beq_eq_false_iff_ne.mpr e).symm
theorem HU (a b:Str):decide ((Sum.inr a:qG)=Sum.inr b)=decide (a=b):=by
 by_cases e:a=b
 ·subst e;simp
 ·have h:¬(Sum.inr a:qG)=Sum.inr b:=fun q=>e (Sum.inr.inj q)
  rw [decide_eq_false h,decide_eq_false e]
theorem HW (a:Int) (b:Str):decide ((Sum.inl a:qG)=Sum.inr b)=false:=decide_eq_false (fun q=>nomatch q)
theorem HV (a:Str) (b:Int):decide ((Sum.inr a:qG)=Sum.inl b)=false:=decide_eq_false (fun q=>nomatch q)
def i4 (prog:Program) (w:World):PySem.KeyKind prog w qG where
 is:=tF
 hash:=K2 w
 inj:=fun v a b ha hb=>by
  rcases zP ha with ⟨i,t,rfl,rfl⟩|⟨x,t,rfl,rfl⟩
  ·rcases zP hb with ⟨j,u,rfl,e⟩|⟨y,u,rfl,e⟩
   ·injection e with e1 _;rw [e1]
   ·exact nomatch e
  ·rcases zP hb with ⟨j,u,rfl,e⟩|⟨y,u,rfl,e⟩
   ·exact nomatch e
   ·injection e with e1 _;rw [e1]
 byValue:=fun k v h=>by
  rcases zP h with ⟨i,t,rfl,rfl⟩|⟨x,t,rfl,rfl⟩<;>rfl
 pyHash:=fun hv h=>by
  rcases zP hv with ⟨i,t,rfl,rfl⟩|⟨x,t,rfl,rfl⟩
  ·exact wpAny_pyHash_int h
  ·exact wpAny_pyHash_str h
 eqBool:=fun hu hv h=>by
  rcases zP hu with ⟨i,t,rfl,rfl⟩|⟨x,t,rfl,rfl⟩
  ·rcases zP hv with ⟨j,u,rfl,rfl⟩|⟨y,u,rfl,rfl⟩
   ·rw [HX] at h;exact wpAny_eqBool_int h
   ·rw [HW] at h;exact SeqAt.EqAt.int_str i t y u _ _ _ _ h
  ·rcases zP hv with ⟨j,u,rfl,rfl⟩|⟨y,u,rfl,rfl⟩
   ·rw [HV] at h;exact SeqAt.EqAt.str_int x t j u _ _ _ _ h
   ·rw [HU] at h;exact wpAny_eqBool_str h
 «strs»:=fun k x t v h=>by
  rcases zP h with ⟨i,u,rfl,e⟩|⟨y,u,rfl,e⟩
  ·exact nomatch e
  ·injection e with e1 _
   subst e1
   cases v<;>rfl
end L2
namespace L2
open PySem PySem.Spec PyProof.Rows
inductive V where
 |non|bl (b:Bool)|int (i:Int)|str (x:Str)|byt (b:Array UInt8)|flt (b:UInt64)|ref (a:Addr)|ty (n:String)
 deriving DecidableEq
def RelV:V→Value→Prop
 |.non,u=>u=Value.none
 |.bl b,u=>u=Value.bool b
 |.int i,u=>∃t,u=Value.int i t
 |.str x,u=>∃t,u=Value.str x t
 |.byt b,u=>∃t,u=Value.bytes b t
 |.flt b,u=>∃t,u=Value.float b t
 |.ref a,u=>u=Value.ref a
 |.ty n,u=>u=Value.type n
abbrev Vals:List V→List Value→Prop:=Paired RelV
theorem Vals.length {xs:List V} {us:List Value} (r:Vals xs us):xs.length=us.length:=Paired.length r
theorem Vals.get:∀{xs:List V} {us:List Value} {i:Nat} {x:V},Vals xs us→xs[i]?=some x→∃u,us[i]?=some u∧RelV x u
 |_,_,_,_,.nil,e=>by simp at e
 |_,_,0,_,.cons r _,e=>by simp at e;subst e;exact ⟨_,rfl,r⟩
 |_,_,i+1,x,.cons _ t,e=>by
  obtain ⟨u,h1,h2⟩:=Vals.get (i:=i) (x:=x) t (by simpa using e)
  exact ⟨u,by simpa using h1,h2⟩
theorem Vals.set {x:V} {u:Value} (r:RelV x u):∀{xs:List V} {us:List Value} (i:Nat),Vals xs us→Vals (xs.set i x) (us.set i u)
 |_,_,_,.nil=>.nil
 |_,_,0,.cons _ t=>.cons r t
 |_,_,i+1,.cons q t=>.cons q (Vals.set r i t)
theorem Vals.append:∀{xs ys:List V} {us ws:List Value},Vals xs us→Vals ys ws→Vals (xs++ys) (us++ws)
 |_,_,_,_,.nil,s=>s
 |_,_,_,_,.cons r t,s=>.cons r (Vals.append t s)
theorem Vals.take:∀{xs:List V} {us:List Value} (n:Nat),Vals xs us→Vals (xs.take n) (us.take n)
 |_,_,0,_=>.nil
 |_,_,_+1,.nil=>.nil
 |_,_,n+1,.cons r t=>.cons r (Vals.take n t)
theorem Vals.drop:∀{xs:List V} {us:List Value} (n:Nat),Vals xs us→Vals (xs.drop n) (us.drop n)
 |_,_,0,r=>r
 |_,_,_+1,.nil=>.nil
 |_,_,n+1,.cons _ t=>Vals.drop n t
def RelO:Option V→Option Value→Prop
 |some v,some u=>RelV v u
 |none,none=>True
 |_,_=>False
def KV {κ:Type}:List (κ×V)→List (κ×Value)→Prop:=Paired fun (p:κ×V) (q:κ×Value)=>p.1=q.1∧RelV p.2 q.2
def kV:qG→V
 |.inl i=>.int i
 |.inr x=>.str x
inductive HO where
 /-- a list -/
 |lst (xs:List V)
 /-- a tuple (never changes) -/
 |tup (xs:List V)
 /-- a dict whose keys are ints and texts;one whose keys are tuples of ints and texts (the empty one is both) -/
 |dK (kvs:List (qG×V))|dT (kvs:List (List qG×V))
 /-- a set of ints: its members,its size -/
 |set (S:Int→Bool) (n:Nat)
 /-- an instance of the class at C,its dict at dx,its attributes -/
 |ins (C dx:Addr) (fs:List (Str×V))
 /-- the dict of the instance at x -/
 |own (x:Addr)
 /-- the dict of an exception -/
 |xd (fs:List (Str×V))
 /-- a bound method,f of x -/
 |met (f x:Addr)
 /-- a range object lo,lo+1,.. below hi -/
 |rng (lo hi:Int)
 /-- a thing that is known to the object (the script;a dict while a loop walks it): read,never written while it is so -/
 |frz (o:Obj) (u:HO)
 /-- a code object's table -/
 |tbl (ps:Array Value)
 /-- any other thing,by what is true of its one object (a def of one's own: SetO a S n:=HO.ext fun h=>..) -/
 |ext (φ:Heap→Prop)
abbrev Hp:=Addr→Option HO
def upd (H:Hp) (a:Addr) (o:HO):Hp:=fun b=>if b=a then some o else H b
theorem jD {H:Hp} {a:Addr} {o:HO}:upd H a o a=some o:=by unfold upd;rw [if_pos rfl]
theorem kC {H:Hp} {a b:Addr} {o:HO} (h:b≠a):upd H a o b=H b:=by unfold upd;rw [if_neg h]
theorem v9 {H:Hp} {a b:Addr} {o u:HO} (h:H a=some o) (h':H b=some u) (d:o≠u):a≠b:=by
 intro e;subst e;rw [h] at h';exact d (Option.some.inj h')
theorem kE {H:Hp} {a b:Addr} {o:HO} (h:H a=some o) (h':H b=none):a≠b:=by
 intro e;subst e;rw [h] at h';cases h'
section
variable (P:Program) (w:World)
def ObjOk (H:Hp) (h:Heap) (a:Addr):HO→Prop
 |.lst xs=>xs.length≤sizeLine∧∃(its:List Value) (n:Nat),Vals xs its∧h.get? a=some {cls:=.type "list",data:=.seq its.toArray n}
 |.tup xs=>xs.length≤sizeLine∧∃its:List Value,Vals xs its∧IsTup h a its.toArray
 |.dK kvs=>kvs.length≤sizeLine∧(a == sysModules)=false∧∃vs,KV kvs vs∧h.DictOf (i4 P w) a vs
 |.dT kvs=>kvs.length≤sizeLine∧(a == sysModules)=false∧∃xs:List (List qG×Addr×Value),
   Paired (fun (p:List qG×V) (q:List qG×Addr×Value)=>p.1=q.1∧H q.2.1=some (.tup (p.1.map kV))∧RelV p.2 q.2.2) kvs xs∧
   ∃o es ep,h.get? a=some o∧o.ExactDict∧o.data=.dict es ep∧es.toList=xs.map (entryOfKey (tupleKind (i4 P w)))∧(xs.map (·.1)).Nodup
 |.set S n=>h.SetOf (intKind P w) a S n
 |.ins C dx fs=>H dx=some (.own a)∧fs.length≤1000∧dx≠a∧h.get? a=some (PySem.W.instObj C dx)∧
   ∃mA,h.Ns1 dx mA∧(∀f,RelO (fs.lookup f) (mA f))∧PySem.Within mA (fs.map (·.1))
 |.own _=>∃o,h.get? a=some o
 |.xd fs=>∃mA,h.Ns1 a mA∧∀f,RelO (fs.lookup f) (mA f)
 |.rng lo hi=>∃t u v,h.get? a=some {cls:=.type "range",data:=.fields #[.int lo t,.int hi u,.int 1 v]}
 |.frz o u=>h.get? a=some o∧ObjOk H h a u
 |.tbl ps=>h.get? a=some {cls:=.none,data:=.fields ps}
 |.met f x=>h.get? a=some (PySem.W.methodObj (.ref f) (.ref x))
 |.ext φ=>φ h∧(∃o,h.get? a=some o)∧∀h1 h2:Heap,φ h1→(∀o,h1.get? a=some o→h2.get? a=some o)→φ h2
def HOk (H:Hp) (h:Heap):Prop:=∀a o,H a=some o→ObjOk P w H h a o
end
section
variable {P:Program} {w:World} {H H':Hp} {h h':Heap} {a:Addr} {o:HO}
theorem ObjOk.lt (x:ObjOk P w H h a o):a<h.objs.size:=by
 cases o with
 |lst xs=>obtain ⟨_,_,_,_,e⟩:=x;exact Heap.lt_size e
 |tup xs=>obtain ⟨_,_,_,p⟩:=x;exact p.lt
 |dK kvs=>obtain ⟨_,_,_,_,o,_,_,e,_⟩:=x;exact Heap.lt_size e
 |dT kvs=>obtain ⟨_,_,_,_,o,_,_,e,_⟩:=x;exact Heap.lt_size e
 |set S n=>obtain ⟨o,_,_,_,e,_⟩:=x;exact Heap.lt_size e
 |ins C dx fs=>obtain ⟨_,_,_,e,_⟩:=x;exact Heap.lt_size e
 |own y=>obtain ⟨_,e⟩:=x;exact Heap.lt_size e
 |xd fs=>obtain ⟨_,⟨_,_,_,e,_⟩,_⟩:=x;exact Heap.lt_size e
 |rng lo hi=>obtain ⟨_,_,_,e⟩:=x;exact Heap.lt_size e
 |frz ob u=>obtain ⟨e,_⟩:=x;exact Heap.lt_size e
 |tbl ps=>exact Heap.lt_size (show h.get? a=some _ from x)
 |met f y=>exact Heap.lt_size (show h.get? a=some _ from x)
 |ext φ=>obtain ⟨_,⟨_,e⟩,_⟩:=x;exact Heap.lt_size e
theorem Paired.mapP {α β:Type} {F G:α→β→Prop}:∀{l₁:List α} {l₂:List β},Paired F l₁ l₂→(∀a b,F a b→G a b)→Paired G l₁ l₂
 |_,_,.nil,_=>.nil
 |_,_,.cons r t,f=>.cons (f _ _ r) (Paired.mapP t f)
theorem ObjOk.stay (x:ObjOk P w H h a o) (k:∀b u,(b=a∨H b=some (.own a))→h.get? b=some u→h'.get? b=some u)
  (ho:∀b,H b=some (.own a)→H' b=some (.own a)) (ht:∀b xs,H b=some (.tup xs)→H' b=some (.tup xs)):ObjOk P w H' h' a o:=by
 induction o with
 |lst xs=>obtain ⟨z,its,n,r,e⟩:=x;exact ⟨z,its,n,r,k _ _ (.inl rfl) e⟩
 |tup xs=>obtain ⟨z,its,r,ob,e,c⟩:=x;exact ⟨z,its,r,ob,k _ _ (.inl rfl) e,c⟩
 |dK kvs=>obtain ⟨z,y,vs,r,ob,es,ep,e,c⟩:=x;exact ⟨z,y,vs,r,ob,es,ep,k _ _ (.inl rfl) e,c⟩
 |dT kvs =>
  obtain ⟨z,y,xs,r,ob,es,ep,e,c⟩:=x
  exact ⟨z,y,xs,Paired.mapP r fun p q z=>⟨z.1,ht _ _ z.2.1,z.2.2⟩,ob,es,ep,k _ _ (.inl rfl) e,c⟩
 |set S n=>obtain ⟨ob,es,ep,t,e,c⟩:=x;exact ⟨ob,es,ep,t,k _ _ (.inl rfl) e,c⟩
 |ins C dx fs =>
  obtain ⟨d,z,ne,e,mA,⟨od,es,ep,e2,c⟩,r⟩:=x
  exact ⟨ho _ d,z,ne,k _ _ (.inl rfl) e,mA,⟨od,es,ep,k _ _ (.inr d) e2,c⟩,r⟩
 |own y=>obtain ⟨ob,e⟩:=x;exact ⟨ob,k _ _ (.inl rfl) e⟩
 |xd fs=>obtain ⟨mA,⟨od,es,ep,e,c⟩,r⟩:=x;exact ⟨mA,⟨od,es,ep,k _ _ (.inl rfl) e,c⟩,r⟩
 |rng lo hi=>obtain ⟨t,u,v,e⟩:=x;exact ⟨t,u,v,k _ _ (.inl rfl) e⟩
 |frz ob u ih=>obtain ⟨e,q⟩:=x;exact ⟨k _ _ (.inl rfl) e,ih q⟩
 |tbl ps =>
  have e:h.get? a=some {cls:=.none,data:=.fields ps}:=x
  show h'.get? a=some {cls:=.none,data:=.fields ps}
  exact k a _ (.inl rfl) e
 |met f y =>
  have e:h.get? a=some (PySem.W.methodObj (.ref f) (.ref y)):=x
  show h'.get? a=some (PySem.W.methodObj (.ref f) (.ref y))
  exact k a _ (.inl rfl) e
 |ext φ=>obtain ⟨p,⟨o,e⟩,st⟩:=x;exact ⟨st _ _ p fun o q=>k _ _ (.inl rfl) q,⟨o,k _ _ (.inl rfl) e⟩,st⟩
theorem HOk.lt (x:HOk P w H h) (e:H a=some o):a<h.objs.size:=(x a o e).lt
theorem HOk.fresh (x:HOk P w H h) (e:h.objs.size≤a):H a=none:=by
 cases q:H a with
 |none=>rfl
 |some u=>exact absurd (Nat.lt_of_lt_of_le (x.lt q) e) (Nat.lt_irrefl _)
theorem HOk.kept (x:HOk P w H h) (k:∀b u,h.get? b=some u→h'.get? b=some u):HOk P w H h':=fun a o e =>
 (x a o e).stay (fun b u _ q=>k b u q) (fun _ q=>q) fun _ _ q=>q
theorem HOk.laid (x:HOk P w H h) (k:∀b u,h.get? b=some u→h'.get? b=some u) (hp:h.objs.size≤a) (new:ObjOk P w (upd H a o) h' a o):HOk P w (upd H a o) h':=fun b u e=>by
 have hn:=x.fresh hp
 by_cases hb:b=a
 ·subst hb;rw [jD] at e;cases e;exact new
 ·rw [kC hb] at e
  exact (x b u e).stay (fun c v _ q=>k c v q) (fun c q=>by rw [kC (kE q hn)];exact q) fun c xs q=>by rw [kC (kE q hn)];exact q
end
def Rd (H:Hp) (a:Addr) (u:HO):Prop:=H a=some u∨∃o,H a=some (.frz o u)
theorem Rd.of {H:Hp} {a:Addr} {u:HO} (h:H a=some u):Rd H a u:=.inl h
theorem Rd.ok {P:Program} {w:World} {H:Hp} {h:Heap} {a:Addr} {u:HO} (r:Rd H a u) (x:HOk P w H h):ObjOk P w H h a u:=by
 rcases r with r|⟨o,r⟩
 ·exact x a u r
 ·obtain ⟨_,q⟩:=x a _ r
  exact q
def gB:Option HO→Prop
 |some (.lst _)=>True
 |some (.dK _)=>True
 |some (.dT _)=>True
 |some (.set _ _)=>True
 |some (.ins _ _ _)=>True
 |some (.ext _)=>True
 |_=>False
section
variable {P:Program} {w:World} {H:Hp} {h h':Heap} {x e:Addr} {o':HO}
theorem HOk.write (ok:HOk P w H h) (mu:gB (H x)) (he:e=x∨H e=some (.own x)) (k:∀b u,b≠e→h.get? b=some u→h'.get? b=some u) (heo:∃u,h'.get? e=some u)
  (new:ObjOk P w (upd H x o') h' x o'):HOk P w (upd H x o') h':=fun b u q=>by
 have nown:∀c y,H c=some (.own y)→c≠x:=fun c y r z=>by subst z;rw [r] at mu;exact mu
 have ntup:∀c xs,H c=some (.tup xs)→c≠x:=fun c xs r z=>by subst z;rw [r] at mu;exact mu
 by_cases hb:b=x
 ·subst hb;rw [jD] at q;cases q;exact new
 ·rw [kC hb] at q
  by_cases hbe:b=e
  ·have q':H b=some (.own x):=by
    rcases he with z|z
    ·exact absurd (hbe.trans z) hb
    ·rw [hbe];exact z
   rw [q] at q';cases q'
   obtain ⟨v,hv⟩:=heo
   exact ⟨v,by rw [hbe];exact hv⟩
  ·refine (ok b u q).stay (fun c v hc r=>k c v ?_ r) (fun c r=>by rw [kC (nown c b r)];exact r) fun c xs r=>by rw [kC (ntup c xs r)];exact r
   rcases hc with rfl|hc
   ·exact hbe
   ·rintro rfl
    rcases he with z|z
    ·exact nown c b hc z
    ·rw [hc] at z;cases z;exact hb rfl
end
structure Un (fs ex:List Addr) (H H':Hp) (h h':Heap):Prop where
 keep:∀b o,h.get? b=some o→H b=none→b∉fs→b∉ex→h'.get? b=some o
 slot:∀b o,h.get? b=some o→H b=none→b∈fs→b∉ex→∃sl,h'.get? b=some {o with slots:=sl}
 free:∀b o,h.get? b=some o→H b=none→b∉ex→H' b=none
 there:∀b o,h.get? b=some o→b∉ex→∃o',h'.get? b=some o'
 tups:∀b xs,H b=some (.tup xs)→H' b=some (.tup xs)
 frzs:∀b o u,H b=some (.frz o u)→H' b=some (.frz o u)
 tbls:∀b ps,H b=some (.tbl ps)→∃more,H' b=some (.tbl (ps++more))
section
variable {fs fs' ex ex':List Addr} {H H1 H2:Hp} {h h1 h2 h':Heap} {a x e:Addr} {o:HO}
theorem Un.any (u:Un fs ex H H1 h h1) {b:Addr} {ob:Obj} (q:h.get? b=some ob) (n:H b=none) (hx:b∉ex):∃sl,h1.get? b=some {ob with slots:=sl}:=by
 by_cases hb:b∈fs
 ·exact u.slot b ob q n hb hx
 ·exact ⟨ob.slots,u.keep b ob q n hb hx⟩
theorem Un.trans (a:Un fs ex H H1 h h1) (b:Un fs ex H1 H2 h1 h2):Un fs ex H H2 h h2 where
 keep:=fun c ob q n hc hx=>b.keep c ob (a.keep c ob q n hc hx) (a.free c ob q n hx) hc hx
 slot:=fun c ob q n hc hx=>by
  obtain ⟨sl,e1⟩:=a.slot c ob q n hc hx
  obtain ⟨sl',e2⟩:=b.slot c _ e1 (a.free c ob q n hx) hc hx
  exact ⟨sl',e2⟩
 free:=fun c ob q n hx=>by
  obtain ⟨o',e1⟩:=a.there c ob q hx
  exact b.free c o' e1 (a.free c ob q n hx) hx
 there:=fun c ob q hx=>by
  obtain ⟨o',e1⟩:=a.there c ob q hx
  exact b.there c o' e1 hx
 tups:=fun c xs q=>b.tups c xs (a.tups c xs q)
 frzs:=fun c ob xs q=>b.frzs c ob xs (a.frzs c ob xs q)
 tbls:=fun c ps q=>by
  obtain ⟨m1,e1⟩:=a.tbls c ps q
  obtain ⟨m2,e2⟩:=b.tbls c _ e1
  exact ⟨m1++m2,by rw [e2,Array.append_assoc]⟩
theorem Un.kept (k:∀b u,h.get? b=some u→h'.get? b=some u):Un fs ex H H h h' :=
 ⟨fun b ob q _ _ _=>k b ob q,fun b ob q _ _ _=>⟨ob.slots,k b ob q⟩,fun _ _ _ n _=>n,fun b ob q _=>⟨ob,k b ob q⟩,fun _ _ q=>q,fun _ _ _ q=>q,fun _ ps q=>⟨#[],by rw [q];simp⟩⟩
theorem Un.refl:Un fs ex H H h h:=Un.kept fun _ _ q=>q
theorem Un.laid (k:∀b u,h.get? b=some u→h'.get? b=some u) (hp:h.objs.size≤a) (hn:H a=none):Un fs ex H (upd H a o) h h' where
 keep:=fun b u q _ _ _=>k b u q
 slot:=fun b u q _ _ _=>⟨u.slots,k b u q⟩
 free:=fun b u q n _=>by rw [kC (Nat.ne_of_lt (Nat.lt_of_lt_of_le (Heap.lt_size q) hp))];exact n
 there:=fun b u q _=>⟨u,k b u q⟩
 tups:=fun b xs q=>by rw [kC (kE q hn)];exact q
 frzs:=fun b u xs q=>by rw [kC (kE q hn)];exact q
 tbls:=fun b ps q=>⟨#[],by rw [kC (kE q hn),q];simp⟩
theorem Un.write (mu:gB (H x)) (he:e=x∨H e=some (.own x)) (k:∀b u,b≠e→h.get? b=some u→h'.get? b=some u) (heo:∃u,h'.get? e=some u):Un fs ex H (upd H x o) h h':=by
 have hx:∀b,H b=none→b≠x:=fun b n z=>by subst z;rw [n] at mu;exact mu
 have hb:∀b,H b=none→b≠e:=fun b n z=>by
  subst z
  rcases he with r|r
  ·exact hx b n r
  ·rw [n] at r;cases r
 have hm:∀b u,H b=some u→¬gB (some u)→b≠x:=fun b u q nm z=>by subst z;rw [q] at mu;exact nm mu
 refine ⟨fun b u q n _ _=>k b u (hb b n) q,fun b u q n _ _=>⟨u.slots,k b u (hb b n) q⟩,fun b u q n _=>by rw [kC (hx b n)];exact n,fun b u q _=>?_,
  fun b xs q=>by rw [kC (hm b _ q fun z=>z)];exact q,fun b u xs q=>by rw [kC (hm b _ q fun z=>z)];exact q,fun b ps q=>⟨#[],by rw [kC (hm b _ q fun z=>z),q];simp⟩⟩
 by_cases hbe:b=e
 ·subst hbe;exact heo
 ·exact ⟨u,k b u hbe q⟩
theorem Un.mono (u:Un fs ex H H1 h h1) (hs:∀b∈fs,b∈fs') (hx:∀b∈ex,b∈ex'):Un fs' ex' H H1 h h1 :=
 ⟨fun b ob q n hb he=>u.keep b ob q n (fun z=>hb (hs b z)) fun z=>he (hx b z),fun _ _ q n _ he=>u.any q n fun z=>he (hx _ z),fun b ob q n he=>u.free b ob q n fun z=>he (hx b z),fun b ob q he=>u.there b ob q fun z=>he (hx b z),u.tups,u.frzs,u.tbls⟩
end
def fT (h:Heap) (H:Hp):List Addr:=(List.range h.objs.size).filter fun a=>(H a).isSome
def z6 (h:Heap) (H:Hp):Heap:=PySem.W.hideAll h (fT h H)
theorem DU (h:Heap) (H:Hp):(z6 h H).objs.size=h.objs.size:=PySem.W.hideAll_size _ _
theorem E9 {h:Heap} {H:Hp} {b:Addr} {o:Obj} (e:h.get? b=some o) (n:H b=none):(z6 h H).get? b=some o :=
 PySem.W.hideAll_get _ e fun hm=>by
  have q:(H b).isSome=true:=(List.mem_filter.mp hm).2
  rw [n] at q;simp at q
theorem GF {h:Heap} {H:Hp} {b:Addr} {o:Obj} (e:(z6 h H).get? b=some o):h.get? b=some o∧H b=none:=by
 have e':h.get? b=some o:=PySem.W.of_hideAll (fT h H) e
 refine ⟨e',?_⟩
 cases q:H b with
 |none=>rfl
 |some x =>
  have hm:b∈fT h H:=List.mem_filter.mpr ⟨List.mem_range.mpr (Heap.lt_size e'),by simp [q]⟩
  have z:(z6 h H).get? b=none:=PySem.W.hideAll_none (fT h H) hm
  rw [z] at e;cases e
def GW (g h:Heap) (L:Addr):List (Addr×Obj):=(List.range h.objs.size).filterMap fun a=>if a=L∨(g.get? a).isSome=true then none else (h.get? a).map fun o=>(a,o)
def rest (g h:Heap) (L d:Addr):List (Addr×Obj):=(GW g h L).filter fun p=>decide (p.1≠d)
end L2
namespace L2
open PySem PySem.Spec PyProof.Rows
structure Mod (K:PySem.W.Frag) (mg:Str→Option Value) (base:Heap):Prop where
 kin:K.In base
 glob:base.Ns mainGlobals mg
 blt:∃mb,base.Ns builtinsNs mb∧∀x:Str,x≠"__name__"→mb x=bootBuiltins x
 nolimit:base.NoLimit
structure Cx where
 prog:Program
 w:World
 K:PySem.W.Frag
 mg:Str→Option Value
 base:Heap
 A:Around
 N:List Str
 s₀:Shared
 H₀:Hp
 env:Env
 outer:List Env
 stack:List Env
 ex:List Addr
 fn:Str→Bool
 calm:Bool
 pn:List (Addr×Obj)
 xe:Value→Shared→Prop
def yW (l:List Env):List Addr:=l.filterMap (·.frame)
abbrev Cx.fs (X:Cx):List Addr:=yW X.outer
def fX (sc:Scope) (x:Str):Prop:=sc.names.lookup x=some .local∨sc.names.lookup x=some .cell∨sc.names.lookup x=some .free
def dP (sc:Scope) (x:Str):Prop:=sc.names.lookup x=some .local∨sc.names.lookup x=some .cell
def LG (env:Env) (h:Heap) (m:Str→Option Value) (x:Str) (u:Value):Prop :=
 (env.kindOf x=some .local∧m x=some u)∨((env.kindOf x=some .cell∨env.kindOf x=some .free)∧∃c,env.cells.lookup x=some c∧h.IsCell c (some u))
structure Cx.Ok (X:Cx):Prop where
 mod:Mod X.K X.mg X.base
 kind:X.env.scope.kind=.function
 glob:X.env.globals=mainGlobals
 blt:X.env.builtins=builtinsNs
 above:X.s₀.heap.objs.size≤X.env.locals
 inj:∀x y c,X.env.cells.lookup x=some c→X.env.cells.lookup y=some c→x=y
 has:∀x,(X.env.kindOf x=some .cell∨X.env.kindOf x=some .free)→∃c,X.env.cells.lookup x=some c
 cab:∀x c,X.fn x=true→X.env.cells.lookup x=some c→X.s₀.heap.objs.size≤c
 hd:X.calm=true→X.A.handled=none
 frames:X.A.frames=some X.stack
 stk:X.stack=X.outer∨(X.stack=X.env::X.outer∧X.env.frame=some X.env.locals)
 exf:∀b∈X.ex,b≠X.env.locals∧∀x c,X.env.cells.lookup x=some c→c≠b
 bs:∀b o,X.base.get? b=some o→X.s₀.heap.get? b=some o∧X.H₀ b=none
 bsz:X.base.objs.size≤X.s₀.heap.objs.size
 noex:∀b o,X.base.get? b=some o→b∉X.ex
 exfs:∀b∈X.ex,b∉X.fs
 funs:X.s₀.heap.FunFrames X.base X.outer
 frf:∀b∈X.fs,X.H₀ b=none
structure Inv (X:Cx) (pins:List (Addr×Obj)) (σ:List (Option V)) (H:Hp) (s:Shared):Prop where
 ok:X.Ok
 os:s.os=X.s₀.os
 bare:AllBare s.gens
 base:Un X.fs X.ex X.H₀ H X.s₀.heap s.heap
 loc:∃m,s.heap.Ns X.env.locals m∧∀(i:Nat) (x:Str) (v:V),X.N[i]?=some x→σ[i]?=some (some v)→fX X.env.scope x→∃u,RelV v u∧LG X.env s.heap m x u
 cell:∀x c,X.env.cells.lookup x=some c→∃v,s.heap.IsCell c v
 free:H X.env.locals=none
 freeC:∀x c,X.env.cells.lookup x=some c→H c=none
 pin:∀p∈X.pn++pins,s.heap.get? p.1=some p.2∧H p.1=none∧p.1≠X.env.locals∧p.1∉X.fs∧∀v,p.2.data≠.cell v
 hok:HOk X.prog X.w H s.heap
 len:σ.length=X.N.length
section
variable {X:Cx} {pins:List (Addr×Obj)} {σ:List (Option V)} {H H':Hp} {s:Shared} {h':Heap}
theorem Cx.Ok.nofr (ok:X.Ok) {b:Addr} {o:Obj} (e:X.base.get? b=some o):b∉X.fs:=fun hb=>by
 have:=(ok.funs.mem hb).1
 rw [e] at this;cases this
theorem Inv.bs (I:Inv X pins σ H s):∀b o,X.base.get? b=some o→s.heap.get? b=some o∧H b=none:=fun b o e =>
 ⟨I.base.keep b o (I.ok.bs b o e).1 (I.ok.bs b o e).2 (I.ok.nofr e) (I.ok.noex b o e),I.base.free b o (I.ok.bs b o e).1 (I.ok.bs b o e).2 (I.ok.noex b o e)⟩
theorem Inv.bk (I:Inv X pins σ H s):∀b o,X.base.get? b=some o→s.heap.get? b=some o:=fun b o e=>(I.bs b o e).1
theorem Inv.mod (I:Inv X pins σ H s):Mod X.K X.mg X.base:=I.ok.mod
theorem Inv.kIn (I:Inv X pins σ H s):X.K.In s.heap:=I.ok.mod.kin.keeps I.bk
theorem Inv.lt (I:Inv X pins σ H s):X.env.locals<s.heap.objs.size:=let ⟨_,hn,_⟩:=I.loc;hn.lt
theorem Inv.sz (I:Inv X pins σ H s):X.s₀.heap.objs.size≤s.heap.objs.size:=Nat.le_trans I.ok.above (Nat.le_of_lt I.lt)
theorem Inv.nofs (I:Inv X pins σ H s) {a:Addr} (h:s.heap.objs.size≤a):a∉X.fs:=fun hb=>by
 obtain ⟨_,o,ho,_⟩:=I.ok.funs.mem hb
 exact absurd (Nat.lt_of_lt_of_le (Heap.lt_size ho) (Nat.le_trans I.sz h)) (Nat.lt_irrefl _)
theorem Inv.cne (I:Inv X pins σ H s):∀x c,X.env.cells.lookup x=some c→c≠X.env.locals:=fun x c e z=>by
 obtain ⟨v,o,ho,hd⟩:=I.cell x c e
 obtain ⟨m,⟨o',es,ep,ho',hd',_⟩,_⟩:=I.loc
 rw [z,ho'] at ho;cases ho;rw [hd'] at hd;cases hd
theorem Inv.funs (I:Inv X pins σ H s):s.heap.FunFrames X.base X.outer:=by
 have all:∀(l:List Env),(∀b∈yW l,b∈X.fs)→X.s₀.heap.FunFrames X.base l→s.heap.FunFrames X.base l:=by
  intro l
  induction l with
  |nil=>intro _ _;trivial
  |cons env r ih =>
   intro hs hl
   obtain ⟨hk,⟨L,o,hf,hn,ho,hd⟩,hr⟩:=hl
   have hL:L∈X.fs:=hs L (by unfold yW;rw [List.filterMap_cons,hf];exact List.mem_cons_self)
   obtain ⟨sl,e⟩:=I.base.slot L o ho (I.ok.frf L hL) hL fun z=>I.ok.exfs L z hL
   exact ⟨hk,⟨L,_,hf,hn,e,hd⟩,ih (fun b hb=>hs b (by unfold yW;rw [List.filterMap_cons,hf];exact List.mem_cons_of_mem _ hb)) hr⟩
 exact all X.outer (fun _ hb=>hb) I.ok.funs
theorem Inv.stack (I:Inv X pins σ H s):s.heap.FunFrames X.base X.stack:=by
 rcases I.ok.stk with e|⟨e,hf⟩
 ·rw [e];exact I.funs
 ·rw [e]
  obtain ⟨m,hn,_⟩:=I.loc
  refine .cons (by rw [I.ok.kind];decide) hf hn ?_ I.funs
  exact Heap.get?_none_of_le (Nat.le_trans I.ok.bsz I.ok.above)
theorem Inv.stkSub (I:Inv X pins σ H s):∀b∈yW X.stack,b∈X.env.locals::X.fs:=fun b hb=>by
 rcases I.ok.stk with e|⟨e,hf⟩
 ·rw [e] at hb;exact List.mem_cons_of_mem _ hb
 ·rw [e] at hb
  unfold yW at hb
  rw [List.filterMap_cons,hf] at hb
  exact hb
theorem Inv.stkFree (I:Inv X pins σ H s):∀b∈yW X.stack,H b=none:=fun b hb=>by
 rcases List.mem_cons.mp (I.stkSub b hb) with e|hb
 ·rw [e];exact I.free
 ·obtain ⟨_,o,ho,_⟩:=I.ok.funs.mem hb
  exact I.base.free b o ho (I.ok.frf b hb) fun z=>I.ok.exfs b z hb
theorem Inv.step {g':Array GenState} {t':Nat} {d':Drawn} {ch:List Addr} (I:Inv X pins σ H s)
  (hch:∀b∈ch,(b∈X.ex∨X.s₀.heap.objs.size≤b)∧b≠X.env.locals∧(∀x c,X.env.cells.lookup x=some c→c≠b)∧∀p∈X.pn++pins,p.1≠b)
  (keep:∀b o,b≠X.env.locals→b∉X.fs→b∉ch→s.heap.get? b=some o→H b=none→h'.get? b=some o)
  (slot:∀b o,b≠X.env.locals→b∈X.fs→b∉ch→s.heap.get? b=some o→H b=none→∃sl,h'.get? b=some {o with slots:=sl}) (free:∀b o,b∉ch→s.heap.get? b=some o→H b=none→H' b=none)
  (there:∀b o,b∉ch→s.heap.get? b=some o→∃o',h'.get? b=some o')
  (tups:∀b xs,H b=some (.tup xs)→H' b=some (.tup xs)) (frzs:∀b o u,H b=some (.frz o u)→H' b=some (.frz o u)) (tbls:∀b ps,H b=some (.tbl ps)→∃more,H' b=some (.tbl (ps++more)))
  (ns:∀m,s.heap.Ns X.env.locals m→h'.Ns X.env.locals m) (hok:HOk X.prog X.w H' h') (hg:AllBare g') :
  Inv X pins σ H' {s with heap:=h',gens:=g',drawn:=d',toks:=t'}:=by
 have neL:∀b o,X.s₀.heap.get? b=some o→b≠X.env.locals:=fun b o e=>Nat.ne_of_lt (Nat.lt_of_lt_of_le (Heap.lt_size e) I.ok.above)
 have neC:∀b o,X.s₀.heap.get? b=some o→b∉X.ex→b∉ch:=fun b o e hx hb=>by
  rcases (hch b hb).1 with z|z
  ·exact hx z
  ·exact absurd (Nat.lt_of_lt_of_le (Heap.lt_size e) z) (Nat.lt_irrefl _)
 have cellK:∀x c,X.env.cells.lookup x=some c→∀v,s.heap.IsCell c v→h'.IsCell c v:=fun x c e v ⟨o,ho,hd⟩=>by
  have nch:c∉ch:=fun z=>(hch c z).2.2.1 x c e rfl
  by_cases hc:c∈X.fs
  ·obtain ⟨sl,q⟩:=slot c o (I.cne x c e) hc nch ho (I.freeC x c e)
   exact ⟨_,q,hd⟩
  ·exact ⟨o,keep c o (I.cne x c e) hc nch ho (I.freeC x c e),hd⟩
 refine ⟨I.ok,I.os,hg,⟨fun b o e n hb hx=>?_,fun b o e n hb hx=>?_,fun b o e n hx=>?_,fun b o e hx=>?_,fun b xs e=>tups b xs (I.base.tups b xs e),fun b o xs e=>frzs b o xs (I.base.frzs b o xs e),fun b ps e=>?_⟩,?_,fun x c e=>?_,?_,fun x c e=>?_,fun p hp=>?_,hok,I.len⟩
 ·exact keep b o (neL b o e) hb (neC b o e hx) (I.base.keep b o e n hb hx) (I.base.free b o e n hx)
 ·obtain ⟨sl,e1⟩:=I.base.slot b o e n hb hx
  obtain ⟨sl',e2⟩:=slot b _ (neL b o e) hb (neC b o e hx) e1 (I.base.free b o e n hx)
  exact ⟨sl',e2⟩
 ·obtain ⟨o',e1⟩:=I.base.there b o e hx
  exact free b o' (neC b o e hx) e1 (I.base.free b o e n hx)
 ·obtain ⟨o',e1⟩:=I.base.there b o e hx
  exact there b o' (neC b o e hx) e1
 ·obtain ⟨m1,e1⟩:=I.base.tbls b ps e
  obtain ⟨m2,e2⟩:=tbls b _ e1
  exact ⟨m1++m2,by rw [e2,Array.append_assoc]⟩
 ·obtain ⟨m,hn,hl⟩:=I.loc
  refine ⟨m,ns m hn,fun i x v e1 e2 e3=>?_⟩
  obtain ⟨u,r,l⟩:=hl i x v e1 e2 e3
  refine ⟨u,r,?_⟩
  rcases l with l|⟨k,c,e,z⟩
  ·exact .inl l
  ·exact .inr ⟨k,c,e,cellK x c e _ z⟩
 ·obtain ⟨v,z⟩:=I.cell x c e
  exact ⟨v,cellK x c e v z⟩
 ·obtain ⟨m,⟨o,_,_,ho,_⟩,_⟩:=I.loc
  exact free _ o (fun z=>(hch _ z).2.1 rfl) ho I.free
 ·obtain ⟨v,o,ho,hd⟩:=I.cell x c e
  exact free c o (fun z=>(hch c z).2.2.1 x c e rfl) ho (I.freeC x c e)
 ·obtain ⟨e,n,ne,nf,d⟩:=I.pin p hp
  have nch:p.1∉ch:=fun z=>(hch p.1 z).2.2.2 p hp rfl
  exact ⟨keep p.1 p.2 ne nf nch e n,free p.1 p.2 nch e n,ne,nf,d⟩
theorem Inv.un {t':Nat} (I:Inv X pins σ H s) (u:Un X.fs [] H H' s.heap h') (hok:HOk X.prog X.w H' h'):Inv X pins σ H' {s with heap:=h',toks:=t'}:=by
  obtain ⟨m,⟨o,es,ep,ho,r⟩,_⟩:=id I.loc
  obtain ⟨sl,hL⟩:=u.any ho I.free (by simp)
  exact I.step (g':=s.gens) (d':=s.drawn) (ch:=[]) (fun _ z=>nomatch z) (fun b o _ hb _ e n=>u.keep b o e n hb (by simp)) (fun b o _ hb _ e n=>u.slot b o e n hb (by simp)) (fun b o _ e n=>u.free b o e n (by simp)) (fun b o _ e=>u.there b o e (by simp)) u.tups u.frzs u.tbls (fun m' hm=>by
    obtain ⟨o',es',ep',ho',r'⟩:=hm
    rw [ho] at ho';cases ho'
    exact ⟨_,es',ep',hL,r'⟩) hok I.bare
theorem Inv.call {g':Array GenState} {t':Nat} {d':Drawn} {ch:List Addr} (I:Inv X pins σ H s) (u:Un (yW X.stack) ch H H' s.heap h') (hok:HOk X.prog X.w H' h') (hg:AllBare g')
  (hch:∀b∈ch,(b∈X.ex∨X.s₀.heap.objs.size≤b)∧b≠X.env.locals∧(∀x c,X.env.cells.lookup x=some c→c≠b)∧∀p∈X.pn++pins,p.1≠b) :
  Inv X pins σ H' {s with heap:=h',gens:=g',drawn:=d',toks:=t'}:=by
 obtain ⟨m,⟨o,es,ep,ho,r⟩,_⟩:=id I.loc
 obtain ⟨sl,hL⟩:=u.any ho I.free fun z=>(hch _ z).2.1 rfl
 exact I.step (ch:=ch) hch (fun b o hL hb hc e n=>u.keep b o e n (fun z=>(List.mem_cons.mp (I.stkSub b z)).elim hL hb) hc) (fun b o _ _ hc e n=>u.any e n hc) (fun b o hc e n=>u.free b o e n hc) (fun b o hc e=>u.there b o e hc) u.tups u.frzs u.tbls (fun m' hm=>by
  obtain ⟨o',es',ep',ho',r'⟩:=hm
  rw [ho] at ho';cases ho'
  exact ⟨_,es',ep',hL,r'⟩) hok hg
theorem Inv.turned {t':Nat} {it:Addr} (I:Inv X pins σ H s) (k:∀b o,b≠it→s.heap.get? b=some o→h'.get? b=some o) (hn:H it=none) (hL:it≠X.env.locals)
    (h1:it∈X.ex∨X.s₀.heap.objs.size≤it) (h2:∀x c,X.env.cells.lookup x=some c→c≠it) (h3:∀p∈X.pn++pins,p.1≠it):Inv X pins σ H {s with heap:=h',toks:=t'}:=by
  have nit:∀b u,H b=some u→b≠it:=fun b u e z=>by rw [z,hn] at e;cases e
  refine I.step (g':=s.gens) (d':=s.drawn) (ch:=[it]) (fun b hb=>?_) (fun b o _ _ hc e _=>k b o (fun z=>hc (by simp [z])) e) (fun b o _ _ hc e _=>⟨o.slots,k b o (fun z=>hc (by simp [z])) e⟩) (fun _ _ _ _ n=>n)
    (fun b o hc e=>⟨o,k b o (fun z=>hc (by simp [z])) e⟩) (fun _ _ e=>e) (fun _ _ _ e=>e) (fun b ps e=>⟨#[],by rw [e];simp⟩) (fun m hm=>?_) (fun b u e=>?_) I.bare
  · have e:b=it:=by simpa using hb
    subst e
    exact ⟨h1,hL,h2,h3⟩
  · obtain ⟨o,es,ep,ho,r⟩:=hm
    exact ⟨o,es,ep,k _ o (Ne.symm hL) ho,r⟩
  · refine (I.hok b u e).stay (fun c v hc q=>k c v ?_ q) (fun _ q=>q) fun _ _ q=>q
    rcases hc with z|z
    · rw [z];exact nit b u e
    · exact nit c _ z
theorem Inv.tok (I:Inv X pins σ H s) (t:Nat):Inv X pins σ H {s with toks:=t}:=I.un (h':=s.heap) (t':=t) Un.refl I.hok
theorem Inv.kept {t':Nat} (I:Inv X pins σ H s) (k:∀b u,s.heap.get? b=some u→h'.get? b=some u):Inv X pins σ H {s with heap:=h',toks:=t'}:=I.un (Un.kept k) (I.hok.kept k)
theorem Inv.laid {a:Addr} {o:HO} {t':Nat} (I:Inv X pins σ H s) (k:∀b u,s.heap.get? b=some u→h'.get? b=some u) (hp:s.heap.objs.size≤a) (new:ObjOk X.prog X.w (upd H a o) h' a o) :
  Inv X pins σ (upd H a o) {s with heap:=h',toks:=t'}:=I.un (Un.laid k hp (I.hok.fresh hp)) (I.hok.laid k hp new)
theorem Inv.write {x e:Addr} {o:HO} {t':Nat} (I:Inv X pins σ H s) (mu:gB (H x)) (he:e=x∨H e=some (.own x)) (k:∀b u,b≠e→s.heap.get? b=some u→h'.get? b=some u) (heo:∃u,h'.get? e=some u)
  (new:ObjOk X.prog X.w (upd H x o) h' x o):Inv X pins σ (upd H x o) {s with heap:=h',toks:=t'}:=I.un (Un.write mu he k heo) (I.hok.write mu he k heo new)
theorem Inv.pins_of {pins':List (Addr×Obj)} (I:Inv X pins σ H s) (h:∀p∈pins',s.heap.get? p.1=some p.2∧H p.1=none∧p.1≠X.env.locals∧p.1∉X.fs∧∀v,p.2.data≠.cell v):Inv X pins' σ H s :=
 ⟨I.ok,I.os,I.bare,I.base,I.loc,I.cell,I.free,I.freeC,fun p hp=>(List.mem_append.mp hp).elim (fun z=>I.pin p (List.mem_append_left _ z)) (h p),I.hok,I.len⟩
theorem pT {N:List Str} (hN:N.Nodup) {i j:Nat} {x:Str} (a:N[i]?=some x) (b:N[j]?=some x):i=j:=by
 obtain ⟨h1,e1⟩:=List.getElem?_eq_some_iff.mp a
 obtain ⟨h2,e2⟩:=List.getElem?_eq_some_iff.mp b
 exact (List.getElem_inj hN).mp (e1.trans e2.symm)
theorem nY {M:Model} {A:Around} {E:Value→Shared→Prop} {i:Nat} {x:Str} {v:V} {u:Value} {Q:Unit→Shared→Prop} (I:Inv X pins σ H s) (hN:X.N.Nodup) (hi:X.N[i]?=some x) (hx:dP X.env.scope x) (r:RelV v u)
  (h:∀s',Inv X pins (σ.set i (some v)) H s'→(∃a,Heap.SameBut a s.heap s'.heap∧(a=X.env.locals∨X.env.cells.lookup x=some a))→Q () s') (hf:X.fn x=true∨X.env.scope.names.lookup x=some .local:=by first|exact .inl rfl|exact .inr rfl|assumption):wpAny M A (storeName X.env x u) Q E s:=by
 obtain ⟨m,hn,hl⟩:=id I.loc
 have hcls:(X.env.scope.kind == .class||(X.env.scope.kind == .module&&X.env.locals != X.env.globals))=false:=by rw [I.ok.kind];rfl
 have hiσ:i<σ.length:=by rw [I.len];exact (List.getElem?_eq_some_iff.mp hi).1
 have cne:=I.cne
 have tracked:∀{a:Addr} {h':Heap},(∃o,s.heap.get? a=some o∧H a=none)→Heap.SameBut a s.heap h'→HOk X.prog X.w H h':=fun {a h'} ha hs b ob e=>by
  obtain ⟨_,_,hfree⟩:=ha
  refine (I.hok b ob e).stay (fun c w' hc q=>(hs.2 c ?_).trans q) (fun _ q=>q) fun _ _ q=>q
  rintro rfl
  rcases hc with rfl|hc
  ·rw [hfree] at e;cases e
  ·rw [hfree] at hc;cases hc
 rcases hx with hk|hk
 ·refine wpAny_storeName_local hk hn (fun h' hn' hs=>?_) hcls
  obtain ⟨oL,_,_,hoL,_⟩:=id hn
  refine h _ ⟨I.ok,I.os,I.bare,⟨fun b o e n hb hx=>?_,fun b o e n hb hx=>?_,I.base.free,fun b o e hx=>?_,I.base.tups,I.base.frzs,I.base.tbls⟩,⟨_,hn',fun j y v' e1 e2 e3=>?_⟩,fun y c e=>?_,I.free,I.freeC,fun p hp=>?_,tracked ⟨oL,hoL,I.free⟩ hs,by simpa using I.len⟩ ⟨_,hs,.inl rfl⟩
  ·exact (hs.2 b (Nat.ne_of_lt (Nat.lt_of_lt_of_le (Heap.lt_size e) I.ok.above))).trans (I.base.keep b o e n hb hx)
  ·obtain ⟨sl,e1⟩:=I.base.slot b o e n hb hx
   exact ⟨sl,(hs.2 b (Nat.ne_of_lt (Nat.lt_of_lt_of_le (Heap.lt_size e) I.ok.above))).trans e1⟩
  ·obtain ⟨o',e1⟩:=I.base.there b o e hx
   exact ⟨o',(hs.2 b (Nat.ne_of_lt (Nat.lt_of_lt_of_le (Heap.lt_size e) I.ok.above))).trans e1⟩
  ·by_cases hj:j=i
   ·subst hj
    rw [hi] at e1;cases e1
    rw [List.getElem?_set_self hiσ] at e2
    cases e2
    exact ⟨u,r,.inl ⟨hk,by simp⟩⟩
   ·rw [List.getElem?_set_ne (Ne.symm hj)] at e2
    obtain ⟨u',r',q⟩:=hl j y v' e1 e2 e3
    refine ⟨u',r',?_⟩
    rcases q with ⟨k,e⟩|⟨k,c,e,z⟩
    ·refine .inl ⟨k,?_⟩
     have:y≠x:=fun e=>hj (pT hN e1 (e▸hi))
     simp [this,e]
    ·exact .inr ⟨k,c,e,z.sameBut hs (cne y c e)⟩
  ·obtain ⟨w',z⟩:=I.cell y c e
   exact ⟨w',z.sameBut hs (cne y c e)⟩
  ·obtain ⟨e,n,ne,nf,d⟩:=I.pin p hp
   exact ⟨(hs.2 p.1 ne).trans e,n,ne,nf,d⟩
 ·have hfn:X.fn x=true:=by
   rcases hf with z|z
   ·exact z
   ·rw [z] at hk;cases hk
  obtain ⟨c,hc⟩:=I.ok.has x (.inl hk)
  obtain ⟨w',z⟩:=I.cell x c hc
  refine wpAny_storeName_cell I.ok.kind hk hc z (fun h' hc' hs=>?_)
  obtain ⟨oc,hoc,hocd⟩:=id z
  refine h {s with heap:=h'} ⟨I.ok,I.os,I.bare,⟨fun b o e n hb hx=>?_,fun b o e n hb hx=>?_,I.base.free,fun b o e hx=>?_,I.base.tups,I.base.frzs,I.base.tbls⟩,⟨m,hn.sameBut hs (Ne.symm (cne x c hc)),fun j y v' e1 e2 e3=>?_⟩,fun y c' e=>?_,I.free,I.freeC,fun p hp=>?_,tracked ⟨oc,hoc,I.freeC x c hc⟩ hs,by simpa using I.len⟩ ⟨c,hs,.inr hc⟩
  ·exact (hs.2 b (Nat.ne_of_lt (Nat.lt_of_lt_of_le (Heap.lt_size e) (I.ok.cab x c hfn hc)))).trans (I.base.keep b o e n hb hx)
  ·obtain ⟨sl,e1⟩:=I.base.slot b o e n hb hx
   exact ⟨sl,(hs.2 b (Nat.ne_of_lt (Nat.lt_of_lt_of_le (Heap.lt_size e) (I.ok.cab x c hfn hc)))).trans e1⟩
  ·obtain ⟨o',e1⟩:=I.base.there b o e hx
   exact ⟨o',(hs.2 b (Nat.ne_of_lt (Nat.lt_of_lt_of_le (Heap.lt_size e) (I.ok.cab x c hfn hc)))).trans e1⟩
  ·by_cases hj:j=i
   ·subst hj
    rw [hi] at e1;cases e1
    rw [List.getElem?_set_self hiσ] at e2
    cases e2
    exact ⟨u,r,.inr ⟨.inl hk,c,hc,hc'⟩⟩
   ·rw [List.getElem?_set_ne (Ne.symm hj)] at e2
    obtain ⟨u',r',q⟩:=hl j y v' e1 e2 e3
    refine ⟨u',r',?_⟩
    rcases q with q|⟨k,c',e,z'⟩
    ·exact .inl q
    ·refine .inr ⟨k,c',e,z'.sameBut hs ?_⟩
     rintro rfl
     exact hj (pT hN e1 (I.ok.inj _ _ _ e hc▸hi))
  ·by_cases hcc:c'=c
   ·subst hcc;exact ⟨_,hc'⟩
   ·obtain ⟨w2,z2⟩:=I.cell y c' e
    exact ⟨w2,z2.sameBut hs hcc⟩
  ·obtain ⟨e,n,ne,nf,d⟩:=I.pin p hp
   refine ⟨(hs.2 p.1 ?_).trans e,n,ne,nf,d⟩
   intro q
   rw [q,hoc] at e
   have q':oc=p.2:=Option.some.inj e
   exact d w' (by rw [← q'];exact hocd)
theorem pA {M:Model} {A:Around} {E:Value→Shared→Prop} {i:Nat} {x:Str} {v:V} {u:Value} {Q:Unit→Shared→Prop} (I:Inv X pins σ H s) (hN:X.N.Nodup) (hi:X.N[i]?=some x) (hx:dP X.env.scope x) (r:RelV v u)
  (h:∀s',Inv X pins (σ.set i (some v)) H s'→Q () s') (hf:X.fn x=true∨X.env.scope.names.lookup x=some .local:=by first|exact .inl rfl|exact .inr rfl|assumption):wpAny M A (storeName X.env x u) Q E s :=
 nY I hN hi hx r (fun s' I' _=>h s' I') hf
theorem Inv.call' {s':Shared} {ch:List Addr} (I:Inv X pins σ H s) (ho:s'.os=s.os) (u:Un (yW X.stack) ch H H' s.heap s'.heap) (hok:HOk X.prog X.w H' s'.heap) (hg:AllBare s'.gens)
  (hch:∀b∈ch,(b∈X.ex∨X.s₀.heap.objs.size≤b)∧b≠X.env.locals∧(∀x c,X.env.cells.lookup x=some c→c≠b)∧∀p∈X.pn++pins,p.1≠b):Inv X pins σ H' s':=by
 obtain ⟨h',g',d',t',o'⟩:=s'
 have e:o'=s.os:=ho
 subst e
 exact I.call (g':=g') (t':=t') (d':=d') u hok hg hch
end
abbrev XK:=Value→Option Addr→Hp→Prop
abbrev St:=List (Option V)
abbrev VK:=V→Hp→Prop
abbrev TE:=St→Hp→VK→Prop
abbrev TT:=St→Hp→(Bool→Hp→Prop)→Prop
abbrev TA:=St→Hp→(List V→Hp→Prop)→Prop
structure Ends where
 nx:St→Hp→Prop
 rt:VK
 bk:St→Hp→Prop:=fun _ _=>False
 ct:St→Hp→Prop:=fun _ _=>False
abbrev TS:=Ends→St→Hp→Prop
def EP (X:Cx) (pins:List (Addr×Obj)) (σ:St) (Q:VK) (u:Value) (s':Shared):Prop:=∃v H',Inv X pins σ H' s'∧RelV v u∧Q v H'
def TP (X:Cx) (pins:List (Addr×Obj)) (σ:St) (Q:Bool→Hp→Prop) (b:Bool) (s':Shared):Prop:=∃H',Inv X pins σ H' s'∧Q b H'
def AP (X:Cx) (pins:List (Addr×Obj)) (σ:St) (Q:List V→Hp→Prop) (us:List Value) (s':Shared):Prop:=∃vs H',Inv X pins σ H' s'∧Vals vs us∧Q vs H'
def SP (X:Cx) (pins:List (Addr×Obj)) (D:Ends) (f:Flow) (s':Shared):Prop :=
 match f with
 |.next=>∃σ' H',Inv X pins σ' H' s'∧D.nx σ' H'
 |.brk=>∃σ' H',Inv X pins σ' H' s'∧D.bk σ' H'
 |.cont=>∃σ' H',Inv X pins σ' H' s'∧D.ct σ' H'
 |.ret u=>∃v σ' H',Inv X pins σ' H' s'∧RelV v u∧D.rt v H'
def PE (X:Cx) (e:Expr) (t:TE):Prop :=
 ∀(pins:List (Addr×Obj)) (s:Shared) (σ:St) (H:Hp) (Q:VK),Inv X pins σ H s→t σ H Q→wpAny (model X.prog X.w) X.A (eval e X.env) (EP X pins σ Q) X.xe s
def PT (X:Cx) (e:Expr) (t:TT):Prop :=
 ∀(pins:List (Addr×Obj)) (s:Shared) (σ:St) (H:Hp) (Q:Bool→Hp→Prop),Inv X pins σ H s→t σ H Q→wpAny (model X.prog X.w) X.A (isTrue e X.env (eval e X.env)) (TP X pins σ Q) X.xe s
def PW (X:Cx) (e:Expr) (t:TT):Prop :=
 ∀(whole:Sem Value) (pins:List (Addr×Obj)) (s:Shared) (σ:St) (H:Hp) (Q:Bool→Hp→Prop),Inv X pins σ H s→t σ H Q→wpAny (model X.prog X.w) X.A (isTrue e X.env whole) (TP X pins σ Q) X.xe s
theorem PW.pt {X:Cx} {e:Expr} {t:TT} (h:PW X e t):PT X e t:=h _
def PA (X:Cx) (es:List Expr) (t:TA):Prop :=
 ∀(pos:Pos) (pins:List (Addr×Obj)) (s:Shared) (σ:St) (H:Hp) (Q:List V→Hp→Prop),Inv X pins σ H s→t σ H Q→wpAny (model X.prog X.w) X.A (spliced (backTo pos (starEach es X.env))) (AP X pins σ Q) X.xe s
def PS (X:Cx) (st:Stmt) (t:TS):Prop :=
 ∀(pins:List (Addr×Obj)) (s:Shared) (σ:St) (H:Hp) (D:Ends),Inv X pins σ H s→t D σ H→wpAny (model X.prog X.w) X.A (exec st X.env) (SP X pins D) X.xe s
def PSs (X:Cx) (st:List Stmt) (t:TS):Prop :=
 ∀(pins:List (Addr×Obj)) (s:Shared) (σ:St) (H:Hp) (D:Ends),Inv X pins σ H s→t D σ H→wpAny (model X.prog X.w) X.A (execs st X.env) (SP X pins D) X.xe s
theorem jL {α:Type} {t:Sem α} {Q Q':α→Shared→Prop} {M:Model} {A:Around} {E:Value→Shared→Prop} {s:Shared} (h:wpAny M A t Q E s) (hQ:∀a s,Q a s→Q' a s):wpAny M A t Q' E s:=wpAny_mono h hQ fun _ _ x=>x
end L2
namespace L2
open PySem PySem.Spec PyProof.Rows
section
variable {X:Cx}
def tL (i:Nat):TE:=fun σ H Q=>∃v,σ[i]?=some (some v)∧Q v H
def tC (v:V):TE:=fun _ H Q=>Q v H
theorem HI {i:Nat} {x:Str} {pos:Pos} (hN:X.N[i]?=some x) (hv:fX X.env.scope x) (hd:(x == ("__debug__":Str))=false:=by decide) (hcd:(x == ("__classdict__":Str))=false:=by decide):PE X (.Name x pos) (tL i):=by
 intro pins s σ H Q I h
 obtain ⟨v,e,h⟩:=h
 obtain ⟨m,hn,hl⟩:=I.loc
 obtain ⟨u,r,l⟩:=hl i x v hN e hv
 have fin:EP X pins σ Q u s:=⟨v,H,I,r,h⟩
 rcases l with ⟨hk,hm⟩|⟨hk,c,hc,hcell⟩
 ·exact wpAny_Name (wpAny_loadName_local I.ok.kind hk hn hm fin) hd
 ·rcases hk with hk|hk
  ·exact wpAny_Name (wpAny_loadName_cell I.ok.kind hk hc hcell fin) hd
  ·exact wpAny_Name (wpAny_loadName_free I.ok.kind hk hc hcell fin hcd) hd
theorem jB {i j pos}:PE X (.Constant (.int i) j pos) (tC (.int i)):=fun _ _ _ H _ I h=>wpAny_Constant_int ⟨.int i,H,I.tok _,⟨_,rfl⟩,h⟩
theorem qS {b j pos}:PE X (.Constant (.bool b) j pos) (tC (.bl b)):=fun _ _ _ H _ I h=>Constant_bool ⟨.bl b,H,I,rfl,h⟩
theorem HK {j pos}:PE X (.Constant .none j pos) (tC .non):=fun _ _ _ H _ I h=>Constant_none ⟨.non,H,I,rfl,h⟩
theorem j7 {x j pos}:PE X (.Constant (.str x) j pos) (tC (.str x)):=fun _ _ _ H _ I h=>Calls.Constant_str ⟨.str x,H,I.tok _,⟨_,rfl⟩,h⟩
def Gl (X:Cx) (x:Str):Prop:=X.env.kindOf x=some .globalImplicit
theorem i7 {E:Value→Shared→Prop} {pins:List (Addr×Obj)} {s:Shared} {σ:St} {H:Hp} {x:Str} {u:Value} {pos:Pos} {Q:Value→Shared→Prop} (I:Inv X pins σ H s) (hg:Gl X x) (hm:X.mg x=some u) (h:Q u s)
  (hd:(x == ("__debug__":Str))=false:=by decide):wpAny (model X.prog X.w) X.A (eval (.Name x pos) X.env) Q E s :=
 Calls.Name_function_global I.ok.kind hg (Calls.loadGlobal_global (by rw [I.ok.glob];exact I.mod.glob.keeps I.bk) hm h) hd
theorem y4 {E:Value→Shared→Prop} {pins:List (Addr×Obj)} {s:Shared} {σ:St} {H:Hp} {x:Str} {u:Value} {pos:Pos} {Q:Value→Shared→Prop} (I:Inv X pins σ H s) (hg:Gl X x) (hm:X.mg x=none) (hv:bootBuiltins x=some u) (h:Q u s)
  (hn:x≠"__name__":=by decide) (hd:(x == ("__debug__":Str))=false:=by decide):wpAny (model X.prog X.w) X.A (eval (.Name x pos) X.env) Q E s:=by
 obtain ⟨mb,h1,h2⟩:=I.mod.blt
 exact Calls.Name_function_global I.ok.kind hg (Calls.loadGlobal_builtin (by rw [I.ok.glob];exact I.mod.glob.keeps I.bk) hm (by rw [I.ok.blt];exact h1.keeps I.bk) ((h2 x hn).trans hv) h) hd
theorem vW {x:Str} {v:V} {u:Value} {pos:Pos} (hg:Gl X x) (hm:X.mg x=some u) (r:RelV v u) (hd:(x == ("__debug__":Str))=false:=by decide):PE X (.Name x pos) (tC v) :=
 fun _ _ _ H _ I h=>i7 I hg hm ⟨v,H,I,r,h⟩ hd
theorem y0 {x:Str} {v:V} {u:Value} {pos:Pos} (hg:Gl X x) (hm:X.mg x=none) (hv:bootBuiltins x=some u) (r:RelV v u) (hn:x≠"__name__":=by decide) (hd:(x == ("__debug__":Str))=false:=by decide):PE X (.Name x pos) (tC v) :=
 fun _ _ _ H _ I h=>y4 I hg hm hv ⟨v,H,I,r,h⟩ hn hd
variable {a b:Expr} {ta tb:TE} {pos:Pos}
def tB (t:TE):TT:=fun σ H Q=>t σ H fun x H1=>∃c,x=.bl c∧Q c H1
theorem qX {e:Expr} {t:TE} (h:PE X e t) (he:∀whole,isTrue e X.env whole=(do let v ← whole;standAt e.pos;holding [v] (truthy v)):=by intro _;rfl):PT X e (tB t):=by
 intro pins s σ H Q I hw
 refine isTrue_plain (jL (h pins s σ H _ I hw) fun v s1 ⟨x,H1,I1,r1,q1⟩=>?_) (he _)
 obtain ⟨d,rfl,q⟩:=q1
 cases r1
 exact wpAny_truthy_bool ⟨H1,I1,q⟩
variable {tA tB':TT} {rest:List Expr}
def KR (t u:TT):TT:=fun σ H Q=>t σ H fun c H1=>if c=true then u σ H1 Q else Q false H1
def LM (t u:TT):TT:=fun σ H Q=>t σ H fun c H1=>if c=true then Q true H1 else u σ H1 Q
def KL (t:TT):TT:=fun σ H Q=>t σ H fun c H1=>Q (!c) H1
theorem eX (ha:PT X a tA):PW X (.BoolOp .And [a] pos) tA:=by
 intro wh pins s σ H Q I h
 refine isTrue_and (jL (ha pins s σ H Q I h) fun c s1 e=>?_)
 cases c with
 |true=>exact isTrue_and_nil e
 |false=>exact e
theorem yE (ha:PT X a tA):PW X (.BoolOp .Or [a] pos) tA:=by
 intro wh pins s σ H Q I h
 refine isTrue_or (jL (ha pins s σ H Q I h) fun c s1 e=>?_)
 cases c with
 |false=>exact isTrue_or_nil e
 |true=>exact e
theorem cY (ha:PT X a tA) (hb:PW X (.BoolOp .And (b::rest) pos) tB'):PW X (.BoolOp .And (a::b::rest) pos) (KR tA tB'):=by
 intro wh pins s σ H Q I h
 refine isTrue_and (jL (ha pins s σ H _ I h) fun c s1 ⟨H1,I1,q1⟩=>?_)
 cases c with
 |true=>exact hb wh pins s1 σ H1 Q I1 q1
 |false=>exact ⟨H1,I1,q1⟩
theorem vQ (ha:PT X a tA) (hb:PW X (.BoolOp .Or (b::rest) pos) tB'):PW X (.BoolOp .Or (a::b::rest) pos) (LM tA tB'):=by
 intro wh pins s σ H Q I h
 refine isTrue_or (jL (ha pins s σ H _ I h) fun c s1 ⟨H1,I1,q1⟩=>?_)
 cases c with
 |true=>exact ⟨H1,I1,q1⟩
 |false=>exact hb wh pins s1 σ H1 Q I1 q1
theorem qO (ha:PT X a tA):PT X (.UnaryOp .Not a pos) (KL tA):=by
 intro pins s σ H Q I h
 exact isTrue_not (ha pins s σ H (fun c H1=>Q (!c) H1) I h)
def II (ta tb:TE):TE:=fun σ H Q=>ta σ H fun x H1=>∃c,x=.bl c∧if c=true then tb σ H1 Q else Q (.bl false) H1
def KK (ta tb:TE):TE:=fun σ H Q=>ta σ H fun x H1=>∃c,x=.bl c∧if c=true then Q (.bl true) H1 else tb σ H1 Q
def IC (ta:TE):TE:=fun σ H Q=>ta σ H fun x H1=>∃c,x=.bl c∧Q (.bl (!c)) H1
theorem fF {op} {t:TE} (h:PE X a t):PE X (.BoolOp op [a] pos) t:=fun pins s σ H Q I hw=>BoolOp_one (h pins s σ H Q I hw)
theorem lF (ha:PE X a ta) (hb:PE X (.BoolOp .And (b::rest) pos) tb):PE X (.BoolOp .And (a::b::rest) pos) (II ta tb):=by
 intro pins s σ H Q I h
 refine BoolOp_and (jL (ha pins s σ H _ I h) fun v s1 ⟨x,H1,I1,r1,q1⟩=>?_)
 obtain ⟨c,rfl,q1⟩:=q1
 cases r1
 refine wpAny_truthy_bool ?_
 cases c with
 |true=>exact hb pins s1 σ H1 Q I1 q1
 |false=>exact ⟨.bl false,H1,I1,rfl,q1⟩
theorem IO (ha:PE X a ta) (hb:PE X (.BoolOp .Or (b::rest) pos) tb):PE X (.BoolOp .Or (a::b::rest) pos) (KK ta tb):=by
 intro pins s σ H Q I h
 refine BoolOp_or (jL (ha pins s σ H _ I h) fun v s1 ⟨x,H1,I1,r1,q1⟩=>?_)
 obtain ⟨c,rfl,q1⟩:=q1
 cases r1
 refine wpAny_truthy_bool ?_
 cases c with
 |false=>exact hb pins s1 σ H1 Q I1 q1
 |true=>exact ⟨.bl true,H1,I1,rfl,q1⟩
theorem HJ (ha:PE X a ta):PE X (.UnaryOp .Not a pos) (IC ta):=by
 intro pins s σ H Q I h
 refine UnaryOp_ (jL (ha pins s σ H _ I h) fun v s1 ⟨x,H1,I1,r1,q1⟩=>?_)
 obtain ⟨c,rfl,q1⟩:=q1
 cases r1
 exact not_of (wpAny_truthy_bool ⟨.bl (!c),H1,I1,rfl,q1⟩)
def LN (t:TT) (ta tb:TE):TE:=fun σ H Q=>t σ H fun c H1=>if c=true then ta σ H1 Q else tb σ H1 Q
theorem Z9 {c:Expr} (hc:PT X c tA) (ha:PE X a ta) (hb:PE X b tb):PE X (.IfExp c a b pos) (LN tA ta tb):=by
 intro pins s σ H Q I h
 refine wpAny_IfExp (jL (hc pins s σ H _ I h) fun d s1 ⟨H1,I1,q1⟩=>?_)
 cases d with
 |true=>exact ha pins s1 σ H1 Q I1 q1
 |false=>exact hb pins s1 σ H1 Q I1 q1
end
end L2
namespace L2
open PySem PySem.Spec PyProof.Rows
def SqL (K:PySem.W.Frag) (H:Hp) (a:Addr) (xs:List V):Prop :=
 Rd H a (.lst xs)∨
  ∃(o:Obj) (its:Array Value) (n:Nat),K.lookup a=some o∧o.cls=.type "list"∧o.dict=none∧o.data=.seq its n∧its.size≤sizeLine∧Vals xs its.toList
def SqT (K:PySem.W.Frag) (H:Hp) (a:Addr) (xs:List V):Prop :=
 Rd H a (.tup xs)∨
  ∃(o:Obj) (its:Array Value) (n:Nat),K.lookup a=some o∧o.cls=.type "tuple"∧o.data=.seq its n∧its.size≤sizeLine∧Vals xs its.toList
def LE:Value→Option V
 |.none=>some .non
 |.bool b=>some (.bl b)
 |.int i _=>some (.int i)
 |.str x _=>some (.str x)
 |.bytes b _=>some (.byt b)
 |.float b _=>some (.flt b)
 |.ref a=>some (.ref a)
 |.type n=>some (.ty n)
 |_=>none
theorem RelV.abs {x:V} {u:Value} (r:RelV x u):LE u=some x:=by
 cases x with
 |non=>cases r;rfl
 |bl _=>cases r;rfl
 |int _=>obtain ⟨t,rfl⟩:=r;rfl
 |str _=>obtain ⟨t,rfl⟩:=r;rfl
 |byt _=>obtain ⟨t,rfl⟩:=r;rfl
 |flt _=>obtain ⟨t,rfl⟩:=r;rfl
 |ref _=>cases r;rfl
 |ty _=>cases r;rfl
theorem RelV.inj {x y:V} {u:Value} (r:RelV x u) (q:RelV y u):x=y:=Option.some.inj (r.abs.symm.trans q.abs)
theorem Vals.inj:∀{xs ys:List V} {us:List Value},Vals xs us→Vals ys us→xs=ys
 |_,_,_,.nil,.nil=>rfl
 |_,_,_,.cons r t,.cons r' t'=>by rw [r.inj r',Vals.inj t t']
section
variable {X:Cx} {pins:List (Addr×Obj)} {σ:St} {H:Hp} {s:Shared} {a:Addr} {xs ys:List V}
theorem SqL.of {K:PySem.W.Frag} (h:H a=some (.lst xs)):SqL K H a xs:=.inl (.inl h)
theorem SqT.of {K:PySem.W.Frag} (h:H a=some (.tup xs)):SqT K H a xs:=.inl (.inl h)
theorem Inv.list (I:Inv X pins σ H s) (h:SqL X.K H a xs):∃its:List Value,Vals xs its∧PlainL s.heap a its.toArray∧xs.length≤sizeLine:=by
 rcases h with h|⟨o,its,n,hk,hc,hd,hs,hz,r⟩
 ·obtain ⟨z,its,n,r,e⟩:=h.ok I.hok
  exact ⟨its,r,⟨_,n,e,rfl,rfl,rfl⟩,z⟩
 ·refine ⟨its.toList,r,⟨o,n,I.kIn a o hk,hc,hd,by simpa using hs⟩,?_⟩
  have e:=r.length
  simp only [Array.length_toList] at e
  omega
theorem Inv.tuple (I:Inv X pins σ H s) (h:SqT X.K H a xs):∃its:List Value,Vals xs its∧IsTup s.heap a its.toArray∧xs.length≤sizeLine:=by
 rcases h with h|⟨o,its,n,hk,hc,hs,hz,r⟩
 ·obtain ⟨z,its,r,p⟩:=h.ok I.hok
  exact ⟨its,r,p,z⟩
 ·refine ⟨its.toList,r,⟨o,I.kIn a o hk,hc,n,by simpa using hs⟩,?_⟩
  have e:=r.length
  simp only [Array.length_toList] at e
  omega
theorem Inv.list_inj (I:Inv X pins σ H s) (h:SqL X.K H a xs) (h':SqL X.K H a ys):xs=ys:=by
 obtain ⟨its,r,⟨o,n,e,_,_,d⟩,_⟩:=I.list h
 obtain ⟨its',r',⟨o',n',e',_,_,d'⟩,_⟩:=I.list h'
 rw [e] at e';cases e'
 rw [d] at d'
 injection d' with d1 _
 have:its=its':=by simpa using congrArg Array.toList d1
 subst this
 exact r.inj r'
theorem Inv.tuple_inj (I:Inv X pins σ H s) (h:SqT X.K H a xs) (h':SqT X.K H a ys):xs=ys:=by
 obtain ⟨its,r,⟨o,e,_,n,d⟩,_⟩:=I.tuple h
 obtain ⟨its',r',⟨o',e',_,n',d'⟩,_⟩:=I.tuple h'
 rw [e] at e';cases e'
 rw [d] at d'
 injection d' with d1 _
 have:its=its':=by simpa using congrArg Array.toList d1
 subst this
 exact r.inj r'
end
abbrev Cx.wish (X:Cx) (E:Value→Shared→Prop):Cx:={X with xe:=E}
abbrev Cx.nox (X:Cx):Cx:=X.wish fun _ _=>False
theorem Cx.Ok.wish {X:Cx} (ok:X.Ok) (E:Value→Shared→Prop):(X.wish E).Ok :=
 ⟨ok.mod,ok.kind,ok.glob,ok.blt,ok.above,ok.inj,ok.has,ok.cab,ok.hd,ok.frames,ok.stk,ok.exf,ok.bs,ok.bsz,ok.noex,ok.exfs,ok.funs,ok.frf⟩
theorem Cx.Ok.unwish {X:Cx} {E:Value→Shared→Prop} (ok:(X.wish E).Ok):X.Ok :=
 ⟨ok.mod,ok.kind,ok.glob,ok.blt,ok.above,ok.inj,ok.has,ok.cab,ok.hd,ok.frames,ok.stk,ok.exf,ok.bs,ok.bsz,ok.noex,ok.exfs,ok.funs,ok.frf⟩
section
variable {X:Cx} {pins:List (Addr×Obj)} {σ:St} {H:Hp} {s:Shared} {E:Value→Shared→Prop}
theorem Inv.wish (I:Inv X pins σ H s) (E:Value→Shared→Prop):Inv (X.wish E) pins σ H s:=⟨I.ok.wish E,I.os,I.bare,I.base,I.loc,I.cell,I.free,I.freeC,I.pin,I.hok,I.len⟩
theorem Inv.unwish (I:Inv (X.wish E) pins σ H s):Inv X pins σ H s:=⟨I.ok.unwish,I.os,I.bare,I.base,I.loc,I.cell,I.free,I.freeC,I.pin,I.hok,I.len⟩
theorem SP.unwish {D:Ends} {f:Flow} {s':Shared} (h:SP (X.wish E) pins D f s'):SP X pins D f s':=by
 cases f with
 |next=>obtain ⟨σ',H',I,q⟩:=h;exact ⟨σ',H',I.unwish,q⟩
 |brk=>obtain ⟨σ',H',I,q⟩:=h;exact ⟨σ',H',I.unwish,q⟩
 |cont=>obtain ⟨σ',H',I,q⟩:=h;exact ⟨σ',H',I.unwish,q⟩
 |ret u=>obtain ⟨v,σ',H',I,r,q⟩:=h;exact ⟨v,σ',H',I.unwish,r,q⟩
theorem PSs.nox {st:List Stmt} {t:TS} (h:PSs X.nox st t):PSs X st t:=fun pins s σ H D I hw =>
 wpAny_mono (h pins s σ H D (I.wish _) hw) (fun _ _ q=>q.unwish) fun _ _ z=>False.elim z
end
section
variable {X:Cx} {st:Stmt} {rest:List Stmt} {t u:TS} {e:Expr} {te:TE} {pos:Pos}
def ID:TS:=fun D σ H=>D.nx σ H
def KI (t u:TS):TS:=fun D σ H=>t {D with nx:=u D} σ H
theorem kD:PSs X [] ID:=fun _ _ σ H _ I h=>wpAny_execs_nil ⟨σ,H,I,h⟩
theorem jG (h1:PS X st t) (h2:PSs X rest u):PSs X (st::rest) (KI t u):=by
 intro pins s σ H D I h
 refine wpAny_execs_cons (jL (h1 pins s σ H {D with nx:=u D} I h) fun f s1 q=>?_)
 cases f with
 |next =>
  obtain ⟨σ',H',I',q⟩:=q
  exact h2 pins s1 σ' H' D I' q
 |ret v=>exact q
 |brk=>exact q
 |cont=>exact q
theorem jF (h1:PS X st t):PSs X [st] t:=by
 intro pins s σ H D I h
 refine wpAny_execs_cons (jL (h1 pins s σ H D I h) fun f s1 q=>?_)
 cases f with
 |next=>exact wpAny_execs_nil q
 |ret v=>exact q
 |brk=>exact q
 |cont=>exact q
theorem Inv.quiet {pins:List (Addr×Obj)} {σ:St} {H:Hp} {s:Shared} (I:Inv X pins σ H s):interactive X.env=false:=by simp [interactive,I.ok.kind]
def IE (te:TE):TS:=fun D σ H=>te σ H fun _ H1=>D.nx σ H1
theorem qH (he:PE X e te) (hs:swapsWith e none pos.line X.env=pure false:=by rfl):PS X (.Expr e pos) (IE te):=by
 intro pins s σ H D I h
 exact wpAny_Expr_any (jL (he pins s σ H _ I h) fun v s1 ⟨x,H1,I1,r1,q1⟩=>⟨σ,H1,I1,q1⟩) I.quiet hs
def KJ (te:TE):TS:=fun D σ H=>te σ H D.rt
theorem jO (he:PE X e te):PS X (.Return (some e) pos) (KJ te):=by
 intro pins s σ H D I h
 exact wpAny_Return_some (jL (he pins s σ H _ I h) fun v s1 ⟨x,H1,I1,r1,q1⟩=>⟨x,σ,H1,I1,r1,q1⟩)
def KN (c:TT) (t u:TS):TS:=fun D σ H=>c σ H fun b H1=>if b=true then t D σ H1 else u D σ H1
theorem j9 {c:Expr} {a b:List Stmt} {tc:TT} (hc:PT X c tc) (ha:PSs X a t) (hb:PSs X b u):PS X (.If c a b pos) (KN tc t u):=by
 intro pins s σ H D I h
 refine wpAny_If (jL (hc pins s σ H _ I h) fun d s1 ⟨H1,I1,q1⟩=>?_)
 cases d with
 |true=>exact ha pins s1 σ H1 D I1 q1
 |false=>exact hb pins s1 σ H1 D I1 q1
def G4:TS:=fun _ _ _=>False
theorem vU:PS X st G4:=fun _ _ _ _ _ _ h=>h.elim
end
abbrev TG:=V→St→Hp→(St→Hp→Prop)→Prop
abbrev QQ:=List V→St→Hp→(St→Hp→Prop)→Prop
def PG (X:Cx) (target:Expr) (t:TG):Prop :=
 ∀(pins:List (Addr×Obj)) (s:Shared) (σ:St) (H:Hp) (v:V) (u:Value) (Q:St→Hp→Prop),Inv X pins σ H s→RelV v u→t v σ H Q→
  wpAny (model X.prog X.w) X.A (assign target X.env u) (fun _ s'=>∃σ' H',Inv X pins σ' H' s'∧Q σ' H') X.xe s
def gA (X:Cx) (ts:List Expr) (t:QQ):Prop :=
 ∀(pins:List (Addr×Obj)) (s:Shared) (σ:St) (H:Hp) (vs:List V) (us:List Value) (Q:St→Hp→Prop),Inv X pins σ H s→Vals vs us→t vs σ H Q→
  wpAny (model X.prog X.w) X.A (assignInOrder ((assignEach ts X.env).map (·.2)) us) (fun _ s'=>∃σ' H',Inv X pins σ' H' s'∧Q σ' H') X.xe s
abbrev dL:=V→V→V→Hp→(Hp→Prop)→Prop
def lW (X:Cx) (t:dL):Prop :=
 ∀(pins:List (Addr×Obj)) (s:Shared) (σ:St) (H:Hp) (o i v:V) (ov iv u:Value) (Q:Hp→Prop),Inv X pins σ H s→RelV o ov→RelV i iv→RelV v u→t o i v H Q→
  wpAny (model X.prog X.w) X.A (setItem ov iv u) (fun _ s'=>∃H',Inv X pins σ H' s'∧Q H') X.xe s
abbrev fY:=V→V→Hp→VK→Prop
def mD (X:Cx) (op:Operator) (t:fY):Prop :=
 ∀(pins:List (Addr×Obj)) (s:Shared) (σ:St) (H:Hp) (x y:V) (v u:Value) (Q:VK),Inv X pins σ H s→RelV x v→RelV y u→t x y H Q→
  wpAny (model X.prog X.w) X.A (inplaceOp op v u) (EP X pins σ Q) X.xe s
section
variable {X:Cx} {pos:Pos}
def bU (i:Nat):TG:=fun v σ H Q=>Q (σ.set i (some v)) H
theorem kF {i:Nat} {x:Str} (hN:X.N.Nodup) (hi:X.N[i]?=some x) (hx:dP X.env.scope x) (hf:X.fn x=true∨X.env.scope.names.lookup x=some .local:=by first|exact .inl rfl|exact .inr rfl|assumption):PG X (.Name x pos) (bU i):=by
 intro pins s σ H v u Q I r h
 exact wpAny_assign_Name (pA I hN hi hx r (fun s' I'=>⟨_,H,I',h⟩) hf)
def LB:QQ:=fun vs σ H Q=>vs=[]∧Q σ H
def I0 (t:TG) (u:QQ):QQ:=fun vs σ H Q=>∃v r,vs=v::r∧t v σ H fun σ' H'=>u r σ' H' Q
theorem bD:gA X [] LB:=by
 intro pins s σ H vs us Q I r h
 obtain ⟨e,h⟩:=h
 subst e
 cases r
 exact assignInOrder_nil ⟨σ,H,I,h⟩
theorem v4 {e:Expr} {es:List Expr} {t:TG} {u:QQ} (h1:PG X e t) (h2:gA X es u)
  (hs:(assignEach (e::es) X.env).map (·.2)=assign e X.env::(assignEach es X.env).map (·.2):=by rfl):gA X (e::es) (I0 t u):=by
 intro pins s σ H vs us Q I r h
 obtain ⟨v,vr,e1,h⟩:=h
 subst e1
 cases r with
 |cons r rr =>
  rw [hs]
  refine assignInOrder_cons (jL (h1 pins s σ H _ _ _ I r h) fun _ s1 ⟨σ1,H1,I1,q1⟩=>?_)
  exact h2 pins s1 σ1 H1 _ _ Q I1 rr q1
def K9 (K:PySem.W.Frag) (n:Nat) (t:QQ):TG:=fun v σ H Q=>∃a xs,v=.ref a∧SqT K H a xs∧xs.length=n∧t xs σ H Q
theorem bH {es:List Expr} {k:Nat} {t:QQ} {n:Nat} (hc:X.calm=true) (h:gA X es t)
  (hn:(assignEach es X.env).length=n:=by rfl) (hst:(assignEach es X.env).findIdx? (·.1)=none:=by rfl):PG X (.Tuple es k pos) (K9 X.K n t):=by
 intro pins s σ H v u Q I r hw
 obtain ⟨a,xs,e1,hq,hl,hw⟩:=hw
 subst e1
 cases r
 obtain ⟨its,rv,ht,hz⟩:=I.tuple hq
 refine assign_Tuple_tuple (I.ok.hd hc) ht (by simp [hn,← hl,rv.length]) hst fun h' hx=>?_
 have I1:Inv X pins σ H {s with heap:=h'}:=I.kept (t':=s.toks) fun b o e=>hx b o (Nat.ne_of_lt (Heap.lt_size e)) e
 exact h pins _ σ H xs _ Q I1 (by simpa using rv) hw
def LA (to ti:TE) (t:dL):TG:=fun v σ H Q=>to σ H fun o H1=>ti σ H1 fun i H2=>t o i v H2 fun H3=>Q σ H3
theorem bI {o i:Expr} {to ti:TE} {t:dL} (ho:PE X o to) (hi:PE X i ti) (hs:lW X t)
  (ha:∀v,assign (.Subscript o i pos) X.env v=(do
   let ov ← holding [v] (eval o X.env)
   let iv ← holding [v,ov] (eval i X.env)
   standAt pos
   holding [v,ov,iv] (setItem ov iv v)
   release [v,ov,iv] []):=by intro _;rfl):PG X (.Subscript o i pos) (LA to ti t):=by
 intro pins s σ H v u Q I r h
 rw [ha]
 refine wpAny_bind (wpAny_holding (jL (ho pins s σ H _ I h) fun ov s1 ⟨x,H1,I1,r1,q1⟩=>?_))
 refine wpAny_bind (wpAny_holding (jL (hi pins s1 σ H1 _ I1 q1) fun iv s2 ⟨y,H2,I2,r2,q2⟩=>?_))
 refine wpAny_bind (wpAny_standAt (wpAny_bind (wpAny_holding (jL (hs pins s2 σ H2 x y v ov iv u _ I2 r1 r2 r q2) fun _ s3 ⟨H3,I3,q3⟩=>?_))))
 exact wpAny_release ⟨σ,H3,I3,q3⟩
def tN (te:TE) (g:TG):TS:=fun D σ H=>te σ H fun x H1=>g x σ H1 D.nx
theorem bG {tg e:Expr} {te:TE} {g:TG} (he:PE X e te) (hg:PG X tg g) (hs:swapsWithSole [tg] e pos.line X.env=pure false:=by rfl) (hw:swappedStores [tg] e X.env=pure none:=by rfl)
  (h1:(assignEach [tg] X.env).map (·.2)=[assign tg X.env]:=by rfl):PS X (.Assign [tg] e pos) (tN te g):=by
 intro pins s σ H D I h
 refine wpAny_Assign_stores (jL (he pins s σ H _ I h) fun v s1 ⟨x,H1,I1,r1,q1⟩=>?_) hs hw
 rw [h1]
 exact jL (hg pins s1 σ H1 x v _ I1 r1 q1) fun _ s2 q=>q
theorem jV {i:Nat} {x:Str} {e:Expr} {te:TE} {pos':Pos} (hN:X.N.Nodup) (hi:X.N[i]?=some x) (hx:dP X.env.scope x) (he:PE X e te) (hs:swapsWith e (some (.Name x pos')) pos.line X.env=pure false:=by rfl) (hf:X.fn x=true∨X.env.scope.names.lookup x=some .local:=by first|exact .inl rfl|exact .inr rfl|assumption) :
  PS X (.Assign [.Name x pos'] e pos) (tN te (bU i)):=by
 intro pins s σ H D I h
 refine wpAny_Assign_Name (jL (he pins s σ H _ I h) fun v s1 ⟨y,H1,I1,r1,q1⟩=>?_) hs
 exact pA I1 hN hi hx r1 (fun s2 I2=>⟨_,H1,I2,q1⟩) hf
def IH (to ti te:TE) (tget:V→V→Hp→VK→Prop) (tip:fY) (tset:dL):TS:=fun D σ H=>to σ H fun o H1=>ti σ H1 fun i H2=>tget o i H2 fun x H3=>te σ H3 fun y H4=>tip x y H4 fun z H5=>tset o i z H5 fun H6=>D.nx σ H6
def tW (X:Cx) (t:V→V→Hp→VK→Prop):Prop :=
 ∀(pins:List (Addr×Obj)) (s:Shared) (σ:St) (H:Hp) (o i:V) (ov iv:Value) (Q:VK),Inv X pins σ H s→RelV o ov→RelV i iv→t o i H Q→
  wpAny (model X.prog X.w) X.A (getItem ov iv) (EP X pins σ Q) X.xe s
theorem iY {o i e:Expr} {to ti te:TE} {tget:V→V→Hp→VK→Prop} {tip:fY} {tset:dL} {op:Operator} {tpos:Pos} (ho:PE X o to) (hi:PE X i ti) (hg:tW X tget) (he:PE X e te) (hp:mD X op tip) (hs:lW X tset)
  (ha:∀ov iv new,augStore i ov iv new=(do holding [new,ov,iv] (setItem ov iv new);release [new,ov,iv] [];pure .next):=by intros;rfl):PS X (.AugAssign (.Subscript o i tpos) op e pos) (IH to ti te tget tip tset):=by
 intro pins s σ H D I h
 refine wpAny_AugAssign_SubscriptAny (jL (ho pins s σ H _ I h) fun ov s1 ⟨x1,H1,I1,r1,q1⟩=>?_) ha
 refine jL (hi pins s1 σ H1 _ I1 q1) fun iv s2 ⟨x2,H2,I2,r2,q2⟩=>?_
 refine jL (hg pins s2 σ H2 x1 x2 ov iv _ I2 r1 r2 q2) fun old s3 ⟨x3,H3,I3,r3,q3⟩=>?_
 refine jL (he pins s3 σ H3 _ I3 q3) fun v s4 ⟨x4,H4,I4,r4,q4⟩=>?_
 refine jL (hp pins s4 σ H4 x3 x4 old v _ I4 r3 r4 q4) fun new s5 ⟨x5,H5,I5,r5,q5⟩=>?_
 exact jL (hs pins s5 σ H5 x1 x2 x5 ov iv new _ I5 r1 r2 r5 q5) fun _ s6 ⟨H6,I6,q6⟩=>⟨σ,H6,I6,q6⟩
def t4 (f:Int→Int→Int):fY:=fun x y H Q=>∃i j,x=.int i∧y=.int j∧Q (.int (f i j)) H
theorem sQ:mD X .Add (t4 fun i j=>i+j):=by
 intro pins s σ H x y v u Q I r1 r2 h
 obtain ⟨i,j,e1,e2,q⟩:=h
 subst e1;subst e2
 obtain ⟨t,rfl⟩:=r1
 obtain ⟨t',rfl⟩:=r2
 exact iadd_int ⟨.int _,H,I.tok _,⟨_,rfl⟩,q⟩
theorem HY:mD X .Sub (t4 fun i j=>i - j):=by
 intro pins s σ H x y v u Q I r1 r2 h
 obtain ⟨i,j,e1,e2,q⟩:=h
 subst e1;subst e2
 obtain ⟨t,rfl⟩:=r1
 obtain ⟨t',rfl⟩:=r2
 exact isub_int ⟨.int _,H,I.tok _,⟨_,rfl⟩,q⟩
end
section
variable {X:Cx} {pos:Pos}
end
structure It where
 go:Nat→Hp→Prop
 yld:Nat→Hp→V→Hp→Prop
 stop:Nat→Hp→Prop
def yU (X:Cx) (pins:List (Addr×Obj)) (H:Hp) (b:Addr):Prop :=
 H b=none∧b≠X.env.locals∧b∉X.fs∧(b∈X.ex∨X.s₀.heap.objs.size≤b)∧(∀x c,X.env.cells.lookup x=some c→c≠b)∧∀p∈X.pn++pins,p.1≠b
theorem Inv.fpOk {X:Cx} {pins:List (Addr×Obj)} {σ:St} {H H':Hp} {s:Shared} {b:Addr} (I:Inv X pins σ H s) (hb:s.heap.objs.size≤b) (hn:H' b=none):yU X pins H' b:=by
 refine ⟨hn,Nat.ne_of_gt (Nat.lt_of_lt_of_le I.lt hb),I.nofs hb,.inr (Nat.le_trans I.sz hb),fun x c e z=>?_,fun p hp z=>?_⟩
 ·obtain ⟨v,q⟩:=I.cell x c e
  exact absurd (Nat.lt_of_lt_of_le q.lt (by rw [z];exact hb)) (Nat.lt_irrefl _)
 ·exact absurd (Nat.lt_of_lt_of_le (Heap.lt_size (I.pin p hp).1) (by rw [z];exact hb)) (Nat.lt_irrefl _)
structure Turn (P:Program) (w:World) (K:PySem.W.Frag) (tg:Expr) (J:It) (fp:List Addr) (it:Addr) (tn:Nat→Heap→Prop):Prop where
 mem:it∈fp
 obj:∀i h,tn i h→∀b∈fp,∃o,h.get? b=some o∧∀v,o.data≠.cell v
 keep:∀i h h',tn i h→(∀b∈fp,∀o,h.get? b=some o→h'.get? b=some o)→tn i h'
 item:∀(X:Cx),X.prog=P→X.w=w→X.K=K→X.calm=true→∀(i:Nat) (pins:List (Addr×Obj)) (s:Shared) (σ:St) (H:Hp) (E:Value→Shared→Prop),Inv X pins σ H s→(∀b∈fp,yU X pins H b)→tn i s.heap→J.go i H→
  wpAny (model P w) X.A (pyNext (.ref it)) (fun r s1=>∃u,r=some u∧
   wpAny (model P w) X.A (letOwnedTupleGo tg (.ref it) u) (fun _ s2=>∃x H',Inv X pins σ H' s2∧RelV x u∧J.yld i H x H'∧tn (i+1) s2.heap∧∀b∈fp,H' b=none) E s1) E s
 done:∀(X:Cx),X.prog=P→X.w=w→X.K=K→X.calm=true→∀(i:Nat) (pins:List (Addr×Obj)) (s:Shared) (σ:St) (H:Hp) (E:Value→Shared→Prop),Inv X pins σ H s→(∀b∈fp,yU X pins H b)→tn i s.heap→J.stop i H→
  wpAny (model P w) X.A (pyNext (.ref it)) (fun r s1=>r=none∧Inv X pins σ H s1) E s
 self:∀(A:Around) (i:Nat) (s:Shared) (Q:Value→Shared→Prop) (E:Value→Shared→Prop),tn i s.heap→Q (.ref it) s→wpAny (model P w) A (pyIter (.ref it)) Q E s
abbrev TI:=St→Hp→(It→Hp→Prop)→Prop
def fZ (X:Cx) (pins:List (Addr×Obj)) (σ:St) (tg:Expr) (R:It→Hp→Prop) (itv:Value) (s2:Shared):Prop :=
 ∃(it:Addr) (fp:List Addr) (tn:Nat→Heap→Prop) (J:It) (H':Hp),itv=.ref it∧Inv X pins σ H' s2∧Turn X.prog X.w X.K tg J fp it tn∧tn 0 s2.heap∧(∀b∈fp,yU X pins H' b)∧R J H'
def PI (X:Cx) (tg iter:Expr) (wi:TI):Prop :=
 ∀(pins:List (Addr×Obj)) (s:Shared) (σ:St) (H:Hp) (R:It→Hp→Prop),Inv X pins σ H s→wi σ H R→
  wpAny (model X.prog X.w) X.A (eval iter X.env) (fun v s1=>wpAny (model X.prog X.w) X.A (pyIter v) (fZ X pins σ tg R) X.xe s1) X.xe s
theorem dH {M:Model} {A:Around} {E:Value→Shared→Prop} {s:Shared} {tg:Expr} {it:Addr} {u:Value} {o:Obj} {n:String} {vs:Array Value} {Q:Unit→Shared→Prop} (ho:s.heap.get? it=some o) (hc:o.cls=.type n) (hd:o.data=.fields vs)
    (hn:["enumerate","zip","dict_itemiterator","dict_reverseitemiterator","odict_iterator","itertools.zip_longest","itertools.pairwise"].contains n=false) (hQ:Q () s):wpAny M A (letOwnedTupleGo tg (.ref it) u) Q E s:=by
  unfold letOwnedTupleGo
  cases tg<;>first
    |exact wpAny_pure hQ
    | (cases u<;>first
        |exact wpAny_pure hQ
        | (refine wpAny_bind (wpAny_load ho ?_)
           rw [hc,hd]
           show wpAny M A (if (["enumerate","zip","dict_itemiterator","dict_reverseitemiterator","odict_iterator","itertools.zip_longest","itertools.pairwise"].contains n&&vs[0]? == some (rawInt _))=true then _ else _) Q E s
           rw [if_neg (by intro h;rw [hn,Bool.false_and] at h;cases h)]
           exact wpAny_pure hQ))
def QR (K:PySem.W.Frag) (a:Addr):It :=
 ⟨fun i H=>∃xs x,SqL K H a xs∧xs[i]?=some x,fun i H x H'=>H'=H∧∀xs,SqL K H a xs→xs[i]?=some x,fun i H=>∃xs,SqL K H a xs∧xs.length≤i⟩
def gC (K:PySem.W.Frag) (a:Addr):It :=
 ⟨fun i H=>∃xs x,SqT K H a xs∧xs[i]?=some x,fun i H x H'=>H'=H∧∀xs,SqT K H a xs→xs[i]?=some x,fun i H=>∃xs,SqT K H a xs∧xs.length≤i⟩
def JS (lo:Int) (n:Nat):It:=⟨fun i _=>i<n,fun i H x H'=>H'=H∧x=.int (lo+i),fun i _=>n≤i⟩
theorem C1 {P:Program} {w:World} {K:PySem.W.Frag} {tg:Expr} (a it:Addr):Turn P w K tg (QR K a) [it] it (fun i h=>h.IsListIter it a i) where
 mem:=by simp
 obj:=fun i h st b hb=>by
  have e:b=it:=by simpa using hb
  subst e
  obtain ⟨o,e,c,d⟩:=st
  exact ⟨o,e,fun v z=>by rw [d] at z;cases z⟩
 keep:=fun i h h' st k=>st.at fun o e=>k it (by simp) o e
 item:=by
  intro X hP hw hK hc i pins s σ H E I hf st hg
  subst hP hw hK
  obtain ⟨xs,x,hq,hx⟩:=hg
  obtain ⟨its,rv,p,hz⟩:=I.list hq
  obtain ⟨u,hu,ru⟩:=rv.get hx
  obtain ⟨f0,f1,f2,f3,f4,f5⟩:=hf it (by simp)
  refine wpAny_pyNext_list_item st p.isList (x:=u) (by simpa using hu) fun h' st' sb=>?_
  have I1:Inv X pins σ H {s with heap:=h'}:=I.turned (t':=s.toks) (fun b o hb e=>(sb.2 b hb).trans e) f0 f1 f3 f4 f5
  obtain ⟨o,e,c,d⟩:=id st'
  exact ⟨u,rfl,dH (s:={s with heap:=h'}) e c d (by decide) ⟨x,H,I1,ru,⟨rfl,fun ys hy=>by rw [I.list_inj hy hq];exact hx⟩,st',fun b hb=>(hf b hb).1⟩⟩
 done:=by
  intro X hP hw hK hc i pins s σ H E I hf st hg
  subst hP hw hK
  obtain ⟨xs,hq,hx⟩:=hg
  obtain ⟨its,rv,p,hz⟩:=I.list hq
  obtain ⟨f0,f1,f2,f3,f4,f5⟩:=hf it (by simp)
  have hl:=rv.length
  exact wpAny_pyNext_list_end (I.ok.hd hc) st p.isList (by simp;omega) fun h' eb=>⟨rfl,I.turned (t':=s.toks) (fun b o hb e=>eb b o hb e) f0 f1 f3 f4 f5⟩
 self:=fun _ _ _ _ _ st h=>wpAny_pyIter_listiter st h
theorem BV {P:Program} {w:World} {K:PySem.W.Frag} {tg:Expr} (a it:Addr):Turn P w K tg (gC K a) [it] it (fun i h=>h.IsTupleIter it a i) where
 mem:=by simp
 obj:=fun i h st b hb=>by
  have e:b=it:=by simpa using hb
  subst e
  obtain ⟨o,e,c,d⟩:=st
  exact ⟨o,e,fun v z=>by rw [d] at z;cases z⟩
 keep:=fun i h h' st k=>st.at fun o e=>k it (by simp) o e
 item:=by
  intro X hP hw hK hc i pins s σ H E I hf st hg
  subst hP hw hK
  obtain ⟨xs,x,hq,hx⟩:=hg
  obtain ⟨its,rv,p,hz⟩:=I.tuple hq
  obtain ⟨u,hu,ru⟩:=rv.get hx
  obtain ⟨f0,f1,f2,f3,f4,f5⟩:=hf it (by simp)
  refine wpAny_pyNext_tuple_item st (show s.heap.IsTuple a its.toArray from p) (x:=u) (by simpa using hu) fun h' st' sb=>?_
  have I1:Inv X pins σ H {s with heap:=h'}:=I.turned (t':=s.toks) (fun b o hb e=>(sb.2 b hb).trans e) f0 f1 f3 f4 f5
  obtain ⟨o,e,c,d⟩:=id st'
  exact ⟨u,rfl,dH (s:={s with heap:=h'}) e c d (by decide) ⟨x,H,I1,ru,⟨rfl,fun ys hy=>by rw [I.tuple_inj hy hq];exact hx⟩,st',fun b hb=>(hf b hb).1⟩⟩
 done:=by
  intro X hP hw hK hc i pins s σ H E I hf st hg
  subst hP hw hK
  obtain ⟨xs,hq,hx⟩:=hg
  obtain ⟨its,rv,p,hz⟩:=I.tuple hq
  obtain ⟨f0,f1,f2,f3,f4,f5⟩:=hf it (by simp)
  have hl:=rv.length
  exact wpAny_pyNext_tuple_end (I.ok.hd hc) st (show s.heap.IsTuple a its.toArray from p) (by simp;omega) fun h' eb=>⟨rfl,I.turned (t':=s.toks) (fun b o hb e=>eb b o hb e) f0 f1 f3 f4 f5⟩
 self:=fun _ _ _ _ _ st h=>wpAny_pyIter_tupleiter st h
theorem BW {P:Program} {w:World} {K:PySem.W.Frag} {tg:Expr} (it:Addr) (lo:Int) (n:Nat):Turn P w K tg (JS lo n) [it] it (fun i h=>IsRangeIter h it (lo+(i:Nat)*1) ((n:Int) - (i:Nat)) 1) where
 mem:=by simp
 obj:=fun i h st b hb=>by
  have e:b=it:=by simpa using hb
  subst e
  exact ⟨_,st,fun v z=>by
   have z':Data.fields _=Data.cell v:=z
   cases z'⟩
 keep:=fun i h h' st k=>k it (by simp) _ st
 item:=by
  intro X hP hw hK hc i pins s σ H E I hf st hg
  subst hP hw hK
  obtain ⟨f0,f1,f2,f3,f4,f5⟩:=hf it (by simp)
  have W:=Walks.range (prog:=X.prog) (w:=X.w) (I.ok.hd hc) it lo 1 n
  refine W.item i s _ _ hg st fun v h' tk hv st' kk=>?_
  obtain ⟨t,rfl⟩:=hv
  have I1:Inv X pins σ H {s with heap:=h',toks:=tk}:=I.turned (fun b o hb e=>kk b o (by simpa using hb) e) f0 f1 f3 f4 f5
  refine ⟨_,rfl,dH (s:={s with heap:=h',toks:=tk}) (n:="range_iterator") st' rfl rfl (by decide) ⟨.int (lo+i),H,I1,⟨t,?_⟩,⟨rfl,rfl⟩,st',fun b hb=>(hf b hb).1⟩⟩
  rw [Int.mul_one]
 done:=by
  intro X hP hw hK hc i pins s σ H E I hf st hg
  subst hP hw hK
  obtain ⟨f0,f1,f2,f3,f4,f5⟩:=hf it (by simp)
  exact wpAny_pyNext_range_end (I.ok.hd hc) st (by have:n≤i:=hg;omega) fun h' eb=>⟨rfl,I.turned (t':=s.toks) (fun b o hb e=>eb b o hb e) f0 f1 f3 f4 f5⟩
 self:=fun _ _ _ _ _ st h=>wpAny_pyIter_rangeiter st h
end L2
namespace L2
open PySem PySem.Spec PyProof.Rows
section
variable {X:Cx} {tg:Expr}
def IX (K:PySem.W.Frag) (tl:TE):TI:=fun σ H R=>tl σ H fun x H1=>∃a,x=.ref a∧(∃xs,SqL K H1 a xs)∧R (QR K a) H1
def K7 (K:PySem.W.Frag) (tl:TE):TI:=fun σ H R=>tl σ H fun x H1=>∃a,x=.ref a∧(∃xs,SqT K H1 a xs)∧R (gC K a) H1
theorem qC {l:Expr} {tl:TE} (hl:PE X l tl):PI X tg l (IX X.K tl):=by
 intro pins s σ H R I h
 refine jL (hl pins s σ H _ I h) fun v s1 ⟨x,H1,I1,r1,q1⟩=>?_
 obtain ⟨a,e,⟨xs,hq⟩,q⟩:=q1
 subst e
 cases r1
 obtain ⟨its,rv,p,hz⟩:=I1.list hq
 refine wpAny_pyIter_list p.isList ?_
 refine ⟨s1.heap.objs.size,[s1.heap.objs.size],_,_,H1,rfl,I1.kept (t':=s1.toks) fun b o e=>Heap.get?_push_of_some _ e,C1 a _,⟨_,Heap.get?_push_size _ rfl,rfl,rfl⟩,fun b hb=>?_,q⟩
 have e:b=s1.heap.objs.size:=by simpa using hb
 subst e
 exact I1.fpOk (Nat.le_refl _) (I1.hok.fresh (Nat.le_refl _))
theorem sP {l:Expr} {tl:TE} (hl:PE X l tl):PI X tg l (K7 X.K tl):=by
 intro pins s σ H R I h
 refine jL (hl pins s σ H _ I h) fun v s1 ⟨x,H1,I1,r1,q1⟩=>?_
 obtain ⟨a,e,⟨xs,hq⟩,q⟩:=q1
 subst e
 cases r1
 obtain ⟨its,rv,p,hz⟩:=I1.tuple hq
 refine wpAny_pyIter_tuple (show s1.heap.IsTuple a its.toArray from p) ?_
 refine ⟨s1.heap.objs.size,[s1.heap.objs.size],_,_,H1,rfl,I1.kept (t':=s1.toks) fun b o e=>Heap.get?_push_of_some _ e,BV a _,⟨_,Heap.get?_push_size _ rfl,rfl,rfl⟩,fun b hb=>?_,q⟩
 have e:b=s1.heap.objs.size:=by simpa using hb
 subst e
 exact I1.fpOk (Nat.le_refl _) (I1.hok.fresh (Nat.le_refl _))
theorem ER {pins:List (Addr×Obj)} {σ:St} {H:Hp} {s:Shared} {R:It→Hp→Prop} {E:Value→Shared→Prop} {lo hi:Int} {t u v:Tok} {tk:Nat} (I:Inv X pins σ H s) (h1 : -(2 ^ 62)≤lo) (h2:lo<2 ^ 62) (h3 : -(2 ^ 62)≤hi) (h4:hi<2 ^ 62)
    (q:R (JS lo (hi - lo).toNat) H):wpAny (model X.prog X.w) X.A (pyIter (.ref s.heap.objs.size)) (fZ X pins σ tg R) E {s with heap:=s.heap.push {cls:=.type "range",data:=.fields #[.int lo t,.int hi u,.int 1 v]},toks:=tk}:=by
  refine wpAny_pyIter_range (IsRange.new ..) (small_one h1 h2 h3 h4) ?_
  have I1:Inv X pins σ H {s with heap:=s.heap.push {cls:=.type "range",data:=.fields #[.int lo t,.int hi u,.int 1 v]},toks:=tk}:=I.kept fun b o e=>Heap.get?_push_of_some _ e
  refine ⟨(s.heap.push {cls:=.type "range",data:=.fields #[.int lo t,.int hi u,.int 1 v]}).objs.size,[(s.heap.push {cls:=.type "range",data:=.fields #[.int lo t,.int hi u,.int 1 v]}).objs.size],_,_,H,rfl,
    I1.kept (t':=tk) fun b o e=>Heap.get?_push_of_some _ e,BW _ lo (hi - lo).toNat,?_,fun b hb=>?_,q⟩
  · have e1:lo+((0:Nat):Int)*1=lo:=by simp
    have e2:(((hi - lo).toNat:Nat):Int) - ((0:Nat):Int)=Builtin.Range.rangeSize lo hi 1:=by rw [rangeSize_one];split<;>omega
    show IsRangeIter _ _ (lo+((0:Nat):Int)*1) ((((hi - lo).toNat:Nat):Int) - ((0:Nat):Int)) 1
    rw [e1,e2]
    exact Heap.get?_push_size _ rfl
  · have e:b=(s.heap.push {cls:=.type "range",data:=.fields #[.int lo t,.int hi u,.int 1 v]}).objs.size:=by simpa using hb
    subst e
    exact I1.fpOk (Nat.le_refl _) (I1.hok.fresh (Nat.le_refl _))
def IW (ta:TA):TI:=fun σ H R=>ta σ H fun vs H1=>∃j:Int,vs=[.int j]∧-(2 ^ 62)≤j∧j<2 ^ 62∧R (JS 0 j.toNat) H1
theorem zE {a:Expr} {ta:TA} {p pos:Pos} (hg:Gl X "range") (hm:X.mg "range"=none) (ha:PA X [a] ta) (hs:starEach [a] X.env=[(false,eval a X.env)]:=by rfl):PI X tg (.Call (.Name "range" p) [a] [] pos) (IW ta):=by
 intro pins s σ H R I h
 refine Call_ (y4 I hg hm boot_range (PyProof.Rows.callWith_type1 (jL (ha pos pins s σ H _ I h) fun us s1 ⟨vs,H1,I1,r1,q1⟩=>?_) hs rfl))
 obtain ⟨j,e,q1,q2,q⟩:=q1
 subst e
 cases r1 with
 |cons r rr =>
  cases rr
  obtain ⟨t,rfl⟩:=r
  exact call_range_1 (ER I1 (by omega) (by omega) q1 q2 (by simpa using q))
def KO (wi:TI) (g:TG) (tb:TS):TS:=fun D σ H=>wi σ H fun J H1=>∃W:Nat→Nat→St→Hp→Prop,(∃m,W 0 m σ H1)∧∀i m σ H,W i m σ H→
 (J.stop i H∧D.nx σ H)∨(J.go i H∧∃N:St→Hp→Prop,(∀σ' H',N σ' H'→∃m',m'<m∧W (i+1) m' σ' H')∧∀x H',J.yld i H x H'→g x σ H' fun σ2 H2=>tb {D with nx:=N,ct:=N,bk:=D.nx} σ2 H2)
def cZ (fp:List Addr) (h:Heap):List (Addr×Obj):=fp.filterMap fun b=>(h.get? b).map fun o=>(b,o)
theorem eC {fp:List Addr} {h:Heap} {b:Addr} {o:Obj} (hb:b∈fp) (e:h.get? b=some o):(b,o)∈cZ fp h:=List.mem_filterMap.mpr ⟨b,hb,by rw [e];rfl⟩
theorem DJ {fp:List Addr} {h:Heap} {p:Addr×Obj} (hp:p∈cZ fp h):p.1∈fp∧h.get? p.1=some p.2:=by
 obtain ⟨b,hb,e⟩:=List.mem_filterMap.mp hp
 cases q:h.get? b with
 |none=>rw [q] at e;cases e
 |some o =>
  rw [q] at e
  have e':(b,o)=p:=Option.some.inj e
  subst e'
  exact ⟨hb,q⟩
theorem Inv.pinned {pins:List (Addr×Obj)} {σ:St} {H:Hp} {s:Shared} {fp:List Addr} (I:Inv X pins σ H s) (hf:∀b∈fp,yU X pins H b) (ho:∀b∈fp,∃o,s.heap.get? b=some o∧∀v,o.data≠.cell v):Inv X (pins++cZ fp s.heap) σ H s :=
 I.pins_of fun p hp=>(List.mem_append.mp hp).elim (fun z=>I.pin p (List.mem_append_right _ z)) fun z=>by
  obtain ⟨hb,e⟩:=DJ z
  obtain ⟨f0,f1,f2,_⟩:=hf p.1 hb
  obtain ⟨o,e',d⟩:=ho p.1 hb
  rw [e] at e';cases e'
  exact ⟨e,f0,f1,f2,d⟩
theorem Inv.unpinned {pins pl:List (Addr×Obj)} {σ:St} {H:Hp} {s:Shared} (I:Inv X (pins++pl) σ H s):Inv X pins σ H s:=I.pins_of fun p hp=>I.pin p (List.mem_append_right _ (List.mem_append_left _ hp))
theorem vE {iter:Expr} {body:List Stmt} {wi:TI} {g:TG} {tb:TS} {pos:Pos} (hp:PassesOwn (model X.prog X.w) X.A X.env X.xe) (hc:X.calm=true) (hi:PI X tg iter wi) (hg:PG X tg g) (hb:PSs X body tb)
  (hs:∀x,foldedSetIterable iter X.env x=pure x:=by intro _;rfl):PS X (.For tg iter body [] pos) (KO wi g tb):=by
 intro pins s σ H D I h
 refine wpAny_For (jL (hi pins s σ H _ I h) fun v s1 h1=>jL h1 fun itv s2 h2=>?_) hs
 obtain ⟨it,fp,tn,J,H2,e,I2,T,st2,f2,W,⟨m0,w0⟩,turn⟩:=h2
 subst e
 have stat:∀{H':Hp},(∀b∈fp,H' b=none)→∀b∈fp,yU X pins H' b:=fun hn b hb=>⟨hn b hb,(f2 b hb).2⟩
 refine codeAny_forLoop_any (fun n s'=>∃i σ' H',Inv X pins σ' H' s'∧tn i s'.heap∧(∀b∈fp,H' b=none)∧W i n σ' H') ?_ m0 ⟨0,σ,H2,I2,st2,fun b hb=>(f2 b hb).1,w0⟩
 rintro n s3 ⟨i,σ3,H3,I3,st3,fr3,w3⟩
 rcases turn i n σ3 H3 w3 with ⟨stop,qn⟩|⟨go,N,hN,step⟩
 ·refine wpAny_passesOwn hp (jL (T.done X rfl rfl rfl hc i pins s3 σ3 H3 X.xe I3 (stat fr3) st3 stop) fun r s4 ⟨hr,I4⟩=>?_)
  subst hr
  exact wpAny_execs_nil ⟨σ3,H3,I4,qn⟩
 ·refine wpAny_passesOwn hp (jL (T.item X rfl rfl rfl hc i pins s3 σ3 H3 X.xe I3 (stat fr3) st3 go) fun r s4 ⟨u,hr,h4⟩=>?_)
  subst hr
  refine wpAny_passesOwn hp (jL h4 fun _ s5 ⟨x,H5,I5,r5,y5,st5,fr5⟩=>?_)
  have I5':=I5.pinned (stat fr5) (T.obj _ _ st5)
  refine wpAny_passesOwn hp (jL (hg _ s5 σ3 H5 x u _ I5' r5 (step x H5 y5)) fun _ s6 ⟨σ6,H6,I6,q6⟩=>?_)
  refine wpAny_passesOwn hp (jL (hb _ s6 σ6 H6 _ I6 q6) fun f s7 q7=>?_)
  have again:∀{σ7:St} {H7:Hp},Inv X (pins++cZ fp s5.heap) σ7 H7 s7→N σ7 H7→∃m,m<n∧∃i σ' H',Inv X pins σ' H' s7∧tn i s7.heap∧(∀b∈fp,H' b=none)∧W i m σ' H':=fun {σ7 H7} I7 n7=>by
   obtain ⟨m',hm,w7⟩:=hN σ7 H7 n7
   refine ⟨m',hm,i+1,σ7,H7,I7.unpinned,T.keep _ _ _ st5 fun b hb o e=>(I7.pin (b,o) (List.mem_append_right _ (List.mem_append_right _ (eC hb e)))).1,fun b hb=>?_,w7⟩
   obtain ⟨o,e,d⟩:=T.obj _ _ st5 b hb
   exact (I7.pin (b,o) (List.mem_append_right _ (List.mem_append_right _ (eC hb e)))).2.1
  cases f with
  |next=>obtain ⟨σ7,H7,I7,n7⟩:=q7;exact again I7 n7
  |cont=>obtain ⟨σ7,H7,I7,n7⟩:=q7;exact again I7 n7
  |brk=>obtain ⟨σ7,H7,I7,q7⟩:=q7;exact ⟨σ7,H7,I7.unpinned,q7⟩
  |ret v=>obtain ⟨x7,σ7,H7,I7,r7,q7⟩:=q7;exact ⟨x7,σ7,H7,I7.unpinned,r7,q7⟩
end
theorem bA {K:PySem.W.Frag} {a:Addr} {xs:List V} {g:TG} {tb:TS} {D:Ends} {σ:St} {H:Hp} (Pv:Nat→St→Hp→Prop) (h0:Pv 0 σ H) (hl:∀i σ H,i≤xs.length→Pv i σ H→SqL K H a xs)
    (hs:∀i x σ H,xs[i]?=some x→Pv i σ H→g x σ H fun σ2 H2=>tb {D with nx:=Pv (i+1),ct:=Pv (i+1),bk:=D.nx} σ2 H2) (hd:∀σ H,Pv xs.length σ H→D.nx σ H) :
    ∃W:Nat→Nat→St→Hp→Prop,(∃m,W 0 m σ H)∧∀i m σ H,W i m σ H→
      ((QR K a).stop i H∧D.nx σ H)∨((QR K a).go i H∧∃N:St→Hp→Prop,(∀σ' H',N σ' H'→∃m',m'<m∧W (i+1) m' σ' H')∧∀x H',(QR K a).yld i H x H'→g x σ H' fun σ2 H2=>tb {D with nx:=N,ct:=N,bk:=D.nx} σ2 H2):=by
  refine ⟨fun i m σ H=>m=xs.length - i∧i≤xs.length∧Pv i σ H,⟨xs.length,by simp,Nat.zero_le _,h0⟩,?_⟩
  rintro i m σ H ⟨rfl,hi,p⟩
  have q:=hl i σ H hi p
  by_cases hlt:i<xs.length
  · refine .inr ⟨⟨xs,xs[i],q,by simp [hlt]⟩,Pv (i+1),fun σ' H' p'=>⟨xs.length - (i+1),by omega,rfl,hlt,p'⟩,fun x H' y=>?_⟩
    obtain ⟨e,y⟩:=y
    subst e
    exact hs i x σ _ (y xs q) p
  · have e:i=xs.length:=by omega
    subst e
    exact .inl ⟨⟨xs,q,Nat.le_refl _⟩,hd σ H p⟩
theorem zQ {lo:Int} {n:Nat} {g:TG} {tb:TS} {D:Ends} {σ:St} {H:Hp} (Pv:Nat→St→Hp→Prop) (h0:Pv 0 σ H)
  (hs:∀i σ H,i<n→Pv i σ H→g (.int (lo+i)) σ H fun σ2 H2=>tb {D with nx:=Pv (i+1),ct:=Pv (i+1),bk:=D.nx} σ2 H2) (hd:∀σ H,Pv n σ H→D.nx σ H) :
  ∃W:Nat→Nat→St→Hp→Prop,(∃m,W 0 m σ H)∧∀i m σ H,W i m σ H→
   ((JS lo n).stop i H∧D.nx σ H)∨((JS lo n).go i H∧∃N:St→Hp→Prop,(∀σ' H',N σ' H'→∃m',m'<m∧W (i+1) m' σ' H')∧∀x H',(JS lo n).yld i H x H'→g x σ H' fun σ2 H2=>tb {D with nx:=N,ct:=N,bk:=D.nx} σ2 H2):=by
 refine ⟨fun i m σ H=>m=n - i∧i≤n∧Pv i σ H,⟨n,by simp,Nat.zero_le _,h0⟩,?_⟩
 rintro i m σ H ⟨rfl,hi,p⟩
 by_cases hlt:i<n
 ·refine .inr ⟨hlt,Pv (i+1),fun σ' H' p'=>⟨n - (i+1),by omega,rfl,hlt,p'⟩,fun x H' y=>?_⟩
  obtain ⟨e,y⟩:=y
  subst e y
  exact hs i σ _ hlt p
 ·have e:i=n:=by omega
  subst e
  exact .inl ⟨Nat.le_refl _,hd σ H p⟩
end L2
namespace L2
open PySem PySem.Spec PyProof.Rows
abbrev R2:=V→V→Hp→VK→Prop
def OpR (X:Cx) (f:Value→Value→Sem Value) (r:R2):Prop :=
 ∀(pins:List (Addr×Obj)) (s:Shared) (σ:St) (H:Hp) (x y:V) (v u:Value) (Q:VK),Inv X pins σ H s→RelV x v→RelV y u→r x y H Q→
  wpAny (model X.prog X.w) X.A (f v u) (EP X pins σ Q) X.xe s
def mC (X:Cx) (f:Value→Sem Value) (r:V→Hp→VK→Prop):Prop :=
 ∀(pins:List (Addr×Obj)) (s:Shared) (σ:St) (H:Hp) (x:V) (v:Value) (Q:VK),Inv X pins σ H s→RelV x v→r x H Q→
  wpAny (model X.prog X.w) X.A (f v) (EP X pins σ Q) X.xe s
def CallR (X:Cx) (f:Value) (r:List V→Hp→VK→Prop):Prop :=
 ∀(pins:List (Addr×Obj)) (s:Shared) (σ:St) (H:Hp) (xs:List V) (us:List Value) (Q:VK),Inv X pins σ H s→Vals xs us→r xs H Q→
  wpAny (model X.prog X.w) X.A (call f us) (EP X pins σ Q) X.xe s
def LF (X:Cx) (r:V→Hp→(Bool→Hp→Prop)→Prop):Prop :=
 ∀(pins:List (Addr×Obj)) (s:Shared) (σ:St) (H:Hp) (x:V) (v:Value) (Q:Bool→Hp→Prop),Inv X pins σ H s→RelV x v→r x H Q→
  wpAny (model X.prog X.w) X.A (truthy v) (TP X pins σ Q) X.xe s
def fU (r:R2) (ta tb:TE):TE:=fun σ H Q=>ta σ H fun x H1=>tb σ H1 fun y H2=>r x y H2 Q
def LK (r:V→Hp→VK→Prop) (ta:TE):TE:=fun σ H Q=>ta σ H fun x H1=>r x H1 Q
def rI (C:Int→Int→Prop) (g:Int→Int→V):R2:=fun x y H Q=>∃i j,x=.int i∧y=.int j∧C i j∧Q (g i j) H
def JR (g:Int→Int→V):R2:=fun x y H Q=>∃i j,x=.int i∧y=.int j∧Q (g i j) H
def rU (g:Int→V):V→Hp→VK→Prop:=fun x H Q=>∃i,x=.int i∧Q (g i) H
section
variable {X:Cx} {a b c:Expr} {ta tb tc:TE} {pos:Pos}
theorem lU (ha:PE X a ta) (hb:PE X b tb) {pins:List (Addr×Obj)} {s:Shared} {σ:St} {H:Hp} {R:V→V→Hp→Prop} (I:Inv X pins σ H s)
  (h:ta σ H fun x H1=>tb σ H1 fun y H2=>R x y H2) {Q:Value→Shared→Prop} {f:Value→Value→Sem Value}
  (hf:∀v u s2 x y H2,Inv X pins σ H2 s2→RelV x v→RelV y u→R x y H2→wpAny (model X.prog X.w) X.A (f v u) Q X.xe s2) :
  wpAny (model X.prog X.w) X.A (eval a X.env) (fun v s₁=>wpAny (model X.prog X.w) X.A (eval b X.env) (fun u s₂=>wpAny (model X.prog X.w) X.A (f v u) Q X.xe s₂) X.xe s₁) X.xe s:=by
 refine jL (ha pins s σ H _ I h) fun v s1 ⟨x,H1,I1,r1,q1⟩=>?_
 refine jL (hb pins s1 σ H1 _ I1 q1) fun u s2 ⟨y,H2,I2,r2,q2⟩=>?_
 exact hf v u s2 x y H2 I2 r1 r2 q2
theorem jH {op:Operator} {r:R2} (ho:OpR X (binaryOp op) r) (ha:PE X a ta) (hb:PE X b tb):PE X (.BinOp a op b pos) (fU r ta tb):=by
 intro pins s σ H Q I h
 exact wpAny_BinOp (lU ha hb I h fun v u s2 x y H2 I2 rx ry q=>ho pins s2 σ H2 x y v u Q I2 rx ry q)
theorem fL {op:UnaryOp} {r:V→Hp→VK→Prop} (ho:mC X (unaryOp op) r) (ha:PE X a ta):PE X (.UnaryOp op a pos) (LK r ta):=by
 intro pins s σ H Q I h
 exact UnaryOp_ (jL (ha pins s σ H _ I h) fun v s1 ⟨x,H1,I1,r1,q1⟩=>ho pins s1 σ H1 x v Q I1 r1 q1)
theorem fV {f:Value→Value→Sem Value} {C:Int→Int→Prop} {g:Int→Int→Int}
  (rule:∀(i j:Int) (t u:Tok) (s:Shared) (Q:Value→Shared→Prop) (E:Value→Shared→Prop),C i j→Q (.int (g i j) s.toks) {s with toks:=s.toks+1}→wpAny (model X.prog X.w) X.A (f (.int i t) (.int j u)) Q E s) :
  OpR X f (rI C fun i j=>.int (g i j)):=by
 intro pins s σ H x y v u Q I rx ry h
 obtain ⟨i,j,rfl,rfl,hc,q⟩:=h
 obtain ⟨t,rfl⟩:=rx
 obtain ⟨t',rfl⟩:=ry
 exact rule i j t t' s _ _ hc ⟨.int (g i j),H,I.tok _,⟨_,rfl⟩,q⟩
theorem tS {f:Value→Value→Sem Value} {g:Int→Int→Int}
  (rule:∀(i j:Int) (t u:Tok) (s:Shared) (Q:Value→Shared→Prop) (E:Value→Shared→Prop),Q (.int (g i j) s.toks) {s with toks:=s.toks+1}→wpAny (model X.prog X.w) X.A (f (.int i t) (.int j u)) Q E s) :
  OpR X f (JR fun i j=>.int (g i j)):=by
 intro pins s σ H x y v u Q I rx ry h
 obtain ⟨i,j,rfl,rfl,q⟩:=h
 obtain ⟨t,rfl⟩:=rx
 obtain ⟨t',rfl⟩:=ry
 exact rule i j t t' s _ _ ⟨.int (g i j),H,I.tok _,⟨_,rfl⟩,q⟩
theorem fS {f:Value→Value→Sem Value} {g:Int→Int→Bool}
  (rule:∀(i j:Int) (t u:Tok) (s:Shared) (Q:Value→Shared→Prop) (E:Value→Shared→Prop),Q (.bool (g i j)) s→wpAny (model X.prog X.w) X.A (f (.int i t) (.int j u)) Q E s) :
  OpR X f (JR fun i j=>.bl (g i j)):=by
 intro pins s σ H x y v u Q I rx ry h
 obtain ⟨i,j,rfl,rfl,q⟩:=h
 obtain ⟨t,rfl⟩:=rx
 obtain ⟨t',rfl⟩:=ry
 exact rule i j t t' s _ _ ⟨.bl (g i j),H,I,rfl,q⟩
def LI (i j:Int):Prop:=0<j∧j<1073741824
def LH (i j:Int):Prop:=0≤j∧j≤1000000∧i.natAbs<2 ^ 64
def CMul (i j:Int):Prop:=(-(2 ^ 64)<i∧i<2 ^ 64)∨(-(2 ^ 64)<j∧j<2 ^ 64)
theorem CMul.ok {i j:Int} (h:CMul i j):IntMulOk i j:=by
 rcases h with ⟨h1,h2⟩|⟨h1,h2⟩
 ·exact .of_left (intBits_le_64 h1 h2)
 ·exact .of_right (intBits_le_64 h1 h2)
theorem qE:OpR X (binaryOp .Add) (JR fun i j=>.int (i+j)):=tS fun _ _ _ _ _ _ _ q=>add_int q
theorem yM:OpR X (binaryOp .Sub) (JR fun i j=>.int (i - j)):=tS fun _ _ _ _ _ _ _ q=>sub_int q
theorem JJ:OpR X (binaryOp .Mult) (rI CMul fun i j=>.int (i*j)):=fV fun _ _ _ _ _ _ _ hc q=>mul_int q hc.ok
theorem vN:OpR X (binaryOp .FloorDiv) (rI LI fun i j=>.int (i / j)):=fV fun i j _ _ _ _ _ hc q=>by
 have h1:(0:Int)<j:=hc.1
 have h2:j<1073741824:=hc.2
 exact floordiv_int (by omega) (by rw [Int.fdiv_eq_ediv_of_nonneg i (by omega)];exact q) (.inl (PyProof.noPylong_small (by omega)))
theorem kO:OpR X (binaryOp .Mod) (rI (fun _ j=>0<j) fun i j=>.int (i%j)):=fV fun i j _ _ _ _ _ hc q=>by
 have h1:(0:Int)<j:=hc
 exact mod_int' (by omega) (by rw [Int.fmod_eq_emod_of_nonneg i (by omega)];exact q)
theorem yN:OpR X (binaryOp .Pow) (rI LH fun i j=>.int (i ^ j.toNat)):=fV fun _ _ _ _ _ _ _ hc q=>pow_int_small hc.1 hc.2.1 hc.2.2 q
theorem LJ {f:Value→Sem Value} {g:Int→Int}
  (rule:∀(i:Int) (t:Tok) (s:Shared) (Q:Value→Shared→Prop) (E:Value→Shared→Prop),Q (.int (g i) s.toks) {s with toks:=s.toks+1}→wpAny (model X.prog X.w) X.A (f (.int i t)) Q E s) :
  mC X f (rU fun i=>.int (g i)):=by
 intro pins s σ H x v Q I rx h
 obtain ⟨i,rfl,q⟩:=h
 obtain ⟨t,rfl⟩:=rx
 exact rule i t s _ _ ⟨.int (g i),H,I.tok _,⟨_,rfl⟩,q⟩
theorem fA:mC X (unaryOp .USub) (rU fun i=>.int (-i)):=LJ fun _ _ _ _ _ q=>neg_int q
end
def tP:V→V→Bool
 |.non,.non=>true|.non,.int _=>true|.int _,.non=>true|.non,.bl _=>true|.bl _,.non=>true|.non,.str _=>true|.str _,.non=>true
 |.int _,.int _=>true|.bl _,.bl _=>true|.str _,.str _=>true|.byt _,.byt _=>true
 |.int _,.str _=>true|.str _,.int _=>true|.bl _,.str _=>true|.str _,.bl _=>true
 |_,_=>false
def LQ:R2:=fun x y H Q=>tP x y=true∧Q (.bl (decide (x=y))) H
def LP:R2:=fun x y H Q=>tP x y=true∧Q (.bl (!decide (x=y))) H
theorem rW {i j:Int}:decide (V.int i=V.int j)=(i == j):=by
 rw [Bool.eq_iff_iff]
 simp
theorem sS {i j:Bool}:decide (V.bl i=V.bl j)=(i == j):=by
 rw [Bool.eq_iff_iff]
 simp
theorem rV {i j:Str}:decide (V.str i=V.str j)=(i == j):=by
 rw [Bool.eq_iff_iff]
 simp
theorem rX {i j:Array UInt8}:decide (V.byt i=V.byt j)=(i.toList == j.toList):=by
 rw [Bool.eq_iff_iff]
 cases i
 cases j
 simp
section
variable {X:Cx} {a b c:Expr} {ta tb tc:TE} {pos:Pos}
theorem kW {pins:List (Addr×Obj)} {σ:St} {H:Hp} {s:Shared} {Q:VK} {k k':Bool} (I:Inv X pins σ H s) (q:Q (.bl k) H) (e:k=k'):EP X pins σ Q (.bool k') s:=by
 subst e
 exact ⟨.bl k,H,I,rfl,q⟩
theorem kS:OpR X (compareOp .Eq) LQ:=by
 intro pins s σ H x y v u Q I rx ry h
 obtain ⟨hs,q⟩:=h
 cases x with
 |non =>
  cases rx
  cases y with
  |non=>cases ry;exact PySem.EqNone.eq_none_none (kW I q (by simp))
  |bl j=>cases ry;exact PySem.EqNone.eq_none_bool (kW I q (by simp))
  |int j=>obtain ⟨t',rfl⟩:=ry;exact PySem.EqNone.eq_none_int (kW I q (by simp))
  |str j=>obtain ⟨t',rfl⟩:=ry;exact PySem.EqNone.eq_none_str (kW I q (by simp))
  |_=>exact absurd (show false=true from hs) Bool.false_ne_true
 |bl i =>
  cases rx
  cases y with
  |non=>cases ry;exact PySem.EqNone.eq_bool_none (kW I q (by simp))
  |bl j=>cases ry;exact eq_bool (kW I q sS)
  |str j=>obtain ⟨t',rfl⟩:=ry;exact PySem.EqMixed.eq_bool_str (kW I q (by simp))
  |_=>exact absurd (show false=true from hs) Bool.false_ne_true
 |int i =>
  obtain ⟨t,rfl⟩:=rx
  cases y with
  |non=>cases ry;exact PySem.EqNone.eq_int_none (kW I q (by simp))
  |int j=>obtain ⟨t',rfl⟩:=ry;exact eq_int (kW I q rW)
  |str j=>obtain ⟨t',rfl⟩:=ry;exact PySem.EqMixed.eq_int_str (kW I q (by simp))
  |_=>exact absurd (show false=true from hs) Bool.false_ne_true
 |str i =>
  obtain ⟨t,rfl⟩:=rx
  cases y with
  |non=>cases ry;exact PySem.EqNone.eq_str_none (kW I q (by simp))
  |bl j=>cases ry;exact PySem.EqMixed.eq_str_bool (kW I q (by simp))
  |int j=>obtain ⟨t',rfl⟩:=ry;exact PySem.EqMixed.eq_str_int (kW I q (by simp))
  |str j=>obtain ⟨t',rfl⟩:=ry;exact eq_str (kW I q rV)
  |_=>exact absurd (show false=true from hs) Bool.false_ne_true
 |byt i =>
  obtain ⟨t,rfl⟩:=rx
  cases y with
  |byt j=>obtain ⟨t',rfl⟩:=ry;exact PySem.W.eq_bytes (kW I q rX)
  |_=>exact absurd (show false=true from hs) Bool.false_ne_true
 |_=>cases y<;>exact absurd (show false=true from hs) Bool.false_ne_true
theorem qQ:OpR X (compareOp .NotEq) LP:=by
 intro pins s σ H x y v u Q I rx ry h
 obtain ⟨hs,q⟩:=h
 cases x with
 |non =>
  cases rx
  cases y with
  |non=>cases ry;exact PySem.EqNone.ne_none_none (kW I q (by simp))
  |bl j=>cases ry;exact PySem.EqNone.ne_none_bool (kW I q (by simp))
  |int j=>obtain ⟨t',rfl⟩:=ry;exact PySem.EqNone.ne_none_int (kW I q (by simp))
  |str j=>obtain ⟨t',rfl⟩:=ry;exact PySem.EqNone.ne_none_str (kW I q (by simp))
  |_=>exact absurd (show false=true from hs) Bool.false_ne_true
 |bl i =>
  cases rx
  cases y with
  |non=>cases ry;exact PySem.EqNone.ne_bool_none (kW I q (by simp))
  |bl j=>cases ry;exact ne_bool (kW I q (congrArg not sS))
  |str j=>obtain ⟨t',rfl⟩:=ry;exact PySem.EqMixed.ne_bool_str (kW I q (by simp))
  |_=>exact absurd (show false=true from hs) Bool.false_ne_true
 |int i =>
  obtain ⟨t,rfl⟩:=rx
  cases y with
  |non=>cases ry;exact PySem.EqNone.ne_int_none (kW I q (by simp))
  |int j=>obtain ⟨t',rfl⟩:=ry;exact ne_int (kW I q (congrArg not rW))
  |str j=>obtain ⟨t',rfl⟩:=ry;exact PySem.EqMixed.ne_int_str (kW I q (by simp))
  |_=>exact absurd (show false=true from hs) Bool.false_ne_true
 |str i =>
  obtain ⟨t,rfl⟩:=rx
  cases y with
  |non=>cases ry;exact PySem.EqNone.ne_str_none (kW I q (by simp))
  |bl j=>cases ry;exact PySem.EqMixed.ne_str_bool (kW I q (by simp))
  |int j=>obtain ⟨t',rfl⟩:=ry;exact PySem.EqMixed.ne_str_int (kW I q (by simp))
  |str j=>obtain ⟨t',rfl⟩:=ry;exact ne_str (kW I q (congrArg not rV))
  |_=>exact absurd (show false=true from hs) Bool.false_ne_true
 |byt i =>
  obtain ⟨t,rfl⟩:=rx
  cases y with
  |byt j=>obtain ⟨t',rfl⟩:=ry;exact PySem.W.ne_bytes (kW I q (congrArg not rX))
  |_=>exact absurd (show false=true from hs) Bool.false_ne_true
 |_=>cases y<;>exact absurd (show false=true from hs) Bool.false_ne_true
theorem dE:OpR X (compareOp .Lt) (JR fun i j=>.bl (decide (i<j))):=fS fun _ _ _ _ _ _ _ q=>lt_int q
theorem bQ:OpR X (compareOp .LtE) (JR fun i j=>.bl (decide (i≤j))):=fS fun _ _ _ _ _ _ _ q=>le_int q
theorem tD:OpR X (compareOp .Gt) (JR fun i j=>.bl (decide (j<i))):=fS fun _ _ _ _ _ _ _ q=>gt_int q
theorem lM:OpR X (compareOp .GtE) (JR fun i j=>.bl (decide (j≤i))):=fS fun _ _ _ _ _ _ _ q=>ge_int q
theorem DH:OpR X (compareOp .In) (fun x y H Q=>∃i j,x=.str i∧y=.str j∧Q (.bl (!(Builtin.Str.occurrences j i 0 j.length 1).isEmpty)) H):=by
 intro pins s σ H x y v u Q I rx ry h
 obtain ⟨i,j,rfl,rfl,q⟩:=h
 obtain ⟨t,rfl⟩:=rx
 obtain ⟨t',rfl⟩:=ry
 exact in_str (kW I q rfl)
theorem HN:OpR X (compareOp .Is) (fun x y H Q=>y=.non∧Q (.bl (decide (x=.non))) H):=by
 intro pins s σ H x y v u Q I rx ry h
 obtain ⟨rfl,q⟩:=h
 cases ry
 refine is_none_gen (kW I q ?_)
 cases x<;>first
  | (cases rx;rfl)
  | (obtain ⟨t,rfl⟩:=rx;rfl)
theorem OpR.or {f:Value→Value→Sem Value} {r r':R2} (h:OpR X f r) (h':OpR X f r'):OpR X f (fun x y H Q=>r x y H Q∨r' x y H Q):=by
 intro pins s σ H x y v u Q I rx ry q
 rcases q with q|q
 ·exact h pins s σ H x y v u Q I rx ry q
 ·exact h' pins s σ H x y v u Q I rx ry q
theorem jT (b:Expr) {op:CmpOp} (h:op≠.In:=by decide) (h2:op≠.NotIn:=by decide):behindInMarks op b=false:=by
 have e1:(op == CmpOp.In)=false:=by cases op<;>first|rfl|exact absurd rfl h
 have e2:(op == CmpOp.NotIn)=false:=by cases op<;>first|rfl|exact absurd rfl h2
 cases b<;>simp [behindInMarks,e1,e2]
theorem QF {op:CmpOp} {r:R2} (ho:OpR X (compareOp op) r) (ha:PE X a ta) (hb:PE X b tb) (hm:behindInMarks op b=false):PE X (.Compare a [op] [b] pos) (fU r ta tb):=by
 intro pins s σ H Q I h
 exact wpAny_Compare1 (lU ha hb I h fun v u s2 x y H2 I2 rx ry q=>ho pins s2 σ H2 x y v u Q I2 rx ry q) hm
def sV (t:TE):TT:=fun σ H Q=>t σ H fun x H'=>∃k,x=.bl k∧Q k H'
theorem j5 {op:CmpOp} {r:R2} (ho:OpR X (compareOp op) r) (ha:PE X a ta) (hb:PE X b tb) (hm:behindInMarks op b=false):PT X (.Compare a [op] [b] pos) (sV (fU r ta tb)):=by
 intro pins s σ H Q I h
 refine wpAny_isTrue_Compare1 (jL (ha pins s σ H _ I h) fun v s1 ⟨x,H1,I1,r1,q1⟩=>jL (hb pins s1 σ H1 _ I1 q1) fun u s2 ⟨y,H2,I2,r2,q2⟩ =>
  jL (ho pins s2 σ H2 x y v u _ I2 r1 r2 q2) fun c s3 ⟨z,H3,I3,r3,k,e,q3⟩=>?_) hm
 subst e
 cases r3
 exact wpAny_truthy_bool ⟨H3,I3,q3⟩
def sH (r r':R2) (ta tb tc:TE):TE:=fun σ H Q=>ta σ H fun x H1=>tb σ H1 fun y H2=>r x y H2 fun z H3=>∃k,z=.bl k∧
 (if k=true then tc σ H3 fun w' H4=>r' y w' H4 Q else Q (.bl false) H3)
theorem EW {op op':CmpOp} {r r':R2} (ho:OpR X (compareOp op) r) (ho':OpR X (compareOp op') r') (ha:PE X a ta) (hb:PE X b tb) (hc:PE X c tc)
  (hm:lastMarks [op,op'] [b,c]=false:=by with_unfolding_all rfl):PE X (.Compare a [op,op'] [b,c] pos) (sH r r' ta tb tc):=by
 intro pins s σ H Q I h
 refine Compare_chain (jL (ha pins s σ H _ I h) fun v s1 ⟨x,H1,I1,r1,q1⟩=>chain_link (jL (hb pins s1 σ H1 _ I1 q1) fun u s2 ⟨y,H2,I2,r2,q2⟩ =>
  jL (ho pins s2 σ H2 x y v u _ I2 r1 r2 q2) fun d s3 ⟨z,H3,I3,r3,k,e,q3⟩=>?_)) hm
 subst e
 cases r3
 refine wpAny_truthy_bool ?_
 cases k with
 |false=>exact ite_ff ⟨.bl false,H3,I3,rfl,q3⟩
 |true=>exact ite_tt (chain_last (jL (hc pins s3 σ H3 _ I3 q3) fun w' s4 ⟨z',H4,I4,r4,q4⟩=>ho' pins s4 σ H4 y z' u w' Q I4 r2 r4 q4))
theorem pO {op op':CmpOp} {r r':R2} (ho:OpR X (compareOp op) r) (ho':OpR X (compareOp op') r') (ha:PE X a ta) (hb:PE X b tb) (hc:PE X c tc)
  (hm:lastMarks [op,op'] [b,c]=false:=by with_unfolding_all rfl):PT X (.Compare a [op,op'] [b,c] pos) (sV (sH r r' ta tb tc)):=by
 intro pins s σ H Q I h
 refine isTrue_chain (jL (ha pins s σ H _ I h) fun v s1 ⟨x,H1,I1,r1,q1⟩=>test_link (jL (hb pins s1 σ H1 _ I1 q1) fun u s2 ⟨y,H2,I2,r2,q2⟩ =>
  jL (ho pins s2 σ H2 x y v u _ I2 r1 r2 q2) fun d s3 ⟨z,H3,I3,r3,k,e,q3⟩=>?_)) hm
 subst e
 cases r3
 refine wpAny_truthy_bool ?_
 cases k with
 |false =>
  obtain ⟨k',e',q'⟩:=q3
  cases e'
  exact ite_ff ⟨H3,I3,q'⟩
 |true =>
  refine ite_tt (test_last (jL (hc pins s3 σ H3 _ I3 q3) fun w' s4 ⟨z',H4,I4,r4,q4⟩=>jL (ho' pins s4 σ H4 y z' u w' _ I4 r2 r4 q4) fun d' s5 ⟨z2,H5,I5,r5,k2,e2,q5⟩=>?_))
  subst e2
  cases r5
  exact wpAny_truthy_bool ⟨H5,I5,q5⟩
def tV (K:PySem.W.Frag) (x:V) (H:Hp) (k:Bool):Prop :=
 match x with
 |.non=>k=false
 |.bl b=>k=b
 |.int i=>k=(i != 0)
 |.str y=>y.length≤sizeLine∧k=((y.length:Int) != 0)
 |.byt y=>y.size≤sizeLine∧k=((y.size:Int) != 0)
 |.ref p=>(∃xs,SqL K H p xs∧k = !xs.isEmpty)∨(∃xs,SqT K H p xs∧k = !xs.isEmpty)∨∃kvs,H p=some (.dK kvs)∧k = !kvs.isEmpty
 |_=>False
theorem CI {κ:Type} {kvs:List (κ×V)} {vs:List (κ×Value)} (r:KV kvs vs):(!vs.isEmpty) = !kvs.isEmpty:=by
 cases r<;>rfl
theorem nO {xs:List V} {its:List Value} (r:Vals xs its):(!its.toArray.isEmpty) = !xs.isEmpty:=by
 cases r<;>simp
theorem JL:(sizeLine:Nat)<2 ^ 63:=by rw [sizeLine_eq];decide
theorem GZ:LF X (fun x H Q=>∃k,tV X.K x H k∧Q k H):=by
 intro pins s σ H x v Q I rx h
 obtain ⟨k,e,q⟩:=h
 have hl:=JL
 have hs:sizeLine=16777216:=sizeLine_eq
 cases x with
 |non =>
  cases rx
  have e':k=false:=e
  subst e'
  exact truthy_none ⟨H,I,q⟩
 |bl b =>
  cases rx
  have e':k=b:=e
  subst e'
  exact wpAny_truthy_bool ⟨H,I,q⟩
 |int i =>
  obtain ⟨t,rfl⟩:=rx
  have e':k=(i != 0):=e
  subst e'
  exact PySem.P.truthy_int ⟨H,I,q⟩
 |str y =>
  obtain ⟨t,rfl⟩:=rx
  obtain ⟨hy,e'⟩:y.length≤sizeLine∧k=((y.length:Int) != 0):=e
  subst e'
  exact PySem.P.truthy_str (by omega) ⟨H,I.tok _,q⟩
 |byt y =>
  obtain ⟨t,rfl⟩:=rx
  obtain ⟨hy,e'⟩:y.size≤sizeLine∧k=((y.size:Int) != 0):=e
  subst e'
  exact PySem.W.truthy_bytes (by omega) ⟨H,I.tok _,q⟩
 |ref p =>
  cases rx
  have e':(∃xs,SqL X.K H p xs∧k = !xs.isEmpty)∨(∃xs,SqT X.K H p xs∧k = !xs.isEmpty)∨∃kvs,H p=some (.dK kvs)∧k = !kvs.isEmpty:=e
  rcases e' with ⟨xs,hx,e'⟩|⟨xs,hx,e'⟩|⟨kvs,hx,e'⟩
  ·subst e'
   obtain ⟨its,r,pl,hz⟩:=I.list hx
   have hlen:=r.length
   exact wpAny_truthy_list pl.isList (by simp only [List.size_toArray];omega) ⟨H,I.tok _,by rw [nO r];exact q⟩
  ·subst e'
   obtain ⟨its,r,pl,hz⟩:=I.tuple hx
   have hlen:=r.length
   exact truthy_tuple pl (by simp only [List.size_toArray];omega) ⟨H,I.tok _,by rw [nO r];exact q⟩
  ·subst e'
   obtain ⟨hz,hS,vs,r,m⟩:kvs.length≤sizeLine∧(p == sysModules)=false∧∃vs,KV kvs vs∧s.heap.DictOf (i4 X.prog X.w) p vs:=I.hok p _ hx
   have hlen:kvs.length=vs.length:=Paired.length r
   exact wpAny_truthy_dict hS m (by omega) ⟨H,I.tok _,by rw [CI r];exact q⟩
 |_=>exact (show False from e).elim
theorem ET (ha:PE X a ta) (he:∀whole,isTrue a X.env whole=(do let v ← whole;standAt a.pos;holding [v] (truthy v))) :
  PT X a (fun σ H Q=>ta σ H fun x H'=>∃k,tV X.K x H' k∧Q k H'):=by
 intro pins s σ H Q I h
 exact isTrue_plain (jL (ha pins s σ H _ I h) fun v s1 ⟨x,H1,I1,r1,q1⟩=>GZ pins s1 σ H1 x v Q I1 r1 q1) (he _)
theorem eA:OpR X (binaryOp .Add) (fun x y H Q=>∃i j,x=.str i∧y=.str j∧i.length+j.length≤sizeLine∧Q (.str (i++j)) H):=by
 intro pins s σ H x y v u Q I rx ry h
 obtain ⟨i,j,rfl,rfl,hz,q⟩:=h
 obtain ⟨t,rfl⟩:=rx
 obtain ⟨t',rfl⟩:=ry
 exact add_str (fun t' tk=>⟨.str (i++j),H,I.tok _,⟨_,rfl⟩,q⟩) hz
theorem JM {x:V} {us:List Value} (r:Vals [x] us):∃u,us=[u]∧RelV x u:=by
 cases r with
 |cons r1 r2=>cases r2;exact ⟨_,rfl,r1⟩
theorem lJ {x y:V} {us:List Value} (r:Vals [x,y] us):∃u w',us=[u,w']∧RelV x u∧RelV y w':=by
 cases r with
 |cons r1 r2 =>
  cases r2 with
  |cons r3 r4=>cases r4;exact ⟨_,_,rfl,r1,r3⟩
theorem iK (hc:X.calm=true):CallR X (.builtin "max") (fun xs H Q=>∃i j,xs=[.int i,.int j]∧Q (.int (if j>i then j else i)) H):=by
 intro pins s σ H xs us Q I r h
 obtain ⟨i,j,rfl,q⟩:=h
 obtain ⟨u,w',rfl,⟨t,rfl⟩,⟨t',rfl⟩⟩:=lJ r
 refine max_two_ints (I.ok.hd hc) fun h' tk k=>⟨_,H,I.kept k,?_,q⟩
 by_cases hj:j>i
 ·rw [if_pos hj,if_pos hj];exact ⟨_,rfl⟩
 ·rw [if_neg hj,if_neg hj];exact ⟨_,rfl⟩
theorem oZ (hc:X.calm=true):CallR X (.builtin "min") (fun xs H Q=>∃i j,xs=[.int i,.int j]∧Q (.int (if j<i then j else i)) H):=by
 intro pins s σ H xs us Q I r h
 obtain ⟨i,j,rfl,q⟩:=h
 obtain ⟨u,w',rfl,⟨t,rfl⟩,⟨t',rfl⟩⟩:=lJ r
 refine min_two_ints (I.ok.hd hc) fun h' tk k=>⟨_,H,I.kept k,?_,q⟩
 by_cases hj:j<i
 ·rw [if_pos hj,if_pos hj];exact ⟨_,rfl⟩
 ·rw [if_neg hj,if_neg hj];exact ⟨_,rfl⟩
end
end L2
namespace L2
open PySem PySem.Spec PyProof.Rows
structure ObjM (h:Heap) (x dx C:Addr) (mA:Str→Option Value):Prop where
 obj:h.get? x=some (PySem.W.instObj C dx)
 ns:h.Ns1 dx mA
 ne:dx≠x
theorem DO {h:Heap} {dx:Addr} {mA:Str→Option Value} (n:h.Ns1 dx mA):∃od,h.get? dx=some od∧∀name,PySem.W.lookIn name od=some (mA name):=by
 obtain ⟨o,es,ep,ho,hd,hk,_,hm⟩:=n
 refine ⟨o,ho,fun name=>?_⟩
 have e:=hm name
 unfold nsFind findBy at e
 rw [← Array.find?_toList] at e
 unfold PySem.W.lookIn
 rw [hd]
 dsimp only
 split
 ·rename_i y q
  rw [q] at e
  exact congrArg some e
 ·rename_i q
  rw [q] at e
  have a:es.toList.any (·.refKey)=false:=by
   rw [List.any_eq_false]
   intro y hy
   obtain ⟨z,t,hkey⟩:=hk y (Array.mem_toList_iff.mp hy)
   simp [DictEntry.refKey,hkey]
  have a':¬es.toList.any (·.refKey)=true:=by rw [a];exact Bool.false_ne_true
  rw [if_neg a']
  exact congrArg some e
theorem ObjM.look {h:Heap} {x dx C:Addr} {mA:Str→Option Value} (I:ObjM h x dx C mA):∃od,PySem.W.InstAt h x (PySem.W.instObj C dx) C (some od)∧∀name,PySem.W.lookIn name od=some (mA name) :=
 let ⟨od,ho,hl⟩:=DO I.ns
 ⟨od,⟨I.obj,rfl,rfl,ho⟩,hl⟩
section
variable {prog:Program} {w:World} {A:Around} {E:Value→Shared→Prop} {s:Shared} {K:PySem.W.Frag} {x dx C f:Addr} {mA:Str→Option Value} {name:Str} {v:Value}
theorem GQ {expr:Bool} {Q:Value→Shared→Prop} (X:K.In s.heap) (I:ObjM s.heap x dx C mA) (hg:PySem.W.plainGet K C name=true) (hh:PySem.W.hasDictIn K C=true)
  (ha:PySem.W.findIn K (.ref C) name=some none) (hv:mA name=some v) (hv':PySem.W.handedIn v=true) (h:Q v {s with toks:=s.toks+1}) :
  wpAny (model prog w) A (getAttr (.ref x) name expr) Q E s:=by
 obtain ⟨od,J,hl⟩:=I.look
 exact PySem.W.get_value X J (PySem.W.plainGet_of hg).1 (PySem.W.findObj_own hh ha rfl (by rw [hl,hv])) hv' h
theorem FA {pl:Sem Bool} {Q:Value×List Value→Shared→Prop} (X:K.In s.heap) (I:ObjM s.heap x dx C mA) (hg:PySem.W.plainGet K C name=true)
  (hf:PySem.W.findIn K (.ref C) name=some (some (.ref f))) (ht:PySem.W.isFn K (.ref f)=true) (hv:mA name=none) (h:Q (.ref f,[.ref x]) s) :
  wpAny (model prog w) A (getMethod (.ref x) name pl) Q E s:=by
 obtain ⟨od,J,hl⟩:=I.look
 exact PySem.W.method_fn X J (PySem.W.plainGet_of hg).1 (PySem.W.plainGet_of hg).2 hf (beq_iff_eq.mp ht) (by show (PySem.W.lookIn name od).map (·.isSome)=some false;rw [hl,hv];rfl) h
theorem FT {ns:List Str} {Q:Unit→Shared→Prop} (X:K.In s.heap) (I:ObjM s.heap x dx C mA)
  (hs:PySem.W.findIn K (.ref C) "__setattr__"=some (some (.builtin "object.__setattr__"))) (hp:PySem.W.plainOver K C=true) (ht:PySem.W.takerIn K C name=some none) (hh:PySem.W.hasDictIn K C=true)
  (hw:PySem.Within mA ns) (hsz:ns.length≤sizeLine)
  (h:∀h',ObjM h' x dx C (fun y=>if y=name then some v else mA y)→Heap.SameBut dx s.heap h'→Q () {s with heap:=h',toks:=s.toks+2}) :
  wpAny (model prog w) A (setAttr (.ref x) name v) Q E s:=by
 obtain ⟨od,J,hl⟩:=I.look
 refine PySem.W.set_plain X J hs (PySem.W.osa_open (s:={s with toks:=s.toks+1}) (r:=none) X J hp ht fun b=>?_)
 obtain ⟨cd,hc,hd'⟩:=PySem.W.any_some hh
 have hx:s.heap.get? x=some ⟨.ref C,some dx,.plain,#[]⟩:=I.obj
 refine wpAny_bind (wpAny_pure (wpAny_bind (wpAny_bind (wpAny_loadPart hx (wpAny_bind (PySem.W.Looks.here (s:={s with toks:=s.toks+1}) (PySem.W.looks_clsIn X hc) ?_))))))
 rw [hd']
 refine wpAny_pure (a:=some dx) (wpAny_bind (wpAny_pure (wpAny_bind ?_)))
 refine wpAny_nsSet1 (s:={s with toks:=s.toks+1}) I.ns fun h' hn2 hs2=>?_
 obtain ⟨oD,esD,epD,hoD,hdD,hcD⟩:=hn2.count (PySem.Within.cons name v hw)
 refine wpAny_bind (wpAny_lookBehind hoD (by rw [hdD];exact pastItsLine_dict (Nat.le_trans hcD (by rw [List.length_cons];omega))) ?_)
 exact wpAny_pure (h _ ⟨(hs2.2 _ (Ne.symm I.ne)).trans I.obj,hn2,I.ne⟩ hs2)
theorem E5 {R:Result→Shared→Prop} {vs:List Value} {kw:List (Str×Value)} (X:K.In s.heap) (hm:PySem.W.makesIn K C=true)
  (hi:PySem.W.findIn K (.ref C) "__init__"=some (some (.ref f))) (hf:PySem.W.typeIn K (.ref f)=some (.type "function"))
  (h:codeAny (model prog w) (A.under (.builtin "type.__call__" ⟨.ref C::vs,kw⟩)) (.call (.ref f) ⟨.ref (s.heap.objs.size+1)::vs,kw⟩) (PySem.W.InitBack (s.heap.objs.size+1) R)
   {s with heap:=(s.heap.push PySem.W.emptyDict).push (PySem.W.instObj C s.heap.objs.size)}) :
  codeAny (model prog w) A (.call (.ref C) ⟨vs,kw⟩) R s:=by
 obtain ⟨hh,g,d,t,os⟩:=s
 exact PySem.W.make_core (PySem.W.makes_of X hm) (PySem.W.looks_findIn X hi) (fun self=>PySem.W.bind_fn X self hf) (.inl rfl) h
end
def jR (f:Str) (v:V):List (Str×V)→List (Str×V)
 |[]=>[(f,v)]
 | (g,x)::r=>if g=f then (g,v)::r else (g,x)::jR f v r
theorem q9 (f g:Str) (v:V):∀fs:List (Str×V),(jR f v fs).lookup g=if g=f then some v else fs.lookup g
 |[]=>by
  show List.lookup g [(f,v)]=_
  by_cases h:g=f
  ·have hb:(g == f)=true:=beq_iff_eq.mpr h
   simp only [List.lookup,hb,if_pos h]
  ·have hb:(g == f)=false:=beq_eq_false_iff_ne.mpr h
   simp only [List.lookup,hb,if_neg h]
 | (k,x)::r=>by
  have ih:=q9 f g v r
  rw [show jR f v ((k,x)::r)=(if k=f then (k,v)::r else (k,x)::jR f v r) from rfl]
  by_cases hk:k=f
  ·rw [if_pos hk]
   by_cases h:g=k
   ·have hb:(g == k)=true:=beq_iff_eq.mpr h
    simp only [List.lookup,hb,if_pos (h.trans hk)]
   ·have hb:(g == k)=false:=beq_eq_false_iff_ne.mpr h
    simp only [List.lookup,hb,if_neg (fun e:g=f=>h (e.trans hk.symm))]
  ·rw [if_neg hk]
   by_cases h:g=k
   ·have hb:(g == k)=true:=beq_iff_eq.mpr h
    simp only [List.lookup,hb,if_neg (fun e:g=f=>hk (h.symm.trans e))]
   ·have hb:(g == k)=false:=beq_eq_false_iff_ne.mpr h
    simp only [List.lookup,hb]
    exact ih
theorem iI (f:Str) (v:V):∀fs:List (Str×V),f∈(jR f v fs).map (·.1)∧∀g,g∈fs.map (·.1)→g∈(jR f v fs).map (·.1)
 |[]=>⟨by simp [jR],fun g h=>by simp at h⟩
 | (k,x)::r=>by
  obtain ⟨i1,i2⟩:=iI f v r
  rw [show jR f v ((k,x)::r)=(if k=f then (k,v)::r else (k,x)::jR f v r) from rfl]
  by_cases hk:k=f
  ·rw [if_pos hk]
   subst hk
   exact ⟨by simp,fun g h=>by simpa using h⟩
  ·rw [if_neg hk]
   refine ⟨?_,fun g h=>?_⟩
   ·rw [List.map_cons]
    exact List.mem_cons_of_mem _ i1
   ·rw [List.map_cons] at h ⊢
    rcases List.mem_cons.mp h with e|e
    ·exact List.mem_cons.mpr (.inl e)
    ·exact List.mem_cons_of_mem _ (i2 g e)
theorem zD (f:Str) (v:V):∀fs:List (Str×V),(jR f v fs).length≤fs.length+1
 |[]=>by simp [jR]
 | (k,x)::r=>by
  have ih:=zD f v r
  rw [show jR f v ((k,x)::r)=(if k=f then (k,v)::r else (k,x)::jR f v r) from rfl]
  by_cases hk:k=f
  ·rw [if_pos hk,List.length_cons,List.length_cons];omega
  ·rw [if_neg hk,List.length_cons,List.length_cons];omega
theorem RelO.some_of {v:V} {o:Option Value} (r:RelO (some v) o):∃u,o=some u∧RelV v u:=by
 cases o with
 |none=>exact (show False from r).elim
 |some u=>exact ⟨u,rfl,r⟩
theorem RelO.none_of {o:Option Value} (r:RelO none o):o=none:=by
 cases o with
 |none=>rfl
 |some u=>exact (show False from r).elim
theorem DV {v:V} {u:Value} (r:RelV v u):PySem.W.handedIn u=true:=by
 cases v with
 |non=>cases (show u=Value.none from r);rfl
 |bl b=>cases (show u=Value.bool b from r);rfl
 |int i=>obtain ⟨t,e⟩:=(show ∃t,u=Value.int i t from r);cases e;rfl
 |str x=>obtain ⟨t,e⟩:=(show ∃t,u=Value.str x t from r);cases e;rfl
 |byt b=>obtain ⟨t,e⟩:=(show ∃t,u=Value.bytes b t from r);cases e;rfl
 |flt b=>obtain ⟨t,e⟩:=(show ∃t,u=Value.float b t from r);cases e;rfl
 |ref a=>cases (show u=Value.ref a from r);rfl
 |ty n=>cases (show u=Value.type n from r);rfl
section
variable {P:Program} {w:World} {H H':Hp} {h h':Heap} {a C dx:Addr} {fs fs':List (Str×V)}
theorem eZ (hok:HOk P w H h) (e:H a=some (.ins C dx fs)):∃mA,ObjM h a dx C mA∧(∀f,RelO (fs.lookup f) (mA f))∧PySem.Within mA (fs.map (·.1))∧fs.length≤1000∧H dx=some (.own a):=by
 obtain ⟨d,z,ne,ob,mA,n,r,q⟩:=(show ObjOk P w H h a (.ins C dx fs) from hok a _ e)
 exact ⟨mA,⟨ob,n,ne⟩,r,q,z,d⟩
end
structure Cls (K:PySem.W.Frag) (C:Addr):Prop where
 pg:PySem.W.plainGet K C Str.empty=true
 hd:PySem.W.hasDictIn K C=true
 po:PySem.W.plainOver K C=true
 sa:PySem.W.findIn K (.ref C) "__setattr__"=some (some (.builtin "object.__setattr__"))
theorem Cls.get {K:PySem.W.Frag} {C:Addr} (c:Cls K C) (f:Str):PySem.W.plainGet K C f=true:=c.pg
def NoAttr (K:PySem.W.Frag) (C:Addr) (f:Str):Prop:=PySem.W.findIn K (.ref C) f=some none
theorem NoAttr.taker {K:PySem.W.Frag} {C:Addr} {f:Str} (n:NoAttr K C f):PySem.W.takerIn K C f=some none:=by
 unfold PySem.W.takerIn
 rw [show PySem.W.findIn K (.ref C) f=some none from n]
 rfl
structure Meth (K:PySem.W.Frag) (C:Addr) (m:Str) (f:Addr):Prop where
 at_:PySem.W.findIn K (.ref C) m=some (some (.ref f))
 fn:PySem.W.isFn K (.ref f)=true
 kp:PySem.W.keepIn K (.ref f)=true
section
variable {X:Cx} {pins:List (Addr×Obj)} {σ:St} {H:Hp} {s:Shared} {a C dx:Addr} {fs:List (Str×V)} {f:Str} {v:V} {A:Around} {E:Value→Shared→Prop}
theorem CN {b:Bool} {Q:Value→Shared→Prop} (I:Inv X pins σ H s) (e:H a=some (.ins C dx fs)) (c:Cls X.K C) (n:NoAttr X.K C f) (l:fs.lookup f=some v)
  (h:∀u s',Inv X pins σ H s'→RelV v u→Q u s'):wpAny (model X.prog X.w) A (getAttr (.ref a) f b) Q E s:=by
 obtain ⟨mA,O,r,_,_,_⟩:=eZ I.hok e
 obtain ⟨u,hu,ru⟩:=RelO.some_of (v:=v) (o:=mA f) (by rw [← l];exact r f)
 exact GQ I.kIn O (c.get f) c.hd n hu (DV ru) (h u _ (I.tok _) ru)
theorem nR {m:Str} {g:Addr} {pl:Sem Bool} {Q:Value×List Value→Shared→Prop} (I:Inv X pins σ H s) (e:H a=some (.ins C dx fs)) (c:Cls X.K C) (k:Meth X.K C m g) (l:fs.lookup m=none)
  (h:Q (.ref g,[.ref a]) s):wpAny (model X.prog X.w) A (getMethod (.ref a) m pl) Q E s:=by
 obtain ⟨mA,O,r,_,_,_⟩:=eZ I.hok e
 have hn:mA m=none:=RelO.none_of (by rw [← l];exact r m)
 exact FA I.kIn O (c.get m) k.at_ k.fn hn h
theorem B1 {y:V} {u:Value} {Q:Unit→Shared→Prop} (I:Inv X pins σ H s) (e:H a=some (.ins C dx fs)) (c:Cls X.K C) (n:NoAttr X.K C f) (hl:fs.length<1000) (ry:RelV y u)
  (h:∀s',Inv X pins σ (upd H a (.ins C dx (jR f y fs))) s'→Q () s'):wpAny (model X.prog X.w) A (setAttr (.ref a) f u) Q E s:=by
 obtain ⟨mA,O,r,wi,_,ho⟩:=eZ I.hok e
 have hz:(fs.map (·.1)).length≤sizeLine:=by rw [List.length_map,sizeLine_eq];omega
 refine FT I.kIn O c.sa c.po n.taker c.hd wi hz fun h' O' sb=>h _ ?_
 have hd:∃o,h'.get? dx=some o:=let ⟨o,_,_,e',_⟩:=O'.ns;⟨o,e'⟩
 refine I.write (x:=a) (e:=dx) (by rw [e];exact True.intro) (.inr ho) (fun b q hb z=>(sb.2 b hb).trans z) hd ?_
 refine ⟨by rw [kC O.ne];exact ho,?_,O.ne,O'.obj,_,O'.ns,fun g=>?_,fun g hg=>?_⟩
 ·have:=zD f y fs;omega
 ·show RelO ((jR f y fs).lookup g) (if g=f then some u else mA g)
  rw [q9]
  by_cases q:g=f
  ·rw [if_pos q,if_pos q];exact ry
  ·rw [if_neg q,if_neg q];exact r g
 ·by_cases q:g=f
  ·rw [q];exact (iI f y fs).1
  ·refine (iI f y fs).2 g (wi g fun z=>hg ?_)
   show (if g=f then some u else mA g)=none
   rw [if_neg q];exact z
theorem Inv.made (I:Inv X pins σ H s):Inv X pins σ (upd (upd H s.heap.objs.size (.own (s.heap.objs.size+1))) (s.heap.objs.size+1) (.ins C s.heap.objs.size []))
  {s with heap:=(s.heap.push PySem.W.emptyDict).push (PySem.W.instObj C s.heap.objs.size)}:=by
 have e1:(s.heap.push PySem.W.emptyDict).get? s.heap.objs.size=some PySem.W.emptyDict:=Heap.get?_push_size s.heap rfl
 have e2:((s.heap.push PySem.W.emptyDict).push (PySem.W.instObj C s.heap.objs.size)).get? (s.heap.objs.size+1)=some (PySem.W.instObj C s.heap.objs.size):=by
  have:=Heap.get?_push_size (s.heap.push PySem.W.emptyDict) (o:=PySem.W.instObj C s.heap.objs.size) rfl
  rwa [Heap.size_push] at this
 have e3:(s.heap.push PySem.W.emptyDict).Ns s.heap.objs.size (fun _=>none):=⟨PySem.W.emptyDict,#[],_,e1,rfl,(fun e he=>absurd he (by simp)),fun _=>rfl⟩
 have I1:=I.laid (a:=s.heap.objs.size) (o:=.own (s.heap.objs.size+1)) (h':=s.heap.push PySem.W.emptyDict) (t':=s.toks) (fun b u q=>Heap.get?_push_of_some _ q) (Nat.le_refl _) ⟨_,e1⟩
 refine I1.laid (a:=s.heap.objs.size+1) (o:=.ins C s.heap.objs.size []) (t':=s.toks) (fun b u q=>Heap.get?_push_of_some _ q) (Nat.le_of_eq (Heap.size_push _ _)) ?_
 have ne:s.heap.objs.size≠s.heap.objs.size+1:=Nat.ne_of_lt (Nat.lt_succ_self _)
 refine ⟨by rw [kC ne,jD],Nat.zero_le _,ne,e2,fun _=>none,(Heap.Ns1.of_empty e3).at fun o q=>Heap.get?_push_of_some _ q,fun _=>True.intro,fun y hy=>absurd rfl hy⟩
theorem GV {prog:Program} {w:World} {env:Env} {e:Expr} {f:Str} {pos:Pos} {s:Shared} {Q:Value→Shared→Prop} (hb:attributeBase e f env (eval e env)=eval e env)
  (h:wpAny (model prog w) A (eval e env) (fun o s₁=>wpAny (model prog w) A (getAttr o f true) Q E s₁) E s):wpAny (model prog w) A (eval (.Attribute e f pos) env) Q E s :=
 Attribute_any_ h (by rw [arm_eval_Attribute,hb])
end
def tM (K:PySem.W.Frag) (ta:TE) (f:Str):TE:=fun σ H Q=>ta σ H fun x H1=>∃a C dx fs v,x=.ref a∧H1 a=some (.ins C dx fs)∧Cls K C∧NoAttr K C f∧fs.lookup f=some v∧Q v H1
def KS (K:PySem.W.Frag) (ta tv:TE) (f:Str):TS:=fun D σ H=>tv σ H fun y H1=>ta σ H1 fun x H2=>∃a C dx fs,x=.ref a∧H2 a=some (.ins C dx fs)∧Cls K C∧NoAttr K C f∧fs.length<1000∧
 D.nx σ (upd H2 a (.ins C dx (jR f y fs)))
section
variable {X:Cx} {o e value:Expr} {f:Str} {pos pos' tpos:Pos} {ta tv:TE}
theorem kB (he:PE X e ta) (hb:attributeBase e f X.env (eval e X.env)=eval e X.env):PE X (.Attribute e f pos) (tM X.K ta f):=by
 intro pins s σ H Q I h
 refine GV hb (jL (he pins s σ H _ I h) fun u s1 ⟨x,H1,I1,rx,a,C,dx,fs,v,ex,ea,c,n,l,q⟩=>?_)
 subst ex
 obtain rfl:u=Value.ref a:=rx
 exact CN I1 ea c n l fun u' s2 I2 ru=>⟨v,H1,I2,ru,q⟩
theorem v8 (ha:PE X o ta) (hv:PE X value tv) (hs:swapsWith value (some (.Attribute o f pos')) pos.line X.env=pure false):PS X (.Assign [.Attribute o f pos'] value pos) (KS X.K ta tv f):=by
 intro pins s σ H D I h
 refine plainObj_wpAny_Assign_Attribute (jL (hv pins s σ H _ I h) fun u s1 ⟨y,H1,I1,ry,q⟩=>jL (ha pins s1 σ H1 _ I1 q) fun ov s2 ⟨x,H2,I2,rx,a,C,dx,fs,ex,ea,c,n,l,q2⟩=>?_) hs
 subst ex
 obtain rfl:ov=Value.ref a:=rx
 exact B1 I2 ea c n l ry fun s3 I3=>⟨σ,_,I3,q2⟩
end
section
variable {X:Cx} {pins:List (Addr×Obj)} {σ:St} {H:Hp} {s:Shared} {A:Around} {E:Value→Shared→Prop} {Q:Value→Shared→Prop} {c:Value} {b:Bool}
inductive TyOf (K:PySem.W.Frag) (H:Hp):V→Value→Prop where
 |non:TyOf K H .non (.type "NoneType")
 |bl (x:Bool):TyOf K H (.bl x) (.type "bool")
 |int (i:Int):TyOf K H (.int i) (.type "int")
 |str (x:Str):TyOf K H (.str x) (.type "str")
 |flt (x:UInt64):TyOf K H (.flt x) (.type "float")
 |lst {a:Addr} {xs:List V} (e:H a=some (.lst xs)):TyOf K H (.ref a) (.type "list")
 |frz {a:Addr} {o:Obj} {xs:List V} (e:H a=some (.frz o (.lst xs))):TyOf K H (.ref a) (.type "list")
 |tup {a:Addr} {xs:List V} (e:H a=some (.tup xs)):TyOf K H (.ref a) (.type "tuple")
 |dK {a:Addr} {kvs:List (qG×V)} (e:H a=some (.dK kvs)):TyOf K H (.ref a) (.type "dict")
 |dT {a:Addr} {kvs:List (List qG×V)} (e:H a=some (.dT kvs)):TyOf K H (.ref a) (.type "dict")
 |ins {a C dx:Addr} {fs:List (Str×V)} (e:H a=some (.ins C dx fs)) (cl:Cls K C) (ha:PySem.W.findIn K (.ref C) "__class__"=some (some (.builtin "object.__class__")))
   (hn:PySem.W.specialIn K (.builtin "object.__class__") "__get__"=some (some (.builtin "getset_descriptor.__get__"))) (htk:PySem.W.takesIn K (.builtin "object.__class__")=some true)
   (hm:PySem.W.mroIn K C (.type "object")=some true):TyOf K H (.ref a) (.ref C)
theorem DR {x:V} {u t:Value} (I:Inv X pins σ H s) (rx:RelV x u) (ty:TyOf X.K H x t) (e:PySem.W.kitOne X.K t c=some b) (h:∀tk,Q (.bool b) {s with toks:=tk}) :
  wpAny (model X.prog X.w) A (call (.builtin "isinstance") [u,c]) Q E s:=by
 cases ty with
 |non=>cases (show u=Value.none from rx);exact PySem.W.kia_one PySem.W.kitx_none I.kIn True.intro e (fun z=>nomatch z) h
 |bl y=>cases (show u=Value.bool y from rx);exact PySem.W.kia_one PySem.W.kitx_bool I.kIn True.intro e (fun z=>nomatch z) h
 |int i=>obtain ⟨t,q⟩:=(show ∃t,u=Value.int i t from rx);cases q;exact PySem.W.kia_one PySem.W.kitx_int I.kIn True.intro e (fun z=>nomatch z) h
 |str y=>obtain ⟨t,q⟩:=(show ∃t,u=Value.str y t from rx);cases q;exact PySem.W.kia_one PySem.W.kitx_str I.kIn True.intro e (fun z=>nomatch z) h
 |flt y=>obtain ⟨t,q⟩:=(show ∃t,u=Value.float y t from rx);cases q;exact PySem.W.kia_one PySem.W.kitx_float I.kIn True.intro e (fun z=>nomatch z) h
 |@lst a xs ea =>
  cases (show u=Value.ref a from rx)
  obtain ⟨_,_,n,_,h1⟩:=(show ObjOk X.prog X.w H s.heap a (.lst xs) from I.hok a _ ea)
  exact PySem.W.kia_one PySem.W.kitx_list I.kIn ⟨_,h1,rfl⟩ e (fun z=>nomatch z) h
 |@frz a ob xs ea =>
  cases (show u=Value.ref a from rx)
  obtain ⟨_,_,_,n,_,h1⟩:=(show ObjOk X.prog X.w H s.heap a (.frz ob (.lst xs)) from I.hok a _ ea)
  exact PySem.W.kia_one PySem.W.kitx_list I.kIn ⟨_,h1,rfl⟩ e (fun z=>nomatch z) h
 |@tup a xs ea =>
  cases (show u=Value.ref a from rx)
  obtain ⟨_,_,_,p⟩:=(show ObjOk X.prog X.w H s.heap a (.tup xs) from I.hok a _ ea)
  obtain ⟨o,h1,h2,_⟩:=p
  exact PySem.W.kia_one PySem.W.kitx_tuple I.kIn ⟨o,h1,h2⟩ e (fun z=>nomatch z) h
 |@dK a kvs ea =>
  cases (show u=Value.ref a from rx)
  obtain ⟨_,_,vs,_,p⟩:=(show ObjOk X.prog X.w H s.heap a (.dK kvs) from I.hok a _ ea)
  obtain ⟨o,es,ep,h1,h2,_⟩:=p
  exact PySem.W.kia_one PySem.W.kitx_dict I.kIn ⟨o,h1,h2.1⟩ e (fun z=>nomatch z) h
 |@dT a kvs ea =>
  cases (show u=Value.ref a from rx)
  obtain ⟨_,_,xs,_,o,es,ep,h1,h2,_⟩:=(show ObjOk X.prog X.w H s.heap a (.dT kvs) from I.hok a _ ea)
  exact PySem.W.kia_one PySem.W.kitx_dict I.kIn ⟨o,h1,h2.1⟩ e (fun z=>nomatch z) h
 |@ins a C dx fs ea cl ha hn htk hm =>
  cases (show u=Value.ref a from rx)
  obtain ⟨mA,O,_⟩:=eZ I.hok ea
  obtain ⟨od,J,_⟩:=O.look
  exact PySem.W.kia_one (PySem.W.kitx_own (cl.get _) cl.hd ha hn htk hm) I.kIn J e (fun z=>nomatch z) h
end
end L2
namespace L2
open PySem PySem.Spec PyProof.Rows
structure Room (k:Nat) (A:Around):Prop where
 hd:A.handled=none
 dp:A.depth+3*k+5<recursionLimit
 un:A.units+16*k+200<cLine
theorem Room.mono {j k:Nat} {A:Around} (r:Room k A) (h:j≤k):Room j A:=⟨r.hd,by have:=r.dp;omega,by have:=r.un;omega⟩
theorem Room.deeper {k:Nat} {A:Around} (r:Room (k+1) A) (env:Env):Room k (A.deeper env) :=
 ⟨r.hd,by have:=r.dp;show A.depth+1+3*k+5<_;omega,by have:=r.un;show A.units+3+16*k+200<_;omega⟩
theorem CG {A:Around} {C:Addr} {us:List Value} {kw:List (Str×Value)}:(A.under (.builtin "type.__call__" ⟨.ref C::us,kw⟩)).depth=A.depth+1:=by
 first|rfl|simp [Around.under,Code.weight,Code.isCreation,Code.isGuard,Code.isCaller,Code.frames,Code.isFrame,guardIds]
theorem CF {A:Around} {C:Addr} {us:List Value} {kw:List (Str×Value)}:(A.under (.builtin "type.__call__" ⟨.ref C::us,kw⟩)).units=A.units+1:=by
 first|rfl|simp [Around.under,Code.cUnits,Code.frames,Code.isFrame]
theorem Room.make {k:Nat} {A:Around} (r:Room (k+1) A) (C:Addr) (us:List Value) (kw:List (Str×Value)):Room k (A.under (.builtin "type.__call__" ⟨.ref C::us,kw⟩)) :=
 ⟨r.hd,by have:=r.dp;rw [CG];omega,by have:=r.un;rw [CF];omega⟩
theorem Room.depth {k:Nat} {A:Around} (r:Room k A):A.depth<recursionLimit:=by have:=r.dp;omega
theorem Room.units {k:Nat} {A:Around} (r:Room k A):A.units+64<cLine:=by have:=r.un;omega
theorem Room.units0 {k:Nat} {A:Around} (r:Room k A):A.units<cLine:=by have:=r.un;omega
def fP:TA:=fun _ H Q=>Q [] H
def IF (ta:TE) (tr:TA):TA:=fun σ H Q=>ta σ H fun x H1=>tr σ H1 fun xs H2=>Q (x::xs) H2
section
variable {X:Cx} {e:Expr} {es:List Expr} {te:TE} {t:TA} {pos:Pos}
theorem jC:PA X [] fP:=fun _ _ _ _ H Q I h=>Calls.spliced_nil ⟨[],H,I,.nil,h⟩
theorem jA (ha:PE X e te) (hr:PA X es t) (hs:starEach (e::es) X.env=(false,eval e X.env)::starEach es X.env:=by rfl):PA X (e::es) (IF te t):=by
 intro pos pins s σ H Q I h
 rw [hs]
 show wpAny _ _ (spliced ((false,eval e X.env)::backTo pos (starEach es X.env))) _ _ s
 refine Calls.spliced_cons (jL (ha pins s σ H _ I h) fun u s1 ⟨x,H1,I1,r1,q1⟩=>?_)
 exact jL (hr pos pins s1 σ H1 _ I1 q1) fun us s2 ⟨xs,H2,I2,r2,q2⟩=>⟨x::xs,H2,I2,.cons r1 r2,q2⟩
def KG (t:TA):TE:=fun σ H Q=>t σ H fun xs H1=>xs.length≤sizeLine∧∀p,H1 p=none→Q (.ref p) (upd H1 p (.tup xs))
def KM (t:TA):TE:=fun σ H Q=>t σ H fun xs H1=>xs.length≤sizeLine∧∀p,H1 p=none→Q (.ref p) (upd H1 p (.lst xs))
theorem yF {x1} (h:PA X es t):PE X (.Tuple es x1 pos) (KG t):=by
 intro pins s σ H Q I hq
 refine wpAny_Tuple_spliced (jL (h pos pins s σ H _ I hq) fun us s1 ⟨xs,H1,I1,r,z,q⟩=>⟨by rw [← r.length];exact z,?_⟩)
 have hf:H1 s1.heap.objs.size=none:=I1.hok.fresh (Nat.le_refl _)
 refine ⟨.ref s1.heap.objs.size,upd H1 s1.heap.objs.size (.tup xs),I1.laid (t':=s1.toks) (fun b u e=>Heap.get?_push_of_some _ e) (Nat.le_refl _) ?_,rfl,q _ hf⟩
 exact ⟨z,us,r,⟨_,Heap.get?_push_size _ rfl,rfl,_,rfl⟩⟩
theorem kR (h:PA X es t):PE X (.List es pos) (KM t):=by
 intro pins s σ H Q I hq
 refine wpAny_List_spliced (jL (h pos pins s σ H _ I hq) fun us s1 ⟨xs,H1,I1,r,z,q⟩=>⟨by rw [← r.length];exact z,?_⟩)
 have hf:H1 s1.heap.objs.size=none:=I1.hok.fresh (Nat.le_refl _)
 refine ⟨.ref s1.heap.objs.size,upd H1 s1.heap.objs.size (.lst xs),I1.laid (t':=s1.toks) (fun b u e=>Heap.get?_push_of_some _ e) (Nat.le_refl _) ?_,rfl,q _ hf⟩
 exact ⟨z,us,0,r,Heap.get?_push_size _ rfl⟩
end
abbrev Sp:=List V→Hp→VK→XK→Prop
abbrev yX:=List Env→Hp→Shared→XK→Value→Shared→Prop
structure Env0 (P:Program) (w:World) (K:PySem.W.Frag) (mg:Str→Option Value) (base:Heap) (A:Around) (outer:List Env) (s:Shared) (H:Hp):Prop where
 frames:A.frames=some outer
 mod:Mod K mg base
 bs:∀b o,base.get? b=some o→s.heap.get? b=some o∧H b=none
 bsz:base.objs.size≤s.heap.objs.size
 funs:s.heap.FunFrames base outer
 frf:∀b∈yW outer,H b=none
 hok:HOk P w H s.heap
 bare:AllBare s.gens
def CE (outer:List Env) (P:Program) (w:World) (H:Hp) (s:Shared) (Q:VK) (u:Value) (s':Shared):Prop :=
 ∃v H',s'.os=s.os∧AllBare s'.gens∧Un (yW outer) [] H H' s.heap s'.heap∧HOk P w H' s'.heap∧RelV v u∧Q v H'
def CR (CX:yX) (outer:List Env) (P:Program) (w:World) (H:Hp) (s:Shared) (Q:VK) (E:XK) (r:Result) (s':Shared):Prop :=
 match r with
 |.ok (.ret u)=>CE outer P w H s Q u s'
 |.ok _=>False
 |.error e=>CX outer H s E e s'
structure FnOk (P:Program) (w:World) (K:PySem.W.Frag) (mg:Str→Option Value) (base:Heap) (CX:yX) (k:Nat) (f:Addr) (fd:FuncData) (ps:List Str) (sp:Sp):Prop where
 len:∀vs H Q E,sp vs H Q E→vs.length=ps.length
 run:∀(A:Around) (outer:List Env) (s:Shared) (H:Hp) (args:Args) (us:List Value) (vs:List V) (Q:VK) (E:XK),Room k A→Env0 P w K mg base A outer s H→BindsTo s fd args (ps.zip us)→Vals vs us→sp vs H Q E→
  codeAny (model P w) A (.call (.ref f) args) (CR CX outer P w H s Q E) s
theorem FnOk.mono {P:Program} {w:World} {K:PySem.W.Frag} {mg:Str→Option Value} {base:Heap} {CX:yX} {j k:Nat} {f:Addr} {fd:FuncData} {ps:List Str} {sp:Sp} (F:FnOk P w K mg base CX j f fd ps sp) (h:j≤k) :
  FnOk P w K mg base CX k f fd ps sp:=⟨F.len,fun A outer s H args us vs Q E hr=>F.run A outer s H args us vs Q E (hr.mono h)⟩
theorem Env0.make {P:Program} {w:World} {K:PySem.W.Frag} {mg:Str→Option Value} {base:Heap} {A:Around} {outer:List Env} {s:Shared} {H:Hp} (e:Env0 P w K mg base A outer s H) (C:Addr) (us:List Value) (kw:List (Str×Value)) :
  Env0 P w K mg base (A.under (.builtin "type.__call__" ⟨.ref C::us,kw⟩)) outer s H:=⟨by first|exact e.frames|(simpa [Around.under,Code.envs,Code.isFrame,pushEnvs] using e.frames),e.mod,e.bs,e.bsz,e.funs,e.frf,e.hok,e.bare⟩
section
variable {X:Cx} {pins:List (Addr×Obj)} {σ:St} {H:Hp} {s s':Shared}
theorem Inv.env0 (I:Inv X pins σ H s):Env0 X.prog X.w X.K X.mg X.base X.A X.stack s H :=
 ⟨I.ok.frames,I.ok.mod,I.bs,Nat.le_trans I.ok.bsz I.sz,I.stack,I.stkFree,I.hok,I.bare⟩
theorem Inv.after {Q:VK} {u:Value} (I:Inv X pins σ H s) (h:CE X.stack X.prog X.w H s Q u s'):EP X pins σ Q u s':=by
 obtain ⟨v,H',os,bare,un,hok,r,q⟩:=h
 obtain ⟨hh,g,d,t,os'⟩:=s'
 obtain rfl:os'=s.os:=os
 exact ⟨v,H',I.call (h':=hh) (g':=g) (d':=d) (t':=t) (ch:=[]) un hok bare (fun b z=>absurd z (by simp)),r,q⟩
end
def lK (sp:Sp) (dvs:List V) (E:XK) (t:TA):TE:=fun σ H Q=>t σ H fun vs H1=>sp (vs++dvs) H1 Q E
def sW (C:Addr) (m:Str) (sp:Sp) (dvs:List V) (E:XK) (ta:TE) (t:TA):TE:=fun σ H Q=>ta σ H fun x H1=>∃a dx fs,x=.ref a∧H1 a=some (.ins C dx fs)∧fs.lookup m=none∧
 t σ H1 fun vs H2=>sp (x::(vs++dvs)) H2 Q E
def sX (C:Addr) (sp:Sp) (dvs:List V) (E:XK) (t:TA):TE:=fun σ H Q=>t σ H fun vs H1=>∀x dx,H1 x=none→H1 dx=none→dx≠x→
 sp (.ref x::(vs++dvs)) (upd (upd H1 dx (.own x)) x (.ins C dx [])) (fun v H2=>v=.non∧Q (.ref x) H2) E
def Binds (K:PySem.W.Frag) (fd:FuncData) (ps:List Str) (ds:List Value):Prop :=
 ∀(s:Shared) (us:List Value),K.In s.heap→(us++ds).length=ps.length→BindsTo s fd ⟨us,[]⟩ (ps.zip (us++ds))
theorem Binds.all {K:PySem.W.Frag} {fd:FuncData} {ps:List Str} (h:∀us:List Value,us.length=ps.length→bindArgs fd ⟨us,[]⟩=pure (ps.zip us)):Binds K fd ps []:=fun s us _ hl=>by
 rw [List.append_nil] at hl ⊢
 exact .of_eq (h us hl)
def bO (CX:yX) (X:Cx) (E:XK):Prop:=∀(pins:List (Addr×Obj)) (σ:St) (H:Hp) (s:Shared) (e:Value) (s':Shared),Inv X pins σ H s→CX X.stack H s E e s'→X.xe e s'
section
variable {X:Cx} {CX:yX} {k:Nat} {f C:Addr} {fd:FuncData} {ps:List Str} {sp:Sp} {dvs:List V} {ds:List Value} {E:XK} {x m:Str} {p pos apos:Pos} {e o:Expr} {es:List Expr} {ta:TE} {t:TA}
theorem fE {pins:List (Addr×Obj)} {σ:St} {H:Hp} {s:Shared} {Q:VK} {us:List Value} {vs:List V} (F:FnOk X.prog X.w X.K X.mg X.base CX k f fd ps sp) (hr:Room k X.A) (hb:Binds X.K fd ps ds) (hd:Vals dvs ds) (hx:bO CX X E)
  (I:Inv X pins σ H s) (r:Vals vs us) (h:sp (vs++dvs) H Q E):wpAny (model X.prog X.w) X.A (call (.ref f) us) (EP X pins σ Q) X.xe s:=by
 have r2:Vals (vs++dvs) (us++ds):=r.append hd
 have hl:(us++ds).length=ps.length:=by rw [← r2.length];exact F.len _ _ _ _ h
 refine wpAny_call (codeAny_mono (F.run X.A X.stack s H ⟨us,[]⟩ (us++ds) (vs++dvs) Q E hr I.env0 (hb s us I.kIn hl) r2 h) fun r s' hq=>?_)
 cases r with
 |error e=>exact hx pins σ H s e s' I hq
 |ok fl =>
  cases fl with
  |ret u=>exact I.after hq
  |next=>exact False.elim hq
  |brk=>exact False.elim hq
  |cont=>exact False.elim hq
theorem GD (F:FnOk X.prog X.w X.K X.mg X.base CX k f fd ps sp) (hr:Room k X.A) (hg:Gl X x) (hm:X.mg x=some (.ref f)) (hk:PySem.W.keepIn X.K (.ref f)=true) (hb:Binds X.K fd ps ds) (hd:Vals dvs ds) (hx:bO CX X E)
  (ha:PA X (e::es) t) (hdb:(x == ("__debug__":Str))=false:=by decide) (he:starEach (e::es) X.env=(false,eval e X.env)::starEach es X.env:=by rfl) (hpl:(backTo pos (starEach es X.env)).any (·.1)=false:=by rfl) :
  PE X (.Call (.Name x p) (e::es) [] pos) (lK sp dvs E t):=by
 intro pins s σ H Q I h
 refine wpAny_Call_Name_kw (i7 I hg hm ?_ hdb)
 refine PySem.W.callWith_K (h₀:=X.base) I.ok.mod.kin hk (jL (ha pos pins s σ H _ I h) fun us s1 ⟨vs,H1,I1,r,q⟩=>⟨I1.kIn,?_⟩) he hpl
 exact fE F hr hb hd hx I1 r q
theorem EV {pl:Sem Bool} (he:PE X o ta) (c:Cls X.K C) (hm:Meth X.K C m f) (F:FnOk X.prog X.w X.K X.mg X.base CX k f fd ps sp) (hr:Room k X.A) (hb:Binds X.K fd ps ds) (hd:Vals dvs ds) (hx:bO CX X E)
  (ht:eval (.Call (.Attribute o m apos) [] [] pos) X.env=(do
   let ov ← eval o X.env
   standAt apos.atName
   let (f,first) ← holding [ov] (getMethod ov m pl)
   callWith pos f first (backTo pos (starEach [] X.env)) (backToKw pos (keywordEach [] X.env))):=by rfl) :
  PE X (.Call (.Attribute o m apos) [] [] pos) (sW C m sp dvs E ta fP):=by
 intro pins s σ H Q I h
 refine PySem.W.methodCall_KW (pl:=pl) (jL (he pins s σ H _ I h) fun u s1 ⟨x,H1,I1,rx,a,dx,fs,ex,ea,l,q⟩=>?_) ht
 subst ex
 obtain rfl:u=Value.ref a:=rx
 refine nR I1 ea c hm l ?_
 exact PySem.W.callWith_K0 (first:=[.ref a]) I1.kIn hm.kp (fE (us:=[.ref a]) (vs:=[.ref a]) F hr hb hd hx I1 (.cons rfl .nil) q)
structure Mk (K:PySem.W.Frag) (C f:Addr):Prop where
 makes:PySem.W.makesIn K C=true
 init:PySem.W.findIn K (.ref C) "__init__"=some (some (.ref f))
 fn:PySem.W.isFn K (.ref f)=true
 kp:PySem.W.keepIn K (.ref C)=true
theorem EO {pins:List (Addr×Obj)} {σ:St} {H:Hp} {s:Shared} {Q:VK} {us:List Value} {vs:List V} (M:Mk X.K C f) (F:FnOk X.prog X.w X.K X.mg X.base CX k f fd ps sp) (hr:Room (k+1) X.A) (hb:Binds X.K fd ps ds) (hd:Vals dvs ds)
  (hx:bO CX X E) (I:Inv X pins σ H s) (r:Vals vs us)
  (h:∀x dx,H x=none→H dx=none→dx≠x→sp (.ref x::(vs++dvs)) (upd (upd H dx (.own x)) x (.ins C dx [])) (fun v H2=>v=.non∧Q (.ref x) H2) E) :
  wpAny (model X.prog X.w) X.A (call (.ref C) us) (EP X pins σ Q) X.xe s:=by
 have hq:=h (s.heap.objs.size+1) s.heap.objs.size (I.hok.fresh (Nat.le_succ _)) (I.hok.fresh (Nat.le_refl _)) (Nat.ne_of_lt (Nat.lt_succ_self _))
 have I2:=Inv.made (C:=C) I
 have r2:Vals (V.ref (s.heap.objs.size+1)::(vs++dvs)) (Value.ref (s.heap.objs.size+1)::(us++ds)):=.cons rfl (r.append hd)
 have hl:(Value.ref (s.heap.objs.size+1)::us++ds).length=ps.length:=by
  have e:=r2.length
  rw [F.len _ _ _ _ hq] at e
  exact e.symm
 refine wpAny_call (E5 (f:=f) I.kIn M.makes M.init (beq_iff_eq.mp M.fn) (codeAny_mono (F.run _ X.stack _ _ ⟨Value.ref (s.heap.objs.size+1)::us,[]⟩ (Value.ref (s.heap.objs.size+1)::(us++ds)) _ _ E (hr.make C us [])
  (I2.env0.make C us []) (hb _ (Value.ref (s.heap.objs.size+1)::us) I2.kIn hl) r2 hq) fun r s' hq'=>?_))
 cases r with
 |error e=>exact hx pins σ _ _ e s' I2 hq'
 |ok fl =>
  cases fl with
  |ret u =>
   obtain ⟨v,H',I3,rv,ev,q3⟩:=I2.after hq'
   subst ev
   exact ⟨rv,⟨V.ref (s.heap.objs.size+1),H',I3,rfl,q3⟩⟩
  |next=>exact False.elim hq'
  |brk=>exact False.elim hq'
  |cont=>exact False.elim hq'
theorem GC (M:Mk X.K C f) (F:FnOk X.prog X.w X.K X.mg X.base CX k f fd ps sp) (hr:Room (k+1) X.A) (hg:Gl X x) (hm:X.mg x=some (.ref C)) (hb:Binds X.K fd ps ds) (hd:Vals dvs ds) (hx:bO CX X E)
  (ha:PA X (e::es) t) (hdb:(x == ("__debug__":Str))=false:=by decide) (he:starEach (e::es) X.env=(false,eval e X.env)::starEach es X.env:=by rfl) (hpl:(backTo pos (starEach es X.env)).any (·.1)=false:=by rfl) :
  PE X (.Call (.Name x p) (e::es) [] pos) (sX C sp dvs E t):=by
 intro pins s σ H Q I h
 refine wpAny_Call_Name_kw (i7 I hg hm ?_ hdb)
 refine PySem.W.callWith_K (h₀:=X.base) I.ok.mod.kin M.kp (jL (ha pos pins s σ H _ I h) fun us s1 ⟨vs,H1,I1,r,q⟩=>⟨I1.kIn,?_⟩) he hpl
 exact EO M F hr hb hd hx I1 r q
end
section
variable {X:Cx} {CX:yX} {k:Nat} {f C:Addr} {fd:FuncData} {ps ks:List Str} {sp:Sp} {E:XK} {x m:Str} {p pos apos kpos:Pos} {e o:Expr} {es:List Expr} {kws:List Keyword} {te ta:TE} {t tk:TA} {nm:Option Str}
variable {g:List Value→List Value→List Value} {gV:List V→List V→List V}
end
structure FnScope (N P:List Str) (sc:Scope):Prop where
 kind:sc.kind=.function
 co:sc.isCoroutine=false
 gen:sc.isGenerator=false
 nd:N.Nodup
 pre:N.take P.length=P
 par:∀x∈P,sc.names.lookup x=some .local∨sc.names.lookup x=some .cell
 nofree:∀y∈sc.names,y.2≠.free
theorem o3 {kindOf:Str→Option NameKind} {x:Str}:∀{binds:List (Str×Value)} {m:Str→Option Value},(∀v,(x,v)∉binds)→bindL kindOf binds m x=m x
 |[],_,_=>rfl
 | (n,v)::r,m,h=>by
  unfold bindL
  rw [o3 fun w hw=>h w (List.mem_cons_of_mem _ hw)]
  split
  ·have:x≠n:=by rintro rfl;exact h v List.mem_cons_self
   simp [this]
  ·rfl
theorem o5 {kindOf:Str→Option NameKind} {x:Str}:∀{binds:List (Str×Value)} {m:Str→Option Value},(∀v,(x,v)∉binds)→bindC kindOf binds m x=m x
 |[],_,_=>rfl
 | (n,v)::r,m,h=>by
  unfold bindC
  rw [o5 fun w hw=>h w (List.mem_cons_of_mem _ hw)]
  split
  ·rfl
  ·have:x≠n:=by rintro rfl;exact h v List.mem_cons_self
   simp [this]
theorem o4 {kindOf:Str→Option NameKind} {x:Str} {v:Value}:∀{P:List Str} {vs:List Value} {i:Nat} {m:Str→Option Value},P.Nodup→P[i]?=some x→vs[i]?=some v→kindOf x=some .local→
  bindL kindOf (P.zip vs) m x=some v
 |[],_,_,_,_,h,_,_=>by simp at h
 |_::_,[],_,_,_,_,h,_=>by simp at h
 |p::P,w::vs,0,m,nd,h1,h2,hk=>by
  simp at h1 h2;subst h1;subst h2
  show bindL kindOf ((p,w)::P.zip vs) m p=_
  unfold bindL
  rw [o3 fun v hv=>(List.nodup_cons.mp nd).1 (List.of_mem_zip hv).1,if_pos hk]
  simp
 |p::P,w::vs,i+1,m,nd,h1,h2,hk=>by
  show bindL kindOf ((p,w)::P.zip vs) m x=_
  unfold bindL
  exact o4 (i:=i) (List.nodup_cons.mp nd).2 (by simpa using h1) (by simpa using h2) hk
theorem o6 {kindOf:Str→Option NameKind} {x:Str} {v:Value}:∀{P:List Str} {vs:List Value} {i:Nat} {m:Str→Option Value},P.Nodup→P[i]?=some x→vs[i]?=some v→kindOf x≠some .local→
  bindC kindOf (P.zip vs) m x=some v
 |[],_,_,_,_,h,_,_=>by simp at h
 |_::_,[],_,_,_,_,h,_=>by simp at h
 |p::P,w::vs,0,m,nd,h1,h2,hk=>by
  simp at h1 h2;subst h1;subst h2
  show bindC kindOf ((p,w)::P.zip vs) m p=_
  unfold bindC
  rw [o5 fun v hv=>(List.nodup_cons.mp nd).1 (List.of_mem_zip hv).1,if_neg hk]
  simp
 |p::P,w::vs,i+1,m,nd,h1,h2,hk=>by
  show bindC kindOf ((p,w)::P.zip vs) m x=_
  unfold bindC
  exact o6 (i:=i) (List.nodup_cons.mp nd).2 (by simpa using h1) (by simpa using h2) hk
def start (N:List Str) (vs:List V):St:=vs.map some++List.replicate (N.length - vs.length) none
def QM (CX:yX) (P:Program) (w:World) (K:PySem.W.Frag) (mg:Str→Option Value) (base:Heap) (N:List Str) (qual:Str) (scope:Scope) (f:Addr) (cd:Value) (A:Around) (outer:List Env) (s:Shared) (H:Hp) (E:XK):Cx where
 prog:=P
 w:=w
 K:=K
 mg:=mg
 base:=base
 A:=A.deeper (envOfC qual scope s.heap.objs.size f cd)
 N:=N
 s₀:=s
 H₀:=H
 env:=envOfC qual scope s.heap.objs.size f cd
 outer:=outer
 stack:=envOfC qual scope s.heap.objs.size f cd::outer
 ex:=[]
 calm:=true
 fn:=fun _=>true
 pn:=[]
 xe:=fun e s'=>wpAny (model P w) (A.deeper (envOfC qual scope s.heap.objs.size f cd)) (leaving (envOfC qual scope s.heap.objs.size f cd) e) (fun _ s''=>CX outer H s E e s'') (fun e' s''=>CX outer H s E e' s'') s'
theorem rC {sc:Scope} {n:Nat} {x:Str} (h:sc.names.lookup x=some .cell):∃c,(cellsFrom n sc.names []).lookup x=some c:=by
 have q:=PySem.W.cellsFrom_some sc.names n [] (.inl h)
 exact Option.isSome_iff_exists.mp q
theorem DS {CX:yX} {P:Program} {w:World} {K:PySem.W.Frag} {mg:Str→Option Value} {base:Heap} {N ps:List Str} {qual:Str} {scope:Scope} {f:Addr} {cd:Value} {A:Around} {outer:List Env} {s s1:Shared} {H:Hp} {E:XK} {us:List Value} {vs:List V}
  (S:FnScope N ps scope) (hd:A.handled=none) (e0:Env0 P w K mg base A outer s H) (hl:vs.length=ps.length) (r:Vals vs us)
  (x:InCallC s s.heap.objs.size (bindL (envOfC qual scope s.heap.objs.size f cd).kindOf (ps.zip us) fun _=>none) (cellsFrom (s.heap.objs.size+1) scope.names []) (bindC (envOfC qual scope s.heap.objs.size f cd).kindOf (ps.zip us) fun _=>none) s1) :
  Inv (QM CX P w K mg base N qual scope f cd A outer s H E) [] (start N vs) H s1:=by
 have hpl:ps.length≤N.length:=by have:=congrArg List.length S.pre;rw [List.length_take] at this;omega
 obtain ⟨h1,tk,rfl,hk⟩:=x.done
 have noA:∀b:Addr,b∉(QM CX P w K mg base N qual scope f cd A outer s H E).ex:=fun b z=>absurd (show b∈([]:List Addr) from z) (by simp)
 refine ⟨⟨e0.mod,S.kind,rfl,rfl,Nat.le_refl _,fun y z c h1 h2=>?_,fun y hy=>?_,fun y c _ h=>?_,fun _=>hd,Around.frames_deeper e0.frames,.inr ⟨rfl,rfl⟩,fun b z=>absurd z (noA b),e0.bs,e0.bsz,fun b _ _=>noA b,fun b z=>absurd z (noA b),e0.funs,e0.frf⟩,
  rfl,e0.bare,Un.kept hk,⟨_,x.toInCall.ns,fun i y v h1 h2 h3=>?_⟩,fun y c h=>⟨_,x.cell y c h⟩,e0.hok.fresh (Nat.le_refl _),fun y c h=>?_,fun p hp=>absurd (show p∈([]:List (Addr×Obj)) from hp) (by simp),e0.hok.kept hk,?_⟩
 ·exact name_of_addr x.apart (PySem.mem_of_lookup h1) (PySem.mem_of_lookup h2)
 ·have hy:scope.names.lookup y=some .cell∨scope.names.lookup y=some .free:=hy
  rcases hy with hy|hy
  ·exact rC hy
  ·exact absurd rfl (S.nofree _ (PySem.mem_of_lookup hy))
 ·exact Nat.le_of_lt (x.above y c (PySem.mem_of_lookup h))
 ·have hi:i<vs.length:=by
   unfold start at h2
   by_cases hi:i<vs.length
   ·exact hi
   ·rw [List.getElem?_append_right (by simpa using hi)] at h2
    rw [List.getElem?_replicate] at h2
    split at h2<;>cases h2
  have ha:vs[i]?=some v:=by
   unfold start at h2
   rw [List.getElem?_append_left (by simpa using hi),List.getElem?_map] at h2
   cases e:vs[i]? with
   |none=>rw [e] at h2;cases h2
   |some a=>rw [e] at h2;cases h2;rfl
  obtain ⟨u,hu,rv⟩:=r.get ha
  have hp:ps[i]?=some y:=by
   rw [← S.pre,List.getElem?_take_of_lt (by omega)];exact h1
  have ndP:ps.Nodup:=by rw [← S.pre];exact S.nd.sublist (List.take_sublist _ _)
  refine ⟨u,rv,?_⟩
  rcases S.par y (List.mem_of_getElem? hp) with k|k
  ·exact .inl ⟨k,o4 ndP hp hu k⟩
  ·obtain ⟨c,e⟩:=rC (n:=s.heap.objs.size+1) k
   refine .inr ⟨.inl k,c,e,?_⟩
   have q:=x.cell y c e
   rw [o6 ndP hp hu (by show scope.names.lookup y≠_;rw [k];decide)] at q
   exact q
 ·exact e0.hok.fresh (Nat.le_of_lt (x.above y c (PySem.mem_of_lookup h)))
 ·unfold start
  show _=N.length
  rw [List.length_append,List.length_map,List.length_replicate]
  omega
theorem tG {CX:yX} {P:Program} {w:World} {K:PySem.W.Frag} {mg:Str→Option Value} {base:Heap} {k:Nat} {f:Addr} {name qual:Str} {params:Arguments} {body:List Stmt} {scope:Scope} {dV kV doc pm cdv ct oc:Value} {an od:Option Addr}
  {osl:Array (Option Value)} {N ps:List Str} {sp:Sp} (lk:K.lookup f=some ⟨oc,od,.func (PySem.W.fnOf name qual params body scope dV kV doc pm an cdv ct),osl⟩) (hcd:PySem.W.codeIn K cdv qual=true) (S:FnScope N ps scope)
  (len:∀vs H Q E,sp vs H Q E→vs.length=ps.length)
  (hbody:∀(A:Around) (outer:List Env) (s:Shared) (H:Hp) (vs:List V) (Q:VK) (E:XK),Room k (A.deeper (envOfC qual scope s.heap.objs.size f cdv))→sp vs H Q E→
   ∃t,PSs (QM CX P w K mg base N qual scope f cdv A outer s H E) body t∧t {nx:=fun _ H'=>Q .non H',rt:=Q} (start N vs) H) :
  FnOk P w K mg base CX (k+1) f (PySem.W.fnOf name qual params body scope dV kV doc pm an cdv ct) ps sp:=by
 refine ⟨len,fun A outer s H args us vs Q E hr e0 hb r hsp=>?_⟩
 have hl:=len _ _ _ _ hsp
 have KX:K.In s.heap:=e0.mod.kin.keeps fun b o e=>(e0.bs b o e).1
 have lim:s.heap.NoLimit:=e0.mod.nolimit.keeps fun b o e=>(e0.bs b o e).1
 have hkind:∀y∈ps.zip us,scope.names.lookup y.1=some .local∨(scope.names.lookup y.1=some .cell∧((cellsFrom (s.heap.objs.size+1) scope.names []).lookup y.1).isSome=true):=fun ⟨n,v⟩ hy=>by
  rcases S.par n (List.of_mem_zip hy).1 with q|q
  ·exact .inl q
  ·exact .inr ⟨q,PySem.W.cellsFrom_some _ _ _ (.inl q)⟩
 refine codeAny_call_function hr.depth (KX _ _ lk) rfl S.co S.gen rfl (PySem.W.codeRec_of KX hcd) (hb _ _ _ _ ?_)
 refine wpAny_newFunctionEnv_cells S.kind hkind fun env he s1 x=>?_
 subst he
 refine ⟨lim.keeps x.toInCall.keep,codeAny_func ?_⟩
 obtain ⟨t,ht,hq⟩:=hbody A outer s H vs Q E (hr.deeper _) hsp
 have I:Inv (QM CX P w K mg base N qual scope f cdv A outer s H E) [] (start N vs) H s1:=DS S hr.hd e0 hl r x
 refine wpAny_mono (ht [] s1 (start N vs) H _ I hq) (fun fl s' hs=>?_) fun e s' hs=>hs
 have fin:∀{σ':St} {H':Hp} {v:V} {u:Value},Inv (QM CX P w K mg base N qual scope f cdv A outer s H E) [] σ' H' s'→RelV v u→Q v H'→CE outer P w H s Q u s' :=
  fun {σ' H' v u} J rv q=>⟨v,H',J.os,J.bare,J.base,J.hok,rv,q⟩
 cases fl with
 |ret u =>
  obtain ⟨v,σ',H',J,rv,q⟩:=hs
  exact fin J rv q
 |next =>
  obtain ⟨σ',H',J,q⟩:=hs
  exact fin (v:=V.non) (u:=Value.none) J rfl q
 |brk =>
  obtain ⟨_,_,_,q⟩:=hs
  exact False.elim q
 |cont =>
  obtain ⟨_,_,_,q⟩:=hs
  exact False.elim q
end L2
namespace L2
open PySem PySem.Spec PyProof.Rows
section
variable {X:Cx} {x:Str} {p pos:Pos} {e:Expr} {es:List Expr} {t:TA} {id T:String} {r:List V→Hp→VK→Prop}
def tX (r:List V→Hp→VK→Prop) (t:TA):TE:=fun σ H Q=>t σ H fun vs H1=>r vs H1 Q
theorem kA (hc:CallR X (.builtin id) r) (hg:Gl X x) (hm:X.mg x=none) (hv:bootBuiltins x=some (.builtin id)) (ha:PA X (e::es) t) (hn:x≠"__name__":=by decide) (hdb:(x == ("__debug__":Str))=false:=by decide)
  (he:starEach (e::es) X.env=(false,eval e X.env)::starEach es X.env:=by rfl) (hpl:(backTo pos (starEach es X.env)).any (·.1)=false:=by rfl):PE X (.Call (.Name x p) (e::es) [] pos) (tX r t):=by
 intro pins s σ H Q I h
 refine wpAny_Call_Name_kw (y4 I hg hm hv ?_ hn hdb)
 exact PyProof.Rows.callWith_builtin1 (jL (ha pos pins s σ H _ I h) fun us s1 ⟨vs,H1,I1,r1,q1⟩=>hc pins s1 σ H1 vs us Q I1 r1 q1) he hpl
theorem q8 (hc:CallR X (.type T) r) (hg:Gl X x) (hm:X.mg x=none) (hv:bootBuiltins x=some (.type T)) (ha:PA X (e::es) t) (hn:x≠"__name__":=by decide) (hdb:(x == ("__debug__":Str))=false:=by decide)
  (he:starEach (e::es) X.env=(false,eval e X.env)::starEach es X.env:=by rfl) (hpl:(backTo pos (starEach es X.env)).any (·.1)=false:=by rfl):PE X (.Call (.Name x p) (e::es) [] pos) (tX r t):=by
 intro pins s σ H Q I h
 refine wpAny_Call_Name_kw (y4 I hg hm hv ?_ hn hdb)
 exact PyProof.Rows.callWith_type1 (jL (ha pos pins s σ H _ I h) fun us s1 ⟨vs,H1,I1,r1,q1⟩=>hc pins s1 σ H1 vs us Q I1 r1 q1) he hpl
end
end L2
namespace HT
open PySem PyProof.Rows
section
open PySem.SeqAt
open PySem.AutoSeq1 (wpAny_loadPart')
open PySem.MeetsSeq PySem.MeetsSeq2 PySem.MeetsSeq3
end
section
variable {prog:Program} {w:World} {A:Around} {E:Value→Shared→Prop} {s:Shared}
theorem cat_tup {t b:Addr} {vs ws:List Value} {Q:Value→Shared→Prop} (ht:IsTup s.heap t vs.toArray) (hb:IsTup s.heap b ws.toArray) (hv:vs≠[])
  (h1:ws=[]→Q (.ref t) s) (h2:ws≠[]→Q (.ref s.heap.objs.size) {s with heap:=s.heap.push {cls:=.type "tuple",data:=.seq (vs++ws).toArray}})
  (hsz:vs.length+ws.length≤sizeLine):wpAny (model prog w) A (binaryOp .Add (.ref t) (.ref b)) Q E s:=by
 obtain ⟨⟨cls,dd,data,sl⟩,ho,hc,n,hd⟩:=id ht
 obtain ⟨⟨cls2,dd2,data2,sl2⟩,ho2,hc2,n2,hd2⟩:=id hb
 simp only at hc hd hc2 hd2
 subst hc hd hc2 hd2
 have e:vs.toArray++ws.toArray=(vs++ws).toArray:=by simp
 by_cases hw:ws=[]
 ·exact concat_meets ⟨_,ho,rfl⟩ ⟨_,ho2,rfl⟩ noFill_tuple_add seq_tuple_add PySem.F.slot_tuple_add PySem.F.entry_tuple_add (PySem.F.args_tuple_add_2 _ _)
   (tuple_addW1 t b vs.toArray ws.toArray n n2 dd dd2 sl sl2 (by simpa using hv) (by simp [hw])) ⟨ho,ho2,h1 hw⟩
 ·refine concat_meets ⟨_,ho,rfl⟩ ⟨_,ho2,rfl⟩ noFill_tuple_add seq_tuple_add PySem.F.slot_tuple_add PySem.F.entry_tuple_add (PySem.F.args_tuple_add_2 _ _)
   (tuple_addW2 t b vs.toArray ws.toArray n n2 dd dd2 sl sl2 (by simpa using hv) (by simpa using hw) (by rw [List.size_toArray,List.size_toArray];exact hsz)) ⟨ho,ho2,?_⟩
  rw [e]
  exact h2 hw
def sIx (n d:Nat):Option Int→Nat
 |none=>d
 |some v=>if v<0 then (v+(n:Int)).toNat else min v.toNat n
theorem G6 (n d:Nat) (hd:d≤n) (o:Option Int):sIx n d o≤n:=by
 cases o with
 |none=>exact hd
 |some v =>
  show (if v<0 then (v+(n:Int)).toNat else min v.toNat n)≤n
  by_cases hv:v<0
  ·rw [if_pos hv];omega
  ·rw [if_neg hv];exact Nat.min_le_right _ _
theorem rZ (v:Int) (n d:Nat):(if v<0 then max (v+(n:Int)) 0 else min v (n:Int))=((sIx n d (some v):Nat):Int):=by
 show (if v<0 then max (v+(n:Int)) 0 else min v (n:Int))=(((if v<0 then (v+(n:Int)).toNat else min v.toNat n):Nat):Int)
 by_cases hv:v<0
 ·simp only [if_pos hv];omega
 ·simp only [if_neg hv];omega
theorem CS (lo hi:Option Int) (n:Nat):Builtin.Slice.sliceAdjust lo hi 1 (n:Int)=(((sIx n 0 lo:Nat):Int),((sIx n n hi:Nat):Int)):=by
 have h1:¬((1:Int)<0):=by omega
 unfold Builtin.Slice.sliceAdjust
 simp only [h1,if_false]
 refine Prod.ext ?_ ?_
 ·cases lo with
  |none=>rfl
  |some v=>exact rZ v n 0
 ·cases hi with
  |none=>rfl
  |some v=>exact rZ v n n
theorem B5 (i j:Nat):Builtin.Slice.slicePlaces (i:Int) (j:Int) 1=j - i:=by
 unfold Builtin.Slice.slicePlaces
 have h1:(1:Int)>0:=by omega
 simp only [h1,if_true,Int.ediv_one]
 split<;>omega
theorem nL {v:Value} {o:Option Int} {Q:Option Int→Shared→Prop} (p:IsPart v o) (h:Q o s):wpAny (model prog w) A (Builtin.Slice.slicePartIndex v) Q E s:=by
 cases p with
 |none=>exact slicePart_none h
 |int i t=>exact slicePart_int h
theorem AM {sl:Addr} {vl vu:Value} {lo hi:Option Int} {n:Nat} {Q:Int×Int×Nat→Shared→Prop} (hs:s.heap.IsSliceOf sl vl vu .none) (pl:IsPart vl lo) (pu:IsPart vu hi)
  (h:Q (((sIx n 0 lo:Nat):Int),1,sIx n n hi - sIx n 0 lo) s):wpAny (model prog w) A (Builtin.Slice.sliceApplied (.ref sl) (pure (n:Int))) Q E s:=by
 obtain ⟨os,hos,hcs,hds⟩:=id hs
 unfold Builtin.Slice.sliceApplied Builtin.Slice.sliceFields
 refine wpAny_bind (wpAny_bind (wpAny_field hos hds (x:=vl) rfl (wpAny_bind (wpAny_field hos hds (x:=vu) rfl (wpAny_bind (wpAny_field hos hds (x:=.none) rfl (wpAny_pure ?_)))))))
 refine wpAny_bind (slicePart_none ?_)
 show wpAny _ _ (if ((1:Int) == 0)=true then _ else _) _ _ s
 rw [if_neg (by decide)]
 refine wpAny_bind (nL pl (wpAny_bind (nL pu (wpAny_bind (wpAny_pure ?_)))))
 show wpAny _ _ (match Builtin.Slice.sliceAdjust lo hi 1 (n:Int) with|(lo,hi)=>pure (lo,(1:Int),Builtin.Slice.slicePlaces lo hi 1)) _ _ s
 rw [CS lo hi n]
 show wpAny _ _ (pure (((sIx n 0 lo:Nat):Int),(1:Int),Builtin.Slice.slicePlaces ((sIx n 0 lo:Nat):Int) ((sIx n n hi:Nat):Int) 1)) _ _ s
 rw [B5]
 exact wpAny_pure h
theorem EU (xs:Array Value) (i k:Nat):((List.range k).filterMap fun (m:Nat)=>xs[((i:Int)+(m:Int)*1).toNat]?).toArray=((xs.toList.drop i).take k).toArray:=by
 have e:(fun (m:Nat)=>xs[((i:Int)+(m:Int)*1).toNat]?)=fun m=>xs[i+m]?:=by
  funext m
  have:((i:Int)+(m:Int)*1).toNat=i+m:=by omega
  rw [this]
 rw [e]
 have:=pick_run xs i k
 rw [List.filterMap_map] at this
 have e2:((fun x=>xs[x]?)∘fun x=>i+x)=fun m=>xs[i+m]?:=rfl
 rw [e2] at this
 rw [this]
theorem getItem_tuple_cut {t sl:Addr} {items:Array Value} {vl vu:Value} {lo hi:Option Int} {Q:Value→Shared→Prop} (ht:IsTup s.heap t items) (hs:s.heap.IsSliceOf sl vl vu .none) (pl:IsPart vl lo) (pu:IsPart vu hi)
  (hw:¬(sIx items.size 0 lo=0∧sIx items.size items.size hi=items.size))
  (h:Q (.ref s.heap.objs.size) {s with heap:=s.heap.push {cls:=.type "tuple",data:=.seq ((items.toList.drop (sIx items.size 0 lo)).take (sIx items.size items.size hi - sIx items.size 0 lo)).toArray}})
  (hsz:items.size≤sizeLine):wpAny (model prog w) A (getItem (.ref t) (.ref sl)) Q E s:=by
 have htake:sizeOk (.seq ((items.toList.drop (sIx items.size 0 lo)).take (sIx items.size items.size hi - sIx items.size 0 lo)).toArray):=by
  show ((items.toList.drop (sIx items.size 0 lo)).take (sIx items.size items.size hi - sIx items.size 0 lo)).toArray.size≤sizeLine
  rw [List.size_toArray,List.length_take,List.length_drop,Array.length_toList]
  omega
 have hj:sIx items.size items.size hi≤items.size:=G6 _ _ (Nat.le_refl _) hi
 obtain ⟨os,hos,hcs,hds⟩:=id hs
 have hTs:s.TypeIs (.ref sl) "slice":=⟨os,hos,hcs⟩
 unfold getItem
 try with_reducible refine wpAny_holding ?_
 first|refine wpAny_bind (wpAny_pure ?_)|skip
 refine wpAny_bind (wpAny_sequenceKey ht.typeIs (by decide) ?_)
 refine wpAny_bind (wpAny_callSpecial?_slot (name:=Str.ofString "__getitem__") ht.typeIs PyProof.Rows.slot_tuple_getitem
  (wpAny_call_entry PyProof.Rows.slot_tuple_getitem ht.typeIs entry_tuple_getitem ?_ (args_tuple_getitem _ _)))
 show wpAny _ _ (Builtin.Tuple.tupleItemsOf (.ref t) >>= _) _ _ s
 refine wpAny_bind (tupleItemsOf_ ht ?_)
 refine wpAny_bind (wpAny_typeOf hTs ?_)
 rw [if_pos (by decide)]
 refine wpAny_bind (AM hs pl pu ?_)
 have hno:¬((((sIx items.size 0 lo:Nat):Int) == 0&&(1:Int) == 1&&(sIx items.size items.size hi - sIx items.size 0 lo) == items.size)=true):=by
  intro q
  rw [Bool.and_eq_true,Bool.and_eq_true] at q
  have q1:((sIx items.size 0 lo:Nat):Int)=0:=eq_of_beq q.1.1
  have q2:sIx items.size items.size hi - sIx items.size 0 lo=items.size:=eq_of_beq q.2
  exact hw ⟨by omega,by omega⟩
 show wpAny _ _ (if (((sIx items.size 0 lo:Nat):Int) == 0&&(1:Int) == 1&&(sIx items.size items.size hi - sIx items.size 0 lo) == items.size)=true then _ else _) _ _ s
 rw [if_neg hno,EU]
 first
  |exact wpAny_bind (m:=Builtin.Tuple.tupleExact _) (wpAny_newObj_type (wpAny_pure ⟨_,rfl,wpAny_pure h⟩) htake)
  |exact wpAny_bind (m:=Builtin.Tuple.tupleExact _) (wpAny_newObj_type (wpAny_bind (wpAny_pure (wpAny_pure ⟨_,rfl,wpAny_pure h⟩))) htake)
  |exact wpAny_bind (wpAny_bind (m:=Builtin.Tuple.tupleExact _) (wpAny_newObj_type (wpAny_pure (wpAny_pure ⟨_,rfl,wpAny_pure h⟩)) htake))
  |exact wpAny_bind (wpAny_bind (m:=Builtin.Tuple.tupleExact _) (wpAny_newObj_type (wpAny_pure ⟨_,rfl,wpAny_pure h⟩) htake))
end
end HT
namespace L2
open PySem PySem.Spec PyProof.Rows
abbrev TO:=St→Hp→(Option Int→Hp→Prop)→Prop
def PO (X:Cx) (e:Option Expr) (t:TO):Prop :=
 ∀(pins:List (Addr×Obj)) (s:Shared) (σ:St) (H:Hp) (Q:Option Int→Hp→Prop),Inv X pins σ H s→t σ H Q→
  wpAny (model X.prog X.w) X.A (evalPart e X.env) (fun u s'=>∃o H',Inv X pins σ H' s'∧IsPart u o∧Q o H') X.xe s
def FP:TO:=fun _ H Q=>Q none H
def IB (t:TE):TO:=fun σ H Q=>t σ H fun x H1=>∃i,x=.int i∧Q (some i) H1
section
variable {X:Cx} {e:Expr} {te:TE} {lo hi:Option Expr} {tl th:TO} {pos p2:Pos}
theorem zG:PO X none FP:=by
 intro pins s σ H Q I h
 rw [evalPart_none]
 exact wpAny_pure ⟨none,H,I,.none,h⟩
theorem qN (h:PE X e te):PO X (some e) (IB te):=by
 intro pins s σ H Q I hw
 rw [evalPart_some]
 refine jL (h pins s σ H _ I hw) fun u s1 ⟨x,H1,I1,r1,q1⟩=>?_
 obtain ⟨i,rfl,q⟩:=q1
 obtain ⟨t,rfl⟩:=r1
 exact ⟨some i,H1,I1,.int i t,q⟩
def SlR (X:Cx) (r:V→Option Int→Option Int→Hp→VK→Prop):Prop :=
 ∀(pins:List (Addr×Obj)) (s:Shared) (σ:St) (H:Hp) (x:V) (v vl vu:Value) (lo hi:Option Int) (sl:Addr) (Q:VK),Inv X pins σ H s→RelV x v→s.heap.IsSliceOf sl vl vu .none→IsPart vl lo→IsPart vu hi→r x lo hi H Q→
  ∃T id,typeLookup (.type T) "__getitem__"=pure (some (.builtin id))∧s.TypeIs v T∧wpAny (model X.prog X.w) X.A (getItem v (.ref sl)) (EP X pins σ Q) X.xe s
theorem SlR.or {r r':V→Option Int→Option Int→Hp→VK→Prop} (h:SlR X r) (h':SlR X r'):SlR X (fun x lo hi H Q=>r x lo hi H Q∨r' x lo hi H Q):=by
 intro pins s σ H x v vl vu lo hi sl Q I rx hs pl pu q
 rcases q with q|q
 ·exact h pins s σ H x v vl vu lo hi sl Q I rx hs pl pu q
 ·exact h' pins s σ H x v vl vu lo hi sl Q I rx hs pl pu q
def LL (r:V→Option Int→Option Int→Hp→VK→Prop) (te:TE) (tl th:TO):TE:=fun σ H Q=>te σ H fun x H1=>tl σ H1 fun l H2=>th σ H2 fun u H3=>r x l u H3 Q
theorem yK {r:V→Option Int→Option Int→Hp→VK→Prop} (hr:SlR X r) (he:PE X e te) (hl:PO X lo tl) (hu:PO X hi th):PE X (.Subscript e (.Slice lo hi none p2) pos) (LL r te tl th):=by
 intro pins s σ H Q I h
 refine Subscript_ (jL (he pins s σ H _ I h) fun v s1 ⟨x,H1,I1,r1,q1⟩=>?_)
 refine wpAny_Slice (jL (hl pins s1 σ H1 _ I1 q1) fun vl s2 ⟨l,H2,I2,pl,q2⟩=>jL (hu pins s2 σ H2 _ I2 q2) fun vu s3 ⟨u,H3,I3,pu,q3⟩=>?_)
 rw [evalPart_none]
 refine wpAny_pure ?_
 have I4:Inv X pins σ H3 {s3 with heap:=s3.heap.push {cls:=.type "slice",data:=.fields #[vl,vu,.none]}}:=I3.kept (t':=s3.toks) fun b ob q=>Heap.get?_push_of_some _ q
 obtain ⟨T,id,hT,ht,hg⟩:=hr pins {s3 with heap:=s3.heap.push {cls:=.type "slice",data:=.fields #[vl,vu,.none]}} σ H3 x v vl vu l u s3.heap.objs.size Q I4 r1 (Heap.IsSliceOf.new ..) pl pu q3
 show wpAny (model X.prog X.w) X.A (subscriptTail e (.Slice lo hi none p2) v (.ref s3.heap.objs.size)) (EP X pins σ Q) X.xe {s3 with heap:=s3.heap.push {cls:=.type "slice",data:=.fields #[vl,vu,.none]}}
 exact tail_any (ops:=[.ref s3.heap.objs.size,v]) ht hT hg (by with_unfolding_all rfl)
def vS (xs:List V) (lo hi:Option Int):List V:=(xs.drop (HT.sIx xs.length 0 lo)).take (HT.sIx xs.length xs.length hi - HT.sIx xs.length 0 lo)
theorem m8 (xs:List V) (lo hi:Option Int):(vS xs lo hi).length≤xs.length:=by
 unfold vS
 rw [List.length_take,List.length_drop]
 omega
def KT (K:PySem.W.Frag):V→Option Int→Option Int→Hp→VK→Prop:=fun x lo hi H Q=>∃a xs,x=.ref a∧SqT K H a xs∧
 ¬(HT.sIx xs.length 0 lo=0∧HT.sIx xs.length xs.length hi=xs.length)∧∀p,H p=none→Q (.ref p) (upd H p (.tup (vS xs lo hi)))
theorem fC:SlR X (KT X.K):=by
 intro pins s σ H x v vl vu lo hi sl Q I rx hs pl pu h
 obtain ⟨a,xs,rfl,hx,hw,q⟩:=h
 cases rx
 obtain ⟨its,r,ht,hz⟩:=I.tuple hx
 have hlen:its.toArray.size=xs.length:=by rw [List.size_toArray];exact r.length.symm
 refine ⟨"tuple",_,PyProof.Rows.slot_tuple_getitem.lookup,ht.typeIs,?_⟩
 refine HT.getItem_tuple_cut ht hs pl pu (by rw [hlen];exact hw) ?_ (by rw [hlen];exact hz)
 rw [hlen]
 refine ⟨.ref s.heap.objs.size,_,I.laid (t':=s.toks) (o:=.tup (vS xs lo hi)) (fun b ob q=>Heap.get?_push_of_some _ q) (Nat.le_refl _) ?_,rfl,q _ (I.hok.fresh (Nat.le_refl _))⟩
 exact ⟨Nat.le_trans (m8 xs lo hi) hz,_,(r.drop (HT.sIx xs.length 0 lo)).take (HT.sIx xs.length xs.length hi - HT.sIx xs.length 0 lo),IsTup.new _ _⟩
def IL (K:PySem.W.Frag):R2:=fun x y H Q=>∃a b xs ys,x=.ref a∧y=.ref b∧SqT K H a xs∧SqT K H b ys∧xs≠[]∧xs.length+ys.length≤sizeLine∧
 (ys=[]→Q (.ref a) H)∧(ys≠[]→∀p,H p=none→Q (.ref p) (upd H p (.tup (xs++ys))))
theorem Vals.nil_iff {xs:List V} {us:List Value} (r:Vals xs us):us=[]↔xs=[]:=by
 cases r with
 |nil=>simp
 |cons _ _=>simp
theorem GE:OpR X (binaryOp .Add) (IL X.K):=by
 intro pins s σ H x y v u Q I rx ry h
 obtain ⟨a,b,xs,ys,rfl,rfl,ha,hb,hx,hz,q1,q2⟩:=h
 cases rx
 cases ry
 obtain ⟨its,r1,p1,_⟩:=I.tuple ha
 obtain ⟨its2,r2,p2,_⟩:=I.tuple hb
 refine HT.cat_tup p1 p2 (fun z=>hx (r1.nil_iff.mp z)) (fun z=>⟨.ref a,H,I,rfl,q1 (r2.nil_iff.mp z)⟩) (fun z=>?_) (by rw [← r1.length,← r2.length];exact hz)
 refine ⟨.ref s.heap.objs.size,_,I.laid (t':=s.toks) (o:=.tup (xs++ys)) (fun b ob q=>Heap.get?_push_of_some _ q) (Nat.le_refl _) ?_,rfl,q2 (fun w=>z (r2.nil_iff.mpr w)) _ (I.hok.fresh (Nat.le_refl _))⟩
 exact ⟨by rw [List.length_append];exact hz,_,r1.append r2,IsTup.new _ _⟩
end
end L2
namespace L2
open PySem PySem.Spec PyProof.Rows
def zA (n:Nat) (i:Int):Option Nat:=if 0≤i then (if i<n then some i.toNat else none) else if -(n:Int)≤i then some (i+n).toNat else none
def qF {α:Type} (xs:List α) (i:Int):Option α:=(zA xs.length i).bind fun j=>xs[j]?
theorem rS {n:Nat} {i:Int} {j:Nat} (h:zA n i=some j):seqIndex? i n=some j∧j<n∧-(n:Int)≤i∧i<n:=by
 unfold zA at h
 by_cases h0:0≤i
 ·rw [if_pos h0] at h
  by_cases h1:i<n
  ·rw [if_pos h1] at h
   have e:i.toNat=j:=Option.some.inj h
   exact ⟨by rw [seqIndex_of h0 h1,e],by omega,by omega,h1⟩
  ·rw [if_neg h1] at h;cases h
 ·rw [if_neg h0] at h
  by_cases h1 : -(n:Int)≤i
  ·rw [if_pos h1] at h
   have e:(i+n).toNat=j:=Option.some.inj h
   exact ⟨by rw [seqIndex_neg (by omega) h1,e],by omega,h1,by omega⟩
  ·rw [if_neg h1] at h;cases h
theorem e8 {α:Type} {xs:List α} {i:Int} {v:α} (h:qF xs i=some v):∃j,seqIndex? i xs.length=some j∧xs[j]?=some v∧j<xs.length∧-(xs.length:Int)≤i∧i<xs.length:=by
 unfold qF at h
 cases e:zA xs.length i with
 |none=>rw [e] at h;cases h
 |some j =>
  rw [e] at h
  obtain ⟨h1,h2,h3,h4⟩:=rS e
  exact ⟨j,h1,h,h2,h3,h4⟩
theorem qV {α:Type} {xs:List α} {j:Nat} {v:α} (h:xs[j]?=some v):qF xs (j:Int)=some v:=by
 have hj:j<xs.length:=(List.getElem?_eq_some_iff.mp h).1
 have e:zA xs.length (j:Int)=some j:=by
  unfold zA
  rw [if_pos (by omega),if_pos (by omega)];simp
 unfold qF;rw [e];exact h
theorem FL {α:Type} (xs:List α) (v:α):qF (xs++[v]) (-1)=some v:=by
 have hl:(xs++[v]).length=xs.length+1:=by simp
 have e:zA (xs++[v]).length (-1)=some xs.length:=by
  unfold zA
  rw [hl,if_neg (by decide),if_pos (by omega)]
  congr 1
  omega
 unfold qF
 rw [e]
 show (xs++[v])[xs.length]?=some v
 simp
def GX (b:Expr):Prop:=∀o i,subscripted b false o i=operate [o,i] (getItem o i)
def IxR (X:Cx) (r:R2):Prop :=
 ∀(value slice:Expr) (pins:List (Addr×Obj)) (s:Shared) (σ:St) (H:Hp) (x y:V) (v u:Value) (Q:VK),Inv X pins σ H s→RelV x v→RelV y u→r x y H Q→
  subscripted slice false v u=operate [v,u] (getItem v u)→wpAny (model X.prog X.w) X.A (subscriptTail value slice v u) (EP X pins σ Q) X.xe s
def MtR (X:Cx) (id:String) (r:V→List V→Hp→VK→Prop):Prop :=
 ∀(pins:List (Addr×Obj)) (s:Shared) (σ:St) (H:Hp) (x:V) (xs:List V) (v:Value) (us:List Value) (Q:VK),Inv X pins σ H s→RelV x v→Vals xs us→r x xs H Q→
  wpAny (model X.prog X.w) X.A (call (.builtin id) (v::us)) (EP X pins σ Q) X.xe s
section
variable {X:Cx} {a b:Expr} {ta tb:TE} {pos:Pos}
theorem IxR.or {r r':R2} (h:IxR X r) (h':IxR X r'):IxR X (fun x y H Q=>r x y H Q∨r' x y H Q):=by
 intro value slice pins s σ H x y v u Q I rx ry q hs
 rcases q with q|q
 ·exact h value slice pins s σ H x y v u Q I rx ry q hs
 ·exact h' value slice pins s σ H x y v u Q I rx ry q hs
theorem MtR.or {id:String} {r r':V→List V→Hp→VK→Prop} (h:MtR X id r) (h':MtR X id r'):MtR X id (fun x xs H Q=>r x xs H Q∨r' x xs H Q):=by
 intro pins s σ H x xs v us Q I rx rs q
 rcases q with q|q
 ·exact h pins s σ H x xs v us Q I rx rs q
 ·exact h' pins s σ H x xs v us Q I rx rs q
theorem jI {r:R2} (hr:IxR X r) (ha:PE X a ta) (hb:PE X b tb) (hs:GX b):PE X (.Subscript a b pos) (fU r ta tb):=by
 intro pins s σ H Q I h
 exact Subscript_ (lU ha hb I h fun v u s2 x y H2 I2 rx ry q=>hr a b pins s2 σ H2 x y v u Q I2 rx ry q (hs _ _))
def fQ (K:PySem.W.Frag):R2:=fun x y H Q=>∃p xs i v,x=.ref p∧y=.int i∧SqL K H p xs∧qF xs i=some v∧Q v H
def lS (K:PySem.W.Frag):R2:=fun x y H Q=>∃p xs i v,x=.ref p∧y=.int i∧SqT K H p xs∧qF xs i=some v∧Q v H
def tQ:R2:=fun x y H Q=>∃z i c,x=.str z∧y=.int i∧z.length≤sizeLine∧qF z.cps.toList i=some c∧Q (.str ⟨#[c]⟩) H
theorem jN:IxR X (fQ X.K):=by
 intro value slice pins s σ H x y v u Q I rx ry h hs
 obtain ⟨p,xs,i,z,rfl,rfl,hq,he,q⟩:=h
 cases rx
 obtain ⟨t,rfl⟩:=ry
 obtain ⟨its,r,pl,hz⟩:=I.list hq
 obtain ⟨j,h1,h2,h3,h4,h5⟩:=e8 he
 obtain ⟨w,ew,rw'⟩:=r.get h2
 have hl:=r.length
 have hn:=JL
 have fin:EP X pins σ Q w s:=⟨z,H,I,rw',q⟩
 by_cases h0:0≤i
 ·have hj:i.toNat=j:=by
   rw [seqIndex_of h0 h5] at h1
   exact Option.some.inj h1
  exact item_listR pl.isList h0 (by omega) (by rw [hj];simpa using ew) fin hs
 ·have hj:(i+(its.toArray.size:Int)).toNat=j:=by
   rw [seqIndex_neg (by omega) h4] at h1
   rw [List.size_toArray,← hl]
   exact Option.some.inj h1
  exact subscriptTail_builtinR (x:=w) pl.isList.typeIs slot_list_getitem.lookup
   (wpAny_getItem_list_neg (Q:=fun r s'=>r=w∧EP X pins σ Q r s') pl.isList (by omega) (by rw [List.size_toArray]<;>omega) (by omega) (by rw [hj];simpa using ew) ⟨rfl,fin⟩) hs
theorem ix_tup:IxR X (lS X.K):=by
 intro value slice pins s σ H x y v u Q I rx ry h hs
 obtain ⟨p,xs,i,z,rfl,rfl,hq,he,q⟩:=h
 cases rx
 obtain ⟨t,rfl⟩:=ry
 obtain ⟨its,r,pl,hz⟩:=I.tuple hq
 obtain ⟨j,h1,h2,h3,h4,h5⟩:=e8 he
 obtain ⟨w,ew,rw'⟩:=r.get h2
 have hl:=r.length
 have hn:=JL
 have fin:EP X pins σ Q w s:=⟨z,H,I,rw',q⟩
 exact subscriptTail_builtinR (x:=w) pl.typeIs slot_tuple_getitem.lookup
  (getItem_tuple (j:=j) (Q:=fun r s'=>r=w∧EP X pins σ Q r s') pl (by omega) (by omega) (by rw [List.size_toArray,← hl];exact h1) (by simpa using ew) ⟨rfl,fin⟩) hs
theorem fG:IxR X tQ:=by
 intro value slice pins s σ H x y v u Q I rx ry h hs
 obtain ⟨z,i,c,rfl,rfl,hz,he,q⟩:=h
 obtain ⟨t,rfl⟩:=rx
 obtain ⟨t',rfl⟩:=ry
 obtain ⟨j,h1,h2,h3,h4,h5⟩:=e8 he
 have hl:z.cps.toList.length=z.length:=by simp [Str.length]
 rw [hl] at h1 h4 h5
 have hn:=JL
 exact tail_any (typeIs_str s z t) slot_str_getitem.lookup (getItem_str (c:=c) (by
  have e1:decide (i < -(2 ^ 63:Int))=false:=decide_eq_false (by omega)
  have e2:decide (i≥2 ^ 63)=false:=decide_eq_false (by omega)
  rw [e1,e2,Bool.or_false]) (by rw [h1];simpa using h2) ⟨.str ⟨#[c]⟩,H,I.tok _,⟨_,rfl⟩,q⟩) hs
def tY (K:PySem.W.Frag):R2:=fun x y H Q=>fQ K x y H Q∨lS K x y H Q∨tQ x y H Q
theorem fH:IxR X (tY X.K):=jN.or (ix_tup.or fG)
theorem CD (its:List Value) (n j:Nat) (u:Value):Obj.mapSeq (·.setIfInBounds j u) {cls:=.type "list",data:=.seq its.toArray n}={cls:=.type "list",data:=.seq (its.set j u).toArray n}:=by
 simp [Obj.mapSeq]
theorem Inv.lst {pins:List (Addr×Obj)} {σ:St} {H:Hp} {s:Shared} {p:Addr} {xs:List V} (I:Inv X pins σ H s) (h:H p=some (.lst xs)) :
  ∃(its:List Value) (n:Nat),Vals xs its∧s.heap.get? p=some {cls:=.type "list",data:=.seq its.toArray n}∧xs.length≤sizeLine:=by
 obtain ⟨z,its,n,r,e⟩:=I.hok p _ h
 exact ⟨its,n,r,e,z⟩
theorem Inv.lstUpd {pins:List (Addr×Obj)} {σ:St} {H:Hp} {s:Shared} {p:Addr} {xs ys:List V} {its its':List Value} {n n':Nat} {f:Obj→Obj} (I:Inv X pins σ H s) (h:H p=some (.lst xs))
  (ho:s.heap.get? p=some {cls:=.type "list",data:=.seq its.toArray n}) (hf:f {cls:=.type "list",data:=.seq its.toArray n}={cls:=.type "list",data:=.seq its'.toArray n'}) (r:Vals ys its') (hz:ys.length≤sizeLine) (t:Nat) :
  Inv X pins σ (upd H p (.lst ys)) {s with heap:=s.heap.update p f,toks:=t}:=by
 have e:(s.heap.update p f).get? p=some {cls:=.type "list",data:=.seq its'.toArray n'}:=by
  rw [Heap.get?_update_self f ho (by rw [hf]<;>rfl),hf]
 refine I.write (x:=p) (e:=p) (by rw [h];trivial) (.inl rfl) (fun b u hb q=>(Heap.get?_update_other _ _ (Ne.symm hb)).trans q) ⟨_,e⟩ ?_
 exact ⟨hz,its',n',r,e⟩
def IJ:V→V→V→Hp→(Hp→Prop)→Prop:=fun o i v H Q=>∃p xs k j,o=.ref p∧i=.int k∧H p=some (.lst xs)∧zA xs.length k=some j∧Q (upd H p (.lst (xs.set j v)))
theorem zR:lW X IJ:=by
 intro pins s σ H o i v ov iv u Q I ro ri rv h
 obtain ⟨p,xs,k,j,rfl,rfl,hp,hj,q⟩:=h
 cases ro
 obtain ⟨t,rfl⟩:=ri
 obtain ⟨its,n,r,ho,hz⟩:=I.lst hp
 obtain ⟨h1,h2,h3,h4⟩:=rS hj
 have hl:=r.length
 have hn:=JL
 have I':Inv X pins σ (upd H p (.lst (xs.set j v))) {s with heap:=s.heap.update p (Obj.mapSeq (·.setIfInBounds j u))} :=
  I.lstUpd hp ho (CD its n j u) (r.set rv j) (by rw [List.length_set];exact hz) s.toks
 by_cases h0:0≤k
 ·have hk:k.toNat=j:=by
   rw [seqIndex_of h0 h4] at h1
   exact Option.some.inj h1
  exact PySem.W.ki_setAt ho h0 (by omega) (by rw [List.size_toArray,← hl];exact h4) (by rw [hk];exact ⟨_,I',q⟩)
 ·have hk:(k+(its.toArray.size:Int)).toNat=j:=by
   rw [seqIndex_neg (by omega) h3] at h1
   rw [List.size_toArray,← hl]
   exact Option.some.inj h1
  exact PySem.W.ki_setBack ho (by omega) (by rw [List.size_toArray,← hl];exact h3) (by omega) (by rw [hk];exact ⟨_,I',q⟩)
theorem AZ (lo hi:Option Int) (n:Nat):(sliceBounds lo hi none n).1=((HT.sIx n 0 lo:Nat):Int)∧(sliceBounds lo hi none n).2.1=((HT.sIx n n hi:Nat):Int)∧(sliceBounds lo hi none n).2.2=1:=by
 refine ⟨?_,?_,rfl⟩
 ·cases lo with
  |none=>simp [sliceBounds,HT.sIx]
  |some i =>
   simp only [sliceBounds,HT.sIx,Option.getD_none,show (1:Int)>0 by decide,if_true]
   by_cases h:i<0
   ·simp only [h,if_true]<;>omega
   ·simp only [h,if_false]<;>omega
 ·cases hi with
  |none=>simp [sliceBounds,HT.sIx]
  |some i =>
   simp only [sliceBounds,HT.sIx,Option.getD_none,show (1:Int)>0 by decide,if_true]
   by_cases h:i<0
   ·simp only [h,if_true]<;>omega
   ·simp only [h,if_false]<;>omega
theorem AR (its:List Value) (lo hi:Option Int):slicePick its.toArray lo hi none=((its.drop (HT.sIx its.length 0 lo)).take (HT.sIx its.length its.length hi - HT.sIx its.length 0 lo)).toArray:=by
 obtain ⟨h1,h2,h3⟩:=AZ lo hi its.toArray.size
 unfold slicePick
 rw [h1,h2,h3]
 simp only [sliceRange_one,pick_run,List.size_toArray]<;>rfl
def KW (K:PySem.W.Frag):V→Option Int→Option Int→Hp→VK→Prop:=fun x lo hi H Q=>∃a xs,x=.ref a∧SqL K H a xs∧∀p,H p=none→Q (.ref p) (upd H p (.lst (vS xs lo hi)))
theorem cL:SlR X (KW X.K):=by
 intro pins s σ H x v vl vu lo hi sl Q I rx hs pl pu h
 obtain ⟨a,xs,rfl,hx,q⟩:=h
 cases rx
 obtain ⟨its,r,ht,hz⟩:=I.list hx
 have hlen:=r.length
 refine ⟨"list",_,slot_list_getitem.lookup,ht.isList.typeIs,?_⟩
 refine wpAny_getItem_list_slice ht.isList hs pl pu .none (by simp) ?_ (by rw [List.size_toArray]<;>omega)
 rw [AR,← hlen]
 refine ⟨.ref s.heap.objs.size,_,I.laid (t':=s.toks) (o:=.lst (vS xs lo hi)) (fun b ob q=>Heap.get?_push_of_some _ q) (Nat.le_refl _) ?_,rfl,q _ (I.hok.fresh (Nat.le_refl _))⟩
 exact ⟨Nat.le_trans (m8 xs lo hi) hz,_,0,(r.drop (HT.sIx xs.length 0 lo)).take (HT.sIx xs.length xs.length hi - HT.sIx xs.length 0 lo),Heap.get?_push_size _ rfl⟩
def qY:V→Bool
 |.non=>true
 |.bl _=>true
 |.int _=>true
 |.str _=>true
 |_=>false
def vH:V→V→Bool
 |.non,.non=>true
 |.bl a,.bl b=>a == b
 |.bl a,.int b=>(if a then 1 else 0) == b
 |.int a,.bl b=>a == (if b then 1 else 0)
 |.int a,.int b=>a == b
 |.str a,.str b=>a == b
 |_,_=>false
theorem bM {A:Around} {s:Shared} {y x:V} {u v:Value} (ry:RelV y u) (rx:RelV x v) (fy:qY y=true) (fx:qY x=true):SeqAt.EqAt A s u v (vH y x):=by
 cases y with
 |non =>
  cases ry
  cases x with
  |non=>cases rx;exact SeqAt.EqAt.same _
  |bl b=>cases rx;exact SeqAt.EqAt.none_bool b
  |int b=>obtain ⟨t,rfl⟩:=rx;exact SeqAt.EqAt.none_int b t
  |str b=>obtain ⟨t,rfl⟩:=rx;exact SeqAt.EqAt.none_str b t
  |_=>exact absurd (show false=true from fx) Bool.false_ne_true
 |bl a =>
  cases ry
  cases x with
  |non=>cases rx;exact SeqAt.EqAt.bool_none a
  |bl b=>cases rx;exact SeqAt.EqAt.bool_bool a b
  |int b=>obtain ⟨t,rfl⟩:=rx;exact SeqAt.EqAt.bool_int a b t
  |str b=>obtain ⟨t,rfl⟩:=rx;exact SeqAt.EqAt.bool_str a b t
  |_=>exact absurd (show false=true from fx) Bool.false_ne_true
 |int a =>
  obtain ⟨t',rfl⟩:=ry
  cases x with
  |non=>cases rx;exact SeqAt.EqAt.int_none a t'
  |bl b=>cases rx;exact SeqAt.EqAt.int_bool a t' b
  |int b=>obtain ⟨t,rfl⟩:=rx;exact SeqAt.EqAt.int_int a t' b t
  |str b=>obtain ⟨t,rfl⟩:=rx;exact SeqAt.EqAt.int_str a t' b t
  |_=>exact absurd (show false=true from fx) Bool.false_ne_true
 |str a =>
  obtain ⟨t',rfl⟩:=ry
  cases x with
  |non=>cases rx;exact SeqAt.EqAt.str_none a t'
  |bl b=>cases rx;exact SeqAt.EqAt.str_bool a t' b
  |int b=>obtain ⟨t,rfl⟩:=rx;exact SeqAt.EqAt.str_int a t' b t
  |str b=>obtain ⟨t,rfl⟩:=rx;exact SeqAt.EqAt.str_str a t' b t
  |_=>exact absurd (show false=true from fx) Bool.false_ne_true
 |_=>exact absurd (show false=true from fy) Bool.false_ne_true
def yA (x:V) (u:Value):Bool:=match u with
 |.none=>vH .non x
 |.bool b=>vH (.bl b) x
 |.int i _=>vH (.int i) x
 |.str z _=>vH (.str z) x
 |_=>false
theorem sR {x y:V} {u:Value} (r:RelV y u) (f:qY y=true):yA x u=vH y x:=by
 cases y with
 |non=>cases r;rfl
 |bl b=>cases r;rfl
 |int i=>obtain ⟨t,rfl⟩:=r;rfl
 |str z=>obtain ⟨t,rfl⟩:=r;rfl
 |_=>exact absurd (show false=true from f) Bool.false_ne_true
theorem cV {x:V}:∀{xs:List V} {us:List Value},Vals xs us→xs.all qY=true→us.any (yA x)=xs.any fun y=>vH y x
 |_,_,.nil,_=>rfl
 |y::xs,u::us,.cons r t,f=>by
  rw [List.all_cons,Bool.and_eq_true] at f
  rw [List.any_cons,List.any_cons,sR r f.1,cV t f.2]
theorem cJ {A:Around} {s:Shared} {x:V} {v:Value} (rx:RelV x v) (fx:qY x=true):∀{xs:List V} {us:List Value},Vals xs us→xs.all qY=true→∀u∈us,SeqAt.EqAt A s u v (yA x u)
 |_,_,.nil,_=>fun u hu=>by cases hu
 |y::xs,u::us,.cons r t,f=>fun u' hu=>by
  rw [List.all_cons,Bool.and_eq_true] at f
  rcases List.mem_cons.mp hu with rfl|hu
  ·rw [sR r f.1];exact bM r rx f.1 fx
  ·exact cJ rx fx t f.2 u' hu
def QP (x:V) (xs:List V):Bool:=xs.any fun y=>vH y x
def tZ (K:PySem.W.Frag) (neg:Bool):R2:=fun x y H Q=>∃p xs,y=.ref p∧(SqL K H p xs∨SqT K H p xs)∧qY x=true∧xs.all qY=true∧Q (.bl (if neg then !QP x xs else QP x xs)) H
theorem DI:OpR X (compareOp .In) (tZ X.K false):=by
 intro pins s σ H x y v u Q I rx ry h
 obtain ⟨p,xs,rfl,hq,fx,fs,q⟩:=h
 cases ry
 rcases hq with hq|hq
 ·obtain ⟨its,r,pl,hz⟩:=I.list hq
  refine SeqAt.in_listAt (yA x) pl.isList (fun w hw=>cJ rx fx r fs w (by simpa using hw)) ⟨.bl _,H,I,rfl,?_⟩
  rw [show its.toArray.any (yA x)=its.any (yA x) by simp,cV r fs]
  exact q
 ·obtain ⟨its,r,pl,hz⟩:=I.tuple hq
  refine SeqAt.in_tupleAt (yA x) pl (fun w hw=>cJ rx fx r fs w (by simpa using hw)) ⟨.bl _,H,I,rfl,?_⟩
  rw [show its.toArray.any (yA x)=its.any (yA x) by simp,cV r fs]
  exact q
theorem BC:OpR X (compareOp .NotIn) (tZ X.K true):=by
 intro pins s σ H x y v u Q I rx ry h
 obtain ⟨p,xs,rfl,hq,fx,fs,q⟩:=h
 cases ry
 rcases hq with hq|hq
 ·obtain ⟨its,r,pl,hz⟩:=I.list hq
  refine SeqAt.notIn_listAt (yA x) pl.isList (fun w hw=>cJ rx fx r fs w (by simpa using hw)) ⟨.bl _,H,I,rfl,?_⟩
  rw [show its.toArray.any (yA x)=its.any (yA x) by simp,cV r fs]
  exact q
 ·obtain ⟨its,r,pl,hz⟩:=I.tuple hq
  refine SeqAt.notIn_tupleAt (yA x) pl (fun w hw=>cJ rx fx r fs w (by simpa using hw)) ⟨.bl _,H,I,rfl,?_⟩
  rw [show its.toArray.any (yA x)=its.any (yA x) by simp,cV r fs]
  exact q
theorem kQ:CallR X (.builtin "len") (fun xs H Q=>∃p ys,xs=[.ref p]∧(SqL X.K H p ys∨SqT X.K H p ys)∧Q (.int ys.length) H):=by
 intro pins s σ H xs us Q I r h
 obtain ⟨p,ys,rfl,hq,q⟩:=h
 obtain ⟨u,rfl,rx⟩:=JM r
 cases rx
 have hn:=JL
 rcases hq with hq|hq
 ·obtain ⟨its,r',pl,hz⟩:=I.list hq
  have hlen:=r'.length
  exact Calls.call_len_list pl.isList (by simp only [List.size_toArray]<;>omega) ⟨.int ys.length,H,I.tok _,⟨s.toks+1,by rw [List.size_toArray,hlen]⟩,q⟩
 ·obtain ⟨its,r',pl,hz⟩:=I.tuple hq
  have hlen:=r'.length
  exact len_tuple pl (by simp only [List.size_toArray]<;>omega) ⟨.int ys.length,H,I.tok _,⟨s.toks+1,by rw [List.size_toArray,hlen]⟩,q⟩
theorem BG:CallR X (.builtin "len") (fun xs H Q=>∃z,xs=[.str z]∧z.length≤sizeLine∧Q (.int z.length) H):=by
 intro pins s σ H xs us Q I r h
 obtain ⟨z,rfl,hz,q⟩:=h
 obtain ⟨u,rfl,t,rfl⟩:=JM r
 have hn:=JL
 exact len_str (by omega) ⟨.int z.length,H,I.tok _,⟨_,rfl⟩,q⟩
theorem CallR.or {f:Value} {r r':List V→Hp→VK→Prop} (h:CallR X f r) (h':CallR X f r'):CallR X f (fun xs H Q=>r xs H Q∨r' xs H Q):=by
 intro pins s σ H xs us Q I rs q
 rcases q with q|q
 ·exact h pins s σ H xs us Q I rs q
 ·exact h' pins s σ H xs us Q I rs q
theorem Z3:CallR X (.type "list") (fun xs H Q=>∃p ys,xs=[.ref p]∧(SqL X.K H p ys∨SqT X.K H p ys)∧∀l,H l=none→Q (.ref l) (upd H l (.lst ys))):=by
 intro pins s σ H xs us Q I r h
 obtain ⟨p,ys,rfl,hq,q⟩:=h
 obtain ⟨u,rfl,rx⟩:=JM r
 cases rx
 have fin:∀(its:List Value),Vals ys its→ys.length≤sizeLine→∀(h':Heap) (c':Nat),(∀b o',s.heap.get? b=some o'→h'.get? b=some o')→
   h'.get? s.heap.objs.size=some {cls:=.type "list",dict:=none,data:=.seq its.toArray c',slots := #[]}→EP X pins σ Q (.ref s.heap.objs.size) {s with heap:=h'}:=fun its r' hz h' c' kp e =>
  ⟨.ref s.heap.objs.size,_,I.laid (t':=s.toks) kp (Nat.le_refl _) (show ObjOk X.prog X.w _ h' _ (.lst ys) from ⟨hz,its,c',r',e⟩),rfl,q _ (I.hok.fresh (Nat.le_refl _))⟩
 rcases hq with hq|hq
 ·obtain ⟨its,r',pl,hz⟩:=I.list hq
  have hlen:=r'.length
  obtain ⟨o,ho,hc,n,hd⟩:=pl.isList
  exact call_list_seq p (.inl rfl) ho hc hd (fun h' c' kp e=>fin its r' hz h' c' kp e) (by simp only [List.size_toArray]<;>omega)
 ·obtain ⟨its,r',pl,hz⟩:=I.tuple hq
  have hlen:=r'.length
  obtain ⟨o,ho,hc,n,hd⟩:=pl
  exact call_list_seq p (.inr rfl) ho hc hd (fun h' c' kp e=>fin its r' hz h' c' kp e) (by simp only [List.size_toArray]<;>omega)
theorem AS:CallR X (.type "tuple") (fun xs H Q=>∃p ys,xs=[.ref p]∧((SqL X.K H p ys∧∀l,H l=none→Q (.ref l) (upd H l (.tup ys)))∨(SqT X.K H p ys∧Q (.ref p) H))):=by
 intro pins s σ H xs us Q I r h
 obtain ⟨p,ys,rfl,h⟩:=h
 obtain ⟨u,rfl,rx⟩:=JM r
 cases rx
 rcases h with ⟨hq,q⟩|⟨hq,q⟩
 ·obtain ⟨its,r',pl,hz⟩:=I.list hq
  have hlen:=r'.length
  refine call_tuple_list pl.isList (fun h' kp=>?_) (by simp only [List.size_toArray]<;>omega)
  have I1:Inv X pins σ H {s with heap:=h'}:=I.kept (t':=s.toks) kp
  have I2:Inv X pins σ (upd H h'.objs.size (.tup ys)) {s with heap:=h'.push {cls:=.type "tuple",data:=.seq its.toArray}} :=
   I1.laid (t':=s.toks) (fun b o e=>Heap.get?_push_of_some _ e) (Nat.le_refl _) (show ObjOk X.prog X.w _ _ _ (.tup ys) from ⟨hz,its,r',IsTup.new _ _⟩)
  exact ⟨.ref h'.objs.size,_,I2,rfl,q _ (I1.hok.fresh (Nat.le_refl _))⟩
 ·obtain ⟨its,r',pl,hz⟩:=I.tuple hq
  exact call_tuple_same pl ⟨.ref p,H,I,rfl,q⟩
def lY (K:PySem.W.Frag) (T:String) (x:V) (H:Hp):Prop:=match x with
 |.str _=>T="str"
 |.int _=>T="int"
 |.ref p=>(T="list"∧∃xs,SqL K H p xs)∨(T="tuple"∧∃o,K.lookup p=some o∧o.cls=.type "tuple"∧o.dict=none)∨
   (T="dict"∧((∃kvs,H p=some (.dK kvs))∨∃kvs,H p=some (.dT kvs)))∨(T="set"∧∃S n,H p=some (.set S n))
 |_=>False
theorem r9 {pins:List (Addr×Obj)} {σ:St} {H:Hp} {s:Shared} {T:String} {x:V} {v:Value} (I:Inv X pins σ H s) (r:RelV x v) (ty:lY X.K T x H) :
  s.TypeIs v T∧∀a,v=.ref a→∃ob,s.heap.get? a=some ob∧ob.dict=none:=by
 cases x with
 |str z =>
  obtain ⟨t,rfl⟩:=r
  cases (show T="str" from ty)
  exact ⟨typeIs_str s z t,fun _ e=>nomatch e⟩
 |int i =>
  obtain ⟨t,rfl⟩:=r
  cases (show T="int" from ty)
  exact ⟨typeIs_int s i t,fun _ e=>nomatch e⟩
 |ref p =>
  cases r
  rcases ty with ⟨rfl,xs,hq⟩|⟨rfl,o,hk,hc,hd⟩|⟨rfl,hk⟩|⟨rfl,S,n,hk⟩
  ·obtain ⟨its,_,pl,_⟩:=I.list hq
   refine ⟨pl.isList.typeIs,fun a e=>?_⟩
   cases e
   obtain ⟨o,n,e,c,hd,_⟩:=pl
   exact ⟨o,e,hd⟩
  ·refine ⟨⟨o,I.kIn p o hk,hc⟩,fun a e=>?_⟩
   cases e
   exact ⟨o,I.kIn _ o hk,hd⟩
  ·have z:∃o,s.heap.get? p=some o∧o.ExactDict:=by
    rcases hk with ⟨kvs,hk⟩|⟨kvs,hk⟩
    ·obtain ⟨_,_,_,_,o,_,_,e,ex,_⟩:=I.hok p _ hk
     exact ⟨o,e,ex⟩
    ·obtain ⟨_,_,_,_,o,_,_,e,ex,_⟩:=I.hok p _ hk
     exact ⟨o,e,ex⟩
   obtain ⟨o,e,ex⟩:=z
   refine ⟨⟨o,e,ex.1⟩,fun a e2=>?_⟩
   cases e2
   exact ⟨o,e,ex.2.1⟩
  ·obtain ⟨o,_,_,_,e,ex,_⟩:=I.hok p _ hk
   refine ⟨⟨o,e,ex.1⟩,fun a e2=>?_⟩
   cases e2
   exact ⟨o,e,ex.2.1⟩
 |_=>exact False.elim ty
def KQ (K:PySem.W.Frag) (T:String) (r:V→List V→Hp→VK→Prop) (to:TE):TE:=fun σ H Q=>to σ H fun x H1=>lY K T x H1∧r x [] H1 Q
def LO (K:PySem.W.Frag) (T:String) (r:V→List V→Hp→VK→Prop) (to:TE) (t:TA):TE:=fun σ H Q=>to σ H fun x H1=>lY K T x H1∧t σ H1 fun xs H2=>r x xs H2 Q
variable {o e:Expr} {es:List Expr} {to:TE} {t:TA} {name:Str} {apos cpos:Pos} {T id:String} {r:V→List V→Hp→VK→Prop}
theorem HL (pa:PlainAttrs T) (slot:Slot T name id) (hty:typeOf (.builtin id)=pure (.type "method_descriptor")) (hm:MtR X id r) (ho:PE X o to)
  (hbase:attributeBase o name X.env (eval o X.env)=eval o X.env:=by rfl) (hline:(apos.endLine == cpos.line)=true:=by rfl):PE X (.Call (.Attribute o name apos) [] [] cpos) (KQ X.K T r to):=by
 intro pins s σ H Q I h
 refine wpAny_Call_method0_late hbase hline (jL (ho pins s σ H _ I h) fun v s1 ⟨x,H1,I1,r1,ty,q1⟩=>?_)
 obtain ⟨h1,h2⟩:=r9 I1 r1 ty
 exact ⟨T,id,pa,slot,hty,h1,h2,Calls.callWith_builtin rfl (PySem.evalArgs_none (hm pins s1 σ H1 x [] v [] Q I1 r1 .nil q1))⟩
theorem qP (pa:PlainAttrs T) (slot:Slot T name id) (hty:typeOf (.builtin id)=pure (.type "method_descriptor")) (hm:MtR X id r) (ho:PE X o to) (ha:PA X (e::es) t)
  (hbase:attributeBase o name X.env (eval o X.env)=eval o X.env:=by rfl)
  (hfew:((backTo cpos (starEach (e::es) X.env)).all (fun x => !x.1)&&(backToKw cpos (keywordEach [] X.env)).all (fun x=>x.1.isSome)
   && decide ((e::es).length+([]:List Keyword).length+(if ([]:List Keyword).isEmpty then 0 else 1)<30))=true:=by rfl)
  (hline:(apos.endLine == cpos.line)=true:=by rfl) (hs:starEach (e::es) X.env=(false,eval e X.env)::starEach es X.env:=by rfl) (hplain:(backTo cpos (starEach es X.env)).any (·.1)=false:=by rfl) :
  PE X (.Call (.Attribute o name apos) (e::es) [] cpos) (LO X.K T r to t):=by
 intro pins s σ H Q I h
 refine wpAny_Call_method_late hbase hfew hline rfl (jL (ho pins s σ H _ I h) fun v s1 ⟨x,H1,I1,r1,ty,q1⟩=>?_)
 obtain ⟨h1,h2⟩:=r9 I1 r1 ty
 refine ⟨T,id,pa,slot,hty,h1,h2,?_⟩
 have hA:=ha cpos pins s1 σ H1 _ I1 q1
 rw [hs] at hA ⊢
 refine Calls.callWith_builtin (by show (false||(backTo cpos (starEach es X.env)).any (·.1))=false;rw [hplain]<;>rfl) (Calls.evalArgs_plain ?_)
 exact jL hA fun us s2 ⟨vs,H2,I2,r2,q2⟩=>hm pins s2 σ H2 x vs v us Q I2 r1 r2 q2
/- xs.append(e),list.index on a module's tuple .. are MtR facts of 06m -/
end
end L2
namespace L2
open PySem PySem.Spec PyProof.Rows
def dO (X:Cx) (id:String) (r:V→List V→Hp→VK→Prop):Prop :=
 ∀(pins:List (Addr×Obj)) (s:Shared) (σ:St) (H:Hp) (x:V) (xs:List V) (v:Value) (us:List Value) (Q:VK),Inv X pins σ H s→RelV x v→Vals xs us→r x xs H Q→
  wpAny (model X.prog X.w) X.A (call (.builtin id) (v::us)) (EP X pins σ Q) X.xe s
theorem Vals.one:∀{x:V} {us:List Value},Vals [x] us→∃u,us=[u]∧RelV x u
 |_,_,.cons r .nil=>⟨_,rfl,r⟩
theorem Vals.two:∀{x y:V} {us:List Value},Vals [x,y] us→∃u v,us=[u,v]∧RelV x u∧RelV y v
 |_,_,_,.cons r (.cons q .nil)=>⟨_,_,rfl,r,q⟩
theorem Vals.zero:∀{us:List Value},Vals [] us→us=[]
 |_,.nil=>rfl
theorem Vals.reverse {xs:List V} {us:List Value} (h:Vals xs us):Vals xs.reverse us.reverse:=by
 induction h with
 |nil=>exact .nil
 |cons r t ih=>rw [List.reverse_cons,List.reverse_cons];exact Vals.append ih (.cons r .nil)
theorem Vals.rep {xs:List V} {us:List Value} (h:Vals xs us):∀k:Nat,Vals (List.replicate k xs).flatten (List.replicate k us).flatten
 |0=>.nil
 |k+1=>by
  rw [List.replicate_succ,List.replicate_succ,List.flatten_cons,List.flatten_cons]
  exact Vals.append h (Vals.rep h k)
theorem oS (its:List Value):∀(k:Nat) (acc:List Value),
  List.foldl (fun x1 x2=>x1++x2) acc.toArray (List.replicate k its.toArray)=(acc++(List.replicate k its).flatten).toArray
 |0,acc=>by simp
 |k+1,acc=>by
  have e:acc.toArray++its.toArray=(acc++its).toArray:=by simp
  have e2:(acc++its)++(List.replicate k its).flatten=acc++(List.replicate (k+1) its).flatten:=by
   rw [List.replicate_succ,List.flatten_cons,List.append_assoc]
  rw [← e2,← oS its k (acc++its),← e,List.replicate_succ,List.foldl_cons]
section
variable {X:Cx} {pins:List (Addr×Obj)} {σ:St} {H:Hp} {s:Shared} {l b:Addr} {xs ys zs:List V}
theorem Inv.lset {its its':List Value} {n:Nat} {f:Array Value→Array Value} {t':Nat} (I:Inv X pins σ H s) (hH:H l=some (.lst xs))
  (e:s.heap.get? l=some {cls:=.type "list",data:=.seq its.toArray n}) (hf:f its.toArray=its'.toArray) (hv:Vals ys its') (hz:ys.length≤sizeLine) :
  Inv X pins σ (upd H l (.lst ys)) {s with heap:=s.heap.update l (Obj.mapSeq f),toks:=t'}:=by
 have q:=PySem.IsL.update e f
 rw [hf] at q
 refine I.write (x:=l) (e:=l) (by rw [hH];exact trivial) (.inl rfl) (fun b' u hb hu=>(Heap.get?_update_other s.heap (Obj.mapSeq f) (Ne.symm hb)).trans hu) ⟨_,q⟩ ?_
 exact ⟨hz,its',_,hv,q⟩
theorem Inv.lnew {its:List Value} {t':Nat} (I:Inv X pins σ H s) (hv:Vals ys its) (hz:ys.length≤sizeLine) :
  Inv X pins σ (upd H s.heap.objs.size (.lst ys)) {s with heap:=s.heap.push {cls:=.type "list",data:=.seq its.toArray},toks:=t'} :=
 I.laid (fun _ _ q=>Heap.get?_push_of_some _ q) (Nat.le_refl _) ⟨hz,its,0,hv,Heap.get?_push_size _ rfl⟩
theorem Inv.fresh (I:Inv X pins σ H s):H s.heap.objs.size=none:=I.hok.fresh (Nat.le_refl _)
theorem Inv.lstM (I:Inv X pins σ H s) (hH:H l=some (.lst xs)):xs.length≤sizeLine∧∃(its:List Value) (n:Nat),Vals xs its∧xs.length=its.length∧s.heap.get? l=some {cls:=.type "list",data:=.seq its.toArray n}:=by
 obtain ⟨z,its,n,r,e⟩:=I.hok l _ hH
 exact ⟨z,its,n,r,r.length,e⟩
theorem pS {n:Nat} (h:n≤sizeLine):Builtin.List.listTooLong n=false:=by
 unfold Builtin.List.listTooLong
 exact decide_eq_false (by omega)
end
section
variable {X:Cx}
def FZ:V→List V→Hp→VK→Prop:=fun x vs H Q=>∃l xs y,x=.ref l∧vs=[y]∧H l=some (.lst xs)∧xs.length<sizeLine∧Q .non (upd H l (.lst (xs++[y])))
theorem yY:dO X "list.append" FZ:=by
 intro pins s σ H x vs v us Q I rx rv h
 obtain ⟨l,xs,y,rfl,rfl,hH,hz,q⟩:=h
 cases rx
 obtain ⟨u,rfl,ru⟩:=rv.one
 obtain ⟨z,its,n,r,hl,e⟩:=I.lstM hH
 refine call_meets F.slot_list_append ⟨_,e,rfl⟩ F.entry_list_append (F.args_list_append_2 _ _) (PySem.list_append l its.toArray n u (by rw [List.size_toArray];omega)) ⟨e,?_⟩
 refine ⟨.non,_,I.lset (its':=its++[u]) hH e (by simp) (r.append (.cons ru .nil)) ?_,rfl,q⟩
 rw [List.length_append,List.length_singleton]
 omega
def FY:V→List V→Hp→VK→Prop:=fun x vs H Q=>∃l b xs zs,x=.ref l∧vs=[.ref b]∧H l=some (.lst xs)∧H b=some (.lst zs)∧xs.length+zs.length≤sizeLine∧Q .non (upd H l (.lst (xs++zs)))
theorem iH:dO X "list.extend" FY:=by
 intro pins s σ H x vs v us Q I rx rv h
 obtain ⟨l,b,xs,zs,rfl,rfl,hH,hB,hz,q⟩:=h
 cases rx
 obtain ⟨u,rfl,ru⟩:=rv.one
 cases ru
 obtain ⟨z,its,n,r,hl,e⟩:=I.lstM hH
 obtain ⟨z2,its2,n2,r2,hl2,e2⟩:=I.lstM hB
 have hsz:its.toArray.size+its2.toArray.size≤sizeLine:=by rw [List.size_toArray,List.size_toArray];omega
 have hlong:¬(!its.toArray.isEmpty&&Builtin.List.listTooLong (its.toArray.size+its2.toArray.size))=true:=by
  rw [pS hsz,Bool.and_false]
  exact Bool.false_ne_true
 refine call_meets F.slot_list_extend ⟨_,e,rfl⟩ F.entry_list_extend (F.args_list_extend_2 _ _)
  (AutoSeq1.list_extend_list_list_0 l its.toArray n b its2.toArray n2 hlong (by rw [List.size_toArray];omega) (by omega)) ⟨e,e2,?_⟩
 refine ⟨.non,_,I.lset (its':=its++its2) hH e (by simp) (r.append r2) ?_,rfl,q⟩
 rw [List.length_append]
 omega
def ES:V→List V→Hp→VK→Prop:=fun x vs H Q=>∃l xs,x=.ref l∧vs=[]∧H l=some (.lst xs)∧Q .non (upd H l (.lst xs.reverse))
theorem CB:dO X "list.reverse" ES:=by
 intro pins s σ H x vs v us Q I rx rv h
 obtain ⟨l,xs,rfl,rfl,hH,q⟩:=h
 cases rx
 have hus:=rv.zero
 subst hus
 obtain ⟨z,its,n,r,hl,e⟩:=I.lstM hH
 refine call_meets F.slot_list_reverse ⟨_,e,rfl⟩ F.entry_list_reverse (F.args_list_reverse_1 _) (AutoSeq1.list_reverse_list_0 l its.toArray n (by rw [List.size_toArray];omega)) ⟨e,?_⟩
 refine ⟨.non,_,I.lset (its':=its.reverse) hH e (by simp) r.reverse ?_,rfl,q⟩
 rw [List.length_reverse]
 omega
def K1:R2:=fun x y H Q=>∃l b xs zs,x=.ref l∧y=.ref b∧H l=some (.lst xs)∧H b=some (.lst zs)∧xs.length+zs.length≤sizeLine∧∀p,H p=none→Q (.ref p) (upd H p (.lst (xs++zs)))
theorem yO:OpR X (binaryOp .Add) K1:=by
 intro pins s σ H x y v u Q I rx ry h
 obtain ⟨l,b,xs,zs,rfl,rfl,hH,hB,hz,q⟩:=h
 cases rx
 cases ry
 obtain ⟨z,its,n,r,hl,e⟩:=I.lstM hH
 obtain ⟨z2,its2,n2,r2,hl2,e2⟩:=I.lstM hB
 refine PySem.P.add_list e e2 ?_ (by rw [List.size_toArray,List.size_toArray];omega)
 have ea:its.toArray++its2.toArray=(its++its2).toArray:=by simp
 rw [ea]
 exact ⟨.ref _,_,I.lnew (t':=s.toks) (r.append r2) (by rw [List.length_append];omega),rfl,q _ I.fresh⟩
def KZ:R2:=fun x y H Q=>∃l k xs,x=.ref l∧y=.int k∧H l=some (.lst xs)∧-(2 ^ 63)≤k∧k<2 ^ 63∧xs.length*k.toNat≤sizeLine∧
 ∀p,H p=none→Q (.ref p) (upd H p (.lst (List.replicate k.toNat xs).flatten))
theorem GN {α:Type} (xs:List α) (k:Nat):(List.replicate k xs).flatten.length=k*xs.length:=by
 induction k with
 |zero=>simp
 |succ k ih=>rw [List.replicate_succ,List.flatten_cons,List.length_append,ih,Nat.succ_mul,Nat.add_comm]
theorem lG:OpR X (binaryOp .Mult) KZ:=by
 intro pins s σ H x y v u Q I rx ry h
 obtain ⟨l,k,xs,rfl,rfl,hH,h1,h2,hz,q⟩:=h
 cases rx
 obtain ⟨t,rfl⟩:=ry
 obtain ⟨z,its,n,r,hl,e⟩:=I.lstM hH
 have hlen:its.toArray.size*k.toNat≤sizeLine:=by rw [List.size_toArray,← hl];exact hz
 have hcap:¬its.toArray.size*k.toNat>(2 ^ 63 - 1) / 8:=by
  have:(sizeLine:Nat)≤(2 ^ 63 - 1) / 8:=by decide
  omega
 have hfit:¬(!Builtin.List.listFitsIndex k)=true:=by
  rw [fitsIndex_both h1 h2]
  exact Bool.false_ne_true
 have hlong:¬Builtin.List.listTooLong (its.toArray.size*k.toNat)=true:=by
  rw [pS hlen]
  exact Bool.false_ne_true
 have hnew:List.foldl (fun x1 x2=>x1++x2) #[] (List.replicate (if its.toArray.isEmpty=true then 0 else k.toNat) its.toArray)=(List.replicate k.toNat its).flatten.toArray:=by
  have f0:∀m:Nat,List.foldl (fun x1 x2=>x1++x2) #[] (List.replicate m its.toArray)=(List.replicate m its).flatten.toArray:=fun m=>by
   have:=oS its m []
   rw [List.nil_append] at this
   exact this
  rw [f0]
  cases its with
  |nil=>simp
  |cons a r'=>rw [if_neg (by simp)]
 refine wpAny_binaryOp_repeat_ref (T:="list") (U:="int") (by decide) ⟨_,e,rfl⟩ (fun s'=>typeIs_int s' k t) noFill_list_mul F.fills_int_mul F.slot_int_rmul repeat_list F.slot_int_index.lookup
  (call_meets F.slot_int_rmul (typeIs_int s k t) F.entry_int_rmul (F.args_int_rmul_2 _ _) (int___rmul___int_list k t l its.toArray n)
   ⟨e,rfl,⟨_,e,rfl⟩,call_meets F.slot_list_mul ⟨_,e,rfl⟩ F.entry_list_mul (F.args_list_mul_2 _ _) (AutoListH.list___mul___list_int_3 l its.toArray n k t hfit hcap hlong) ⟨e,?_⟩⟩)
 rw [hnew]
 exact ⟨.ref _,_,I.lnew (t':=s.toks) (r.rep k.toNat) (by rw [GN,Nat.mul_comm];exact hz),rfl,q _ I.fresh⟩
end
section
variable {prog:Program} {w:World} {A:Around} {E:Value→Shared→Prop} {s:Shared}
end
section
variable {X:Cx}
end
end L2
namespace Att
open PySem PySem.W PySem.Calls PyProof.Rows
theorem AN {P:Params} {h:Heap}:∀(ns:List Int) (vs:List Value),WellAll P h vs (ns.map WData.int)→IntsAre vs ns:=by
 intro ns
 induction ns with
 |nil =>
  intro vs w
  rw [List.map_nil] at w
  cases w
  exact .nil
 |cons n ns ih =>
  intro vs w
  rw [List.map_cons] at w
  cases w with
  |cons a b =>
   cases a
   exact .cons _ _ (ih _ b)
theorem C7 {l:OpenLaw} {n:Nat} (hn:l.most=some n) {P:Params} {h:Heap} {args:List WData} {vals:List Value}
  (hpre:l.row.toRowW.claim.pre args=true) (hwl:WellAll P h vals args) :
  ∃a vs ns,vals=[Value.ref a]∧args=[WData.list (ns.map WData.int)]∧h.get? a=some {cls:=.type "list",data:=.seq vs.toArray}∧IntsAre vs ns∧ns.length≤n:=by
 have hsh:WShape.hasAll [] args [.list .int]=true:=(pre_splitW hpre).1
 have hc:l.pre.holds [] {args:=args}=true:=(pre_splitW hpre).2
 obtain ⟨d,r,rfl,h1,h2⟩:=hasAllW_cons hsh
 obtain rfl:=hasAllW_nil h2
 obtain ⟨xs,rfl,h3⟩:=hasW_list h1
 obtain ⟨ns,rfl⟩:=items_int h3
 have hlen:ns.length≤n:=by
  unfold OpenLaw.pre at hc
  have h4:(WTm.not (.lt (.lit (.int (n:Int))) (.len (.arg 0)))).holds [] {args:=[.list (ns.map .int)]}=true:=by
   have h4:=(holds_andW hc).1
   rw [hn] at h4
   exact h4
  have h5:=condW_of h4 (w_not (w_lt w_lit (w_len_list (w_arg rfl))))
  rw [List.length_map] at h5
  refine Nat.le_of_not_lt fun q=>?_
  have q':(n:Int)<((ns.length:Nat):Int):=by omega
  first
   | (rw [decide_eq_true q'] at h5;exact absurd h5 (by decide))
   | (simp at h5;omega)
 cases hwl with
 |cons w1 w2 =>
  cases w2
  cases w1 with
  |list ho hall=>exact ⟨_,_,ns,rfl,rfl,ho,AN ns _ hall,hlen⟩
theorem DB (l:OpenLaw) (args:List WData):l.row.toRowW.claim.post args (.bool true) args=true :=
 postW_of (r:=l.row.toRowW) (X:=(true == true))
  (show WShape.has [] (.bool true) .bool=true by first|rfl|decide|simp [WShape.has,WShape.arms,WShape.armsAll])
  (show (WTm.eq .res (.lit (.bool true))).value [] {args:=args,res:=some (.bool true),after:=args}=some (.bool (true == true)) from w_eq_bool (w_res rfl) w_lit) rfl
theorem attach_call {l:OpenLaw} {n:Nat} {q:Program} {loose:List Str} {XP:(Str→Option Value)→Heap→Prop} {YP:World→Heap→Prop} {d:DefRec}
  (hn:l.most=some n) (hdf:d.params.defaults=[])
  (call:∀(w:World) (s₀ s₁:Shared) (mg mb:Str→Option Value) (fa:Addr) (o:Obj) (pm cd doc:Value) (a:Addr) (vs:List Value) (ns:List Int),
   Ground q loose [] XP w s₀ mg mb s₁.heap→YP w s₁.heap→
   s₁.heap.get? fa=some o→o.data=.func (docDef d.name d.params d.body d.scope pm cd doc)→s₁.heap.CodeRec cd d.name→mg d.name=some (.ref fa)→
   s₁.heap.get? a=some {cls:=.type "list",data:=.seq vs.toArray}→IntsAre vs ns→ns.length≤n→s₁.gens = #[]→
   codeAny (model l.prog w) callerA (.call (.ref fa) ⟨[.ref a],[]⟩) (fun r s'=>r=.ok (.ret (.bool true))∧OldK s₁.heap s'.heap∧s'.os=s₁.os∧AllBare s'.gens) s₁) :
  WalkO q loose XP YP l.row.toRowW d [] (fun f vs=>PySem.call f vs):=by
 intro w s₀ s₁ mg mb G Y fa o pm cd doc dV kV ho hd hcd hD hmg hg args vals as hpre hlay hrd hwl hlo
 obtain rfl:dV=.none:=Dflts.none hD hdf
 obtain rfl:kV=.none:=Dflts.noKw hD
 obtain ⟨a,vs,ns,rfl,rfl,hobj,hints,hlen⟩:=C7 hn hpre hwl
 refine enter_call (codeAny_mono (call w s₀ s₁ mg mb fa o pm cd doc a vs ns G Y ho (fd_plain hd) hcd hmg hobj hints hlen hg) fun r s' hq=>?_)
 obtain ⟨rfl,h2,h3,h4⟩:=hq
 exact ⟨.inl ⟨.bool true,.bool true,[],rfl,fun _=>rfl,.bool true,DB l _,fun _=>⟨List.Pairwise.nil,fun _ hm=>(nomatch hm)⟩⟩,h2,h3,h4⟩
section
variable {prog:Program} {w:World} {A:Around} {E:Value→Shared→Prop} {s:Shared} {K:Frag}
def LR (h:Heap) (L d:Addr):List (Addr×Obj):=(List.range h.objs.size).filterMap fun a=>if a=L∨a=d then none else (h.get? a).map fun o=>(a,o)
end
end Att
namespace L2
open PySem PySem.Spec PyProof.Rows
theorem nV:∀{vs:List Value} {ns:List Int},IntsAre vs ns→Vals (ns.map V.int) vs
 |_,_,.nil=>.nil
 |_,_,.cons n t h=>.cons ⟨t,rfl⟩ (nV h)
def lX (H:Hp):Prop:=∀b,H b=none∨∃o xs,H b=some (.frz o (.lst xs))
theorem E7 {P:Program} {w:World} {K:PySem.W.Frag} {mg mb:Str→Option Value} {CX:yX} {k:Nat} {fa a:Addr} {fd:FuncData} {x:Str} {sp:Sp} {s₁:Shared} {vs:List Value} {ns:List Int}
  (KX:K.In s₁.heap) (hns:s₁.heap.Ns mainGlobals mg) (hb:s₁.heap.Ns builtinsNs mb) (hbb:∀x:Str,x≠"__name__"→mb x=bootBuiltins x) (hlim:s₁.heap.NoLimit) (hg:s₁.gens = #[])
  (ha:s₁.heap.get? a=some {cls:=.type "list",data:=.seq vs.toArray}) (hi:IntsAre vs ns) (hl:ns.length≤sizeLine) (hr:Room k callerA)
  (F:∀base:Heap,K.In base→base.Ns mainGlobals mg→FnOk P w K mg base CX k fa fd [x] sp) (hbind:∀(s:Shared) (u:Value),BindsTo s fd ⟨[u],[]⟩ [(x,u)])
  (hsp:∀H:Hp,lX H→SqL K H a (ns.map V.int)→sp [.ref a] H (fun v _=>v=.bl true) fun _ _ _=>False)
  (hCX:∀H e s',CX [] H s₁ (fun _ _ _=>False) e s'→False) :
  codeAny (model P w) callerA (.call (.ref fa) ⟨[.ref a],[]⟩) (fun r s'=>r=.ok (.ret (.bool true))∧OldK s₁.heap s'.heap∧s'.os=s₁.os∧AllBare s'.gens) s₁:=by
 have rv:=nV hi
 have lenV:=hi.length
 have core:∀H:Hp,lX H→SqL K H a (ns.map V.int)→HOk P w H s₁.heap→(∀b,H b≠none→b=a)→(H a≠none→K.lookup a=none)→
   codeAny (model P w) callerA (.call (.ref fa) ⟨[.ref a],[]⟩) (fun r s'=>r=.ok (.ret (.bool true))∧OldK s₁.heap s'.heap∧s'.os=s₁.os∧AllBare s'.gens) s₁:=by
  intro H hO hS hok hA hK
  have base_of:∀{b:Addr} {o:Obj},s₁.heap.get? b=some o→H b=none→(z6 s₁.heap H).get? b=some o:=fun e n=>E9 e n
  have noA:∀{b:Addr} {o:Obj} {es:Array DictEntry} {ep:Nat},s₁.heap.get? b=some o→o.data=.dict es ep→H b=none:=fun {b o es ep} e d=>by
   cases q:H b with
   |none=>rfl
   |some u =>
    have e':b=a:=hA b (by rw [q];simp)
    subst e'
    rw [ha] at e;cases e
    have d':Data.seq vs.toArray _=Data.dict es ep:=d
    cases d'
  have nsK:∀{b:Addr} {m:Str→Option Value},s₁.heap.Ns b m→(z6 s₁.heap H).Ns b m:=fun {b m} ⟨o,es,ep,e,d,r⟩=>⟨o,es,ep,base_of e (noA e d),d,r⟩
  have hKb:K.In (z6 s₁.heap H):=fun b o e=>base_of (KX b o e) (by
   cases q:H b with
   |none=>rfl
   |some u =>
    have e':b=a:=hA b (by rw [q];simp)
    subst e'
    rw [hK (by rw [q];simp)] at e;cases e)
  have hM:Mod K mg (z6 s₁.heap H):=⟨hKb,nsK hns,⟨mb,nsK hb,hbb⟩,let ⟨mc,h1,h2⟩:=hlim;⟨mc,nsK h1,h2⟩⟩
  have e0:Env0 P w K mg (z6 s₁.heap H) callerA [] s₁ H:=⟨rfl,hM,fun b o e=>GF e,Nat.le_of_eq (DU _ _),trivial,fun b hb=>absurd (show b∈([]:List Addr) from hb) (by simp),hok,.of_eq hg⟩
  refine codeAny_mono ((F _ hKb (nsK hns)).run callerA [] s₁ H ⟨[.ref a],[]⟩ [.ref a] [.ref a] _ _ hr e0 (hbind s₁ (.ref a)) (.cons rfl .nil) (hsp H hO hS)) fun r s' h=>?_
  cases r with
  |error e=>exact (hCX H e s' h).elim
  |ok fl =>
   cases fl with
   |next=>exact False.elim h
   |brk=>exact False.elim h
   |cont=>exact False.elim h
   |ret u =>
    obtain ⟨v,H',os,bare,un,hok',r',q⟩:=h
    have q':v=.bl true:=q
    subst q'
    obtain rfl:u=Value.bool true:=r'
    refine ⟨rfl,OldK.of_keep fun b o e=>?_,os,bare⟩
    cases q:H b with
    |none=>exact un.keep b o e q (by intro z;exact absurd (show b∈([]:List Addr) from z) (by simp)) (by simp)
    |some u =>
     rcases hO b with z|⟨ob,xs,z⟩
     ·rw [q] at z;cases z
     ·have z2:=un.frzs b ob _ z
      obtain ⟨e1,_⟩:=hok b _ z
      obtain ⟨e2,_⟩:=hok' b _ z2
      rw [e] at e1;cases e1
      exact e2
 cases hk:K.lookup a with
 |some o =>
  have e:=KX a o hk
  rw [ha] at e
  cases e
  refine core (fun _=>none) (fun _=>.inl rfl) (.inr ⟨_,vs.toArray,_,hk,rfl,rfl,rfl,by rw [List.size_toArray,lenV];exact hl,by simpa using rv⟩) (fun b u z=>by have z':(none:Option HO)=some u:=z;cases z') (fun b z=>absurd rfl z) fun z=>absurd rfl z
 |none =>
  refine core (fun b=>if b=a then some (.frz {cls:=.type "list",data:=.seq vs.toArray} (.lst (ns.map V.int))) else none) (fun b=>?_) (.inl (.inr ⟨{cls:=.type "list",data:=.seq vs.toArray},if_pos rfl⟩)) (fun b u z=>?_) (fun b z=>?_) fun _=>hk
  ·by_cases hb:b=a
   ·exact .inr ⟨_,_,if_pos hb⟩
   ·exact .inl (if_neg hb)
  ·by_cases hb:b=a
   ·have z':=(if_pos hb).symm.trans z
    cases z'
    subst hb
    exact ⟨ha,by rw [List.length_map];exact hl,vs,_,rv,ha⟩
   ·have z':=(if_neg hb).symm.trans z
    cases z'
  ·by_cases hb:b=a
   ·exact hb
   ·exact absurd (if_neg hb) z
end L2
namespace L2
open PySem PySem.Spec PyProof.Rows
abbrev KOf {K:PySem.W.Frag} {h:Heap} (_:K.In h):PySem.W.Frag:=K
theorem walk_of {l:PySem.W.OpenLaw} {n k:Nat} {q:Program} {loose:List Str} {XP:(Str→Option Value)→Heap→Prop} {YP:World→Heap→Prop} {d:DefRec} {K:Params→PySem.W.Frag} {CX:World→yX} {sp:World→Sp} {x:Str}
  (hn:l.most=some n) (hn2:n≤sizeLine) (hdf:d.params.defaults=[]) (hr:Room k callerA)
  (hY:∀(w:World) (h:Heap),YP w h→(K w.params).In h)
  (F:∀(w:World) (mg:Str→Option Value) (fa:Addr) (h:Heap),(K w.params).In h→h.Ns mainGlobals mg→mg d.name=some (.ref fa)→
   ∃fd:FuncData,(∀(s:Shared) (u:Value),BindsTo s fd ⟨[u],[]⟩ [(x,u)])∧
    ∀base:Heap,(K w.params).In base→base.Ns mainGlobals mg→FnOk l.prog w (K w.params) mg base (CX w) k fa fd [x] (sp w))
  (hsp:∀(w:World) (H:Hp) (a:Addr) (ns:List Int),ns.length≤n→lX H→SqL (K w.params) H a (ns.map V.int)→sp w [.ref a] H (fun v _=>v=.bl true) fun _ _ _=>False)
  (hCX:∀(w:World) (H:Hp) (s:Shared) (e:Value) (s':Shared),CX w [] H s (fun _ _ _=>False) e s'→False) :
  PySem.W.WalkO q loose XP YP l.row.toRowW d [] (fun f vs=>PySem.call f vs):=by
 refine Att.attach_call hn hdf fun w s₀ s₁ mg mb fa o pm cd doc a vs ns G Y ho hd hcd hmg hobj hints hlen hg=>?_
 have KX:=hY w _ Y
 obtain ⟨fd,hb,hF⟩:=F w mg fa _ KX G.T.g hmg
 exact E7 KX G.T.g G.T.b G.T.builtins G.T.nolimit hg hobj hints (Nat.le_trans hlen hn2) hr hF hb (fun H hO hS=>hsp w H a ns hlen hO hS) fun H e s'=>hCX w H s₁ e s'
end L2
/- THE LAST THEOREM (shape;LID,My.* are yours):
  My.Adr: a structure of the addresses that your layer names (classes,functions);My.Txt K t: a structure (Prop) of the equations over K;
  My.txt_mk:{K} {implicit addresses ..} (e1:nsIn K mainGlobals "law"=some (some (.ref f))) (e2:K.lookup f=some ⟨oc,od,.func (fnOf "law" "law" params body scope dV kV doc pm an cdv ct),sl⟩) (e3:codeIn K cdv "law"=true) .. : ∃t,My.Txt K t
set_option maxRecDepth 100000 in
set_option maxHeartbeats 0 in
theorem PySem.Challenge.cw_LID_holds : PySem.Challenge.rw_LID.Holds := by
 w_on;o_law;k_head;(case hw=>w_witness2)
 k_fill
 refine L2.walk_of (l:=PySem.Challenge.rw_LID) (n:=63) (k:=40) (x:="script") (CX:=fun w=>..) (sp:=fun _=>My.sp_law) rfl (by decide) rfl ⟨rfl,by decide,by decide⟩ (fun w h Y=>PySem.W.kIn_of Y) ?F ?S ?C
 case F =>
  intro w mg fa h KX G hmg
  have T:∃t,My.Txt (L2.KOf KX) t:=by
   dsimp only [L2.KOf] -- K must stand as «<heap const> w.params» for k_is
   refine' My.txt_mk ?e1 ?e2 ?e3 ..
   (case e1=>PySem.W.k_is) -- in the order: a name -> its address -> its object -> its parts
   (case e2=>PySem.W.k_is)
   ..
  obtain ⟨t,T⟩:=T
  have e0:=hmg.symm.trans (PySem.W.mg_of KX G T.law)
  cases e0 -- fa is the law's own address
  exact ⟨_,fun s u=>.of_eq rfl,fun base kb nb=>My.law_fn T kb nb⟩ -- if «.of_eq rfl» comes too early: refine' ⟨_,?b,fun base kb nb=>My.law_fn T kb nb⟩;exact fun s u=>.of_eq rfl
 case S=>exact fun w H a ns hl hO hS=>..
 case C=>exact ..
(the tactic k_is has no namespace: write k_is) -/
namespace L2
open PySem PySem.Spec PyProof.Rows
def vX (s:Stmt) (j:Nat):Stmt:=match s with
 |.ClassDef _ _ _ body _ _ _ _ _ _ _=>body.getD j (.Pass ⟨0,0,0,0⟩)
 |_=>.Pass ⟨0,0,0,0⟩
def jS (s:Stmt):Arguments:=match s with
 |.FunctionDef _ a _ _ _ _ _ _ _ _=>a
 |_=>{posonlyargs:=[],args:=[],vararg:=none,kwonlyargs:=[],kw_defaults:=[],kwarg:=none,defaults:=[]}
def jQ (s:Stmt):List Stmt:=match s with
 |.FunctionDef _ _ b _ _ _ _ _ _ _=>b
 |_=>[]
def jE (s:Stmt):Scope:=match s with
 |.FunctionDef _ _ _ _ _ _ sc _ _ _=>sc
 |_=>{kind:=.function,names:=[],isGenerator:=false,isCoroutine:=false}
abbrev jP:yX:=fun _ _ _ _ _ _=>False
abbrev E0:XK:=fun _ _ _=>False
theorem dD {X:Cx}:bO jP X E0:=fun _ _ _ _ _ _ _ h=>h.elim
structure Fun (K:PySem.W.Frag) (x qual:Str) (st:Stmt) (f:Addr) (fd:FuncData):Prop where
 ex:∃(oc:Value) (od:Option Addr) (kV doc pm:Value) (an:Option Addr) (cdv ct:Value) (osl:Array (Option Value)),
  fd=PySem.W.fnOf x qual (jS st) (jQ st) (jE st) .none kV doc pm an cdv ct∧K.lookup f=some ⟨oc,od,.func fd,osl⟩∧PySem.W.codeIn K cdv qual=true
 kp:PySem.W.keepIn K (.ref f)=true
section
variable {P:Program} {w:World} {K:PySem.W.Frag} {mg:Str→Option Value} {base:Heap}
theorem Fun.ok {x qual:Str} {st:Stmt} {f:Addr} {fd:FuncData} {N ps:List Str} {k:Nat} {sp:Sp} (F:Fun K x qual st f fd) (S:FnScope N ps (jE st)) (len:∀vs H Q E,sp vs H Q E→vs.length=ps.length)
  (hbody:∀(cdv:Value) (A:Around) (outer:List Env) (s:Shared) (H:Hp) (vs:List V) (Q:VK) (E:XK),Room k (A.deeper (envOfC qual (jE st) s.heap.objs.size f cdv))→sp vs H Q E→
   ∃t,PSs (QM jP P w K mg base N qual (jE st) f cdv A outer s H E).nox (jQ st) t∧t {nx:=fun _ H'=>Q .non H',rt:=Q} (start N vs) H):FnOk P w K mg base jP (k+1) f fd ps sp:=by
 obtain ⟨oc,od,kV,doc,pm,an,cdv,ct,osl,rfl,lk,hcd⟩:=F.ex
 refine tG lk hcd S len fun A outer s H vs Q E hr hsp=>?_
 obtain ⟨t,h,q⟩:=hbody cdv A outer s H vs Q E hr hsp
 exact ⟨t,h.nox,q⟩
theorem Fun.binds {x qual:Str} {st:Stmt} {f:Addr} {fd:FuncData} {ps:List Str} (F:Fun K x qual st f fd)
  (h:∀(kV doc pm:Value) (an:Option Addr) (cdv ct:Value) (us:List Value),us.length=ps.length→bindArgs (PySem.W.fnOf x qual (jS st) (jQ st) (jE st) .none kV doc pm an cdv ct) ⟨us,[]⟩=pure (ps.zip us)):Binds K fd ps []:=by
 obtain ⟨oc,od,kV,doc,pm,an,cdv,ct,osl,rfl,lk,hcd⟩:=F.ex
 exact .all (h kV doc pm an cdv ct)
theorem j8 {x qual:Str} {st:Stmt} {f:Addr} {oc:Value} {od an:Option Addr} {osl:Array (Option Value)} {kV doc pm cdv ct:Value} (l:K.lookup f=some ⟨oc,od,.func (PySem.W.fnOf x qual (jS st) (jQ st) (jE st) .none kV doc pm an cdv ct),osl⟩)
  (c:PySem.W.codeIn K cdv qual=true) (k:PySem.W.keepIn K (.ref f)=true):Fun K x qual st f (PySem.W.fnOf x qual (jS st) (jQ st) (jE st) .none kV doc pm an cdv ct):=⟨⟨oc,od,kV,doc,pm,an,cdv,ct,osl,rfl,l,c⟩,k⟩
end
theorem j6 {A:Around} {k:Nat} (hr:Room k A):A.units+1<cLine:=Nat.lt_of_le_of_lt (Nat.add_le_add_left (by decide:1≤64) _) hr.units
theorem vI {n:Nat} (h:n≤1000):n<sizeLine:=Nat.lt_of_le_of_lt h (by decide)
section
variable {X:Cx}
theorem pv (i:Nat) {x:Str} {pos:Pos} (hN:X.N[i]?=some x:=by rfl) (hv:fX X.env.scope x:=by first|exact Or.inl rfl|exact Or.inr (Or.inl rfl)|exact Or.inr (Or.inr rfl)) (hd:(x == ("__debug__":Str))=false:=by decide)
  (hcd:(x == ("__classdict__":Str))=false:=by decide):PE X (.Name x pos) (tL i):=HI hN hv hd hcd
end
theorem kX {A B:Prop} (h:B):if false=true then A else B:=by
 rw [if_neg Bool.false_ne_true]
 exact h
theorem qM {A B:Prop} (h:A):if true=true then A else B:=by
 rw [if_pos rfl]
 exact h
theorem dJ {c A B:Prop} [Decidable c] (h1:c→A) (h2:¬c→B):if c then A else B:=by
 by_cases h:c
 ·rw [if_pos h]
  exact h1 h
 ·rw [if_neg h]
  exact h2 h
theorem kZ {c A B:Prop} [Decidable c] (hc:c) (h:B):if (!decide c)=true then A else B:=by
 rw [decide_eq_true hc]
 exact kX h
def Same (H H':Hp):Prop:=∀b o,H b=some o→H' b=some o
theorem Same.refl (H:Hp):Same H H:=fun _ _ h=>h
theorem Same.trans {H H1 H2:Hp} (a:Same H H1) (b:Same H1 H2):Same H H2:=fun c o h=>b c o (a c o h)
theorem Same.free {H H':Hp} (e:Same H H') {l:Addr} (h:H' l=Option.none):H l=Option.none:=by
 cases q:H l with
 |none=>rfl
 |some o =>
  rw [e l o q] at h
  cases h
theorem Same.seq {K:PySem.W.Frag} {H H':Hp} {a:Addr} {xs:List V} (e:Same H H') (h:SqL K H a xs):SqL K H' a xs:=by
 rcases h with (h|⟨o,h⟩)|h
 ·exact .inl (.inl (e _ _ h))
 ·exact .inl (.inr ⟨o,e _ _ h⟩)
 ·exact .inr h
end L2
namespace L2
open PySem PySem.Spec PyProof.Rows
def vT (cells:List (Str×Addr)):List (Str×NameKind)→List (Str×Addr)→List (Str×Addr)
 |[],cs=>cs
 | (n,k)::r,cs=>if (k == NameKind.free)=true then vT cells r ((n,(cells.lookup n).getD 0)::cs) else vT cells r cs
theorem mN {scope:Scope} {env:Env} (h:∀x∈scope.names,x.2=.free→∃c,env.cells.lookup x.1=some c):closureFor scope env=pure (vT env.cells scope.names []):=by
 simp only [closureFor]
 have go:∀(l:List (Str×NameKind)) (cs:List (Str×Addr)),(∀x∈l,x.2=.free→∃c,env.cells.lookup x.1=some c)→
   (forIn l cs fun x r=>match x with|(name,kind)=>if (kind == NameKind.free)=true then do let a ← cellOf env name;pure (ForInStep.yield ((name,a)::r)) else pure (ForInStep.yield r):Sem (List (Str×Addr)))=pure (vT env.cells l cs):=by
  intro l
  induction l with
  |nil=>intro cs _;rfl
  |cons p r ih =>
   intro cs hp
   obtain ⟨n,k⟩:=p
   rw [List.forIn_cons]
   have hr:=fun cs=>ih cs fun x hx=>hp x (List.mem_cons_of_mem _ hx)
   by_cases hk:(k == NameKind.free)=true
   ·have hk':k=NameKind.free:=by simpa using hk
    obtain ⟨c,hc⟩:=hp (n,k) List.mem_cons_self hk'
    have hc':env.cells.lookup n=some c:=hc
    simp only [hk,if_true,vT,cellOf,hc',Option.getD_some,pure_bind]
    exact hr _
   ·simp only [hk,if_false,vT,pure_bind]
    exact hr _
 rw [go scope.names [] h]
 rfl
theorem d8 {cells:List (Str×Addr)}:∀{l:List (Str×NameKind)} {cs:List (Str×Addr)} {x:Str} {c:Addr},(∀y∈l,y.2=.free→∃c,cells.lookup y.1=some c)→(∀y d,cs.lookup y=some d→cells.lookup y=some d)→
  (vT cells l cs).lookup x=some c→cells.lookup x=some c
 |[],cs,x,c,_,hc,e=>hc x c e
 | (n,k)::r,cs,x,c,hl,hc,e=>by
  unfold vT at e
  by_cases hk:(k == NameKind.free)=true
  ·rw [if_pos hk] at e
   obtain ⟨d,hd⟩:=hl (n,k) List.mem_cons_self (by simpa using hk)
   have hd':cells.lookup n=some d:=hd
   refine d8 (fun y hy=>hl y (List.mem_cons_of_mem _ hy)) (fun y d' q=>?_) e
   rw [List.lookup_cons] at q
   by_cases hy:(y == n)=true
   ·rw [hy] at q
    have hyn:y=n:=by simpa using hy
    subst hyn
    rw [hd'] at q ⊢
    exact q
   ·rw [Bool.not_eq_true] at hy
    rw [hy] at q
    exact hc y d' q
  ·rw [if_neg hk] at e
   exact d8 (fun y hy=>hl y (List.mem_cons_of_mem _ hy)) hc e
theorem gS {cells:List (Str×Addr)}:∀{l:List (Str×NameKind)} {cs:List (Str×Addr)} {x:Str},(∃c,cs.lookup x=some c)→∃c,(vT cells l cs).lookup x=some c
 |[],_,_,h=>h
 | (n,k)::r,cs,x,h=>by
  unfold vT
  by_cases hk:(k == NameKind.free)=true
  ·rw [if_pos hk]
   refine gS ?_
   rw [List.lookup_cons]
   by_cases hy:(x == n)=true
   ·rw [hy];exact ⟨_,rfl⟩
   ·rw [Bool.not_eq_true] at hy
    rw [hy];exact h
  ·rw [if_neg hk];exact gS h
theorem eF {cells:List (Str×Addr)}:∀{l:List (Str×NameKind)} {cs:List (Str×Addr)} {x:Str},(x,NameKind.free)∈l→∃c,(vT cells l cs).lookup x=some c
 | (n,k)::r,cs,x,h=>by
  unfold vT
  rcases List.mem_cons.mp h with e|e
  ·cases e
   rw [if_pos (by rfl)]
   exact gS (by rw [List.lookup_cons,beq_self_eq_true];exact ⟨_,rfl⟩)
  ·by_cases hk:(k == NameKind.free)=true
   ·rw [if_pos hk];exact eF e
   ·rw [if_neg hk];exact eF e
theorem EB {prog:Program} {w:World} {A:Around} {elt target iter:Expr} {ifs:List Expr} {scope:Scope} {pos:Pos} {it acc:Value} {env:Env} {R:Result→Shared→Prop} {s:Shared} (I:Nat→Shared→Prop)
  (turn:∀n s,I n s→wpAny (model prog w) A (pyNext it) (fun r s₁=>match r with
   |none=>R (.ok .next) s₁
   |some v=>wpAny (model prog w) A (letOwnedTupleGo target it v) (fun _ s₁'=>wpAny (model prog w) A (assign target env v) (fun _ s₂ =>
     wpAny (model prog w) A (forIn ifs true fun c r=>if r=true then do let ok ← isTrue c env (eval c env);pure (ForInStep.yield ok) else pure (ForInStep.yield r)) (fun ok s₃ =>
      if ok=true then wpAny (model prog w) A (eval elt env) (fun x s₄ =>
       wpAny (model prog w) A (call (.builtin "list.append") [acc,x]) (fun _ s₅=>∃m,m<n∧I m s₅) (fun _ _=>False) s₄) (fun _ _=>False) s₃
      else ∃m,m<n∧I m s₃) (fun _ _=>False) s₂) (fun _ _=>False) s₁') (fun _ _=>False) s₁) (fun _ _=>False) s)
  (n:Nat) (h:I n s):codeAny (model prog w) A (.compLoop (.ListComp elt [⟨target,iter,ifs,0⟩] scope pos) 0 it acc env) R s:=by
 refine codeAny_loop rfl I (fun n s hI=>?_) n h
 show wpAny _ A ((compTurn (.ListComp elt [⟨target,iter,ifs,0⟩] scope pos) 0 it acc env).onRaise (fun x=>do noteFrame x env;theTreesLotGoes x)) _ _ s
 refine wpAny_noted ?_
 rw [compTurn_list]
 refine wpAny_bind (wpAny_standAt (wpAny_bind (wpAny_mono (turn n s hI) (fun r s₁ h₁=>?_) fun _ _ h'=>h'.elim)))
 cases r with
 |none=>exact wpAny_pure h₁
 |some v =>
  refine wpAny_bind (wpAny_mono h₁ (fun _ s₁' h₁'=>?_) fun _ _ h'=>h'.elim)
  refine wpAny_bind (wpAny_mono h₁' (fun _ s₂ h₂=>wpAny_bind (wpAny_mono h₂ (fun ok s₃ h₃=>?_) fun _ _ h'=>h'.elim)) fun _ _ h'=>h'.elim)
  cases ok with
  |false=>exact wpAny_pure ⟨rfl,h₃⟩
  |true =>
   exact wpAny_bind (wpAny_bind (wpAny_mono h₃ (fun x s₄ h₄=>wpAny_bind (wpAny_mono h₄ (fun _ s₅ h₅=>wpAny_pure (wpAny_pure ⟨rfl,h₅⟩)) fun _ _ h'=>h'.elim)) fun _ _ h'=>h'.elim))
def vF (X:Cx) (N:List Str) (scope:Scope) (C:Addr) (s:Shared) (H:Hp) (pins:List (Addr×Obj)) (fp:List Addr):Cx where
 prog:=X.prog
 w:=X.w
 K:=X.K
 mg:=X.mg
 base:=X.base
 A:=X.A
 N:=N
 s₀:=s
 H₀:=H
 env:=compEnvC scope (vT X.env.cells scope.names []) C X.env
 outer:=X.stack
 stack:=X.stack
 ex:=fp
 fn:=fun _=>false
 calm:=X.calm
 pn:=X.pn++pins
 xe:=fun _ _=>False
structure CompScope (X:Cx) (scope:Scope):Prop where
 kind:scope.kind=.function
 nocell:∀y∈scope.names,y.2≠.cell
 names:∀y∈scope.names,y.2=.local→scope.names.lookup y.1=some .local
 free:∀y∈scope.names,y.2=.free→X.env.kindOf y.1=some .cell∨X.env.kindOf y.1=some .free
theorem gI {env:Env} {x:Str}:∀{names:List (Str×NameKind)} {k:NameKind},(names.map fun (n,k)=>if (k == NameKind.free&&env.scope.kind == .function&&env.kindOf n == some .cell) then (n,NameKind.cell) else (n,k)).lookup x=some k→
  ∃k',names.lookup x=some k'∧(k'=k∨(k'=.free∧k=.cell∧env.kindOf x=some .cell))
 |[],k,h=>by simp at h
 | (n,k0)::r,k,h=>by
  have ih:=@gI env x r k
  have h':List.lookup x ((if (k0 == NameKind.free&&env.scope.kind == .function&&env.kindOf n == some .cell)=true then (n,NameKind.cell) else (n,k0))::r.map fun (n,k)=>if (k == NameKind.free&&env.scope.kind == .function&&env.kindOf n == some .cell)=true then (n,NameKind.cell) else (n,k))=some k:=h
  by_cases hc:(k0 == NameKind.free&&env.scope.kind == .function&&env.kindOf n == some .cell)=true
  ·rw [if_pos hc] at h'
   rw [List.lookup_cons] at h'
   cases hx:x == n with
   |true =>
    rw [hx] at h'
    have hk:NameKind.cell=k:=Option.some.inj h'
    simp only [Bool.and_eq_true,beq_iff_eq] at hc
    have hxn:x=n:=by simpa using hx
    refine ⟨k0,by rw [List.lookup_cons,hx],.inr ⟨hc.1.1,hk.symm,by rw [hxn];exact hc.2⟩⟩
   |false =>
    rw [hx] at h'
    obtain ⟨k',e1,e2⟩:=ih h'
    exact ⟨k',by rw [List.lookup_cons,hx];exact e1,e2⟩
  ·rw [if_neg hc] at h'
   rw [List.lookup_cons] at h'
   cases hx:x == n with
   |true =>
    rw [hx] at h'
    exact ⟨k0,by rw [List.lookup_cons,hx],.inl (Option.some.inj h')⟩
   |false =>
    rw [hx] at h'
    obtain ⟨k',e1,e2⟩:=ih h'
    exact ⟨k',by rw [List.lookup_cons,hx];exact e1,e2⟩
theorem gQ {α:Type}:∀{l:List (Str×α)} {x:Str} {k:α},l.lookup x=some k→(x,k)∈l
 |[],_,_,h=>by simp at h
 | (n,a)::r,x,k,h=>by
  rw [List.lookup_cons] at h
  cases hx:x == n with
  |true =>
   rw [hx] at h
   have e:a=k:=Option.some.inj h
   have hxn:x=n:=by simpa using hx
   subst e;subst hxn
   exact List.mem_cons_self
  |false =>
   rw [hx] at h
   exact List.mem_cons_of_mem _ (gQ h)
def dN (X:Cx) (ifs:List Expr) (t:TT):Prop :=
 ∀(pins:List (Addr×Obj)) (s:Shared) (σ:St) (H:Hp) (Q:Bool→Hp→Prop),Inv X pins σ H s→t σ H Q→
  wpAny (model X.prog X.w) X.A (forIn ifs true fun c r=>if r=true then do let ok ← isTrue c X.env (eval c X.env);pure (ForInStep.yield ok) else pure (ForInStep.yield r)) (TP X pins σ Q) X.xe s
def tK:TT:=fun _ H Q=>Q true H
theorem qU {X:Cx}:dN X [] tK:=fun _ _ _ H _ I h=>wpAny_tests_nil ⟨H,I,h⟩
theorem eY {X:Cx} {c:Expr} {t:TT} (hc:PT X c t):dN X [c] t:=fun pins s σ H Q I h=>wpAny_tests_one (hc pins s σ H Q I h)
def y6 (D:Addr) (J:It) (g:TG) (tc:TT) (te:TE) (σ₀:St) (H:Hp) (Q:Hp→Prop):Prop :=
 ∃W:Nat→Nat→St→Hp→Prop,(∃m,W 0 m σ₀ (upd H D (.lst [])))∧∀i m σ' H',W i m σ' H'→
  (J.stop i H'∧Q H')∨(J.go i H'∧∃N:St→Hp→Prop,(∀σ'' H'',N σ'' H''→∃m',m'<m∧W (i+1) m' σ'' H'')∧∀x H2,J.yld i H' x H2→g x σ' H2 fun σ2 H3=>tc σ2 H3 fun b H4 =>
   if b=true then te σ2 H4 fun v H5=>∃xs,H5 D=some (.lst xs)∧xs.length<sizeLine∧N σ2 (upd H5 D (.lst (xs++[v]))) else N σ2 H4)
def IG (wi:TI) (cap:St→St) (g:TG) (tc:TT) (te:TE):TE:=fun σ H Q=>wi σ H fun J H1=>∀D,H1 D=none→y6 D J g tc te (cap σ) H1 fun H'=>Q (.ref D) H'
def EJ (i:Nat) (wi:TI) (cap:St→St) (g:TG) (tc:TT) (te:TE):TS:=fun D σ H=>wi σ H fun J H1=>∀d,H1 d=none→y6 d J g tc te (cap σ) H1 fun H'=>D.nx (σ.set i (some (.ref d))) H'
def bW (X:Cx) (N:List Str) (scope:Scope) (cap:St→St):Prop :=
 ∀σ:St,σ.length=X.N.length→(cap σ).length=N.length∧∀(i:Nat) (x:Str) (v:V),N[i]?=some x→(cap σ)[i]?=some (some v)→scope.names.lookup x=some .free∧∃j:Nat,X.N[j]?=some x∧σ[j]?=some (some v)
def qB (n:Nat) (js:List Nat):St→St:=fun σ=>List.replicate n none++js.map fun j=>(σ[j]?).join
theorem qI {X:Cx} {N:List Str} {scope:Scope} (n:Nat) (js:List Nat) (h1:N.length=n+js.length) (h2:js.map (fun j=>X.N[j]?)=(N.drop n).map some) (h3:∀x∈N.drop n,scope.names.lookup x=some .free):bW X N scope (qB n js):=by
 intro σ hσ
 refine ⟨by unfold qB;rw [List.length_append,List.length_replicate,List.length_map,h1],fun i x v e1 e2=>?_⟩
 unfold qB at e2
 by_cases hi:i<n
 ·rw [List.getElem?_append_left (by simpa using hi),List.getElem?_replicate,if_pos hi] at e2
  cases e2
 ·rw [List.getElem?_append_right (by simpa using hi),List.length_replicate,List.getElem?_map] at e2
  cases hj:js[i - n]? with
  |none=>rw [hj] at e2;cases e2
  |some j =>
   rw [hj] at e2
   have e3:(σ[j]?).join=some v:=Option.some.inj e2
   have e4:σ[j]?=some (some v):=by
    cases q:σ[j]? with
    |none=>rw [q] at e3;cases e3
    |some o =>
     rw [q] at e3
     have e5:o=some v:=e3
     rw [e5]
   have hd:(N.drop n)[i - n]?=some x:=by
    rw [List.getElem?_drop,show n+(i - n)=i by omega]
    exact e1
   have e5:=congrArg (fun l=>l[i - n]?) h2
   simp only [List.getElem?_map,hj,hd,Option.map_some] at e5
   exact ⟨h3 x (List.mem_of_getElem? hd),j,Option.some.inj e5,e4⟩
theorem qK {X:Cx} {scope:Scope} (sc:Scope) (hsc:X.env.scope=sc) (kind:scope.kind=.function) (nocell:∀y∈scope.names,y.2≠.cell) (names:∀y∈scope.names,y.2=.local→scope.names.lookup y.1=some .local)
  (free:∀y∈scope.names,y.2=.free→sc.names.lookup y.1=some .cell∨sc.names.lookup y.1=some .free):CompScope X scope:=⟨kind,nocell,names,fun y hy hf=>by
 subst hsc
 exact free y hy hf⟩
section
variable {X:Cx} {N:List Str} {scope:Scope} {pins:List (Addr×Obj)} {σ:St} {H:Hp} {s:Shared} {fp:List Addr}
theorem eD (S:CompScope X scope) (I:Inv X pins σ H s):∀y∈scope.names,y.2=.free→∃c,X.env.cells.lookup y.1=some c:=fun y hy hf=>I.ok.has y.1 (S.free y hy hf)
theorem FJ {cap:St→St} {D C:Addr} {h₁:Heap} {t':Nat} {m:Str→Option Value} (S:CompScope X scope) (I:Inv X pins σ H s) (hcap:bW X N scope cap) (hf:∀b∈fp,yU X pins H b) (hfo:∀b∈fp,∃o,s.heap.get? b=some o)
  (hD:s.heap.objs.size≤D) (hC:s.heap.objs.size≤C) (hDC:D≠C) (old:∀b o,s.heap.get? b=some o→h₁.get? b=some o) (hns:h₁.Ns C m) (hl:h₁.get? D=some {cls:=.type "list",data:=.seq ([]:List Value).toArray}) :
  Inv (vF X N scope C s H pins fp) [] (cap σ) (upd H D (.lst [])) {s with heap:=h₁,toks:=t'}:=by
 have cellsOk:=eD S I
 have look:∀x c,(vT X.env.cells scope.names []).lookup x=some c→X.env.cells.lookup x=some c:=fun x c e=>d8 cellsOk (fun y d q=>by simp at q) e
 have lt:∀{b:Addr} {o:Obj},s.heap.get? b=some o→b<s.heap.objs.size:=fun e=>Heap.lt_size e
 have cellLt:∀x c,X.env.cells.lookup x=some c→c<s.heap.objs.size:=fun x c e=>by
  obtain ⟨v,o,ho,_⟩:=I.cell x c e
  exact lt ho
 have nD:H D=none:=I.hok.fresh hD
 have nC:H C=none:=I.hok.fresh hC
 have stkNe:∀b:Addr,b≠X.env.locals→b∉X.fs→b∉yW X.stack:=fun b h1 h2 z=>by
  rcases List.mem_cons.mp (I.stkSub b z) with e|e
  ·exact h1 e
  ·exact h2 e
 refine ⟨⟨I.ok.mod,S.kind,I.ok.glob,I.ok.blt,hC,fun x y c h1 h2=>I.ok.inj x y c (look x c h1) (look y c h2),fun x hx=>?_,fun x c hfn _=>(nomatch hfn),I.ok.hd,I.ok.frames,.inl rfl,fun b hb=>⟨?_,fun x c e=>(hf b hb).2.2.2.2.1 x c (look x c e)⟩,
   I.bs,Nat.le_trans I.ok.bsz I.sz,fun b o e hb=>?_,fun b hb=>stkNe b (hf b hb).2.1 (hf b hb).2.2.1,I.stack,I.stkFree⟩,
  rfl,I.bare,Un.laid old hD nD,⟨m,hns,fun i x v h1 h2 h3=>?_⟩,fun x c e=>?_,?_,fun x c e=>?_,fun p hp=>?_,?_,(hcap σ I.len).1⟩
 ·-- has
  have hx':∃k,(relabel scope X.env).names.lookup x=some k∧(k=.cell∨k=.free):=by
   rcases hx with e|e
   ·exact ⟨_,e,.inl rfl⟩
   ·exact ⟨_,e,.inr rfl⟩
  obtain ⟨k,e,hk⟩:=hx'
  obtain ⟨k',e1,e2⟩:=gI e
  have hm:=gQ e1
  have hfree:k'=.free:=by
   rcases e2 with e2|e2
   ·subst e2
    rcases hk with hk|hk
    ·subst hk
     exact absurd rfl (S.nocell _ hm)
    ·exact hk
   ·exact e2.1
  subst hfree
  exact eF hm
 ·obtain ⟨o,ho⟩:=hfo b hb
  exact Nat.ne_of_lt (Nat.lt_of_lt_of_le (lt ho) hC)
 ·rcases (hf b hb).2.2.2.1 with z|z
  ·exact I.ok.noex b o e z
  ·exact absurd (Nat.lt_of_lt_of_le (Heap.lt_size e) (Nat.le_trans I.ok.bsz z)) (Nat.lt_irrefl _)
 ·-- names
  obtain ⟨hfr,j,hj,hv⟩:=(hcap σ I.len).2 i x v h1 h2
  have hm:=gQ hfr
  have hk:=S.free _ hm rfl
  obtain ⟨m0,_,hl0⟩:=I.loc
  have vis:fX X.env.scope x:=by
   rcases hk with k|k
   ·exact .inr (.inl k)
   ·exact .inr (.inr k)
  obtain ⟨u,r,l⟩:=hl0 j x v hj hv vis
  refine ⟨u,r,.inr ⟨?_,?_⟩⟩
  ·have hvis:∃k,(relabel scope X.env).names.lookup x=some k:=by
    rcases h3 with e|e|e<;>exact ⟨_,e⟩
   obtain ⟨k,e⟩:=hvis
   obtain ⟨k',e1,e2⟩:=gI e
   rw [hfr] at e1
   cases e1
   rcases e2 with e2|e2
   ·subst e2;exact .inr e
   ·rw [e2.2.1] at e;exact .inl e
  ·rcases l with ⟨k,_⟩|⟨_,c,hc,hcell⟩
   ·exfalso
    rcases hk with q|q
    ·have q':X.env.kindOf x=some .cell:=q
     rw [k] at q';cases q'
    ·have q':X.env.kindOf x=some .free:=q
     rw [k] at q';cases q'
   ·obtain ⟨c',e'⟩:=eF (cells:=X.env.cells) (cs:=[]) hm
    have e2:=look x c' e'
    have e2':X.env.cells.lookup x=some c':=e2
    rw [hc] at e2'
    cases e2'
    obtain ⟨o,ho,hd⟩:=hcell
    exact ⟨c,e',o,old _ _ ho,hd⟩
 ·obtain ⟨v,o,ho,hd⟩:=I.cell x c (look x c e)
  exact ⟨v,o,old _ _ ho,hd⟩
 ·show upd H D (.lst []) C=none
  rw [kC (Ne.symm hDC)]
  exact nC
 ·have hc:=look x c e
  rw [kC (Nat.ne_of_lt (Nat.lt_of_lt_of_le (cellLt x c hc) hD))]
  exact I.freeC x c hc
 ·have hp':p∈X.pn++pins:=by
   rcases List.mem_append.mp hp with z|z
   ·exact z
   ·cases z
  obtain ⟨e,n,ne,nf,d⟩:=I.pin p hp'
  refine ⟨old _ _ e,?_,Nat.ne_of_lt (Nat.lt_of_lt_of_le (lt e) hC),stkNe p.1 ne nf,d⟩
  rw [kC (Nat.ne_of_lt (Nat.lt_of_lt_of_le (lt e) hD))]
  exact n
 ·refine I.hok.laid old hD ?_
  exact ⟨Nat.zero_le _,[],0,.nil,hl⟩
theorem oY {σ':St} {H':Hp} {s':Shared} {C:Addr} {σc:St} {Nc:List Str} (I:Inv X pins σ H s) (hf:∀b∈fp,yU X pins H b) (J:Inv (vF X Nc scope C s H pins fp) [] σc H' s'):Inv X pins σ H' s':=by
 refine I.call' (ch:=fp) J.os J.base J.hok J.bare fun b hb=>?_
 obtain ⟨_,h2,_,h4,h5,h6⟩:=hf b hb
 exact ⟨h4,h2,h5,h6⟩
theorem rB {σ':St} {H':Hp} {s':Shared} {C:Addr} {h':Heap} (I:Inv X pins σ H s) (hC:s.heap.objs.size≤C) (J:Inv X pins σ' H' s') (hn:H' C=none) (sb:Heap.SameBut C s'.heap h'):Inv X pins σ' H' {s' with heap:=h'}:=by
 refine J.turned (t':=s'.toks) (it:=C) (fun b o hb e=>(sb.2 b hb).trans e) hn (Nat.ne_of_gt (Nat.lt_of_lt_of_le I.lt hC)) (.inr (Nat.le_trans I.sz hC)) (fun x c e z=>?_) fun p hp z=>?_
 ·obtain ⟨v,q⟩:=I.cell x c e
  exact absurd (Nat.lt_of_lt_of_le q.lt (by rw [z];exact hC)) (Nat.lt_irrefl _)
 ·exact absurd (Nat.lt_of_lt_of_le (Heap.lt_size (I.pin p hp).1) (by rw [z];exact hC)) (Nat.lt_irrefl _)
theorem rA {tg iter elt:Expr} {ifs:List Expr} {pos:Pos} {cap:St→St} {g:TG} {tc:TT} {te:TE} {J:It} {it:Addr} {tn:Nat→Heap→Prop} {Q:Addr→Hp→Prop} {RR:Value→Addr→Result→Shared→Prop}
  (hcalm:X.calm=true) (S:CompScope X scope) (hcap:bW X N scope cap) (I:Inv X pins σ H s) (T:Turn X.prog X.w X.K tg J fp it tn) (st:tn 0 s.heap) (hf:∀b∈fp,yU X pins H b)
  (hg:∀C,PG (vF X N scope C s H pins fp) tg g) (hc:∀C,dN (vF X N scope C s H pins fp) ifs tc) (he:∀C,PE (vF X N scope C s H pins fp) elt te)
  (hq:∀D,H D=none→y6 D J g tc te (cap σ) H (Q D))
  (hRR:∀D C σc H' s',s.heap.objs.size≤C→Inv (vF X N scope C s H pins fp) [] σc H' s'→Q D H'→RR (.ref D) C (.ok .next) s') :
  wpAny (model X.prog X.w) X.A (newList []) (fun acc s₃=>wpAny (model X.prog X.w) X.A (newFunctionEnv scope X.env.globals (vT X.env.cells scope.names []) [] X.env.qual none .none (some X.env)) (fun cenv s₄ =>
   codeAny (model X.prog X.w) X.A (.compStart (.ListComp elt [⟨tg,iter,ifs,0⟩] scope pos) 0 (.ref it) acc {cenv with scope:=relabel scope X.env}) (RR acc cenv.locals) s₄) X.xe s₃) X.xe s:=by
 refine wpAny_newObj_type (wpAny_newFunctionEnv S.nocell (by intro y hy;simp at hy) (fun h₁ hns₁ hsb₁=>?_) S.kind)
 dsimp only at hns₁ hsb₁ ⊢
 generalize hH2:s.heap.push {cls:=.type "list",dict:=none,data:=.seq ([]:List Value).toArray}=H2 at hns₁ hsb₁ ⊢
 have hC:H2.objs.size=s.heap.objs.size+1:=by rw [← hH2,Heap.size_push]
 have hDC:s.heap.objs.size≠H2.objs.size:=by rw [hC];exact Nat.ne_of_lt (Nat.lt_succ_self _)
 have hCle:s.heap.objs.size≤H2.objs.size:=by rw [hC];exact Nat.le_succ _
 have below:∀b,b<s.heap.objs.size→b≠H2.objs.size:=fun b hb=>by rw [hC];exact Nat.ne_of_lt (Nat.lt_succ_of_lt hb)
 have old:∀b o,s.heap.get? b=some o→h₁.get? b=some o:=fun b o e=>hsb₁.extBut b o (below b (Heap.lt_size e)) (Heap.get?_push_of_some _ (hH2▸Heap.get?_push_of_some _ e))
 have hacc:h₁.get? s.heap.objs.size=some {cls:=.type "list",data:=.seq ([]:List Value).toArray}:=hsb₁.extBut _ _ hDC (Heap.get?_push_of_some _ (hH2▸Heap.get?_push_size _ rfl))
 have obj0:=T.obj 0 s.heap st
 have I1:∀t',Inv (vF X N scope H2.objs.size s H pins fp) [] (cap σ) (upd H s.heap.objs.size (.lst [])) {s with heap:=h₁,toks:=t'}:=fun t' =>
  FJ S I hcap hf (fun b hb=>let ⟨o,e,_⟩:=obj0 b hb;⟨o,e⟩) (Nat.le_refl _) hCle hDC old hns₁ hacc
 have st1:tn 0 h₁:=T.keep 0 s.heap h₁ st fun b _ o e=>old b o e
 have stat:∀{H':Hp},(∀b∈fp,H' b=none)→∀b∈fp,yU (vF X N scope H2.objs.size s H pins fp) [] H' b:=fun hn b hb=>by
  obtain ⟨_,h2,h3,h4,h5,h6⟩:=hf b hb
  obtain ⟨o,ho,_⟩:=obj0 b hb
  refine ⟨hn b hb,below b (Heap.lt_size ho),?_,.inl hb,fun x c e=>h5 x c (d8 (eD S I) (fun y d q=>by simp at q) e),fun p hp=>?_⟩
  ·intro z
   rcases List.mem_cons.mp (I.stkSub b z) with e|e
   ·exact h2 e
   ·exact h3 e
  ·rcases List.mem_append.mp hp with z|z
   ·exact h6 p z
   ·cases z
 have fr1:∀b∈fp,upd H s.heap.objs.size (.lst []) b=none:=fun b hb=>by
  obtain ⟨o,ho,_⟩:=obj0 b hb
  rw [kC (Nat.ne_of_lt (Heap.lt_size ho))]
  exact (hf b hb).1
 obtain ⟨W,⟨m0,w0⟩,turn⟩:=hq s.heap.objs.size (I.hok.fresh (Nat.le_refl _))
 have loop:∀s₃:Shared,s₃={s with heap:=h₁,toks:=s.toks+([]:List (Str×Value)).length}→
   codeAny (model X.prog X.w) X.A (.compLoop (.ListComp elt [⟨tg,iter,ifs,0⟩] scope pos) 0 (.ref it) (.ref s.heap.objs.size) (compEnvC scope (vT X.env.cells scope.names []) H2.objs.size X.env))
    (RR (.ref s.heap.objs.size) H2.objs.size) s₃:=by
  rintro s₃ rfl
  refine EB (fun n s'=>∃i σ' H',Inv (vF X N scope H2.objs.size s H pins fp) [] σ' H' s'∧tn i s'.heap∧(∀b∈fp,H' b=none)∧W i n σ' H') ?_ m0 ⟨0,cap σ,_,I1 _,st1,fr1,w0⟩
  rintro n s3 ⟨i,σ3,H3,I3,st3,fr3,w3⟩
  rcases turn i n σ3 H3 w3 with ⟨stop,qn⟩|⟨go,Nn,hN,step⟩
  ·refine jL (T.done (vF X N scope H2.objs.size s H pins fp) rfl rfl rfl hcalm i [] s3 σ3 H3 (fun _ _=>False) I3 (stat fr3) st3 stop) fun r s4 ⟨hr,I4⟩=>?_
   subst hr
   exact hRR _ _ σ3 H3 s4 hCle I4 qn
  ·refine jL (T.item (vF X N scope H2.objs.size s H pins fp) rfl rfl rfl hcalm i [] s3 σ3 H3 (fun _ _=>False) I3 (stat fr3) st3 go) fun r s4 ⟨u,hr,h4⟩=>?_
   subst hr
   refine jL h4 fun _ s5 ⟨x,H5,I5,r5,y5,st5,fr5⟩=>?_
   have I5':=I5.pinned (stat fr5) (T.obj _ _ st5)
   have again:∀{σ7:St} {H7:Hp} {s7:Shared},Inv (vF X N scope H2.objs.size s H pins fp) ([]++cZ fp s5.heap) σ7 H7 s7→Nn σ7 H7→
     ∃m,m<n∧∃i σ' H',Inv (vF X N scope H2.objs.size s H pins fp) [] σ' H' s7∧tn i s7.heap∧(∀b∈fp,H' b=none)∧W i m σ' H':=fun {σ7 H7 s7} I7 n7=>by
    obtain ⟨m',hm,w7⟩:=hN σ7 H7 n7
    refine ⟨m',hm,i+1,σ7,H7,I7.unpinned,T.keep _ _ _ st5 fun b hb o e=>(I7.pin (b,o) (List.mem_append_right _ (List.mem_append_right _ (eC hb e)))).1,fun b hb=>?_,w7⟩
    obtain ⟨o,e,d⟩:=T.obj _ _ st5 b hb
    exact (I7.pin (b,o) (List.mem_append_right _ (List.mem_append_right _ (eC hb e)))).2.1
   refine jL (hg _ _ s5 σ3 H5 x u _ I5' r5 (step x H5 y5)) fun _ s6 ⟨σ6,H6,I6,q6⟩=>?_
   refine jL (hc _ _ s6 σ6 H6 _ I6 q6) fun ok s7 ⟨H7,I7,q7⟩=>?_
   cases ok with
   |false=>exact again I7 q7
   |true =>
    refine jL (he _ _ s7 σ6 H7 _ I7 q7) fun v s8 ⟨y,H8,I8,r8,xs,hD8,hz8,n8⟩=>?_
    refine jL (yY _ s8 σ6 H8 (.ref s.heap.objs.size) [y] (.ref s.heap.objs.size) [v] (fun _ H9=>Nn σ6 H9) I8 rfl (.cons r8 .nil) ⟨_,_,_,rfl,rfl,hD8,hz8,n8⟩) fun _ s9 ⟨_,H9,I9,_,n9⟩=>?_
    exact again I9 n9
 exact codeAny_compStart_list (loop _ rfl) (wpAny_mono (T.self X.A 0 _ (fun v s'=>v=.ref it∧s'=_) (fun _ _=>False) st1 ⟨rfl,rfl⟩) (fun v s' ⟨e1,e2⟩=>by subst e1;subst e2;exact loop _ rfl) fun _ _ z=>z.elim)
theorem vD {tg iter elt:Expr} {ifs:List Expr} {pos:Pos} {wi:TI} {g:TG} {tc:TT} {te:TE} (N:List Str) (cap:St→St) (hcalm:X.calm=true) (S:CompScope X scope) (hcap:bW X N scope cap) (hi:PI X tg iter wi)
  (hg:∀C s H pins fp,PG (vF X N scope C s H pins fp) tg g) (hc:∀C s H pins fp,dN (vF X N scope C s H pins fp) ifs tc) (he:∀C s H pins fp,PE (vF X N scope C s H pins fp) elt te)
  (hs:∀x,foldedSetIterable iter X.env x=pure x:=by intro _;rfl):PE X (.ListComp elt [⟨tg,iter,ifs,0⟩] scope pos) (IG wi cap g tc te):=by
 intro pins s σ H Q I h
 rw [eval_ListComp]
 refine wpAny_comprehension_free (use:=none) rfl hs (mN (eD S I)) S.kind S.names (jL (hi pins s σ H _ I h) fun v s1 h1=>jL h1 fun itv s2 h2=>?_)
 obtain ⟨it,fp,tn,J,H2,e,I2,T,st2,f2,q2⟩:=h2
 subst e
 refine rA (RR:=fun acc C=>compPost (model X.prog X.w) X.A X.xe none (EP X pins σ Q) acc C) (Q:=fun D H'=>Q (.ref D) H') hcalm S hcap I2 T st2 f2 (fun C=>hg C _ _ _ _) (fun C=>hc C _ _ _ _) (fun C=>he C _ _ _ _) q2 ?_
 intro D C σc H' s' hC Jc q
 obtain ⟨m,hn,_⟩:=Jc.loc
 refine ⟨m,hn,fun h' hs'=>?_⟩
 exact ⟨.ref D,H',rB I2 hC (oY (σ':=σ) I2 f2 Jc) Jc.free hs',rfl,q⟩
theorem QD {tg iter elt:Expr} {ifs:List Expr} {pos spos py:Pos} {i:Nat} {y:Str} {wi:TI} {g:TG} {tc:TT} {te:TE} (N:List Str) (cap:St→St) (hN:X.N.Nodup) (hy:X.N[i]?=some y) (hloc:dP X.env.scope y) (hcalm:X.calm=true) (S:CompScope X scope) (hcap:bW X N scope cap) (hi:PI X tg iter wi)
  (hg:∀C s H pins fp,PG (vF X N scope C s H pins fp) tg g) (hc:∀C s H pins fp,dN (vF X N scope C s H pins fp) ifs tc) (he:∀C s H pins fp,PE (vF X N scope C s H pins fp) elt te)
  (hsw:swapsWith (.ListComp elt [⟨tg,iter,ifs,0⟩] scope pos) (some (.Name y py)) spos.line X.env=pure true:=by rfl)
  (hs:∀x,foldedSetIterable iter X.env x=pure x:=by intro _;rfl) (hfn:X.fn y=true∨X.env.scope.names.lookup y=some .local:=by first|exact .inl rfl|exact .inr rfl|assumption) :
  PS X (.Assign [.Name y py] (.ListComp elt [⟨tg,iter,ifs,0⟩] scope pos) spos) (EJ i wi cap g tc te):=by
 intro pins s σ H D I h
 rw [exec_Assign_Name_used _ _ _ _ hsw]
 refine wpAny_bind (wpAny_standAt (wpAny_bind ?_))
 show wpAny _ X.A (do let _ ← comprehension (.ListComp elt [⟨tg,iter,ifs,0⟩] scope pos) scope X.env _ (newList []) false (eval iter X.env) (some (assign (.Name y py) X.env))) _ _ s
 refine wpAny_bind (wpAny_mono (wpAny_comprehension_free (use:=some (assign (.Name y py) X.env)) (Q:=fun _ s'=>SP X pins D .next s') rfl hs (mN (eD S I)) S.kind S.names
  (jL (hi pins s σ H _ I h) fun v s1 h1=>jL h1 fun itv s2 h2=>?_)) (fun _ s' hq=>wpAny_pure (wpAny_pure hq)) fun _ _ e=>e)
 obtain ⟨it,fp,tn,J,H2,e,I2,T,st2,f2,q2⟩:=h2
 subst e
 refine rA (RR:=fun acc C=>compPost (model X.prog X.w) X.A X.xe (some (assign (.Name y py) X.env)) (fun _ s'=>SP X pins D .next s') acc C) (Q:=fun d H'=>D.nx (σ.set i (some (.ref d))) H') hcalm S hcap I2 T st2 f2 (fun C=>hg C _ _ _ _) (fun C=>hc C _ _ _ _) (fun C=>he C _ _ _ _) q2 ?_
 intro d C σc H' s' hC Jc q
 obtain ⟨m,hn,_⟩:=Jc.loc
 have J1:Inv X pins σ H' s':=oY (σ':=σ) I2 f2 Jc
 show wpAny _ X.A (assign (.Name y py) X.env (.ref d)) _ _ _
 refine wpAny_assign_Name (nY (v:=.ref d) J1 hN hy hloc rfl (fun s'' J2 hsb=>?_) hfn)
 obtain ⟨a,sb,ha⟩:=hsb
 have haC:C≠a:=by
  rcases ha with e|e
  ·rw [e];exact Nat.ne_of_gt (Nat.lt_of_lt_of_le I2.lt hC)
  ·obtain ⟨v,q'⟩:=I2.cell y a e
   exact Nat.ne_of_gt (Nat.lt_of_lt_of_le q'.lt hC)
 refine ⟨m,hn.sameBut sb haC,fun h' hs'=>?_⟩
 exact ⟨_,H',rB I2 hC J2 Jc.free hs',q⟩
end
end L2
namespace L2
open PySem PySem.Spec PyProof.Rows
theorem qW {σ:St} {H:Hp} {Q:Bool→Hp→Prop} (h:Q true H):tK σ H Q:=h
theorem BU {K:PySem.W.Frag} {a D:Addr} {xs:List V} {g:TG} {tc:TT} {te:TE} {σ₀:St} {H:Hp} {Q:Hp→Prop} (Pv:Nat→St→Hp→Prop) (h0:Pv 0 σ₀ (upd H D (.lst []))) (hl:∀i σ H,i≤xs.length→Pv i σ H→SqL K H a xs)
    (hs:∀i x σ H,xs[i]?=some x→Pv i σ H→g x σ H fun σ2 H3=>tc σ2 H3 fun b H4=>if b=true then te σ2 H4 fun v H5=>∃ys,H5 D=some (.lst ys)∧ys.length<sizeLine∧Pv (i+1) σ2 (upd H5 D (.lst (ys++[v]))) else Pv (i+1) σ2 H4)
    (hd:∀σ H,Pv xs.length σ H→Q H):y6 D (QR K a) g tc te σ₀ H Q:=by
  refine ⟨fun i m σ H=>m=xs.length - i∧i≤xs.length∧Pv i σ H,⟨xs.length,by simp,Nat.zero_le _,h0⟩,?_⟩
  rintro i m σ H ⟨rfl,hi,p⟩
  have q:=hl i σ H hi p
  by_cases hlt:i<xs.length
  · refine .inr ⟨⟨xs,xs[i],q,by simp [hlt]⟩,Pv (i+1),fun σ' H' p'=>⟨xs.length - (i+1),by omega,rfl,hlt,p'⟩,fun x H' y=>?_⟩
    obtain ⟨e,y⟩:=y
    subst e
    exact hs i x σ _ (y xs q) p
  · have e:i=xs.length:=by omega
    subst e
    exact .inl ⟨⟨xs,q,Nat.le_refl _⟩,hd σ H p⟩
theorem BJ {lo:Int} {n:Nat} {D:Addr} {g:TG} {tc:TT} {te:TE} {σ₀:St} {H:Hp} {Q:Hp→Prop} (Pv:Nat→St→Hp→Prop) (h0:Pv 0 σ₀ (upd H D (.lst [])))
  (hs:∀i σ H,i<n→Pv i σ H→g (.int (lo+i)) σ H fun σ2 H3=>tc σ2 H3 fun b H4=>if b=true then te σ2 H4 fun v H5=>∃ys,H5 D=some (.lst ys)∧ys.length<sizeLine∧Pv (i+1) σ2 (upd H5 D (.lst (ys++[v]))) else Pv (i+1) σ2 H4)
  (hd:∀σ H,Pv n σ H→Q H):y6 D (JS lo n) g tc te σ₀ H Q:=by
 refine ⟨fun i m σ H=>m=n - i∧i≤n∧Pv i σ H,⟨n,by simp,Nat.zero_le _,h0⟩,?_⟩
 rintro i m σ H ⟨rfl,hi,p⟩
 by_cases hlt:i<n
 ·refine .inr ⟨hlt,Pv (i+1),fun σ' H' p'=>⟨n - (i+1),by omega,rfl,hlt,p'⟩,fun x H' y=>?_⟩
  obtain ⟨e,y⟩:=y
  subst e y
  exact hs i σ _ hlt p
 ·have e:i=n:=by omega
  subst e
  exact .inl ⟨Nat.le_refl _,hd σ H p⟩
theorem kU {H H':Hp} {D:Addr} {o:HO} (hD:H D=none) (s:Same H H'):Same H (upd H' D o):=fun b u q=>by
 rw [kC (kE q hD)]
 exact s b u q
def vZ (H:Hp) (D:Addr) (caps:St) (R:Nat→List V→Hp→Prop) (i:Nat) (σ:St) (Hi:Hp):Prop:=∃ys c,σ=c::caps∧Same H Hi∧Hi D=some (.lst ys)∧ys.length≤i∧R i ys Hi
theorem qL {H Hi H5:Hp} {D:Addr} {caps:St} {R:Nat→List V→Hp→Prop} {i:Nat} {ys:List V} {c:Option V} {v:V} (hD:H D=none) (s:Same H Hi) (hY:Hi D=some (.lst ys)) (hl:ys.length≤i) (hi:i≤999) (s5:Same Hi H5)
  (r:R (i+1) (ys++[v]) (upd H5 D (.lst (ys++[v])))):∃zs,H5 D=some (.lst zs)∧zs.length<sizeLine∧vZ H D caps R (i+1) (c::caps) (upd H5 D (.lst (zs++[v]))):=by
 refine ⟨ys,s5 _ _ hY,vI (by omega),ys++[v],c,rfl,kU hD (s.trans s5),jD,?_,r⟩
 rw [List.length_append,List.length_singleton];omega
theorem Z7 {H Hi H4:Hp} {D:Addr} {caps:St} {R:Nat→List V→Hp→Prop} {i:Nat} {ys:List V} {c:Option V} (s:Same H Hi) (hY:Hi D=some (.lst ys)) (hl:ys.length≤i) (s4:Same Hi H4) (r:R (i+1) ys H4) :
  vZ H D caps R (i+1) (c::caps) H4:=⟨ys,c,rfl,s.trans s4,s4 _ _ hY,by omega,r⟩
theorem qT {K:PySem.W.Frag} {a D:Addr} {xs:List V} {tc:TT} {te:TE} {caps:St} {H:Hp} {Q:Hp→Prop} (R:Nat→List V→Hp→Prop) (hD:H D=none) (hS:SqL K H a xs) (h0:R 0 [] (upd H D (.lst [])))
  (hs:∀i x ys Hi,xs[i]?=some x→i<xs.length→ys.length≤i→Same H Hi→Hi D=some (.lst ys)→R i ys Hi→tc (some x::caps) Hi fun b H4=>if b=true then te (some x::caps) H4 fun v H5=>∃zs,H5 D=some (.lst zs)∧zs.length<sizeLine∧vZ H D caps R (i+1) (some x::caps) (upd H5 D (.lst (zs++[v])))
   else vZ H D caps R (i+1) (some x::caps) H4)
  (hd:∀ys Hf,Same H Hf→Hf D=some (.lst ys)→ys.length≤xs.length→R xs.length ys Hf→Q Hf):y6 D (QR K a) (bU 0) tc te (none::caps) H Q:=by
 refine BU (xs:=xs) (vZ H D caps R) ⟨[],none,rfl,kU hD (Same.refl H),jD,Nat.le_refl _,h0⟩ (fun i σ Hi _ ⟨_,_,_,s,_⟩=>s.seq hS) ?_ ?_
 ·rintro i x σ Hi hx ⟨ys,c,rfl,s,hY,hl,r⟩
  exact hs i x ys Hi hx (List.getElem?_eq_some_iff.mp hx).1 hl s hY r
 ·rintro σ Hf ⟨ys,c,rfl,s,hY,hl,r⟩
  exact hd ys Hf s hY hl r
theorem BP {lo:Int} {n:Nat} {D:Addr} {tc:TT} {te:TE} {caps:St} {H:Hp} {Q:Hp→Prop} (R:Nat→List V→Hp→Prop) (hD:H D=none) (h0:R 0 [] (upd H D (.lst [])))
  (hs:∀i ys Hi,i<n→ys.length≤i→Same H Hi→Hi D=some (.lst ys)→R i ys Hi→tc (some (.int (lo+i))::caps) Hi fun b H4=>if b=true then te (some (.int (lo+i))::caps) H4 fun v H5=>∃zs,H5 D=some (.lst zs)∧zs.length<sizeLine∧vZ H D caps R (i+1) (some (.int (lo+i))::caps) (upd H5 D (.lst (zs++[v])))
   else vZ H D caps R (i+1) (some (.int (lo+i))::caps) H4)
  (hd:∀ys Hf,Same H Hf→Hf D=some (.lst ys)→ys.length≤n→R n ys Hf→Q Hf):y6 D (JS lo n) (bU 0) tc te (none::caps) H Q:=by
 refine BJ (vZ H D caps R) ⟨[],none,rfl,kU hD (Same.refl H),jD,Nat.le_refl _,h0⟩ ?_ ?_
 ·rintro i σ Hi hi ⟨ys,c,rfl,s,hY,hl,r⟩
  exact hs i ys Hi hi hl s hY r
 ·rintro σ Hf ⟨ys,c,rfl,s,hY,hl,r⟩
  exact hd ys Hf s hY hl r
def LD:V→Option Value
 |.ty n=>some (.type n)
 |.ref a=>some (.ref a)
 |_=>none
section
variable {X:Cx}
def K0 (K:PySem.W.Frag):List V→Hp→VK→Prop:=fun xs H Q=>∃(x c:V) (t u:Value) (b:Bool),xs=[x,c]∧LD c=some u∧TyOf K H x t∧PySem.W.kitOne K t u=some b∧Q (.bl b) H
theorem vV:CallR X (.builtin "isinstance") (K0 X.K):=by
 intro pins s σ H xs us Q I r h
 obtain ⟨x,c,t,u,b,rfl,hc,ty,e,q⟩:=h
 obtain ⟨u1,u2,rfl,r1,r2⟩:=lJ r
 have e2:u2=u:=by
  cases c with
  |ty n=>cases (show u2=Value.type n from r2);exact Option.some.inj hc
  |ref a=>cases (show u2=Value.ref a from r2);exact Option.some.inj hc
  |_=>cases hc
 subst e2
 exact DR I r1 ty e fun tk=>⟨.bl b,H,I.tok _,rfl,q⟩
end
theorem yS {K:PySem.W.Frag} (n:String):PySem.W.kitOne K (.type n) (.type n)=some true:=by
 unfold PySem.W.kitOne
 rw [if_pos (beq_self_eq_true _)]
theorem BF {K:PySem.W.Frag}:PySem.W.kitOne K (.type "int") (.type "bool")=some false:=by kernel_rfl
def vM (xs ys:List V):Bool:=(List.range (min xs.length ys.length)).all (fun j=>vH (xs.getD j .non) (ys.getD j .non))&&xs.length == ys.length
theorem FG {x:V} (h:qY x=true):vH x x=true:=by
 cases x with
 |non=>rfl
 |bl b=>show (b == b)=true;simp
 |int i=>show (i == i)=true;simp
 |str z=>show (z == z)=true;simp
 |_=>exact absurd (show false=true from h) Bool.false_ne_true
theorem FF {xs:List V} (h:xs.all qY=true):vM xs xs=true:=by
 unfold vM
 rw [Bool.and_eq_true]
 refine ⟨?_,by simp⟩
 rw [List.all_eq_true]
 intro j hj
 have hj':j<xs.length:=by simpa using hj
 refine FG ?_
 rw [List.getD_eq_getElem?_getD,List.getElem?_eq_getElem hj']
 exact List.all_eq_true.mp h _ (List.getElem_mem hj')
theorem JC {xs:List V} {us:List Value} (r:Vals xs us) {j:Nat} (h:j<us.toArray.size):RelV (xs.getD j .non) us.toArray[j]:=by
 have hj:j<us.length:=by simpa using h
 have hx:j<xs.length:=by rw [r.length];exact hj
 obtain ⟨u,e,q⟩:=r.get (List.getElem?_eq_getElem hx)
 rw [List.getElem?_eq_getElem hj] at e
 have e':=Option.some.inj e
 rw [List.getD_eq_getElem?_getD,List.getElem?_eq_getElem hx]
 show RelV xs[j] us.toArray[j]
 rw [List.getElem_toArray,e']
 exact q
theorem JD {xs:List V} (h:xs.all qY=true) {j:Nat} (hj:j<xs.length):qY (xs.getD j .non)=true:=by
 rw [List.getD_eq_getElem?_getD,List.getElem?_eq_getElem hj]
 exact List.all_eq_true.mp h _ (List.getElem_mem hj)
section
variable {X:Cx}
def tR (K:PySem.W.Frag) (neg:Bool):R2:=fun x y H Q=>∃a b xs ys,x=.ref a∧y=.ref b∧SqT K H a xs∧SqT K H b ys∧xs.all qY=true∧ys.all qY=true∧Q (.bl (if neg then !vM xs ys else vM xs ys)) H
theorem HM (hu:X.A.units<cLine):OpR X (compareOp .NotEq) (tR X.K true):=by
 intro pins s σ H x y v u Q I rx ry h
 obtain ⟨a,b,xs,ys,rfl,rfl,ha,hb,fx,fy,q⟩:=h
 cases rx
 cases ry
 obtain ⟨its,r,pl,hz⟩:=I.tuple ha
 obtain ⟨its2,r2,pl2,hz2⟩:=I.tuple hb
 have hl:=r.length
 have hl2:=r2.length
 refine SeqAt.RcNeAt.tuples (e:=fun j=>vH (xs.getD j .non) (ys.getD j .non)) pl pl2 hu (fun j h1 h2=>?_) X.prog X.w X.xe _ ⟨.bl _,H,I,rfl,?_⟩
 ·exact bM (JC r h1) (JC r2 h2) (JD fx (by rw [hl];simpa using h1)) (JD fy (by rw [hl2];simpa using h2))
 ·have e:(!((List.range (min its.toArray.size its2.toArray.size)).all (fun j=>vH (xs.getD j .non) (ys.getD j .non))&&its.toArray.size == its2.toArray.size)) = !vM xs ys:=by
   unfold vM
   rw [List.size_toArray,List.size_toArray,← hl,← hl2]
  rw [e]
  exact q
end
end L2
namespace L2
open PySem PySem.Spec PyProof.Rows
section
variable {X:Cx}
end
end L2
namespace L2
open PySem PySem.Spec PyProof.Rows
section
variable {X:Cx} (K:PySem.W.Frag)
theorem iS (h:X.K=K:=by rfl):IxR X (fQ K):=by subst h;exact jN
theorem i8 (h:X.K=K:=by rfl):IxR X (lS K):=by subst h;exact ix_tup
theorem AX (h:X.K=K:=by rfl):CallR X (.builtin "len") (fun xs H Q=>∃p ys,xs=[.ref p]∧(SqL K H p ys∨SqT K H p ys)∧Q (.int ys.length) H):=by subst h;exact kQ
end
end L2
namespace L2
open PySem PySem.Spec PyProof.Rows
section
variable {X:Cx}
end
end L2
namespace L2
open PySem PySem.Spec PyProof.Rows
section
variable {X:Cx}
def KP (t u:TS):TS:=fun D σ H=>∃P:St→Hp→Prop,t {D with nx:=P} σ H∧∀σ' H',P σ' H'→u D σ' H'
theorem v6 {st:Stmt} {rest:List Stmt} {t u:TS} (h1:PS X st t) (h2:PSs X rest u):PSs X (st::rest) (KP t u):=by
 intro pins s σ H D I h
 obtain ⟨P,hP,hu⟩:=h
 refine wpAny_execs_cons (jL (h1 pins s σ H {D with nx:=P} I hP) fun f s1 q=>?_)
 cases f with
 |next =>
  obtain ⟨σ',H',I',q⟩:=q
  exact h2 pins s1 σ' H' D I' (hu σ' H' q)
 |ret v=>exact q
 |brk=>exact q
 |cont=>exact q
end
end L2
namespace L2
open PySem PySem.Spec PyProof.Rows
structure Def (P:Program) (w:World) (K:PySem.W.Frag) (mg:Str→Option Value) (base:Heap) (k:Nat) (x:Str) (ps:List Str) (dvs:List V) (sp:Sp):Prop where
 ex:∃(f:Addr) (fd:FuncData) (ds:List Value),FnOk P w K mg base jP k f fd ps sp∧mg x=some (.ref f)∧PySem.W.keepIn K (.ref f)=true∧Vals dvs ds∧Binds K fd ps ds
theorem jU {X:Cx} {k k':Nat} {x:Str} {ps:List Str} {dvs:List V} {sp:Sp} {p pos:Pos} {e:Expr} {es:List Expr} {t:TA} (F:Def X.prog X.w X.K X.mg X.base k x ps dvs sp) (hr:Room k' X.A) (hg:Gl X x) (ha:PA X (e::es) t)
  (hk:k≤k':=by decide) (hdb:(x == ("__debug__":Str))=false:=by decide) (he:starEach (e::es) X.env=(false,eval e X.env)::starEach es X.env:=by rfl) (hpl:(backTo pos (starEach es X.env)).any (·.1)=false:=by rfl) :
  PE X (.Call (.Name x p) (e::es) [] pos) (lK sp dvs E0 t):=by
 obtain ⟨f,fd,ds,G,m,kp,hv,b⟩:=F.ex
 exact GD G (hr.mono hk) hg m kp b hv dD ha hdb he hpl
structure FunD (K:PySem.W.Frag) (x qual:Str) (st:Stmt) (f:Addr) (fd:FuncData) (ds:List Value):Prop where
 ex:∃(oc:Value) (od:Option Addr) (T:Addr) (kV doc pm:Value) (an:Option Addr) (cdv ct:Value) (osl:Array (Option Value)) (oT:Obj) (n:Nat),
  fd=PySem.W.fnOf x qual (jS st) (jQ st) (jE st) (.ref T) kV doc pm an cdv ct∧K.lookup f=some ⟨oc,od,.func fd,osl⟩∧PySem.W.codeIn K cdv qual=true∧K.lookup T=some oT∧oT.data=.seq ds.toArray n
 kp:PySem.W.keepIn K (.ref f)=true
section
variable {P:Program} {w:World} {K:PySem.W.Frag} {mg:Str→Option Value} {base:Heap}
theorem FunD.ok {x qual:Str} {st:Stmt} {f:Addr} {fd:FuncData} {ds:List Value} {N ps:List Str} {k:Nat} {sp:Sp} (F:FunD K x qual st f fd ds) (S:FnScope N ps (jE st)) (len:∀vs H Q E,sp vs H Q E→vs.length=ps.length)
  (hbody:∀(cdv:Value) (A:Around) (outer:List Env) (s:Shared) (H:Hp) (vs:List V) (Q:VK) (E:XK),Room k (A.deeper (envOfC qual (jE st) s.heap.objs.size f cdv))→sp vs H Q E→
   ∃t,PSs (QM jP P w K mg base N qual (jE st) f cdv A outer s H E).nox (jQ st) t∧t {nx:=fun _ H'=>Q .non H',rt:=Q} (start N vs) H):FnOk P w K mg base jP (k+1) f fd ps sp:=by
 obtain ⟨oc,od,T,kV,doc,pm,an,cdv,ct,osl,oT,n,rfl,lk,hcd,_,_⟩:=F.ex
 refine tG lk hcd S len fun A outer s H vs Q E hr hsp=>?_
 obtain ⟨t,h,q⟩:=hbody cdv A outer s H vs Q E hr hsp
 exact ⟨t,h.nox,q⟩
theorem FunD.binds {x qual:Str} {st:Stmt} {f:Addr} {fd:FuncData} {ds:List Value} {ps:List Str} (ds':List Value) (m:Nat) (hm:m+ds'.length=ps.length) (F:FunD K x qual st f fd ds)
  (h:∀(T:Addr) (kV doc pm:Value) (an:Option Addr) (cdv ct:Value) (us:List Value),us.length=m→∃k,bindArgs (PySem.W.fnOf x qual (jS st) (jQ st) (jE st) (.ref T) kV doc pm an cdv ct) ⟨us,[]⟩=seqItems? (.ref T) >>= k∧
   k (some ds.toArray)=pure (ps.zip (us++ds'))):Binds K fd ps ds':=by
 obtain ⟨oc,od,T,kV,doc,pm,an,cdv,ct,osl,oT,n,rfl,lk,hcd,lT,dT⟩:=F.ex
 intro s us hK hl
 obtain ⟨k,h1,h2⟩:=h T kV doc pm an cdv ct us (by rw [List.length_append] at hl;omega)
 exact BindsTo.of_defaults rfl (hK _ _ lT) dT h1 h2
theorem GR {x qual:Str} {st:Stmt} {f T:Addr} {oc:Value} {od an:Option Addr} {osl:Array (Option Value)} {kV doc pm cdv ct:Value} {oT:Obj} {n:Nat} {ds:List Value}
  (l:K.lookup f=some ⟨oc,od,.func (PySem.W.fnOf x qual (jS st) (jQ st) (jE st) (.ref T) kV doc pm an cdv ct),osl⟩)
  (c:PySem.W.codeIn K cdv qual=true) (k:PySem.W.keepIn K (.ref f)=true) (lT:K.lookup T=some oT) (dT:oT.data=.seq ds.toArray n):FunD K x qual st f (PySem.W.fnOf x qual (jS st) (jQ st) (jE st) (.ref T) kV doc pm an cdv ct) ds :=
 ⟨⟨oc,od,T,kV,doc,pm,an,cdv,ct,osl,oT,n,rfl,l,c,lT,dT⟩,k⟩
end
section
variable {X:Cx}
theorem iT:tW X (fQ X.K):=by
 intro pins s σ H o i ov iv Q I ro ri h
 obtain ⟨p,xs,k,z,rfl,rfl,hq,he,q⟩:=h
 cases ro
 obtain ⟨t,rfl⟩:=ri
 obtain ⟨its,r,pl,hz⟩:=I.list hq
 obtain ⟨j,h1,h2,h3,h4,h5⟩:=e8 he
 obtain ⟨w,ew,rw'⟩:=r.get h2
 have hl:=r.length
 have hn:=JL
 have fin:EP X pins σ Q w s:=⟨z,H,I,rw',q⟩
 by_cases h0:0≤k
 ·have hj:k.toNat=j:=by
   rw [seqIndex_of h0 h5] at h1
   exact Option.some.inj h1
  exact wpAny_getItem_list pl.isList h0 (by omega) (by rw [hj];simpa using ew) fin
 ·have hj:(k+(its.toArray.size:Int)).toNat=j:=by
   rw [seqIndex_neg (by omega) h4] at h1
   rw [List.size_toArray,← hl]
   exact Option.some.inj h1
  exact wpAny_getItem_list_neg pl.isList (by omega) (by rw [List.size_toArray]<;>omega) (by omega) (by rw [hj];simpa using ew) fin
end
end L2
namespace L2
open PySem
theorem QJ {c A B:Prop} [Decidable c] (hc:¬c) (h:A):if (!decide c)=true then A else B:=by
 rw [decide_eq_false hc]
 exact qM h
theorem kJ {c A B:Prop} [Decidable c] (hc:¬c) (h:B):if decide c=true then A else B:=by
 rw [decide_eq_false hc]
 exact kX h
theorem kM {c A B:Prop} [Decidable c] (hc:c) (h:A):if decide c=true then A else B:=by
 rw [decide_eq_true hc]
 exact qM h
end L2
namespace L2
open PySem PySem.Spec PyProof.Rows
end L2
namespace L2
open PySem PySem.Spec PyProof.Rows
structure MkD (P:Program) (w:World) (K:PySem.W.Frag) (mg:Str→Option Value) (base:Heap) (k:Nat) (x:Str) (C:Addr) (ps:List Str) (sp:Sp):Prop where
 ex:mg x=some (.ref C)∧∃(f:Addr) (fd:FuncData),Mk K C f∧FnOk P w K mg base jP k f fd ps sp∧Binds K fd ps []
structure MeD (P:Program) (w:World) (K:PySem.W.Frag) (mg:Str→Option Value) (base:Heap) (k:Nat) (C:Addr) (m:Str) (ps:List Str) (sp:Sp):Prop where
 ex:Cls K C∧∃(f:Addr) (fd:FuncData),Meth K C m f∧FnOk P w K mg base jP k f fd ps sp∧Binds K fd ps []
section
variable {X:Cx} {k k':Nat} {x m:Str} {C:Addr} {ps:List Str} {sp:Sp} {p pos apos:Pos} {o e:Expr} {es:List Expr} {ta:TE} {t:TA}
theorem dC (M:MkD X.prog X.w X.K X.mg X.base k x C ps sp) (hr:Room k' X.A) (hg:Gl X x) (ha:PA X (e::es) t)
  (hk:k+1≤k':=by decide) (hdb:(x == ("__debug__":Str))=false:=by decide) (he:starEach (e::es) X.env=(false,eval e X.env)::starEach es X.env:=by rfl) (hpl:(backTo pos (starEach es X.env)).any (·.1)=false:=by rfl) :
  PE X (.Call (.Name x p) (e::es) [] pos) (sX C sp [] E0 t):=by
 obtain ⟨hm,f,fd,M,G,b⟩:=M.ex
 exact GC M G (hr.mono hk) hg hm b .nil dD ha hdb he hpl
theorem QI {pl:Sem Bool} (M:MeD X.prog X.w X.K X.mg X.base k C m ps sp) (hr:Room k' X.A) (ho:PE X o ta) (hk:k≤k':=by decide)
  (ht:eval (.Call (.Attribute o m apos) [] [] pos) X.env=(do
   let ov ← eval o X.env
   standAt apos.atName
   let (f,first) ← holding [ov] (getMethod ov m pl)
   callWith pos f first (backTo pos (starEach [] X.env)) (backToKw pos (keywordEach [] X.env))):=by rfl) :
  PE X (.Call (.Attribute o m apos) [] [] pos) (sW C m sp [] E0 ta fP):=by
 obtain ⟨c,f,fd,M,G,b⟩:=M.ex
 exact EV (pl:=pl) ho c M G (hr.mono hk) b .nil dD ht
end
end L2
namespace L2
open PySem PySem.Spec PyProof.Rows
structure ClsM (K:PySem.W.Frag) (C:Addr) (m:Str) (f:Addr):Prop where
 sp:PySem.W.specialIn K (.ref C) "__getattribute__"=some (some (.builtin "type.__getattribute__"))
 rd:PySem.W.readsIn K C (.type "type")=true
 fc:PySem.W.findCls K (.ref C) (.type "type") m=some (.val (.ref f))
 kp:PySem.W.keepIn K (.ref f)=true
structure CmD (P:Program) (w:World) (K:PySem.W.Frag) (mg:Str→Option Value) (base:Heap) (k:Nat) (x:Str) (C:Addr) (m:Str) (ps:List Str) (sp:Sp):Prop where
 ex:mg x=some (.ref C)∧∃(f:Addr) (fd:FuncData),ClsM K C m f∧FnOk P w K mg base jP k f fd ps sp∧Binds K fd ps []
theorem rN {X:Cx} {k k':Nat} {x m:Str} {C:Addr} {ps:List Str} {sp:Sp} {p pos apos:Pos} {e:Expr} {es:List Expr} {t:TA} {pl:Sem Bool} (M:CmD X.prog X.w X.K X.mg X.base k x C m ps sp) (hr:Room k' X.A) (hg:Gl X x) (ha:PA X (e::es) t) (hk:k≤k':=by decide)
  (hdb:(x == ("__debug__":Str))=false:=by decide) (hst:starEach (e::es) X.env=(false,eval e X.env)::starEach es X.env:=by rfl) (hpl:(backTo pos (starEach es X.env)).any (·.1)=false:=by rfl)
  (ht:eval (.Call (.Attribute (.Name x p) m apos) (e::es) [] pos) X.env=(do
   let ov ← eval (.Name x p) X.env
   standAt apos.atName
   let (f,first) ← holding [ov] (getMethod ov m pl)
   callWith pos f first (backTo pos (starEach (e::es) X.env)) (backToKw pos (keywordEach [] X.env))):=by rfl) :
  PE X (.Call (.Attribute (.Name x p) m apos) (e::es) [] pos) (lK sp [] E0 t):=by
 obtain ⟨hm,f,fd,c,G,b⟩:=M.ex
 intro pins s σ H Q I h
 refine PySem.W.methodCall_KW (pl:=pl) (jL ((vW (v:=.ref C) hg hm rfl hdb:PE X (.Name x p) (tC (.ref C))) pins s σ H (fun v H1=>v=.ref C∧H1=H) I ⟨rfl,rfl⟩) fun u s1 ⟨v,H1,I1,rv,e1,e2⟩=>?_) ht
 subst e1 e2
 obtain rfl:u=Value.ref C:=rv
 refine PySem.W.method_cls I1.kIn c.sp (PySem.W.cls_value I1.kIn c.rd c.fc rfl ?_)
 have I2:=I1.tok (s1.toks+1)
 refine PySem.W.callWith_K (first:=[]) (h₀:=X.base) I.ok.mod.kin c.kp (jL (ha pos pins _ σ H1 _ I2 h) fun us s2 ⟨vs,H2,I3,r,q2⟩=>⟨I3.kIn,?_⟩) hst hpl
 exact fE (us:=us) (vs:=vs) G (hr.mono hk) b .nil dD I3 r q2
end L2
namespace L2
open PySem PySem.Spec PyProof.Rows
section
variable {X:Cx}
theorem BT {bs:List Bool} {its:List Value} (rv:Vals (bs.map V.bl) its) {i:Nat} {v:Value} (h:its.toArray[i]?=some v):v=Value.bool (bs.getD i true):=by
 have h':its[i]?=some v:=by simpa using h
 have hi:i<its.length:=(List.getElem?_eq_some_iff.mp h').1
 have hn:i<bs.length:=by have:=rv.length;rw [List.length_map] at this;omega
 obtain ⟨u,e,q⟩:=rv.get (x:=V.bl (bs.getD i true)) (i:=i) (by rw [List.getElem?_map,List.getElem?_eq_getElem hn,List.getD_eq_getElem?_getD,List.getElem?_eq_getElem hn];rfl)
 rw [h'] at e
 cases e
 exact q
theorem AQ (bs:List Bool):(List.range bs.length).all (fun i=>bs.getD i true)=bs.all id:=by
 rw [Bool.eq_iff_iff,List.all_eq_true,List.all_eq_true]
 constructor
 ·intro h x hx
  obtain ⟨i,hi,e⟩:=List.mem_iff_getElem.mp hx
  have:=h i (by simpa using hi)
  rw [List.getD_eq_getElem?_getD,List.getElem?_eq_getElem hi,e] at this
  exact this
 ·intro h i hi
  have hi':i<bs.length:=by simpa using hi
  rw [List.getD_eq_getElem?_getD,List.getElem?_eq_getElem hi']
  exact h _ (List.getElem_mem hi')
theorem o0 (hc:X.calm=true):CallR X (.builtin "all") (fun xs H Q=>∃(p:Addr) (bs:List Bool),xs=[.ref p]∧SqL X.K H p (bs.map V.bl)∧Q (.bl (bs.all id)) H):=by
 intro pins s σ H xs us Q I r h
 obtain ⟨p,bs,rfl,hq,q⟩:=h
 obtain ⟨u,rfl,rx⟩:=JM r
 cases rx
 obtain ⟨its,rv,pl,hz⟩:=I.list hq
 have hlen:=rv.length
 rw [List.length_map] at hlen
 have hp:p<s.heap.objs.size:=by obtain ⟨o,n,e,_⟩:=pl;exact Heap.lt_size e
 refine call_all_walk (wpAny_pyIter_list pl.isList ?_)
 refine ⟨s.heap.objs.size,_,_,_,_,_,fun i=>bs.getD i true,rfl,Walks.list (A:=X.A.in1) (I.ok.hd hc) s.heap.objs.size p (Nat.ne_of_lt hp) its.toArray,⟨⟨_,Heap.get?_push_size _ rfl,rfl,rfl⟩,pl.isList.at fun o e=>Heap.get?_push_of_some _ e⟩,fun i v s' Q' E' h hQ=>?_,fun h' tk hk=>?_⟩
 ·rw [BT rv h]
  exact wpAny_truthy_bool hQ
 ·rw [List.size_toArray,← hlen,AQ]
  refine ⟨.bl (bs.all id),H,I.kept (t':=tk) fun b o e=>hk b o (fun hb=>?_) (Heap.get?_push_of_some _ e),rfl,q⟩
  have e':b=s.heap.objs.size:=by simpa using hb
  exact absurd (Heap.lt_size e) (by rw [e'];exact Nat.lt_irrefl _)
end
end L2
namespace L2
open PySem PySem.Spec PyProof.Rows
def lV (p:Addr) (a b c:Int):HO:=.ext fun h=>∃t u v,IsRange h p a b c t u v
section
variable {X:Cx}
theorem BQ:CallR X (.type "range") (fun xs H Q=>∃a b c:Int,xs=[.int a,.int b,.int c]∧c≠0∧c.natAbs<1073741824∧∀p,H p=none→Q (.ref p) (upd H p (lV p a b c))):=by
 intro pins s σ H xs us Q I r h
 obtain ⟨a,b,c,rfl,hc,hs,q⟩:=h
 cases r with
 |cons r1 r2 =>
  cases r2 with
  |cons r3 r4 =>
   cases r4 with
   |cons r5 r6 =>
    cases r6
    obtain ⟨t,rfl⟩:=r1
    obtain ⟨u,rfl⟩:=r3
    obtain ⟨v,rfl⟩:=r5
    refine call_range_3 hc ?_ (.inl (PyProof.noPylong_small hs))
    refine ⟨.ref s.heap.objs.size,_,I.laid (t':=s.toks) (o:=lV s.heap.objs.size a b c) (fun b o e=>Heap.get?_push_of_some _ e) (Nat.le_refl _) ?_,rfl,q _ (I.hok.fresh (Nat.le_refl _))⟩
    exact ⟨⟨t,u,v,Heap.get?_push_size _ rfl⟩,⟨_,Heap.get?_push_size _ rfl⟩,fun h1 h2 ⟨t,u,v,e⟩ k=>⟨t,u,v,k _ e⟩⟩
theorem mJ {f:Nat→Int}:∀{n:Nat} {acc:List Value},acc.length=n→(∀i v,acc[i]?=some v→∃t,v=Value.int (f i) t)→Vals ((List.range n).map fun (i:Nat)=>V.int (f i)) acc
 |0,acc,hl,h=>by
  cases acc with
  |nil=>exact .nil
  |cons x r=>cases hl
 |n+1,acc,hl,h=>by
  obtain ⟨init,last,rfl⟩:∃init last,acc=init++[last]:=by
   have hne:acc≠[]:=by intro e;rw [e] at hl;cases hl
   exact ⟨acc.dropLast,acc.getLast hne,(List.dropLast_concat_getLast hne).symm⟩
  rw [List.length_append,List.length_singleton] at hl
  have hi:init.length=n:=by omega
  rw [List.range_succ,List.map_append]
  refine Vals.append (mJ hi fun i v e=>h i v ?_) (.cons ?_ .nil)
  ·rw [List.getElem?_append_left (List.getElem?_eq_some_iff.mp e).1]
   exact e
  ·exact h n last (by rw [List.getElem?_append_right (by omega),hi,Nat.sub_self];rfl)
theorem AV (hc:X.calm=true):CallR X (.type "list") (fun xs H Q=>∃(p:Addr) (a b c:Int) (n:Nat),xs=[.ref p]∧H p=some (lV p a b c)∧Builtin.Range.small a b c=true∧Builtin.Range.rangeSize a b c=n∧n≤1000∧
  ∀l,H l=none→Q (.ref l) (upd H l (.lst ((List.range n).map fun (i:Nat)=>V.int (a+(i:Int)*c))))):=by
 intro pins s σ H xs us Q I r h
 obtain ⟨p,a,b,c,n,rfl,hp,hsm,hn,hz,q⟩:=h
 obtain ⟨u,rfl,rx⟩:=JM r
 cases rx
 obtain ⟨⟨t,u,v,e⟩,_,_⟩:=I.hok p _ hp
 refine call_list_range (I.ok.hd hc) e hsm hn (by omega) fun h' tk acc' c' hk hS' hacc=>?_
 have hl:acc'.toList.length=n:=by have:=hacc.1;simpa using this
 refine ⟨.ref s.heap.objs.size,_,I.laid (t':=tk) (o:=.lst ((List.range n).map fun (i:Nat)=>V.int (a+(i:Int)*c))) hk (Nat.le_refl _) ?_,rfl,q _ (I.hok.fresh (Nat.le_refl _))⟩
 refine ⟨by rw [List.length_map,List.length_range];exact Nat.le_of_lt (vI hz),acc'.toList,c',mJ hl fun i v e=>hacc.2 i v (by simpa using e),by simpa using hS'⟩
end
end L2
namespace L2
open PySem PySem.Spec PyProof.Rows
def yG (n:Nat):List Nat:=(List.range n).reverse
theorem CO (n:Nat):((List.range n).map fun (i:Nat)=>V.int (((n:Int) - 1)+(i:Int) * -1))=(yG n).map fun (i:Nat)=>V.int (i:Int):=by
 apply List.ext_getElem?
 intro k
 unfold yG
 rw [List.getElem?_map,List.getElem?_map]
 by_cases hk:k<n
 ·rw [List.getElem?_range hk,List.getElem?_reverse (by simpa using hk),List.length_range,List.getElem?_range (by omega)]
  show some (V.int ((n:Int) - 1+(k:Int) * -1))=some (V.int ((n - 1 - k:Nat):Int))
  congr 2
  omega
 ·rw [List.getElem?_eq_none (by simp;omega),List.getElem?_eq_none (by simp;omega)]
  rfl
theorem oW (n:Nat):Builtin.Range.rangeSize ((n:Int) - 1) (-1) (-1)=n:=by
 unfold Builtin.Range.rangeSize
 rw [if_neg (by decide)]
 by_cases h:(n:Int) - 1 > -1
 ·rw [if_pos h]
  have e:((n:Int) - 1 - -1 - 1) / (- (-1:Int))=(n:Int) - 1:=by
   have e1:(-(-1:Int))=1:=rfl
   rw [e1,Int.ediv_one]
   omega
  rw [e]
  omega
 ·rw [if_neg h]
  omega
theorem CP {n:Nat} (h:n≤1000):Builtin.Range.small ((n:Int) - 1) (-1) (-1)=true:=by
 unfold Builtin.Range.small
 rw [oW]
 simp only [Builtin.Range.rangeFitsLong,Bool.and_eq_true,Bool.or_eq_true,decide_eq_true_eq,beq_iff_eq]
 simp
 omega
end L2
namespace L2
open PySem PySem.Spec PyProof.Rows
section
variable {P:Program} {w:World} {H:Hp} {h h':Heap} {a:Addr} {o:HO}
theorem ObjOk.there (x:ObjOk P w H h a o):∃u,h.get? a=some u:=by
 cases o with
 |lst xs=>obtain ⟨_,_,_,_,e⟩:=x;exact ⟨_,e⟩
 |tup xs=>obtain ⟨_,_,_,o,e,_⟩:=x;exact ⟨_,e⟩
 |dK kvs=>obtain ⟨_,_,_,_,o,_,_,e,_⟩:=x;exact ⟨_,e⟩
 |dT kvs=>obtain ⟨_,_,_,_,o,_,_,e,_⟩:=x;exact ⟨_,e⟩
 |set S n=>obtain ⟨o,_,_,_,e,_⟩:=x;exact ⟨_,e⟩
 |ins C dx fs=>obtain ⟨_,_,_,e,_⟩:=x;exact ⟨_,e⟩
 |own y=>obtain ⟨_,e⟩:=x;exact ⟨_,e⟩
 |xd fs=>obtain ⟨_,⟨_,_,_,e,_⟩,_⟩:=x;exact ⟨_,e⟩
 |rng lo hi=>obtain ⟨_,_,_,e⟩:=x;exact ⟨_,e⟩
 |frz ob u=>obtain ⟨e,_⟩:=x;exact ⟨_,e⟩
 |tbl ps=>exact ⟨_,(show h.get? a=some _ from x)⟩
 |met f y=>exact ⟨_,(show h.get? a=some _ from x)⟩
 |ext φ=>obtain ⟨_,e,_⟩:=x;exact e
theorem HOk.there (x:HOk P w H h) (e:H a=some o):∃u,h.get? a=some u:=(x a o e).there
end
end L2
namespace L2
open PySem PySem.Spec PyProof.Rows
section
variable {X:Cx} {R:St→Value→Hp→Prop} {x:Str} {C:Addr} {np cpos pos p:Pos} {e:Expr} {es:List Expr} {t:TA}
end
section
variable {X:Cx} {pins pins':List (Addr×Obj)} {σ:St} {H:Hp} {s:Shared} {R:St→Value→Hp→Prop}
end
section
variable {X:Cx} {pins:List (Addr×Obj)} {σ:St} {H:Hp} {s:Shared} {e:Value}
end
end L2
namespace L2
open PySem PySem.Spec PyProof.Rows
section
variable {P:Program} {w:World} {K:PySem.W.Frag} {mg:Str→Option Value} {base:Heap}
end
section
variable {X:Cx}
end
end L2
namespace L2
open PySem PySem.Spec PyProof.Rows
section
variable {X:Cx} {pins:List (Addr×Obj)} {σ:St} {H:Hp} {s:Shared}
end
end L2
namespace L2
open PySem PySem.Spec PySem.Calls PyProof.Rows PySem.W
section
variable {prog:Program} {w:World} {A:Around} {E:Value→Shared→Prop} {h:Heap} {g:Array GenState} {d:Drawn} {t:Nat} {os:OsState} {a C:Addr} {o:Obj} {K:PySem.W.Frag}
end
section
variable {X:Cx}
end
end L2
namespace L2
open PySem PySem.Spec PyProof.Rows
end L2
namespace L2
open PySem PySem.Spec PyProof.Rows
section
variable {X:Cx} {x:Str} {C:Addr} {pos p:Pos} {e:Expr} {es:List Expr} {t:TA}
end
end L2
namespace L2
open PySem PySem.Spec PyProof.Rows
section
variable {X:Cx}
end
end L2
namespace L2
open PySem PySem.Spec PyProof.Rows
section
variable {X:Cx} {R:St→Value→Hp→Prop} {k k':Nat} {x m:Str} {C:Addr} {ps:List Str} {sp:Sp} {p pos apos:Pos} {o e:Expr} {es:List Expr} {ta:TE} {t:TA}
end
end L2
namespace L2
open PySem PySem.Spec PyProof.Rows
section
variable {κ:Type} [DecidableEq κ]
def fO (kvs:List (κ×V)) (k:κ):Option V:=(kvs.find? fun kv=>decide (kv.1=k)).map (·.2)
def fR (kvs:List (κ×V)) (k:κ) (v:V):List (κ×V) :=
 if (kvs.any fun kv=>decide (kv.1=k))=true then kvs.map (fun kv=>if kv.1=k then (kv.1,v) else kv) else kvs++[(k,v)]
def tH (kvs:List (κ×V)) (k:κ):List (κ×V):=kvs.filter fun kv=>decide (kv.1≠k)
theorem RelO.getD {o:Option V} {u:Option Value} {d:V} {d':Value} (r:RelO o u) (rd:RelV d d'):RelV (o.getD d) (u.getD d'):=by
 cases o with
 |none=>cases u with
  |none=>exact rd
  |some _=>exact (show False from r).elim
 |some _=>cases u with
  |none=>exact (show False from r).elim
  |some _=>exact r
theorem KV.any {kvs:List (κ×V)} {vs:List (κ×Value)} (r:KV kvs vs) (k:κ):(kvs.any fun kv=>decide (kv.1=k))=vs.any fun kv=>decide (kv.1=k):=by
 unfold KV at r
 induction r with
 |nil=>rfl
 |cons h t ih=>rw [List.any_cons,List.any_cons,ih,h.1]
theorem KV.drop {kvs:List (κ×V)} {vs:List (κ×Value)} (r:KV kvs vs) (k:κ):KV (tH kvs k) (without vs k):=by
  unfold KV at r ⊢
  unfold tH without
  induction r with
  |nil=>exact .nil
  |@cons p q ps qs h t ih =>
    obtain ⟨h1,h2⟩:=h
    rw [List.filter_cons,List.filter_cons]
    by_cases e:p.1=k
    · have a:¬decide (p.1≠k)=true:=by simp [e]
      have b:¬decide (q.1≠k)=true:=by simp [h1.symm.trans e]
      rw [if_neg a,if_neg b];exact ih
    · have e':¬q.1=k:=fun z=>e (h1.trans z)
      have a:decide (p.1≠k)=true:=by simp [e]
      have b:decide (q.1≠k)=true:=by simp [e']
      rw [if_pos a,if_pos b];exact .cons ⟨h1,h2⟩ ih
theorem KV.length {kvs:List (κ×V)} {vs:List (κ×Value)} (r:KV kvs vs):kvs.length=vs.length:=Paired.length r
end
section
variable {P:Program} {w:World} {H:Hp} {h:Heap} {a:Addr}
end
def DGet (H:Hp) (a:Addr) (y:V) (r:Option V):Prop :=
 (∃kvs k,Rd H a (.dK kvs)∧y=kV k∧r=fO kvs k)∨∃kvs k b,Rd H a (.dT kvs)∧y=.ref b∧H b=some (.tup (k.map kV))∧r=fO kvs k
def DPut (H:Hp) (a:Addr) (y v:V) (H':Hp):Prop :=
 (∃kvs k,H a=some (.dK kvs)∧y=kV k∧kvs.length<sizeLine∧H'=upd H a (.dK (fR kvs k v)))∨
 ∃kvs k b,H a=some (.dT kvs)∧y=.ref b∧H b=some (.tup (k.map kV))∧kvs.length<sizeLine∧H'=upd H a (.dT (fR kvs k v))
theorem DGet.k {H:Hp} {a:Addr} {kvs:List (qG×V)} {k:qG} (e:H a=some (.dK kvs)):DGet H a (kV k) (fO kvs k):=.inl ⟨kvs,k,.inl e,rfl,rfl⟩
theorem DGet.t {H:Hp} {a b:Addr} {kvs:List (List qG×V)} {k:List qG} (e:H a=some (.dT kvs)) (eb:H b=some (.tup (k.map kV))):DGet H a (.ref b) (fO kvs k):=.inr ⟨kvs,k,b,.inl e,rfl,eb,rfl⟩
theorem DPut.k {H:Hp} {a:Addr} {kvs:List (qG×V)} {k:qG} {v:V} (e:H a=some (.dK kvs)) (hl:kvs.length<sizeLine):DPut H a (kV k) v (upd H a (.dK (fR kvs k v))):=.inl ⟨kvs,k,e,rfl,hl,rfl⟩
theorem DPut.t {H:Hp} {a b:Addr} {kvs:List (List qG×V)} {k:List qG} {v:V} (e:H a=some (.dT kvs)) (eb:H b=some (.tup (k.map kV))) (hl:kvs.length<sizeLine) :
  DPut H a (.ref b) v (upd H a (.dT (fR kvs k v))):=.inr ⟨kvs,k,b,e,rfl,eb,hl,rfl⟩
section
variable {X:Cx} {pins:List (Addr×Obj)} {σ:St} {H:Hp} {s:Shared} {a:Addr} {y v:V} {u r:Value} {o:Option V} {A:Around} {E:Value→Shared→Prop}
end
section
variable {X:Cx} {pins:List (Addr×Obj)} {σ:St} {H:Hp} {s:Shared} {a:Addr} {kvs:List (qG×V)} {k:qG} {u:Value} {A:Around} {E:Value→Shared→Prop}
end
section
variable {X:Cx} {o i e value:Expr} {pos pos' tpos:Pos} {td ty tv:TE}
end
section
variable {X:Cx} {pos:Pos}
end
end L2
namespace L2
open PySem PySem.Spec PyProof.Rows
section
variable {X:Cx} {tg:Expr}
end
section
variable {X:Cx}
end
end L2
namespace L2
open PySem PySem.Spec PyProof.Rows
inductive Kd where
 |plain|basin|pump
structure MeK (P:Program) (w:World) (K:PySem.W.Frag) (mg:Str→Option Value) (base:Heap) (k:Nat) (cs:Kd→Addr) (m:Str) (ps:List Str) (ss:Kd→Sp):Prop where
 ex:∀kd,MeD P w K mg base k (cs kd) m ps (ss kd)
def G5 (cs:Kd→Addr) (m:Str) (ss:Kd→Sp) (ta:TE) (t:TA):TE:=fun σ H Q=>ta σ H fun x H1=>∃(kd:Kd) (a dx:Addr) (fs:List (Str×V)),x=.ref a∧H1 a=some (.ins (cs kd) dx fs)∧fs.lookup m=none∧
 t σ H1 fun vs H2=>ss kd (x::vs) H2 Q E0
section
variable {X:Cx} {k k':Nat} {x m:Str} {cs:Kd→Addr} {ps:List Str} {ss:Kd→Sp} {p pos apos:Pos} {o e:Expr} {es:List Expr} {ta:TE} {t:TA}
theorem JI {pl:Sem Bool} (M:MeK X.prog X.w X.K X.mg X.base k cs m ps ss) (hr:Room k' X.A) (ho:PE X o ta) (hk:k≤k':=by decide)
  (ht:eval (.Call (.Attribute o m apos) [] [] pos) X.env=(do
   let ov ← eval o X.env
   standAt apos.atName
   let (f,first) ← holding [ov] (getMethod ov m pl)
   callWith pos f first (backTo pos (starEach [] X.env)) (backToKw pos (keywordEach [] X.env))):=by rfl) :
  PE X (.Call (.Attribute o m apos) [] [] pos) (G5 cs m ss ta fP):=by
 intro pins s σ H Q I h
 refine PySem.W.methodCall_KW (pl:=pl) (jL (ho pins s σ H _ I h) fun u s1 ⟨x,H1,I1,rx,kd,a,dx,fs,ex,ea,l,q⟩=>?_) ht
 obtain ⟨c,f,fd,hm,G,b⟩:=(M.ex kd).ex
 subst ex
 obtain rfl:u=Value.ref a:=rx
 refine nR I1 ea c hm l ?_
 exact PySem.W.callWith_K0 (first:=[.ref a]) I1.kIn hm.kp (fE (us:=[.ref a]) (vs:=[.ref a]) (dvs:=[]) G (hr.mono hk) b .nil dD I1 (.cons rfl .nil) q)
end
end L2
namespace L2
open PySem PySem.Spec PyProof.Rows
def dR (z:Str):It:=⟨fun i _=>i<z.cps.size,fun i H v H'=>H'=H∧∃c,z.cps[i]?=some c∧v=.str ⟨#[c]⟩,fun i _=>i=z.cps.size⟩
theorem nW {P:Program} {w:World} {K:PySem.W.Frag} {tg:Expr} (it:Addr) (z:Str) (t:Tok) (T:String)
  (W:∀A:Around,A.handled=none→Walks P w A it [it] [it] z.cps.size (SignAt z) (fun i h=>h.IsStrIter it T z t i))
  (hn:["enumerate","zip","dict_itemiterator","dict_reverseitemiterator","odict_iterator","itertools.zip_longest","itertools.pairwise"].contains T=false)
  (hself:∀(A:Around) (i:Nat) (s:Shared) (Q:Value→Shared→Prop) (E:Value→Shared→Prop),s.heap.IsStrIter it T z t i→Q (.ref it) s→wpAny (model P w) A (pyIter (.ref it)) Q E s) :
  Turn P w K tg (dR z) [it] it (fun i h=>h.IsStrIter it T z t i) where
 mem:=by simp
 obj:=fun i h st b hb=>by
  have e:b=it:=by simpa using hb
  subst e
  obtain ⟨o,ho,_,hd⟩:=st
  exact ⟨o,ho,fun v q=>by rw [hd] at q;cases q⟩
 keep:=fun i h h' st k=>by
  obtain ⟨o,ho,r⟩:=st
  exact ⟨o,k it (by simp) o ho,r⟩
 item:=by
  intro X hP hw hK hc i pins s σ H E I hf st hg
  subst hP hw hK
  obtain ⟨f0,f1,f2,f3,f4,f5⟩:=hf it (by simp)
  refine (W X.A (I.ok.hd hc)).item i s _ _ hg st fun v h' tk hv st' kk=>?_
  obtain ⟨c,u,hcx,rfl⟩:=hv
  have I1:Inv X pins σ H {s with heap:=h',toks:=tk}:=I.turned (fun b o hb e=>kk b o (by simpa using hb) e) f0 f1 f3 f4 f5
  have st2:=st'
  obtain ⟨o,ho,hcl,hd⟩:=st2
  exact ⟨_,rfl,dH (s:={s with heap:=h',toks:=tk}) (n:=T) ho hcl hd hn ⟨.str ⟨#[c]⟩,H,I1,⟨u,rfl⟩,⟨rfl,c,hcx,rfl⟩,st',fun b hb=>(hf b hb).1⟩⟩
 done:=by
  intro X hP hw hK hc i pins s σ H E I hf st hg
  subst hP hw hK
  obtain ⟨f0,f1,f2,f3,f4,f5⟩:=hf it (by simp)
  have e:i=z.cps.size:=hg
  subst e
  exact (W X.A (I.ok.hd hc)).done s _ _ st fun h' tk eb=>⟨rfl,I.turned (fun b o hb e=>eb b o (by simpa using hb) e) f0 f1 f3 f4 f5⟩
 self:=fun A i s Q E st h=>hself A i s Q E st h
section
variable {X:Cx} {tg:Expr}
def K8 (tl:TE):TI:=fun σ H R=>tl σ H fun x H1=>∃z:Str,x=.str z∧R (dR z) H1
theorem HH {l:Expr} {tl:TE} (hl:PE X l tl):PI X tg l (K8 tl):=by
 intro pins s σ H R I h
 refine jL (hl pins s σ H _ I h) fun v s1 ⟨x,H1,I1,r1,q1⟩=>?_
 obtain ⟨z,e,q⟩:=q1
 subst e
 obtain ⟨t,rfl⟩:=r1
 have fin:∀(o:Obj) (T:String) (tn:Nat→Heap→Prop),Turn X.prog X.w X.K tg (dR z) [s1.heap.objs.size] s1.heap.objs.size tn→tn 0 (s1.heap.push o)→fZ X pins σ tg R (.ref s1.heap.objs.size) {s1 with heap:=s1.heap.push o}:=by
  intro o T tn tu h0
  refine ⟨s1.heap.objs.size,[s1.heap.objs.size],tn,_,H1,rfl,I1.kept (t':=s1.toks) fun b o e=>Heap.get?_push_of_some _ e,tu,h0,fun b hb=>?_,q⟩
  have e:b=s1.heap.objs.size:=by simpa using hb
  subst e
  exact I1.fpOk (Nat.le_refl _) (I1.hok.fresh (Nat.le_refl _))
 cases ha:z.cps.all (· < 128)
 ·exact wpAny_pyIter_wide ha (fin _ "str_iterator" _ (nW _ z t "str_iterator" (fun A hA=>Walks.strWide hA _ z t) (by decide) (fun A i s Q E st h=>wpAny_pyIter_striter_wide st h)) ⟨_,Heap.get?_push_size _ rfl,rfl,rfl⟩)
 ·exact wpAny_pyIter_ascii ha (fin _ "str_ascii_iterator" _ (nW _ z t "str_ascii_iterator" (fun A hA=>Walks.strAscii hA _ z t) (by decide) (fun A i s Q E st h=>wpAny_pyIter_striter_ascii st h)) ⟨_,Heap.get?_push_size _ rfl,rfl,rfl⟩)
end
theorem CZ {z:Str} {D:Addr} {g:TG} {tc:TT} {te:TE} {σ₀:St} {H:Hp} {Q:Hp→Prop} (Pv:Nat→St→Hp→Prop) (h0:Pv 0 σ₀ (upd H D (.lst [])))
  (hs:∀i c σ H,z.cps[i]?=some c→Pv i σ H→g (.str ⟨#[c]⟩) σ H fun σ2 H3=>tc σ2 H3 fun b H4=>if b=true then te σ2 H4 fun v H5=>∃ys,H5 D=some (.lst ys)∧ys.length<sizeLine∧Pv (i+1) σ2 (upd H5 D (.lst (ys++[v]))) else Pv (i+1) σ2 H4)
  (hd:∀σ H,Pv z.cps.size σ H→Q H):y6 D (dR z) g tc te σ₀ H Q:=by
 refine ⟨fun i m σ H=>m=z.cps.size - i∧i≤z.cps.size∧Pv i σ H,⟨_,rfl,Nat.zero_le _,h0⟩,?_⟩
 rintro i m σ H ⟨rfl,hi,p⟩
 by_cases hlt:i<z.cps.size
 ·refine .inr ⟨hlt,Pv (i+1),fun σ' H' p'=>⟨z.cps.size - (i+1),by omega,rfl,hlt,p'⟩,fun x H' y=>?_⟩
  obtain ⟨e,c,hc,y⟩:=y
  subst e y
  exact hs i c σ _ hc p
 ·have e:i=z.cps.size:=by omega
  subst e
  exact .inl ⟨rfl,hd σ H p⟩
theorem D3 {z:Str} {D:Addr} {tc:TT} {te:TE} {caps:St} {H:Hp} {Q:Hp→Prop} (R:Nat→List V→Hp→Prop) (hD:H D=none) (h0:R 0 [] (upd H D (.lst [])))
  (hs:∀i c ys Hi,z.cps[i]?=some c→ys.length≤i→Same H Hi→Hi D=some (.lst ys)→R i ys Hi→tc (some (.str ⟨#[c]⟩)::caps) Hi fun b H4=>if b=true then te (some (.str ⟨#[c]⟩)::caps) H4 fun v H5=>∃zs,H5 D=some (.lst zs)∧zs.length<sizeLine∧vZ H D caps R (i+1) (some (.str ⟨#[c]⟩)::caps) (upd H5 D (.lst (zs++[v])))
   else vZ H D caps R (i+1) (some (.str ⟨#[c]⟩)::caps) H4)
  (hd:∀ys Hf,Same H Hf→Hf D=some (.lst ys)→ys.length≤z.cps.size→R z.cps.size ys Hf→Q Hf):y6 D (dR z) (bU 0) tc te (none::caps) H Q:=by
 refine CZ (vZ H D caps R) ⟨[],none,rfl,kU hD (Same.refl H),jD,Nat.le_refl _,h0⟩ ?_ ?_
 ·rintro i c σ Hi hi ⟨ys,c',rfl,s,hY,hl,r⟩
  exact hs i c ys Hi hi hl s hY r
 ·rintro σ Hf ⟨ys,c,rfl,s,hY,hl,r⟩
  exact hd ys Hf s hY hl r
section
variable {X:Cx}
def KU:V→Option Int→Option Int→Hp→VK→Prop:=fun x lo hi H Q=>∃z:Str,x=.str z∧z.length≤sizeLine∧Q (.str (Txt.slice z lo hi)) H
theorem fD:SlR X KU:=by
 intro pins s σ H x v vl vu lo hi sl Q I rx hs pl pu h
 obtain ⟨z,rfl,hz,q⟩:=h
 obtain ⟨t,rfl⟩:=rx
 refine ⟨"str",_,F.slot_str_getitem.lookup,typeIs_str _ _ _,?_⟩
 have fin:∀(l u:Option (Int×Tok)),l.map (·.1)=lo→u.map (·.1)=hi→s.heap.IsSlice sl l u none→wpAny (model X.prog X.w) X.A (getItem (.str z t) (.ref sl)) (EP X pins σ Q) X.xe s:=by
  intro l u e1 e2 hsl
  subst e1 e2
  exact wpAny_getItem_str_slice hsl rfl (post_val_or_str ⟨Nat.le_trans (Txt.slice_le z _ _) hz,fun t' k=>⟨.str (Txt.slice z (l.map (·.1)) (u.map (·.1))),H,I.tok _,⟨t',rfl⟩,q⟩⟩)
 obtain ⟨o,ho,hc,hd⟩:=hs
 cases pl with
 |none =>
  cases pu with
  |none=>exact fin none none rfl rfl ⟨o,ho,hc,hd⟩
  |int j tj=>exact fin none (some (j,tj)) rfl rfl ⟨o,ho,hc,hd⟩
 |int i ti =>
  cases pu with
  |none=>exact fin (some (i,ti)) none rfl rfl ⟨o,ho,hc,hd⟩
  |int j tj=>exact fin (some (i,ti)) (some (j,tj)) rfl rfl ⟨o,ho,hc,hd⟩
end
end L2
namespace L2
open PySem PySem.Spec PyProof.Rows
section
variable {X:Cx} {K:PySem.W.Frag} {w:World} {o i:Expr} {pos:Pos} {td ty:TE}
end
end L2
namespace L2
open PySem PySem.Spec PyProof.Rows
inductive DEq (K:PySem.W.Frag) (H:Hp):V→V→Bool→Prop where
 |flat {x y:V} (hx:qY x=true) (hy:qY y=true):DEq K H x y (vH x y)
 |same (a:Addr):DEq K H (.ref a) (.ref a) true
 |tup {a b:Addr} {xs ys:List V} (ne:a≠b) (ha:SqT K H a xs) (hb:SqT K H b ys) (fx:xs.all qY=true) (fy:ys.all qY=true):DEq K H (.ref a) (.ref b) (vM xs ys)
 |lst {a b:Addr} {xs ys:List V} (ne:a≠b) (ha:SqL K H a xs) (hb:SqL K H b ys) (fx:xs.all qY=true) (fy:ys.all qY=true):DEq K H (.ref a) (.ref b) (vM xs ys)
section
variable {X:Cx} {pins:List (Addr×Obj)} {σ:St} {H:Hp} {s:Shared} {A:Around}
theorem DEq.at {x y:V} {u v:Value} {e:Bool} (I:Inv X pins σ H s) (d:DEq X.K H x y e) (rx:RelV x u) (ry:RelV y v) (hu:A.units<cLine):SeqAt.EqAt A s u v e:=by
 cases d with
 |flat hx hy=>exact bM rx ry hx hy
 |same a=>cases rx;cases ry;exact SeqAt.EqAt.same _
 |@tup a b xs ys ne ha hb fx fy =>
  cases rx;cases ry
  obtain ⟨its,r,pl,hz⟩:=I.tuple ha
  obtain ⟨its2,r2,pl2,hz2⟩:=I.tuple hb
  have hl:=r.length
  have hl2:=r2.length
  have h:=SeqAt.RcAt.tuples (A:=A) (e:=fun j=>vH (xs.getD j .non) (ys.getD j .non)) pl pl2 hu (fun j h1 h2=>bM (JC r h1) (JC r2 h2) (JD fx (by rw [hl];simpa using h1)) (JD fy (by rw [hl2];simpa using h2)))
  have e:((List.range (min its.toArray.size its2.toArray.size)).all (fun j=>vH (xs.getD j .non) (ys.getD j .non))&&its.toArray.size == its2.toArray.size)=vM xs ys:=by
   unfold vM
   rw [List.size_toArray,List.size_toArray,← hl,← hl2]
  rw [e] at h
  exact SeqAt.EqAt.of_refs ne h
 |@lst a b xs ys ne ha hb fx fy =>
  cases rx;cases ry
  obtain ⟨its,r,pl,hz⟩:=I.list ha
  obtain ⟨its2,r2,pl2,hz2⟩:=I.list hb
  have hl:=r.length
  have hl2:=r2.length
  by_cases he:xs.length=ys.length
  ·have h:=SeqAt.RcAt.lists (A:=A) (e:=fun j=>vH (xs.getD j .non) (ys.getD j .non)) pl.isList pl2.isList (by rw [List.size_toArray,List.size_toArray,← hl,← hl2,he]) hu (fun j h1 h2=>bM (JC r h1) (JC r2 h2) (JD fx (by rw [hl];simpa using h1)) (JD fy (by rw [hl2];simpa using h2)))
   have e:((List.range its.toArray.size).all (fun j=>vH (xs.getD j .non) (ys.getD j .non)))=vM xs ys:=by
    unfold vM
    rw [List.size_toArray,← hl,← he,Nat.min_self,beq_self_eq_true,Bool.and_true]
   rw [e] at h
   exact SeqAt.EqAt.of_refs ne h
  ·have hf:vM xs ys=false:=by
    unfold vM
    rw [show (xs.length == ys.length)=false from beq_eq_false_iff_ne.mpr he,Bool.and_false]
   rw [hf]
   exact SeqAt.EqAt.of_refs ne (SeqAt.RcAt.lists_lengths pl.isList pl2.isList (by rw [List.size_toArray,List.size_toArray,← hl,← hl2];exact bne_iff_ne.mpr he) hu)
end
section
variable {X:Cx}
end
end L2
namespace L2
open PySem PySem.Spec PyProof.Rows
end L2
namespace L2
open PySem PySem.Spec PyProof.Rows
end L2
namespace L2
open PySem PySem.Spec PyProof.Rows
end L2
namespace L2
open PySem PySem.Spec PyProof.Rows
section
variable {X:Cx}
theorem EC:CallR X (.type "int") (fun xs H Q=>∃(z:Str) (n:Int),xs=[.str z]∧z.length≤640∧PySem.intText? z=some n∧Q (.int n) H):=by
 intro pins s σ H xs us Q I r h
 obtain ⟨z,n,rfl,hl,hn,q⟩:=h
 obtain ⟨u,rfl,t,rfl⟩:=JM r
 exact PySem.W.KIN.call_text hn hl ⟨.int n,H,I.tok _,⟨_,rfl⟩,q⟩
theorem zF:CallR X (.type "str") (fun xs H Q=>∃n:Int,xs=[.int n]∧n.natAbs.log2<1920∧Q (.str (Str.ofString (toString n))) H):=by
 intro pins s σ H xs us Q I r h
 obtain ⟨n,rfl,hl,q⟩:=h
 obtain ⟨u,rfl,t,rfl⟩:=JM r
 exact P.str_of_int hl ⟨.str (Str.ofString (toString n)),H,I.tok _,⟨_,rfl⟩,q⟩
theorem HZ (c:Nat):(!(Builtin.Str.occurrences ("0123456789":Str) ⟨#[c]⟩ 0 ("0123456789":Str).length 1).isEmpty)=(decide (48≤c)&&decide (c≤57)):=by
 rw [PySem.StrLaws.found_one,show ("0123456789":Str).cps.toList=[48,49,50,51,52,53,54,55,56,57] by decide +kernel]
 rw [← Bool.decide_and]
 refine decide_eq_decide.mpr ⟨fun h=>?_,fun h=>?_⟩
 ·simp only [List.mem_cons,List.mem_nil_iff,or_false] at h
  omega
 ·simp only [List.mem_cons,List.mem_nil_iff,or_false]
  omega
end
end L2
namespace L2
open PySem PySem.Spec PyProof.Rows
theorem HP {X:Cx} (hu:X.A.units<cLine):OpR X (compareOp .Eq) (tR X.K false):=by
 intro pins s σ H x y v u Q I rx ry h
 obtain ⟨a,b,xs,ys,rfl,rfl,ha,hb,fx,fy,q⟩:=h
 cases rx
 cases ry
 obtain ⟨its,r,pl,hz⟩:=I.tuple ha
 obtain ⟨its2,r2,pl2,hz2⟩:=I.tuple hb
 have hl:=r.length
 have hl2:=r2.length
 refine SeqAt.eq_tupleAt (e:=fun j=>vH (xs.getD j .non) (ys.getD j .non)) pl pl2 hu (fun j h1 h2=>?_) ⟨.bl _,H,I,rfl,?_⟩
 ·exact bM (JC r h1) (JC r2 h2) (JD fx (by rw [hl];simpa using h1)) (JD fy (by rw [hl2];simpa using h2))
 ·have e:((List.range (min its.toArray.size its2.toArray.size)).all (fun j=>vH (xs.getD j .non) (ys.getD j .non))&&its.toArray.size == its2.toArray.size)=vM xs ys:=by
   unfold vM
   rw [List.size_toArray,List.size_toArray,← hl,← hl2]
  rw [e]
  exact q
end L2
namespace L2
open PySem PySem.Spec PyProof.Rows
section
variable {X:Cx}
theorem m9:∀{zs:List Str} {us:List Value},Vals (zs.map V.str) us→∃l:List (Str×Tok),us=strValues l∧l.map (·.1)=zs
 |[],us,r=>by rw [List.map_nil] at r;cases r;exact ⟨[],rfl,rfl⟩
 |z::r,us,h=>by
  rw [List.map_cons] at h
  cases h with
  |@cons a b as bs ha ht =>
   obtain ⟨l,rfl,hl⟩:=m9 ht
   obtain ⟨t,rfl⟩:=(show ∃t,b=Value.str z t from ha)
   exact ⟨(z,t)::l,rfl,by rw [List.map_cons,hl]⟩
theorem nA:∀(l:List (Str×Tok)),Vals ((l.map (·.1)).map V.str) (strValues l)
 |[]=>.nil
 |p::r=>.cons ⟨p.2,rfl⟩ (nA r)
def JH (zs:List Str):Nat:=(zs.map (·.length)).sum
def IK (K:PySem.W.Frag):V→List V→Hp→VK→Prop:=fun x vs H Q=>∃(z:Str) (l:Addr) (zs:List Str),x=.str z∧vs=[.ref l]∧SqL K H l (zs.map V.str)∧z.length≤16∧JH zs+zs.length≤1048576∧Q (.str (Str.join z zs)) H
theorem JF:dO X "str.join" (IK X.K):=by
 intro pins s σ H x vs v us Q I rx rv h
 obtain ⟨z,l,zs,rfl,rfl,hl,hz,hw,q⟩:=h
 obtain ⟨t,rfl⟩:=rx
 obtain ⟨u,rfl,ru⟩:=rv.one
 cases ru
 obtain ⟨its,r,pl,_⟩:=I.list hl
 obtain ⟨l',rfl,hl'⟩:=m9 r
 refine SC.join (l:=l') (texts:=zs) pl.isList hl' (joinOk_of_weight hw hz) fun t' k=>⟨.str (Str.join z zs),H,I.tok _,?_,q⟩
 exact ⟨t',by show Value.str (Txt.join z zs) t'=_;unfold Txt.join;rw [StrLaws.glued_eq_join]⟩
def G8:V→List V→Hp→VK→Prop:=fun x vs H Q=>∃(z y:Str),x=.str z∧vs=[.str y]∧(y.length == 0)=false∧z.length≤1000000∧∀l,H l=none→Q (.ref l) (upd H l (.lst ((Txt.split z y).map V.str)))
theorem nZ (x y:Str) (hy:1≤y.length):(Txt.split x y).length≤x.length+1:=by
 have:=PyProof.Rows.split_weight x y hy
 omega
theorem eQ:dO X "str.split" G8:=by
 intro pins s σ H x vs v us Q I rx rv h
 obtain ⟨z,y,rfl,rfl,hy,hz,q⟩:=h
 obtain ⟨t,rfl⟩:=rx
 obtain ⟨u,rfl,t',rfl⟩:=rv.one
 have hy1:1≤y.length:=by
  have:=beq_eq_false_iff_ne.mp hy
  omega
 have hsl:=nZ z y hy1
 have hzs:z.length+1≤sizeLine:=by rw [sizeLine_eq];omega
 have fin:∀(l:List (Str×Tok)) (tk:Nat),l.map (·.1)=Txt.split z y→EP X pins σ Q (.ref s.heap.objs.size) {s with toks:=tk,heap:=s.heap.push {cls:=.type "list",data:=.seq (strValues l).toArray}}:=fun l tk e=>by
  have hv:=nA l
  rw [e] at hv
  exact ⟨.ref s.heap.objs.size,_,I.laid (t':=tk) (o:=.lst ((Txt.split z y).map V.str)) (fun _ _ q=>Heap.get?_push_of_some _ q) (Nat.le_refl _) ⟨by rw [List.length_map];omega,strValues l,0,hv,Heap.get?_push_size _ rfl⟩,rfl,q _ (I.hok.fresh (Nat.le_refl _))⟩
 cases h1:(decide (z.length<y.length)||decide (Builtin.Str.strKind z<Builtin.Str.strKind y))
 ·cases hf:(Builtin.Str.occurrences z y 0 z.length (z.length+1)).isEmpty
  ·have hsp:Txt.split z y=Builtin.Str.partsBetween z (Builtin.Str.occurrences z y 0 z.length (z.length+1)) y.length:=(if_neg (ne_true_of_eq_false h1)).trans (if_neg (ne_true_of_eq_false hf))
   refine call_meets F.slot_str_split (typeIs_str _ _ _) F.entry_str_split (F.args_str_split_2 _ _) (meets_str_split_sep z y t t' h1 hy hf (by omega) (by rw [← hsp];omega)) ?_
   show wants _ _ _ {s with toks:=_,heap:=s.heap.push {cls:=.type "list",data:=.seq (strsFrom s.toks (Builtin.Str.partsBetween z (Builtin.Str.occurrences z y 0 z.length (z.length+1)) y.length)).toArray}}
   rw [strsFrom_eq]
   exact fin (numbered s.toks _) _ ((numbered_texts _ _).trans hsp.symm)
  ·exact call_meets F.slot_str_split (typeIs_str _ _ _) F.entry_str_split (F.args_str_split_2 _ _) (meets_str_split_not_found z y t t' h1 hy hf)
    (fin [(z,t)] _ ((if_neg (ne_true_of_eq_false h1)).trans (if_pos hf)).symm)
 ·exact call_meets F.slot_str_split (typeIs_str _ _ _) F.entry_str_split (F.args_str_split_2 _ _) (meets_str_split_cannot_occur z y t t' h1)
   (fin [(z,t)] _ (if_pos h1).symm)
end
end L2
namespace L2
open PySem PySem.Spec PyProof.Rows
def JO (c:Nat):List (List Nat)→List Nat
 |[]=>[]
 |[x]=>x
 |x::y::r=>x++c::JO c (y::r)
theorem eR (c:Nat):∀ps:List Str,(Str.join ⟨#[c]⟩ ps).cps.toList=JO c (ps.map fun p=>p.cps.toList)
 |[]=>rfl
 |[x]=>rfl
 |x::y::r=>by
  show ((x++(⟨#[c]⟩:Str))++Str.join ⟨#[c]⟩ (y::r)).cps.toList=x.cps.toList++c::JO c ((y::r).map fun p=>p.cps.toList)
  rw [← eR c (y::r)]
  show ((x.cps++#[c])++(Str.join ⟨#[c]⟩ (y::r)).cps).toList=_
  simp
theorem rY {c:Nat}:∀{x y A B:List Nat},c∉x→c∉y→x++c::A=y++c::B→x=y∧A=B
 |[],[],A,B,_,_,h=>⟨rfl,(List.cons.inj h).2⟩
 |[],b::y,A,B,_,hy,h=>absurd (List.mem_cons.mpr (.inl (List.cons.inj h).1)) hy
 |a::x,[],A,B,hx,_,h=>absurd (List.mem_cons.mpr (.inl (List.cons.inj h).1.symm)) hx
 |a::x,b::y,A,B,hx,hy,h=>by
  obtain ⟨h1,h2⟩:=List.cons.inj h
  obtain ⟨h3,h4⟩:=rY (fun z=>hx (List.mem_cons_of_mem _ z)) (fun z=>hy (List.mem_cons_of_mem _ z)) h2
  exact ⟨by rw [h1,h3],h4⟩
theorem oQ (c:Nat):∀(ps qs:List (List Nat)),ps≠[]→qs≠[]→(∀p∈ps,c∉p)→(∀q∈qs,c∉q)→JO c ps=JO c qs→ps=qs
 |[],_,h,_,_,_,_=>absurd rfl h
 |_::_,[],_,h,_,_,_=>absurd rfl h
 |[x],[y],_,_,_,_,h=>by rw [show x=y from h]
 |[x],y::y2::r,_,_,hp,_,h=>by
  have h:x=y++c::JO c (y2::r):=h
  exact absurd (by rw [h];exact List.mem_append_right _ List.mem_cons_self) (hp x List.mem_cons_self)
 |x::x2::r,[y],_,_,_,hq,h=>by
  have h:x++c::JO c (x2::r)=y:=h
  exact absurd (by rw [← h];exact List.mem_append_right _ List.mem_cons_self) (hq y List.mem_cons_self)
 |x::x2::r,y::y2::r',_,_,hp,hq,h=>by
  obtain ⟨h1,h2⟩:=rY (hp x List.mem_cons_self) (hq y List.mem_cons_self) h
  rw [h1,oQ c (x2::r) (y2::r') (List.cons_ne_nil _ _) (List.cons_ne_nil _ _) (fun p h=>hp p (List.mem_cons_of_mem _ h)) (fun q h=>hq q (List.mem_cons_of_mem _ h)) h2]
theorem mX:∀{ps qs:List Str},(ps.map fun p=>p.cps.toList)=(qs.map fun p=>p.cps.toList)→ps=qs
 |[],[],_=>rfl
 |[],_::_,h=>by cases h
 |_::_,[],h=>by cases h
 |p::ps,q::qs,h=>by
  obtain ⟨h1,h2⟩:=List.cons.inj h
  rw [mX h2]
  obtain ⟨a⟩:=p
  obtain ⟨b⟩:=q
  rw [show a=b from Array.toList_inj.mp h1]
theorem EL (x y:Str) (hy:1≤y.length):Txt.split x y≠[]:=by
 intro h
 have hj:=StrLaws.join_split x y
 rw [h] at hj
 unfold Txt.split at h
 split at h
 ·cases h
 ·split at h
  ·cases h
  ·rename_i h2
   unfold Builtin.Str.partsBetween at h
   simp at h
theorem nE (c:Nat) {ps:List Str} (h0:ps≠[]) (hp:∀p∈ps,c∉p.cps.toList):Txt.split (Str.join ⟨#[c]⟩ ps) ⟨#[c]⟩=ps:=by
 refine mX (oQ c _ _ ?_ ?_ ?_ ?_ ?_)
 ·intro h;exact EL _ ⟨#[c]⟩ (Nat.le_refl 1) (List.map_eq_nil_iff.mp h)
 ·intro h;exact h0 (List.map_eq_nil_iff.mp h)
 ·intro p h
  obtain ⟨q,hq,rfl⟩:=List.mem_map.mp h
  exact StrLaws.split_free _ c q hq
 ·intro p h
  obtain ⟨q,hq,rfl⟩:=List.mem_map.mp h
  exact hp q hq
 ·rw [← eR,← eR,StrLaws.join_split]
end L2
namespace L2
open PySem PySem.Spec PyProof.Rows
def bX (a c:Int) (n:Nat):It:=⟨fun i _=>i<n,fun i H x H'=>H'=H∧x=.int (a+(i:Int)*c),fun i _=>n≤i⟩
theorem C0 {P:Program} {w:World} {K:PySem.W.Frag} {tg:Expr} (it:Addr) (a c:Int) (n:Nat):Turn P w K tg (bX a c n) [it] it (fun i h=>IsRangeIter h it (a+(i:Nat)*c) ((n:Int) - (i:Nat)) c) where
 mem:=by simp
 obj:=fun i h st b hb=>by
  have e:b=it:=by simpa using hb
  subst e
  exact ⟨_,st,fun v z=>by
   have z':Data.fields _=Data.cell v:=z
   cases z'⟩
 keep:=fun i h h' st k=>k it (by simp) _ st
 item:=by
  intro X hP hw hK hc i pins s σ H E I hf st hg
  subst hP hw hK
  obtain ⟨f0,f1,f2,f3,f4,f5⟩:=hf it (by simp)
  have W:=Walks.range (prog:=X.prog) (w:=X.w) (I.ok.hd hc) it a c n
  refine W.item i s _ _ hg st fun v h' tk hv st' kk=>?_
  obtain ⟨t,rfl⟩:=hv
  have I1:Inv X pins σ H {s with heap:=h',toks:=tk}:=I.turned (fun b o hb e=>kk b o (by simpa using hb) e) f0 f1 f3 f4 f5
  exact ⟨_,rfl,dH (s:={s with heap:=h',toks:=tk}) (n:="range_iterator") st' rfl rfl (by decide) ⟨.int (a+(i:Int)*c),H,I1,⟨t,rfl⟩,⟨rfl,rfl⟩,st',fun b hb=>(hf b hb).1⟩⟩
 done:=by
  intro X hP hw hK hc i pins s σ H E I hf st hg
  subst hP hw hK
  obtain ⟨f0,f1,f2,f3,f4,f5⟩:=hf it (by simp)
  exact wpAny_pyNext_range_end (I.ok.hd hc) st (by have:n≤i:=hg;omega) fun h' eb=>⟨rfl,I.turned (t':=s.toks) (fun b o hb e=>eb b o hb e) f0 f1 f3 f4 f5⟩
 self:=fun _ _ _ _ _ st h=>wpAny_pyIter_rangeiter st h
section
variable {X:Cx} {tg:Expr}
theorem FR {pins:List (Addr×Obj)} {σ:St} {H:Hp} {s:Shared} {R:It→Hp→Prop} {E:Value→Shared→Prop} {n:Nat} {a b c:Int} {t u v:Tok} {tk:Nat} (I:Inv X pins σ H s) (hsm:Builtin.Range.small a b c=true) (hn:Builtin.Range.rangeSize a b c=n)
    (q:R (bX a c n) H):wpAny (model X.prog X.w) X.A (pyIter (.ref s.heap.objs.size)) (fZ X pins σ tg R) E {s with heap:=s.heap.push {cls:=.type "range",data:=.fields #[.int a t,.int b u,.int c v]},toks:=tk}:=by
  refine wpAny_pyIter_range (IsRange.new ..) hsm ?_
  have I1:Inv X pins σ H {s with heap:=s.heap.push {cls:=.type "range",data:=.fields #[.int a t,.int b u,.int c v]},toks:=tk}:=I.kept fun b o e=>Heap.get?_push_of_some _ e
  refine ⟨(s.heap.push {cls:=.type "range",data:=.fields #[.int a t,.int b u,.int c v]}).objs.size,[(s.heap.push {cls:=.type "range",data:=.fields #[.int a t,.int b u,.int c v]}).objs.size],_,_,H,rfl,
    I1.kept (t':=tk) fun b o e=>Heap.get?_push_of_some _ e,C0 _ a c n,?_,fun b' hb=>?_,q⟩
  · have e1:a+((0:Nat):Int)*c=a:=by simp
    have e2:((n:Nat):Int) - ((0:Nat):Int)=Builtin.Range.rangeSize a b c:=by rw [hn];simp
    show IsRangeIter _ _ (a+((0:Nat):Int)*c) (((n:Nat):Int) - ((0:Nat):Int)) c
    rw [e1,e2]
    exact Heap.get?_push_size _ rfl
  · have e:b'=(s.heap.push {cls:=.type "range",data:=.fields #[.int a t,.int b u,.int c v]}).objs.size:=by simpa using hb
    subst e
    exact I1.fpOk (Nat.le_refl _) (I1.hok.fresh (Nat.le_refl _))
def IV (ta:TA):TI:=fun σ H R=>ta σ H fun vs H1=>∃(a b c:Int) (n:Nat),vs=[.int a,.int b,.int c]∧c≠0∧c.natAbs<1073741824∧Builtin.Range.small a b c=true∧Builtin.Range.rangeSize a b c=n∧R (bX a c n) H1
theorem GA {a b c:Expr} {ta:TA} {p pos:Pos} (hg:Gl X "range") (hm:X.mg "range"=none) (ha:PA X [a,b,c] ta) (hs:starEach [a,b,c] X.env=[(false,eval a X.env),(false,eval b X.env),(false,eval c X.env)]:=by rfl) (hs2:starEach [b,c] X.env=[(false,eval b X.env),(false,eval c X.env)]:=by rfl) :
  PI X tg (.Call (.Name "range" p) [a,b,c] [] pos) (IV ta):=by
 intro pins s σ H R I h
 refine Call_ (y4 I hg hm boot_range (PyProof.Rows.callWith_type1 (jL (ha pos pins s σ H _ I h) fun us s1 ⟨vs,H1,I1,r1,q1⟩=>?_) (by rw [hs,hs2]) (by rw [hs2];rfl)))
 obtain ⟨x,y,z,n,e,hz,hzs,hsm,hn,q⟩:=q1
 subst e
 cases r1 with
 |cons r rr =>
  cases rr with
  |cons r' rr =>
   cases rr with
   |cons r'' rr =>
    cases rr
    obtain ⟨t,rfl⟩:=r
    obtain ⟨t',rfl⟩:=r'
    obtain ⟨t'',rfl⟩:=r''
    exact call_range_3 hz (FR I1 hsm hn q) (.inl (PyProof.noPylong_small hzs))
end
theorem FC {a c:Int} {n:Nat} {g:TG} {tb:TS} {D:Ends} {σ:St} {H:Hp} (Pv:Nat→St→Hp→Prop) (h0:Pv 0 σ H)
  (hs:∀i σ H,i<n→Pv i σ H→g (.int (a+(i:Int)*c)) σ H fun σ2 H2=>tb {D with nx:=Pv (i+1),ct:=Pv (i+1),bk:=D.nx} σ2 H2) (hd:∀σ H,Pv n σ H→D.nx σ H) :
  ∃W:Nat→Nat→St→Hp→Prop,(∃m,W 0 m σ H)∧∀i m σ H,W i m σ H→
   ((bX a c n).stop i H∧D.nx σ H)∨((bX a c n).go i H∧∃N:St→Hp→Prop,(∀σ' H',N σ' H'→∃m',m'<m∧W (i+1) m' σ' H')∧∀x H',(bX a c n).yld i H x H'→g x σ H' fun σ2 H2=>tb {D with nx:=N,ct:=N,bk:=D.nx} σ2 H2):=by
 refine ⟨fun i m σ H=>m=n - i∧i≤n∧Pv i σ H,⟨n,by simp,Nat.zero_le _,h0⟩,?_⟩
 rintro i m σ H ⟨rfl,hi,p⟩
 by_cases hlt:i<n
 ·refine .inr ⟨hlt,Pv (i+1),fun σ' H' p'=>⟨n - (i+1),by omega,rfl,hlt,p'⟩,fun x H' y=>?_⟩
  obtain ⟨e,y⟩:=y
  subst e y
  exact hs i σ _ hlt p
 ·have e:i=n:=by omega
  subst e
  exact .inl ⟨Nat.le_refl _,hd σ H p⟩
theorem C4 {a b c:Int} (hc:0<c):Builtin.Range.rangeSize a b c=if a<b then (b - a - 1) / c+1 else 0:=by
 unfold Builtin.Range.rangeSize
 rw [if_pos hc]
theorem CY {K:PySem.W.Frag} {a D:Addr} {xs:List V} {g:TG} {tc:TT} {te:TE} {σ₀:St} {H:Hp} {Q:Hp→Prop} (Pv:Nat→St→Hp→Prop) (h0:Pv 0 σ₀ (upd H D (.lst []))) (hl:∀i σ H,i≤xs.length→Pv i σ H→SqT K H a xs)
    (hs:∀i x σ H,xs[i]?=some x→Pv i σ H→g x σ H fun σ2 H3=>tc σ2 H3 fun b H4=>if b=true then te σ2 H4 fun v H5=>∃ys,H5 D=some (.lst ys)∧ys.length<sizeLine∧Pv (i+1) σ2 (upd H5 D (.lst (ys++[v]))) else Pv (i+1) σ2 H4)
    (hd:∀σ H,Pv xs.length σ H→Q H):y6 D (gC K a) g tc te σ₀ H Q:=by
  refine ⟨fun i m σ H=>m=xs.length - i∧i≤xs.length∧Pv i σ H,⟨xs.length,by simp,Nat.zero_le _,h0⟩,?_⟩
  rintro i m σ H ⟨rfl,hi,p⟩
  have q:=hl i σ H hi p
  by_cases hlt:i<xs.length
  · refine .inr ⟨⟨xs,xs[i],q,by simp [hlt]⟩,Pv (i+1),fun σ' H' p'=>⟨xs.length - (i+1),by omega,rfl,hlt,p'⟩,fun x H' y=>?_⟩
    obtain ⟨e,y⟩:=y
    subst e
    exact hs i x σ _ (y xs q) p
  · have e:i=xs.length:=by omega
    subst e
    exact .inl ⟨⟨xs,q,Nat.le_refl _⟩,hd σ H p⟩
theorem oX {K:PySem.W.Frag} {a D:Addr} {xs:List V} {tc:TT} {te:TE} {caps:St} {H:Hp} {Q:Hp→Prop} (R:Nat→List V→Hp→Prop) (hD:H D=none) (hS:H a=some (.tup xs)) (h0:R 0 [] (upd H D (.lst [])))
  (hs:∀i x ys Hi,xs[i]?=some x→i<xs.length→ys.length≤i→Same H Hi→Hi D=some (.lst ys)→R i ys Hi→tc (some x::caps) Hi fun b H4=>if b=true then te (some x::caps) H4 fun v H5=>∃zs,H5 D=some (.lst zs)∧zs.length<sizeLine∧vZ H D caps R (i+1) (some x::caps) (upd H5 D (.lst (zs++[v])))
   else vZ H D caps R (i+1) (some x::caps) H4)
  (hd:∀ys Hf,Same H Hf→Hf D=some (.lst ys)→ys.length≤xs.length→R xs.length ys Hf→Q Hf):y6 D (gC K a) (bU 0) tc te (none::caps) H Q:=by
 refine CY (xs:=xs) (vZ H D caps R) ⟨[],none,rfl,kU hD (Same.refl H),jD,Nat.le_refl _,h0⟩ (fun i σ Hi _ ⟨_,_,_,s,_⟩=>SqT.of (s _ _ hS)) ?_ ?_
 ·rintro i x σ Hi hx ⟨ys,c,rfl,s,hY,hl,r⟩
  exact hs i x ys Hi hx (List.getElem?_eq_some_iff.mp hx).1 hl s hY r
 ·rintro σ Hf ⟨ys,c,rfl,s,hY,hl,r⟩
  exact hd ys Hf s hY hl r
end L2
namespace L2
open PySem PySem.Spec PyProof.Rows
def v0 (m:Nat):List Nat:=(Nat.toDigits 10 m).map Char.toNat
theorem rO {n:Int} (h0:0≤n):(Str.ofString (toString n)).cps.toList=v0 n.toNat:=by
 obtain ⟨m,rfl⟩:=Int.eq_ofNat_of_zero_le h0
 exact PySem.W.KIN.signs_num m
theorem iF {m:Nat} (h:¬m<10):v0 m=v0 (m / 10)++[(Nat.digitChar (m%10)).toNat]:=by
 have hm:m%10<10:=Nat.mod_lt m (by decide)
 have t:Nat.toDigits 10 (m / 10)++Nat.toDigits 10 (m%10)=Nat.toDigits 10 (10*(m / 10)+m%10):=Nat.toDigits_append_toDigits (by decide) (by omega) hm
 rw [Nat.div_add_mod] at t
 unfold v0
 rw [← t,List.map_append,Nat.toDigits_of_lt_base hm]
 rfl
theorem p9:∀d:Nat,d<10→(Nat.digitChar d).toNat=48+d:=by decide
theorem eB {m:Nat} (h:m<10):v0 m=[48+m]:=by
 unfold v0
 rw [Nat.toDigits_of_lt_base h]
 show [(Nat.digitChar m).toNat]=_
 rw [p9 m h]
theorem pR (m:Nat):∀c∈v0 m,48≤c∧c≤57:=by
 induction m using Nat.strongRecOn with
 |_ m ih =>
  intro c hc
  by_cases h:m<10
  ·rw [eB h] at hc
   have:=List.mem_singleton.mp hc
   omega
  ·rw [iF h] at hc
   rcases List.mem_append.mp hc with hc|hc
   ·exact ih (m / 10) (by omega) c hc
   ·have:=List.mem_singleton.mp hc
    have:=p9 (m%10) (Nat.mod_lt m (by decide))
    have:=Nat.mod_lt m (show 0<10 by decide)
    omega
theorem rP (m:Nat):v0 m≠[]:=by
 by_cases h:m<10
 ·rw [eB h];exact List.cons_ne_nil _ _
 ·rw [iF h];simp
theorem DM (m:Nat) (h0:0<m):(v0 m)[0]?≠some 48:=by
 induction m using Nat.strongRecOn with
 |_ m ih =>
  by_cases h:m<10
  ·rw [eB h]
   intro e
   have:=Option.some.inj e
   omega
  ·rw [iF h,List.getElem?_append_left (List.length_pos_iff.mpr (rP _))]
   exact ih (m / 10) (by omega) (by omega)
theorem DL:v0 0=[48]:=eB (by decide)
theorem EZ (m:Nat):PySem.NumText.digitsVal (v0 m)=m:=PySem.W.KIN.val_back m
theorem E1 {m:Nat} (h:m<1000000000000):1≤(v0 m).length∧(v0 m).length≤12:=by
 refine ⟨List.length_pos_iff.mpr (rP m),?_⟩
 unfold v0
 rw [List.length_map]
 exact PyProof.Rows.digits10_le (k:=12) (by decide) (by simpa using h)
end L2
namespace L2
open PySem PySem.Spec PyProof.Rows
section
variable {X:Cx} {pins:List (Addr×Obj)} {σ:List (Option V)} {H:Hp} {s:Shared} {h':Heap}
theorem Inv.turnedN {t':Nat} {fp:List Addr} (I:Inv X pins σ H s) (k:∀b o,b∉fp→s.heap.get? b=some o→h'.get? b=some o) (hf:∀b∈fp,yU X pins H b):Inv X pins σ H {s with heap:=h',toks:=t'}:=by
 have nit:∀b u,H b=some u→b∉fp:=fun b u e z=>by rw [(hf b z).1] at e;cases e
 have hL:X.env.locals∉fp:=fun z=>(hf _ z).2.1 rfl
 refine I.step (g':=s.gens) (d':=s.drawn) (ch:=fp) (fun b hb=>?_) (fun b o _ _ hc e _=>k b o hc e) (fun b o _ _ hc e _=>⟨o.slots,k b o hc e⟩) (fun _ _ _ _ n=>n)
  (fun b o hc e=>⟨o,k b o hc e⟩) (fun _ _ e=>e) (fun _ _ _ e=>e) (fun b ps e=>⟨#[],by rw [e];simp⟩) (fun m hm=>?_) (fun b u e=>?_) I.bare
 ·obtain ⟨f0,f1,f2,f3,f4,f5⟩:=hf b hb
  exact ⟨f3,f1,f4,f5⟩
 ·obtain ⟨o,es,ep,ho,r⟩:=hm
  exact ⟨o,es,ep,k _ o hL ho,r⟩
 ·refine (I.hok b u e).stay (fun c v hc q=>k c v ?_ q) (fun _ q=>q) fun _ _ q=>q
  rcases hc with z|z
  ·rw [z];exact nit b u e
  ·exact nit c _ z
theorem Inv.laidN {t':Nat} {fp:List Addr} {a:Addr} {o:HO} (I:Inv X pins σ H s) (k:∀b u,b∉fp→s.heap.get? b=some u→h'.get? b=some u) (hf:∀b∈fp,yU X pins H b) (hp:s.heap.objs.size≤a) (new:ObjOk X.prog X.w (upd H a o) h' a o) :
  Inv X pins σ (upd H a o) {s with heap:=h',toks:=t'}:=by
 have hn:=I.hok.fresh hp
 have nit:∀b u,H b=some u→b∉fp:=fun b u e z=>by rw [(hf b z).1] at e;cases e
 have hL:X.env.locals∉fp:=fun z=>(hf _ z).2.1 rfl
 refine I.step (g':=s.gens) (d':=s.drawn) (ch:=fp) (fun b hb=>?_) (fun b o _ _ hc e _=>k b o hc e) (fun b o _ _ hc e _=>⟨o.slots,k b o hc e⟩) (fun b u _ e n=>?_)
  (fun b o hc e=>⟨o,k b o hc e⟩) (fun b xs e=>?_) (fun b u v e=>?_) (fun b ps e=>⟨#[],?_⟩) (fun m hm=>?_) (fun b u e=>?_) I.bare
 ·obtain ⟨f0,f1,f2,f3,f4,f5⟩:=hf b hb
  exact ⟨f3,f1,f4,f5⟩
 ·rw [kC (Nat.ne_of_lt (Nat.lt_of_lt_of_le (Heap.lt_size e) hp))];exact n
 ·rw [kC (kE e hn)];exact e
 ·rw [kC (kE e hn)];exact e
 ·rw [kC (kE e hn),e];simp
 ·obtain ⟨o,es,ep,ho,r⟩:=hm
  exact ⟨o,es,ep,k _ o hL ho,r⟩
 ·by_cases hb:b=a
  ·subst hb;rw [jD] at e;cases e;exact new
  ·rw [kC hb] at e
   refine (I.hok b u e).stay (fun c v hc q=>k c v ?_ q) (fun c q=>by rw [kC (kE q hn)];exact q) fun c xs q=>by rw [kC (kE q hn)];exact q
   rcases hc with z|z
   ·rw [z];exact nit b u e
   ·exact nit c _ z
end
def dQ (K:PySem.W.Frag) (a1 a2:Addr):It :=
 ⟨fun i H=>∃xs ys x y,SqL K H a1 xs∧SqL K H a2 ys∧xs[i]?=some x∧ys[i]?=some y,
  fun i H v H'=>∃T x y,v=.ref T∧H T=none∧H'=upd H T (.tup [x,y])∧(∀xs,SqL K H a1 xs→xs[i]?=some x)∧(∀ys,SqL K H a2 ys→ys[i]?=some y),
  fun i H=>∃xs ys,SqL K H a1 xs∧SqL K H a2 ys∧(xs.length≤i∨ys.length≤i)⟩
def dS (K:PySem.W.Frag) (a:Addr):It :=
 ⟨fun i H=>∃xs x,SqL K H a xs∧xs[i]?=some x,
  fun i H v H'=>∃T x,v=.ref T∧H T=none∧H'=upd H T (.tup [.int (i:Int),x])∧∀xs,SqL K H a xs→xs[i]?=some x,
  fun i H=>∃xs,SqL K H a xs∧xs.length≤i⟩
theorem EI {P:Program} {w:World} {K:PySem.W.Frag} {elts:List Expr} {x1:Nat} {pos:Pos} {a1 a2 z TI TO i1 i2:Addr} (D:ZipApart z TI TO i1 i2 a1 a2) :
  Turn P w K (.Tuple elts x1 pos) (dQ K a1 a2) [z,TI,TO,i1,i2] z (fun i h=>IsZip h z TI TO .none∧IsPair h TI (.ref i1) (.ref i2)∧(∃a b,IsPair h TO a b)∧h.IsListIter i1 a1 i∧h.IsListIter i2 a2 i) where
 mem:=by simp
 obj:=fun i h st b hb=>by
  obtain ⟨hz,hTI,⟨p,q,hTO⟩,⟨o1,e1,c1,d1⟩,⟨o2,e2,c2,d2⟩⟩:=st
  simp only [List.mem_cons,List.mem_nil_iff,or_false] at hb
  rcases hb with rfl|rfl|rfl|rfl|rfl
  ·exact ⟨_,hz,fun v y=>by have y':Data.fields _=Data.cell v:=y;cases y'⟩
  ·exact ⟨_,hTI,fun v y=>by have y':Data.seq _ _=Data.cell v:=y;cases y'⟩
  ·exact ⟨_,hTO,fun v y=>by have y':Data.seq _ _=Data.cell v:=y;cases y'⟩
  ·exact ⟨o1,e1,fun v y=>by rw [d1] at y;cases y⟩
  ·exact ⟨o2,e2,fun v y=>by rw [d2] at y;cases y⟩
 keep:=fun i h h' st k=>by
  obtain ⟨hz,hTI,⟨p,q,hTO⟩,h1,h2⟩:=st
  exact ⟨k _ (by simp) _ hz,k _ (by simp) _ hTI,⟨p,q,k _ (by simp) _ hTO⟩,h1.at fun o e=>k _ (by simp) o e,h2.at fun o e=>k _ (by simp) o e⟩
 item:=by
  intro X hP hw hK hc i pins s σ H E I hf st hg
  subst hP hw hK
  obtain ⟨hz,hTI,⟨p,q,hTO⟩,h1,h2⟩:=st
  obtain ⟨xs,ys,x,y,hq1,hq2,hx,hy⟩:=hg
  obtain ⟨its1,rv1,p1,_⟩:=I.list hq1
  obtain ⟨its2,rv2,p2,_⟩:=I.list hq2
  obtain ⟨u,hu,ru⟩:=rv1.get hx
  obtain ⟨v,hv,rv⟩:=rv2.get hy
  refine wpAny_pyNext_zip_item D hz hTI hTO h1 h2 p1.isList p2.isList (x:=u) (y:=v) (by simpa using hu) (by simpa using hv) fun h' hz' hTO' h1' h2' hT' hsz hk=>?_
  refine ⟨_,rfl,?_⟩
  refine wpAny_letOwnedTupleGo_zip hz' fun hp2 hz2 hs2=>?_
  have lt:∀{b:Addr} {o:Obj},s.heap.get? b=some o→b<s.heap.objs.size:=fun e=>Heap.lt_size e
  have nT:s.heap.objs.size≠z:=Nat.ne_of_gt (lt hz)
  have k2:∀b o,b∉[z,TI,TO,i1,i2]→s.heap.get? b=some o→hp2.get? b=some o:=fun b o hb e=>by
   simp only [List.mem_cons,List.mem_nil_iff,or_false,not_or] at hb
   exact (hs2.2 b hb.1).trans (hk b o hb.1 hb.2.2.1 hb.2.2.2.1 hb.2.2.2.2 e)
  have hT2:IsPair hp2 s.heap.objs.size u v:=(hs2.2 _ nT).trans hT'
  refine ⟨.ref s.heap.objs.size,upd H s.heap.objs.size (.tup [x,y]),I.laidN (t':=s.toks) (fp:=[z,TI,TO,i1,i2]) k2 hf (Nat.le_refl _) ⟨(by show 2≤sizeLine;decide),[u,v],.cons ru (.cons rv .nil),⟨_,hT2,rfl,_,rfl⟩⟩,rfl,?_,?_,?_⟩
  ·exact ⟨_,x,y,rfl,I.hok.fresh (Nat.le_refl _),rfl,fun zs hzs=>by rw [I.list_inj hzs hq1];exact hx,fun zs hzs=>by rw [I.list_inj hzs hq2];exact hy⟩
  ·refine ⟨hz2,(hs2.2 _ D.TIz).trans (hk _ _ D.TIz D.TITO D.TIi1 D.TIi2 hTI),⟨_,_,(hs2.2 _ D.TOz).trans hTO'⟩,h1'.at fun o e=>(hs2.2 _ D.i1z).trans e,h2'.at fun o e=>(hs2.2 _ D.i2z).trans e⟩
  ·intro b hb
   have:=(hf b hb).1
   rw [kC]
   ·exact this
   ·intro e
    simp only [List.mem_cons,List.mem_nil_iff,or_false] at hb
    obtain ⟨o1,e1,_⟩:=h1
    obtain ⟨o2,e2,_⟩:=h2
    rcases hb with rfl|rfl|rfl|rfl|rfl
    ·exact nT e.symm
    ·exact Nat.ne_of_lt (lt hTI) e
    ·exact Nat.ne_of_lt (lt hTO) e
    ·exact Nat.ne_of_lt (lt e1) e
    ·exact Nat.ne_of_lt (lt e2) e
 done:=by
  intro X hP hw hK hc i pins s σ H E I hf st hg
  subst hP hw hK
  obtain ⟨hz,hTI,⟨p,q,hTO⟩,h1,h2⟩:=st
  obtain ⟨xs,ys,hq1,hq2,he⟩:=hg
  obtain ⟨its1,rv1,p1,_⟩:=I.list hq1
  obtain ⟨its2,rv2,p2,_⟩:=I.list hq2
  have l1:=rv1.length
  have l2:=rv2.length
  refine wpAny_pyNext_zip_end (I.ok.hd hc) D hz hTI hTO h1 h2 p1.isList p2.isList (he.imp (fun e=>by simp;omega) (fun e=>by simp;omega)) fun h' hk=>⟨rfl,I.turnedN (t':=s.toks) (fp:=[z,TI,TO,i1,i2]) (fun b o hb e=>?_) hf⟩
  simp only [List.mem_cons,List.mem_nil_iff,or_false,not_or] at hb
  exact hk b o hb.1 hb.2.2.1 hb.2.2.2.1 hb.2.2.2.2 e
 self:=fun _ _ _ _ _ st h=>wpAny_pyIter_zip st.1 h
theorem C2 {P:Program} {w:World} {K:PySem.W.Frag} {elts:List Expr} {x1:Nat} {pos:Pos} {a e it:Addr} (hei:e≠it) :
  Turn P w K (.Tuple elts x1 pos) (dS K a) [e,it] e (fun i h=>(∃old,IsEnum h e it i old)∧h.IsListIter it a i) where
 mem:=by simp
 obj:=fun i h st b hb=>by
  obtain ⟨⟨old,he⟩,⟨o1,e1,c1,d1⟩⟩:=st
  simp only [List.mem_cons,List.mem_nil_iff,or_false] at hb
  rcases hb with rfl|rfl
  ·exact ⟨_,he,fun v y=>by have y':Data.fields _=Data.cell v:=y;cases y'⟩
  ·exact ⟨o1,e1,fun v y=>by rw [d1] at y;cases y⟩
 keep:=fun i h h' st k=>by
  obtain ⟨⟨old,he⟩,h1⟩:=st
  exact ⟨⟨old,k _ (by simp) _ he⟩,h1.at fun o e=>k _ (by simp) o e⟩
 item:=by
  intro X hP hw hK hc i pins s σ H E I hf st hg
  subst hP hw hK
  obtain ⟨⟨old,he⟩,h1⟩:=st
  obtain ⟨xs,x,hq1,hx⟩:=hg
  obtain ⟨its1,rv1,p1,_⟩:=I.list hq1
  obtain ⟨u,hu,ru⟩:=rv1.get hx
  refine wpAny_pyNext_enum_item he h1 p1.isList (x:=u) (by simpa using hu) hei fun h' he' h1' hT' hsz hk=>?_
  refine ⟨_,rfl,?_⟩
  refine wpAny_letOwnedTupleGo_enum he' fun h2 he2 hs2=>?_
  have lt:∀{b:Addr} {o:Obj},s.heap.get? b=some o→b<s.heap.objs.size:=fun e=>Heap.lt_size e
  have nT:s.heap.objs.size≠e:=Nat.ne_of_gt (lt he)
  have k2:∀b o,b∉[e,it]→s.heap.get? b=some o→h2.get? b=some o:=fun b o hb q=>by
   simp only [List.mem_cons,List.mem_nil_iff,or_false,not_or] at hb
   exact (hs2.2 b hb.1).trans (hk b o hb.1 hb.2 q)
  have hT2:=(hs2.2 _ nT).trans hT'
  refine ⟨.ref s.heap.objs.size,upd H s.heap.objs.size (.tup [.int (i:Int),x]),I.laidN (t':=s.toks+1) (fp:=[e,it]) k2 hf (Nat.le_refl _) ⟨(by show 2≤sizeLine;decide),[.int i s.toks,u],.cons ⟨_,rfl⟩ (.cons ru .nil),⟨_,hT2,rfl,_,rfl⟩⟩,rfl,?_,?_,?_⟩
  ·exact ⟨_,x,rfl,I.hok.fresh (Nat.le_refl _),rfl,fun zs hzs=>by rw [I.list_inj hzs hq1];exact hx⟩
  ·exact ⟨⟨_,he2⟩,h1'.at fun o q=>(hs2.2 _ hei.symm).trans q⟩
  ·intro b hb
   have:=(hf b hb).1
   rw [kC]
   ·exact this
   ·intro q
    simp only [List.mem_cons,List.mem_nil_iff,or_false] at hb
    obtain ⟨o1,e1,_⟩:=h1
    rcases hb with rfl|rfl
    ·exact nT q.symm
    ·exact Nat.ne_of_lt (lt e1) q
 done:=by
  intro X hP hw hK hc i pins s σ H E I hf st hg
  subst hP hw hK
  obtain ⟨⟨old,he⟩,h1⟩:=st
  obtain ⟨xs,hq1,hx⟩:=hg
  obtain ⟨its1,rv1,p1,_⟩:=I.list hq1
  have l1:=rv1.length
  refine wpAny_pyNext_enum_end (I.ok.hd hc) he h1 p1.isList (by simp;omega) fun h' hk=>⟨rfl,I.turnedN (t':=s.toks) (fp:=[e,it]) (fun b o hb q=>?_) hf⟩
  simp only [List.mem_cons,List.mem_nil_iff,or_false,not_or] at hb
  exact hk b o hb.2 q
 self:=fun _ _ _ _ _ st h=>by obtain ⟨⟨old,he⟩,_⟩:=st;exact wpAny_pyIter_enum he h
section
variable {X:Cx} {elts:List Expr} {x1:Nat} {tpos:Pos}
def K6 (K:PySem.W.Frag) (ta:TA):TI:=fun σ H R=>ta σ H fun vs H1=>∃a1 a2,vs=[.ref a1,.ref a2]∧(∃xs,SqL K H1 a1 xs)∧(∃ys,SqL K H1 a2 ys)∧R (dQ K a1 a2) H1
def IY (K:PySem.W.Frag) (ta:TA):TI:=fun σ H R=>ta σ H fun vs H1=>∃a,vs=[.ref a]∧(∃xs,SqL K H1 a xs)∧R (dS K a) H1
theorem sO {a b:Expr} {ta:TA} {p pos:Pos} (hg:Gl X "zip") (hm:X.mg "zip"=none) (ha:PA X [a,b] ta) (hs:starEach [a,b] X.env=[(false,eval a X.env),(false,eval b X.env)]:=by rfl) (hs2:starEach [b] X.env=[(false,eval b X.env)]:=by rfl) :
  PI X (.Tuple elts x1 tpos) (.Call (.Name "zip" p) [a,b] [] pos) (K6 X.K ta):=by
 intro pins s σ H R I h
 refine Call_ (y4 I hg hm boot_zip (PyProof.Rows.callWith_type1 (jL (ha pos pins s σ H _ I h) fun us s1 ⟨vs,H1,I1,r1,q1⟩=>?_) (by rw [hs,hs2]) (by rw [hs2];rfl)))
 obtain ⟨a1,a2,e,⟨xs,hq1⟩,⟨ys,hq2⟩,q⟩:=q1
 subst e
 cases r1 with
 |cons r rr =>
  cases rr with
  |cons r' rr =>
   cases rr
   cases r
   cases r'
   obtain ⟨its1,rv1,p1,_⟩:=I1.list hq1
   obtain ⟨its2,rv2,p2,_⟩:=I1.list hq2
   have lt1:a1<s1.heap.objs.size:=by obtain ⟨o,e,_⟩:=p1.isList;exact Heap.lt_size e
   have lt2:a2<s1.heap.objs.size:=by obtain ⟨o,e,_⟩:=p2.isList;exact Heap.lt_size e
   refine call_zip_2 p1.isList p2.isList fun h' hz hTI hTO h1 h2 hsz hk=>?_
   refine wpAny_pyIter_zip hz ?_
   have D:ZipApart (s1.heap.objs.size+4) (s1.heap.objs.size+2) (s1.heap.objs.size+3) s1.heap.objs.size (s1.heap.objs.size+1) a1 a2:=by
    constructor<;>(intro e;simp only [Addr] at *;omega)
   refine ⟨_,_,_,_,H1,rfl,I1.kept (t':=s1.toks) hk,EI D,⟨hz,hTI,⟨_,_,hTO⟩,h1,h2⟩,fun b hb=>?_,q⟩
   simp only [List.mem_cons,List.mem_nil_iff,or_false] at hb
   have hb':s1.heap.objs.size≤b:=by rcases hb with rfl|rfl|rfl|rfl|rfl<;>simp only [Addr] at *<;>omega
   exact I1.fpOk hb' (I1.hok.fresh hb')
theorem GB {a:Expr} {ta:TA} {p pos:Pos} (hg:Gl X "enumerate") (hm:X.mg "enumerate"=none) (ha:PA X [a] ta) (hs:starEach [a] X.env=[(false,eval a X.env)]:=by rfl) :
  PI X (.Tuple elts x1 tpos) (.Call (.Name "enumerate" p) [a] [] pos) (IY X.K ta):=by
 intro pins s σ H R I h
 refine Call_ (y4 I hg hm boot_enumerate (PyProof.Rows.callWith_type1 (jL (ha pos pins s σ H _ I h) fun us s1 ⟨vs,H1,I1,r1,q1⟩=>?_) hs rfl))
 obtain ⟨a1,e,⟨xs,hq1⟩,q⟩:=q1
 subst e
 cases r1 with
 |cons r rr =>
  cases rr
  cases r
  obtain ⟨its1,rv1,p1,_⟩:=I1.list hq1
  refine call_enumerate_list p1.isList fun h' he hit hsz hk=>?_
  refine wpAny_pyIter_enum he ?_
  refine ⟨_,_,_,_,H1,rfl,I1.kept (t':=s1.toks) hk,C2 (Nat.succ_ne_self _),⟨⟨_,he⟩,hit⟩,fun b hb=>?_,q⟩
  simp only [List.mem_cons,List.mem_nil_iff,or_false] at hb
  have hb':s1.heap.objs.size≤b:=by rcases hb with rfl|rfl<;>simp only [Addr] at *<;>omega
  exact I1.fpOk hb' (I1.hok.fresh hb')
theorem rT {K:PySem.W.Frag} {a1 a2:Addr} {xs ys:List V} {g:TG} {tb:TS} {D:Ends} {σ:St} {H:Hp} (P:Nat→St→Hp→Prop) (h0:P 0 σ H) (hl:∀i σ H,i≤min xs.length ys.length→P i σ H→SqL K H a1 xs∧SqL K H a2 ys)
  (step:∀i x y σ H T,xs[i]?=some x→ys[i]?=some y→P i σ H→H T=none→g (.ref T) σ (upd H T (.tup [x,y])) fun σ2 H2=>tb {D with nx:=P (i+1),ct:=P (i+1),bk:=D.nx} σ2 H2) (done:∀σ H,P (min xs.length ys.length) σ H→D.nx σ H) :
  ∃W:Nat→Nat→St→Hp→Prop,(∃m,W 0 m σ H)∧∀i m σ H,W i m σ H→((dQ K a1 a2).stop i H∧D.nx σ H)∨((dQ K a1 a2).go i H∧∃N:St→Hp→Prop,(∀σ' H',N σ' H'→∃m',m'<m∧W (i+1) m' σ' H')∧∀x H',(dQ K a1 a2).yld i H x H'→g x σ H' fun σ2 H2=>tb {D with nx:=N,ct:=N,bk:=D.nx} σ2 H2):=by
 refine ⟨fun i m σ H=>i≤min xs.length ys.length∧m=min xs.length ys.length - i∧P i σ H,⟨_,Nat.zero_le _,rfl,h0⟩,fun i m σ H w=>?_⟩
 obtain ⟨hi,hm,p⟩:=w
 obtain ⟨q1,q2⟩:=hl i σ H hi p
 by_cases e:i=min xs.length ys.length
 ·refine .inl ⟨⟨xs,ys,q1,q2,by omega⟩,done σ H (e▸p)⟩
 ·have l1:i<xs.length:=by omega
  have l2:i<ys.length:=by omega
  refine .inr ⟨⟨xs,ys,_,_,q1,q2,List.getElem?_eq_getElem l1,List.getElem?_eq_getElem l2⟩,P (i+1),fun σ' H' n=>⟨_,by omega,by omega,rfl,n⟩,fun v H' hy=>?_⟩
  obtain ⟨T,x,y,rfl,hT,rfl,h1,h2⟩:=hy
  exact step i x y σ H T (h1 xs q1) (h2 ys q2) p hT
theorem FD {K:PySem.W.Frag} {a:Addr} {xs:List V} {g:TG} {tb:TS} {D:Ends} {σ:St} {H:Hp} (P:Nat→St→Hp→Prop) (h0:P 0 σ H) (hl:∀i σ H,i≤xs.length→P i σ H→SqL K H a xs)
  (step:∀i x σ H T,xs[i]?=some x→P i σ H→H T=none→g (.ref T) σ (upd H T (.tup [.int (i:Int),x])) fun σ2 H2=>tb {D with nx:=P (i+1),ct:=P (i+1),bk:=D.nx} σ2 H2) (done:∀σ H,P xs.length σ H→D.nx σ H) :
  ∃W:Nat→Nat→St→Hp→Prop,(∃m,W 0 m σ H)∧∀i m σ H,W i m σ H→((dS K a).stop i H∧D.nx σ H)∨((dS K a).go i H∧∃N:St→Hp→Prop,(∀σ' H',N σ' H'→∃m',m'<m∧W (i+1) m' σ' H')∧∀x H',(dS K a).yld i H x H'→g x σ H' fun σ2 H2=>tb {D with nx:=N,ct:=N,bk:=D.nx} σ2 H2):=by
 refine ⟨fun i m σ H=>i≤xs.length∧m=xs.length - i∧P i σ H,⟨_,Nat.zero_le _,rfl,h0⟩,fun i m σ H w=>?_⟩
 obtain ⟨hi,hm,p⟩:=w
 have q1:=hl i σ H hi p
 by_cases e:i=xs.length
 ·refine .inl ⟨⟨xs,q1,by omega⟩,done σ H (e▸p)⟩
 ·have l1:i<xs.length:=by omega
  refine .inr ⟨⟨xs,_,q1,List.getElem?_eq_getElem l1⟩,P (i+1),fun σ' H' n=>⟨_,by omega,by omega,rfl,n⟩,fun v H' hy=>?_⟩
  obtain ⟨T,x,rfl,hT,rfl,h1⟩:=hy
  exact step i x σ H T (h1 xs q1) p hT
end
end L2
namespace L2
open PySem PySem.Spec PyProof.Rows
end L2
namespace L2
open PySem PySem.Spec PyProof.Rows
section
variable {X:Cx}
end
end L2
namespace L2
open PySem PySem.Spec PyProof.Rows
section
variable {prog:Program} {w:World} {A:Around} {s:Shared} {E:Value→Shared→Prop}
end
section
variable {X:Cx} {elts:List Expr} {x1:Nat} {tpos:Pos}
end
end L2
namespace L2
open PySem PySem.Spec PyProof.Rows
set_option maxRecDepth 100000
section
variable {X:Cx}
end
end L2
namespace L2
open PySem PySem.Spec PyProof.Rows
section
variable {prog:Program} {w:World} {A:Around} {s:Shared} {E:Value→Shared→Prop}
theorem H0 {a:Addr} {o:Obj} {Q:Option Obj→Shared→Prop} (h:s.heap.get? a=some o) (q:Q (some o) s):wpAny (model prog w) A (loadIfAlive a) Q E s:=fun Γ p _=>by
 show Sem.wp _ Γ (.loadIfAlive a .pure) _ _ p s
 rw [Sem.wp_loadIfAlive,h]
 exact q
abbrev bV (h:Heap) (z P1 P2:Addr) (f0:Value) (f1:Bool):Prop:=h.get? z=some {cls:=.type "zip",dict:=none,data:=.fields #[f0,.bool f1,.bool false,.ref P1,.ref P2],slots := #[]}
theorem mM {z P1 P2 T:Addr} {f1:Bool} {o:Obj} {Q:Bool→Shared→Prop} (hz:bV s.heap z P1 P2 (rawInt T) f1) (hT:s.heap.get? T=some o) (q:∀h',bV h' z P1 P2 (rawInt T) true→Heap.SameBut z s.heap h'→Q false {s with heap:=h'}):wpAny (model prog w) A (Builtin.SmallTypes.ownedTupleIsFree (.ref z)) Q E s:=by
 unfold Builtin.SmallTypes.ownedTupleIsFree
 refine wpAny_bind (wpAny_field hz rfl (x:=rawInt T) rfl ?_)
 show wpAny _ _ (loadIfAlive (Int.toNat (T:Int)) >>= _) _ _ _
 refine wpAny_bind (H0 (by rw [Int.toNat_natCast];exact hT) ?_)
 simp only [Option.isNone_some,Bool.false_eq_true,if_false]
 refine wpAny_bind (wpAny_field hz rfl (x:=.bool f1) rfl ?_)
 cases f1 with
 |true =>
  rw [if_neg (by decide)]
  refine wpAny_pure ?_
  exact q s.heap hz ⟨rfl,fun _ _=>rfl⟩
 |false =>
  rw [if_pos (by decide)]
  refine wpAny_bind (wpAny_setField_rec hz (by simp) fun m1 z1 d1=>wpAny_pure ?_)
  exact q m1 z1 d1
theorem CV {z P1 P2 j1 j2 a b T:Addr} {k:Nat} {us vs:Array Value} {u v:Value} {f1:Bool} {o:Obj} {Q:Value→Shared→Prop} (D:ZipApart z P1 P2 j1 j2 a b)
  (hz:bV s.heap z P1 P2 (rawInt T) f1) (hT:s.heap.get? T=some o) (hP1:IsPair s.heap P1 (.ref j1) (.ref j2)) (n1:s.heap.IsListIter j1 a k) (n2:s.heap.IsListIter j2 b k) (la:s.heap.IsList a us) (lb:s.heap.IsList b vs) (hu:us[k]?=some u) (hv:vs[k]?=some v)
  (q:∀h',bV h' z P1 P2 (rawInt T) true→h'.IsListIter j1 a (k+1)→h'.IsListIter j2 b (k+1)→IsPair h' s.heap.objs.size u v→h'.objs.size=s.heap.objs.size+1→(∀c o,c≠z→c≠j1→c≠j2→s.heap.get? c=some o→h'.get? c=some o)→Q (.ref s.heap.objs.size) {s with heap:=h'}):wpAny (model prog w) A (Builtin.«zip.__next__» ⟨[.ref z],[]⟩) (fun fin s'=>∃v,fin=.done (.ret v)∧Q v s') E s:=by
 show wpAny _ _ (field (.ref z) 2 >>= _) _ _ _;refine wpAny_bind (wpAny_field hz rfl (x:=.bool false) rfl ?_);show wpAny _ _ (field (.ref z) 3 >>= _) _ _ _
 refine wpAny_bind (wpAny_field hz rfl (x:=.ref P1) rfl ?_);refine wpAny_bind (wpAny_seqItems hP1 rfl ?_)
 show wpAny _ _ (Builtin.SmallTypes.ownedTupleIsFree (.ref z) >>= _) _ _ _;refine wpAny_bind (mM hz hT fun m1 z1 d1=>?_)
 simp only [Bool.false_eq_true,if_false]
 refine wpAny_bind ?_;simp only [← Array.forIn_toList,List.forIn_cons,List.forIn_nil]
 refine wpAny_bind (wpAny_bind (wpAny_holding ?_));show wpAny _ _ (Builtin.SmallTypes.nextOf (.ref j1) >>= _) _ _ _
 refine wpAny_bind (wpAny_nextOf_list_item (n1.extBut d1.extBut D.i1z) (la.extBut d1.extBut D.l1z) hu fun m2 n12 d2=>wpAny_pure (wpAny_pure ?_))
 refine wpAny_bind (wpAny_bind (wpAny_holding ?_));show wpAny _ _ (Builtin.SmallTypes.nextOf (.ref j2) >>= _) _ _ _
 refine wpAny_bind (wpAny_nextOf_list_item ((n2.extBut d1.extBut D.i2z).extBut d2.extBut D.i12.symm) ((lb.extBut d1.extBut D.l2z).extBut d2.extBut D.l2i1) hv fun m3 n23 d3=>wpAny_pure (wpAny_pure (wpAny_pure ?_)))
 show wpAny _ _ (newTuple [u,v] >>= _) _ _ _
 refine wpAny_bind (wpAny_newTuple (wpAny_pure ⟨_,rfl,?_⟩))
 have sz:m3.objs.size=s.heap.objs.size:=by rw [d3.1,d2.1,d1.1]
 have up:∀c o,c≠z→c≠j1→c≠j2→s.heap.get? c=some o→(m3.push {cls:=.type "tuple",data:=.seq #[u,v]}).get? c=some o:=fun c o e1 e3 e4 e=>Heap.get?_push_of_some _ (d3.extBut _ _ e4 (d2.extBut _ _ e3 (d1.extBut _ _ e1 e)))
 have t8:IsPair (m3.push {cls:=.type "tuple",data:=.seq #[u,v]}) m3.objs.size u v:=Heap.get?_push_size _ rfl
 show Q (.ref m3.objs.size) _
 rw [sz] at t8 ⊢
 exact q _ (Heap.get?_push_of_some _ (d3.extBut _ _ D.i2z.symm (d2.extBut _ _ D.i1z.symm z1))) ((n12.extBut d3.extBut D.i12).at fun o e=>Heap.get?_push_of_some _ e) (n23.at fun o e=>Heap.get?_push_of_some _ e) t8 (by rw [Heap.size_push,sz]) up
theorem EG {z P1 P2 j1 j2 a b T:Addr} {k:Nat} {us vs:Array Value} {f1:Bool} {o:Obj} {Q:Fin→Shared→Prop} (hh:A.handled=none) (D:ZipApart z P1 P2 j1 j2 a b)
  (hz:bV s.heap z P1 P2 (rawInt T) f1) (hT:s.heap.get? T=some o) (hP1:IsPair s.heap P1 (.ref j1) (.ref j2)) (n1:s.heap.IsListIter j1 a k) (n2:s.heap.IsListIter j2 b k) (la:s.heap.IsList a us) (lb:s.heap.IsList b vs) (he:us[k]?=none∨vs[k]?=none)
  (q:∀h' e,(∀c o,c≠z→c≠j1→c≠j2→s.heap.get? c=some o→h'.get? c=some o)→(∃o,h'.get? e=some o∧o.cls=.type "StopIteration")→E (.ref e) {s with heap:=h'}):wpAny (model prog w) A (Builtin.«zip.__next__» ⟨[.ref z],[]⟩) Q E s:=by
 show wpAny _ _ (field (.ref z) 2 >>= _) _ _ _;refine wpAny_bind (wpAny_field hz rfl (x:=.bool false) rfl ?_);show wpAny _ _ (field (.ref z) 3 >>= _) _ _ _
 refine wpAny_bind (wpAny_field hz rfl (x:=.ref P1) rfl ?_);refine wpAny_bind (wpAny_seqItems hP1 rfl ?_)
 show wpAny _ _ (Builtin.SmallTypes.ownedTupleIsFree (.ref z) >>= _) _ _ _;refine wpAny_bind (mM hz hT fun m1 z1 d1=>?_)
 simp only [Bool.false_eq_true,if_false]
 refine wpAny_bind ?_;simp only [← Array.forIn_toList,List.forIn_cons,List.forIn_nil]
 refine wpAny_bind (wpAny_bind (wpAny_holding ?_));show wpAny _ _ (Builtin.SmallTypes.nextOf (.ref j1) >>= _) _ _ _
 cases hu:us[k]? with
 |none =>
  refine wpAny_bind (wpAny_nextOf_list_end hh (n1.extBut d1.extBut D.i1z) (la.extBut d1.extBut D.l1z) hu fun m2 e d2 st=>?_)
  exact q m2 e (fun c o e1 e3 e4 x=>d2 _ _ e3 (d1.extBut _ _ e1 x)) st
 |some u =>
  have hv:vs[k]?=none:=by rcases he with h|h;rw [hu] at h;cases h;exact h
  refine wpAny_bind (wpAny_nextOf_list_item (n1.extBut d1.extBut D.i1z) (la.extBut d1.extBut D.l1z) hu fun m2 n12 d2=>wpAny_pure (wpAny_pure ?_))
  refine wpAny_bind (wpAny_bind (wpAny_holding ?_));show wpAny _ _ (Builtin.SmallTypes.nextOf (.ref j2) >>= _) _ _ _
  refine wpAny_bind (wpAny_nextOf_list_end hh ((n2.extBut d1.extBut D.i2z).extBut d2.extBut D.i12.symm) ((lb.extBut d1.extBut D.l2z).extBut d2.extBut D.l2i1) hv fun m3 e d3 st=>?_)
  exact q m3 e (fun c o e1 e3 e4 x=>d3 _ _ e4 (d2.extBut _ _ e3 (d1.extBut _ _ e1 x))) st
def ZStands (h:Heap) (N z P1 P2 j1 j2 a b:Addr) (us vs:Array Value) (k:Nat):Prop :=
 ((IsZip h z P1 P2 .none∧∃g g',IsPair h P2 g g')∨∃(T:Addr) (f1:Bool) (o:Obj),bV h z P1 P2 (rawInt T) f1∧N≤T∧h.get? T=some o)∧IsPair h P1 (.ref j1) (.ref j2)∧h.IsListIter j1 a k∧h.IsListIter j2 b k∧h.IsList a us∧h.IsList b vs
theorem FN {N z P1 P2 j1 j2 a b:Addr} {k:Nat} {us vs:Array Value} {u v:Value} {Q:Option Value→Shared→Prop} (D:ZipApart z P1 P2 j1 j2 a b) (b1:z<N) (b2:j1<N) (b3:j2<N) (bN:N≤s.heap.objs.size) (hs:ZStands s.heap N z P1 P2 j1 j2 a b us vs k) (hu:us[k]?=some u) (hv:vs[k]?=some v)
  (q:∀h',ZStands h' N z P1 P2 j1 j2 a b us vs (k+1)→IsPair h' s.heap.objs.size u v→h'.objs.size=s.heap.objs.size+1→(∀c o,c≠z→c≠P2→c≠j1→c≠j2→s.heap.get? c=some o→h'.get? c=some o)→Q (some (.ref s.heap.objs.size)) {s with heap:=h'}):wpAny (model prog w) A (pyNext (.ref z)) Q E s:=by
 obtain ⟨hz,hP1,n1,n2,la,lb⟩:=hs
 rcases hz with ⟨hz,g,g',hP2⟩|⟨T,f1,o,hz,t0,hT⟩
 ·refine wpAny_pyNext_zip_item D hz hP1 hP2 n1 n2 la lb hu hv fun h' hz' hP2' n1' n2' hT' hsz hk=>q h' ⟨.inr ⟨_,false,_,hz',bN,hT'⟩,hk _ _ D.TIz D.TITO D.TIi1 D.TIi2 hP1,n1',n2',la.at fun o e=>hk _ _ D.l1z D.l1TO D.l1i1 D.l1i2 e,lb.at fun o e=>hk _ _ D.l2z D.l2TO D.l2i1 D.l2i2 e⟩ hT' hsz hk
 ·have hTz:s.TypeIs (.ref z) "zip":=⟨_,hz,rfl⟩
  unfold pyNext
  refine wpAny_bind (wpAny_attempt (wpAny_callSpecial?_slot (name:=Str.ofString "__next__") hTz F.slot_zip_next (wpAny_call_entry F.slot_zip_next hTz F.entry_zip_next (CV D hz hT hP1 n1 n2 la lb hu hv fun h' hz' n1' n2' hT' hsz hk=>wpAny_pure ?_) (F.args_zip_next_1 _))))
  exact q h' ⟨.inr ⟨T,true,o,hz',t0,hk _ _ (Nat.ne_of_gt (Nat.lt_of_lt_of_le b1 t0)) (Nat.ne_of_gt (Nat.lt_of_lt_of_le b2 t0)) (Nat.ne_of_gt (Nat.lt_of_lt_of_le b3 t0)) hT⟩,hk _ _ D.TIz D.TIi1 D.TIi2 hP1,n1',n2',la.at fun o e=>hk _ _ D.l1z D.l1i1 D.l1i2 e,lb.at fun o e=>hk _ _ D.l2z D.l2i1 D.l2i2 e⟩ hT' hsz fun c o e1 _ e3 e4 e=>hk c o e1 e3 e4 e
theorem GY {N z P1 P2 j1 j2 a b:Addr} {k:Nat} {us vs:Array Value} {Q:Option Value→Shared→Prop} (hh:A.handled=none) (D:ZipApart z P1 P2 j1 j2 a b) (hs:ZStands s.heap N z P1 P2 j1 j2 a b us vs k) (he:us[k]?=none∨vs[k]?=none)
  (q:∀h',(∀c o,c≠z→c≠P2→c≠j1→c≠j2→s.heap.get? c=some o→h'.get? c=some o)→Q none {s with heap:=h'}):wpAny (model prog w) A (pyNext (.ref z)) Q E s:=by
 obtain ⟨hz,hP1,n1,n2,la,lb⟩:=hs
 rcases hz with ⟨hz,g,g',hP2⟩|⟨T,f1,o,hz,t0,hT⟩
 ·exact wpAny_pyNext_zip_end hh D hz hP1 hP2 n1 n2 la lb he q
 ·have hTz:s.TypeIs (.ref z) "zip":=⟨_,hz,rfl⟩
  unfold pyNext
  refine wpAny_bind (wpAny_attempt (wpAny_callSpecial?_slot (name:=Str.ofString "__next__") hTz F.slot_zip_next (wpAny_call_entry F.slot_zip_next hTz F.entry_zip_next (EG hh D hz hT hP1 n1 n2 la lb he fun h' e hk st=>?_) (F.args_zip_next_1 _))))
  obtain ⟨oe,ee,ce⟩:=st
  refine wpAny_bind (wpAny_isInstance (T:="StopIteration") (b:=true) ⟨oe,ee,ce⟩ isSubtype_stop ?_)
  exact wpAny_pure (q _ fun c o e1 _ e3 e4 e=>hk c o e1 e3 e4 e)
theorem ZStands.keep {h h':Heap} {N z P1 P2 j1 j2 a b S:Addr} {us vs:Array Value} {k:Nat} (hs:ZStands h N z P1 P2 j1 j2 a b us vs k) (bS:S<N) (nS:∀c∈[z,P1,P2,j1,j2,a,b],c≠S) (kp:∀c o,c≠S→h.get? c=some o→h'.get? c=some o):ZStands h' N z P1 P2 j1 j2 a b us vs k:=by
 obtain ⟨hz,hP1,n1,n2,la,lb⟩:=hs
 have nS':∀c,c∈[z,P1,P2,j1,j2,a,b]→∀o,h.get? c=some o→h'.get? c=some o:=fun c hc o e=>kp c o (nS c hc) e
 refine ⟨?_,nS' _ (by simp) _ hP1,n1.at fun o e=>nS' _ (by simp) o e,n2.at fun o e=>nS' _ (by simp) o e,la.at fun o e=>nS' _ (by simp) o e,lb.at fun o e=>nS' _ (by simp) o e⟩
 rcases hz with ⟨hz,g,g',hP2⟩|⟨T,f1,o,hz,t0,hT⟩
 ·exact .inl ⟨nS' _ (by simp) _ hz,g,g',nS' _ (by simp) _ hP2⟩
 ·exact .inr ⟨T,f1,o,nS' _ (by simp) _ hz,t0,kp _ _ (Nat.ne_of_gt (Nat.lt_of_lt_of_le bS t0)) hT⟩
def Pairs (h:Heap) (N:Addr) (us vs acc:Array Value) (k:Nat):Prop:=acc.size=k∧(∀(j:Nat) (v:Value),acc[j]?=some v→∃(T:Addr) (x y:Value),v=.ref T∧N≤T∧T<h.objs.size∧IsPair h T x y∧us[j]?=some x∧vs[j]?=some y)∧∀(i j:Nat) (v:Value),acc[i]?=some v→acc[j]?=some v→i=j
theorem Pairs.keep {h h':Heap} {N:Addr} {us vs acc:Array Value} {k:Nat} (p:Pairs h N us vs acc k) (kp:∀c o,N≤c→h.get? c=some o→h'.get? c=some o) (sz:h.objs.size≤h'.objs.size):Pairs h' N us vs acc k:=⟨p.1,fun j v hv=>by
 obtain ⟨T,x,y,e1,e2,e3,e4,e5⟩:=p.2.1 j v hv
 exact ⟨T,x,y,e1,e2,Nat.lt_of_lt_of_le e3 sz,kp _ _ e2 e4,e5⟩,p.2.2⟩
theorem Pairs.push {h:Heap} {N T:Addr} {us vs acc:Array Value} {k:Nat} {x y:Value} (p:Pairs h N us vs acc k) (tn:∀(j:Nat),acc[j]?≠some (.ref T)) (t0:N≤T) (t1:T<h.objs.size) (t2:IsPair h T x y) (hx:us[k]?=some x) (hy:vs[k]?=some y):Pairs h N us vs (acc.push (.ref T)) (k+1):=by
 refine ⟨by rw [Array.size_push,p.1],fun j v hj=>?_,fun i j v hi hj=>?_⟩
 ·rw [Array.getElem?_push] at hj
  split at hj
  ·rename_i e;rw [p.1] at e;cases hj;rw [e];exact ⟨T,x,y,rfl,t0,t1,t2,hx,hy⟩
  ·exact p.2.1 j v hj
 ·rw [Array.getElem?_push] at hi hj
  split at hi<;>split at hj
  ·omega
  ·cases hi;exact absurd hj (tn j)
  ·cases hj;exact absurd hi (tn i)
  ·exact p.2.2 i j v hi hj
theorem EF {R:Result→Shared→Prop} (hh:A.handled=none) {N z P1 P2 j1 j2 a b S:Addr} {us vs:Array Value} (D:ZipApart z P1 P2 j1 j2 a b) (bz:∀c∈[z,P2,j1,j2,S],c<N) (nS:∀c∈[z,P1,P2,j1,j2,a,b],c≠S) (hn:min us.size vs.size≤sizeLine) (res:Value) :
  ∀(m k:Nat) (s:Shared) (acc:Array Value) (c:Nat),min us.size vs.size - k=m→k≤min us.size vs.size→N≤s.heap.objs.size→ZStands s.heap N z P1 P2 j1 j2 a b us vs k→s.heap.get? S=some {cls:=.type "list",dict:=none,data:=.seq acc c,slots := #[]}→Pairs s.heap N us vs acc k→
  (∀h' acc' c',(∀d o,d∉[z,P2,j1,j2,S]→s.heap.get? d=some o→h'.get? d=some o)→h'.get? S=some {cls:=.type "list",dict:=none,data:=.seq acc' c',slots := #[]}→Pairs h' N us vs acc' (min us.size vs.size)→R (.ok (.ret res)) {s with heap:=h'})→
  codeAny (model prog w) A (.builtin "list.extend.loop" ⟨[.ref S,.ref z,res],[]⟩) R s:=by
 have nz:S≠z:=(nS z (by simp)).symm
 have nP:S≠P2:=(nS P2 (by simp)).symm
 have n1:S≠j1:=(nS j1 (by simp)).symm
 have n2:S≠j2:=(nS j2 (by simp)).symm
 have big:∀c,N≤c→c∉[z,P2,j1,j2,S]:=fun c hc hm=>Nat.lt_irrefl _ (Nat.lt_of_lt_of_le (bz c hm) hc)
 intro m
 induction m with
 |zero =>
  intro k s acc c hm hk bN hs hS hp q
  obtain rfl:k=min us.size vs.size:=by omega
  refine codeAny_builtin F.entry_extend_loop ?_
  rw [Around.under_plainId F.plain_extend_loop _]
  show wpAny _ A.in1 (pyNext (.ref z) >>= _) _ _ s
  refine wpAny_bind (GY (by simp [hh]) D hs (by rcases Nat.le_total us.size vs.size with e|e;exact .inl (by rw [Nat.min_eq_left e];simp);exact .inr (by rw [Nat.min_eq_right e];simp)) fun h' kp=>wpAny_pure ?_)
  have kp':∀d o,d∉[z,P2,j1,j2,S]→s.heap.get? d=some o→h'.get? d=some o:=fun d o hd e=>by
   simp only [List.mem_cons,List.mem_nil_iff,or_false,not_or] at hd
   exact kp d o hd.1 hd.2.1 hd.2.2.1 hd.2.2.2.1 e
  refine q h' acc c kp' (kp S _ nz nP n1 n2 hS) ⟨hp.1,fun j v hv=>?_,hp.2.2⟩
  obtain ⟨T,x,y,e1,e2,e3,e4,e5⟩:=hp.2.1 j v hv
  have e4':=kp' _ _ (big T e2) e4
  exact ⟨T,x,y,e1,e2,Heap.lt_size e4',e4',e5⟩
 |succ m ih =>
  intro k s acc c hm hk bN hs hS hp q
  have l1:k<us.size:=by omega
  have l2:k<vs.size:=by omega
  refine codeAny_builtin F.entry_extend_loop ?_
  rw [Around.under_plainId F.plain_extend_loop _]
  show wpAny _ A.in1 (pyNext (.ref z) >>= _) _ _ s
  refine wpAny_bind (FN D (bz _ (by simp)) (bz _ (by simp)) (bz _ (by simp)) bN hs (Array.getElem?_eq_getElem l1) (Array.getElem?_eq_getElem l2) fun h' hs' hT hsz kp=>?_)
  have kp':∀d o,d∉[z,P2,j1,j2,S]→s.heap.get? d=some o→h'.get? d=some o:=fun d o hd e=>by
   simp only [List.mem_cons,List.mem_nil_iff,or_false,not_or] at hd
   exact kp d o hd.1 hd.2.1 hd.2.2.1 hd.2.2.2.1 e
  have hS':=kp S _ nz nP n1 n2 hS
  show wpAny _ A.in1 (updateSeq S (·.push (.ref s.heap.objs.size)) >>= _) _ _ _
  refine wpAny_bind ?_
  have kq:∀d o,d≠S→h'.get? d=some o→(h'.update S (Obj.mapSeq (·.push (.ref s.heap.objs.size)))).get? d=some o:=fun d o hd e=>(Heap.get?_update_other _ _ (Ne.symm hd)).trans e
  have bS:S<N:=bz S (by simp)
  refine wpAny_updateSeq hS' rfl (wpAny_pure ⟨plainId_quiet F.plain_extend_loop _,ih (k+1) _ (acc.push (.ref s.heap.objs.size)) _ (by omega) (by omega) ?_ (hs'.keep bS nS kq) (Heap.get?_update_self _ hS' rfl) ?_ fun h2 acc' c' kp2 hS2 hp2=>?_⟩) (by rw [hp.1];omega) (by show (acc.push _).size≤sizeLine+1;rw [Array.size_push,hp.1];omega)
  ·show N≤(h'.update S _).objs.size
   rw [Heap.size_update,hsz];exact Nat.le_succ_of_le bN
  ·refine (((hp.keep (h':=h') (fun c o hc e=>kp' c o (big c hc) e) (by rw [hsz];exact Nat.le_succ _)).push (fun j hj=>by obtain ⟨T,_,_,e1,_,e3,_⟩:=hp.2.1 j _ hj;cases e1;exact Nat.lt_irrefl _ e3) bN (by rw [hsz];exact Nat.lt_succ_self _) hT (Array.getElem?_eq_getElem l1) (Array.getElem?_eq_getElem l2))).keep (fun c o hc e=>kq c o (Nat.ne_of_gt (Nat.lt_of_lt_of_le bS hc)) e) ?_
   show h'.objs.size≤(h'.update S _).objs.size
   rw [Heap.size_update];exact Nat.le_refl _
  ·refine q h2 acc' c' (fun d o hd e=>kp2 d o hd (kq d o (fun x=>hd (by rw [x];simp)) (kp' d o hd e))) hS2 hp2
theorem BR:typeLookup (.type "zip") "__len__"=pure none:=by rw [typeLookup_type,builtinLookup_eq_fast];kernel_rfl
theorem BH:typeLookup (.type "zip") "__length_hint__"=pure none:=by rw [typeLookup_type,builtinLookup_eq_fast];kernel_rfl
theorem BS {R:Result→Shared→Prop} (hh:A.handled=none) {N z P1 P2 j1 j2 a b S:Addr} {us vs:Array Value} (D:ZipApart z P1 P2 j1 j2 a b) (bz:∀c∈[z,P2,j1,j2,S],c<N) (nS:∀c∈[z,P1,P2,j1,j2,a,b],c≠S) (hn:min us.size vs.size≤sizeLine) (res:Value) (c₀:Nat) (bN:N≤s.heap.objs.size) (hz:IsZip s.heap z P1 P2 .none)
  (hs:ZStands s.heap N z P1 P2 j1 j2 a b us vs 0) (hS:s.heap.get? S=some {cls:=.type "list",data:=.seq #[] c₀})
  (q:∀h' acc' c',(∀d o,d∉[z,P2,j1,j2,S]→s.heap.get? d=some o→h'.get? d=some o)→h'.get? S=some {cls:=.type "list",dict:=none,data:=.seq acc' c',slots := #[]}→Pairs h' N us vs acc' (min us.size vs.size)→R (.ok (.ret res)) {s with heap:=h'}) :
  wpAny (model prog w) A.in1 (Builtin.List.listExtendWith (.ref S) (.ref z) res)
   (fun fin s'=>match fin with|.done f=>R (.ok f) s'|.again c'=>c'.quiet=true∧codeAny (model prog w) A c' R s') (fun e s'=>R (.error e) s') s:=by
 have hT:s.TypeIs (.ref z) "zip":=⟨_,hz,rfl⟩
 have nz:S≠z:=(nS z (by simp)).symm
 unfold Builtin.List.listExtendWith
 refine wpAny_bind (wpAny_typeOf hT ?_)
 have e1:Builtin.List.listSameRef (.ref S) (.ref z)=false:=by simp [Builtin.List.listSameRef,nz]
 have e2:(Value.type "zip" == Value.type "list")=false:=by decide
 have e3:(Value.type "zip" == Value.type "tuple")=false:=by decide
 simp only [e1,e2,e3,Bool.or_false,Bool.false_eq_true,if_false]
 refine wpAny_bind (wpAny_pyIter_zip hz ?_);refine wpAny_bind (wpAny_holding ?_)
 unfold Builtin.List.listLengthHint
 refine wpAny_bind (wpAny_specialOf hT BR ?_)
 show wpAny _ _ (specialOf (Value.ref z) (Str.ofString "__length_hint__") >>= _) _ _ _
 refine wpAny_bind (wpAny_specialOf hT BH ?_);refine wpAny_pure ?_
 show wpAny _ _ (rule "list.extend.makes-room" >>= fun _=>Builtin.List.listTouch (.ref S) >>= fun _=>again (.builtin "list.extend.loop" ⟨[.ref S,.ref z,res],[]⟩)) _ _ _
 refine wpAny_bind (wpAny_rule ?_);refine wpAny_bind ?_
 show wpAny _ _ (updateSeq S (·.push .none) >>= fun _=>updateSeq S (·.pop)) _ _ _
 refine wpAny_bind (wpAny_updateSeq hS rfl ?_)
 have g2:=Heap.get?_update_self (Obj.mapSeq (·.push Value.none)) hS rfl
 refine wpAny_updateSeq (hz:=by seq_fits) g2 rfl ?_
 have g3:=Heap.get?_update_self (Obj.mapSeq (·.pop)) g2 rfl
 have kq:∀d o,d≠S→s.heap.get? d=some o→((s.heap.update S (Obj.mapSeq (·.push Value.none))).update S (Obj.mapSeq (·.pop))).get? d=some o:=fun d o hd e=>(Heap.get?_update_other _ _ (Ne.symm hd)).trans ((Heap.get?_update_other _ _ (Ne.symm hd)).trans e)
 refine wpAny_pure ⟨plainId_quiet F.plain_extend_loop _,EF hh D bz nS hn res _ 0 _ #[] _ rfl (Nat.zero_le _) ?_ (hs.keep (bz S (by simp)) nS kq) g3 ⟨rfl,fun j v hv=>by simp at hv,fun i j v hi=>by simp at hi⟩ fun h' acc' c' kp hS' hp=>?_⟩
 ·show N≤((s.heap.update S _).update S _).objs.size
  rw [Heap.size_update,Heap.size_update];exact bN
 ·exact q h' acc' c' (fun d o hd e=>kp d o hd (kq d o (fun x=>hd (by rw [x];simp)) e)) hS' hp
theorem AU {Q:Value→Shared→Prop} (hh:A.handled=none) {z P1 P2 j1 j2 a b:Addr} {us vs:Array Value} (D:ZipApart z P1 P2 j1 j2 a b) (hn:min us.size vs.size≤sizeLine) (hz:IsZip s.heap z P1 P2 .none)
  (hs:∀N,ZStands s.heap N z P1 P2 j1 j2 a b us vs 0) (q:∀h' acc' c',(∀d o,d∉[z,P2,j1,j2]→s.heap.get? d=some o→h'.get? d=some o)→h'.get? s.heap.objs.size=some {cls:=.type "list",dict:=none,data:=.seq acc' c',slots := #[]}→Pairs h' (s.heap.objs.size+1) us vs acc' (min us.size vs.size)→Q (.ref s.heap.objs.size) {s with heap:=h'}) :
  wpAny (model prog w) A (call (.type "list") [.ref z]) Q E s:=by
 have lt:∀{c:Addr} {o:Obj},s.heap.get? c=some o→c<s.heap.objs.size:=fun e=>Heap.lt_size e
 obtain ⟨h2,hP1,n1,n2,la,lb⟩:=hs (s.heap.objs.size+1)
 have bz:∀c∈[z,P1,P2,j1,j2,a,b],c<s.heap.objs.size:=by
  have hP2:P2<s.heap.objs.size:=by
   rcases h2 with ⟨_,g,g',h⟩|⟨T,f1,o,h,_⟩
   ·exact lt h
   ·have y:=hz.symm.trans h;cases y
  intro c hc
  simp only [List.mem_cons,List.mem_nil_iff,or_false] at hc
  obtain ⟨_,w1,_⟩:=id n1;obtain ⟨_,w2,_⟩:=id n2;obtain ⟨_,w3,_⟩:=id la;obtain ⟨_,w4,_⟩:=id lb
  rcases hc with rfl|rfl|rfl|rfl|rfl|rfl|rfl
  ·exact lt hz
  ·exact lt hP1
  ·exact hP2
  ·exact lt w1
  ·exact lt w2
  ·exact lt w3
  ·exact lt w4
 refine callType_codes (Q₁:=fun obj s₁=>obj=.ref s.heap.objs.size∧s₁={s with heap:=s.heap.push {cls:=.type "list",data:=.seq #[]}}) F.called_list (F.typeCall_list_1 _) F.entry_list_init (code_list_new _ ⟨rfl,rfl⟩) fun obj s₁ e₁=>?_
 obtain ⟨rfl,rfl⟩:=e₁
 have g1:(s.heap.push {cls:=.type "list",data:=.seq #[]}).get? s.heap.objs.size=some {cls:=.type "list",data:=.seq #[]}:=Heap.get?_push_size _ rfl
 have kp0:∀d o,s.heap.get? d=some o→(s.heap.push {cls:=.type "list",data:=.seq #[]}).get? d=some o:=fun d o e=>Heap.get?_push_of_some _ e
 refine ⟨⟨_,g1,rfl⟩,F.args_list_init_2 _ _,?_⟩
 show wpAny _ _ (do let old ← Builtin.List.listItems (.ref s.heap.objs.size);Builtin.List.listUpdate (.ref s.heap.objs.size) (fun _ => #[]);letGo old.toList.reverse;Builtin.List.listExtendWith (.ref s.heap.objs.size) (.ref z) .none) _ _ _
 refine wpAny_bind ?_
 unfold Builtin.List.listItems
 refine wpAny_bind (wpAny_seqItems g1 rfl (wpAny_pure ?_))
 show wpAny _ _ (updateSeq s.heap.objs.size (fun _ => #[]) >>= fun _=>letGo (#[]:Array Value).toList.reverse >>= fun _=>Builtin.List.listExtendWith (.ref s.heap.objs.size) (.ref z) .none) _ _ _
 refine wpAny_bind (wpAny_updateSeq g1 rfl ?_)
 have g2:=Heap.get?_update_self (Obj.mapSeq (fun _=>(#[]:Array Value))) g1 rfl
 have kq:∀d o,d≠s.heap.objs.size→s.heap.get? d=some o→((s.heap.push {cls:=.type "list",data:=.seq #[]}).update s.heap.objs.size (Obj.mapSeq (fun _=>(#[]:Array Value)))).get? d=some o:=fun d o hd e=>(Heap.get?_update_other _ _ (Ne.symm hd)).trans (kp0 d o e)
 have nS:∀c∈[z,P1,P2,j1,j2,a,b],c≠s.heap.objs.size:=fun c hc=>Nat.ne_of_lt (bz c hc)
 refine wpAny_bind (wpAny_letGo ?_)
 refine BS (A:=A.in1) (N:=s.heap.objs.size+1) (by simp [hh]) D (fun c hc=>?_) nS hn .none _ ?_ (kq _ _ (nS z (by simp)) hz) ((hs (s.heap.objs.size+1)).keep (Nat.lt_succ_self _) nS kq) g2 fun h' acc' c' kp hS' hp=>⟨rfl,q h' acc' c' (fun d o hd e=>kp d o ?_ (kq d o ?_ e)) hS' hp⟩
 ·simp only [List.mem_cons,List.mem_nil_iff,or_false] at hc
  rcases hc with rfl|rfl|rfl|rfl|rfl
  ·exact Nat.lt_succ_of_lt (bz _ (by simp))
  ·exact Nat.lt_succ_of_lt (bz _ (by simp))
  ·exact Nat.lt_succ_of_lt (bz _ (by simp))
  ·exact Nat.lt_succ_of_lt (bz _ (by simp))
  ·exact Nat.lt_succ_self _
 ·show s.heap.objs.size+1≤((s.heap.push _).update _ _).objs.size
  rw [Heap.size_update,Heap.size_push];exact Nat.le_refl _
 ·have:=lt e
  simp only [List.mem_cons,List.mem_nil_iff,or_false,not_or] at hd ⊢
  exact ⟨hd.1,hd.2.1,hd.2.2.1,hd.2.2.2,Nat.ne_of_lt this⟩
 ·exact Nat.ne_of_lt (lt e)
end
end L2
namespace L2
open PySem PySem.Spec PyProof.Rows
section
variable {X:Cx} {pins:List (Addr×Obj)} {σ:List (Option V)} {H:Hp} {s:Shared} {h':Heap}
theorem Inv.laidAll {t':Nat} {H':Hp} (I:Inv X pins σ H s) (k:∀b u,s.heap.get? b=some u→h'.get? b=some u) (hold:Same H H') (hnew:∀b u,H' b=some u→H b=some u∨(s.heap.objs.size≤b∧ObjOk X.prog X.w H' h' b u)):Inv X pins σ H' {s with heap:=h',toks:=t'}:=by
  refine I.step (g':=s.gens) (d':=s.drawn) (ch:=[]) (fun b hb=>by cases hb) (fun b o _ _ _ e _=>k b o e) (fun b o _ _ _ e _=>⟨o.slots,k b o e⟩) (fun b o _ e n=>?_)
    (fun b o _ e=>⟨o,k b o e⟩) (fun b xs e=>hold _ _ e) (fun b u v e=>hold _ _ e) (fun b ps e=>⟨#[],by rw [hold _ _ e];simp⟩) (fun m hm=>?_) (fun b u e=>?_) I.bare
  · cases hb:H' b with
    |none=>rfl
    |some u =>
      rcases hnew b u hb with z|⟨z,_⟩
      · rw [n] at z;cases z
      · exact absurd (Heap.lt_size e) (Nat.not_lt_of_le z)
  · obtain ⟨o,es,ep,ho,r⟩:=hm
    exact ⟨o,es,ep,k _ o ho,r⟩
  · rcases hnew b u e with z|⟨_,z⟩
    · exact (I.hok b u z).stay (fun c v _ q=>k c v q) (fun c q=>hold _ _ q) fun c xs q=>hold _ _ q
    · exact z
end
section
variable {X:Cx}
def EK (K:PySem.W.Frag) (ta:TA):TE:=fun σ H Q=>ta σ H fun vs H1=>∃(a1 a2:Addr) (xs ys:List V),vs=[.ref a1,.ref a2]∧SqL K H1 a1 xs∧SqL K H1 a2 ys∧
 ∀(l:Addr) (ts:List V) (H':Hp),Same H1 H'→H1 l=none→H' l=some (.lst ts)→ts.length=min xs.length ys.length→(∀(i:Nat) (v:V),ts[i]?=some v→∃(T:Addr) (x y:V),v=.ref T∧H' T=some (.tup [x,y])∧xs[i]?=some x∧ys[i]?=some y)→Q (.ref l) H'
open Classical in
theorem B7 {a b:Expr} {ta:TA} {p p1 pos pos1:Pos} (hc:X.calm=true) (hgl:Gl X "list") (hml:X.mg "list"=none) (hg:Gl X "zip") (hm:X.mg "zip"=none) (ha:PA X [a,b] ta) (hs:starEach [a,b] X.env=[(false,eval a X.env),(false,eval b X.env)]:=by rfl) (hs2:starEach [b] X.env=[(false,eval b X.env)]:=by rfl)
  (hs3:starEach [.Call (.Name "zip" p1) [a,b] [] pos1] X.env=[(false,eval (.Call (.Name "zip" p1) [a,b] [] pos1) X.env)]:=by rfl) :
  PE X (.Call (.Name "list" p) [.Call (.Name "zip" p1) [a,b] [] pos1] [] pos) (EK X.K ta):=by
 intro pins s σ H Q I h
 refine wpAny_Call_Name_kw (y4 I hgl hml PyProof.Rows.boot_list ?_)
 refine PyProof.Rows.callWith_type1 ?_ hs3 rfl
 rw [hs3]
 show wpAny _ _ (spliced [(false,eval (.Call (.Name "zip" p1) [a,b] [] pos1) X.env)]) _ _ s
 refine Calls.spliced_cons ?_
 refine Call_ (y4 I hg hm boot_zip (PyProof.Rows.callWith_type1 (jL (ha pos1 pins s σ H _ I h) fun us s1 ⟨vs,H1,I1,r1,q1⟩=>?_) (by rw [hs,hs2]) (by rw [hs2];rfl)))
 obtain ⟨a1,a2,xs,ys,e,hq1,hq2,q⟩:=q1
 subst e
 cases r1 with
 |cons r rr =>
  cases rr with
  |cons r' rr =>
   cases rr
   cases r
   cases r'
   obtain ⟨its1,rv1,p1,z1⟩:=I1.list hq1
   obtain ⟨its2,rv2,p2,z2⟩:=I1.list hq2
   have lt1:a1<s1.heap.objs.size:=by obtain ⟨o,e,_⟩:=p1.isList;exact Heap.lt_size e
   have lt2:a2<s1.heap.objs.size:=by obtain ⟨o,e,_⟩:=p2.isList;exact Heap.lt_size e
   refine call_zip_2 p1.isList p2.isList fun h1 hz hTI hTO n1 n2 hsz hk=>?_
   refine Calls.spliced_nil ?_
   have D:ZipApart (s1.heap.objs.size+4) (s1.heap.objs.size+2) (s1.heap.objs.size+3) s1.heap.objs.size (s1.heap.objs.size+1) a1 a2:=by
    constructor<;>(intro e;simp only [Addr] at *;omega)
   have ll1:=rv1.length
   have ll2:=rv2.length
   refine AU (us:=its1.toArray) (vs:=its2.toArray) (I.ok.hd hc) D (by rw [List.size_toArray,List.size_toArray];omega) hz (fun N=>⟨.inl ⟨hz,_,_,hTO⟩,hTI,n1,n2,p1.isList.at fun o e=>hk _ o e,p2.isList.at fun o e=>hk _ o e⟩) fun h2 acc c kp hS hp=>?_
   show EP X pins σ Q (.ref h1.objs.size) {s1 with heap:=h2}
   have kall:∀b u,s1.heap.get? b=some u→h2.get? b=some u:=fun b u e=>by
    have hb:b<s1.heap.objs.size:=Heap.lt_size e
    refine kp b u ?_ (hk b u e)
    simp only [List.mem_cons,List.mem_nil_iff,or_false,not_or]
    simp only [Addr] at *
    omega
   have hmin:min its1.toArray.size its2.toArray.size=min xs.length ys.length:=by rw [List.size_toArray,List.size_toArray,← ll1,← ll2]
   rw [hmin] at hp
   have getV:∀(j:Nat),j<min xs.length ys.length→∃(T:Addr) (u v:Value) (x y:V),acc[j]?=some (.ref T)∧h1.objs.size+1≤T∧IsPair h2 T u v∧xs[j]?=some x∧ys[j]?=some y∧RelV x u∧RelV y v:=fun j hj=>by
    have hja:j<acc.size:=by rw [hp.1];exact hj
    obtain ⟨T,u,v,e1,e2,e3,e4,e5,e6⟩:=hp.2.1 j _ (Array.getElem?_eq_getElem hja)
    have hx:xs[j]?=some xs[j]:=List.getElem?_eq_getElem (by omega)
    have hy:ys[j]?=some ys[j]:=List.getElem?_eq_getElem (by omega)
    obtain ⟨u',hu',ru⟩:=rv1.get hx
    obtain ⟨v',hv',rv⟩:=rv2.get hy
    have e5':its1[j]?=some u:=by simpa using e5
    have e6':its2[j]?=some v:=by simpa using e6
    obtain rfl:u'=u:=Option.some.inj (hu'.symm.trans e5')
    obtain rfl:v'=v:=Option.some.inj (hv'.symm.trans e6')
    exact ⟨T,u',v',_,_,by rw [Array.getElem?_eq_getElem hja,e1],e2,e4,hx,hy,ru,rv⟩
   let cell:Nat→HO:=fun j=>.tup [xs.getD j .non,ys.getD j .non]
   let ts:List V:=acc.toList.map fun v=>match v with|.ref T=>.ref T|_=>.non
   let H2:Hp:=fun c=>if c=h1.objs.size then some (.lst ts) else if e:∃j:Nat,acc[j]?=some (.ref c) then some (cell (Classical.choose e)) else H1 c
   have hS2:H2 h1.objs.size=some (.lst ts):=if_pos rfl
   have hT2:∀(j:Nat) (T:Addr),acc[j]?=some (.ref T)→h1.objs.size+1≤T→H2 T=some (cell j):=fun j T e hT=>by
    have hx:∃j:Nat,acc[j]?=some (.ref T):=⟨j,e⟩
    show (if T=h1.objs.size then _ else if e:∃j:Nat,acc[j]?=some (.ref T) then some (cell (Classical.choose e)) else H1 T)=_
    rw [if_neg (Nat.ne_of_gt hT),dif_pos hx,hp.2.2 _ _ _ (Classical.choose_spec hx) e]
   have hle:s1.heap.objs.size≤h1.objs.size:=by rw [hsz];exact Nat.le_add_right _ _
   have hsame:Same H1 H2:=fun c o e=>by
    have n1':c≠h1.objs.size:=kE e (I1.hok.fresh hle)
    have n2':¬∃j:Nat,acc[j]?=some (.ref c):=fun ⟨j,ej⟩=>by
     obtain ⟨T,_,_,e1,e2,_⟩:=hp.2.1 j _ ej
     cases e1
     have:H1 c=none:=I1.hok.fresh (Nat.le_trans hle (Nat.le_of_succ_le e2))
     rw [this] at e;cases e
    show (if c=h1.objs.size then _ else if e:∃j:Nat,acc[j]?=some (.ref c) then some (cell (Classical.choose e)) else H1 c)=_
    rw [if_neg n1',dif_neg n2'];exact e
   have hts:ts.length=min xs.length ys.length:=by show (acc.toList.map _).length=_;rw [List.length_map,Array.length_toList,hp.1]
   have hvals:Vals ts acc.toList:=by
    have key:∀l:List Value,(∀v∈l,∃T,v=.ref T)→Vals (l.map fun v=>match v with|.ref T=>V.ref T|_=>.non) l:=fun l=>by
     induction l with
     |nil=>intro _;exact .nil
     |cons v l ih =>
      intro hl
      obtain ⟨T,rfl⟩:=hl v List.mem_cons_self
      exact .cons rfl (ih fun u hu=>hl u (List.mem_cons_of_mem _ hu))
    refine key _ fun v hv=>?_
    obtain ⟨j,hj⟩:=List.mem_iff_getElem?.mp hv
    rw [Array.getElem?_toList] at hj
    obtain ⟨T,_,_,e1,_⟩:=hp.2.1 j v hj
    exact ⟨T,e1⟩
   have hzl:min xs.length ys.length≤sizeLine:=by omega
   refine ⟨.ref h1.objs.size,H2,I1.laidAll (t':=s1.toks) kall hsame fun d o e=>?_,rfl,?_⟩
   ·by_cases c1:d=h1.objs.size
    ·subst c1
     rw [hS2] at e
     cases e
     exact .inr ⟨hle,by rw [hts];exact hzl,acc.toList,c,hvals,hS⟩
    ·by_cases c2:∃j:Nat,acc[j]?=some (.ref d)
     ·obtain ⟨j,ej⟩:=c2
      have hj:j<min xs.length ys.length:=by rw [← hp.1];exact (Array.getElem?_eq_some_iff.mp ej).1
      obtain ⟨T,u,v,x,y,e1,e2,e3,e4,e5,ru,rv⟩:=getV j hj
      obtain rfl:d=T:=by have:=ej.symm.trans e1;cases this;rfl
      rw [hT2 j d ej e2] at e
      cases e
      refine .inr ⟨Nat.le_trans hle (Nat.le_of_succ_le e2),(by show 2≤sizeLine;decide),[u,v],?_,⟨_,e3,rfl,_,rfl⟩⟩
      rw [show xs.getD j .non=x by rw [List.getD_eq_getElem?_getD,e4];rfl,show ys.getD j .non=y by rw [List.getD_eq_getElem?_getD,e5];rfl]
      exact .cons ru (.cons rv .nil)
     ·refine .inl ?_
      have e':(if d=h1.objs.size then some (HO.lst ts) else if e:∃j:Nat,acc[j]?=some (.ref d) then some (cell (Classical.choose e)) else H1 d)=some o:=e
      rw [if_neg c1,dif_neg c2] at e'
      exact e'
   ·refine q _ ts H2 hsame (I1.hok.fresh hle) hS2 hts fun i v hv=>?_
    have hi:i<min xs.length ys.length:=by rw [← hts];exact (List.getElem?_eq_some_iff.mp hv).1
    obtain ⟨T,u,w',x,y,e1,e2,e3,e4,e5,_⟩:=getV i hi
    have hv':(acc.toList.map fun v=>match v with|.ref T=>V.ref T|_=>.non)[i]?=some v:=hv
    rw [List.getElem?_map,Array.getElem?_toList,e1] at hv'
    cases hv'
    refine ⟨T,x,y,rfl,?_,e4,e5⟩
    rw [hT2 i T e1 e2]
    show some (HO.tup [xs.getD i .non,ys.getD i .non])=_
    rw [List.getD_eq_getElem?_getD,e4,List.getD_eq_getElem?_getD,e5]
    rfl
end
end L2
namespace L2
open PySem PySem.Spec PyProof.Rows
theorem iP {P:List Str→Prop} (h0:P []) (hs:∀zs z,P zs→P (zs++[z])) (zs:List Str):P zs:=by
 have key:∀l:List Str,P l.reverse:=fun l=>by
  induction l with
  |nil=>exact h0
  |cons z l ih=>rw [List.reverse_cons];exact hs _ _ ih
 rw [← List.reverse_reverse zs]
 exact key _
def qJ (zs:List Str):List Str:=zs.foldl (fun σ z=>if σ.contains z then σ else σ++[z]) []
theorem eJ (zs:List Str) (z:Str):qJ (zs++[z])=if (qJ zs).contains z then qJ zs else qJ zs++[z]:=by unfold qJ;rw [List.foldl_append];rfl
theorem i6 (zs:List Str):(qJ zs).length≤zs.length:=by
 induction zs using iP with
 |h0=>exact Nat.le_refl _
 |hs zs z ih =>
  rw [eJ,List.length_append,List.length_singleton]
  split
  ·omega
  ·rw [List.length_append,List.length_singleton];omega
theorem E4 (zs:List Str) (k:Str):(qJ zs).contains k=zs.contains k:=by
 induction zs using iP with
 |h0=>rfl
 |hs zs z ih =>
  rw [eJ]
  by_cases h:(qJ zs).contains z=true
  ·rw [if_pos h]
   by_cases e:k=z
   ·rw [e,h];simp
   ·rw [ih];simp [e]
  ·rw [if_neg h,List.contains_append,List.contains_append,ih]
theorem CC (zs:List Str):(qJ zs).length=zs.length↔zs.Nodup:=by
 induction zs using iP with
 |h0=>exact ⟨fun _=>List.nodup_nil,fun _=>rfl⟩
 |hs zs z ih =>
  have hle:=i6 zs
  have hc:=E4 zs z
  rw [eJ,List.length_append,List.length_singleton,List.nodup_append]
  by_cases h:(qJ zs).contains z=true
  ·rw [if_pos h]
   rw [h] at hc
   refine ⟨fun e=>absurd e (by omega),fun ⟨_,_,e⟩=>absurd rfl (e z (List.contains_iff_mem.mp hc.symm) z List.mem_cons_self)⟩
  ·rw [if_neg h,List.length_append,List.length_singleton]
   rw [Bool.eq_false_iff.mpr h] at hc
   refine ⟨fun e=>⟨ih.mp (by omega),List.nodup_cons.mpr ⟨List.not_mem_nil,List.nodup_nil⟩,fun a ha b hb=>?_⟩,fun ⟨e,_,_⟩=>by rw [ih.mpr e]⟩
   rw [List.mem_singleton.mp hb]
   rintro rfl
   rw [List.contains_iff_mem.mpr ha] at hc
   cases hc
section
variable {prog:Program} {w:World} {A:Around} {s:Shared} {E:Value→Shared→Prop}
theorem EM {R:Result→Shared→Prop} {J:Addr} {fp wr:List Addr} {G:Array GenState→Array GenState→Prop} {zs:List Str} {Pv:Nat→Value→Prop} {St:Nat→Shared→Prop} (W:WalksS prog w A.in1 J fp wr G zs.length Pv St) (D:Addr) (nf:D∉fp)
  (hv:∀i v,Pv i v→∃(z:Str) (t:Tok),zs[i]?=some z∧v=.str z t) (hb:zs.length+1<scanBound) :
  ∀(m i:Nat) (s:Shared),zs.length - i=m→i≤zs.length→St i s→s.heap.SetOf (strKind prog w) D (fun k=>(qJ (zs.take i)).contains k) (qJ (zs.take i)).length→
   (∀s',Moved (D::wr) G s s'→s'.heap.SetOf (strKind prog w) D (fun k=>(qJ zs).contains k) (qJ zs).length→R (.ok (.ret .none)) s')→
   codeAny (model prog w) A (.builtin "set.update.loop" ⟨[.ref D,.ref J],[]⟩) R s:=by
 have nw:D∉wr:=fun e=>nf (W.sub _ e)
 have sub:∀b∈wr,b∈D::wr:=fun b e=>List.mem_cons_of_mem _ e
 have hold:∀{s s':Shared} {S:Str→Bool} {n:Nat},Moved wr G s s'→s.heap.SetOf (strKind prog w) D S n→s'.heap.SetOf (strKind prog w) D S n:=fun hm ⟨o,es,ep,t,ho,rest⟩=>⟨o,es,ep,t,hm.heap D _ nw ho,rest⟩
 intro m
 induction m with
 |zero =>
  intro i s hm hi hst hS q
  obtain rfl:i=zs.length:=by omega
  rw [List.take_length] at hS
  refine codeAny_builtin F.entry_set_update_loop ?_
  rw [Around.under_plainId F.plain_set_update_loop _]
  show wpAny _ _ (pyNext (.ref J) >>= _) _ _ s
  refine wpAny_bind (W.done s _ _ hst fun s' hm=>wpAny_pure (q s' (hm.mono sub) (hold hm hS)))
 |succ m ih =>
  intro i s hm hi hst hS q
  have lt:i<zs.length:=by omega
  refine codeAny_builtin F.entry_set_update_loop ?_
  rw [Around.under_plainId F.plain_set_update_loop _]
  show wpAny _ _ (pyNext (.ref J) >>= _) _ _ s
  refine wpAny_bind (W.item i s _ _ lt hst fun v s' hP hst' hm'=>?_)
  obtain ⟨z,t,hz,rfl⟩:=hv i v hP
  have hS':=hold hm' hS
  have hlen:(qJ (zs.take i)).length≤i:=Nat.le_trans (i6 _) (List.length_take_le ..)
  have hnext:qJ (zs.take (i+1))=if (qJ (zs.take i)).contains z then qJ (zs.take i) else qJ (zs.take i)++[z]:=by rw [List.take_add_one,hz];exact eJ _ _
  show wpAny _ _ (holding [Value.str z t] (setAdd D (.str z t)) >>= _) _ _ s'
  refine wpAny_bind (wpAny_holding ?_)
  unfold setAdd
  refine wpAny_holding (wpAny_bind ((strKind prog w).pyHash (k:=z) (strKind_is _ _ _ _) ?_))
  refine wpAny_setAddHashed_of (knd:=strKind prog w) (s:={s' with toks:=s'.toks+1}) (strKind_is _ _ _ _) rfl hS' (by omega) fun h' hsb hS2=>?_
  have hSn:h'.SetOf (strKind prog w) D (fun k=>(qJ (zs.take (i+1))).contains k) (qJ (zs.take (i+1))).length:=by
   refine SetOf_congr hS2 (fun k=>?_) ?_
   ·rw [hnext]
    split
    ·rename_i e
     by_cases ek:k=z
     ·rw [ek,e];simp
     ·rw [decide_eq_false ek,Bool.or_false]
    ·rw [List.contains_append,List.contains_cons,List.contains_nil,Bool.or_false]
     by_cases ek:k=z
     ·rw [ek];simp
     ·rw [decide_eq_false ek];rw [beq_eq_false_iff_ne.mpr ek]
   ·rw [hnext]
    split<;>simp
  refine wpAny_pure ⟨plainId_quiet F.plain_set_update_loop _,ih (i+1) _ (by omega) lt (W.frame _ s' _ _ hst' (Nat.le_succ _) fun b hb o e=>?_) hSn fun s2 hm2 hS2=>?_⟩
  ·rw [hsb.2 b (fun x:b=D=>nf (by rw [← x];exact hb))];exact e
  ·refine q s2 (Moved.trans W.gtrans ((hm'.mono sub).then_heap (Nat.le_succ _) fun b o hb e=>?_) hm2) hS2
   rw [hsb.2 b (fun x:b=D=>hb (by rw [x];exact List.mem_cons_self))];exact e
set_option maxHeartbeats 3200000 in
theorem AT {Q:Value→Shared→Prop} {l:Addr} {us:Array Value} {zs:List Str} (hh:A.handled=none) (hl:s.heap.IsList l us) (hn:us.size=zs.length) (hv:∀(i:Nat) (v:Value),us[i]?=some v→∃(z:Str) (t:Tok),zs[i]?=some z∧v=.str z t) (hb:zs.length+1<scanBound)
  (q:∀(h':Heap) (tk:Nat),h'.SetOf (strKind prog w) s.heap.objs.size (fun k=>(qJ zs).contains k) (qJ zs).length→(∀b o,s.heap.get? b=some o→h'.get? b=some o)→Q (.ref s.heap.objs.size) {s with heap:=h',toks:=tk}) :
  wpAny (model prog w) A (call (.type "set") [.ref l]) Q E s:=by
 obtain ⟨c,tl,mr⟩:=F.called_set.mro
 have made:=F.called_set.made
 have subt:=F.called_set.sub
 refine wpAny_call (codeAny_of_tree (show wpAny _ _ (callAny (.type "set") _) _ _ _ from wpAny_pure ⟨Code.quiet_builtin _ (by decide +kernel),codeAny_builtin F.entry_type_call ?_⟩))
 rw [Around.under_plain (weight_type_call_type "set" [.ref l] []) rfl]
 have u1:=F.called_set.notType
 have u2:=F.called_set.canCreate
 have u3:=F.typeCall_set_1 (.ref l)
 repeat (any_goals (first|assumption|wp_step))
 refine codeAny_mono (code_set_new_1 (.ref l) (E:=E) (Q₁:=fun x s₁=>∃b:Bool,x=.ref s.heap.objs.size∧s₁={s with heap:=s.heap.push {cls:=.type "set",dict:=none,data:=.set #[] 0 (.fresh 0 0 b)}}) fun b=>⟨b,rfl,rfl⟩) fun r s₁ hr=>?_
 match r,hr with
 |.error e,hr=>exact hr
 |.ok (.ret x),hr =>
  obtain ⟨b,rfl,rfl⟩:=hr
  have g1:(s.heap.push {cls:=.type "set",dict:=none,data:=.set #[] 0 (.fresh 0 0 b)}).get? s.heap.objs.size=some {cls:=.type "set",dict:=none,data:=.set #[] 0 (.fresh 0 0 b)}:=Heap.get?_push_size _ rfl
  have ty:Shared.TypeIs {s with heap:=s.heap.push {cls:=.type "set",dict:=none,data:=.set #[] 0 (.fresh 0 0 b)}} (.ref s.heap.objs.size) "set":=⟨_,g1,rfl⟩
  have u4:=F.called_set.init.lookup
  have u5:=F.called_set.init.bind (.ref s.heap.objs.size)
  repeat (any_goals (first|assumption|wp_step))
  refine codeAny_mono (codeAny_call_builtin (R:=wants (fun r s₂=>r=.none∧∃h' tk,s₂={s with heap:=h',toks:=tk}∧h'.SetOf (strKind prog w) s.heap.objs.size (fun k=>(qJ zs).contains k) (qJ zs).length∧(∀b o,s.heap.get? b=some o→h'.get? b=some o)) E) F.called_set.init.plain F.entry_set_init (check_set_init_1 ty ?_)) fun r₂ s₂ hr₂=>?_
  ·obtain ⟨⟨k1,k2,k3,k4⟩,eo,ec,nl,ed⟩:=hl
   simp only at ec ed
   subst ec;subst ed
   have eo':(s.heap.push {cls:=.type "set",dict:=none,data:=.set #[] 0 (.fresh 0 0 b)}).get? l=some {cls:=.type "list",dict:=k2,data:=.seq us nl,slots:=k4}:=Heap.get?_push_of_some _ eo
   have u6:=F.sub_list_set
   have u7:=F.sub_list_frozenset
   have u8:(Value.type "list" == Value.type "dict")=false:=by decide
   have l1:(s.heap.push {cls:=.type "set",dict:=none,data:=.set #[] 0 (.fresh 0 0 b)}).IsList l us:=⟨_,eo',rfl,nl,rfl⟩
   have ll:l<s.heap.objs.size:=Heap.lt_size eo
   unfold Builtin.«set.__init__» noKeywords Builtin.Frozenset.updateFrom
   generalize hPI:pyIter=PI
   wp_walk
   subst hPI
   refine wpAny_pyIter_list l1 (wpAny_bind (wpAny_runValue ?_))
   have hnI:l≠(s.heap.push {cls:=.type "set",dict:=none,data:=.set #[] 0 (.fresh 0 0 b)}).objs.size:=by rw [Heap.size_push];exact Nat.ne_of_lt (Nat.lt_succ_of_lt ll)
   have nf:s.heap.objs.size∉[(s.heap.push {cls:=.type "set",dict:=none,data:=.set #[] 0 (.fresh 0 0 b)}).objs.size,l]:=by
    rw [Heap.size_push,List.mem_cons,List.mem_singleton,not_or];exact ⟨Nat.ne_of_lt (Nat.lt_succ_self _),Nat.ne_of_gt ll⟩
   refine EM (zs:=zs) (hn▸(Walks.list (by simp [hh]) _ l hnI us).toS) s.heap.objs.size nf (fun i v e=>hv i v e) hb _ 0 _ rfl (Nat.zero_le _) ⟨⟨_,Heap.get?_push_size _ rfl,rfl,rfl⟩,l1.push _⟩ ?hS ?hR
   case hS=>exact SetOf_congr ((setObjOf_fresh (knd:=strKind prog w) b).setOf (Heap.get?_push_of_some _ g1) (by unfold scanBound;omega)) (fun _=>rfl) rfl
   case hR =>
    intro s' hm hS'
    obtain ⟨h',g',d',tk',os'⟩:=s'
    obtain rfl:g'=s.gens:=hm.gens
    obtain rfl:d'=s.drawn:=hm.drawn
    obtain rfl:os'=s.os:=hm.os
    refine wpAny_pure (show wpAny _ _ (ret Value.none) _ _ _ from wpAny_pure ⟨rfl,h',tk',rfl,hS',fun b o e=>?_⟩)
    have lb:=Heap.lt_size e
    refine hm.heap b o ?_ (Heap.get?_push_of_some _ (Heap.get?_push_of_some _ e))
    rw [List.mem_cons,List.mem_singleton,not_or,Heap.size_push]
    exact ⟨Nat.ne_of_lt lb,Nat.ne_of_lt (Nat.lt_succ_of_lt lb)⟩
  ·match r₂,hr₂ with
   |.error e,hr₂=>exact hr₂
   |.ok (.ret x),hr₂ =>
    obtain ⟨rfl,h',tk,rfl,hS',kp⟩:=hr₂
    repeat (any_goals (first|assumption|wp_step))
    exact q _ _ hS' kp
end
end L2
namespace L2
open PySem PySem.Spec PyProof.Rows
def JN (xs:List V) (lo hi st:Option Int):List V:=(sliceRange (sliceBounds lo hi st xs.length).1 (sliceBounds lo hi st xs.length).2.1 (sliceBounds lo hi st xs.length).2.2).filterMap (xs[·]?)
theorem CW {xs:List V} {us:List Value} (r:Vals xs us) (js:List Nat):Vals (js.filterMap (xs[·]?)) (js.filterMap (us[·]?)):=by
 induction js with
 |nil=>exact .nil
 |cons j js ih =>
  cases hx:xs[j]? with
  |some x =>
   obtain ⟨u,hu,ru⟩:=r.get hx
   rw [List.filterMap_cons_some hx,List.filterMap_cons_some hu]
   exact .cons ru ih
  |none =>
   have hu:us[j]?=none:=by rw [List.getElem?_eq_none_iff] at hx ⊢;rw [← r.length];exact hx
   rw [List.filterMap_cons_none hx,List.filterMap_cons_none hu]
   exact ih
section
variable {X:Cx} {e se:Expr} {te:TE} {lo hi:Option Expr} {tl th tk:TO} {pos p2:Pos}
def KY (K:PySem.W.Frag) (x:V) (l u k:Option Int) (H:Hp) (Q:VK):Prop:=∃a xs,x=.ref a∧SqL K H a xs∧k≠some 0∧∀p,H p=none→Q (.ref p) (upd H p (.lst (JN xs l u k)))
def KH (K:PySem.W.Frag) (te:TE) (tl th tk:TO):TE:=fun σ H Q=>te σ H fun x H1=>tl σ H1 fun l H2=>th σ H2 fun u H3=>tk σ H3 fun k H4=>KY K x l u k H4 Q
theorem iE (he:PE X e te) (hl:PO X lo tl) (hu:PO X hi th) (hk:PO X (some se) tk):PE X (.Subscript e (.Slice lo hi (some se) p2) pos) (KH X.K te tl th tk):=by
 intro pins s σ H Q I h
 refine Subscript_ (jL (he pins s σ H _ I h) fun v s1 ⟨x,H1,I1,r1,q1⟩=>?_)
 refine wpAny_Slice (jL (hl pins s1 σ H1 _ I1 q1) fun vl s2 ⟨l,H2,I2,pl,q2⟩=>jL (hu pins s2 σ H2 _ I2 q2) fun vu s3 ⟨u,H3,I3,pu,q3⟩=>jL (hk pins s3 σ H3 _ I3 q3) fun vk s4 ⟨k,H4,I4,pk,q4⟩=>?_)
 obtain ⟨a,xs,rfl,hx,h0,q⟩:=q4
 cases r1
 have I5:Inv X pins σ H4 {s4 with heap:=s4.heap.push {cls:=.type "slice",data:=.fields #[vl,vu,vk]}}:=I4.kept (t':=s4.toks) fun b ob q=>Heap.get?_push_of_some _ q
 obtain ⟨its,r,ht,hz⟩:=I5.list hx
 have hlen:=r.length
 show wpAny (model X.prog X.w) X.A (subscriptTail e (.Slice lo hi (some se) p2) (.ref a) (.ref s4.heap.objs.size)) (EP X pins σ Q) X.xe {s4 with heap:=s4.heap.push {cls:=.type "slice",data:=.fields #[vl,vu,vk]}}
 refine tail_any (ops:=[.ref a,.ref s4.heap.objs.size]) ht.isList.typeIs slot_list_getitem.lookup (wpAny_getItem_list_slice ht.isList (Heap.IsSliceOf.new ..) pl pu pk h0 ?_ (by rw [List.size_toArray];omega)) (by with_unfolding_all rfl)
 have hp:Vals (JN xs l u k) (slicePick its.toArray l u k).toList:=by
  have e:(slicePick its.toArray l u k).toList=(sliceRange (sliceBounds l u k xs.length).1 (sliceBounds l u k xs.length).2.1 (sliceBounds l u k xs.length).2.2).filterMap (its[·]?):=by simp [slicePick,hlen]
  rw [e]
  exact CW r _
 have hs:=slicePick_size_le its.toArray l u k
 refine ⟨.ref _,_,I5.laid (t':=s4.toks) (o:=.lst (JN xs l u k)) (fun b ob q=>Heap.get?_push_of_some _ q) (Nat.le_refl _) ?_,rfl,q _ (I5.hok.fresh (Nat.le_refl _))⟩
 refine ⟨?_,_,0,hp,Heap.get?_push_size _ rfl⟩
 rw [hp.length,Array.length_toList]
 rw [show its.toArray.size=its.length from List.size_toArray] at hs
 omega
end
theorem AO {α:Type} (xs:List α) (f:Nat→Nat):∀n:Nat,(∀k,k<n→f k<xs.length)→((List.range n).map f).filterMap (xs[·]?)=(List.range n).filterMap fun k=>xs[f k]?:=fun n _=>by rw [List.filterMap_map];rfl
theorem gW (xs:List V) (n a:Nat) (h1:1≤a) (h3:a≤3) (hn:xs.length=3*n+1):JN xs (some (a:Int)) none (some 3)=(List.range n).filterMap fun k=>xs[a+3*k]?:=by
 unfold JN
 have hb:sliceBounds (some (a:Int)) none (some 3) xs.length=(max 0 (min (a:Int) (xs.length:Int)),(xs.length:Int),3):=by
  simp only [sliceBounds,Option.getD_some,show (3:Int)>0 by decide,if_true,show ¬((a:Int)<0) by omega,if_false]
 rw [hb]
 show (sliceRange _ (xs.length:Int) 3).filterMap _=_
 by_cases h0:n=0
 ·subst h0
  have:max 0 (min (a:Int) (xs.length:Int))=1:=by omega
  rw [this,hn]
  rfl
 have hm:max 0 (min (a:Int) (xs.length:Int))=(a:Int):=by omega
 rw [hm,hn]
 have hc:sliceRange (a:Int) ((3*n+1:Nat):Int) 3=(List.range n).map fun k=>a+3*k:=by
  unfold sliceRange
  have e1:(if (3:Int)>0 then (if (a:Int)<((3*n+1:Nat):Int) then (((3*n+1:Nat):Int) - (a:Int)+3 - 1) / 3 else 0) else (if (a:Int)>((3*n+1:Nat):Int) then ((a:Int) - ((3*n+1:Nat):Int) - 3 - 1) / (-3) else 0))=(n:Int):=by
   rw [if_pos (by decide),if_pos (by omega)]
   omega
  simp only [e1,Int.toNat_natCast]
  refine List.map_congr_left fun k _=>?_
  omega
 rw [hc]
 exact AO xs _ n fun k hk=>by omega
section
variable {X:Cx}
def FQ (K:PySem.W.Frag) (te:TE):TE:=fun σ H Q=>te σ H fun x H1=>∃(a:Addr) (zs:List Str),x=.ref a∧SqL K H1 a (zs.map V.str)∧zs.length≤1000∧Q (.int ((qJ zs).length:Int)) H1
theorem DE {a:Expr} {te:TE} {p p1 pos pos1:Pos} (hc:X.calm=true) (hgl:Gl X "len") (hml:X.mg "len"=none) (hg:Gl X "set") (hm:X.mg "set"=none) (ha:PE X a te) (hs:starEach [a] X.env=[(false,eval a X.env)]:=by rfl)
  (hs3:starEach [.Call (.Name "set" p1) [a] [] pos1] X.env=[(false,eval (.Call (.Name "set" p1) [a] [] pos1) X.env)]:=by rfl) :
  PE X (.Call (.Name "len" p) [.Call (.Name "set" p1) [a] [] pos1] [] pos) (FQ X.K te):=by
 intro pins s σ H Q I h
 refine wpAny_Call_Name_kw (y4 I hgl hml PySem.boot_len ?_)
 refine PyProof.Rows.callWith_builtin1 ?_ hs3 rfl
 rw [hs3]
 show wpAny _ _ (spliced [(false,eval (.Call (.Name "set" p1) [a] [] pos1) X.env)]) _ _ s
 refine Calls.spliced_cons ?_
 refine Call_ (y4 I hg hm boot_set (PyProof.Rows.callWith_type1 ?_ hs rfl))
 rw [hs]
 show wpAny _ _ (spliced [(false,eval a X.env)]) _ _ s
 refine Calls.spliced_cons (jL (ha pins s σ H _ I h) fun u s1 ⟨x,H1,I1,r1,q1⟩=>?_)
 refine Calls.spliced_nil ?_
 obtain ⟨l,zs,rfl,hq,hz,q⟩:=q1
 cases r1
 obtain ⟨its,rv,pl,_⟩:=I1.list hq
 have hlen:=rv.length
 rw [List.length_map] at hlen
 refine AT (us:=its.toArray) (zs:=zs) (I.ok.hd hc) pl.isList (by rw [List.size_toArray];exact hlen.symm) (fun i v hv=>?_) (by unfold scanBound;omega) fun h' tk hS kp=>?_
 ·have hv':its[i]?=some v:=by simpa using hv
  have hi:i<zs.length:=by rw [hlen];exact (List.getElem?_eq_some_iff.mp hv').1
  have hz':zs[i]?=some zs[i]:=List.getElem?_eq_getElem hi
  obtain ⟨u,hu,ru⟩:=rv.get (i:=i) (x:=.str zs[i]) (by rw [List.getElem?_map,hz'];rfl)
  obtain rfl:u=v:=Option.some.inj (hu.symm.trans hv')
  obtain ⟨t,rfl⟩:=ru
  exact ⟨_,t,hz',rfl⟩
 refine Calls.spliced_nil ?_
 obtain ⟨o,es,ep,t,ho,hex,hd,_,_,hb,hf,hn⟩:=hS
 have I2:Inv X pins σ H1 {s1 with heap:=h',toks:=tk}:=I1.kept (t':=tk) kp
 have hle:=i6 zs
 refine call_len_set (s:={s1 with heap:=h',toks:=tk}) ho hex hd hf (by rw [hn];omega) ?_
 exact ⟨.int ((qJ zs).length:Int),H1,I2.tok _,⟨_,by rw [hn]⟩,q⟩
end
end L2
namespace L2
open PySem PySem.Spec PyProof.Rows
section
end
end L2
namespace L2
open PySem PySem.Spec PyProof.Rows
section
variable {prog:Program} {w:World} {A:Around} {s:Shared} {E:Value→Shared→Prop}
end
section
variable {X:Cx} {elts:List Expr} {x1:Nat} {tpos:Pos}
end
end L2
namespace L2
open PySem PySem.Spec PyProof.Rows
section
variable {X:Cx}
end
end L2
namespace L2
open PySem PySem.Spec PyProof.Rows
end L2
namespace L2
open PySem PySem.Spec PyProof.Rows
section
variable {X:Cx}
end
end L2
namespace L2
end L2
namespace L2
theorem an3 {A0 A1 A2:Prop} (h0:A0) (h1:A1) (h2:A2):A0∧A1∧A2:=⟨h0,h1,h2⟩
theorem an4 {A0 A1 A2 A3:Prop} (h0:A0) (h1:A1) (h2:A2) (h3:A3):A0∧A1∧A2∧A3:=⟨h0,h1,h2,h3⟩
theorem an5 {A0 A1 A2 A3 A4:Prop} (h0:A0) (h1:A1) (h2:A2) (h3:A3) (h4:A4):A0∧A1∧A2∧A3∧A4:=⟨h0,h1,h2,h3,h4⟩
theorem an6 {A0 A1 A2 A3 A4 A5:Prop} (h0:A0) (h1:A1) (h2:A2) (h3:A3) (h4:A4) (h5:A5):A0∧A1∧A2∧A3∧A4∧A5:=⟨h0,h1,h2,h3,h4,h5⟩
theorem an7 {A0 A1 A2 A3 A4 A5 A6:Prop} (h0:A0) (h1:A1) (h2:A2) (h3:A3) (h4:A4) (h5:A5) (h6:A6):A0∧A1∧A2∧A3∧A4∧A5∧A6:=⟨h0,h1,h2,h3,h4,h5,h6⟩
theorem an8 {A0 A1 A2 A3 A4 A5 A6 A7:Prop} (h0:A0) (h1:A1) (h2:A2) (h3:A3) (h4:A4) (h5:A5) (h6:A6) (h7:A7):A0∧A1∧A2∧A3∧A4∧A5∧A6∧A7:=⟨h0,h1,h2,h3,h4,h5,h6,h7⟩
theorem an9 {A0 A1 A2 A3 A4 A5 A6 A7 A8:Prop} (h0:A0) (h1:A1) (h2:A2) (h3:A3) (h4:A4) (h5:A5) (h6:A6) (h7:A7) (h8:A8):A0∧A1∧A2∧A3∧A4∧A5∧A6∧A7∧A8:=⟨h0,h1,h2,h3,h4,h5,h6,h7,h8⟩
theorem an10 {A0 A1 A2 A3 A4 A5 A6 A7 A8 A9:Prop} (h0:A0) (h1:A1) (h2:A2) (h3:A3) (h4:A4) (h5:A5) (h6:A6) (h7:A7) (h8:A8) (h9:A9):A0∧A1∧A2∧A3∧A4∧A5∧A6∧A7∧A8∧A9:=⟨h0,h1,h2,h3,h4,h5,h6,h7,h8,h9⟩
theorem an11 {A0 A1 A2 A3 A4 A5 A6 A7 A8 A9 A10:Prop} (h0:A0) (h1:A1) (h2:A2) (h3:A3) (h4:A4) (h5:A5) (h6:A6) (h7:A7) (h8:A8) (h9:A9) (h10:A10):A0∧A1∧A2∧A3∧A4∧A5∧A6∧A7∧A8∧A9∧A10:=⟨h0,h1,h2,h3,h4,h5,h6,h7,h8,h9,h10⟩
theorem an12 {A0 A1 A2 A3 A4 A5 A6 A7 A8 A9 A10 A11:Prop} (h0:A0) (h1:A1) (h2:A2) (h3:A3) (h4:A4) (h5:A5) (h6:A6) (h7:A7) (h8:A8) (h9:A9) (h10:A10) (h11:A11):A0∧A1∧A2∧A3∧A4∧A5∧A6∧A7∧A8∧A9∧A10∧A11:=⟨h0,h1,h2,h3,h4,h5,h6,h7,h8,h9,h10,h11⟩
theorem an13 {A0 A1 A2 A3 A4 A5 A6 A7 A8 A9 A10 A11 A12:Prop} (h0:A0) (h1:A1) (h2:A2) (h3:A3) (h4:A4) (h5:A5) (h6:A6) (h7:A7) (h8:A8) (h9:A9) (h10:A10) (h11:A11) (h12:A12):A0∧A1∧A2∧A3∧A4∧A5∧A6∧A7∧A8∧A9∧A10∧A11∧A12:=⟨h0,h1,h2,h3,h4,h5,h6,h7,h8,h9,h10,h11,h12⟩
theorem an14 {A0 A1 A2 A3 A4 A5 A6 A7 A8 A9 A10 A11 A12 A13:Prop} (h0:A0) (h1:A1) (h2:A2) (h3:A3) (h4:A4) (h5:A5) (h6:A6) (h7:A7) (h8:A8) (h9:A9) (h10:A10) (h11:A11) (h12:A12) (h13:A13):A0∧A1∧A2∧A3∧A4∧A5∧A6∧A7∧A8∧A9∧A10∧A11∧A12∧A13:=⟨h0,h1,h2,h3,h4,h5,h6,h7,h8,h9,h10,h11,h12,h13⟩
theorem an15 {A0 A1 A2 A3 A4 A5 A6 A7 A8 A9 A10 A11 A12 A13 A14:Prop} (h0:A0) (h1:A1) (h2:A2) (h3:A3) (h4:A4) (h5:A5) (h6:A6) (h7:A7) (h8:A8) (h9:A9) (h10:A10) (h11:A11) (h12:A12) (h13:A13) (h14:A14):A0∧A1∧A2∧A3∧A4∧A5∧A6∧A7∧A8∧A9∧A10∧A11∧A12∧A13∧A14:=⟨h0,h1,h2,h3,h4,h5,h6,h7,h8,h9,h10,h11,h12,h13,h14⟩
end L2
namespace L2
open PySem PySem.Spec PyProof.Rows
section
variable {X:Cx}
end
end L2
namespace L2
open PySem PySem.Spec PyProof.Rows
end L2
namespace L2
open PySem PySem.Spec PyProof.Rows
end L2
namespace L2
open PySem PySem.Spec PyProof.Rows
section
variable {prog:Program} {w:World} {A:Around} {E:Value→Shared→Prop} {s:Shared}
end
section
variable {X:Cx}
end
end L2
namespace L2
open PySem PySem.Spec PyProof.Rows
section
variable {M:Model} {A:Around} {E:Value→Shared→Prop} {s:Shared}
end
section
variable {P:Program} {w:World} {K:PySem.W.Frag} {mg:Str→Option Value} {base:Heap} {N:List Str} {qual:Str} {scope:Scope} {f:Addr} {cd:Value} {A:Around} {outer:List Env} {s:Shared} {H:Hp} {E:XK}
end
section
variable {X:Cx} {N:List Str} {scope:Scope} {pins:List (Addr×Obj)} {σ:St} {H:Hp} {s:Shared} {fp:List Addr}
end
section
variable {P:Program} {w:World} {K:PySem.W.Frag} {mg:Str→Option Value} {base:Heap} {Nf:List Str} {qual:Str} {scf:Scope} {f:Addr} {cd:Value} {A:Around} {outer:List Env} {s₀:Shared} {H₀:Hp} {E:XK}
end
end L2
namespace L2
open PySem PySem.Spec PyProof.Rows
section
variable {X:Cx}
end
end L2
namespace L2
open PySem PySem.Spec PyProof.Rows
section
variable {P:Program} {w:World} {K:PySem.W.Frag} {mg:Str→Option Value} {base:Heap}
end
section
variable {X:Cx} {a b:Expr} {ta tb:TE} {r:R2} {pos:Pos}
end
theorem so {K:PySem.W.Frag} {H:Hp} {a:Addr} {xs:List V} (h:H a=some (.lst xs)):SqL K H a xs:=SqL.of h
end L2
namespace L2
open PySem PySem.Spec PyProof.Rows
section
variable {X:Cx} {N:List Str} {scope:Scope} {pins:List (Addr×Obj)} {σ:St} {H:Hp} {s:Shared} {fp:List Addr}
end
theorem cps {X:Cx} {N:List Str} {scope:Scope} (n:Nat) (js:List Nat) (a:N.length=n+js.length:=by rfl) (b:js.map (fun j=>X.N[j]?)=(N.drop n).map some:=by rfl) (c:∀x∈N.drop n,scope.names.lookup x=some .free:=by decide +kernel):bW X N scope (qB n js):=qI n js a b c
end L2
namespace My
open PySem L2
theorem zz0:0≤sizeLine:=by decide
theorem zz1:1≤sizeLine:=by decide
theorem zz2:2≤sizeLine:=by decide
theorem zz3:3≤sizeLine:=by decide
theorem zz4:4≤sizeLine:=by decide
theorem zz5:5≤sizeLine:=by decide
theorem zz6:6≤sizeLine:=by decide
theorem zz7:7≤sizeLine:=by decide
def top (i:Nat):Stmt:=PySem.Challenge.pw_lockhouse_k39_whole_shown_and_read.main.body.getD i (.Pass ⟨0,0,0,0⟩)
abbrev QY:Stmt:=vX (top 39) 0
abbrev QS:Stmt:=vX (top 40) 0
abbrev Q1:Stmt:=vX (top 41) 0
abbrev Q4:Stmt:=vX (top 19) 0
abbrev ZR:Stmt:=top 9
abbrev ZP:Stmt:=top 11
abbrev ZJ:Stmt:=top 15
abbrev ZY:Stmt:=top 14
abbrev J8:Stmt:=top 13
abbrev ZX:Stmt:=top 12
abbrev Q0:Stmt:=vX (top 39) 3
abbrev QU:Stmt:=vX (top 40) 3
abbrev Q3:Stmt:=vX (top 41) 2
abbrev QZ:Stmt:=vX (top 39) 4
abbrev QT:Stmt:=vX (top 40) 4
abbrev Q2:Stmt:=vX (top 41) 3
abbrev JT:Stmt:=vX (top 20) 0
abbrev QW:Stmt:=vX (top 20) 6
abbrev QX:Stmt:=vX (top 20) 7
abbrev QV:Stmt:=vX (top 20) 3
abbrev JV:Stmt:=vX (top 20) 8
abbrev JU:Stmt:=vX (top 20) 9
abbrev J9:Stmt:=top 32
abbrev J4:Stmt:=top 35
abbrev ZM:Stmt:=top 36
abbrev ZN:Stmt:=top 37
abbrev zO:Stmt:=top 34
abbrev ZQ:Stmt:=top 18
abbrev QA:Stmt:=top 25
abbrev ZH:Stmt:=top 26
abbrev ZI:Stmt:=top 27
abbrev ZO:Stmt:=top 28
abbrev J3:Stmt:=top 29
abbrev J5:Stmt:=top 30
abbrev J6:Stmt:=top 54
abbrev ZV:Stmt:=top 55
abbrev ZU:Stmt:=top 56
abbrev ZW:Stmt:=top 57
abbrev ZZ:Stmt:=top 52
abbrev ZK:Stmt:=top 53
abbrev ZS:Stmt:=top 49
abbrev ZL:Stmt:=top 50
abbrev J0:Stmt:=top 51
abbrev ZT:Stmt:=top 48
abbrev J7:Stmt:=top 31
abbrev JZ:Stmt:=top 47
abbrev Q6:Stmt:=top 59
abbrev ZG:Stmt:=top 60
abbrev ZA:Stmt:=top 61
abbrev JX:Stmt:=top 62
abbrev Q7:Stmt:=top 63
abbrev ZE:Stmt:=top 64
abbrev Q8:Stmt:=top 65
abbrev ZB:Stmt:=top 66
abbrev JW:Stmt:=top 67
abbrev zN:Stmt:=top 68
abbrev ZD:Stmt:=top 69
abbrev ZF:Stmt:=top 70
abbrev Q9:Stmt:=top 71
abbrev ZC:Stmt:=top 72
abbrev Q5:Stmt:=top 73
abbrev JY:Stmt:=top 74
abbrev zM:Stmt:=top 75
abbrev zB:Stmt:=top 76
theorem fJ {K:W.Frag} {H H':Hp} {a:Addr} {xs:List V} (e:Same H H') (h:SqT K H a xs):SqT K H' a xs:=by
 rcases h with (h|⟨o,h⟩)|h
 ·exact .inl (.inl (e _ _ h))
 ·exact .inl (.inr ⟨o,e _ _ h⟩)
 ·exact .inr h
theorem jK {H:Hp} {p:Addr} (h:H p=none) (o:HO):Same H (upd H p o):=fun b u q=>by rw [kC (kE q h)];exact q
theorem small {n:Nat} (h:n≤1000):n≤sizeLine:=Nat.le_of_lt (vI h)
def Ints (K:W.Frag) (H:Hp) (a:Addr) (ws:List Int):Prop:=SqL K H a (ws.map V.int)∨SqT K H a (ws.map V.int)
theorem Ints.same {K:W.Frag} {H H':Hp} {a:Addr} {ws:List Int} (e:Same H H') (h:Ints K H a ws):Ints K H' a ws:=by
 rcases h with h|h
 ·exact .inl (e.seq h)
 ·exact .inr (fJ e h)
theorem bE {n s:Nat} (h:s<n):zA n (s:Int)=some s:=by
 unfold zA
 rw [if_pos (by omega),if_pos (by omega)]
 simp
theorem zS {ws:List Int} {s:Nat} (h:s<ws.length):qF (ws.map V.int) (s:Int)=some (.int (ws.getD s 0)):=by
 refine qV ?_
 rw [List.getElem?_map,List.getElem?_eq_getElem h,List.getD_eq_getElem?_getD,List.getElem?_eq_getElem h]
 rfl
theorem eP {K:W.Frag} {H:Hp} {p:Addr} {ws:List Int} {s:Nat} {Q:VK} (h:Ints K H p ws) (hs:s<ws.length) (q:Q (.int (ws.getD s 0)) H):tY K (.ref p) (.int s) H Q:=by
 rcases h with h|h
 ·exact .inl ⟨p,_,s,_,rfl,rfl,h,zS hs,q⟩
 ·exact .inr (.inl ⟨p,_,s,_,rfl,rfl,h,zS hs,q⟩)
theorem d7 (ws:List Int) (s:Nat) (z:Int):(ws.map V.int).set s (V.int z)=(ws.set s z).map V.int:=by rw [List.map_set]
theorem pY {ms:List Int} {i:Nat} {x:V} (h:(ms.map V.int)[i]?=some x):∃z,x=V.int z∧ms[i]?=some z:=by
 rw [List.getElem?_map] at h
 cases e:ms[i]? with
 |none=>rw [e] at h;cases h
 |some z=>rw [e] at h;exact ⟨z,(Option.some.inj h).symm,rfl⟩
theorem gJ (ms:List Int):(ms.map V.int).all qY=true:=by
 rw [List.all_eq_true]
 intro x hx
 obtain ⟨z,_,rfl⟩:=List.mem_map.mp hx
 rfl
def lE (K:W.Frag):Sp:=fun vs H Q _=>∃(a:Addr) (ns:List Int) (k:Nat),vs=[.ref a,.int k]∧SqL K H a (ns.map V.int)∧Q (.int (ns.getD k 0)) H
def rG:Sp:=fun vs H Q _=>∃i:Int,vs=[.int i]∧Q (.bl true) H
def fI (K:W.Frag):Sp:=fun vs H Q _=>∃(a:Addr) (ns:List Int),vs=[.ref a]∧SqL K H a (ns.map V.int)∧ns.length≤63∧∀H',Q (.bl true) H'
def zJ (ws:List Int) (q:Nat×Nat×Int):List Int:=((ws.set q.1 (ws.getD q.1 0 - q.2.2))).set q.2.1 ((ws.set q.1 (ws.getD q.1 0 - q.2.2)).getD q.2.1 0+q.2.2)
theorem mV (ws:List Int) (q:Nat×Nat×Int):(zJ ws q).length=ws.length:=by unfold zJ;rw [List.length_set,List.length_set]
def v7 (ws:List Int) (qs:List (Nat×Nat×Int)):List Int:=qs.foldl zJ ws
theorem gH (qs:List (Nat×Nat×Int)):∀ws:List Int,(v7 ws qs).length=ws.length:=by
 induction qs with
 |nil=>intro ws;rfl
 |cons q r ih=>intro ws;show (v7 (zJ ws q) r).length=_;rw [ih,mV]
theorem BB (ws:List Int) (qs:List (Nat×Nat×Int)) (q:Nat×Nat×Int):v7 ws (qs++[q])=zJ (v7 ws qs) q:=by
 unfold v7;rw [List.foldl_append];rfl
theorem BA (ws:List Int) (qs:List (Nat×Nat×Int)) (i:Nat) (q:Nat×Nat×Int) (h:qs[i]?=some q):v7 ws (qs.take (i+1))=zJ (v7 ws (qs.take i)) q:=by
 rw [List.take_add_one,h];exact BB ..
def PoursAt (K:W.Frag) (H:Hp) (rs:List V) (qs:List (Nat×Nat×Int)) (n:Nat):Prop :=
 rs.length=qs.length∧∀(i:Nat) (r:V),rs[i]?=some r→∃(a:Addr) (s t:Nat) (m:Int),r=.ref a∧qs[i]?=some (s,t,m)∧SqT K H a [.int s,.int t,.int m]∧s<n∧t<n
theorem PoursAt.same {K:W.Frag} {H H':Hp} {rs:List V} {qs:List (Nat×Nat×Int)} {n:Nat} (e:Same H H') (h:PoursAt K H rs qs n):PoursAt K H' rs qs n:=by
 refine ⟨h.1,fun i r hi=>?_⟩
 obtain ⟨a,s,t,m,h1,h2,h3,h4⟩:=h.2 i r hi
 exact ⟨a,s,t,m,h1,h2,fJ e h3,h4⟩
def sY (K:W.Frag):Sp:=fun vs H Q _=>∃(w p:Addr) (ws:List Int) (rs:List V) (qs:List (Nat×Nat×Int)),vs=[.ref w,.ref p]∧Ints K H w ws∧SqL K H p rs∧PoursAt K H rs qs ws.length∧ws.length≤1000∧
 ∀(r:Addr) (H':Hp),Same H H'→H r=none→H' r=some (.tup ((v7 ws qs).map V.int))→Q (.ref r) H'
def Keep (d:Addr) (H H':Hp):Prop:=∀b o,b≠d→H b=some o→H' b=some o
theorem Keep.refl (d:Addr) (H:Hp):Keep d H H:=fun _ _ _ q=>q
theorem Keep.of {d:Addr} {H H':Hp} (s:Same H H'):Keep d H H':=fun b o _ q=>s b o q
theorem Keep.trans {d:Addr} {H H1 H2:Hp} (a:Keep d H H1) (b:Keep d H1 H2):Keep d H H2:=fun c o n q=>b c o n (a c o n q)
theorem Keep.upd {d:Addr} {H H':Hp} (k:Keep d H H') (o:HO):Keep d H (upd H' d o):=fun b u n q=>by rw [kC n];exact k b u n q
theorem Keep.sqt {K:W.Frag} {d a:Addr} {H H':Hp} {xs:List V} {ys:List V} (k:Keep d H H') (hd:H d=some (.lst ys)) (h:SqT K H a xs):SqT K H' a xs:=by
 rcases h with (h|⟨o,h⟩)|h
 ·exact .inl (.inl (k _ _ (v9 h hd (fun z=>nomatch z)) h))
 ·exact .inl (.inr ⟨o,k _ _ (v9 h hd (fun z=>nomatch z)) h⟩)
 ·exact .inr h
theorem Keep.pours {K:W.Frag} {d:Addr} {H H':Hp} {rs ys:List V} {qs:List (Nat×Nat×Int)} {n:Nat} (k:Keep d H H') (hd:H d=some (.lst ys)) (h:PoursAt K H rs qs n):PoursAt K H' rs qs n:=by
 refine ⟨h.1,fun i r hi=>?_⟩
 obtain ⟨a,s,t,m,h1,h2,h3,h4⟩:=h.2 i r hi
 exact ⟨a,s,t,m,h1,h2,k.sqt hd h3,h4⟩
def lettersS:Str:="abcdefghijklmnopqrstuvwxyz"
theorem BO:lettersS.cps.toList.length=26:=by decide +kernel
theorem mL:lettersS.length≤sizeLine:=by decide +kernel
def cQ (z:Nat):Nat:=lettersS.cps.toList.getD z 0
theorem CQ {z:Int} (h0:0≤z) (h1:z<26):qF lettersS.cps.toList z=some (cQ z.toNat):=by
 have h:=qV (xs:=lettersS.cps.toList) (j:=z.toNat) (v:=cQ z.toNat) (by
  unfold cQ
  rw [List.getD_eq_getElem?_getD,List.getElem?_eq_getElem (by rw [BO];omega)]
  rfl)
 have e:((z.toNat:Nat):Int)=z:=by omega
 rwa [e] at h
def vO (n h l r:V):List (Str×V):=jR "room" r (jR "low" l (jR "high" h (jR "name" n [])))
theorem IR:¬(("name":Str)="high"):=by decide +kernel
theorem IQ:¬(("name":Str)="low"):=by decide +kernel
theorem IP:¬(("name":Str)="room"):=by decide +kernel
theorem IU:¬(("high":Str)="low"):=by decide +kernel
theorem IT:¬(("high":Str)="room"):=by decide +kernel
theorem IS:¬(("low":Str)="room"):=by decide +kernel
theorem GK (n h l r:V):(vO n h l r).lookup ("name":Str)=some n:=by
 unfold vO
 rw [q9,if_neg IP,q9,if_neg IQ,q9,if_neg IR,q9,if_pos rfl]
theorem GL (n h l r:V):(vO n h l r).lookup ("high":Str)=some h:=by
 unfold vO
 rw [q9,if_neg IT,q9,if_neg IU,q9,if_pos rfl]
theorem HS (n h l r:V):(vO n h l r).lookup ("low":Str)=some l:=by
 unfold vO
 rw [q9,if_neg IS,q9,if_pos rfl]
theorem GJ (n h l r:V):(vO n h l r).lookup ("room":Str)=some r:=by
 unfold vO
 rw [q9,if_pos rfl]
theorem tE (n h l r:V) {m:Str} (h1:¬m="room") (h2:¬m="low") (h3:¬m="high") (h4:¬m="name"):(vO n h l r).lookup m=none:=by
 unfold vO
 rw [q9,if_neg h1,q9,if_neg h2,q9,if_neg h3,q9,if_neg h4]
 rfl
def PartsAt (H:Hp) (rs:List V) (ps:List (Str×Int)):Prop:=rs.length=ps.length∧∀(i:Nat) (r:V),rs[i]?=some r→∃(a:Addr) (s:Str) (n:Int),r=.ref a∧ps[i]?=some (s,n)∧H a=some (.tup [.str s,.int n])
theorem PartsAt.nil {H:Hp}:PartsAt H [] []:=⟨rfl,fun i r hi=>by cases hi⟩
theorem PartsAt.keep {H H':Hp} {d:Addr} {ys rs:List V} {ps:List (Str×Int)} (k:Keep d H H') (hd:H d=some (.lst ys)) (h:PartsAt H rs ps):PartsAt H' rs ps:=by
 refine ⟨h.1,fun i r hi=>?_⟩
 obtain ⟨a,s,n,h1,h2,h3⟩:=h.2 i r hi
 exact ⟨a,s,n,h1,h2,k _ _ (v9 h3 hd (fun z=>nomatch z)) h3⟩
theorem PartsAt.same {H H':Hp} {rs:List V} {ps:List (Str×Int)} (e:Same H H') (h:PartsAt H rs ps):PartsAt H' rs ps:=by
 refine ⟨h.1,fun i r hi=>?_⟩
 obtain ⟨a,s,n,h1,h2,h3⟩:=h.2 i r hi
 exact ⟨a,s,n,h1,h2,e _ _ h3⟩
def bP (e:Str) (n h l r v:V):List (Str×V):=jR e v (vO n h l r)
theorem rD (e:Str) (n h l r v:V):(bP e n h l r v).lookup e=some v:=by
 unfold bP
 rw [q9,if_pos rfl]
theorem rE {e m:Str} (ne:¬m=e) (n h l r v:V):(bP e n h l r v).lookup m=(vO n h l r).lookup m:=by
 unfold bP
 rw [q9,if_neg ne]
theorem nN (n h l r:V):(vO n h l r).length<1000:=by
 have h1:=zD "high" h (jR "name" n [])
 have h2:=zD "low" l (jR "high" h (jR "name" n []))
 have h3:=zD "room" r (jR "low" l (jR "high" h (jR "name" n [])))
 have h4:(jR ("name":Str) n []).length=1:=rfl
 unfold vO
 omega
def LocksF (C:Addr) (H:Hp) (rs:List V) (F:Nat→List (Str×V)):Prop:=∀(j:Nat) (r:V),rs[j]?=some r→∃x dx:Addr,r=.ref x∧H x=some (.ins C dx (F j))
theorem LocksF.same {C:Addr} {H H':Hp} {rs:List V} {F:Nat→List (Str×V)} (e:Same H H') (h:LocksF C H rs F):LocksF C H' rs F:=fun j r hj=>by
 obtain ⟨x,dx,h1,h2⟩:=h j r hj
 exact ⟨x,dx,h1,e _ _ h2⟩
theorem LocksF.keep {C d:Addr} {H H':Hp} {ys rs:List V} {F:Nat→List (Str×V)} (k:Keep d H H') (hd:H d=some (.lst ys)) (h:LocksF C H rs F):LocksF C H' rs F:=fun j r hj=>by
 obtain ⟨x,dx,h1,h2⟩:=h j r hj
 exact ⟨x,dx,h1,k _ _ (v9 h2 hd (fun z=>nomatch z)) h2⟩
def jM (cP cB cU:Addr):Kd→Addr
 |.plain=>cP
 |.basin=>cB
 |.pump=>cU
def zY (kd:Kd) (n h l r v:V):List (Str×V):=match kd with
 |.plain=>vO n h l r
 |.basin=>bP "side" n h l r v
 |.pump=>bP "lift" n h l r v
theorem bK (kd:Kd) (n h l r v:V) {m:Str} (h1:¬m="side") (h2:¬m="lift"):(zY kd n h l r v).lookup m=(vO n h l r).lookup m:=by
 cases kd
 ·rfl
 ·exact rE h1 _ _ _ _ _
 ·exact rE h2 _ _ _ _ _
theorem cS (kd:Kd) (n h l r v:V):(zY kd n h l r v).lookup ("name":Str)=some n:=by rw [bK kd _ _ _ _ _ (by decide +kernel) (by decide +kernel)];exact GK ..
theorem cT (kd:Kd) (n h l r v:V):(zY kd n h l r v).lookup ("high":Str)=some h:=by rw [bK kd _ _ _ _ _ (by decide +kernel) (by decide +kernel)];exact GL ..
theorem dA (kd:Kd) (n h l r v:V):(zY kd n h l r v).lookup ("low":Str)=some l:=by rw [bK kd _ _ _ _ _ (by decide +kernel) (by decide +kernel)];exact HS ..
theorem QG (kd:Kd) (n h l r v:V):(zY kd n h l r v).lookup ("room":Str)=some r:=by rw [bK kd _ _ _ _ _ (by decide +kernel) (by decide +kernel)];exact GJ ..
theorem yD (kd:Kd) (n h l r v:V):(zY kd n h l r v).lookup ("kind":Str)=none:=by rw [bK kd _ _ _ _ _ (by decide +kernel) (by decide +kernel)];exact tE _ _ _ _ (by decide +kernel) (by decide +kernel) (by decide +kernel) (by decide +kernel)
theorem QE (kd:Kd) (n h l r v:V):(zY kd n h l r v).lookup ("extra":Str)=none:=by rw [bK kd _ _ _ _ _ (by decide +kernel) (by decide +kernel)];exact tE _ _ _ _ (by decide +kernel) (by decide +kernel) (by decide +kernel) (by decide +kernel)
def LockAt (cs:Kd→Addr) (H:Hp) (x:Addr) (kd:Kd) (n h l:V) (room v:Int):Prop:=∃dx:Addr,H x=some (.ins (cs kd) dx (zY kd n h l (.int room) (.int v)))
theorem LockAt.same {cs:Kd→Addr} {H H':Hp} {x:Addr} {kd:Kd} {n h l:V} {room v:Int} (e:Same H H') (a:LockAt cs H x kd n h l room v):LockAt cs H' x kd n h l room v:=by
 obtain ⟨dx,a⟩:=a
 exact ⟨dx,e _ _ a⟩
def bC (cs:Kd→Addr):Sp:=fun vs H Q _=>∃(kd:Kd) (x dx:Addr) (n h l r:V),vs=[.ref x,n,h,l,r]∧H x=some (.ins (cs kd) dx [])∧∀H':Hp,Keep x H H'→H' x=some (.ins (cs kd) dx (vO n h l r))→Q .non H'
def bB (cs:Kd→Addr) (kd:Kd):Sp:=fun vs H Q _=>∃(x dx:Addr) (n h l r v:V),vs=[.ref x,n,h,l,r,v]∧H x=some (.ins (cs kd) dx [])∧∀H':Hp,Keep x H H'→H' x=some (.ins (cs kd) dx (zY kd n h l r v))→Q .non H'
def vA (cs:Kd→Addr) (F:Kd→Int→V) (kd:Kd):Sp:=fun vs H Q _=>∃(x:Addr) (n h l:V) (room v:Int),vs=[.ref x]∧LockAt cs H x kd n h l room v∧Q (F kd v) H
def PoursS (H:Hp) (rs:List V) (ps:List (Str×Str×Int)):Prop:=rs.length=ps.length∧∀(i:Nat) (r:V),rs[i]?=some r→∃(a:Addr) (s t:Str) (n:Int),r=.ref a∧ps[i]?=some (s,t,n)∧H a=some (.tup [.str s,.str t,.int n])
theorem PoursS.nil {H:Hp}:PoursS H [] []:=⟨rfl,fun i r hi=>by cases hi⟩
theorem PoursS.same {H H':Hp} {rs:List V} {ps:List (Str×Str×Int)} (e:Same H H') (h:PoursS H rs ps):PoursS H' rs ps:=by
 refine ⟨h.1,fun i r hi=>?_⟩
 obtain ⟨a,s,t,n,h1,h2,h3⟩:=h.2 i r hi
 exact ⟨a,s,t,n,h1,h2,e _ _ h3⟩
theorem PoursS.keep {H H':Hp} {d:Addr} {ys rs:List V} {ps:List (Str×Str×Int)} (k:Keep d H H') (hd:H d=some (.lst ys)) (h:PoursS H rs ps):PoursS H' rs ps:=by
 refine ⟨h.1,fun i r hi=>?_⟩
 obtain ⟨a,s,t,n,h1,h2,h3⟩:=h.2 i r hi
 exact ⟨a,s,t,n,h1,h2,k _ _ (v9 h3 hd (fun z=>nomatch z)) h3⟩
theorem PoursS.one {H:Hp} {s t:Str} {n:Int} {a:Addr} (ht:H a=some (.tup [.str s,.str t,.int n])):PoursS H [.ref a] [(s,t,n)]:=by
 refine ⟨rfl,fun i r hi=>?_⟩
 cases i with
 |zero=>exact ⟨a,s,t,n,(Option.some.inj hi).symm,rfl,ht⟩
 |succ i=>cases hi
def toS (s:Str) (q:Str×Str×Int):Bool:=decide (q.2.1=s)
def z4 (c m:Int):Int:=if m - c>0 then m - c else 0
def JG (ws:List (Int×Nat)) (i:Nat):Int:=(ws.getD i (0,0)).1
def kY (ws:List (Int×Nat)) (i:Nat):Nat:=(ws.getD i (0,0)).2
def WeirsAt (K:W.Frag) (H:Hp) (rs:List V) (ws:List (Int×Nat)) (n:Nat):Prop :=
 rs.length=ws.length∧∀(i:Nat) (r:V),rs[i]?=some r→∃(a:Addr) (c:Int) (t:Nat),r=.ref a∧ws[i]?=some (c,t)∧SqT K H a [.int c,.int t]∧t<n
def fN (R:Nat) (ws:List (Int×Nat)):Prop:=∀(i:Nat) (c:Int) (t:Nat),ws[i]?=some (c,t)→t<i∨R≤t
theorem WeirsAt.same {K:W.Frag} {H H':Hp} {rs:List V} {ws:List (Int×Nat)} {n:Nat} (e:Same H H') (h:WeirsAt K H rs ws n):WeirsAt K H' rs ws n:=by
 refine ⟨h.1,fun i r hi=>?_⟩
 obtain ⟨a,c,t,h1,h2,h3,h4⟩:=h.2 i r hi
 exact ⟨a,c,t,h1,h2,fJ e h3,h4⟩
theorem WeirsAt.keep {K:W.Frag} {d:Addr} {H H':Hp} {rs ys:List V} {ws:List (Int×Nat)} {n:Nat} (k:Keep d H H') (hd:H d=some (.lst ys)) (h:WeirsAt K H rs ws n):WeirsAt K H' rs ws n:=by
 refine ⟨h.1,fun i r hi=>?_⟩
 obtain ⟨a,c,t,h1,h2,h3,h4⟩:=h.2 i r hi
 exact ⟨a,c,t,h1,h2,k.sqt hd h3,h4⟩
theorem eE {K:W.Frag} {H:Hp} {rs:List V} {ws:List (Int×Nat)} {n i:Nat} (h:WeirsAt K H rs ws n) (hi:i<ws.length):∃a,qF rs (i:Int)=some (V.ref a)∧SqT K H a [.int (JG ws i),.int (kY ws i)]∧kY ws i<n:=by
 have hk:i<rs.length:=by rw [h.1];exact hi
 obtain ⟨a,c,t,h1,h2,h3,h4⟩:=h.2 i rs[i] (List.getElem?_eq_getElem hk)
 have e:ws.getD i (0,0)=(c,t):=by rw [List.getD_eq_getElem?_getD,h2];rfl
 refine ⟨a,qV (by rw [List.getElem?_eq_getElem hk,h1]),?_,?_⟩
 ·unfold JG kY;rw [e];exact h3
 ·unfold kY;rw [e];exact h4
theorem FM {R:Nat} {ws:List (Int×Nat)} {i:Nat} (h:fN R ws) (hi:i<ws.length):kY ws i<i∨R≤kY ws i:=by
 have e:ws[i]?=some ((ws.getD i (0,0)).1,(ws.getD i (0,0)).2):=by rw [List.getD_eq_getElem?_getD,List.getElem?_eq_getElem hi];rfl
 exact h i _ _ e
def sJ (K:W.Frag):Sp:=fun vs H Q _=>∃(wq wa:Addr) (rs:List V) (ws:List (Int×Nat)) (n:Nat) (ms:List Int) (at_:Nat),vs=[.ref wq,.ref wa,.int at_]∧SqL K H wq rs∧WeirsAt K H rs ws n∧Ints K H wa ms∧at_<ws.length∧at_<ms.length∧
 Q (.int (z4 (JG ws at_) (ms.getD at_ 0))) H
def vP (t:Nat→Nat) (g:Nat→Int) (j:Nat):Nat→Int
 |0=>0
 |a+1=>vP t g j a+(if t a=j then g a else 0)
theorem mZ {t:Nat→Nat} {g g':Nat→Int} {j:Nat}:∀{R:Nat},(∀a,a<R→t a=j→g a≤g' a)→vP t g j R≤vP t g' j R
 |0,_=>Int.le_refl _
 |R+1,h=>by
  show vP t g j R+_≤vP t g' j R+_
  have ih:=mZ (R:=R) fun a ha=>h a (by omega)
  by_cases c:t R=j
  ·rw [if_pos c,if_pos c]
   have:=h R (by omega) c
   omega
  ·rw [if_neg c,if_neg c]
   omega
theorem mY (t:Nat→Nat) (j:Nat):∀R:Nat,vP t (fun _=>0) j R=0
 |0=>rfl
 |R+1=>by
  show vP t (fun _=>0) j R+_=0
  rw [mY t j R]
  split<;>rfl
theorem nQ {t:Nat→Nat} {g g':Nat→Int} {i:Nat} (hg:∀a,a≠i→g' a=g a) (j:Nat):∀{R:Nat},vP t g' j R=vP t g j R+(if i<R∧t i=j then g' i - g i else 0)
 |0=>by
  show (0:Int)=0+_
  rw [if_neg (by omega)]
  rfl
 |R+1=>by
  show vP t g' j R+(if t R=j then g' R else 0)=vP t g j R+(if t R=j then g R else 0)+(if i<R+1∧t i=j then g' i - g i else 0)
  rw [nQ hg j (R:=R)]
  by_cases hi:i=R
  ·subst hi
   repeat' split
   all_goals omega
  ·rw [hg R (fun e=>hi e.symm)]
   repeat' split
   all_goals omega
def cX (R:Nat) (c:Nat→Int) (t:Nat→Nat) (m:Nat→Int) (g:Nat→Int):Prop:=∀i,i<R→g i=z4 (c i) (m i+vP t g i R)
def dB (R:Nat) (t:Nat→Nat):Prop:=∀a,a<R→t a<a∨R≤t a
theorem B9 {c m m':Int} (h:m≤m'):z4 c m≤z4 c m':=by
 unfold z4
 split<;>split<;>omega
theorem nF {R:Nat} {c:Nat→Int} {t:Nat→Nat} {m m' g g':Nat→Int} (hA:dB R t) (hm:∀i,i<R→m i≤m' i) (h:cX R c t m g) (h':cX R c t m' g'):∀k,k≤R→∀i,R - k≤i→i<R→g i≤g' i:=by
 intro k
 induction k with
 |zero=>intro _ i h1 h2;omega
 |succ k ih =>
  intro hk i h1 h2
  by_cases e:R - k≤i
  ·exact ih (by omega) i e h2
  ·have hi:i=R - (k+1):=by omega
   rw [h i h2,h' i h2]
   refine B9 ?_
   have:=mZ (t:=t) (g:=g) (g':=g') (j:=i) (R:=R) fun a ha hta=>ih (by omega) a (by have:=hA a ha;omega) ha
   have:=hm i h2
   omega
theorem AY {R:Nat} {c:Nat→Int} {t:Nat→Nat} {m g g':Nat→Int} (hA:dB R t) (h:cX R c t m g) (h':cX R c t m g') {i:Nat} (hi:i<R):g i=g' i:=by
 have h1:=nF hA (fun i _=>Int.le_refl (m i)) h h' R (Nat.le_refl _) i (by omega) hi
 have h2:=nF hA (fun i _=>Int.le_refl (m i)) h' h R (Nat.le_refl _) i (by omega) hi
 omega
def after (R:Nat) (t:Nat→Nat) (m g:Nat→Int) (j:Nat):Int:=m j+vP t g j R - (if j<R then g j else 0)
def z7:List (Nat×Nat×Int)→Nat→Int
 |[],_=>0
 |q::r,j=>(if q.2.1=j then q.2.2 else 0) - (if q.1=j then q.2.2 else 0)+z7 r j
theorem cD (l:List Int) (i j:Nat) (z:Int) (h:i<l.length):(l.set i z).getD j 0=if i=j then z else l.getD j 0:=by
 rw [List.getD_eq_getElem?_getD,List.getD_eq_getElem?_getD]
 by_cases e:i=j
 ·subst e
  rw [List.getElem?_set_self h,if_pos rfl]
  rfl
 ·rw [List.getElem?_set_ne e,if_neg e]
theorem DA (ms:List Int) (q:Nat×Nat×Int) (j:Nat) (h1:q.1<ms.length) (h2:q.2.1<ms.length):(zJ ms q).getD j 0=ms.getD j 0+((if q.2.1=j then q.2.2 else 0) - (if q.1=j then q.2.2 else 0)):=by
 unfold zJ
 rw [cD _ _ _ _ (by rw [List.length_set];exact h2),cD _ _ _ _ h1,cD _ _ _ _ h1]
 by_cases a:q.2.1=j
 ·rw [if_pos a,if_pos a]
  rw [a]
  by_cases b:q.1=j
  ·rw [if_pos b,if_pos b];rw [b];omega
  ·rw [if_neg b,if_neg b];omega
 ·rw [if_neg a,if_neg a]
  by_cases b:q.1=j
  ·rw [if_pos b,if_pos b];rw [b];omega
  ·rw [if_neg b,if_neg b];omega
theorem gL:∀(qs:List (Nat×Nat×Int)) (ms:List Int) (j:Nat),(∀q∈qs,q.1<ms.length∧q.2.1<ms.length)→(v7 ms qs).getD j 0=ms.getD j 0+z7 qs j
 |[],ms,j,_=>by
  show ms.getD j 0=ms.getD j 0+0
  omega
 |q::r,ms,j,h=>by
  show (v7 (zJ ms q) r).getD j 0=_
  obtain ⟨h1,h2⟩:=h q List.mem_cons_self
  rw [gL r (zJ ms q) j (fun x hx=>by rw [mV];exact h x (List.mem_cons_of_mem _ hx)),DA ms q j h1 h2]
  show _=ms.getD j 0+((if q.2.1=j then q.2.2 else 0) - (if q.1=j then q.2.2 else 0)+z7 r j)
  omega
theorem mem_downs {n a:Nat}:a∈yG n↔a<n:=by
 unfold yG
 rw [List.mem_reverse,List.mem_range]
theorem d5 (n:Nat):(yG n).length=n:=by
 unfold yG
 rw [List.length_reverse,List.length_range]
theorem oV {n k:Nat} (h:k<n):(yG n)[k]?=some (n - 1 - k):=by
 unfold yG
 rw [List.getElem?_reverse (by simpa using h),List.length_range,List.getElem?_range (by omega)]
def zU (t:Nat→Nat) (g:Nat→Int) (R:Nat):List (Nat×Nat×Int):=(yG R).map fun a=>(a,t a,g a)
theorem p7 {l l':List Int} (h:l.length=l'.length) (e:∀j,j<l.length→l.getD j 0=l'.getD j 0):l=l':=by
 apply List.ext_getElem h
 intro i h1 h2
 have:=e i h1
 rw [List.getD_eq_getElem?_getD,List.getD_eq_getElem?_getD,List.getElem?_eq_getElem h1,List.getElem?_eq_getElem h2] at this
 exact this
def tO (ms:List Int) (ws:List (Int×Nat)) (gs:List Int):List Int:=v7 ms (zU (kY ws) (fun a=>gs.getD a 0) ws.length)
def Spl (ws:List (Int×Nat)) (ms gs:List Int):Prop:=gs.length=ws.length∧cX ws.length (JG ws) (kY ws) (fun j=>ms.getD j 0) (fun a=>gs.getD a 0)
theorem Spl.unique {ws:List (Int×Nat)} {ms gs gs':List Int} (hA:dB ws.length (kY ws)) (h:Spl ws ms gs) (h':Spl ws ms gs'):gs=gs':=by
 refine p7 (by rw [h.1,h'.1]) fun j hj=>?_
 exact AY hA h.2 h'.2 (by rw [← h.1];exact hj)
theorem o8 {ws:List (Int×Nat)} (h:fN ws.length ws):dB ws.length (kY ws):=fun a ha=>FM h ha
theorem nU {K:W.Frag} {H:Hp} {rs:List V} {ws:List (Int×Nat)} {n:Nat} (h:WeirsAt K H rs ws n):∀a,a<ws.length→kY ws a<n:=fun a ha=>let ⟨_,_,_,q⟩:=eE h ha;q
structure SplInv (ws:List (Int×Nat)) (ms hs gs:List Int) (k:Nat):Prop where
 lh:hs.length=ms.length
 lg:gs.length=ws.length
 flow:∀j,j<ms.length→hs.getD j 0=ms.getD j 0+vP (kY ws) (fun a=>gs.getD a 0) j ws.length
 zero:∀a,a<ws.length - k→gs.getD a 0=0
 done:∀a,ws.length - k≤a→a<ws.length→gs.getD a 0=z4 (JG ws a) (ms.getD a 0+vP (kY ws) (fun a=>gs.getD a 0) a ws.length)
theorem SplInv.start (ws:List (Int×Nat)) (ms:List Int):SplInv ws ms ms (List.replicate ws.length 0) 0:=by
 have ez:(fun a:Nat=>(List.replicate ws.length (0:Int)).getD a 0)=fun _=>0:=by
  funext a
  rw [List.getD_eq_getElem?_getD,List.getElem?_replicate]
  split<;>rfl
 refine ⟨rfl,by simp,fun j _=>?_,fun a _=>congrFun ez a,fun a h1 h2=>by omega⟩
 rw [ez,mY]
 omega
theorem SplInv.step {ws:List (Int×Nat)} {ms hs gs:List Int} {k:Nat} (hA:dB ws.length (kY ws)) (hR:ws.length≤ms.length) (hk:k<ws.length) (ht:kY ws (ws.length - 1 - k)<ms.length) (h:SplInv ws ms hs gs k) :
  SplInv ws ms (hs.set (kY ws (ws.length - 1 - k)) (hs.getD (kY ws (ws.length - 1 - k)) 0+(gs.set (ws.length - 1 - k) (z4 (JG ws (ws.length - 1 - k)) (hs.getD (ws.length - 1 - k) 0))).getD (ws.length - 1 - k) 0))
   (gs.set (ws.length - 1 - k) (z4 (JG ws (ws.length - 1 - k)) (hs.getD (ws.length - 1 - k) 0))) (k+1):=by
 obtain ⟨i,hi⟩:∃i,i=ws.length - 1 - k:=⟨_,rfl⟩
 rw [← hi] at ht ⊢
 obtain ⟨lh,lg,flow,zero,done⟩:=h
 have hil:i<gs.length:=by rw [lg];omega
 obtain ⟨v,hv⟩:∃v,v=z4 (JG ws i) (hs.getD i 0):=⟨_,rfl⟩
 rw [← hv]
 have gset:∀a,(gs.set i v).getD a 0=if i=a then v else gs.getD a 0:=fun a=>cD gs i a v hil
 have g0:gs.getD i 0=0:=zero i (by omega)
 have gi:(gs.set i v).getD i 0=v:=by rw [gset,if_pos rfl]
 have infl:∀j,vP (kY ws) (fun a=>(gs.set i v).getD a 0) j ws.length=vP (kY ws) (fun a=>gs.getD a 0) j ws.length+(if kY ws i=j then v else 0):=fun j=>by
  rw [nQ (g:=fun a=>gs.getD a 0) (i:=i) (fun a ha=>by show (gs.set i v).getD a 0=gs.getD a 0;rw [gset,if_neg (Ne.symm ha)]) j]
  show _+(if i<ws.length∧kY ws i=j then (gs.set i v).getD i 0 - gs.getD i 0 else 0)=_
  rw [gi,g0]
  have hiw:i<ws.length:=by omega
  repeat' split
  all_goals omega
 have hti:=hA i (by omega)
 refine ⟨by rw [List.length_set,lh],by rw [List.length_set,lg],fun j hj=>?_,fun a ha=>?_,fun a h1 h2=>?_⟩
 ·rw [cD _ _ _ _ (by rw [lh];exact ht),infl,gi]
  have:=flow j hj
  by_cases e:kY ws i=j
  ·rw [if_pos e,if_pos e,e]
   omega
  ·rw [if_neg e,if_neg e]
   omega
 ·rw [gset,if_neg (by omega)]
  exact zero a (by omega)
 ·rw [infl]
  by_cases e:i=a
  ·subst e
   rw [gi,if_neg (by omega),Int.add_zero,hv,flow i (by omega)]
  ·rw [gset,if_neg e,if_neg (by omega),Int.add_zero]
   exact done a (by omega) h2
theorem SplInv.spl {ws:List (Int×Nat)} {ms hs gs:List Int} (h:SplInv ws ms hs gs ws.length):Spl ws ms gs:=⟨h.lg,fun i hi=>h.done i (by omega) hi⟩
theorem pN (n:Nat):(List.replicate n [V.int 0]).flatten=(List.replicate n (0:Int)).map V.int:=by
 induction n with
 |zero=>rfl
 |succ n ih =>
  rw [List.replicate_succ,List.flatten_cons,ih,List.replicate_succ,List.map_cons]
  rfl
structure Ready (K:W.Frag) (H:Hp) (wq wa:Addr) (rs:List V) (ws:List (Int×Nat)) (ms:List Int):Prop where
 w:SqL K H wq rs
 a:WeirsAt K H rs ws ms.length
 m:Ints K H wa ms
 ah:fN ws.length ws
 le:ws.length≤ms.length
 sm:ms.length≤1000
theorem Ready.same {K:W.Frag} {H H':Hp} {wq wa:Addr} {rs:List V} {ws:List (Int×Nat)} {ms:List Int} (e:Same H H') (h:Ready K H wq wa rs ws ms):Ready K H' wq wa rs ws ms:=⟨e.seq h.w,h.a.same e,h.m.same e,h.ah,h.le,h.sm⟩
def lD (K:W.Frag):Sp:=fun vs H Q _=>∃(wq:Addr) (rs:List V),vs=[.ref wq]∧SqL K H wq rs∧rs.length≤1000∧∀(r:Addr) (H':Hp),Same H H'→H r=none→H' r=some (.lst ((yG rs.length).map fun (i:Nat)=>V.int (i:Int)))→Q (.ref r) H'
def pC (K:W.Frag):Sp:=fun vs H Q _=>∃(wq wa:Addr) (rs:List V) (ws:List (Int×Nat)) (ms:List Int),vs=[.ref wq,.ref wa]∧Ready K H wq wa rs ws ms∧
 ∀(r:Addr) (H':Hp) (gs:List Int),Same H H'→H r=none→H' r=some (.lst (gs.map V.int))→Spl ws ms gs→Q (.ref r) H'
def n0 (K:W.Frag):Sp:=fun vs H Q _=>∃(wq wa:Addr) (rs:List V) (ws:List (Int×Nat)) (ms:List Int),vs=[.ref wq,.ref wa]∧Ready K H wq wa rs ws ms∧
 ∀(r:Addr) (H':Hp) (gs:List Int),Same H H'→H r=none→H' r=some (.tup ((tO ms ws gs).map V.int))→Spl ws ms gs→Q (.ref r) H'
theorem p8 {R i:Nat} {x:V} (h:((yG R).map fun (i:Nat)=>V.int (i:Int))[i]?=some x):i<R∧x=V.int ((R - 1 - i:Nat):Int):=by
 rw [List.getElem?_map] at h
 by_cases hi:i<R
 ·rw [oV hi] at h
  exact ⟨hi,(Option.some.inj h).symm⟩
 ·rw [List.getElem?_eq_none (by rw [d5];omega)] at h
  cases h
theorem BK {t:Nat→Nat} {g:Nat→Int} {R i:Nat} (h:i<R):(zU t g R)[i]?=some (R - 1 - i,t (R - 1 - i),g (R - 1 - i)):=by
 unfold zU
 rw [List.getElem?_map,oV h]
 rfl
def yQ (q:Nat×Nat×Int):Bool := !decide (q.2.2=0)
theorem lA (j:Nat):∀qs:List (Nat×Nat×Int),z7 (qs.filter yQ) j=z7 qs j
 |[]=>rfl
 |q::r=>by
  rw [List.filter_cons]
  by_cases h:q.2.2=0
  ·rw [if_neg (by unfold yQ;rw [decide_eq_true h];decide)]
   show z7 (r.filter yQ) j=(if q.2.1=j then q.2.2 else 0) - (if q.1=j then q.2.2 else 0)+z7 r j
   rw [lA j r,h]
   repeat' split
   all_goals omega
  ·rw [if_pos (by unfold yQ;rw [decide_eq_false h];rfl)]
   show _+z7 (r.filter yQ) j=_+z7 r j
   rw [lA j r]
theorem B3 {qs:List (Nat×Nat×Int)} {ms:List Int} (h:∀q∈qs,q.1<ms.length∧q.2.1<ms.length):v7 ms (qs.filter yQ)=v7 ms qs:=by
 refine p7 (by rw [gH,gH]) fun j _=>?_
 rw [gL _ _ _ h,gL _ _ _ (fun q hq=>h q (List.mem_filter.mp hq).1),lA]
theorem BZ {ws:List (Int×Nat)} {g:Nat→Int} {n:Nat} (hR:ws.length≤n) (ht:∀a,a<ws.length→kY ws a<n):∀q∈zU (kY ws) g ws.length,q.1<n∧q.2.1<n:=fun q hq=>by
 obtain ⟨a,ha,rfl⟩:=List.mem_map.mp hq
 have:=mem_downs.mp ha
 exact ⟨by show a<n;omega,ht a this⟩
def PoursH (H:Hp) (rs:List V) (qs:List (Nat×Nat×Int)) (n:Nat):Prop:=rs.length=qs.length∧∀(i:Nat) (r:V),rs[i]?=some r→∃(a:Addr) (s t:Nat) (m:Int),r=.ref a∧qs[i]?=some (s,t,m)∧H a=some (.tup [.int s,.int t,.int m])∧s<n∧t<n
theorem PoursH.nil (H:Hp) (n:Nat):PoursH H [] [] n:=⟨rfl,fun i r hi=>by cases hi⟩
theorem PoursH.pa {K:W.Frag} {H:Hp} {rs:List V} {qs:List (Nat×Nat×Int)} {n:Nat} (h:PoursH H rs qs n):PoursAt K H rs qs n:=⟨h.1,fun i r hi=>by
 obtain ⟨a,s,t,m,h1,h2,h3,h4⟩:=h.2 i r hi
 exact ⟨a,s,t,m,h1,h2,SqT.of h3,h4⟩⟩
theorem PoursH.same {H H':Hp} {rs:List V} {qs:List (Nat×Nat×Int)} {n:Nat} (h:PoursH H rs qs n) (e:Same H H'):PoursH H' rs qs n:=⟨h.1,fun i r hi=>by
 obtain ⟨a,s,t,m,h1,h2,h3,h4⟩:=h.2 i r hi
 exact ⟨a,s,t,m,h1,h2,e _ _ h3,h4⟩⟩
theorem PoursH.put {H:Hp} {d:Addr} {ys:List V} {o:HO} {rs:List V} {qs:List (Nat×Nat×Int)} {n:Nat} (h:PoursH H rs qs n) (hd:H d=some (.lst ys)):PoursH (upd H d o) rs qs n:=⟨h.1,fun i r hi=>by
 obtain ⟨a,s,t,m,h1,h2,h3,h4⟩:=h.2 i r hi
 exact ⟨a,s,t,m,h1,h2,by rw [kC (fun z=>by rw [z,hd] at h3;cases h3)];exact h3,h4⟩⟩
theorem PoursH.append {H:Hp} {rs rs':List V} {qs qs':List (Nat×Nat×Int)} {n:Nat} (h:PoursH H rs qs n) (h':PoursH H rs' qs' n):PoursH H (rs++rs') (qs++qs') n:=by
 refine ⟨by rw [List.length_append,List.length_append,h.1,h'.1],fun i r hi=>?_⟩
 by_cases hl:i<rs.length
 ·rw [List.getElem?_append_left hl] at hi
  obtain ⟨a,s,t,m,h1,h2,h3⟩:=h.2 i r hi
  exact ⟨a,s,t,m,h1,by rw [List.getElem?_append_left (by rw [← h.1];exact hl)];exact h2,h3⟩
 ·rw [List.getElem?_append_right (by omega)] at hi
  obtain ⟨a,s,t,m,h1,h2,h3⟩:=h'.2 _ r hi
  exact ⟨a,s,t,m,h1,by rw [List.getElem?_append_right (by rw [← h.1];omega),← h.1];exact h2,h3⟩
theorem PoursH.snoc {H:Hp} {rs:List V} {qs:List (Nat×Nat×Int)} {n s t:Nat} {m:Int} {a:Addr} (h:PoursH H rs qs n) (ha:H a=some (.tup [.int s,.int t,.int m])) (hs:s<n) (ht:t<n):PoursH H (rs++[.ref a]) (qs++[(s,t,m)]) n:=h.append ⟨rfl,fun i r hi=>by
 rcases i with _|i
 ·cases hi;exact ⟨a,s,t,m,rfl,rfl,ha,hs,ht⟩
 ·cases hi⟩
def pD (K:W.Frag):Sp:=fun vs H Q _=>∃(wq wa:Addr) (rs:List V) (ws:List (Int×Nat)) (ms:List Int),vs=[.ref wq,.ref wa]∧Ready K H wq wa rs ws ms∧
 ∀(r:Addr) (H':Hp) (gs:List Int) (ys:List V),Same H H'→H r=none→H' r=some (.lst ys)→PoursH H' ys ((zU (kY ws) (fun a=>gs.getD a 0) ws.length).filter yQ) ms.length→Spl ws ms gs→Q (.ref r) H'
def vL (n:Int):Nat:=97+(n%26).toNat
theorem rQ (n:Int):97≤vL n:=by unfold vL;omega
theorem rR (n:Int):vL n≤122:=by
 unfold vL
 have:=Int.emod_lt_of_pos n (by decide:(0:Int)<26)
 have:=Int.emod_nonneg n (by decide:(26:Int)≠0)
 omega
def qA (c:Int):List Nat:=(List.range 12).map fun (k:Nat)=>vL (c / 4+c / 100*(k:Int)+(k:Int)*(k:Int))
theorem vJ (c:Int):(qA c).length=12:=by simp [qA]
def z3 (c:Int):Nat:=(1+c / 16%12).toNat
def z9 (c:Int):Nat:=(c / 32%(1+c / 16%12)).toNat
theorem FS (c:Int):1≤z3 c:=by unfold z3;have:=Int.emod_nonneg (c / 16) (by decide:(12:Int)≠0);omega
theorem iW (c:Int):z3 c≤12:=by unfold z3;have:=Int.emod_lt_of_pos (c / 16) (by decide:(0:Int)<12);omega
theorem tI (c:Int):z9 c<z3 c:=by
 unfold z9 z3
 have h0:=Int.emod_nonneg (c / 16) (by decide:(12:Int)≠0)
 have h1:=Int.emod_lt_of_pos (c / 32) (show (0:Int)<1+c / 16%12 by omega)
 have h2:=Int.emod_nonneg (c / 32) (show (1+c / 16%12:Int)≠0 by omega)
 omega
def y9 (c:Int) (k:Nat):List Nat:=(qA c).take (z9 c)++[vL (c / 4+3*(k:Int))]++((qA c).take (z3 c)).drop (z9 c+1)
def kP (c:Int) (k:Nat):List Nat:=if c%4=0 then (qA c).take (k+1) else if c%4=1 then (qA c).drop (11 - k) else y9 c k
theorem eU (c:Int):∀x∈qA c,97≤x∧x≤122:=by
 intro x hx
 obtain ⟨k,_,rfl⟩:=List.mem_map.mp hx
 exact ⟨rQ _,rR _⟩
theorem pU (c:Int) (k:Nat):∀x∈kP c k,97≤x∧x≤122:=by
 intro x hx
 unfold kP y9 at hx
 split at hx
 ·exact eU c x (List.mem_of_mem_take hx)
 split at hx
 ·exact eU c x (List.mem_of_mem_drop hx)
 rcases List.mem_append.mp hx with h|h
 ·rcases List.mem_append.mp h with h|h
  ·exact eU c x (List.mem_of_mem_take h)
  ·cases List.mem_singleton.mp h;exact ⟨rQ _,rR _⟩
 ·exact eU c x (List.mem_of_mem_take (List.mem_of_mem_drop h))
theorem i5 (c:Int) (k:Nat):(y9 c k).length=z3 c:=by
 have h1:=tI c
 have h2:=iW c
 unfold y9
 simp only [List.length_append,List.length_take,List.length_drop,vJ,List.length_singleton]
 omega
theorem pV (c:Int) {k:Nat} (hk:k<8):1≤(kP c k).length∧(kP c k).length≤12:=by
 unfold kP
 split
 ·rw [List.length_take,vJ];omega
 split
 ·rw [List.length_drop,vJ];omega
 rw [i5];exact ⟨FS c,iW c⟩
theorem HQ (c:Int) (k:Nat):(y9 c k)[z9 c]?=some (vL (c / 4+3*(k:Int))):=by
 have h1:=tI c
 have h2:=iW c
 unfold y9
 have hl:((qA c).take (z9 c)).length=z9 c:=by rw [List.length_take,vJ];omega
 rw [List.append_assoc,List.getElem?_append_right (by omega),hl,Nat.sub_self]
 rfl
theorem E6 {c:Int} {j k:Nat} (hj:j<8) (hk:k<8) (h:vL (c+3*(j:Int))=vL (c+3*(k:Int))):j=k:=by
 unfold vL at h
 omega
theorem iR {c:Int} {j k:Nat} (hj:j<8) (hk:k<8) (h:kP c j=kP c k):j=k:=by
 unfold kP at h
 split at h
 ·have:=congrArg List.length h
  rw [List.length_take,List.length_take,vJ] at this
  omega
 split at h
 ·have:=congrArg List.length h
  rw [List.length_drop,List.length_drop,vJ] at this
  omega
 have:=congrArg (fun l=>l[z9 c]?) h
 simp only [HQ] at this
 exact E6 hj hk (Option.some.inj this)
def seaL:List Nat:=[115,101,97]
def vY (c:Int):List Nat:=if c%4<2 then [115,101,98] else [115,101,97,122]
def kN (c:Int) (k:Nat):List Nat:=if kP c k=seaL then vY c else kP c k
theorem DF (c:Int):∀x∈vY c,97≤x∧x≤122:=by
 unfold vY
 split<;>decide
theorem DG (c:Int):1≤(vY c).length∧(vY c).length≤12:=by unfold vY;split<;>decide
theorem iB (c:Int) (k:Nat):∀x∈kN c k,97≤x∧x≤122:=by
 unfold kN
 split
 ·exact DF c
 ·exact pU c k
theorem iC (c:Int) {k:Nat} (hk:k<8):1≤(kN c k).length∧(kN c k).length≤12:=by
 unfold kN
 split
 ·exact DG c
 ·exact pV c hk
theorem iA (c:Int) (k:Nat):kN c k≠seaL:=by
 unfold kN
 split
 ·unfold vY;split<;>decide
 ·assumption
theorem oI {c:Int} (hc:0≤c) {j k:Nat} (hj:j<8) (hk:k<8) (h1:kP c j=seaL) (h2:kP c k≠seaL):vY c≠kP c k:=by
 intro h
 have l1:=congrArg List.length h1
 have l2:=congrArg List.length h
 have hne:j≠k:=fun z=>h2 (z▸h1)
 have h3:seaL.length=3:=rfl
 rw [h3] at l1
 by_cases a:c%4=0
 ·have n1:kP c j=(qA c).take (j+1):=if_pos a
  have n2:kP c k=(qA c).take (k+1):=if_pos a
  have o:vY c=[115,101,98]:=if_pos (by omega)
  rw [n1,List.length_take,vJ] at l1
  rw [n2,o,List.length_take,vJ] at l2
  have:([115,101,98]:List Nat).length=3:=rfl
  omega
 by_cases b:c%4=1
 ·have n1:kP c j=(qA c).drop (11 - j):=by unfold kP;rw [if_neg a,if_pos b]
  have n2:kP c k=(qA c).drop (11 - k):=by unfold kP;rw [if_neg a,if_pos b]
  have o:vY c=[115,101,98]:=if_pos (by omega)
  rw [n1,List.length_drop,vJ] at l1
  rw [n2,o,List.length_drop,vJ] at l2
  have:([115,101,98]:List Nat).length=3:=rfl
  omega
 ·have n1:kP c j=y9 c j:=by unfold kP;rw [if_neg a,if_neg b]
  have n2:kP c k=y9 c k:=by unfold kP;rw [if_neg a,if_neg b]
  have o:vY c=[115,101,97,122]:=if_neg (by have:=Int.emod_nonneg c (by decide:(4:Int)≠0);omega)
  rw [n1,i5] at l1
  rw [n2,o,i5] at l2
  have:([115,101,97,122]:List Nat).length=4:=rfl
  omega
theorem iD {c:Int} (hc:0≤c) {j k:Nat} (hj:j<8) (hk:k<8) (h:kN c j=kN c k):j=k:=by
 unfold kN at h
 by_cases a:kP c j=seaL<;>by_cases b:kP c k=seaL
 ·exact iR hj hk (a.trans b.symm)
 ·rw [if_pos a,if_neg b] at h;exact absurd h (oI hc hj hk a b)
 ·rw [if_neg a,if_pos b] at h;exact absurd h.symm (oI hc hk hj b a)
 ·rw [if_neg a,if_neg b] at h;exact iR hj hk h
def vK (r c:Int) (k:Nat):List Nat:=if c%5=0 then kN r k else if c%5=1 then (match k with|0=>seaL|k+1=>kN (c / 5*4+3) k) else kP (c / 5) k
theorem DZ (r c:Int) (k:Nat):∀x∈vK r c k,97≤x∧x≤122:=by
 unfold vK
 split
 ·exact iB r k
 split
 ·split
  ·decide
  ·exact iB _ _
 ·exact pU _ _
theorem D0 (r c:Int) {k:Nat} (hk:k<8):1≤(vK r c k).length∧(vK r c k).length≤12:=by
 unfold vK
 split
 ·exact iC r hk
 split
 ·split
  ·decide
  ·exact iC _ (by omega)
 ·exact pV _ hk
theorem D1 {r c:Int} (hr:0≤r) (hc:0≤c) {j k:Nat} (hj:j<8) (hk:k<8) (h:vK r c j=vK r c k):j=k:=by
 unfold vK at h
 split at h
 ·exact iD hr hj hk h
 split at h
 ·split at h<;>split at h
  ·rfl
  ·exact absurd h.symm (iA _ _)
  ·exact absurd h (iA _ _)
  ·have:=iD (c:=c / 5*4+3) (by omega) (by omega) (by omega) h;omega
 ·exact iR hj hk h
def jJ (l:List Nat):Str:=⟨l.toArray⟩
theorem v3 (l:List Nat):(jJ l).length=l.length:=List.size_toArray
theorem iL (a b:List Nat):jJ a++jJ b=jJ (a++b):=by
 show (⟨a.toArray++b.toArray⟩:Str)=⟨(a++b).toArray⟩
 rw [List.append_toArray]
theorem Z8 {a b:List Nat} (h:jJ a=jJ b):a=b:=congrArg (fun z:Str=>z.cps.toList) h
theorem pL (l:List Nat) {j:Int} (h0:0≤j) (h1:j≤l.length):Txt.slice (jJ l) none (some j)=jJ (l.take j.toNat):=by
 have h:=eq_of_beq (PyProof.Rows.slice_closes_to (x:=jJ l) (j:=j) ⟨h0,h1⟩)
 rw [h]
 show (⟨((l.drop (0:Int).toNat).take (j - 0).toNat).toArray⟩:Str)=_
 rw [Int.sub_zero]
 rfl
theorem B0 (l:List Nat) {i:Int} (h0:0≤i) (h1:i≤l.length):Txt.slice (jJ l) (some i) none=jJ (l.drop i.toNat):=by
 have h:=PyProof.Rows.slice_from_eq (x:=jJ l) (i:=i) (b:=l.length) h0 (by rw [v3];exact h1) (by rw [v3])
 rw [h]
 show (⟨((l.drop i.toNat).take ((l.length:Int) - i).toNat).toArray⟩:Str)=_
 rw [List.take_of_length_le (by rw [List.length_drop];omega)]
 rfl
theorem C5 (l:List Nat) {i j:Int} (h0:0≤i) (h1:i≤j) (h2:j≤l.length):Txt.slice (jJ l) (some i) (some j)=jJ ((l.take j.toNat).drop i.toNat):=by
 have h:=eq_of_beq (PyProof.Rows.slice_closes (x:=jJ l) (i:=i) (j:=j) ⟨h0,h1,h2⟩)
 rw [h,List.drop_take]
 show (⟨((l.drop i.toNat).take (j - i).toNat).toArray⟩:Str)=⟨((l.drop i.toNat).take (j.toNat - i.toNat)).toArray⟩
 rw [show (j - i).toNat=j.toNat - i.toNat by omega]
theorem DP (n:Int):cQ (n%26).toNat=vL n:=by
 have h1:=Int.emod_nonneg n (by decide:(26:Int)≠0)
 have h2:=Int.emod_lt_of_pos n (by decide:(0:Int)<26)
 unfold vL
 generalize hz:(n%26).toNat=z
 have hz26:z<26:=by omega
 have key:∀z,z<26→cQ z=97+z:=by decide +kernel
 exact key z hz26
theorem o7 (n:Int):qF lettersS.cps.toList (n%26)=some (vL n):=by
 rw [← DP]
 exact CQ (Int.emod_nonneg n (by decide)) (Int.emod_lt_of_pos n (by decide))
theorem EY (c:Nat):(⟨#[c]⟩:Str)=jJ [c]:=rfl
theorem FH:("":Str)=jJ []:=by decide +kernel
theorem eN:("sea":Str)=jJ seaL:=by decide +kernel
theorem C6:("seaz":Str)=jJ [115,101,97,122]:=by decide +kernel
theorem EN:("seb":Str)=jJ [115,101,98]:=by decide +kernel
theorem ED (c:Int) {i:Nat} (h:i<12):(qA c).take i++[vL (c / 4+c / 100*(i:Int)+(i:Int)*(i:Int))]=(qA c).take (i+1):=by
 rw [List.take_add_one]
 congr 1
 unfold qA
 rw [List.getElem?_map,List.getElem?_range h]
 rfl
def kT (f:Nat→List Nat) (n:Nat):List V:=(List.range n).map fun k=>V.str (jJ (f k))
theorem cF (f:Nat→List Nat) (n:Nat):(kT f n).length=n:=by unfold kT;rw [List.length_map,List.length_range]
theorem gM (f:Nat→List Nat) (n:Nat):kT f n++[V.str (jJ (f n))]=kT f (n+1):=by
 unfold kT
 rw [List.range_succ,List.map_append]
 rfl
theorem cH (f:Nat→List Nat) {n k:Nat} (h:k<n):(kT f n)[k]?=some (V.str (jJ (f k))):=by
 unfold kT
 rw [List.getElem?_map,List.getElem?_range h]
 rfl
def iO:Sp:=fun vs H Q _=>∃c:Int,vs=[.int c,.int 8]∧∀(l:Addr) (H':Hp),Same H H'→H l=none→H' l=some (.lst (kT (kP c) 8))→Q (.ref l) H'
def gK:Sp:=fun vs H Q _=>∃c:Int,vs=[.int c]∧∀(l:Addr) (H':Hp),Same H H'→H l=none→H' l=some (.lst (kT (kN c) 8))→Q (.ref l) H'
def pJ:Sp:=fun vs H Q _=>∃(c r:Int) (a:Addr),vs=[.int c,.ref a]∧H a=some (.lst (kT (kN r) 8))∧∀(l:Addr) (H':Hp),Same H H'→H' l=some (.lst (kT (vK r c) 8))→Q (.ref l) H'
theorem BD (f:Nat→List Nat) {n m:Nat} (h:m≤n):(kT f n).take m=kT f m:=by
 unfold kT
 rw [← List.map_take,List.take_range]
 rw [Nat.min_eq_left h]
theorem sU (f:Nat→List Nat):vS (kT f 8) none (some 7)=kT f 7:=by
 unfold vS
 rw [cF]
 show ((kT f 8).drop 0).take 7=_
 rw [List.drop_zero,BD f (by decide)]
theorem BE (x:List Nat) (f g:Nat→List Nat) (n:Nat) (h0:g 0=x) (hs:∀k,g (k+1)=f k):V.str (jJ x)::kT f n=kT g (n+1):=by
 unfold kT
 rw [List.range_succ_eq_map,List.map_cons,List.map_map,h0]
 congr 1
 refine List.map_congr_left fun k _=>?_
 show V.str (jJ (f k))=V.str (jJ (g (k+1)))
 rw [hs]
theorem mK {f g:Nat→List Nat} {n:Nat} (h:∀k,f k=g k):kT f n=kT g n:=by
 unfold kT
 refine List.map_congr_left fun k _=>?_
 rw [h]
structure RC where
 name:Str
 least:Int
 crest:Int
 berths:Int
 water:Int
 target:Int
def RC.good (r:RC) (n:Nat):Prop:=0≤r.least∧r.least≤r.crest∧r.crest≤999999999999∧1≤r.berths∧r.berths≤9∧0≤r.water∧r.water≤999999999999∧-1≤r.target∧r.target<(n:Int)
def yV (r:RC):List V:=[.str "reach",.str r.name,.int r.least,.int r.crest,.int r.berths,.int r.water,.int r.target]
def pF:Sp:=fun vs H Q _=>∃(nm:Str) (a b c:Int) (n:Nat),vs=[.str nm,.int a,.int b,.int c,.int (n:Int)]∧∀(r:RC) (t:Addr) (H':Hp),r.name=nm→r.good n→Same H H'→H t=none→H' t=some (.tup (yV r))→Q (.ref t) H'
theorem mB:(10:Int) ^ Int.toNat 12=1000000000000:=by decide +kernel
theorem IN {x0 x1 x2 x3 x4 x5 n lo hi:Int} (h0:lo≤x0∧x0≤hi) (h1:lo≤x1∧x1≤hi) (h2:lo≤x2∧x2≤hi) (h3:lo≤x3∧x3≤hi) (h4:lo≤x4∧x4≤hi) (h5:lo≤x5∧x5≤hi) :
  ∃z:Int,qF [V.int x0,V.int x1,V.int x2,V.int x3,V.int x4,V.int x5] (n%6)=some (.int z)∧lo≤z∧z≤hi:=by
 have a:=Int.emod_nonneg n (by decide:(6:Int)≠0)
 have b:=Int.emod_lt_of_pos n (by decide:(0:Int)<6)
 obtain ⟨k,hk⟩:∃k:Nat,n%6=(k:Int):=⟨(n%6).toNat,by omega⟩
 rw [hk]
 have hk6:k<6:=by omega
 rcases k with _|_|_|_|_|_|k
 ·exact ⟨x0,rfl,h0⟩
 ·exact ⟨x1,rfl,h1⟩
 ·exact ⟨x2,rfl,h2⟩
 ·exact ⟨x3,rfl,h3⟩
 ·exact ⟨x4,rfl,h4⟩
 ·exact ⟨x5,rfl,h5⟩
 ·omega
theorem sZ {x0 x1 x2 n lo hi:Int} (h0:lo≤x0∧x0≤hi) (h1:lo≤x1∧x1≤hi) (h2:lo≤x2∧x2≤hi) :
  ∃z:Int,qF [V.int x0,V.int x1,V.int x2] (n%3)=some (.int z)∧lo≤z∧z≤hi:=by
 have a:=Int.emod_nonneg n (by decide:(3:Int)≠0)
 have b:=Int.emod_lt_of_pos n (by decide:(0:Int)<3)
 obtain ⟨k,hk⟩:∃k:Nat,n%3=(k:Int):=⟨(n%3).toNat,by omega⟩
 rw [hk]
 have hk3:k<3:=by omega
 rcases k with _|_|_|k
 ·exact ⟨x0,rfl,h0⟩
 ·exact ⟨x1,rfl,h1⟩
 ·exact ⟨x2,rfl,h2⟩
 ·omega
structure LC where
 name:Str
 high:Int
 low:Int
 room:Int
 kd:Kd
 extra:Int
def yI:Kd→Str
 |.plain=>"plain"
 |.basin=>"basin"
 |.pump=>"pump"
def LC.good (l:LC) (n:Nat):Prop:=1≤l.high∧l.high<(n:Int)∧0≤l.low∧l.low<l.high∧1≤l.room∧l.room≤999999999999∧(l.kd=.plain→l.extra=0)∧(l.kd≠.plain→1≤l.extra∧l.extra≤l.room)
def fW (l:LC):List V:=[.str "lock",.str l.name,.int l.high,.int l.low,.int l.room,.str (yI l.kd),.int l.extra]
def rL:Sp:=fun vs H Q _=>∃(nm:Str) (a b c:Int) (n:Nat),vs=[.str nm,.int a,.int b,.int c,.int (n:Int)]∧1<n∧∀(l:LC) (t:Addr) (H':Hp),l.name=nm→l.good n→Same H H'→H t=none→H' t=some (.tup (fW l))→Q (.ref t) H'
theorem G9 (n:Int):∃kd:Kd,qF [V.str "plain",V.str "basin",V.str "pump"] (n%3)=some (.str (yI kd)):=by
 have a:=Int.emod_nonneg n (by decide:(3:Int)≠0)
 have b:=Int.emod_lt_of_pos n (by decide:(0:Int)<3)
 obtain ⟨k,hk⟩:∃k:Nat,n%3=(k:Int):=⟨(n%3).toNat,by omega⟩
 rw [hk]
 have hk3:k<3:=by omega
 rcases k with _|_|_|k
 ·exact ⟨.plain,rfl⟩
 ·exact ⟨.basin,rfl⟩
 ·exact ⟨.pump,rfl⟩
 ·omega
theorem eK (kd:Kd):V.str (yI kd)=V.str "plain"↔kd=.plain:=by
 cases kd
 ·exact ⟨fun _=>rfl,fun _=>rfl⟩
 ·exact ⟨fun h=>absurd (V.str.inj h) (by decide +kernel),fun h=>nomatch h⟩
 ·exact ⟨fun h=>absurd (V.str.inj h) (by decide +kernel),fun h=>nomatch h⟩
def TripsAt (H:Hp) (rs:List V) (ts:List (Nat×Int×Int)):Prop:=rs.length=ts.length∧∀(i:Nat) (r:V),rs[i]?=some r→∃(a:Addr) (k:Nat) (x y:Int),r=.ref a∧ts[i]?=some (k,x,y)∧H a=some (.tup [.int (k:Int),.int x,.int y])
def tripsOk (ts:List (Nat×Int×Int)) (n:Nat):Prop:=(ts.map (·.1)).Nodup∧∀q∈ts,q.1<n∧0≤q.2.1∧q.2.1≤999999999999∧0≤q.2.2∧q.2.2≤999999999999
theorem TripsAt.same {H H':Hp} {rs:List V} {ts:List (Nat×Int×Int)} (e:Same H H') (h:TripsAt H rs ts):TripsAt H' rs ts :=
 ⟨h.1,fun i r hi=>by obtain ⟨a,k,x,y,h1,h2,h3⟩:=h.2 i r hi;exact ⟨a,k,x,y,h1,h2,e _ _ h3⟩⟩
theorem TripsAt.keep {H H':Hp} {d:Addr} {ys rs:List V} {ts:List (Nat×Int×Int)} (k:Keep d H H') (hd:H d=some (.lst ys)) (h:TripsAt H rs ts):TripsAt H' rs ts :=
 ⟨h.1,fun i r hi=>by obtain ⟨a,k',x,y,h1,h2,h3⟩:=h.2 i r hi;exact ⟨a,k',x,y,h1,h2,k _ _ (fun z=>by rw [z,hd] at h3;cases h3) h3⟩⟩
theorem TripsAt.snoc {H:Hp} {rs:List V} {ts:List (Nat×Int×Int)} {a:Addr} {k:Nat} {x y:Int} (h:TripsAt H rs ts) (ha:H a=some (.tup [.int (k:Int),.int x,.int y])):TripsAt H (rs++[.ref a]) (ts++[(k,x,y)]):=by
 refine ⟨by rw [List.length_append,List.length_append,h.1];rfl,fun i r hi=>?_⟩
 by_cases hl:i<rs.length
 ·rw [List.getElem?_append_left hl] at hi
  rw [List.getElem?_append_left (by rw [← h.1];exact hl)]
  exact h.2 i r hi
 ·rw [List.getElem?_append_right (by omega)] at hi
  have e:i=rs.length:=by
   by_cases z:i - rs.length=0
   ·omega
   ·rw [List.getElem?_eq_none (by show 1≤i - rs.length;omega)] at hi;cases hi
  rw [e,Nat.sub_self] at hi
  cases hi
  refine ⟨a,k,x,y,rfl,?_,ha⟩
  rw [e,h.1,List.getElem?_append_right (Nat.le_refl _),Nat.sub_self]
  rfl
theorem TripsAt.rev {H:Hp} {rs:List V} {ts:List (Nat×Int×Int)} (h:TripsAt H rs ts):TripsAt H rs.reverse ts.reverse:=by
 refine ⟨by rw [List.length_reverse,List.length_reverse,h.1],fun i r hi=>?_⟩
 have hl:i<rs.length:=by have:=(List.getElem?_eq_some_iff.mp hi).1;rwa [List.length_reverse] at this
 rw [List.getElem?_reverse hl] at hi
 obtain ⟨a,k,x,y,h1,h2,h3⟩:=h.2 _ r hi
 exact ⟨a,k,x,y,h1,by rw [List.getElem?_reverse (by rw [← h.1];exact hl),← h.1];exact h2,h3⟩
theorem tripsOk.snoc {ts:List (Nat×Int×Int)} {k:Nat} {x y:Int} (h:tripsOk ts k) (hx:0≤x∧x≤999999999999) (hy:0≤y∧y≤999999999999):tripsOk (ts++[(k,x,y)]) (k+1):=by
 refine ⟨?_,fun q hq=>?_⟩
 ·rw [List.map_append,List.nodup_append]
  refine ⟨h.1,by simp,fun a ha b hb=>?_⟩
  obtain ⟨q,hq,rfl⟩:=List.mem_map.mp ha
  have hb:b=k:=by simpa using hb
  have:=(h.2 q hq).1
  omega
 ·rcases List.mem_append.mp hq with hq|hq
  ·obtain ⟨h1,h2⟩:=h.2 q hq;exact ⟨by omega,h2⟩
  ·cases List.mem_singleton.mp hq;exact ⟨by show k<k+1;omega,hx.1,hx.2,hy.1,hy.2⟩
theorem tripsOk.more {ts:List (Nat×Int×Int)} {k n:Nat} (h:tripsOk ts k) (hn:k≤n):tripsOk ts n:=⟨h.1,fun q hq=>by obtain ⟨h1,h2⟩:=h.2 q hq;exact ⟨by omega,h2⟩⟩
theorem tripsOk.rev {ts:List (Nat×Int×Int)} {n:Nat} (h:tripsOk ts n):tripsOk ts.reverse n:=⟨by rw [List.map_reverse];exact (List.reverse_perm _).nodup_iff.mpr h.1,fun q hq=>h.2 q (List.mem_reverse.mp hq)⟩
def pG:Sp:=fun vs H Q _=>∃(a b c:Int) (n:Nat),vs=[.int a,.int b,.int c,.int (n:Int)]∧n≤8∧∀(ts:List (Nat×Int×Int)) (rs:List V) (t l:Addr) (H':Hp),tripsOk ts n→ts.length≤8→Same H H'→H t=none→H l=none→H' t=some (.tup [.str "night",.ref l])→H' l=some (.lst rs)→TripsAt H' rs ts→Q (.ref t) H'
theorem lZ (z:Int):0≤z%10 ^ Int.toNat 12∧z%10 ^ Int.toNat 12≤999999999999:=by
 rw [mB]
 have h0:=Int.emod_nonneg z (by decide:(1000000000000:Int)≠0)
 have h1:=Int.emod_lt_of_pos z (by decide:(0:Int)<1000000000000)
 omega
inductive PIt where
 |reach (r:RC)
 |lock (l:LC)
 |night (ts:List (Nat×Int×Int))
def ItAt (D:List Addr) (H:Hp) (v:V):PIt→Prop
 |.reach r=>∃t,v=.ref t∧H t=some (.tup (yV r))
 |.lock l=>∃t,v=.ref t∧H t=some (.tup (fW l))
 |.night ts=>∃(t l:Addr) (rs:List V),v=.ref t∧H t=some (.tup [.str "night",.ref l])∧H l=some (.lst rs)∧TripsAt H rs ts∧l∉D
theorem ItAt.same {D:List Addr} {H H':Hp} {v:V} {it:PIt} (e:Same H H') (h:ItAt D H v it):ItAt D H' v it:=by
 cases it with
 |reach r=>obtain ⟨t,h1,h2⟩:=h;exact ⟨t,h1,e _ _ h2⟩
 |lock l=>obtain ⟨t,h1,h2⟩:=h;exact ⟨t,h1,e _ _ h2⟩
 |night ts=>obtain ⟨t,l,rs,h1,h2,h3,h4,h5⟩:=h;exact ⟨t,l,rs,h1,e _ _ h2,e _ _ h3,h4.same e,h5⟩
theorem ItAt.keep {D:List Addr} {H H':Hp} {d:Addr} {ys:List V} {v:V} {it:PIt} (k:Keep d H H') (hd:H d=some (.lst ys)) (hD:d∈D) (h:ItAt D H v it):ItAt D H' v it:=by
 have nt:∀{t:Addr} {zs:List V},H t=some (.tup zs)→t≠d:=fun ht z=>by rw [z,hd] at ht;cases ht
 cases it with
 |reach r=>obtain ⟨t,h1,h2⟩:=h;exact ⟨t,h1,k _ _ (nt h2) h2⟩
 |lock l=>obtain ⟨t,h1,h2⟩:=h;exact ⟨t,h1,k _ _ (nt h2) h2⟩
 |night ts=>obtain ⟨t,l,rs,h1,h2,h3,h4,h5⟩:=h;exact ⟨t,l,rs,h1,k _ _ (nt h2) h2,k _ _ (fun z=>h5 (z▸hD)) h3,h4.keep k hd,h5⟩
def PlanAt (D:List Addr) (H:Hp) (vs:List V) (its:List PIt):Prop:=vs.length=its.length∧∀(i:Nat) (v:V),vs[i]?=some v→∃it,its[i]?=some it∧ItAt D H v it
theorem PlanAt.nil {D:List Addr} {H:Hp}:PlanAt D H [] []:=⟨rfl,fun i v h=>by cases h⟩
theorem PlanAt.same {D:List Addr} {H H':Hp} {vs:List V} {its:List PIt} (e:Same H H') (h:PlanAt D H vs its):PlanAt D H' vs its:=⟨h.1,fun i v hv=>by obtain ⟨it,h1,h2⟩:=h.2 i v hv;exact ⟨it,h1,h2.same e⟩⟩
theorem PlanAt.keep {D:List Addr} {H H':Hp} {d:Addr} {ys vs:List V} {its:List PIt} (k:Keep d H H') (hd:H d=some (.lst ys)) (hD:d∈D) (h:PlanAt D H vs its):PlanAt D H' vs its:=⟨h.1,fun i v hv=>by obtain ⟨it,h1,h2⟩:=h.2 i v hv;exact ⟨it,h1,h2.keep k hd hD⟩⟩
theorem PlanAt.snoc {D:List Addr} {H:Hp} {vs:List V} {its:List PIt} {v:V} {it:PIt} (h:PlanAt D H vs its) (hv:ItAt D H v it):PlanAt D H (vs++[v]) (its++[it]):=by
 refine ⟨by rw [List.length_append,List.length_append,h.1];rfl,fun i w hw=>?_⟩
 by_cases hl:i<vs.length
 ·rw [List.getElem?_append_left hl] at hw
  rw [List.getElem?_append_left (by rw [← h.1];exact hl)]
  exact h.2 i w hw
 ·rw [List.getElem?_append_right (by omega)] at hw
  have e:i=vs.length:=by
   by_cases z:i - vs.length=0
   ·omega
   ·rw [List.getElem?_eq_none (by show 1≤i - vs.length;omega)] at hw;cases hw
  rw [e,Nat.sub_self] at hw
  cases hw
  refine ⟨it,?_,hv⟩
  rw [e,h.1,List.getElem?_append_right (Nat.le_refl _),Nat.sub_self]
  rfl
inductive PlanOk (rn gn:Nat→List Nat):List PIt→Nat→Nat→Nat→Prop where
 |nil:PlanOk rn gn [] 0 0 0
 |reach {its:List PIt} {a b c:Nat} {r:RC} (h:PlanOk rn gn its a b c) (ha:a<8) (hn:r.name=jJ (rn a)) (hg:r.good a):PlanOk rn gn (its++[.reach r]) (a+1) b c
 |lock {its:List PIt} {a b c:Nat} {l:LC} (h:PlanOk rn gn its a b c) (hb:b<8) (hn:l.name=jJ (gn b)) (hg:l.good a):PlanOk rn gn (its++[.lock l]) a (b+1) c
 |night {its:List PIt} {a b c:Nat} {ts:List (Nat×Int×Int)} (h:PlanOk rn gn its a b c) (hc:c<6) (ht:tripsOk ts a) (hl:ts.length≤8):PlanOk rn gn (its++[.night ts]) a b (c+1)
theorem PlanOk.bounds {rn gn:Nat→List Nat} {its:List PIt} {a b c:Nat} (h:PlanOk rn gn its a b c):a≤8∧b≤8∧c≤6∧its.length=a+b+c:=by
 induction h with
 |nil=>exact ⟨by omega,by omega,by omega,rfl⟩
 |reach h ha _ _ ih=>rw [List.length_append];exact ⟨by omega,ih.2.1,ih.2.2.1,by show _+1=_;omega⟩
 |lock h hb _ _ ih=>rw [List.length_append];exact ⟨ih.1,by omega,ih.2.2.1,by show _+1=_;omega⟩
 |night h hc _ _ ih=>rw [List.length_append];exact ⟨ih.1,ih.2.1,by omega,by show _+1=_;omega⟩
def rJ (K:W.Frag):Sp:=fun vs H Q _=>∃(s nl gl:Addr) (ns:List Int) (rn gn:Nat→List Nat),vs=[.ref s,.ref nl,.ref gl]∧SqL K H s (ns.map V.int)∧ns.length≤63∧H nl=some (.lst (kT rn 8))∧H gl=some (.lst (kT gn 8))∧
 ∀(its:List PIt) (a b c:Nat) (pl:Addr) (vs:List V) (H':Hp),PlanOk rn gn its a b c→1≤a→Same H H'→H pl=none→H' pl=some (.lst vs)→PlanAt [pl] H' vs its→Q (.ref pl) H'
theorem ItAt.less {D D':List Addr} {H:Hp} {v:V} {it:PIt} (hD:∀d∈D',d∈D) (h:ItAt D H v it):ItAt D' H v it:=by
 cases it with
 |reach r=>exact h
 |lock l=>exact h
 |night ts=>obtain ⟨t,l,rs,h1,h2,h3,h4,h5⟩:=h;exact ⟨t,l,rs,h1,h2,h3,h4,fun z=>h5 (hD _ z)⟩
theorem PlanAt.less {D D':List Addr} {H:Hp} {vs:List V} {its:List PIt} (hD:∀d∈D',d∈D) (h:PlanAt D H vs its):PlanAt D' H vs its:=⟨h.1,fun i v hv=>by obtain ⟨it,h1,h2⟩:=h.2 i v hv;exact ⟨it,h1,h2.less hD⟩⟩
theorem cI (f:Nat→List Nat) {a:Nat} (h:a<8):qF (kT f 8) ((a:Int)+1 - 1)=some (V.str (jJ (f a))):=by
 rw [show (a:Int)+1 - 1=(a:Int) by omega]
 exact qV (cH f h)
theorem IZ (nm:Str):RC.good ⟨nm,0,7,1,9,-1⟩ 0:=⟨(by decide:(0:Int)≤0),(by decide:(0:Int)≤7),(by decide:(7:Int)≤999999999999),(by decide:(1:Int)≤1),(by decide:(1:Int)≤9),(by decide:(0:Int)≤9),(by decide:(9:Int)≤999999999999),(by decide:(-1:Int)≤-1),(by decide:(-1:Int)<((0:Nat):Int))⟩
theorem DN (f:Nat→List Nat):qF (kT f 8) (0:Int)=some (V.str (jJ (f 0))):=qV (j:=0) (cH f (by decide))
theorem C9 {n:Nat} (h:n≤63):Builtin.Range.small 2 (n:Int) 3=true:=by
 have key:∀m:Nat,m<64→Builtin.Range.small 2 (m:Int) 3=true:=by decide +kernel
 exact key n (by omega)
def AllAt {α:Type} (P:V→α→Prop) (vs:List V) (xs:List α):Prop:=vs.length=xs.length∧∀(i:Nat) (v:V),vs[i]?=some v→∃x,xs[i]?=some x∧P v x
theorem AllAt.nil {α:Type} {P:V→α→Prop}:AllAt P [] ([]:List α):=⟨rfl,fun i v h=>by cases h⟩
theorem AllAt.mono {α:Type} {P P':V→α→Prop} {vs:List V} {xs:List α} (m:∀v x,P v x→P' v x) (h:AllAt P vs xs):AllAt P' vs xs:=⟨h.1,fun i v hv=>by obtain ⟨x,h1,h2⟩:=h.2 i v hv;exact ⟨x,h1,m v x h2⟩⟩
theorem AllAt.snoc {α:Type} {P:V→α→Prop} {vs:List V} {xs:List α} {v:V} {x:α} (h:AllAt P vs xs) (hv:P v x):AllAt P (vs++[v]) (xs++[x]):=by
 refine ⟨by rw [List.length_append,List.length_append,h.1];rfl,fun i w hw=>?_⟩
 by_cases hl:i<vs.length
 ·rw [List.getElem?_append_left hl] at hw
  rw [List.getElem?_append_left (by rw [← h.1];exact hl)]
  exact h.2 i w hw
 ·rw [List.getElem?_append_right (by omega)] at hw
  have e:i=vs.length:=by
   by_cases z:i - vs.length=0
   ·omega
   ·rw [List.getElem?_eq_none (by show 1≤i - vs.length;omega)] at hw;cases hw
  rw [e,Nat.sub_self] at hw
  cases hw
  refine ⟨x,?_,hv⟩
  rw [e,h.1,List.getElem?_append_right (Nat.le_refl _),Nat.sub_self]
  rfl
theorem AllAt.put {α:Type} {P:V→α→Prop} {vs:List V} {xs:List α} {v:V} {x:α} (h:AllAt P vs xs) (k:Nat) (hv:P v x):AllAt P (vs.set k v) (xs.set k x):=by
 refine ⟨by rw [List.length_set,List.length_set,h.1],fun i w hw=>?_⟩
 rw [List.getElem?_set] at hw ⊢
 by_cases e:k=i
 ·rw [if_pos e] at hw ⊢
  rw [← h.1]
  split at hw
  ·cases hw
   rename_i hl
   exact ⟨x,if_pos hl,hv⟩
  ·cases hw
 ·rw [if_neg e] at hw ⊢
  exact h.2 i w hw
theorem AllAt.get {α:Type} {P:V→α→Prop} {vs:List V} {xs:List α} (h:AllAt P vs xs) {i:Nat} {x:α} (hx:xs[i]?=some x):∃v,vs[i]?=some v∧P v x:=by
 have hi:i<vs.length:=by rw [h.1];exact (List.getElem?_eq_some_iff.mp hx).1
 obtain ⟨y,h1,h2⟩:=h.2 i _ (List.getElem?_eq_getElem hi)
 rw [hx] at h1
 cases h1
 exact ⟨_,List.getElem?_eq_getElem hi,h2⟩
def RAt (H:Hp) (v:V) (r:RC):Prop:=∃t,v=.ref t∧H t=some (.tup (yV r))
def LAt (H:Hp) (v:V) (l:LC):Prop:=∃t,v=.ref t∧H t=some (.tup (fW l))
def QAt (H:Hp) (v:V) (p:Int×Int):Prop:=∃t,v=.ref t∧H t=some (.tup [.int p.1,.int p.2])
def NAt (D:List Addr) (H:Hp) (v:V) (ps:List (Int×Int)):Prop:=∃(l:Addr) (qs:List V),v=.ref l∧H l=some (.lst qs)∧AllAt (QAt H) qs ps∧l∉D
theorem RAt.same {H H':Hp} (e:Same H H') (v:V) (r:RC):RAt H v r→RAt H' v r:=fun ⟨t,h1,h2⟩=>⟨t,h1,e _ _ h2⟩
theorem LAt.same {H H':Hp} (e:Same H H') (v:V) (r:LC):LAt H v r→LAt H' v r:=fun ⟨t,h1,h2⟩=>⟨t,h1,e _ _ h2⟩
theorem QAt.same {H H':Hp} (e:Same H H') (v:V) (r:Int×Int):QAt H v r→QAt H' v r:=fun ⟨t,h1,h2⟩=>⟨t,h1,e _ _ h2⟩
theorem QAt.put {H:Hp} {d:Addr} {ys:List V} {o:HO} (hd:H d=some (.lst ys)) (v:V) (r:Int×Int):QAt H v r→QAt (upd H d o) v r:=fun ⟨t,h1,h2⟩=>⟨t,h1,by rw [kC (fun z=>by rw [z,hd] at h2;cases h2)];exact h2⟩
theorem NAt.same {D:List Addr} {H H':Hp} (e:Same H H') (v:V) (r:List (Int×Int)):NAt D H v r→NAt D H' v r:=fun ⟨l,qs,h1,h2,h3,h4⟩=>⟨l,qs,h1,e _ _ h2,h3.mono (QAt.same e),h4⟩
theorem NAt.put {D:List Addr} {H:Hp} {d:Addr} {ys:List V} {o:HO} (hd:H d=some (.lst ys)) (hD:d∈D) (v:V) (r:List (Int×Int)):NAt D H v r→NAt D (upd H d o) v r:=fun ⟨l,qs,h1,h2,h3,h4⟩=>⟨l,qs,h1,by rw [kC (fun z=>h4 (by rw [z];exact hD))];exact h2,h3.mono (QAt.put hd),h4⟩
theorem NAt.less {D D':List Addr} {H:Hp} (hD:∀d∈D',d∈D) (v:V) (r:List (Int×Int)):NAt D H v r→NAt D' H v r:=fun ⟨l,qs,h1,h2,h3,h4⟩=>⟨l,qs,h1,h2,h3,fun z=>h4 (hD _ z)⟩
def zK:PIt→Option RC
 |.reach r=>some r
 |_=>none
def zL:PIt→Option LC
 |.lock l=>some l
 |_=>none
def qD (n:Nat) (ts:List (Nat×Int×Int)):List (Int×Int):=ts.foldl (fun ps q=>ps.set q.1 (q.2.1,q.2.2)) (List.replicate n (0,0))
theorem cE (n:Nat) (ts:List (Nat×Int×Int)):(qD n ts).length=n:=by
 unfold qD
 have key:∀(ts:List (Nat×Int×Int)) (ps:List (Int×Int)),(ts.foldl (fun ps q=>ps.set q.1 (q.2.1,q.2.2)) ps).length=ps.length:=by
  intro ts
  induction ts with
  |nil=>intro ps;rfl
  |cons q r ih=>intro ps;rw [List.foldl_cons,ih,List.length_set]
 rw [key,List.length_replicate]
theorem mP (n:Nat) (ts:List (Nat×Int×Int)) {j:Nat} {q:Nat×Int×Int} (h:ts[j]?=some q):qD n (ts.take (j+1))=(qD n (ts.take j)).set q.1 (q.2.1,q.2.2):=by
 unfold qD
 rw [List.take_add_one,h,List.foldl_append]
 rfl
def v2 (n:Nat):PIt→Option (List (Int×Int))
 |.night ts=>some (qD n ts)
 |_=>none
theorem zV {α:Type} (f:PIt→Option α) (its:List PIt) {i:Nat} {it:PIt} (h:its[i]?=some it):(its.take (i+1)).filterMap f=(its.take i).filterMap f++(f it).toList:=by
 rw [List.take_add_one,h,List.filterMap_append]
 cases e:f it with
 |none=>simp [e]
 |some x=>simp [e]
def kH (its:List PIt):List RC:=its.filterMap zK
def kL (its:List PIt):List LC:=its.filterMap zL
def yZ (its:List PIt):List (List (Int×Int)):=its.filterMap (v2 (kH its).length)
theorem lP:¬("lock":Str)="reach":=by decide +kernel
theorem lO:¬("night":Str)="reach":=by decide +kernel
theorem KF:¬("reach":Str)="lock":=by decide +kernel
theorem lQ:¬("night":Str)="lock":=by decide +kernel
theorem KC:¬("reach":Str)="night":=by decide +kernel
theorem KD:¬("lock":Str)="night":=by decide +kernel
theorem yC {rn gn:Nat→List Nat} {its:List PIt} {a b c:Nat} (h:PlanOk rn gn its a b c):(kH its).length=a∧(kL its).length=b∧∀ts,.night ts∈its→tripsOk ts a∧ts.length≤8:=by
 induction h with
 |nil=>exact ⟨rfl,rfl,fun ts h=>by cases h⟩
 |reach h ha hn hg ih =>
  refine ⟨by unfold kH;rw [List.filterMap_append,List.length_append];show (kH _).length+1=_;rw [ih.1],by unfold kL;rw [List.filterMap_append,List.length_append];show (kL _).length+0=_;rw [ih.2.1];rfl,fun ts hts=>?_⟩
  rcases List.mem_append.mp hts with hts|hts
  ·obtain ⟨h1,h2⟩:=ih.2.2 ts hts;exact ⟨h1.more (by omega),h2⟩
  ·cases List.mem_singleton.mp hts
 |lock h hb hn hg ih =>
  refine ⟨by unfold kH;rw [List.filterMap_append,List.length_append];show (kH _).length+0=_;rw [ih.1];rfl,by unfold kL;rw [List.filterMap_append,List.length_append];show (kL _).length+1=_;rw [ih.2.1],fun ts hts=>?_⟩
  rcases List.mem_append.mp hts with hts|hts
  ·exact ih.2.2 ts hts
  ·cases List.mem_singleton.mp hts
 |night h hc ht hl ih =>
  refine ⟨by unfold kH;rw [List.filterMap_append,List.length_append];show (kH _).length+0=_;rw [ih.1];rfl,by unfold kL;rw [List.filterMap_append,List.length_append];show (kL _).length+0=_;rw [ih.2.1];rfl,fun ts hts=>?_⟩
  rcases List.mem_append.mp hts with hts|hts
  ·exact ih.2.2 ts hts
  ·cases List.mem_singleton.mp hts;exact ⟨ht,hl⟩
def sK:Sp:=fun vs H Q _=>∃(pl:Addr) (us:List V) (its:List PIt) (rn gn:Nat→List Nat) (a b c:Nat),vs=[.ref pl]∧H pl=some (.lst us)∧PlanAt [pl] H us its∧PlanOk rn gn its a b c∧
 ∀(t rl ll nl:Addr) (rs ls ns:List V) (H':Hp),Same H H'→H' t=some (.tup [.ref rl,.ref ll,.ref nl])→H' rl=some (.lst rs)→H' ll=some (.lst ls)→H' nl=some (.lst ns)→AllAt (RAt H') rs (kH its)→AllAt (LAt H') ls (kL its)→AllAt (NAt [rl,ll,nl] H') ns (yZ its)→Q (.ref t) H'
theorem K5:¬("plain":Str)="basin":=by decide +kernel
theorem K4:¬("plain":Str)="pump":=by decide +kernel
theorem K3:¬("pump":Str)="basin":=by decide +kernel
theorem zZ {f:Str} {v:V} {fs:List (Str×V)}:(jR f v fs).lookup f=some v:=by rw [q9,if_pos rfl]
theorem qZ {f g:Str} {v:V} {fs:List (Str×V)} (h:¬g=f):(jR f v fs).lookup g=fs.lookup g:=by rw [q9,if_neg h]
def iV (fs:List (Str×V)) (v_name v_least v_crest v_berths v_water v_target:V):Prop:=fs.lookup ("name":Str)=some v_name∧fs.lookup ("least":Str)=some v_least∧fs.lookup ("crest":Str)=some v_crest∧fs.lookup ("berths":Str)=some v_berths∧fs.lookup ("water":Str)=some v_water∧fs.lookup ("target":Str)=some v_target
theorem CT (v_name v_least v_crest v_berths v_water v_target:V):iV (jR "target" v_target (jR "water" v_water (jR "berths" v_berths (jR "crest" v_crest (jR "least" v_least (jR "name" v_name [])))))) v_name v_least v_crest v_berths v_water v_target:=by
 refine ⟨?_,?_,?_,?_,?_,?_⟩
 ·rw [qZ (f:="target") (g:="name") (by decide +kernel),qZ (f:="water") (g:="name") (by decide +kernel),qZ (f:="berths") (g:="name") (by decide +kernel),qZ (f:="crest") (g:="name") (by decide +kernel),qZ (f:="least") (g:="name") (by decide +kernel),zZ]
 ·rw [qZ (f:="target") (g:="least") (by decide +kernel),qZ (f:="water") (g:="least") (by decide +kernel),qZ (f:="berths") (g:="least") (by decide +kernel),qZ (f:="crest") (g:="least") (by decide +kernel),zZ]
 ·rw [qZ (f:="target") (g:="crest") (by decide +kernel),qZ (f:="water") (g:="crest") (by decide +kernel),qZ (f:="berths") (g:="crest") (by decide +kernel),zZ]
 ·rw [qZ (f:="target") (g:="berths") (by decide +kernel),qZ (f:="water") (g:="berths") (by decide +kernel),zZ]
 ·rw [qZ (f:="target") (g:="water") (by decide +kernel),zZ]
 ·rw [zZ]
def gN (c:Addr):Sp:=fun vs H Q _=>∃(x dx:Addr) (v_name v_least v_crest v_berths v_water v_target:V),vs=[.ref x,v_name,v_least,v_crest,v_berths,v_water,v_target]∧H x=some (.ins c dx [])∧∀(H':Hp) (fs:List (Str×V)),Keep x H H'→H' x=some (.ins c dx fs)→iV fs v_name v_least v_crest v_berths v_water v_target→Q .non H'
def RcAt (cR:Addr) (H:Hp) (x:Addr) (r:RC):Prop:=∃(dx:Addr) (fs:List (Str×V)),H x=some (.ins cR dx fs)∧iV fs (.str r.name) (.int r.least) (.int r.crest) (.int r.berths) (.int r.water) (.int r.target)
theorem RcAt.same {cR:Addr} {H H':Hp} {x:Addr} {r:RC} (e:Same H H') (h:RcAt cR H x r):RcAt cR H' x r:=by
 obtain ⟨dx,fs,h1,h2⟩:=h
 exact ⟨dx,fs,e _ _ h1,h2⟩
theorem AW {X:Cx} (K:W.Frag) (h:X.K=K:=by rfl):CallR X (.type "list") (fun xs H Q=>∃p ys,xs=[.ref p]∧(SqL K H p ys∨SqT K H p ys)∧∀l,H l=none→Q (.ref l) (upd H l (.lst ys))):=by subst h;exact Z3
theorem cM {X:Cx} (K:W.Frag) {e:Expr} {f:Str} {pos:Pos} {ta:TE} (he:PE X e ta) (hb:attributeBase e f X.env (eval e X.env)=eval e X.env) (h:X.K=K:=by rfl):PE X (.Attribute e f pos) (tM K ta f):=by subst h;exact kB he hb
def CanalFld (fs:List (Str×V)) (r l n:V):Prop:=fs.lookup ("reaches":Str)=some r∧fs.lookup ("locks":Str)=some l∧fs.lookup ("nights":Str)=some n∧∀m:Str,¬m="reaches"→¬m="locks"→¬m="nights"→fs.lookup m=none
theorem CU (r l n:V):CanalFld (jR "nights" n (jR "locks" l (jR "reaches" r []))) r l n:=by
 refine ⟨?_,?_,?_,fun m h1 h2 h3=>?_⟩
 ·rw [qZ (f:="nights") (g:="reaches") (by decide +kernel),qZ (f:="locks") (g:="reaches") (by decide +kernel),zZ]
 ·rw [qZ (f:="nights") (g:="locks") (by decide +kernel),zZ]
 ·rw [zZ]
 ·rw [qZ h3,qZ h2,qZ h1];rfl
theorem CanalFld.no {fs:List (Str×V)} {r l n:V} (h:CanalFld fs r l n) {m:Str} (h1:¬m="reaches") (h2:¬m="locks") (h3:¬m="nights"):fs.lookup m=none:=h.2.2.2 m h1 h2 h3
def RcO (cR:Addr) (H:Hp) (v:V) (r:RC):Prop:=∃x,v=.ref x∧RcAt cR H x r
def LkO (cs:Kd→Addr) (H:Hp) (v:V) (l:LC):Prop:=∃x,v=.ref x∧LockAt cs H x l.kd (.str l.name) (.int l.high) (.int l.low) l.room l.extra
theorem RcO.same {cR:Addr} {H H':Hp} (e:Same H H') (v:V) (r:RC):RcO cR H v r→RcO cR H' v r:=fun ⟨x,h1,h2⟩=>⟨x,h1,h2.same e⟩
theorem LkO.same {cs:Kd→Addr} {H H':Hp} (e:Same H H') (v:V) (l:LC):LkO cs H v l→LkO cs H' v l:=fun ⟨x,h1,h2⟩=>⟨x,h1,h2.same e⟩
theorem RcO.keep {cR y:Addr} {ys:List V} {H H':Hp} (k:Keep y H H') (hy:H y=some (.lst ys)) (v:V) (r:RC):RcO cR H v r→RcO cR H' v r:=fun ⟨x,h1,dx,fs,h2,h3⟩=>⟨x,h1,dx,fs,k _ _ (v9 h2 hy (fun z=>nomatch z)) h2,h3⟩
theorem LkO.keep {cs:Kd→Addr} {y:Addr} {ys:List V} {H H':Hp} (k:Keep y H H') (hy:H y=some (.lst ys)) (v:V) (l:LC):LkO cs H v l→LkO cs H' v l:=fun ⟨x,h1,dx,h2⟩=>⟨x,h1,dx,k _ _ (v9 h2 hy (fun z=>nomatch z)) h2⟩
theorem RcO.keepI {cR y c d:Addr} {H H':Hp} (k:Keep y H H') (hy:H y=some (.ins c d [])) (v:V) (r:RC):RcO cR H v r→RcO cR H' v r:=fun ⟨x,h1,dx,fs,h2,h3⟩=>⟨x,h1,dx,fs,k _ _ (fun z=>by rw [z,hy] at h2;cases h2;cases h3.1) h2,h3⟩
theorem LkO.keepI {cs:Kd→Addr} {y c d:Addr} {H H':Hp} (k:Keep y H H') (hy:H y=some (.ins c d [])) (v:V) (l:LC):LkO cs H v l→LkO cs H' v l:=fun ⟨x,h1,dx,h2⟩=>⟨x,h1,dx,k _ _ (fun z=>by
 rw [z,hy] at h2
 have e:=cS l.kd (.str l.name) (.int l.high) (.int l.low) (.int l.room) (.int l.extra)
 injection h2 with h2;injection h2 with h2 h3 h4
 rw [← h4] at e;cases e) h2⟩
theorem QAt.keep {y:Addr} {H H':Hp} (k:Keep y H H') {o:HO} (hy:H y=some o) (ho:∀xs,o≠.tup xs) (v:V) (p:Int×Int):QAt H v p→QAt H' v p:=fun ⟨t,h1,h2⟩=>⟨t,h1,k _ _ (fun z=>by rw [z,hy] at h2;exact ho _ (Option.some.inj h2)) h2⟩
theorem NAt.keep {D:List Addr} {y:Addr} {ys:List V} {H H':Hp} (k:Keep y H H') (hy:H y=some (.lst ys)) (hD:y∈D) (v:V) (p:List (Int×Int)):NAt D H v p→NAt D H' v p:=fun ⟨l,qs,h1,h2,h3,h4⟩=>⟨l,qs,h1,k _ _ (fun z=>h4 (z▸hD)) h2,h3.mono (QAt.keep k hy (fun _ z=>nomatch z)),h4⟩
def CnAt (cs:Kd→Addr) (cR cN:Addr) (D:List Addr) (H:Hp) (x:Addr) (R:List RC) (L:List LC) (N:List (List (Int×Int))):Prop:=∃(dx rl ll nl:Addr) (fs:List (Str×V)) (rs ls ns:List V),H x=some (.ins cN dx fs)∧CanalFld fs (.ref rl) (.ref ll) (.ref nl)∧H rl=some (.lst rs)∧H ll=some (.lst ls)∧H nl=some (.lst ns)∧AllAt (RcO cR H) rs R∧AllAt (LkO cs H) ls L∧AllAt (NAt D H) ns N∧rl∉D∧ll∉D∧nl∉D
theorem CnAt.same {cs:Kd→Addr} {cR cN:Addr} {D:List Addr} {H H':Hp} {x:Addr} {R:List RC} {L:List LC} {N:List (List (Int×Int))} (e:Same H H') (h:CnAt cs cR cN D H x R L N):CnAt cs cR cN D H' x R L N:=by
 obtain ⟨dx,rl,ll,nl,fs,rs,ls,ns,h1,h2,h3,h4,h5,h6,h7,h8,h9⟩:=h
 exact ⟨dx,rl,ll,nl,fs,rs,ls,ns,e _ _ h1,h2,e _ _ h3,e _ _ h4,e _ _ h5,h6.mono (RcO.same e),h7.mono (LkO.same e),h8.mono (NAt.same e),h9⟩
theorem CnAt.keep {cs:Kd→Addr} {cR cN:Addr} {D:List Addr} {H H':Hp} {x y:Addr} {ys:List V} {R:List RC} {L:List LC} {N:List (List (Int×Int))} (k:Keep y H H') (hy:H y=some (.lst ys)) (hD:y∈D) (h:CnAt cs cR cN D H x R L N):CnAt cs cR cN D H' x R L N:=by
 obtain ⟨dx,rl,ll,nl,fs,rs,ls,ns,h1,h2,h3,h4,h5,h6,h7,h8,h9,h10,h11⟩:=h
 exact ⟨dx,rl,ll,nl,fs,rs,ls,ns,k _ _ (v9 h1 hy (fun z=>nomatch z)) h1,h2,k _ _ (fun z=>h9 (z▸hD)) h3,k _ _ (fun z=>h10 (z▸hD)) h4,k _ _ (fun z=>h11 (z▸hD)) h5,h6.mono (RcO.keep k hy),h7.mono (LkO.keep k hy),h8.mono (NAt.keep k hy hD),h9,h10,h11⟩
def DueAt (D:List Addr) (H:Hp) (t:Addr) (R:List RC) (L:List LC) (N:List (List (Int×Int))):Prop:=∃(rl ll nl:Addr) (rs ls ns:List V),H t=some (.tup [.ref rl,.ref ll,.ref nl])∧H rl=some (.lst rs)∧H ll=some (.lst ls)∧H nl=some (.lst ns)∧AllAt (RAt H) rs R∧AllAt (LAt H) ls L∧AllAt (NAt D H) ns N∧rl∉D∧ll∉D∧nl∉D
theorem DueAt.same {D:List Addr} {H H':Hp} {t:Addr} {R:List RC} {L:List LC} {N:List (List (Int×Int))} (e:Same H H') (h:DueAt D H t R L N):DueAt D H' t R L N:=by
 obtain ⟨rl,ll,nl,rs,ls,ns,h1,h3,h4,h5,h6,h7,h8,h9⟩:=h
 exact ⟨rl,ll,nl,rs,ls,ns,e _ _ h1,e _ _ h3,e _ _ h4,e _ _ h5,h6.mono (RAt.same e),h7.mono (LAt.same e),h8.mono (NAt.same e),h9⟩
theorem DueAt.keep {D:List Addr} {H H':Hp} {t y:Addr} {ys:List V} {R:List RC} {L:List LC} {N:List (List (Int×Int))} (k:Keep y H H') (hy:H y=some (.lst ys)) (hD:y∈D) (h:DueAt D H t R L N):DueAt D H' t R L N:=by
 obtain ⟨rl,ll,nl,rs,ls,ns,h1,h3,h4,h5,h6,h7,h8,h9,h10,h11⟩:=h
 refine ⟨rl,ll,nl,rs,ls,ns,k _ _ (v9 h1 hy (fun z=>nomatch z)) h1,k _ _ (fun z=>h9 (z▸hD)) h3,k _ _ (fun z=>h10 (z▸hD)) h4,k _ _ (fun z=>h11 (z▸hD)) h5,h6.mono ?_,h7.mono ?_,h8.mono (NAt.keep k hy hD),h9,h10,h11⟩
 ·rintro v r ⟨a,e1,e2⟩
  exact ⟨a,e1,k _ _ (v9 e2 hy (fun z=>nomatch z)) e2⟩
 ·rintro v r ⟨a,e1,e2⟩
  exact ⟨a,e1,k _ _ (v9 e2 hy (fun z=>nomatch z)) e2⟩
def KB (H:Hp) (nv:V) (N:List (List (Int×Int))):Prop:=(nv=.non∧N=[])∨∃(nl:Addr) (ns:List V),nv=.ref nl∧H nl=some (.lst ns)∧AllAt (NAt [] H) ns N∧ns.length≤100
def gO (cs:Kd→Addr) (cR cN:Addr):Sp:=fun vs H Q _=>∃(x dx rl ll:Addr) (nv:V) (rs ls:List V) (R:List RC) (L:List LC) (N:List (List (Int×Int))),vs=[.ref x,.ref rl,.ref ll,nv]∧H x=some (.ins cN dx [])∧H rl=some (.lst rs)∧H ll=some (.lst ls)∧AllAt (RcO cR H) rs R∧AllAt (LkO cs H) ls L∧KB H nv N∧
 ∀H',Keep x H H'→(∀D:List Addr,(∀d∈D,H d≠none)→CnAt cs cR cN D H' x R L N)→Q .non H'
def zI (cs:Kd→Addr) (cR cN:Addr) (F:Nat→Nat→Int):Sp:=fun vs H Q _=>∃(x:Addr) (D:List Addr) (R:List RC) (L:List LC) (N:List (List (Int×Int))),vs=[.ref x]∧CnAt cs cR cN D H x R L N∧Q (.int (F R.length L.length)) H
def y3 (sea:Int) (r:RC):Int×Int:=(r.crest,if r.target = -1 then sea else r.target)
def yP (n m:Nat):Int:=(n:Int)+2*(m:Int)
def lR (n m:Nat):Int:=(n:Int)+2*(m:Int)+1
def dF (n m:Nat):Int:=(n:Int)+2*(m:Int)+1+1
def iM (cs:Kd→Addr) (cR cN:Addr):Sp:=fun vs H Q _=>∃(x:Addr) (D:List Addr) (R:List RC) (L:List LC) (N:List (List (Int×Int))),vs=[.ref x]∧CnAt cs cR cN D H x R L N∧R.length≤100∧
 ∀(l:Addr) (ws:List V) (H':Hp),Same H H'→H l=none→H' l=some (.lst ws)→AllAt (QAt H') ws (R.map (y3 (yP R.length L.length)))→Q (.ref l) H'
theorem cG {rn gn:Nat→List Nat} {its:List PIt} {a b c:Nat} (h:PlanOk rn gn its a b c):(∀i r,(kH its)[i]?=some r→r.good i∧r.name=jJ (rn i)∧i<a)∧(∀i l,(kL its)[i]?=some l→l.good a∧l.name=jJ (gn i)∧i<b):=by
 induction h with
 |nil=>exact ⟨fun i r h=>(by cases h),fun i r h=>(by cases h)⟩
 |@reach its a b c r0 h ha hn hg ih =>
  have e1:kH (its++[.reach r0])=kH its++[r0]:=by unfold kH;rw [List.filterMap_append];rfl
  have e2:kL (its++[.reach r0])=kL its:=by unfold kL;rw [List.filterMap_append];exact List.append_nil _
  obtain ⟨t1,t2,_⟩:=yC h
  rw [e1,e2]
  refine ⟨fun i r hr=>?_,fun i l hl=>?_⟩
  ·by_cases hi:i<(kH its).length
   ·rw [List.getElem?_append_left hi] at hr
    obtain ⟨h1,h2,h3⟩:=ih.1 i r hr
    exact ⟨h1,h2,by omega⟩
   ·rw [List.getElem?_append_right (by omega)] at hr
    have hz:i - (kH its).length=0:=by
     have:=(List.getElem?_eq_some_iff.mp hr).1
     rw [List.length_singleton] at this
     omega
    rw [hz] at hr
    cases hr
    have e:i=a:=by omega
    rw [e]
    exact ⟨hg,hn,by omega⟩
  ·obtain ⟨⟨g1,g2,g3,g4,g5,g6,g7,g8⟩,h2,h3⟩:=ih.2 i l hl
   exact ⟨⟨g1,by omega,g3,g4,g5,g6,g7,g8⟩,h2,h3⟩
 |@lock its a b c l0 h hb hn hg ih =>
  have e1:kH (its++[.lock l0])=kH its:=by unfold kH;rw [List.filterMap_append];exact List.append_nil _
  have e2:kL (its++[.lock l0])=kL its++[l0]:=by unfold kL;rw [List.filterMap_append];rfl
  obtain ⟨t1,t2,_⟩:=yC h
  rw [e1,e2]
  refine ⟨ih.1,fun i l hl=>?_⟩
  by_cases hi:i<(kL its).length
  ·rw [List.getElem?_append_left hi] at hl
   obtain ⟨h1,h2,h3⟩:=ih.2 i l hl
   exact ⟨h1,h2,by omega⟩
  ·rw [List.getElem?_append_right (by omega)] at hl
   have hz:i - (kL its).length=0:=by
    have:=(List.getElem?_eq_some_iff.mp hl).1
    rw [List.length_singleton] at this
    omega
   rw [hz] at hl
   cases hl
   have e:i=b:=by omega
   rw [e]
   exact ⟨hg,hn,by omega⟩
 |@night its a b c ts h hc ht hl ih =>
  have e1:kH (its++[.night ts])=kH its:=by unfold kH;rw [List.filterMap_append];exact List.append_nil _
  have e2:kL (its++[.night ts])=kL its:=by unfold kL;rw [List.filterMap_append];exact List.append_nil _
  rw [e1,e2]
  exact ih
theorem CA {rn gn:Nat→List Nat} {its:List PIt} {a b c:Nat} (h:PlanOk rn gn its a b c) (n:Nat):(its.filterMap (v2 n)).length=c:=by
 induction h with
 |nil=>rfl
 |reach h ha hn hg ih=>rw [List.filterMap_append,List.length_append,ih];rfl
 |lock h hb hn hg ih=>rw [List.filterMap_append,List.length_append,ih];rfl
 |night h hc ht hl ih=>rw [List.filterMap_append,List.length_append,ih];rfl
structure Drawn (R:List RC) (L:List LC) (N:List (List (Int×Int))):Prop where
 r8:R.length≤8
 r1:1≤R.length
 l8:L.length≤8
 n6:N.length≤6
 good:∀(i:Nat) (r:RC),R[i]?=some r→r.good i
 lock:∀(i:Nat) (l:LC),L[i]?=some l→l.good R.length
 night:∀p∈N,p.length=R.length
theorem nM {rn gn:Nat→List Nat} {its:List PIt} {a b c:Nat} (h:PlanOk rn gn its a b c) (ha:1≤a):Drawn (kH its) (kL its) (yZ its):=by
 obtain ⟨t1,t2,t3⟩:=yC h
 obtain ⟨b1,b2,b3,_⟩:=h.bounds
 obtain ⟨f1,f2⟩:=cG h
 refine ⟨by omega,by omega,by omega,by unfold yZ;rw [CA h];exact b3,fun i r hr=>(f1 i r hr).1,fun i l hl=>by rw [t1];exact (f2 i l hl).1,fun p hp=>?_⟩
 unfold yZ at hp
 obtain ⟨it,hit,e⟩:=List.mem_filterMap.mp hp
 cases it with
 |reach r=>cases e
 |lock l=>cases e
 |night ts=>cases e;rw [cE]
theorem GI {H:Hp} {x dx:Addr} {o o':HO} (nx:H x=none) (ndx:H dx=none):Same H (upd (upd H dx o) x o'):=fun b u e=>by rw [kC (kE e nx),kC (kE e ndx)];exact e
theorem E3 {H H1 H2:Hp} {x:Addr} (nx:H x=none) (u:Same H H1) (k:Keep x H1 H2):Same H H2:=fun b o e=>k b o (kE e nx) (u b o e)
def eH (K:W.Frag):Sp:=fun vs H Q _=>∃(f d:Addr) (ms:List Int),vs=[.ref f,.ref d]∧Ints K H f ms∧Ints K H d ms∧ms.length≤1000∧Q (.bl true) H
def tU:Kd→Bool
 |.basin=>true
 |_=>false
def tT:Kd→Bool
 |.pump=>true
 |_=>false
theorem KA (kd:Kd):decide (V.str (yI kd)=V.str "basin")=tU kd:=by
 cases kd
 ·exact decide_eq_false fun h=>absurd (V.str.inj h) (by decide +kernel)
 ·exact decide_eq_true rfl
 ·exact decide_eq_false fun h=>absurd (V.str.inj h) (by decide +kernel)
theorem IM (kd:Kd):decide (V.str (yI kd)=V.str "pump")=tT kd:=by
 cases kd
 ·exact decide_eq_false fun h=>absurd (V.str.inj h) (by decide +kernel)
 ·exact decide_eq_false fun h=>absurd (V.str.inj h) (by decide +kernel)
 ·exact decide_eq_true rfl
def n5 (cR:Addr):Sp:=fun vs H Q _=>∃(y t:Addr) (r:RC),vs=[.ref y,.ref t]∧RcAt cR H y r∧H t=some (.tup (yV r))∧∀H',Same H H'→Q (.bl true) H'
def pH (cs:Kd→Addr):Sp:=fun vs H Q _=>∃(y t:Addr) (l:LC),vs=[.ref y,.ref t]∧LockAt cs H y l.kd (.str l.name) (.int l.high) (.int l.low) l.room l.extra∧(l.kd=.plain→l.extra=0)∧H t=some (.tup (fW l))∧∀H',Same H H'→Q (.bl true) H'
def oA:Sp:=fun vs H Q _=>∃(y t:Addr) (D D':List Addr) (p:List (Int×Int)),vs=[.ref y,.ref t]∧NAt D H (.ref y) p∧NAt D' H (.ref t) p∧p.length≤100∧∀H',Same H H'→Q (.bl true) H'
def oE (cs:Kd→Addr) (cR cN:Addr):Sp:=fun vs H Q _=>∃(x t:Addr) (D D':List Addr) (R:List RC) (L:List LC) (N:List (List (Int×Int))),vs=[.ref x,.ref t]∧CnAt cs cR cN D H x R L N∧DueAt D' H t R L N∧R.length≤100∧L.length≤100∧N.length≤100∧(∀l∈L,l.kd=.plain→l.extra=0)∧(∀p∈N,p.length≤100)∧∀H',Same H H'→Q (.bl true) H'
def kG (n:Int):Str:=Str.ofString (toString n)
theorem vB {n:Int} (h0:0≤n) (h1:n≤9999999999999):n.natAbs.log2<1920∧(kG n).length≤14:=by
 have hn:n.natAbs<10 ^ 13:=by
  have:((10 ^ 13:Nat):Int)=10000000000000:=by decide +kernel
  omega
 refine ⟨?_,?_⟩
 ·by_cases hz:n.natAbs=0
  ·rw [hz];decide +kernel
  ·exact (Nat.log2_lt hz).2 (Nat.lt_of_lt_of_le hn (by decide +kernel))
 ·unfold kG
  rw [PySem.ofString_length]
  exact PySem.int_text_length_le10 (k:=13) (by decide) hn
def yH (rn:Nat→List Nat) (z:Int):Str:=if 0≤z then jJ (rn z.toNat) else "sea"
def QL:Kd→Int→List Str
 |.plain,_=>[]
 |.basin,x=>["basin",kG x]
 |.pump,x=>["pump",kG x]
theorem eS {kd:Kd} (h:kd≠.plain) (x:Int):QL kd x=[yI kd,kG x]:=by
 cases kd
 ·exact absurd rfl h
 ·rfl
 ·rfl
def kI (rn:Nat→List Nat):PIt→List Str
 |.reach r=>["reach",r.name,kG r.least,kG r.crest,kG r.berths,kG r.water,yH rn r.target]
 |.lock l=>(["lock",l.name,jJ (rn l.high.toNat),jJ (rn l.low.toNat),kG l.room]:List Str)++QL l.kd l.extra
 |.night ts=>"night"::ts.flatMap fun q=>[jJ (rn q.1),kG q.2.1,kG q.2.2]
theorem Z4 (rn:Nat→List Nat) (l:LC):kI rn (.lock l)=(["lock",l.name,jJ (rn l.high.toNat),jJ (rn l.low.toNat),kG l.room]:List Str)++QL l.kd l.extra:=rfl
def v1 (it:PIt) (n:Nat):Prop:=n≤8∧match it with
 |.reach r=>r.good n∧r.name.length≤12
 |.lock l=>l.good n∧l.name.length≤12
 |.night ts=>tripsOk ts n∧ts.length≤8
def blankS:Str:=⟨#[32]⟩
theorem eT:(" ":Str)=blankS:=by decide +kernel
def kK (rn:Nat→List Nat) (it:PIt):Str:=Str.join blankS (kI rn it)
def sI:Sp:=fun vs H Q _=>∃(t nl:Addr) (it:PIt) (rn:Nat→List Nat) (n:Nat),vs=[.ref t,.ref nl]∧ItAt [] H (.ref t) it∧H nl=some (.lst (kT rn 8))∧(∀k,k<8→(rn k).length≤12)∧v1 it n∧∀H',Same H H'→Q (.str (kK rn it)) H'
theorem iG (f:Nat→List Nat) {z:Int} (h0:0≤z) (h:z<8):qF (kT f 8) z=some (V.str (jJ (f z.toNat))):=by
 have e:((z.toNat:Nat):Int)=z:=by omega
 have:=qV (cH f (show z.toNat<8 by omega))
 rwa [e] at this
theorem bF {B:Nat}:∀(zs:List Str),(∀z∈zs,z.length≤B)→JH zs≤zs.length*B
 |[],_=>Nat.zero_le _
 |z::r,h=>by
  have h1:=bF r (fun y hy=>h y (List.mem_cons_of_mem _ hy))
  have h2:=h z List.mem_cons_self
  show z.length+JH r≤(r.length+1)*B
  rw [Nat.add_mul]
  omega
theorem GM:("sea":Str).length=3:=by decide +kernel
theorem oM:("reach":Str).length=5:=by decide +kernel
theorem pW:("lock":Str).length=4:=by decide +kernel
theorem oN:("night":Str).length=5:=by decide +kernel
theorem GO (kd:Kd):(yI kd).length≤14:=by cases kd<;>decide +kernel
theorem FO {rn:Nat→List Nat} (hrn:∀k,k<8→(rn k).length≤12) {z:Int} (h:z<8):(yH rn z).length≤14:=by
 unfold yH
 split
 ·rw [v3];have:=hrn z.toNat (by omega);omega
 ·rw [GM];omega
theorem eO {rn:Nat→List Nat} (hrn:∀k,k<8→(rn k).length≤12) {it:PIt} {n:Nat} (h:v1 it n):(kI rn it).length≤25∧∀z∈kI rn it,z.length≤14:=by
 obtain ⟨hn,h⟩:=h
 cases it with
 |reach r =>
  obtain ⟨⟨g1,g2,g3,g4,g5,g6,g7,g8,g9⟩,hl⟩:=h
  refine ⟨by show 7≤25;decide,?_⟩
  intro z hz
  simp only [kI,List.mem_cons,List.mem_nil_iff,or_false] at hz
  rcases hz with rfl|rfl|rfl|rfl|rfl|rfl|rfl
  ·rw [oM];decide
  ·omega
  ·exact (vB (by omega) (by omega)).2
  ·exact (vB (by omega) (by omega)).2
  ·exact (vB (by omega) (by omega)).2
  ·exact (vB (by omega) (by omega)).2
  ·exact FO hrn (by omega)
 |lock l =>
  obtain ⟨⟨g1,g2,g3,g4,g5,g6,g7,g8⟩,hl⟩:=h
  have hx:(0:Int)≤l.extra∧l.extra≤999999999999:=by
   by_cases hk:l.kd=.plain
   ·rw [g7 hk];omega
   ·have:=g8 hk;omega
  refine ⟨by unfold kI;rw [List.length_append];cases l.kd;(show 5+0≤25;decide);(show 5+2≤25;decide);(show 5+2≤25;decide),?_⟩
  intro z hz
  unfold kI at hz
  rcases List.mem_append.mp hz with hz|hz
  ·simp only [List.mem_cons,List.mem_nil_iff,or_false] at hz
   rcases hz with rfl|rfl|rfl|rfl|rfl
   ·rw [pW];decide
   ·omega
   ·rw [v3];have:=hrn l.high.toNat (by omega);omega
   ·rw [v3];have:=hrn l.low.toNat (by omega);omega
   ·exact (vB (by omega) (by omega)).2
  ·by_cases hk:l.kd=.plain
   ·rw [hk] at hz;cases hz
   ·rw [eS hk] at hz
    simp only [List.mem_cons,List.mem_nil_iff,or_false] at hz
    rcases hz with rfl|rfl
    ·exact GO _
    ·exact (vB (by omega) (by omega)).2
 |night ts =>
  obtain ⟨⟨_,h2⟩,hl⟩:=h
  have hf:∀ts:List (Nat×Int×Int),(ts.flatMap fun q=>[jJ (rn q.1),kG q.2.1,kG q.2.2]).length=3*ts.length:=by
   intro ts
   induction ts with
   |nil=>rfl
   |cons q r ih=>rw [List.flatMap_cons,List.length_append,ih];show 3+3*r.length=3*(r.length+1);omega
  refine ⟨by show (ts.flatMap _).length+1≤25;rw [hf];omega,?_⟩
  intro z hz
  rcases List.mem_cons.mp hz with rfl|hz
  ·rw [oN];decide
  ·obtain ⟨q,hq,hz⟩:=List.mem_flatMap.mp hz
   obtain ⟨k1,k2,k3,k4,k5⟩:=h2 q hq
   simp only [List.mem_cons,List.mem_nil_iff,or_false] at hz
   rcases hz with rfl|rfl|rfl
   ·rw [v3];have:=hrn q.1 (by omega);omega
   ·exact (vB (by omega) (by omega)).2
   ·exact (vB (by omega) (by omega)).2
theorem d9 {rn:Nat→List Nat} (hrn:∀k,k<8→(rn k).length≤12) {it:PIt} {n:Nat} (h:v1 it n):JH (kI rn it)+(kI rn it).length≤1048576:=by
 obtain ⟨h1,h2⟩:=eO hrn h
 have h3:=bF (kI rn it) h2
 have h4:(kI rn it).length*14≤25*14:=Nat.mul_le_mul_right _ h1
 omega
theorem D2 (rn:Nat→List Nat) (ts:List (Nat×Int×Int)) {j:Nat} {q:Nat×Int×Int} (h:ts[j]?=some q):kI rn (.night (ts.take (j+1)))=kI rn (.night (ts.take j))++[jJ (rn q.1),kG q.2.1,kG q.2.2]:=by
 rw [List.take_add_one,h]
 show ("night":Str)::(ts.take j++[q]).flatMap (fun q=>([jJ (rn q.1),kG q.2.1,kG q.2.2]:List Str))=(("night":Str)::(ts.take j).flatMap (fun q=>([jJ (rn q.1),kG q.2.1,kG q.2.2]:List Str)))++[jJ (rn q.1),kG q.2.1,kG q.2.2]
 rw [List.flatMap_append,List.cons_append]
 rfl
def feedS:Str:=⟨#[10]⟩
theorem GT:("\n":Str)=feedS:=by decide +kernel
theorem CH (c:Nat) (x:Str) (r:List Str):∃z:Str,Str.join ⟨#[c]⟩ (x::r)=x++z:=by
 cases r with
 |nil=>exact ⟨⟨#[]⟩,by show x=⟨x.cps++#[]⟩;rw [Array.append_empty]⟩
 |cons y r =>
  refine ⟨(⟨#[c]⟩:Str)++Str.join ⟨#[c]⟩ (y::r),?_⟩
  show (x++(⟨#[c]⟩:Str))++Str.join ⟨#[c]⟩ (y::r)=x++((⟨#[c]⟩:Str)++Str.join ⟨#[c]⟩ (y::r))
  show (⟨(x.cps++#[c])++(Str.join ⟨#[c]⟩ (y::r)).cps⟩:Str)=⟨x.cps++(#[c]++(Str.join ⟨#[c]⟩ (y::r)).cps)⟩
  rw [Array.append_assoc]
theorem G7 (rn:Nat→List Nat) (it:PIt):0<(kK rn it).length:=by
 have key:∀(x:Str) (r:List Str),0<x.length→0<(Str.join blankS (x::r)).length:=by
  intro x r h
  obtain ⟨z,hz⟩:=CH 32 x r
  show 0<(Str.join ⟨#[32]⟩ (x::r)).length
  rw [hz,Str.length_append]
  omega
 cases it with
 |reach r=>exact key _ _ (by rw [oM];decide)
 |lock l=>exact key _ _ (by rw [pW];decide)
 |night ts=>exact key _ _ (by rw [oN];decide)
theorem QH {rn:Nat→List Nat} (hrn:∀k,k<8→(rn k).length≤12) {it:PIt} {n:Nat} (h:v1 it n):(kK rn it).length≤400:=by
 obtain ⟨h1,h2⟩:=eO hrn h
 have h3:=bF (kI rn it) h2
 have h4:(kI rn it).length*14≤25*14:=Nat.mul_le_mul_right _ h1
 have h5:=StrLaws.join_length_le blankS (kI rn it)
 have h6:(kI rn it).length*blankS.length≤25*1:=Nat.mul_le_mul h1 (Nat.le_refl 1)
 have h7:((kI rn it).map (·.length)).sum=JH (kI rn it):=rfl
 unfold kK
 omega
def QK (z:Str):Bool := !decide (z="")
theorem FB (rn:Nat→List Nat) (it:PIt):QK (kK rn it)=true:=by
 unfold QK
 rw [decide_eq_false]
 ·rfl
 ·intro h
  have:=G7 rn it
  rw [h] at this
  exact absurd this (by decide +kernel)
theorem pZ:QK ""=false:=by unfold QK;rw [decide_eq_true rfl];rfl
def RowsOk (rn:Nat→List Nat) (rows:List Str) (its:List PIt):Prop:=rows.filter QK=its.map (kK rn)∧∀z∈rows,z=""∨∃it∈its,z=kK rn it
theorem RowsOk.emp {rn:Nat→List Nat} {rows:List Str} {its:List PIt} (h:RowsOk rn rows its):RowsOk rn (rows++[("":Str)]) its:=by
 refine ⟨by rw [List.filter_append,h.1,List.filter_cons,if_neg (by rw [pZ];decide)];simp,fun z hz=>?_⟩
 rcases List.mem_append.mp hz with hz|hz
 ·exact h.2 z hz
 ·exact .inl (List.mem_singleton.mp hz)
theorem iZ {rn gn:Nat→List Nat} (hr:∀k,k<8→(rn k).length≤12) (hg:∀k,k<8→(gn k).length≤12) {its:List PIt} {a b c:Nat} (h:PlanOk rn gn its a b c):∀it∈its,∃n,v1 it n:=by
 induction h with
 |nil=>intro it h;cases h
 |reach h ha hn hgd ih =>
  intro it hit
  rcases List.mem_append.mp hit with hit|hit
  ·exact ih it hit
  ·cases List.mem_singleton.mp hit;exact ⟨_,by have:=h.bounds;omega,hgd,by rw [hn,v3];exact hr _ ha⟩
 |lock h hb hn hgd ih =>
  intro it hit
  rcases List.mem_append.mp hit with hit|hit
  ·exact ih it hit
  ·cases List.mem_singleton.mp hit;exact ⟨_,by have:=h.bounds;omega,hgd,by rw [hn,v3];exact hg _ hb⟩
 |night h hc ht hl ih =>
  intro it hit
  rcases List.mem_append.mp hit with hit|hit
  ·exact ih it hit
  ·cases List.mem_singleton.mp hit;exact ⟨_,by have:=h.bounds;omega,ht,hl⟩
theorem mU {rn:Nat→List Nat} {rows:List Str} {its:List PIt} (hrn:∀k,k<8→(rn k).length≤12) (h:RowsOk rn rows its) (hl:rows.length≤46) (hi:∀it∈its,∃n,v1 it n):JH rows+rows.length≤1048576:=by
 have h3:=bF (B:=400) rows (fun z hz=>by
  rcases h.2 z hz with rfl|⟨it,hit,rfl⟩
  ·exact Nat.le_trans (show ("":Str).length≤0 by decide +kernel) (by decide)
  ·obtain ⟨n,hn⟩:=hi it hit;exact QH hrn hn)
 have h4:rows.length*400≤46*400:=Nat.mul_le_mul_right _ hl
 omega
def yR (z:Str):Prop:=∀c∈z.cps.toList,48≤c
def dG:PIt→Prop
 |.reach r=>yR r.name
 |.lock l=>yR l.name
 |.night _=>True
theorem Z6 {l:List Nat} (h:∀c∈l,97≤c∧c≤122):yR (jJ l):=fun c hc=>by have:=h c hc;omega
theorem JE {n:Int} (h:0≤n):yR (kG n):=fun c hc=>by
 unfold kG at hc
 rw [rO h] at hc
 exact (pR _ c hc).1
theorem cK {z:Str} (h:(z.cps.toList.all fun c=>decide (48≤c))=true):yR z:=fun c hc=>of_decide_eq_true (List.all_eq_true.mp h c hc)
theorem CJ:yR "reach":=cK (by decide +kernel)
theorem DT:yR "lock":=cK (by decide +kernel)
theorem CK:yR "night":=cK (by decide +kernel)
theorem E8:yR "sea":=cK (by decide +kernel)
theorem GP (kd:Kd):yR (yI kd):=by cases kd<;>exact cK (by decide +kernel)
theorem oH {rn:Nat→List Nat} (hrn:∀k,k<8→∀c∈rn k,97≤c∧c≤122) {it:PIt} {n:Nat} (h:v1 it n) (hl:dG it):∀z∈kI rn it,yR z:=by
 obtain ⟨hn,h⟩:=h
 cases it with
 |reach r =>
  obtain ⟨⟨g1,g2,g3,g4,g5,g6,g7,g8,g9⟩,_⟩:=h
  intro z hz
  simp only [kI,List.mem_cons,List.mem_nil_iff,or_false] at hz
  rcases hz with rfl|rfl|rfl|rfl|rfl|rfl|rfl
  ·exact CJ
  ·exact hl
  ·exact JE (by omega)
  ·exact JE (by omega)
  ·exact JE (by omega)
  ·exact JE (by omega)
  ·unfold yH
   split
   ·exact Z6 (hrn _ (by omega))
   ·exact E8
 |lock l =>
  obtain ⟨⟨g1,g2,g3,g4,g5,g6,g7,g8⟩,_⟩:=h
  intro z hz
  rw [Z4] at hz
  rcases List.mem_append.mp hz with hz|hz
  ·simp only [List.mem_cons,List.mem_nil_iff,or_false] at hz
   rcases hz with rfl|rfl|rfl|rfl|rfl
   ·exact DT
   ·exact hl
   ·exact Z6 (hrn _ (by omega))
   ·exact Z6 (hrn _ (by omega))
   ·exact JE (by omega)
  ·by_cases hk:l.kd=.plain
   ·rw [hk] at hz;cases hz
   ·have hx:=g8 hk
    rw [eS hk] at hz
    simp only [List.mem_cons,List.mem_nil_iff,or_false] at hz
    rcases hz with rfl|rfl
    ·exact GP _
    ·exact JE (by omega)
 |night ts =>
  obtain ⟨⟨_,h2⟩,_⟩:=h
  intro z hz
  rcases List.mem_cons.mp hz with rfl|hz
  ·exact CK
  ·obtain ⟨q,hq,hz⟩:=List.mem_flatMap.mp hz
   obtain ⟨k1,k2,k3,k4,k5⟩:=h2 q hq
   simp only [List.mem_cons,List.mem_nil_iff,or_false] at hz
   rcases hz with rfl|rfl|rfl
   ·exact Z6 (hrn _ (by omega))
   ·exact JE k2
   ·exact JE k4
theorem FW (rn:Nat→List Nat) (it:PIt):kI rn it≠[]:=by
 cases it with
 |reach r=>exact List.cons_ne_nil _ _
 |lock l=>rw [Z4];simp
 |night ts=>exact List.cons_ne_nil _ _
theorem oG {rn:Nat→List Nat} (hrn:∀k,k<8→∀c∈rn k,97≤c∧c≤122) {it:PIt} {n:Nat} (h:v1 it n) (hl:dG it):Txt.split (kK rn it) blankS=kI rn it :=
 nE 32 (FW rn it) fun p hp hc=>by have:=oH hrn h hl p hp 32 hc;omega
theorem oP {c x:Nat}:∀{ps:List (List Nat)},x∈JO c ps→x=c∨∃p∈ps,x∈p
 |[],h=>by cases h
 |[p],h=>.inr ⟨p,List.mem_cons_self,h⟩
 |p::q::r,h=>by
  rcases List.mem_append.mp h with h|h
  ·exact .inr ⟨p,List.mem_cons_self,h⟩
  ·rcases List.mem_cons.mp h with h|h
   ·exact .inl h
   ·rcases oP h with h|⟨p',hp,hx⟩
    ·exact .inl h
    ·exact .inr ⟨p',List.mem_cons_of_mem _ hp,hx⟩
theorem EQ {rn:Nat→List Nat} (hrn:∀k,k<8→∀c∈rn k,97≤c∧c≤122) {it:PIt} {n:Nat} (h:v1 it n) (hl:dG it):10∉(kK rn it).cps.toList:=by
 intro hc
 unfold kK blankS at hc
 rw [eR] at hc
 rcases oP hc with hc|⟨p,hp,hx⟩
 ·omega
 ·obtain ⟨z,hz,rfl⟩:=List.mem_map.mp hp
  have:=oH hrn h hl z hz 10 hx
  omega
theorem nB {rn:Nat→List Nat} (hrn:∀k,k<8→∀c∈rn k,97≤c∧c≤122) {rows:List Str} {its:List PIt} (h:RowsOk rn rows its) (hne:its≠[]) (hi:∀it∈its,∃n,v1 it n) (hl:∀it∈its,dG it):Txt.split (Str.join feedS rows) feedS=rows:=by
 refine nE 10 (fun e=>?_) fun p hp hc=>?_
 ·have:=h.1
  rw [e] at this
  exact hne (List.map_eq_nil_iff.mp this.symm)
 ·rcases h.2 p hp with rfl|⟨it,hit,rfl⟩
  ·exact absurd hc (by decide +kernel)
  ·obtain ⟨n,hn⟩:=hi it hit
   exact EQ hrn hn (hl it hit) hc
theorem pP {rn gn:Nat→List Nat} (hr:∀k,k<8→∀c∈rn k,97≤c∧c≤122) (hg:∀k,k<8→∀c∈gn k,97≤c∧c≤122) {its:List PIt} {a b c:Nat} (h:PlanOk rn gn its a b c):∀it∈its,dG it:=by
 induction h with
 |nil=>intro it h;cases h
 |reach h ha hn hgd ih =>
  intro it hit
  rcases List.mem_append.mp hit with hit|hit
  ·exact ih it hit
  ·cases List.mem_singleton.mp hit;show yR _;rw [hn];exact Z6 (hr _ ha)
 |lock h hb hn hgd ih =>
  intro it hit
  rcases List.mem_append.mp hit with hit|hit
  ·exact ih it hit
  ·cases List.mem_singleton.mp hit;show yR _;rw [hn];exact Z6 (hg _ hb)
 |night h hc ht hl ih =>
  intro it hit
  rcases List.mem_append.mp hit with hit|hit
  ·exact ih it hit
  ·cases List.mem_singleton.mp hit;trivial
theorem o9 {ws:List Str} {i:Nat} {v:V} (h:(ws.map V.str)[i]?=some v):∃w,ws[i]?=some w∧v=.str w:=by
 rw [List.getElem?_map] at h
 cases hw:ws[i]? with
 |none=>rw [hw] at h;cases h
 |some w=>rw [hw] at h;cases h;exact ⟨w,rfl,rfl⟩
def IA (zs:List Str):Str:=Str.join "" (zs.map (·++feedS))
def pB (K:W.Frag):Sp:=fun vs H Q _=>∃(a:Addr) (zs:List Str),vs=[.ref a]∧SqL K H a (zs.map V.str)∧zs.length≤999∧(∀z∈zs,z.length≤900)∧∀H',Same H H'→Q (.str (IA zs)) H'
def dM (rn:Nat→List Nat) (R:List RC):Prop:=∀(i:Nat) (r:RC),R[i]?=some r→r.name=jJ (rn i)
theorem gP {cR:Addr} {H:Hp} {rs:List V} {R:List RC} {rn:Nat→List Nat} (h:AllAt (RcO cR H) rs R) (hn:dM rn R) {k:Int} (h0:0≤k) (h1:k<(R.length:Int)):∃(z dz:Addr) (gs:List (Str×V)),qF rs k=some (.ref z)∧H z=some (.ins cR dz gs)∧gs.lookup ("name":Str)=some (.str (jJ (rn k.toNat))):=by
 have hk:k.toNat<R.length:=by omega
 obtain ⟨v,hv,z,rfl,dz,gs,hz,hg⟩:=h.get (List.getElem?_eq_getElem hk)
 refine ⟨z,dz,gs,?_,hz,?_⟩
 ·have:=qV hv
  rwa [show ((k.toNat:Nat):Int)=k by omega] at this
 ·rw [hg.1,hn _ _ (List.getElem?_eq_getElem hk)]
def zH (p:List (Int×Int)) (k:Nat):Option (Nat×Int×Int):=match p[k]? with
 |some q=>if q.1=0∧q.2=0 then none else some (k,q.1,q.2)
 |none=>none
def vC (p:List (Int×Int)) (n:Nat):List (Nat×Int×Int):=(List.range n).filterMap (zH p)
def v5 (p:List (Int×Int)):List (Nat×Int×Int):=vC p p.length
theorem d4 (p:List (Int×Int)) (n:Nat):vC p (n+1)=vC p n++(zH p n).toList:=by
 unfold vC
 rw [List.range_succ,List.filterMap_append]
 cases e:zH p n with
 |none=>simp [e]
 |some x=>simp [e]
theorem mQ {p:List (Int×Int)} {k:Nat} {q:Int×Int} (h:p[k]?=some q) (hz:¬(q.1=0∧q.2=0)):zH p k=some (k,q.1,q.2):=by unfold zH;rw [h];exact if_neg hz
theorem mR {p:List (Int×Int)} {k:Nat} {q:Int×Int} (h:p[k]?=some q) (hz:q.1=0∧q.2=0):zH p k=none:=by unfold zH;rw [h];exact if_pos hz
def JP (p:List (Int×Int)):Prop:=∀q∈p,0≤q.1∧q.1≤999999999999∧0≤q.2∧q.2≤999999999999
theorem BY {p:List (Int×Int)} {k:Nat} {t:Nat×Int×Int} (hp:JP p) (h:zH p k=some t):t.1=k∧k<p.length∧0≤t.2.1∧t.2.1≤999999999999∧0≤t.2.2∧t.2.2≤999999999999:=by
 unfold zH at h
 cases e:p[k]? with
 |none=>rw [e] at h;cases h
 |some q =>
  rw [e] at h
  have h:(if q.1=0∧q.2=0 then none else some (k,q.1,q.2))=some t:=h
  split at h
  ·cases h
  ·cases h
   obtain ⟨h1,h2,h3,h4⟩:=hp q (List.mem_of_getElem? e)
   exact ⟨rfl,(List.getElem?_eq_some_iff.mp e).1,h1,h2,h3,h4⟩
theorem BX {p:List (Int×Int)} (hp:JP p) (n:Nat):(vC p n).length≤n∧((vC p n).map (·.1)).Nodup∧∀t∈vC p n,t.1<n∧t.1<p.length∧0≤t.2.1∧t.2.1≤999999999999∧0≤t.2.2∧t.2.2≤999999999999:=by
 induction n with
 |zero=>exact ⟨Nat.le_refl _,List.nodup_nil,fun t h=>(by cases h)⟩
 |succ n ih =>
  obtain ⟨h1,h2,h3⟩:=ih
  rw [d4]
  cases e:zH p n with
  |none =>
   show (vC p n++[]).length≤n+1∧_
   rw [List.append_nil]
   exact ⟨by omega,by show ((vC p n++[]).map _).Nodup;rw [List.append_nil];exact h2,fun t ht=>by
    have ht:t∈vC p n++[]:=ht
    rw [List.append_nil] at ht
    obtain ⟨a,b⟩:=h3 t ht
    exact ⟨by omega,b⟩⟩
  |some x =>
   obtain ⟨e1,e2⟩:=BY hp e
   refine ⟨by rw [List.length_append];show _+1≤_;omega,?_,fun t ht=>?_⟩
   ·rw [List.map_append,List.nodup_append]
    refine ⟨h2,by simp,fun a ha b hb=>?_⟩
    obtain ⟨t,ht,rfl⟩:=List.mem_map.mp ha
    have:b=n:=by
     have hb:b∈[x.1]:=hb
     rw [List.mem_singleton.mp hb,e1]
    have:=(h3 t ht).1
    omega
   ·rcases List.mem_append.mp ht with ht|ht
    ·obtain ⟨a,b⟩:=h3 t ht
     exact ⟨by omega,b⟩
    ·have ht:t=x:=List.mem_singleton.mp ht
     rw [ht]
     exact ⟨by omega,by omega,e2.2⟩
theorem gR {p:List (Int×Int)} (hp:JP p) {n:Nat} (hn:n≤p.length) (h8:p.length≤8):v1 (.night (vC p n)) p.length:=by
 obtain ⟨h1,h2,h3⟩:=BX hp n
 exact ⟨h8,⟨h2,fun t ht=>(h3 t ht).2⟩,by omega⟩
theorem GU (a b:Int):vM [V.int a,V.int b] [V.int 0,V.int 0]=decide (a=0∧b=0):=by
 show ((decide (a=0)&&(decide (b=0)&&true))&&true)=_
 by_cases ha:a=0<;>by_cases hb:b=0<;>simp [ha,hb]
def yL (rn:Nat→List Nat) (R:List RC) (L:List LC) (N:List (List (Int×Int))):List Str:=R.map (fun r=>kK rn (.reach r))++L.map (fun l=>kK rn (.lock l))++N.map (fun p=>kK rn (.night (v5 p)))
def lL (rn:Nat→List Nat) (R:List RC) (L:List LC) (N:List (List (Int×Int))):Str:=Str.join "" ((yL rn R L N).map (·++feedS))
structure ShowOk (rn:Nat→List Nat) (R:List RC) (L:List LC) (N:List (List (Int×Int))):Prop where
 r8:R.length≤8
 l8:L.length≤8
 n6:N.length≤6
 rr:∀(i:Nat) (r:RC),R[i]?=some r→r.good i
 nm:dM rn R
 ll:∀l∈L,l.good R.length∧l.name.length≤12
 nn:∀p∈N,p.length=R.length∧JP p
 hrn:∀k,k<8→(rn k).length≤12
theorem ShowOk.reach {rn:Nat→List Nat} {R:List RC} {L:List LC} {N:List (List (Int×Int))} (h:ShowOk rn R L N) {i:Nat} {r:RC} (hr:R[i]?=some r):v1 (.reach r) R.length∧r.target<(R.length:Int):=by
 have hi:i<R.length:=(List.getElem?_eq_some_iff.mp hr).1
 obtain ⟨g1,g2,g3,g4,g5,g6,g7,g8,g9⟩:=h.rr i r hr
 refine ⟨⟨h.r8,⟨g1,g2,g3,g4,g5,g6,g7,g8,by omega⟩,?_⟩,by omega⟩
 rw [h.nm i r hr,v3]
 have:=h.r8
 exact h.hrn i (by omega)
theorem ShowOk.lock {rn:Nat→List Nat} {R:List RC} {L:List LC} {N:List (List (Int×Int))} (h:ShowOk rn R L N) {l:LC} (hl:l∈L):v1 (.lock l) R.length:=⟨h.r8,(h.ll l hl).1,(h.ll l hl).2⟩
theorem ShowOk.night {rn:Nat→List Nat} {R:List RC} {L:List LC} {N:List (List (Int×Int))} (h:ShowOk rn R L N) {p:List (Int×Int)} (hp:p∈N):v1 (.night (v5 p)) p.length:=gR (h.nn p hp).2 (Nat.le_refl _) (by rw [(h.nn p hp).1];exact h.r8)
theorem FV {rn:Nat→List Nat} {R:List RC} {L:List LC} {N:List (List (Int×Int))} (h:ShowOk rn R L N):(yL rn R L N).length≤22∧∀z∈yL rn R L N,z.length≤400:=by
 have h1:=h.r8
 have h2:=h.l8
 have h3:=h.n6
 refine ⟨by unfold yL;rw [List.length_append,List.length_append,List.length_map,List.length_map,List.length_map];omega,fun z hz=>?_⟩
 unfold yL at hz
 rcases List.mem_append.mp hz with hz|hz
 ·rcases List.mem_append.mp hz with hz|hz
  ·obtain ⟨r,hr,rfl⟩:=List.mem_map.mp hz
   obtain ⟨i,hi,e⟩:=List.mem_iff_getElem.mp hr
   exact QH h.hrn (h.reach (by rw [List.getElem?_eq_getElem hi,e])).1
  ·obtain ⟨l,hl,rfl⟩:=List.mem_map.mp hz
   exact QH h.hrn (h.lock hl)
 ·obtain ⟨p,hp,rfl⟩:=List.mem_map.mp hz
  exact QH h.hrn (h.night hp)
def nG (cs:Kd→Addr) (cR cN:Addr):Sp:=fun vs H Q _=>∃(x y:Addr) (D:List Addr) (R:List RC) (L:List LC) (N:List (List (Int×Int))) (rn:Nat→List Nat) (r:RC),vs=[.ref x,.ref y]∧CnAt cs cR cN D H x R L N∧RcAt cR H y r∧dM rn R∧v1 (.reach r) R.length∧r.target<(R.length:Int)∧(∀k,k<8→(rn k).length≤12)∧∀H',Same H H'→Q (.str (kK rn (.reach r))) H'
def oB (cs:Kd→Addr) (cR cN:Addr):Sp:=fun vs H Q _=>∃(x y:Addr) (D:List Addr) (R:List RC) (L:List LC) (N:List (List (Int×Int))) (rn:Nat→List Nat) (l:LC),vs=[.ref x,.ref y]∧CnAt cs cR cN D H x R L N∧LockAt cs H y l.kd (.str l.name) (.int l.high) (.int l.low) l.room l.extra∧dM rn R∧v1 (.lock l) R.length∧(∀k,k<8→(rn k).length≤12)∧∀H',Same H H'→Q (.str (kK rn (.lock l))) H'
def nH (cs:Kd→Addr) (cR cN:Addr):Sp:=fun vs H Q _=>∃(x y:Addr) (D:List Addr) (R:List RC) (L:List LC) (N:List (List (Int×Int))) (rn:Nat→List Nat) (p:List (Int×Int)),vs=[.ref x,.ref y]∧CnAt cs cR cN D H x R L N∧NAt [] H (.ref y) p∧dM rn R∧p.length=R.length∧JP p∧R.length≤8∧(∀k,k<8→(rn k).length≤12)∧∀H',Same H H'→Q (.str (kK rn (.night (v5 p)))) H'
def rH (cs:Kd→Addr) (cR cN:Addr):Sp:=fun vs H Q _=>∃(x:Addr) (D:List Addr) (R:List RC) (L:List LC) (N:List (List (Int×Int))) (rn:Nat→List Nat),vs=[.ref x]∧CnAt cs cR cN D H x R L N∧ShowOk rn R L N∧∀H',Same H H'→Q (.str (lL rn R L N)) H'
theorem EX {n:Nat} {ts:List (Nat×Int×Int)} (h:∀t∈ts,0≤t.2.1∧t.2.1≤999999999999∧0≤t.2.2∧t.2.2≤999999999999):JP (qD n ts):=by
 unfold qD
 have key:∀(ts:List (Nat×Int×Int)) (ps:List (Int×Int)),(∀t∈ts,0≤t.2.1∧t.2.1≤999999999999∧0≤t.2.2∧t.2.2≤999999999999)→JP ps→JP (ts.foldl (fun ps q=>ps.set q.1 (q.2.1,q.2.2)) ps):=by
  intro ts
  induction ts with
  |nil=>intro ps _ h;exact h
  |cons t r ih =>
   intro ps ht hp
   rw [List.foldl_cons]
   refine ih _ (fun u hu=>ht u (List.mem_cons_of_mem _ hu)) fun q hq=>?_
   rcases List.mem_or_eq_of_mem_set hq with hq|hq
   ·exact hp q hq
   ·rw [hq];exact ht t List.mem_cons_self
 refine key ts _ h fun q hq=>?_
 rw [List.eq_of_mem_replicate hq]
 exact ⟨Int.le_refl _,by decide,Int.le_refl _,by decide⟩
theorem DC {rn gn:Nat→List Nat} {its:List PIt} {a b c:Nat} (h:PlanOk rn gn its a b c) (ha:1≤a) (hr:∀k,k<8→(rn k).length≤12) (hg:∀k,k<8→(gn k).length≤12):ShowOk rn (kH its) (kL its) (yZ its):=by
 have d:=nM h ha
 obtain ⟨f1,f2⟩:=cG h
 obtain ⟨t1,t2,t3⟩:=yC h
 have hb:=h.bounds
 refine ⟨d.r8,d.l8,d.n6,d.good,fun i r hi=>(f1 i r hi).2.1,fun l hl=>?_,fun p hp=>⟨d.night p hp,?_⟩,hr⟩
 ·obtain ⟨i,hi,e⟩:=List.mem_iff_getElem.mp hl
  have hl':(kL its)[i]?=some l:=by rw [List.getElem?_eq_getElem hi,e]
  refine ⟨d.lock i l hl',?_⟩
  rw [(f2 i l hl').2.1,v3]
  exact hg i (by omega)
 ·unfold yZ at hp
  obtain ⟨it,hit,e⟩:=List.mem_filterMap.mp hp
  cases it with
  |reach r=>cases e
  |lock l=>cases e
  |night ts =>
   cases e
   exact EX fun t ht=>((t3 ts hit).1.2 t ht).2
def lI (sea:Nat) (r:RC):Int×Nat:=(r.crest,if r.target = -1 then sea else r.target.toNat)
def zW (R:List RC) (m:Nat):List (Int×Nat):=R.map (lI (R.length+2*m))
def zX (R:List RC) (m:Nat):List Int:=R.map (·.water)++List.replicate (2*m+2) 0
theorem gT (R:List RC) (m:Nat):(zW R m).length=R.length:=List.length_map _
theorem gU (R:List RC) (m:Nat):(zX R m).length=R.length+2*m+2:=by
 unfold zX
 rw [List.length_append,List.length_map,List.length_replicate]
 omega
def fM (R:List RC):Prop:=∀(i:Nat) (r:RC),R[i]?=some r→-1≤r.target∧r.target<(i:Int)
theorem mO {R:List RC} {m:Nat} (h:fM R):fN (zW R m).length (zW R m):=by
 intro i c t hi
 rw [gT]
 unfold zW at hi
 rw [List.getElem?_map] at hi
 cases hr:R[i]? with
 |none=>rw [hr] at hi;cases hi
 |some r =>
  rw [hr] at hi
  have e:lI (R.length+2*m) r=(c,t):=Option.some.inj hi
  obtain ⟨h1,h2⟩:=h i r hr
  unfold lI at e
  have e2:(if r.target = -1 then R.length+2*m else r.target.toNat)=t:=congrArg Prod.snd e
  by_cases ht:r.target = -1
  ·rw [if_pos ht] at e2;omega
  ·rw [if_neg ht] at e2;omega
theorem EH {K:W.Frag} {H:Hp} {ws:List V} {R:List RC} {m:Nat} (hT:fM R) (h:AllAt (QAt H) ws (R.map (y3 (yP R.length m)))):WeirsAt K H ws (zW R m) (zX R m).length:=by
 refine ⟨by rw [h.1,List.length_map,gT],fun i v hv=>?_⟩
 obtain ⟨p,hp,t,rfl,ht⟩:=h.2 i v hv
 rw [List.getElem?_map] at hp
 cases hr:R[i]? with
 |none=>rw [hr] at hp;cases hp
 |some r =>
  rw [hr] at hp
  cases hp
  obtain ⟨h1,h2⟩:=hT i r hr
  have hi:i<R.length:=(List.getElem?_eq_some_iff.mp hr).1
  refine ⟨t,r.crest,if r.target = -1 then R.length+2*m else r.target.toNat,rfl,?_,?_,?_⟩
  ·unfold zW;rw [List.getElem?_map,hr];rfl
  ·have e:(((if r.target = -1 then R.length+2*m else r.target.toNat):Nat):Int)=(y3 (yP R.length m) r).2:=by
    unfold y3 yP
    by_cases ht:r.target = -1
    ·rw [if_pos ht,if_pos ht];omega
    ·rw [if_neg ht,if_neg ht];omega
   rw [e]
   exact SqT.of ht
  ·rw [gU];split<;>omega
def iN (cs:Kd→Addr) (cR cN:Addr):Sp:=fun vs H Q _=>∃(x:Addr) (D:List Addr) (R:List RC) (L:List LC) (N:List (List (Int×Int))),vs=[.ref x]∧CnAt cs cR cN D H x R L N∧R.length≤100∧L.length≤100∧fM R∧
 ∀(r:Addr) (H':Hp) (gs:List Int),Same H H'→H r=none→H' r=some (.tup ((tO (zX R L.length) (zW R L.length) gs).map V.int))→Spl (zW R L.length) (zX R L.length) gs→Q (.ref r) H'
def Named (K:W.Frag) (H:Hp) (v:V) (nm:Str):Prop:=∃(x C dx:Addr) (fs:List (Str×V)),v=.ref x∧H x=some (.ins C dx fs)∧Cls K C∧NoAttr K C "name"∧fs.lookup ("name":Str)=some (.str nm)
theorem Named.same {K:W.Frag} {H H':Hp} (e:Same H H') (v:V) (nm:Str):Named K H v nm→Named K H' v nm:=fun ⟨x,C,dx,fs,h1,h2,h3⟩=>⟨x,C,dx,fs,h1,e _ _ h2,h3⟩
def FirstAt (zs:List Str) (nm:Str) (i:Nat):Prop:=zs[i]?=some nm∧∀j:Nat,j<i→zs[j]?≠some nm
def cW (zs:List Str) (nm:Str):Prop:=∀i:Nat,zs[i]?≠some nm
theorem FirstAt.uniq {zs:List Str} {nm:Str} {i j:Nat} (h:FirstAt zs nm i) (h':FirstAt zs nm j):i=j:=by
 rcases Nat.lt_trichotomy i j with c|c|c
 ·exact absurd h.1 (h'.2 i c)
 ·exact c
 ·exact absurd h'.1 (h.2 j c)
theorem FirstAt.some {zs:List Str} {nm:Str} {i:Nat} (h:FirstAt zs nm i):¬cW zs nm:=fun z=>z i h.1
def z8:Str:="0123456789"
def bT (S:Str) (c:Nat):Bool := !(Builtin.Str.occurrences S ⟨#[c]⟩ 0 S.length 1).isEmpty
def QN (S w:Str) (i:Nat):Bool:=(w.cps.toList.take i).all (bT S)
theorem EE {S w:Str} {i c:Nat} (h:w.cps[i]?=some c):QN S w (i+1)=(QN S w i&&bT S c):=by
 unfold QN
 rw [List.take_add_one,show w.cps.toList[i]?=some c by rw [Array.getElem?_toList];exact h,List.all_append]
 simp
def vG (S w:Str):Bool:=decide (0<w.length)&&decide (w.length<13)&&QN S w w.cps.size
theorem DX {S w:Str} (h:vG S w=true):w.length≤12:=by
 unfold vG at h
 rw [Bool.and_eq_true,Bool.and_eq_true] at h
 have:=of_decide_eq_true h.1.2
 omega
theorem pX {S w:Str} (h0:0<w.length) (h1:w.length<13) (h:∀c∈w.cps.toList,bT S c=true):vG S w=true:=by
 unfold vG QN
 rw [decide_eq_true h0,decide_eq_true h1,List.take_of_length_le (by rw [Array.length_toList];exact Nat.le_refl _),List.all_eq_true.mpr h]
 rfl
def y8 (w:Str):Prop:=vG lettersS w=true
theorem oR (c:Nat):bT z8 c=(decide (48≤c)&&decide (c≤57)):=HZ c
theorem DY:∀k:Nat,k<26→bT lettersS (97+k)=true:=by decide +kernel
theorem oJ {l:List Nat} (h1:1≤l.length) (h2:l.length≤12) (h:∀c∈l,97≤c∧c≤122):y8 (jJ l):=by
 refine pX (by rw [v3];omega) (by rw [v3];omega) fun c hc=>?_
 have:=h c hc
 have k:=DY (c - 97) (by omega)
 rw [show 97+(c - 97)=c by omega] at k
 exact k
theorem E2:y8 "sea":=by show vG lettersS "sea"=true;decide +kernel
theorem FK {z:Str} {i:Int} (h0:0≤i) (h1:i<(z.length:Int)):∃c,qF z.cps.toList i=some c∧z.cps[i.toNat]?=some c:=by
 have hl:i.toNat<z.cps.toList.length:=by
  rw [Array.length_toList]
  show i.toNat<z.length
  omega
 have h:=qV (List.getElem?_eq_getElem hl)
 have e:((i.toNat:Nat):Int)=i:=by omega
 rw [e] at h
 exact ⟨_,h,by rw [← Array.getElem?_toList];exact List.getElem?_eq_getElem hl⟩
theorem Z5:("0":Str)=⟨#[48]⟩:=by decide +kernel
theorem FI (c:Nat):decide (V.str ⟨#[c]⟩=V.str "0")=decide (c=48):=by
 refine decide_eq_decide.mpr ⟨fun h=>?_,fun h=>by rw [h,Z5]⟩
 have h:=V.str.inj h
 rw [Z5] at h
 have h:=congrArg (fun z:Str=>z.cps.toList) h
 exact (List.cons.inj h).1
def bJ (w:Str):Bool:=decide (w="0")||(vG z8 w && !decide (w.cps[0]?=some 48))
def JQ (w:Str):Int:=((PySem.NumText.digitsVal w.cps.toList:Nat):Int)
theorem m6 {w:Str} (h:vG z8 w=true):0<w.length∧w.length<13∧∀c∈w.cps.toList,48≤c∧c≤57:=by
 unfold vG at h
 rw [Bool.and_eq_true,Bool.and_eq_true] at h
 refine ⟨of_decide_eq_true h.1.1,of_decide_eq_true h.1.2,fun c hc=>?_⟩
 have ha:=h.2
 unfold QN at ha
 rw [List.take_of_length_le (by rw [Array.length_toList];exact Nat.le_refl _),List.all_eq_true] at ha
 have:=ha c hc
 rw [oR,Bool.and_eq_true] at this
 exact ⟨of_decide_eq_true this.1,of_decide_eq_true this.2⟩
theorem DK {w:Str} (hw:w.length≤100) (h:bJ w=true):PySem.intText? w=some (JQ w):=by
 unfold bJ at h
 rw [Bool.or_eq_true] at h
 rcases h with h|h
 ·rw [of_decide_eq_true h]
  refine PySem.intText_digits ?_ ?_ ?_
  ·rw [Z5];intro c hc;cases List.mem_singleton.mp hc;exact ⟨by decide,by decide⟩
  ·rw [Z5];exact List.cons_ne_nil _ _
  ·rw [Z5];decide
 ·rw [Bool.and_eq_true] at h
  obtain ⟨h1,h2,h3⟩:=m6 h.1
  refine PySem.intText_digits h3 ?_ (by omega)
  intro e
  have:w.length=0:=by show w.cps.size=0;rw [← Array.length_toList,e];rfl
  omega
def lN (w:Str):Prop:=w.length≤100∧bJ w=true
def z5 (w:Str) (n:Int):Prop:=lN w∧JQ w=n
theorem JK {n:Int} (h0:0≤n) (h1:n≤999999999999):z5 (kG n) n:=by
 have hc:(kG n).cps.toList=v0 n.toNat:=rO h0
 have hm:n.toNat<1000000000000:=by omega
 have hl:(kG n).length=(v0 n.toNat).length:=by rw [← hc,Array.length_toList];rfl
 have hb:=E1 hm
 refine ⟨⟨by rw [hl];omega,?_⟩,?_⟩
 ·unfold bJ
  by_cases hz:n.toNat=0
  ·have e:kG n="0":=by
    rw [Z5]
    have:(kG n).cps = #[48]:=by rw [← Array.toList_inj,hc,hz,DL]
    cases hq:kG n with
    |mk a=>rw [hq] at this;exact congrArg Str.mk this
   rw [decide_eq_true e];rfl
  ·have hg:vG z8 (kG n)=true:=pX (by rw [hl];omega) (by rw [hl];omega) fun c hx=>by
    rw [hc] at hx
    have:=pR _ c hx
    rw [oR,decide_eq_true this.1,decide_eq_true this.2];rfl
   have hh:=DM n.toNat (by omega)
   rw [← hc,Array.getElem?_toList] at hh
   rw [hg,decide_eq_false hh]
   simp
 ·unfold JQ
  rw [hc,EZ]
  omega
def lB:Sp:=fun vs H Q _=>∃w S:Str,vs=[.str w,.str S]∧w.length≤100∧∀H',Same H H'→Q (.bl (vG S w)) H'
def pI:Sp:=fun vs H Q _=>∃w:Str,vs=[.str w]∧w.length≤100∧∀H',Same H H'→Q (.bl (vG lettersS w)) H'
def rM:Sp:=fun vs H Q _=>∃w:Str,vs=[.str w]∧w.length≤100∧∀H',Same H H'→Q (.bl (bJ w)) H'
def rK:Sp:=fun vs H Q _=>∃w:Str,vs=[.str w]∧lN w∧∀H',Same H H'→Q (.int (JQ w)) H'
def d6:Sp:=fun vs H Q _=>∃(l:Addr) (ws:List Str),vs=[.ref l]∧H l=some (.lst (ws.map V.str))∧(∀w∈ws,lN w)∧ws.length≤100∧∀(l':Addr) (H':Hp),Same H H'→H l'=none→H' l'=some (.lst ((ws.map JQ).map V.int))→Q (.ref l') H'
def eI:Sp:=fun vs H Q _=>∃(l:Addr) (ws:List Str),vs=[.ref l]∧H l=some (.lst (ws.map V.str))∧(∀w∈ws,y8 w)∧ws.length≤100∧∀H',Same H H'→Q .non H'
def lC (K:W.Frag):Sp:=fun vs H Q _=>∃(nm:Str) (l:Addr) (us:List V) (zs:List Str),vs=[.str nm,.ref l]∧H l=some (.lst us)∧AllAt (Named K H) us zs∧us.length≤100∧cW zs nm∧∀H',Same H H'→Q .non H'
def eG (K:W.Frag):Sp:=fun vs H Q _=>∃(nm:Str) (l:Addr) (us:List V) (zs:List Str) (i:Nat),vs=[.str nm,.ref l]∧H l=some (.lst us)∧AllAt (Named K H) us zs∧us.length≤100∧FirstAt zs nm i∧∀H',Same H H'→Q (.int (i:Int)) H'
def nK (cR:Addr):Sp:=fun vs H Q _=>∃(y:Addr) (r:RC),vs=[.ref y]∧RcAt cR H y r∧r.least≤r.crest∧1≤r.berths∧r.berths≤9∧Q .non H
def oF (cs:Kd→Addr):Sp:=fun vs H Q _=>∃(y:Addr) (l:LC),vs=[.ref y]∧LockAt cs H y l.kd (.str l.name) (.int l.high) (.int l.low) l.room l.extra∧l.low<l.high∧l.room≠0∧(l.kd≠.plain→1≤l.extra∧l.extra≤l.room)∧Q .non H
def fB:Sp:=fun vs H Q _=>∃(l:Addr) (us:List V) (m:Int),vs=[.ref l,.int m]∧H l=some (.lst us)∧(us.length:Int)<m∧Q .non H
def yT (n:Nat) (p:List (Int×Int)):List (Int×Int):=p++List.replicate (n - p.length) (0,0)
def gY:Sp:=fun vs H Q _=>∃(l:Addr) (qs:List V) (p:List (Int×Int)) (n:Nat),vs=[.ref l,.int (n:Int)]∧H l=some (.lst qs)∧AllAt (QAt H) qs p∧p.length≤n∧n≤100∧∀(l':Addr) (qs':List V) (H':Hp),Same H H'→H l'=none→H' l'=some (.lst qs')→AllAt (QAt H') qs' (yT n p)→Q (.ref l') H'
def nJ (cs:Kd→Addr):Sp:=fun vs H Q _=>∃(wl nl:Addr) (a nm b c d:Str) (kd:Kd) (hi lo ro ex:Int) (ext:List Str) (ns:List Int),vs=[.ref wl,.int hi,.int lo,.ref nl]∧H wl=some (.lst (([a,nm,b,c,d]++ext).map V.str))∧H nl=some (.lst (ns.map V.int))∧
 ((kd=.plain∧ext=[]∧ns=[ro])∨(∃g,kd≠.plain∧ext=[yI kd,g]∧ns=[ro,ex]))∧∀(x:Addr) (H':Hp),Same H H'→H x=none→LockAt cs H' x kd (.str nm) (.int hi) (.int lo) ro ex→Q (.ref x) H'
theorem eW {ws:List Str} {i:Nat} {v:V} (h:(ws.map V.str)[i]?=some v):∃w,ws[i]?=some w∧v=.str w:=by
 rw [List.getElem?_map] at h
 cases hw:ws[i]? with
 |none=>rw [hw] at h;cases h
 |some w=>rw [hw] at h;cases h;exact ⟨w,rfl,rfl⟩
theorem C3 (zs:List Str):(zs.map V.str).all qY=true:=by rw [List.all_map,List.all_eq_true];intro _ _;rfl
theorem GG {zs:List Str} {nm:Str} (h:cW zs nm):QP (.str nm) (zs.map V.str)=false:=by
 unfold QP
 rw [List.any_map,Bool.eq_false_iff]
 intro e
 obtain ⟨z,hz,e⟩:=List.any_eq_true.mp e
 obtain ⟨i,hi⟩:=List.mem_iff_getElem?.mp hz
 have e:(z == nm)=true:=e
 rw [eq_of_beq e] at hi
 exact h i hi
theorem AllAt.append {α:Type} {P:V→α→Prop} {vs us:List V} {xs ys:List α} (h:AllAt P vs xs) (h':AllAt P us ys):AllAt P (vs++us) (xs++ys):=by
 refine ⟨by rw [List.length_append,List.length_append,h.1,h'.1],fun i v hv=>?_⟩
 by_cases hl:i<vs.length
 ·rw [List.getElem?_append_left hl] at hv
  rw [List.getElem?_append_left (by rw [← h.1];exact hl)]
  exact h.2 i v hv
 ·rw [List.getElem?_append_right (by omega)] at hv
  rw [List.getElem?_append_right (by rw [← h.1];omega),← h.1]
  exact h'.2 _ v hv
def q0 (R:List RC):List Str:=R.map (·.name)
def QO (L:List LC):List Str:=L.map (·.name)
theorem cO {K:W.Frag} {cR:Addr} {H:Hp} {rs:List V} {R:List RC} (c:Cls K cR) (n:NoAttr K cR "name") (h:AllAt (RcO cR H) rs R):AllAt (Named K H) rs (q0 R):=by
 refine ⟨by unfold q0;rw [h.1,List.length_map],fun i v hv=>?_⟩
 obtain ⟨r,hr,x,rfl,dx,fs,hx,hf⟩:=h.2 i v hv
 exact ⟨r.name,by unfold q0;rw [List.getElem?_map,hr];rfl,x,cR,dx,fs,rfl,hx,c,n,hf.1⟩
theorem GH {K:W.Frag} {cs:Kd→Addr} {H:Hp} {rs:List V} {L:List LC} (c:∀kd,Cls K (cs kd)) (n:∀kd,NoAttr K (cs kd) "name") (h:AllAt (LkO cs H) rs L):AllAt (Named K H) rs (QO L):=by
 refine ⟨by unfold QO;rw [h.1,List.length_map],fun i v hv=>?_⟩
 obtain ⟨l,hl,x,rfl,dx,hx⟩:=h.2 i v hv
 exact ⟨l.name,by unfold QO;rw [List.getElem?_map,hl];rfl,x,_,dx,_,rfl,hx,c _,n _,cS ..⟩
def eL (R:List RC) (ws:List Str) (r:RC):Prop:=∃w2 w3 w4 w5 tg:Str,ws=[("reach":Str),r.name,w2,w3,w4,w5,tg]∧r.name≠"sea"∧y8 r.name∧y8 tg∧z5 w2 r.least∧z5 w3 r.crest∧z5 w4 r.berths∧z5 w5 r.water∧cW (q0 R) r.name∧
 ((tg="sea"∧r.target = -1)∨(tg≠"sea"∧∃i:Nat,FirstAt (q0 R) tg i∧r.target=(i:Int)))∧r.least≤r.crest∧1≤r.berths∧r.berths≤9∧R.length<8
def eV (R:List RC) (L:List LC) (ws:List Str) (l:LC):Prop:=∃(hi lo w4:Str) (ext:List Str) (i j:Nat),ws=[("lock":Str),l.name,hi,lo,w4]++ext∧y8 l.name∧y8 hi∧y8 lo∧z5 w4 l.room∧((l.kd=.plain∧ext=[])∨∃g,l.kd≠.plain∧ext=[yI l.kd,g]∧z5 g l.extra)∧
 cW (QO L) l.name∧FirstAt (q0 R) hi i∧l.high=(i:Int)∧FirstAt (q0 R) lo j∧l.low=(j:Int)∧l.low<l.high∧l.room≠0∧(l.kd≠.plain→1≤l.extra∧l.extra≤l.room)∧L.length<8
def vR (qs:List (Str×Str×Str)):List Str:=qs.flatMap fun q=>[q.1,q.2.1,q.2.2]
def lH (Z:List Str) (q:Str×Str×Str) (t:Nat×Int×Int):Prop:=y8 q.1∧FirstAt Z q.1 t.1∧z5 q.2.1 t.2.1∧z5 q.2.2 t.2.2
def eM (R:List RC) (N:List (List (Int×Int))) (ws:List Str) (p:List (Int×Int)):Prop:=∃(qs:List (Str×Str×Str)) (ts:List (Nat×Int×Int)),ws=("night":Str)::vR qs∧qs.length=ts.length∧qs.length≤30∧(∀(i:Nat) (q:Str×Str×Str) (t:Nat×Int×Int),qs[i]?=some q→ts[i]?=some t→lH (q0 R) q t)∧(qs.map (·.1)).Nodup∧p=qD R.length ts∧N.length<6
theorem oU (qs:List (Str×Str×Str)):(vR qs).length=3*qs.length:=by
 induction qs with
 |nil=>rfl
 |cons q qs ih=>show ([q.1,q.2.1,q.2.2]++vR qs).length=_;rw [List.length_append,ih];show 3+_=3*(_+1);omega
theorem iU (qs:List (Str×Str×Str)):∀k:Nat,(vR qs)[3*k]?=qs[k]?.map (·.1)∧(vR qs)[3*k+1]?=qs[k]?.map (·.2.1)∧(vR qs)[3*k+2]?=qs[k]?.map (·.2.2):=by
 induction qs with
 |nil=>intro k;exact ⟨rfl,rfl,rfl⟩
 |cons q qs ih =>
  intro k
  have e:vR (q::qs)=q.1::q.2.1::q.2.2::vR qs:=rfl
  cases k with
  |zero=>exact ⟨rfl,rfl,rfl⟩
  |succ k =>
   obtain ⟨h1,h2,h3⟩:=ih k
   rw [e,show 3*(k+1)=3*k+1+1+1 by omega,show 3*k+1+1+1+1=3*k+1+1+1+1 from rfl]
   refine ⟨?_,?_,?_⟩
   ·rw [List.getElem?_cons_succ,List.getElem?_cons_succ,List.getElem?_cons_succ,List.getElem?_cons_succ];exact h1
   ·rw [show 3*k+1+1+1+1=(3*k+1)+1+1+1 by omega,List.getElem?_cons_succ,List.getElem?_cons_succ,List.getElem?_cons_succ,List.getElem?_cons_succ];exact h2
   ·rw [show 3*k+1+1+1+2=(3*k+2)+1+1+1 by omega,List.getElem?_cons_succ,List.getElem?_cons_succ,List.getElem?_cons_succ,List.getElem?_cons_succ];exact h3
theorem iQ {α β:Type} (f:α→β) (xs:List α):(List.range xs.length).filterMap (fun k=>xs[k]?.map f)=xs.map f:=by
 have key:∀n,n≤xs.length→(List.range n).filterMap (fun k=>xs[k]?.map f)=(xs.take n).map f:=by
  intro n
  induction n with
  |zero=>intro _;rfl
  |succ n ih =>
   intro hn
   rw [List.range_succ,List.filterMap_append,ih (by omega),List.take_add_one,List.map_append,List.getElem?_eq_getElem (by omega)]
   simp [List.getElem?_eq_getElem (show n<xs.length by omega)]
 rw [key _ (Nat.le_refl _),List.take_length]
theorem B6 (qs:List (Str×Str×Str)):JN ((("night":Str)::vR qs).map V.str) (some 1) none (some 3)=(qs.map (·.1)).map V.str∧JN ((("night":Str)::vR qs).map V.str) (some 2) none (some 3)=(qs.map (·.2.1)).map V.str∧JN ((("night":Str)::vR qs).map V.str) (some 3) none (some 3)=(qs.map (·.2.2)).map V.str:=by
 have hl:((("night":Str)::vR qs).map V.str).length=3*qs.length+1:=by rw [List.length_map,List.length_cons,oU]
 refine ⟨?_,?_,?_⟩
 ·refine (gW ((("night":Str)::vR qs).map V.str) qs.length 1 (by decide) (by decide) hl).trans ?_
  rw [List.map_map]
  refine Eq.trans ?_ (iQ (V.str∘fun q:Str×Str×Str=>q.1) qs)
  refine congrArg (fun g=>List.filterMap g (List.range qs.length)) (funext fun k=>?_)
  rw [List.getElem?_map,show 1+3*k=3*k+1 by omega,List.getElem?_cons_succ,(iU qs k).1]
  cases qs[k]?<;>rfl
 ·refine (gW ((("night":Str)::vR qs).map V.str) qs.length 2 (by decide) (by decide) hl).trans ?_
  rw [List.map_map]
  refine Eq.trans ?_ (iQ (V.str∘fun q:Str×Str×Str=>q.2.1) qs)
  refine congrArg (fun g=>List.filterMap g (List.range qs.length)) (funext fun k=>?_)
  rw [List.getElem?_map,show 2+3*k=(3*k+1)+1 by omega,List.getElem?_cons_succ,(iU qs k).2.1]
  cases qs[k]?<;>rfl
 ·refine (gW ((("night":Str)::vR qs).map V.str) qs.length 3 (by decide) (by decide) hl).trans ?_
  rw [List.map_map]
  refine Eq.trans ?_ (iQ (V.str∘fun q:Str×Str×Str=>q.2.2) qs)
  refine congrArg (fun g=>List.filterMap g (List.range qs.length)) (funext fun k=>?_)
  rw [List.getElem?_map,show 3+3*k=(3*k+2)+1 by omega,List.getElem?_cons_succ,(iU qs k).2.2]
  cases qs[k]?<;>rfl
def mS (cR:Addr):Sp:=fun vs H Q _=>∃(wl rl:Addr) (ws:List Str) (rs:List V) (R:List RC) (r:RC),vs=[.ref wl,.ref rl]∧H wl=some (.lst (ws.map V.str))∧H rl=some (.lst rs)∧AllAt (RcO cR H) rs R∧eL R ws r∧∀(x:Addr) (H':Hp),Same H H'→H x=none→RcAt cR H' x r→Q (.ref x) H'
def nI (cs:Kd→Addr) (cR:Addr):Sp:=fun vs H Q _=>∃(wl rl ll:Addr) (ws:List Str) (rs ls:List V) (R:List RC) (L:List LC) (l:LC),vs=[.ref wl,.ref rl,.ref ll]∧H wl=some (.lst (ws.map V.str))∧H rl=some (.lst rs)∧H ll=some (.lst ls)∧AllAt (RcO cR H) rs R∧AllAt (LkO cs H) ls L∧R.length≤8∧eV R L ws l∧∀(x:Addr) (H':Hp),Same H H'→H x=none→LkO cs H' (.ref x) l→Q (.ref x) H'
def mT (cR:Addr):Sp:=fun vs H Q _=>∃(wl rl nl:Addr) (ws:List Str) (rs ms:List V) (R:List RC) (N:List (List (Int×Int))) (p:List (Int×Int)),vs=[.ref wl,.ref rl,.ref nl]∧H wl=some (.lst (ws.map V.str))∧H rl=some (.lst rs)∧H nl=some (.lst ms)∧AllAt (RcO cR H) rs R∧ms.length=N.length∧R.length≤8∧eM R N ws p∧∀(x:Addr) (qs:List V) (H':Hp),Same H H'→H x=none→H' x=some (.lst qs)→AllAt (QAt H') qs p→Q (.ref x) H'
abbrev yB:=List RC×List LC×List (List (Int×Int))
def RdAt (cs:Kd→Addr) (cR:Addr) (H:Hp) (rl ll nl:Addr) (S:yB):Prop:=∃rs ls ms:List V,H rl=some (.lst rs)∧H ll=some (.lst ls)∧H nl=some (.lst ms)∧AllAt (RcO cR H) rs S.1∧AllAt (LkO cs H) ls S.2.1∧AllAt (NAt [rl,ll,nl] H) ms S.2.2∧rl≠ll∧rl≠nl∧ll≠nl
theorem RdAt.same {cs:Kd→Addr} {cR:Addr} {H H':Hp} {rl ll nl:Addr} {S:yB} (e:Same H H') (h:RdAt cs cR H rl ll nl S):RdAt cs cR H' rl ll nl S:=by
 obtain ⟨rs,ls,ms,h1,h2,h3,h4,h5,h6,h7⟩:=h
 exact ⟨rs,ls,ms,e _ _ h1,e _ _ h2,e _ _ h3,h4.mono (RcO.same e),h5.mono (LkO.same e),h6.mono (NAt.same e),h7⟩
def e9 (ws:List Str) (S S':yB):Prop:=S.1.length≤8∧((∃r,eL S.1 ws r∧S'=(S.1++[r],S.2.1,S.2.2))∨(∃l,eV S.1 S.2.1 ws l∧S'=(S.1,S.2.1++[l],S.2.2))∨∃p,eM S.1 S.2.2 ws p∧S'=(S.1,S.2.1,S.2.2++[p]))
def tJ (a b c:Addr) (H H':Hp):Prop:=∀d o,d≠a→d≠b→d≠c→H d=some o→H' d=some o
def n4 (cs:Kd→Addr) (cR:Addr):Sp:=fun vs H Q _=>∃(wl rl ll nl:Addr) (ws:List Str) (S S':yB),vs=[.ref wl,.ref rl,.ref ll,.ref nl]∧H wl=some (.lst (ws.map V.str))∧RdAt cs cR H rl ll nl S∧e9 ws S S'∧∀H':Hp,tJ rl ll nl H H'→RdAt cs cR H' rl ll nl S'→Q .non H'
def zT:List Str→yB→yB→Prop
 |[],S,S'=>S=S'
 |row::rest,S,S'=>(row=""∧zT rest S S')∨(row≠""∧row.length≤1000000∧∃S1,e9 (Txt.split row blankS) S S1∧zT rest S1 S')
theorem EA {H Hi H5:Hp} {D:Addr} {caps:St} {R:Nat→List V→Hp→Prop} {i:Nat} {ys:List V} {c:Option V} {v:V} (hD:H D=none) (s:Same H Hi) (hY:Hi D=some (.lst ys)) (hl:ys.length≤i) (hi:i≤1000000) (s5:Same Hi H5)
  (r:R (i+1) (ys++[v]) (upd H5 D (.lst (ys++[v])))):∃zs,H5 D=some (.lst zs)∧zs.length<sizeLine∧vZ H D caps R (i+1) (c::caps) (upd H5 D (.lst (zs++[v]))):=by
 refine ⟨ys,s5 _ _ hY,by rw [sizeLine_eq];omega,ys++[v],c,rfl,kU hD (s.trans s5),jD,?_,r⟩
 rw [List.length_append,List.length_singleton];omega
def dI (z:Str):Bool := !decide (z="")
def fK (z:Str):List Str:=(Txt.split z feedS).filter dI
def pE:Sp:=fun vs H Q _=>∃z:Str,vs=[.str z]∧z.length≤1000000∧∀(l:Addr) (H':Hp),Same H H'→H l=none→H' l=some (.lst ((fK z).map V.str))→Q (.ref l) H'
theorem m7 {zs:List Str} {i:Nat} {z:Str} (h:zs[i]?=some z) (f:Str→Bool):(zs.take (i+1)).filter f=(zs.take i).filter f++(if f z=true then [z] else []):=by
 rw [List.take_add_one,h,List.filter_append]
 show _++List.filter f [z]=_
 rw [List.filter_cons]
 rfl
theorem iJ:∀{rows:List Str} {S S':yB},zT rows S S'→zT (rows.filter dI) S S'
 |[],_,_,h=>h
 |row::rest,S,S',h=>by
  rcases h with ⟨e,h⟩|⟨e,hl,S1,h1,h⟩
  ·rw [List.filter_cons,if_neg (by rw [e];decide)];exact iJ h
  ·rw [List.filter_cons,if_pos (by unfold dI;rw [decide_eq_false e];rfl)];exact .inr ⟨e,hl,S1,h1,iJ h⟩
def oC (cs:Kd→Addr) (cR cN:Addr):Sp:=fun vs H Q _=>∃(z:Str) (S:yB),vs=[.str z]∧z.length≤1000000∧zT (Txt.split z feedS) ([],[],[]) S∧S.1≠[]∧S.1.length≤8∧S.2.2.length≤6∧(∀p∈S.2.2,p.length≤S.1.length)∧∀(x:Addr) (H':Hp),Same H H'→H x=none→CnAt cs cR cN [] H' x S.1 S.2.1 (S.2.2.map (yT S.1.length))→Q (.ref x) H'
theorem B2 {R:List RC} {ws:List Str} {r:RC} (h:eL R ws r):qF (ws.map V.str) 0=some (V.str "reach"):=by
 obtain ⟨w2,w3,w4,w5,tg,rfl,_⟩:=h
 rfl
theorem oK {R:List RC} {L:List LC} {ws:List Str} {l:LC} (h:eV R L ws l):qF (ws.map V.str) 0=some (V.str "lock"):=by
 obtain ⟨hi,lo,w4,ext,i,j,rfl,_,_,_,_,hc,_⟩:=h
 rcases hc with ⟨_,rfl⟩|⟨g,_,rfl,_⟩<;>rfl
theorem gX {R:List RC} {N:List (List (Int×Int))} {ws:List Str} {p:List (Int×Int)} (h:eM R N ws p):qF (ws.map V.str) 0=some (V.str "night"):=by
 obtain ⟨qs,ts,rfl,_⟩:=h
 exact qV (j:=0) rfl
def GoodIts (rn:Nat→List Nat):List PIt→yB→yB→Prop
 |[],S,S'=>S=S'
 |it::rest,S,S'=>∃S1,e9 (kI rn it) S S1∧GoodIts rn rest S1 S'
theorem GoodIts.snoc {rn:Nat→List Nat} {it:PIt} {S1 S2:yB} (h2:e9 (kI rn it) S1 S2):∀{its:List PIt} {S:yB},GoodIts rn its S S1→GoodIts rn (its++[it]) S S2
 |[],S,h=>by obtain rfl:S=S1:=h;exact ⟨S2,h2,rfl⟩
 |i::its,S,⟨S',h1,h⟩=>⟨S',h1,GoodIts.snoc h2 h⟩
structure NamesOk (rn gn:Nat→List Nat):Prop where
 rlen:∀k,k<8→1≤(rn k).length∧(rn k).length≤12
 rlet:∀k,k<8→∀c∈rn k,97≤c∧c≤122
 rinj:∀j k,j<8→k<8→rn j=rn k→j=k
 rsea:∀k,k<8→rn k≠seaL
 glen:∀k,k<8→1≤(gn k).length∧(gn k).length≤12
 glet:∀k,k<8→∀c∈gn k,97≤c∧c≤122
 ginj:∀j k,j<8→k<8→gn j=gn k→j=k
theorem BN {c0 c1:Int} (h0:0≤c0) (h1:0≤c1):NamesOk (kN c0) (vK c0 c1) :=
 ⟨fun k hk=>iC c0 hk,fun k _=>iB c0 k,fun j k hj hk e=>iD h0 hj hk e,fun k _=>iA c0 k,fun k hk=>D0 c0 c1 hk,fun k _=>DZ c0 c1 k,fun j k hj hk e=>D1 h0 h1 hj hk e⟩
theorem NamesOk.name {rn gn:Nat→List Nat} (n:NamesOk rn gn) {k:Nat} (hk:k<8):y8 (jJ (rn k)):=oJ (n.rlen k hk).1 (n.rlen k hk).2 (n.rlet k hk)
theorem NamesOk.gname {rn gn:Nat→List Nat} (n:NamesOk rn gn) {k:Nat} (hk:k<8):y8 (jJ (gn k)):=oJ (n.glen k hk).1 (n.glen k hk).2 (n.glet k hk)
theorem NamesOk.nsea {rn gn:Nat→List Nat} (n:NamesOk rn gn) {k:Nat} (hk:k<8):jJ (rn k)≠"sea":=fun e=>n.rsea k hk (Z8 (e.trans eN))
theorem sN {rn gn:Nat→List Nat} {its:List PIt} {a b c:Nat} (h:PlanOk rn gn its a b c) {i:Nat} (hi:i<a):(q0 (kH its))[i]?=some (jJ (rn i)):=by
 have hl:i<(kH its).length:=by rw [(yC h).1];exact hi
 unfold q0
 rw [List.getElem?_map,List.getElem?_eq_getElem hl]
 exact congrArg some ((cG h).1 i _ (List.getElem?_eq_getElem hl)).2.1
theorem sL {rn gn:Nat→List Nat} {its:List PIt} {a b c:Nat} (h:PlanOk rn gn its a b c) {i:Nat} {z:Str} (hz:(q0 (kH its))[i]?=some z):i<a∧z=jJ (rn i):=by
 have hl:=(List.getElem?_eq_some_iff.mp hz).1
 unfold q0 at hl
 rw [List.length_map,(yC h).1] at hl
 rw [sN h hl] at hz
 exact ⟨hl,(Option.some.inj hz).symm⟩
theorem HR {rn gn:Nat→List Nat} {its:List PIt} {a b c:Nat} (h:PlanOk rn gn its a b c) {i:Nat} {z:Str} (hz:(QO (kL its))[i]?=some z):i<b∧z=jJ (gn i):=by
 unfold QO at hz
 rw [List.getElem?_map] at hz
 cases hl:(kL its)[i]? with
 |none=>rw [hl] at hz;cases hz
 |some l =>
  rw [hl] at hz
  cases hz
  obtain ⟨_,h2,h3⟩:=(cG h).2 i l hl
  exact ⟨h3,h2⟩
theorem e7 {rn gn:Nat→List Nat} (n:NamesOk rn gn) {its:List PIt} {a b c:Nat} (h:PlanOk rn gn its a b c) {i:Nat} (hi:i<a):FirstAt (q0 (kH its)) (jJ (rn i)) i:=by
 have hb:=h.bounds.1
 refine ⟨sN h hi,fun j hj e=>?_⟩
 obtain ⟨h1,h2⟩:=sL h e
 have:=n.rinj i j (by omega) (by omega) (Z8 h2)
 omega
theorem CL {rn gn:Nat→List Nat} (n:NamesOk rn gn) {its:List PIt} {a b c:Nat} (h:PlanOk rn gn its a b c) {r:RC} (ha:a<8) (hn:r.name=jJ (rn a)) (hg:r.good a):eL (kH its) (kI rn (.reach r)) r:=by
 obtain ⟨g1,g2,g3,g4,g5,g6,g7,g8,g9⟩:=hg
 refine ⟨_,_,_,_,_,rfl,?_,?_,?_,JK g1 (by omega),JK (by omega) g3,JK (by omega) (by omega),JK g6 g7,?_,?_,g2,g4,g5,by rw [(yC h).1];exact ha⟩
 ·rw [hn];exact n.nsea ha
 ·rw [hn];exact n.name ha
 ·unfold yH
  split
  ·exact n.name (by omega)
  ·exact E2
 ·rw [hn]
  intro i e
  obtain ⟨h1,h2⟩:=sL h e
  have:=n.rinj a i ha (by omega) (Z8 h2)
  omega
 ·unfold yH
  by_cases hz:0≤r.target
  ·rw [if_pos hz]
   exact .inr ⟨n.nsea (by omega),r.target.toNat,e7 n h (by omega),by omega⟩
  ·rw [if_neg hz]
   exact .inl ⟨rfl,by omega⟩
theorem DW {rn gn:Nat→List Nat} (n:NamesOk rn gn) {its:List PIt} {a b c:Nat} (h:PlanOk rn gn its a b c) {l:LC} (hb:b<8) (hn:l.name=jJ (gn b)) (hg:l.good a):eV (kH its) (kL its) (kI rn (.lock l)) l:=by
 obtain ⟨g1,g2,g3,g4,g5,g6,g7,g8⟩:=hg
 have hb8:=h.bounds.1
 refine ⟨_,_,_,QL l.kd l.extra,l.high.toNat,l.low.toNat,rfl,?_,n.name (by omega),n.name (by omega),JK (by omega) g6,?_,?_,e7 n h (by omega),by omega,e7 n h (by omega),by omega,by omega,by omega,g8,by rw [(yC h).2.1];exact hb⟩
 ·rw [hn];exact n.gname hb
 ·by_cases hk:l.kd=.plain
  ·exact .inl ⟨hk,by rw [hk];rfl⟩
  ·exact .inr ⟨kG l.extra,hk,eS hk _,JK (by have:=g8 hk;omega) (by have:=g8 hk;omega)⟩
 ·rw [hn]
  intro i e
  obtain ⟨h1,h2⟩:=HR h e
  have:=n.ginj b i hb (by omega) (Z8 h2)
  omega
theorem mW {rn:Nat→List Nat} (hinj:∀j k,j<8→k<8→rn j=rn k→j=k):∀ts:List (Nat×Int×Int),(∀t∈ts,t.1<8)→(ts.map (·.1)).Nodup→(ts.map fun t=>jJ (rn t.1)).Nodup
 |[],_,_=>List.nodup_nil
 |t::ts,h8,hnd=>by
  rw [List.map_cons,List.nodup_cons] at hnd ⊢
  refine ⟨fun hm=>hnd.1 ?_,mW hinj ts (fun u hu=>h8 u (List.mem_cons_of_mem _ hu)) hnd.2⟩
  obtain ⟨u,hu,e⟩:=List.mem_map.mp hm
  have:=hinj u.1 t.1 (h8 u (List.mem_cons_of_mem _ hu)) (h8 t List.mem_cons_self) (Z8 e)
  exact List.mem_map.mpr ⟨u,hu,this⟩
theorem CM {rn gn:Nat→List Nat} (n:NamesOk rn gn) {its:List PIt} {a b c:Nat} (h:PlanOk rn gn its a b c) {N:List (List (Int×Int))} (hN:N.length<6) {ts:List (Nat×Int×Int)} (ht:tripsOk ts a) (hl:ts.length≤8):eM (kH its) N (kI rn (.night ts)) (qD a ts):=by
 have hb8:=h.bounds.1
 refine ⟨ts.map fun q=>(jJ (rn q.1),kG q.2.1,kG q.2.2),ts,?_,List.length_map _,by rw [List.length_map];omega,fun i q t hq hti=>?_,?_,by rw [(yC h).1],hN⟩
 ·show _::_=_::_
  unfold vR
  rw [List.flatMap_map]
 ·rw [List.getElem?_map,hti] at hq
  cases hq
  obtain ⟨h1,h2,h3,h4,h5⟩:=ht.2 t (List.mem_of_getElem? hti)
  exact ⟨n.name (by omega),e7 n h h1,JK h2 h3,JK h4 h5⟩
 ·rw [List.map_map]
  exact mW n.rinj ts (fun t hm=>by have:=(ht.2 t hm).1;omega) ht.1
theorem FU {α:Type} (xs ys:List α) {i:Nat} (v:α) (h:i<xs.length):(xs++ys).set i v=xs.set i v++ys:=List.set_append_left i v h
theorem p0 (ys:List (Int×Int)):∀(ts:List (Nat×Int×Int)) (xs:List (Int×Int)),(∀t∈ts,t.1<xs.length)→ts.foldl (fun ps q=>ps.set q.1 (q.2.1,q.2.2)) (xs++ys)=ts.foldl (fun ps q=>ps.set q.1 (q.2.1,q.2.2)) xs++ys
 |[],_,_=>rfl
 |t::ts,xs,h=>by
  rw [List.foldl_cons,List.foldl_cons,FU xs ys _ (h t List.mem_cons_self)]
  exact p0 ys ts _ fun u hu=>by rw [List.length_set];exact h u (List.mem_cons_of_mem _ hu)
theorem BI {a n:Nat} {ts:List (Nat×Int×Int)} (ht:tripsOk ts a) (hn:a≤n):yT n (qD a ts)=qD n ts:=by
 unfold yT
 rw [cE]
 unfold qD
 rw [show n=a+(n - a) by omega,← List.replicate_append_replicate,p0 _ ts _ (fun t hm=>by rw [List.length_replicate];exact (ht.2 t hm).1)]
 rw [show a+(n - a) - a=n - a by omega]
theorem DD {rn gn:Nat→List Nat} (n:NamesOk rn gn) {its:List PIt} {a b c:Nat} (h:PlanOk rn gn its a b c):∃N:List (List (Int×Int)),N.length=c∧(∀p∈N,p.length≤a)∧(∀m,a≤m→N.map (yT m)=its.filterMap (v2 m))∧GoodIts rn its ([],[],[]) (kH its,kL its,N):=by
 induction h with
 |nil=>exact ⟨[],rfl,(fun p hp=>by cases hp),fun _ _=>rfl,rfl⟩
 |@reach its a b c r h ha hn hg ih =>
  obtain ⟨N,h1,h2,h3,h4⟩:=ih
  have e1:kH (its++[.reach r])=kH its++[r]:=by unfold kH;rw [List.filterMap_append];rfl
  have e2:kL (its++[.reach r])=kL its:=by unfold kL;rw [List.filterMap_append];exact List.append_nil _
  refine ⟨N,h1,fun p hp=>Nat.le_succ_of_le (h2 p hp),fun m hm=>by rw [List.filterMap_append,h3 m (by omega)];exact (List.append_nil _).symm,?_⟩
  rw [e1,e2]
  exact GoodIts.snoc ⟨by show (kH its).length≤8;rw [(yC h).1];omega,.inl ⟨r,CL n h ha hn hg,rfl⟩⟩ h4
 |@lock its a b c l h hb hn hg ih =>
  obtain ⟨N,h1,h2,h3,h4⟩:=ih
  have e1:kH (its++[.lock l])=kH its:=by unfold kH;rw [List.filterMap_append];exact List.append_nil _
  have e2:kL (its++[.lock l])=kL its++[l]:=by unfold kL;rw [List.filterMap_append];rfl
  refine ⟨N,h1,h2,fun m hm=>by rw [List.filterMap_append,h3 m hm];exact (List.append_nil _).symm,?_⟩
  rw [e1,e2]
  exact GoodIts.snoc ⟨by show (kH its).length≤8;rw [(yC h).1];exact h.bounds.1,.inr (.inl ⟨l,DW n h hb hn hg,rfl⟩)⟩ h4
 |@night its a b c ts h hc ht hl ih =>
  obtain ⟨N,h1,h2,h3,h4⟩:=ih
  have e1:kH (its++[.night ts])=kH its:=by unfold kH;rw [List.filterMap_append];exact List.append_nil _
  have e2:kL (its++[.night ts])=kL its:=by unfold kL;rw [List.filterMap_append];exact List.append_nil _
  refine ⟨N++[qD a ts],by rw [List.length_append,h1];rfl,fun p hp=>?_,fun m hm=>?_,?_⟩
  ·rcases List.mem_append.mp hp with hp|hp
   ·exact h2 p hp
   ·rw [List.mem_singleton.mp hp,cE];exact Nat.le_refl _
  ·rw [List.map_append,List.filterMap_append,h3 m hm]
   show _++[yT m (qD a ts)]=_++[qD m ts]
   rw [BI ht hm]
  ·rw [e1,e2]
   exact GoodIts.snoc ⟨by show (kH its).length≤8;rw [(yC h).1];exact h.bounds.1,.inr (.inr ⟨_,CM n h (by show N.length<6;omega) ht hl,rfl⟩)⟩ h4
theorem gZ {rn:Nat→List Nat}:∀{rows:List Str} {its:List PIt} {S S':yB},rows.filter QK=its.map (kK rn)→(∀it∈its,Txt.split (kK rn it) blankS=kI rn it∧(kK rn it).length≤1000000)→GoodIts rn its S S'→zT rows S S'
 |[],its,S,S',hf,_,h=>by
  have:its=[]:=List.map_eq_nil_iff.mp hf.symm
  subst this
  exact h
 |row::rows,its,S,S',hf,hi,h=>by
  by_cases e:row=""
  ·rw [List.filter_cons,if_neg (by rw [e,pZ];decide)] at hf
   exact .inl ⟨e,gZ hf hi h⟩
  ·rw [List.filter_cons,if_pos (by unfold QK;rw [decide_eq_false e];rfl)] at hf
   cases its with
   |nil=>cases hf
   |cons it its =>
    rw [List.map_cons] at hf
    injection hf with hf1 hf2
    obtain ⟨S1,h1,h2⟩:=h
    obtain ⟨h3,h4⟩:=hi it List.mem_cons_self
    refine .inr ⟨e,by rw [hf1];exact h4,S1,by rw [hf1,h3];exact h1,gZ hf2 (fun i hm=>hi i (List.mem_cons_of_mem _ hm)) h2⟩
theorem nX {rn gn:Nat→List Nat} (n:NamesOk rn gn) {its:List PIt} {a b c:Nat} (h:PlanOk rn gn its a b c) (ha:1≤a) {rows:List Str} (hr:RowsOk rn rows its) (hl:rows.length≤46) :
  ∃S:yB,(Str.join feedS rows).length≤1000000∧zT (Txt.split (Str.join feedS rows) feedS) ([],[],[]) S∧S.1=kH its∧S.2.1=kL its∧S.2.2.map (yT S.1.length)=yZ its∧S.2.2.length≤6∧∀p∈S.2.2,p.length≤S.1.length:=by
 have hrl:∀k,k<8→(rn k).length≤12:=fun k hk=>(n.rlen k hk).2
 have hgl:∀k,k<8→(gn k).length≤12:=fun k hk=>(n.glen k hk).2
 have hi:=iZ hrl hgl h
 have hlet:=pP n.rlet n.glet h
 obtain ⟨N,h1,h2,h3,h4⟩:=DD n h
 have t1:=(yC h).1
 have hne:its≠[]:=fun e=>by
  have:=h.bounds.2.2.2
  rw [e] at this
  have hz:([]:List PIt).length=0:=rfl
  omega
 refine ⟨(kH its,kL its,N),?_,?_,rfl,rfl,?_,by rw [h1];exact h.bounds.2.2.1,fun p hp=>by rw [t1];exact h2 p hp⟩
 ·have h5:=StrLaws.join_length_le feedS rows
  have h6:=mU hrl hr hl hi
  have h7:feedS.length=1:=rfl
  have h8:=bF (B:=400) rows (fun z hz=>by
   rcases hr.2 z hz with rfl|⟨it,hit,rfl⟩
   ·decide +kernel
   ·obtain ⟨m,hm⟩:=hi it hit
    exact QH hrl hm)
  have h9:rows.length*400≤46*400:=Nat.mul_le_mul_right _ hl
  have h10:(rows.map (·.length)).sum=JH rows:=rfl
  rw [h7,Nat.mul_one] at h5
  omega
 ·rw [nB n.rlet hr hne hi hlet]
  refine gZ hr.1 (fun it hit=>?_) h4
  obtain ⟨m,hm⟩:=hi it hit
  exact ⟨oG n.rlet hm (hlet it hit),by have:=QH hrl hm;omega⟩
 ·show N.map (yT (kH its).length)=its.filterMap (v2 (kH its).length)
  exact h3 _ (by omega)
def qR (R:List RC) (L:List LC) (N:List (List (Int×Int))):List PIt:=R.map .reach++L.map .lock++N.map fun p=>.night (v5 p)
theorem p6 (R:List RC) (L:List LC) (N:List (List (Int×Int))):kH (qR R L N)=R:=by
 unfold kH qR
 have h1:(R.map PIt.reach).filterMap zK=R:=by rw [List.filterMap_map];show R.filterMap some=R;exact List.filterMap_some
 have h2:(L.map PIt.lock).filterMap zK=[]:=by rw [List.filterMap_map];exact List.filterMap_eq_nil_iff.mpr fun _ _=>rfl
 have h3:(N.map fun p=>PIt.night (v5 p)).filterMap zK=[]:=by rw [List.filterMap_map];exact List.filterMap_eq_nil_iff.mpr fun _ _=>rfl
 rw [List.filterMap_append,List.filterMap_append,h1,h2,h3,List.append_nil,List.append_nil]
theorem GS (R:List RC) (L:List LC) (N:List (List (Int×Int))):kL (qR R L N)=L:=by
 unfold kL qR
 have h1:(R.map PIt.reach).filterMap zL=[]:=by rw [List.filterMap_map];exact List.filterMap_eq_nil_iff.mpr fun _ _=>rfl
 have h2:(L.map PIt.lock).filterMap zL=L:=by rw [List.filterMap_map];show L.filterMap some=L;exact List.filterMap_some
 have h3:(N.map fun p=>PIt.night (v5 p)).filterMap zL=[]:=by rw [List.filterMap_map];exact List.filterMap_eq_nil_iff.mpr fun _ _=>rfl
 rw [List.filterMap_append,List.filterMap_append,h1,h2,h3,List.append_nil,List.nil_append]
theorem B8 (n:Nat) (ts:List (Nat×Int×Int)) (q:Nat×Int×Int):qD n (ts++[q])=(qD n ts).set q.1 (q.2.1,q.2.2):=by unfold qD;rw [List.foldl_append];rfl
theorem pQ (p:List (Int×Int)):∀k,k≤p.length→qD p.length (vC p k)=p.take k++List.replicate (p.length - k) (0,0)
 |0,_=>rfl
 |k+1,hk=>by
  have ih:=pQ p k (by omega)
  have hq:p[k]?=some p[k]:=List.getElem?_eq_getElem (by omega)
  have hr:List.replicate (p.length - k) ((0:Int),(0:Int))=(0,0)::List.replicate (p.length - (k+1)) (0,0):=by rw [show p.length - k=(p.length - (k+1))+1 by omega,List.replicate_succ]
  have ht:p.take (k+1)=p.take k++[p[k]]:=by rw [List.take_add_one,hq];rfl
  rw [d4]
  by_cases hz:p[k].1=0∧p[k].2=0
  ·rw [mR hq hz]
   show qD p.length (vC p k++[])=_
   rw [List.append_nil,ih,hr,ht,List.append_assoc,show p[k]=(0,0) from Prod.ext hz.1 hz.2]
   rfl
  ·rw [mQ hq hz]
   show qD p.length (vC p k++[(k,p[k].1,p[k].2)])=_
   have hl:(p.take k).length=k:=by rw [List.length_take];omega
   rw [B8,ih,hr,ht]
   show (p.take k++(0,0)::List.replicate (p.length - (k+1)) (0,0)).set k (p[k].1,p[k].2)=_
   rw [List.set_append_right k _ (Nat.le_of_eq hl),hl,Nat.sub_self,List.append_assoc]
   rfl
theorem BM {p:List (Int×Int)} {n:Nat} (h:p.length=n):qD n (v5 p)=p:=by
 subst h
 unfold v5
 rw [pQ p p.length (Nat.le_refl _),List.take_length,Nat.sub_self]
 exact List.append_nil _
theorem FE {R:List RC} {L:List LC} {N:List (List (Int×Int))} (h:∀p∈N,p.length=R.length):yZ (qR R L N)=N:=by
 unfold yZ
 rw [p6]
 unfold qR
 have h1:(R.map PIt.reach).filterMap (v2 R.length)=[]:=by rw [List.filterMap_map];exact List.filterMap_eq_nil_iff.mpr fun _ _=>rfl
 have h2:(L.map PIt.lock).filterMap (v2 R.length)=[]:=by rw [List.filterMap_map];exact List.filterMap_eq_nil_iff.mpr fun _ _=>rfl
 have h3:(N.map fun p=>PIt.night (v5 p)).filterMap (v2 R.length)=N:=by
  rw [List.filterMap_map]
  have key:∀M:List (List (Int×Int)),(∀p∈M,p.length=R.length)→M.filterMap (v2 R.length∘fun p=>PIt.night (v5 p))=M:=by
   intro M
   induction M with
   |nil=>intro _;rfl
   |cons p M ih =>
    intro hM
    rw [List.filterMap_cons_some (b:=p) (by show some (qD R.length (v5 p))=_;rw [BM (hM p List.mem_cons_self)]),ih fun q hq=>hM q (List.mem_cons_of_mem _ hq)]
  exact key N h
 rw [List.filterMap_append,List.filterMap_append,h1,h2,h3]
 rfl
theorem B4 {rn gn:Nat→List Nat} {R:List RC} {L:List LC} {N:List (List (Int×Int))} (ok:ShowOk rn R L N) (hl:∀(i:Nat) (l:LC),L[i]?=some l→l.name=jJ (gn i)):PlanOk rn gn (qR R L N) R.length L.length N.length:=by
 have p1:∀i,i≤R.length→PlanOk rn gn ((R.take i).map .reach) i 0 0:=by
  intro i
  induction i with
  |zero=>intro _;exact .nil
  |succ i ih =>
   intro hi
   have hr:R[i]?=some R[i]:=List.getElem?_eq_getElem (by omega)
   rw [List.take_add_one,hr,List.map_append]
   exact .reach (ih (by omega)) (by have:=ok.r8;omega) (ok.nm i _ hr) (ok.rr i _ hr)
 have h1:=p1 R.length (Nat.le_refl _)
 rw [List.take_length] at h1
 have p2:∀j,j≤L.length→PlanOk rn gn (R.map .reach++(L.take j).map .lock) R.length j 0:=by
  intro j
  induction j with
  |zero=>intro _;rw [List.take_zero];show PlanOk rn gn (R.map .reach++[]) _ _ _;rw [List.append_nil];exact h1
  |succ j ih =>
   intro hj
   have hr:L[j]?=some L[j]:=List.getElem?_eq_getElem (by omega)
   rw [List.take_add_one,hr,List.map_append,← List.append_assoc]
   exact .lock (ih (by omega)) (by have:=ok.l8;omega) (hl j _ hr) (ok.ll _ (List.mem_of_getElem? hr)).1
 have h2:=p2 L.length (Nat.le_refl _)
 rw [List.take_length] at h2
 have p3:∀j,j≤N.length→PlanOk rn gn (R.map .reach++L.map .lock++(N.take j).map fun p=>.night (v5 p)) R.length L.length j:=by
  intro j
  induction j with
  |zero=>intro _;rw [List.take_zero];show PlanOk rn gn (R.map .reach++L.map .lock++[]) _ _ _;rw [List.append_nil];exact h2
  |succ j ih =>
   intro hj
   have hr:N[j]?=some N[j]:=List.getElem?_eq_getElem (by omega)
   rw [List.take_add_one,hr,List.map_append,← List.append_assoc]
   have hp:=ok.nn N[j] (List.mem_of_getElem? hr)
   obtain ⟨_,g2,g3⟩:=ok.night (List.mem_of_getElem? hr)
   rw [hp.1] at g2
   exact .night (ih (by omega)) (by have:=ok.n6;omega) g2 g3
 have h3:=p3 N.length (Nat.le_refl _)
 rw [List.take_length] at h3
 exact h3
theorem BL (rn:Nat→List Nat) (R:List RC) (L:List LC) (N:List (List (Int×Int))):yL rn R L N=(qR R L N).map (kK rn):=by
 unfold yL qR
 rw [List.map_append,List.map_append,List.map_map,List.map_map,List.map_map]
 rfl
theorem pM (rn:Nat→List Nat) (its:List PIt):RowsOk rn (its.map (kK rn)) its:=by
 refine ⟨List.filter_eq_self.mpr fun z hz=>?_,fun z hz=>?_⟩
 ·obtain ⟨it,_,rfl⟩:=List.mem_map.mp hz;exact FB rn it
 ·obtain ⟨it,hi,rfl⟩:=List.mem_map.mp hz;exact .inr ⟨it,hi,rfl⟩
theorem rF (z:Str):z++("":Str)=z:=by
 show (⟨z.cps++("":Str).cps⟩:Str)=z
 rw [show ("":Str).cps = #[] by decide +kernel,Array.append_empty]
theorem FX (x:Str):Str.join "" ([x].map (·++feedS))=Str.join feedS ([x]++[("":Str)]):=by
 show x++feedS=x++feedS++("":Str)
 rw [rF]
theorem oO:∀rows:List Str,Str.join "" (rows.map (·++feedS))=Str.join feedS (rows++[("":Str)])
 |[]=>rfl
 |[x]=>FX x
 |x::y::rest=>by
  have ih:=oO (y::rest)
  show (x++feedS)++("":Str)++Str.join "" ((y::rest).map (·++feedS))=x++feedS++Str.join feedS ((y::rest)++[("":Str)])
  rw [ih,rF]
theorem iX {rn:Nat→List Nat} {R:List RC} {L:List LC} {N:List (List (Int×Int))}:lL rn R L N=Str.join feedS ((qR R L N).map (kK rn)++[("":Str)]):=by
 unfold lL
 rw [oO,BL]
def y7:PIt→Str
 |.reach _=>"reach"
 |.lock _=>"lock"
 |.night _=>"night"
theorem C8 (rn:Nat→List Nat) (it:PIt):(kI rn it)[0]?=some (y7 it):=by
 cases it with
 |reach r=>rfl
 |lock l=>rw [Z4];rfl
 |night ts=>rfl
def pK:Sp:=fun vs H Q _=>∃(sl t:Addr) (rn:Nat→List Nat) (R:List RC) (L:List LC) (N:List (List (Int×Int))),vs=[.ref sl,.ref t]∧H sl=some (.lst (((qR R L N).map (kK rn)++[("":Str)]).map V.str))∧DueAt [] H t R L N∧R.length≤8∧L.length≤8∧N.length≤6∧(∀it∈qR R L N,Txt.split (kK rn it) blankS=kI rn it∧(kK rn it).length≤1000000)∧∀H',Same H H'→Q (.bl true) H'
theorem DQ (R:List RC) (L:List LC) (N:List (List (Int×Int))):(List.replicate R.length ("reach":Str)++List.replicate L.length ("lock":Str))++List.replicate N.length ("night":Str)=(qR R L N).map y7:=by
 have key:∀{α:Type} (f:α→PIt) (w:Str) (xs:List α),(∀x,y7 (f x)=w)→(xs.map f).map y7=List.replicate xs.length w:=by
  intro α f w xs hw
  induction xs with
  |nil=>rfl
  |cons x xs ih=>rw [List.map_cons,List.map_cons,hw,ih,List.length_cons,List.replicate_succ]
 unfold qR
 rw [List.map_append,List.map_append,key .reach "reach" R (fun _=>rfl),key .lock "lock" L (fun _=>rfl),key (fun p=>.night (v5 p)) "night" N (fun _=>rfl)]
theorem i9 (R:List RC) (L:List LC) (N:List (List (Int×Int))):(qR R L N).length=R.length+L.length+N.length:=by
 unfold qR
 rw [List.length_append,List.length_append,List.length_map,List.length_map,List.length_map]
structure Txt (K:W.Frag) (mg:Str→Option Value) (cP cB cU:Addr) (cR:Addr) (cN:Addr) (tkS:Tok) (jX:Tok) (jW:Tok) (j4:Tok) (j3:Tok) (jZ:Tok) (j0:Tok) (jY:Tok):Prop where
 z_list:mg "list"=none
 z_tuple:mg "tuple"=none
 z_max:mg "max"=none
 z_range:mg "range"=none
 z_len:mg "len"=none
 z_str:mg "str"=none
 z_zip:mg "zip"=none
 z_enumerate:mg "enumerate"=none
 z_all:mg "all"=none
 z_int:mg "int"=none
 z_set:mg "set"=none
 z_isinstance:mg "isinstance"=none
 z_bool:mg "bool"=none
 z_min:mg "min"=none
 cl:∀kd,Cls K ((jM cP cB cU) kd)
 n_name:∀kd,NoAttr K ((jM cP cB cU) kd) "name"
 n_high:∀kd,NoAttr K ((jM cP cB cU) kd) "high"
 n_low:∀kd,NoAttr K ((jM cP cB cU) kd) "low"
 n_room:∀kd,NoAttr K ((jM cP cB cU) kd) "room"
 n_side:NoAttr K cB "side"
 n_lift:NoAttr K cU "lift"
 c_PlainLock:mg "PlainLock"=some (.ref cP)
 c_BasinLock:mg "BasinLock"=some (.ref cB)
 c_PumpLock:mg "PumpLock"=some (.ref cU)
 clR:Cls K cR
 nR_name:NoAttr K cR "name"
 nR_least:NoAttr K cR "least"
 nR_crest:NoAttr K cR "crest"
 nR_berths:NoAttr K cR "berths"
 nR_water:NoAttr K cR "water"
 nR_target:NoAttr K cR "target"
 c_Reach:mg "Reach"=some (.ref cR)
 clN:Cls K cN
 nN_reaches:NoAttr K cN "reaches"
 nN_locks:NoAttr K cN "locks"
 nN_nights:NoAttr K cN "nights"
 c_Canal:mg "Canal"=some (.ref cN)
 tyR:∀(H:Hp) (a dx:Addr) (fs:List (Str×V)),H a=some (.ins cR dx fs)→TyOf K H (.ref a) (.ref cR)
 tyN:∀(H:Hp) (a dx:Addr) (fs:List (Str×V)),H a=some (.ins cN dx fs)→TyOf K H (.ref a) (.ref cN)
 tyL:∀(kd:Kd) (H:Hp) (a dx:Addr) (fs:List (Str×V)),H a=some (.ins ((jM cP cB cU) kd) dx fs)→TyOf K H (.ref a) (.ref ((jM cP cB cU) kd))
 ktR:W.kitOne K (.ref cR) (.ref cR)=some true
 ktN:W.kitOne K (.ref cN) (.ref cN)=some true
 ktLP:∀kd,W.kitOne K (.ref ((jM cP cB cU) kd)) (.ref cP)=some true
 ktLB:∀kd,W.kitOne K (.ref ((jM cP cB cU) kd)) (.ref cB)=some (tU kd)
 ktLU:∀kd,W.kitOne K (.ref ((jM cP cB cU) kd)) (.ref cU)=some (tT kd)
 g_SEA:mg "SEA"=some (.int (-1) tkS)
 g_LETTERS:mg "LETTERS"=some (.str lettersS jX)
 g_FIGURES:mg "FIGURES"=some (.str z8 jW)
 g_MOST_SIGNS:mg "MOST_SIGNS"=some (.int 12 j4)
 g_MOST_REACHES:mg "MOST_REACHES"=some (.int 8 j3)
 g_MOST_LOCKS:mg "MOST_LOCKS"=some (.int 8 jZ)
 g_MOST_NIGHTS:mg "MOST_NIGHTS"=some (.int 6 j0)
 g_MOST_BERTHS:mg "MOST_BERTHS"=some (.int 9 jY)
set_option maxHeartbeats 4000000
section
variable {P:Program} {w:World} {K:W.Frag} {mg:Str→Option Value} {base:Heap} {cP cB cU:Addr} {cR:Addr} {cN:Addr} {tkS:Tok} {jX:Tok} {jW:Tok} {j4:Tok} {j3:Tok} {jZ:Tok} {j0:Tok} {jY:Tok}
theorem xM:FnScope ["self","name","high","low","room"] ["self","name","high","low","room"] (jE QY):=⟨rfl,rfl,rfl,by decide +kernel,rfl,by decide +kernel,by decide +kernel⟩
theorem uF {f:Addr} {fd:FuncData} (F:Fun K "__init__" "PlainLock.__init__" QY f fd) (T:Txt K mg cP cB cU cR cN tkS jX jW j4 j3 jZ j0 jY) : FnOk P w K mg base jP 1 f fd ["self","name","high","low","room"] (bC (jM cP cB cU)):=by
 refine F.ok xM (fun vs H Q E h=>?_) (fun cdv A outer s H vs Q E hr h=>?_)
 ·obtain ⟨kd,x,dx,n,h₁,l,r,rfl,hx,q⟩:=h
  rfl
 obtain ⟨kd,x,dx,n,h₁,l,r,rfl,hx,q⟩:=h
 have hu:_<cLine:=hr.units0
 have hu1:=j6 hr
 refine ⟨_,(@jG _ _ _ _ _ (v8 (pv 0) (pv 1) rfl)
   (@jG _ _ _ _ _ (v8 (pv 0) (pv 2) rfl)
   (@jG _ _ _ _ _ (v8 (pv 0) (pv 3) rfl)
   (@jF _ _ _ (v8 (pv 0) (pv 4) rfl))))),?_⟩
 refine ⟨_,rfl,_,rfl,x,_,dx,_,rfl,hx,T.cl kd,T.n_name kd,(by show 0<1000;decide),?_⟩
 refine ⟨_,rfl,_,rfl,x,_,dx,_,rfl,jD,T.cl kd,T.n_high kd,(by show 1<1000;decide),?_⟩
 refine ⟨_,rfl,_,rfl,x,_,dx,_,rfl,jD,T.cl kd,T.n_low kd,?_,?_⟩
 ·have:=zD "high" h₁ (jR "name" n [])
  have h2:(jR ("name":Str) n []).length=1:=rfl
  omega
 refine ⟨_,rfl,_,rfl,x,_,dx,_,rfl,jD,T.cl kd,T.n_room kd,?_,?_⟩
 ·have:=zD "low" l (jR "high" h₁ (jR "name" n []))
  have h1:=zD "high" h₁ (jR "name" n [])
  have h2:(jR ("name":Str) n []).length=1:=rfl
  omega
 exact q _ (((((Keep.refl x H).upd _).upd _).upd _).upd _) jD
theorem xE:FnScope ["self","name","high","low","room","side"] ["self","name","high","low","room","side"] (jE QS):=⟨rfl,rfl,rfl,by decide +kernel,rfl,by decide +kernel,by decide +kernel⟩
theorem t5 {f:Addr} {fd:FuncData} (F:Fun K "__init__" "BasinLock.__init__" QS f fd) (T:Txt K mg cP cB cU cR cN tkS jX jW j4 j3 jZ j0 jY) (CM_PlainLock___init__:CmD P w K mg base 1 "PlainLock" cP "__init__" ["self","name","high","low","room"] (bC (jM cP cB cU))):FnOk P w K mg base jP 2 f fd ["self","name","high","low","room","side"] (bB (jM cP cB cU) .basin):=by
 refine F.ok xE (fun vs H Q E h=>?_) (fun cdv A outer s H vs Q E hr h=>?_)
 ·obtain ⟨x,dx,n,h₁,l,r,v,rfl,hx,q⟩:=h
  rfl
 obtain ⟨x,dx,n,h₁,l,r,v,rfl,hx,q⟩:=h
 have hu:_<cLine:=hr.units0
 have hu1:=j6 hr
 refine ⟨_,(@jG _ _ _ _ _ (qH (rN CM_PlainLock___init__ hr rfl (@jA _ _ _ _ _ (pv 0) (@jA _ _ _ _ _ (pv 1) (@jA _ _ _ _ _ (pv 2) (@jA _ _ _ _ _ (pv 3) (@jA _ _ _ _ _ (pv 4) jC (by rfl)) (by rfl)) (by rfl)) (by rfl)) (by rfl))))
   (@jF _ _ _ (v8 (pv 0) (pv 5) rfl))),?_⟩
 refine ⟨_,rfl,_,rfl,_,rfl,_,rfl,_,rfl,.basin,x,dx,n,h₁,l,r,rfl,hx,fun H' kp hx'=>?_⟩
 refine ⟨_,rfl,_,rfl,x,_,dx,_,rfl,hx',T.cl .basin,T.n_side,nN _ _ _ _,?_⟩
 exact q _ (kp.upd _) jD
theorem xP:FnScope ["self","name","high","low","room","lift"] ["self","name","high","low","room","lift"] (jE Q1):=⟨rfl,rfl,rfl,by decide +kernel,rfl,by decide +kernel,by decide +kernel⟩
theorem uI {f:Addr} {fd:FuncData} (F:Fun K "__init__" "PumpLock.__init__" Q1 f fd) (T:Txt K mg cP cB cU cR cN tkS jX jW j4 j3 jZ j0 jY) (CM_PlainLock___init__:CmD P w K mg base 1 "PlainLock" cP "__init__" ["self","name","high","low","room"] (bC (jM cP cB cU))):FnOk P w K mg base jP 2 f fd ["self","name","high","low","room","lift"] (bB (jM cP cB cU) .pump):=by
 refine F.ok xP (fun vs H Q E h=>?_) (fun cdv A outer s H vs Q E hr h=>?_)
 ·obtain ⟨x,dx,n,h₁,l,r,v,rfl,hx,q⟩:=h
  rfl
 obtain ⟨x,dx,n,h₁,l,r,v,rfl,hx,q⟩:=h
 have hu:_<cLine:=hr.units0
 have hu1:=j6 hr
 refine ⟨_,(@jG _ _ _ _ _ (qH (rN CM_PlainLock___init__ hr rfl (@jA _ _ _ _ _ (pv 0) (@jA _ _ _ _ _ (pv 1) (@jA _ _ _ _ _ (pv 2) (@jA _ _ _ _ _ (pv 3) (@jA _ _ _ _ _ (pv 4) jC (by rfl)) (by rfl)) (by rfl)) (by rfl)) (by rfl))))
   (@jF _ _ _ (v8 (pv 0) (pv 5) rfl))),?_⟩
 refine ⟨_,rfl,_,rfl,_,rfl,_,rfl,_,rfl,.pump,x,dx,n,h₁,l,r,rfl,hx,fun H' kp hx'=>?_⟩
 refine ⟨_,rfl,_,rfl,x,_,dx,_,rfl,hx',T.cl .pump,T.n_lift,nN _ _ _ _,?_⟩
 exact q _ (kp.upd _) jD
theorem xS:FnScope ["self","name","least","crest","berths","water","target"] ["self","name","least","crest","berths","water","target"] (jE Q4):=⟨rfl,rfl,rfl,by decide +kernel,rfl,by decide +kernel,by decide +kernel⟩
theorem uL {f:Addr} {fd:FuncData} (F:Fun K "__init__" "Reach.__init__" Q4 f fd) (T:Txt K mg cP cB cU cR cN tkS jX jW j4 j3 jZ j0 jY) : FnOk P w K mg base jP 1 f fd ["self","name","least","crest","berths","water","target"] (gN cR):=by
 refine F.ok xS (fun vs H Q E h=>?_) (fun cdv A outer s H vs Q E hr h=>?_)
 ·obtain ⟨x,dx,v_name,v_least,v_crest,v_berths,v_water,v_target,rfl,hx,q⟩:=h
  rfl
 obtain ⟨x,dx,v_name,v_least,v_crest,v_berths,v_water,v_target,rfl,hx,q⟩:=h
 have hu:_<cLine:=hr.units0
 have hu1:=j6 hr
 refine ⟨_,(@jG _ _ _ _ _ (v8 (pv 0) (pv 1) rfl)
   (@jG _ _ _ _ _ (v8 (pv 0) (pv 2) rfl)
   (@jG _ _ _ _ _ (v8 (pv 0) (pv 3) rfl)
   (@jG _ _ _ _ _ (v8 (pv 0) (pv 4) rfl)
   (@jG _ _ _ _ _ (v8 (pv 0) (pv 5) rfl)
   (@jF _ _ _ (v8 (pv 0) (pv 6) rfl))))))),?_⟩
 have ln:∀(f:Str) (z:V) (fs:List (Str×V)) (m:Nat),fs.length≤m→(jR f z fs).length≤m+1:=fun f z fs m h=>Nat.le_trans (zD f z fs) (by omega)
 have l0:([]:List (Str×V)).length≤0:=Nat.le_refl _
 refine ⟨_,rfl,_,rfl,x,cR,dx,_,rfl,hx,T.clR,T.nR_name,by omega,?_⟩
 have l1:=ln "name" v_name _ _ l0
 refine ⟨_,rfl,_,rfl,x,cR,dx,_,rfl,jD,T.clR,T.nR_least,by omega,?_⟩
 have l2:=ln "least" v_least _ _ l1
 refine ⟨_,rfl,_,rfl,x,cR,dx,_,rfl,jD,T.clR,T.nR_crest,by omega,?_⟩
 have l3:=ln "crest" v_crest _ _ l2
 refine ⟨_,rfl,_,rfl,x,cR,dx,_,rfl,jD,T.clR,T.nR_berths,by omega,?_⟩
 have l4:=ln "berths" v_berths _ _ l3
 refine ⟨_,rfl,_,rfl,x,cR,dx,_,rfl,jD,T.clR,T.nR_water,by omega,?_⟩
 have l5:=ln "water" v_water _ _ l4
 refine ⟨_,rfl,_,rfl,x,cR,dx,_,rfl,jD,T.clR,T.nR_target,by omega,?_⟩
 have l6:=ln "target" v_target _ _ l5
 exact q _ _ (((((((Keep.refl x H).upd _).upd _).upd _).upd _).upd _).upd _) jD (CT _ _ _ _ _ _)
theorem cA:FnScope ["waters","pours","held","source","target","amount"] ["waters","pours"] (jE ZR):=⟨rfl,rfl,rfl,by decide +kernel,rfl,by decide +kernel,by decide +kernel⟩
theorem wP {f:Addr} {fd:FuncData} (F:Fun K "poured_all" "poured_all" ZR f fd) (T:Txt K mg cP cB cU cR cN tkS jX jW j4 j3 jZ j0 jY) : FnOk P w K mg base jP 1 f fd ["waters","pours"] (sY K):=by
 refine F.ok cA (fun vs H Q E h=>?_) (fun cdv A outer s H vs Q E hr h=>?_)
 ·obtain ⟨w,p,ws,rs,qs,rfl,hW,hP,hA,hn,q⟩:=h
  rfl
 obtain ⟨w,p,ws,rs,qs,rfl,hW,hP,hA,hn,q⟩:=h
 have hu:_<cLine:=hr.units0
 have hu1:=j6 hr
 refine ⟨_,(@jG _ _ _ _ _ (jV (i:=2) cA.nd rfl (by first|exact Or.inl rfl|exact Or.inr rfl) (q8 Z3 (by rfl) T.z_list PyProof.Rows.boot_list (jA (pv 0) jC)))
   (@jG _ _ _ _ _ (vE PassesOwn.never rfl (qC (pv 1)) (bH rfl (v4 (kF (i:=3) cA.nd rfl (by first|exact Or.inl rfl|exact Or.inr rfl)) (v4 (kF (i:=4) cA.nd rfl (by first|exact Or.inl rfl|exact Or.inr rfl)) (v4 (kF (i:=5) cA.nd rfl (by first|exact Or.inl rfl|exact Or.inr rfl)) bD))))
    (@jG _ _ _ _ _ (iY (pv 2) (pv 3) iT (pv 5) HY zR)
   (@jF _ _ _ (iY (pv 2) (pv 4) iT (pv 5) sQ zR))))
   (@jF _ _ _ (@jO _ _ _ _ (q8 AS (by rfl) T.z_tuple PyProof.Rows.boot_tuple (jA (pv 2) jC)))))),?_⟩
 refine ⟨_,rfl,w,_,rfl,hW,fun l hl=>?_⟩
 have s0:Same H (upd H l (.lst (ws.map V.int))):=jK hl _
 refine ⟨_,rfl,p,rfl,⟨rs,s0.seq hP⟩,bA (K:=K) (a:=p) (xs:=rs) (fun i σ Hi=>∃c3 c4 c5,σ=[some (.ref w),some (.ref p),some (.ref l),c3,c4,c5]∧Hi l=some (.lst ((v7 ws (qs.take i)).map V.int))∧Same H Hi)
  ⟨none,none,none,rfl,jD,s0⟩ (fun i σ Hi _ ⟨_,_,_,_,_,s⟩=>s.seq hP) ?_ ?_⟩
 ·rintro i x σ Hi hx ⟨c3,c4,c5,rfl,hH,sm⟩
  obtain ⟨a,s,t,m,rfl,hq,hT,hs,ht⟩:=hA.2 i x hx
  have e0:(v7 ws (qs.take i)).length=ws.length:=gH _ _
  refine ⟨a,_,rfl,fJ sm hT,rfl,_,_,rfl,_,_,rfl,_,_,rfl,rfl,?_⟩
  refine ⟨_,rfl,_,rfl,_,_,_,_,rfl,rfl,SqL.of hH,zS (by rw [e0];exact hs),_,rfl,_,_,rfl,rfl,_,_,_,_,rfl,rfl,hH,bE (by rw [List.length_map,e0];exact hs),?_⟩
  try dsimp only
  rw [d7]
  refine ⟨_,rfl,_,rfl,_,_,_,_,rfl,rfl,SqL.of jD,zS (by rw [List.length_set,e0];exact ht),_,rfl,_,_,rfl,rfl,_,_,_,_,rfl,rfl,jD,bE (by rw [List.length_map,List.length_set,e0];exact ht),?_⟩
  try dsimp only
  rw [d7]
  refine ⟨_,_,_,rfl,?_,kU hl (kU hl sm)⟩
  rw [jD,BA ws qs i _ hq]
  rfl
 ·rintro σ Hi ⟨c3,c4,c5,rfl,hH,sm⟩
  refine ⟨_,rfl,_,_,rfl,.inl ⟨SqL.of hH,fun r hr=>?_⟩⟩
  refine q r _ (kU (sm.free hr) sm) (sm.free hr) ?_
  rw [jD,hA.1,List.take_length]
theorem mG:FnScope ["weirs","waters","at","crest"] ["weirs","waters","at"] (jE ZP):=⟨rfl,rfl,rfl,by decide +kernel,rfl,by decide +kernel,by decide +kernel⟩
theorem wN {f:Addr} {fd:FuncData} (F:Fun K "over" "over" ZP f fd) (T:Txt K mg cP cB cU cR cN tkS jX jW j4 j3 jZ j0 jY) : FnOk P w K mg base jP 1 f fd ["weirs","waters","at"] (sJ K):=by
 refine F.ok mG (fun vs H Q E h=>?_) (fun cdv A outer s H vs Q E hr h=>?_)
 ·obtain ⟨wq,wa,rs,ws,n,ms,i₁,rfl,hW,hA,hM,h1,h2,q⟩:=h
  rfl
 obtain ⟨wq,wa,rs,ws,n,ms,i₁,rfl,hW,hA,hM,h1,h2,q⟩:=h
 have hu:_<cLine:=hr.units0
 have hu1:=j6 hr
 refine ⟨_,(@jG _ _ _ _ _ (jV (i:=3) mG.nd rfl (by first|exact Or.inl rfl|exact Or.inr rfl) (jI ix_tup (jI jN (pv 0) (pv 2) (fun _ _=>rfl)) jB (fun _ _=>rfl)))
   (@jF _ _ _ (@jO _ _ _ _ (kA (iK rfl) (by rfl) T.z_max PyProof.Rows.boot_max (jA jB (jA (@jH _ _ _ _ _ _ _ _ yM (jI fH (pv 1) (pv 2) (fun _ _=>rfl)) (pv 3)) jC)))))),?_⟩
 obtain ⟨ta,hat,hT,_⟩:=eE hA h1
 refine ⟨_,rfl,_,rfl,wq,_,_,_,rfl,rfl,hW,hat,ta,_,_,_,rfl,rfl,hT,rfl,?_⟩
 refine ⟨_,rfl,_,rfl,eP hM h2 ?_⟩
 exact ⟨_,rfl,_,_,rfl,rfl,_,_,rfl,q⟩
theorem x6:FnScope ["weirs"] ["weirs"] (jE ZJ):=⟨rfl,rfl,rfl,by decide +kernel,rfl,by decide +kernel,by decide +kernel⟩
theorem wE {f:Addr} {fd:FuncData} (F:Fun K "last_first" "last_first" ZJ f fd) (T:Txt K mg cP cB cU cR cN tkS jX jW j4 j3 jZ j0 jY) : FnOk P w K mg base jP 1 f fd ["weirs"] (lD K):=by
 refine F.ok x6 (fun vs H Q E h=>?_) (fun cdv A outer s H vs Q E hr h=>?_)
 ·obtain ⟨wq,rs,rfl,hW,hn,q⟩:=h
  rfl
 obtain ⟨wq,rs,rfl,hW,hn,q⟩:=h
 have hu:_<cLine:=hr.units0
 have hu1:=j6 hr
 refine ⟨_,(@jF _ _ _ (@jO _ _ _ _ (q8 (AV rfl) (by rfl) T.z_list PyProof.Rows.boot_list (jA (q8 BQ (by rfl) T.z_range PyProof.Rows.boot_range (@jA _ _ _ _ _ (@jH _ _ _ _ _ _ _ _ yM (kA kQ (by rfl) T.z_len PySem.boot_len (jA (pv 0) jC)) jB) (@jA _ _ _ _ _ (fL fA jB) (@jA _ _ _ _ _ (fL fA jB) jC (by rfl)) (by rfl)) (by rfl))) jC)))),?_⟩
 refine ⟨_,rfl,wq,_,rfl,.inl hW,_,_,rfl,rfl,_,rfl,_,rfl,_,_,_,rfl,(by decide),(by decide),fun p hp=>?_⟩
 refine ⟨p,_,_,_,rs.length,rfl,jD,CP hn,oW _,hn,fun l hl=>?_⟩
 refine q l _ ((jK hp _).trans (jK hl _)) ((jK hp _).free hl) ?_
 rw [jD]
 exact congrArg (fun x=>some (HO.lst x)) (CO rs.length)
theorem d0:FnScope ["weirs","waters","held","given","at"] ["weirs","waters"] (jE ZY):=⟨rfl,rfl,rfl,by decide +kernel,rfl,by decide +kernel,by decide +kernel⟩
theorem xA {f:Addr} {fd:FuncData} (F:Fun K "spills" "spills" ZY f fd) (T:Txt K mg cP cB cU cR cN tkS jX jW j4 j3 jZ j0 jY) (D_last_first:Def P w K mg base 1 "last_first" ["weirs"] [] (lD K)) (D_over:Def P w K mg base 1 "over" ["weirs","waters","at"] [] (sJ K)):FnOk P w K mg base jP 2 f fd ["weirs","waters"] (pC K):=by
 refine F.ok d0 (fun vs H Q E h=>?_) (fun cdv A outer s H vs Q E hr h=>?_)
 ·obtain ⟨wq,wa,rs,ws,ms,rfl,hRd,q⟩:=h
  rfl
 obtain ⟨wq,wa,rs,ws,ms,rfl,hRd,q⟩:=h
 have hu:_<cLine:=hr.units0
 have hu1:=j6 hr
 refine ⟨_,(@jG _ _ _ _ _ (jV (i:=2) d0.nd rfl (by first|exact Or.inl rfl|exact Or.inr rfl) (q8 Z3 (by rfl) T.z_list PyProof.Rows.boot_list (jA (pv 1) jC)))
   (@jG _ _ _ _ _ (jV (i:=3) d0.nd rfl (by first|exact Or.inl rfl|exact Or.inr rfl) (@jH _ _ _ _ _ _ _ _ lG (kR (jA jB jC)) (kA kQ (by rfl) T.z_len PySem.boot_len (jA (pv 0) jC))))
   (@jG _ _ _ _ _ (vE PassesOwn.never rfl (qC (jU D_last_first hr rfl (jA (pv 0) jC))) (kF (i:=4) d0.nd rfl (by first|exact Or.inl rfl|exact Or.inr rfl))
    (@jG _ _ _ _ _ (bG (jU D_over hr rfl (@jA _ _ _ _ _ (pv 0) (@jA _ _ _ _ _ (pv 2) (@jA _ _ _ _ _ (pv 4) jC (by rfl)) (by rfl)) (by rfl))) (bI (pv 3) (pv 4) zR))
   (@jF _ _ _ (iY (pv 2) (jI ix_tup (jI jN (pv 0) (pv 4) (fun _ _=>rfl)) jB (fun _ _=>rfl)) iT (jI jN (pv 3) (pv 4) (fun _ _=>rfl)) sQ zR))))
   (@jF _ _ _ (@jO _ _ _ _ (pv 3)))))),?_⟩
 obtain ⟨hW,hA,hM,hAh,hRn,hn⟩:=id hRd
 have hAF:=o8 hAh
 refine ⟨_,rfl,wa,_,rfl,hM,fun hl hhl=>?_⟩
 have t1:=jK hhl (.lst (ms.map V.int))
 refine ⟨zz1,fun lp hlp=>?_⟩
 have t2:=jK hlp (.lst [V.int 0])
 refine ⟨_,rfl,wq,_,rfl,.inl ((t1.trans t2).seq hW),lp,_,_,rfl,rfl,jD,by omega,by rw [hA.1];omega,?_,fun gp hgp=>?_⟩
 ·rw [Int.toNat_natCast,List.length_singleton,Nat.one_mul,hA.1]
  exact small (by omega)
 rw [Int.toNat_natCast,pN,hA.1]
 have t3:=jK hgp (.lst ((List.replicate ws.length (0:Int)).map V.int))
 have u3:=(t1.trans t2).trans t3
 have hlp':hl≠gp:=kE (t2 _ _ jD) hgp
 refine ⟨_,rfl,wq,rs,rfl,u3.seq hW,by rw [hA.1];omega,fun df H1 s1 hdf0 hdf=>?_⟩
 have hl1:=s1 _ _ (t3 _ _ (t2 _ _ (jD:upd H hl (.lst (ms.map V.int)) hl=_)))
 have gp1:=s1 _ _ (jD:upd _ gp (.lst ((List.replicate ws.length (0:Int)).map V.int)) gp=_)
 have dhl:hl≠df:=kE (t3 _ _ (t2 _ _ jD)) hdf0
 have dgp:gp≠df:=kE jD hdf0
 have gf:H gp=none:=(t1.trans t2).free hgp
 refine ⟨df,rfl,⟨_,SqL.of hdf⟩,bA (K:=K) (a:=df) (xs:=(yG rs.length).map fun (i:Nat)=>V.int (i:Int)) (fun k σ Hi=>∃(hs gs:List Int) (c:Option V),σ=[some (.ref wq),some (.ref wa),some (.ref hl),some (.ref gp),c]∧Hi hl=some (.lst (hs.map V.int))∧Hi gp=some (.lst (gs.map V.int))∧
   Hi df=some (.lst ((yG rs.length).map fun (i:Nat)=>V.int (i:Int)))∧SplInv ws ms hs gs k∧Same H Hi)
  ⟨ms,List.replicate ws.length 0,none,rfl,hl1,gp1,hdf,SplInv.start ws ms,u3.trans s1⟩ (fun i σ Hi _ ⟨_,_,_,_,_,_,hd,_⟩=>SqL.of hd) ?_ ?_⟩
 ·rintro k x σ Hi hx ⟨hs,gs,c,rfl,hH,hG,hD,hI,sm⟩
  obtain ⟨hk,rfl⟩:=p8 hx
  rw [hA.1] at hk ⊢
  obtain ⟨i₁,hi₁⟩:∃i,i=ws.length - 1 - k:=⟨_,rfl⟩
  have hi:i₁<ws.length:=by omega
  have hst:=hI.step hAF hRn hk (by rw [← hi₁];exact nU hA i₁ hi)
  rw [← hi₁] at hst ⊢
  obtain ⟨ta,hat,hT,ht⟩:=eE (hA.same sm) hi
  have hAl:WeirsAt K Hi rs ws hs.length:=by rw [hI.lh];exact hA.same sm
  refine ⟨_,rfl,_,rfl,_,rfl,wq,hl,rs,ws,_,hs,i₁,rfl,sm.seq hW,hAl,.inl (SqL.of hH),hi,by rw [hI.lh];omega,?_⟩
  refine ⟨_,rfl,_,rfl,gp,_,_,_,rfl,rfl,hG,bE (by rw [List.length_map,hI.lg];exact hi),?_⟩
  rw [d7]
  have k1:∀o,Keep gp Hi (upd Hi gp o):=fun o=>(Keep.refl gp Hi).upd o
  have sG:∀o,Same H (upd Hi gp o):=fun o=>kU gf sm
  have hH':∀o,upd Hi gp o hl=some (.lst (hs.map V.int)):=fun o=>(k1 o) hl _ hlp' hH
  refine ⟨_,rfl,_,rfl,_,rfl,wq,_,_,_,rfl,rfl,(sG _).seq hW,hat,ta,_,_,_,rfl,rfl,(k1 _).sqt hG hT,rfl,hl,_,_,_,rfl,rfl,SqL.of (hH' _),zS (by rw [hI.lh];exact ht),_,rfl,_,rfl,gp,_,_,_,rfl,rfl,SqL.of jD,zS (by rw [List.length_set,hI.lg];exact hi),_,_,rfl,rfl,hl,_,_,_,rfl,rfl,hH' _,bE (by rw [List.length_map,hI.lh];exact ht),?_⟩
  rw [d7]
  refine ⟨_,_,_,rfl,jD,?_,?_,hst,kU hhl (sG _)⟩
  ·rw [kC (Ne.symm hlp'),jD]
  ·rw [kC (Ne.symm dhl),kC (Ne.symm dgp),hD,hA.1]
 ·rintro σ Hi ⟨hs,gs,c,rfl,hH,hG,hD,hI,sm⟩
  rw [List.length_map,d5,hA.1] at hI
  refine ⟨_,rfl,?_⟩
  exact q gp Hi gs sm gf hG hI.spl
theorem mI:FnScope ["weirs","waters","given"] ["weirs","waters"] (jE J8):=⟨rfl,rfl,rfl,by decide +kernel,rfl,by decide +kernel,by decide +kernel⟩
theorem w9 {f:Addr} {fd:FuncData} (F:Fun K "spill_pours" "spill_pours" J8 f fd) (T:Txt K mg cP cB cU cR cN tkS jX jW j4 j3 jZ j0 jY) (D_spills:Def P w K mg base 2 "spills" ["weirs","waters"] [] (pC K)) (D_last_first:Def P w K mg base 1 "last_first" ["weirs"] [] (lD K)):FnOk P w K mg base jP 3 f fd ["weirs","waters"] (pD K):=by
 refine F.ok mI (fun vs H Q E h=>?_) (fun cdv A outer s H vs Q E hr h=>?_)
 ·obtain ⟨wq,wa,rs,ws,ms,rfl,hRd,q⟩:=h
  rfl
 obtain ⟨wq,wa,rs,ws,ms,rfl,hRd,q⟩:=h
 have hu:_<cLine:=hr.units0
 have hu1:=j6 hr
 refine ⟨_,(@jG _ _ _ _ _ (jV (i:=2) mI.nd rfl (by first|exact Or.inl rfl|exact Or.inr rfl) (jU D_spills hr rfl (jA (pv 0) (jA (pv 1) jC))))
   (@jF _ _ _ (@jO _ _ _ _ (vD ["at","given","weirs"] (qB 1 [2,0]) rfl (qK (jE J8) rfl rfl (by decide +kernel) (by decide +kernel) (by decide +kernel)) (qI 1 [2,0] rfl rfl (by decide +kernel)) (qC (jU D_last_first hr rfl (jA (pv 0) jC))) (fun _ _ _ _ _=>(kF (i:=0) (show List.Nodup (["at","given","weirs"]:List Str) from by decide +kernel) rfl (by first|exact Or.inl rfl|exact Or.inr rfl))) (fun _ _ _ _ _=>(eY (j5 qQ (jI (iS K) (pv 1) (pv 0) (fun _ _=>rfl)) jB (jT _)))) (fun _ _ _ _ _=>(yF (@jA _ _ _ _ _ (pv 0) (@jA _ _ _ _ _ (jI (i8 K) (jI (iS K) (pv 2) (pv 0) (fun _ _=>rfl)) jB (fun _ _=>rfl)) (@jA _ _ _ _ _ (jI (iS K) (pv 1) (pv 0) (fun _ _=>rfl)) jC (by rfl)) (by rfl)) (by rfl)))))))),?_⟩
 refine ⟨_,rfl,_,rfl,wq,wa,rs,ws,ms,rfl,hRd,fun gp H1 gs s1 hgp0 hgp hS=>?_⟩
 obtain ⟨hW,hA,hM,hAh,hRn,hn⟩:=hRd.same s1
 refine ⟨_,rfl,wq,rs,rfl,hW,by rw [hA.1];omega,fun df H2 s2 hdf0 hdf=>?_⟩
 refine ⟨df,rfl,⟨_,SqL.of hdf⟩,fun D hD=>?_⟩
 refine qT (K:=K) (a:=df) (xs:=(yG rs.length).map fun (i:Nat)=>V.int (i:Int)) (caps:=[some (.ref gp),some (.ref wq)]) (fun i ys Hi=>PoursH Hi ys (((zU (kY ws) (fun a=>gs.getD a 0) ws.length).take i).filter yQ) ms.length) hD (SqL.of hdf) (PoursH.nil _ _) ?_ ?_
 ·rintro i x ys Hi hx hi hle sm hY hR
  obtain ⟨hk,rfl⟩:=p8 hx
  rw [hA.1] at hk ⊢
  obtain ⟨i₁,hi₁⟩:∃i',i'=ws.length - 1 - i:=⟨_,rfl⟩
  have hi':i₁<ws.length:=by omega
  rw [← hi₁]
  have s12:=s2.trans sm
  obtain ⟨ta,hat,hT,ht⟩:=eE (hA.same s12) hi'
  have ef:((zU (kY ws) (fun a=>gs.getD a 0) ws.length).take (i+1)).filter yQ=((zU (kY ws) (fun a=>gs.getD a 0) ws.length).take i).filter yQ++[(i₁,kY ws i₁,gs.getD i₁ 0)].filter yQ:=by
   rw [List.take_add_one,BK hk,← hi₁,List.filter_append]
   rfl
  refine ⟨_,rfl,_,rfl,gp,_,_,_,rfl,rfl,SqL.of (s12 _ _ hgp),zS (by rw [hS.1];exact hi'),rfl,_,rfl,?_⟩
  by_cases hz:gs.getD i₁ 0=0
  ·refine kZ (congrArg V.int hz) (Z7 sm hY hle (Same.refl _) ?_)
   rw [ef,List.filter_cons,if_neg (by unfold yQ;rw [decide_eq_true (show gs.getD i₁ 0=0 from hz)];decide)]
   show PoursH Hi ys (_++[]) _
   rw [List.append_nil]
   exact hR
  refine QJ (fun e=>hz (V.int.inj e)) ?_
  refine ⟨_,rfl,_,rfl,_,rfl,wq,_,_,_,rfl,rfl,s12.seq hW,hat,ta,_,_,_,rfl,rfl,hT,rfl,_,rfl,_,rfl,gp,_,_,_,rfl,rfl,SqL.of (s12 _ _ hgp),zS (by rw [hS.1];exact hi'),zz3,fun tp htp=>?_⟩
  have st:=jK htp (.tup [.int (i₁:Int),.int (kY ws i₁:Int),.int (gs.getD i₁ 0)])
  refine qL hD sm hY hle (by omega) st ?_
  rw [ef,List.filter_cons,if_pos (by unfold yQ;rw [decide_eq_false (show ¬gs.getD i₁ 0=0 from hz)];rfl)]
  exact ((hR.same st).snoc jD (by omega) ht).put (st _ _ hY)
 ·intro ys Hf sm hY hle hR
  rw [List.length_map,d5,hA.1,List.take_of_length_le (by unfold zU;rw [List.length_map,d5];exact Nat.le_refl _)] at hR
  have s12:=s2.trans sm
  exact q D Hf gs ys (s1.trans s12) ((s1.trans s2).free hD) hY hR hS
theorem AI:FnScope ["weirs","waters"] ["weirs","waters"] (jE ZX):=⟨rfl,rfl,rfl,by decide +kernel,rfl,by decide +kernel,by decide +kernel⟩
theorem wZ {f:Addr} {fd:FuncData} (F:Fun K "settled" "settled" ZX f fd) (T:Txt K mg cP cB cU cR cN tkS jX jW j4 j3 jZ j0 jY) (D_poured_all:Def P w K mg base 1 "poured_all" ["waters","pours"] [] (sY K)) (D_spill_pours:Def P w K mg base 3 "spill_pours" ["weirs","waters"] [] (pD K)):FnOk P w K mg base jP 4 f fd ["weirs","waters"] (n0 K):=by
 refine F.ok AI (fun vs H Q E h=>?_) (fun cdv A outer s H vs Q E hr h=>?_)
 ·obtain ⟨wq,wa,rs,ws,ms,rfl,hRd,q⟩:=h
  rfl
 obtain ⟨wq,wa,rs,ws,ms,rfl,hRd,q⟩:=h
 have hu:_<cLine:=hr.units0
 have hu1:=j6 hr
 refine ⟨_,(@jF _ _ _ (@jO _ _ _ _ (jU D_poured_all hr rfl (jA (pv 1) (jA (jU D_spill_pours hr rfl (jA (pv 0) (jA (pv 1) jC))) jC))))),?_⟩
 obtain ⟨hW,hA,hM,hAh,hRn,hn⟩:=id hRd
 refine ⟨_,rfl,_,rfl,_,rfl,wq,wa,rs,ws,ms,rfl,hRd,fun p H1 gs ys s1 hp0 hp hP hS=>?_⟩
 refine ⟨wa,p,ms,ys,_,rfl,hM.same s1,SqL.of hp,hP.pa,hn,fun r H' s' hr0 hr=>?_⟩
 rw [B3 (BZ hRn (nU hA))] at hr
 exact q r H' gs (s1.trans s') (s1.free hr0) hr hS
theorem xO:FnScope ["self"] ["self"] (jE Q0):=⟨rfl,rfl,rfl,by decide +kernel,rfl,by decide +kernel,by decide +kernel⟩
theorem uH {f:Addr} {fd:FuncData} (F:Fun K "kind" "PlainLock.kind" Q0 f fd) (T:Txt K mg cP cB cU cR cN tkS jX jW j4 j3 jZ j0 jY) : FnOk P w K mg base jP 1 f fd ["self"] (vA (jM cP cB cU) (fun kd _=>V.str (match kd with|.plain=>"plain"|.basin=>"basin"|.pump=>"pump")) .plain):=by
 refine F.ok xO (fun vs H Q E h=>?_) (fun cdv A outer s H vs Q E hr h=>?_)
 ·obtain ⟨x,n,h₁,l,room,v,rfl,⟨dx,hx⟩,q⟩:=h
  rfl
 obtain ⟨x,n,h₁,l,room,v,rfl,⟨dx,hx⟩,q⟩:=h
 have hu:_<cLine:=hr.units0
 have hu1:=j6 hr
 refine ⟨_,(@jF _ _ _ (@jO _ _ _ _ j7)),?_⟩
 exact q
theorem xG:FnScope ["self"] ["self"] (jE QU):=⟨rfl,rfl,rfl,by decide +kernel,rfl,by decide +kernel,by decide +kernel⟩
theorem t7 {f:Addr} {fd:FuncData} (F:Fun K "kind" "BasinLock.kind" QU f fd) (T:Txt K mg cP cB cU cR cN tkS jX jW j4 j3 jZ j0 jY) : FnOk P w K mg base jP 1 f fd ["self"] (vA (jM cP cB cU) (fun kd _=>V.str (match kd with|.plain=>"plain"|.basin=>"basin"|.pump=>"pump")) .basin):=by
 refine F.ok xG (fun vs H Q E h=>?_) (fun cdv A outer s H vs Q E hr h=>?_)
 ·obtain ⟨x,n,h₁,l,room,v,rfl,⟨dx,hx⟩,q⟩:=h
  rfl
 obtain ⟨x,n,h₁,l,room,v,rfl,⟨dx,hx⟩,q⟩:=h
 have hu:_<cLine:=hr.units0
 have hu1:=j6 hr
 refine ⟨_,(@jF _ _ _ (@jO _ _ _ _ j7)),?_⟩
 exact q
theorem xR:FnScope ["self"] ["self"] (jE Q3):=⟨rfl,rfl,rfl,by decide +kernel,rfl,by decide +kernel,by decide +kernel⟩
theorem uK {f:Addr} {fd:FuncData} (F:Fun K "kind" "PumpLock.kind" Q3 f fd) (T:Txt K mg cP cB cU cR cN tkS jX jW j4 j3 jZ j0 jY) : FnOk P w K mg base jP 1 f fd ["self"] (vA (jM cP cB cU) (fun kd _=>V.str (match kd with|.plain=>"plain"|.basin=>"basin"|.pump=>"pump")) .pump):=by
 refine F.ok xR (fun vs H Q E h=>?_) (fun cdv A outer s H vs Q E hr h=>?_)
 ·obtain ⟨x,n,h₁,l,room,v,rfl,⟨dx,hx⟩,q⟩:=h
  rfl
 obtain ⟨x,n,h₁,l,room,v,rfl,⟨dx,hx⟩,q⟩:=h
 have hu:_<cLine:=hr.units0
 have hu1:=j6 hr
 refine ⟨_,(@jF _ _ _ (@jO _ _ _ _ j7)),?_⟩
 exact q
theorem xN:FnScope ["self"] ["self"] (jE QZ):=⟨rfl,rfl,rfl,by decide +kernel,rfl,by decide +kernel,by decide +kernel⟩
theorem uG {f:Addr} {fd:FuncData} (F:Fun K "extra" "PlainLock.extra" QZ f fd) (T:Txt K mg cP cB cU cR cN tkS jX jW j4 j3 jZ j0 jY) : FnOk P w K mg base jP 1 f fd ["self"] (vA (jM cP cB cU) (fun kd v=>V.int (match kd with|.plain=>0|.basin=>v|.pump=>v)) .plain):=by
 refine F.ok xN (fun vs H Q E h=>?_) (fun cdv A outer s H vs Q E hr h=>?_)
 ·obtain ⟨x,n,h₁,l,room,v,rfl,⟨dx,hx⟩,q⟩:=h
  rfl
 obtain ⟨x,n,h₁,l,room,v,rfl,⟨dx,hx⟩,q⟩:=h
 have hu:_<cLine:=hr.units0
 have hu1:=j6 hr
 refine ⟨_,(@jF _ _ _ (@jO _ _ _ _ jB)),?_⟩
 exact q
theorem xF:FnScope ["self"] ["self"] (jE QT):=⟨rfl,rfl,rfl,by decide +kernel,rfl,by decide +kernel,by decide +kernel⟩
theorem t6 {f:Addr} {fd:FuncData} (F:Fun K "extra" "BasinLock.extra" QT f fd) (T:Txt K mg cP cB cU cR cN tkS jX jW j4 j3 jZ j0 jY) : FnOk P w K mg base jP 1 f fd ["self"] (vA (jM cP cB cU) (fun kd v=>V.int (match kd with|.plain=>0|.basin=>v|.pump=>v)) .basin):=by
 refine F.ok xF (fun vs H Q E h=>?_) (fun cdv A outer s H vs Q E hr h=>?_)
 ·obtain ⟨x,n,h₁,l,room,v,rfl,⟨dx,hx⟩,q⟩:=h
  rfl
 obtain ⟨x,n,h₁,l,room,v,rfl,⟨dx,hx⟩,q⟩:=h
 have hu:_<cLine:=hr.units0
 have hu1:=j6 hr
 refine ⟨_,(@jF _ _ _ (@jO _ _ _ _ (kB (pv 0) rfl))),?_⟩
 exact ⟨_,rfl,x,cB,dx,_,_,rfl,hx,T.cl .basin,T.n_side,rD _ _ _ _ _ _,q⟩
theorem xQ:FnScope ["self"] ["self"] (jE Q2):=⟨rfl,rfl,rfl,by decide +kernel,rfl,by decide +kernel,by decide +kernel⟩
theorem uJ {f:Addr} {fd:FuncData} (F:Fun K "extra" "PumpLock.extra" Q2 f fd) (T:Txt K mg cP cB cU cR cN tkS jX jW j4 j3 jZ j0 jY) : FnOk P w K mg base jP 1 f fd ["self"] (vA (jM cP cB cU) (fun kd v=>V.int (match kd with|.plain=>0|.basin=>v|.pump=>v)) .pump):=by
 refine F.ok xQ (fun vs H Q E h=>?_) (fun cdv A outer s H vs Q E hr h=>?_)
 ·obtain ⟨x,n,h₁,l,room,v,rfl,⟨dx,hx⟩,q⟩:=h
  rfl
 obtain ⟨x,n,h₁,l,room,v,rfl,⟨dx,hx⟩,q⟩:=h
 have hu:_<cLine:=hr.units0
 have hu1:=j6 hr
 refine ⟨_,(@jF _ _ _ (@jO _ _ _ _ (kB (pv 0) rfl))),?_⟩
 exact ⟨_,rfl,x,cU,dx,_,_,rfl,hx,T.cl .pump,T.n_lift,rD _ _ _ _ _ _,q⟩
theorem xH:FnScope ["self","reaches","locks","nights"] ["self","reaches","locks","nights"] (jE JT):=⟨rfl,rfl,rfl,by decide +kernel,rfl,by decide +kernel,by decide +kernel⟩
theorem t9 {f:Addr} {fd:FuncData} {ds:List Value} (F:FunD K "__init__" "Canal.__init__" JT f fd ds) (T:Txt K mg cP cB cU cR cN tkS jX jW j4 j3 jZ j0 jY) : FnOk P w K mg base jP 1 f fd ["self","reaches","locks","nights"] (gO (jM cP cB cU) cR cN):=by
 refine F.ok xH (fun vs H Q E h=>?_) (fun cdv A outer s H vs Q E hr h=>?_)
 ·obtain ⟨x,dx,rl,ll,nv,rs,ls,R,L,N,rfl,hx,hrl,hll,hR,hL,hN,q⟩:=h
  rfl
 obtain ⟨x,dx,rl,ll,nv,rs,ls,R,L,N,rfl,hx,hrl,hll,hR,hL,hN,q⟩:=h
 have hu:_<cLine:=hr.units0
 have hu1:=j6 hr
 refine ⟨_,(@jG _ _ _ _ _ (v8 (pv 0) (q8 Z3 (by rfl) T.z_list PyProof.Rows.boot_list (jA (pv 1) jC)) rfl)
   (@jG _ _ _ _ _ (v8 (pv 0) (q8 Z3 (by rfl) T.z_list PyProof.Rows.boot_list (jA (pv 2) jC)) rfl)
   (@jF _ _ _ (v8 (pv 0) (Z9 (j5 HN (pv 3) HK (jT _)) (kR jC) (vD ["night"] (qB 1 []) rfl (qK (jE JT) rfl rfl (by decide +kernel) (by decide +kernel) (by decide +kernel)) (qI 1 [] rfl rfl (by decide +kernel)) (qC (pv 3)) (fun _ _ _ _ _=>(kF (i:=0) (show List.Nodup (["night"]:List Str) from by decide +kernel) rfl (by first|exact Or.inl rfl|exact Or.inr rfl))) (fun _ _ _ _ _=>qU) (fun _ _ _ _ _=>(q8 (AW K) (by rfl) T.z_list PyProof.Rows.boot_list (jA (pv 0) jC))))) rfl)))),?_⟩
 have ln:∀(f:Str) (z:V) (fs:List (Str×V)) (m:Nat),fs.length≤m→(jR f z fs).length≤m+1:=fun f z fs m h=>Nat.le_trans (zD f z fs) (by omega)
 have nrx:rl≠x:=v9 hrl hx (fun z=>nomatch z)
 have nlx:ll≠x:=v9 hll hx (fun z=>nomatch z)
 refine ⟨_,rfl,rl,_,rfl,.inl (SqL.of hrl),fun r2 hr20=>?_⟩
 have s1:=jK hr20 (.lst rs)
 have nr2:r2≠x:=(kE hx hr20).symm
 refine ⟨_,rfl,x,cN,dx,_,rfl,s1 _ _ hx,T.clN,T.nN_reaches,(by show 0<1000;decide),?_⟩
 have k1:Keep x H (upd (upd H r2 (.lst rs)) x (.ins cN dx (jR "reaches" (.ref r2) []))):=(Keep.of s1).upd _
 have hr2:upd (upd H r2 (.lst rs)) x (.ins cN dx (jR "reaches" (.ref r2) [])) r2=some (.lst rs):=by rw [kC nr2];exact jD
 have hx1:upd (upd H r2 (.lst rs)) x (.ins cN dx (jR "reaches" (.ref r2) [])) x=some (.ins cN dx (jR "reaches" (.ref r2) [])):=jD
 generalize upd (upd H r2 (.lst rs)) x (.ins cN dx (jR "reaches" (.ref r2) []))=H1 at k1 hr2 hx1 ⊢
 have l1:=ln "reaches" (.ref r2) [] 0 (Nat.le_refl _)
 refine ⟨_,rfl,ll,_,rfl,.inl (SqL.of (k1 _ _ nlx hll)),fun l2 hl20=>?_⟩
 have s2:=jK hl20 (.lst ls)
 have nl2:l2≠x:=(kE hx1 hl20).symm
 refine ⟨_,rfl,x,cN,dx,_,rfl,s2 _ _ hx1,T.clN,T.nN_locks,by omega,?_⟩
 have l2':=ln "locks" (.ref l2) _ _ l1
 have k2:Keep x H (upd (upd H1 l2 (.lst ls)) x (.ins cN dx (jR "locks" (.ref l2) (jR "reaches" (.ref r2) [])))):=(k1.trans (Keep.of s2)).upd _
 have hr2b:upd (upd H1 l2 (.lst ls)) x (.ins cN dx (jR "locks" (.ref l2) (jR "reaches" (.ref r2) []))) r2=some (.lst rs):=by rw [kC nr2];exact s2 _ _ hr2
 have hl2:upd (upd H1 l2 (.lst ls)) x (.ins cN dx (jR "locks" (.ref l2) (jR "reaches" (.ref r2) []))) l2=some (.lst ls):=by rw [kC nl2];exact jD
 have hx2:upd (upd H1 l2 (.lst ls)) x (.ins cN dx (jR "locks" (.ref l2) (jR "reaches" (.ref r2) []))) x=some (.ins cN dx (jR "locks" (.ref l2) (jR "reaches" (.ref r2) []))):=jD
 generalize upd (upd H1 l2 (.lst ls)) x (.ins cN dx (jR "locks" (.ref l2) (jR "reaches" (.ref r2) [])))=H2 at k2 hr2b hl2 hx2 ⊢
 have frR:∀D:List Addr,(∀d∈D,H d≠none)→r2∉D:=fun D hD z=>hD _ z hr20
 have frL:∀D:List Addr,(∀d∈D,H d≠none)→l2∉D:=fun D hD z=>by
  by_cases e:l2=x
  ·exact nl2 e
  ·cases hh:H l2 with
   |none=>exact hD _ z hh
   |some o=>rw [k1 _ _ e hh] at hl20;cases hl20
 have done:∀(n2:Addr) (ns:List V) (H3:Hp),Keep x H2 H3→H2 n2=none→H3 x=some (.ins cN dx (jR "locks" (.ref l2) (jR "reaches" (.ref r2) [])))→H3 n2=some (.lst ns)→(∀D:List Addr,(∀d∈D,H2 d≠none)→AllAt (NAt D H3) ns N)→Q .non (upd H3 x (.ins cN dx (jR "nights" (.ref n2) (jR "locks" (.ref l2) (jR "reaches" (.ref r2) []))))):=by
  intro n2 ns H3 k3 hn20 hx3 hn2 hNs
  have kf:Keep x H (upd H3 x (.ins cN dx (jR "nights" (.ref n2) (jR "locks" (.ref l2) (jR "reaches" (.ref r2) []))))):=(k2.trans k3).upd _
  have kl:Keep x H3 (upd H3 x (.ins cN dx (jR "nights" (.ref n2) (jR "locks" (.ref l2) (jR "reaches" (.ref r2) []))))):=(Keep.refl x H3).upd _
  have nn2:n2≠x:=fun z=>by rw [z,hx2] at hn20;cases hn20
  have old:∀d,H d≠none→H2 d≠none:=fun d hd=>by
   by_cases e:d=x
   ·rw [e,hx2];exact fun z=>nomatch z
   ·cases hh:H d with
    |none=>exact absurd hh hd
    |some o=>rw [k2 _ _ e hh];exact fun z=>nomatch z
  refine q _ kf fun D hD=>⟨dx,r2,l2,n2,_,rs,ls,ns,jD,CU _ _ _,?_,?_,?_,hR.mono (RcO.keepI kf hx),hL.mono (LkO.keepI kf hx),?_,frR D hD,frL D hD,fun z=>old _ (hD _ z) hn20⟩
  ·rw [kC nr2];exact k3 _ _ nr2 hr2b
  ·rw [kC nl2];exact k3 _ _ nl2 hl2
  ·rw [kC nn2];exact hn2
  ·refine (hNs D (fun d hd=>old d (hD d hd))).mono ?_
   rintro v p ⟨l,qs,e1,e2,e3,e4⟩
   exact ⟨l,qs,e1,kl _ _ (fun z=>by rw [z,hx3] at e2;cases e2) e2,e3.mono (QAt.keep kl hx3 (fun _ z=>nomatch z)),e4⟩
 refine ⟨_,rfl,rfl,_,rfl,?_⟩
 rcases hN with ⟨rfl,rfl⟩|⟨nl,ns,rfl,hnl,hN,hnl100⟩
 ·refine kM rfl ⟨zz0,fun n2 hn20=>?_⟩
  have s3:=jK hn20 (.lst [])
  refine ⟨_,rfl,x,cN,dx,_,rfl,s3 _ _ hx2,T.clN,T.nN_nights,by omega,?_⟩
  exact done n2 [] _ (Keep.of s3) hn20 (s3 _ _ hx2) jD (fun D _=>AllAt.nil)
 ·have nnx:nl≠x:=v9 hnl hx (fun z=>nomatch z)
  have hnl2:=k2 _ _ nnx hnl
  have hN2:AllAt (NAt [] H2) ns N:=hN.mono fun v p=>by
   rintro ⟨l,qs,e1,e2,e3,e4⟩
   exact ⟨l,qs,e1,k2 _ _ (v9 e2 hx (fun z=>nomatch z)) e2,e3.mono (QAt.keep k2 hx (fun _ z=>nomatch z)),e4⟩
  refine kJ (fun z=>nomatch z) ⟨_,rfl,nl,rfl,⟨_,SqL.of hnl2⟩,fun n2 hn20=>?_⟩
  refine qT (K:=K) (a:=nl) (xs:=ns) (caps:=[]) (fun i ys Hi=>(∀D:List Addr,n2∈D→(∀d∈D,d≠n2→H2 d≠none)→AllAt (NAt D Hi) ys (N.take i))) hn20 (SqL.of hnl2) (fun D _ _=>AllAt.nil) ?_ ?_
  ·rintro i v ys Hi hv hi hle sm hY hI
   obtain ⟨p,hp,l,qs,rfl,hl,hq,_⟩:=hN2.2 i v hv
   refine qW (qM ?_)
   refine ⟨_,rfl,l,qs,rfl,.inl (SqL.of (sm _ _ hl)),fun c hc0=>?_⟩
   have u:=jK hc0 (.lst qs)
   refine qL hn20 sm hY hle (by omega) u ?_
   intro D hnD hD
   rw [List.take_add_one,hp]
   refine (((hI D hnD hD).mono (NAt.same u)).snoc (v:=.ref c) (x:=p) ⟨c,qs,rfl,jD,(hq.mono (QAt.same sm)).mono (QAt.same u),fun z=>?_⟩).mono (NAt.put (u _ _ hY) hnD)
   by_cases e:c=n2
   ·rw [e,hY] at hc0;cases hc0
   ·cases hh:H2 c with
    |none=>exact hD _ z e hh
    |some o=>rw [sm _ _ hh] at hc0;cases hc0
  rintro ys H3 s3 hY hle hI
  rw [hN2.1,List.take_length] at hI
  refine ⟨_,rfl,x,cN,dx,_,rfl,s3 _ _ hx2,T.clN,T.nN_nights,by omega,?_⟩
  exact done n2 ys H3 (Keep.of s3) hn20 (s3 _ _ hx2) hY (fun D hD=>(hI (n2::D) List.mem_cons_self (fun d hd ne=>(List.mem_cons.mp hd).elim (fun z=>absurd z ne) (hD d))).mono (NAt.less (fun d hd=>List.mem_cons_of_mem _ hd)))
theorem xJ:FnScope ["self"] ["self"] (jE QW):=⟨rfl,rfl,rfl,by decide +kernel,rfl,by decide +kernel,by decide +kernel⟩
theorem uB {f:Addr} {fd:FuncData} (F:Fun K "sea" "Canal.sea" QW f fd) (T:Txt K mg cP cB cU cR cN tkS jX jW j4 j3 jZ j0 jY) : FnOk P w K mg base jP 1 f fd ["self"] (zI (jM cP cB cU) cR cN yP):=by
 refine F.ok xJ (fun vs H Q E h=>?_) (fun cdv A outer s H vs Q E hr h=>?_)
 ·obtain ⟨x,D,R,L,N,rfl,⟨dx,rl,ll,nl,fs,rs,ls,ns,hx,hf,hrl,hll,hnl,hR,hL,hN,d1,d2,d3⟩,q⟩:=h
  rfl
 obtain ⟨x,D,R,L,N,rfl,⟨dx,rl,ll,nl,fs,rs,ls,ns,hx,hf,hrl,hll,hnl,hR,hL,hN,d1,d2,d3⟩,q⟩:=h
 have hu:_<cLine:=hr.units0
 have hu1:=j6 hr
 refine ⟨_,(@jF _ _ _ (@jO _ _ _ _ (@jH _ _ _ _ _ _ _ _ qE (kA kQ (by rfl) T.z_len PySem.boot_len (jA (kB (pv 0) rfl) jC)) (@jH _ _ _ _ _ _ _ _ JJ jB (kA kQ (by rfl) T.z_len PySem.boot_len (jA (kB (pv 0) rfl) jC)))))),?_⟩
 refine ⟨_,rfl,x,cN,dx,_,_,rfl,hx,T.clN,T.nN_reaches,hf.1,_,_,rfl,.inl (SqL.of hrl),_,rfl,x,cN,dx,_,_,rfl,hx,T.clN,T.nN_locks,hf.2.1,_,_,rfl,.inl (SqL.of hll),_,_,rfl,rfl,.inl ⟨by decide,by decide⟩,_,_,rfl,rfl,?_⟩
 rw [hR.1,hL.1]
 exact q
theorem xK:FnScope ["self"] ["self"] (jE QX):=⟨rfl,rfl,rfl,by decide +kernel,rfl,by decide +kernel,by decide +kernel⟩
theorem uC {f:Addr} {fd:FuncData} (F:Fun K "sky" "Canal.sky" QX f fd) (T:Txt K mg cP cB cU cR cN tkS jX jW j4 j3 jZ j0 jY) (MM_Canal_sea:MeD P w K mg base 1 cN "sea" ["self"] (zI (jM cP cB cU) cR cN yP)):FnOk P w K mg base jP 2 f fd ["self"] (zI (jM cP cB cU) cR cN lR):=by
 refine F.ok xK (fun vs H Q E h=>?_) (fun cdv A outer s H vs Q E hr h=>?_)
 ·obtain ⟨x,D,R,L,N,rfl,hc,q⟩:=h
  rfl
 obtain ⟨x,D,R,L,N,rfl,hc,q⟩:=h
 have hu:_<cLine:=hr.units0
 have hu1:=j6 hr
 refine ⟨_,(@jF _ _ _ (@jO _ _ _ _ (@jH _ _ _ _ _ _ _ _ qE (QI MM_Canal_sea hr (pv 0)) jB))),?_⟩
 have hc0:=hc
 obtain ⟨dx,rl,ll,nl,fs,rs,ls,ns,hx,hf,hrl,hll,hnl,hR,hL,hN,d1,d2,d3⟩:=hc
 exact ⟨_,rfl,x,dx,_,rfl,hx,hf.no (by decide +kernel) (by decide +kernel) (by decide +kernel),x,D,R,L,N,rfl,hc0,_,_,rfl,rfl,q⟩
theorem xI:FnScope ["self"] ["self"] (jE QV):=⟨rfl,rfl,rfl,by decide +kernel,rfl,by decide +kernel,by decide +kernel⟩
theorem uA {f:Addr} {fd:FuncData} (F:Fun K "many" "Canal.many" QV f fd) (T:Txt K mg cP cB cU cR cN tkS jX jW j4 j3 jZ j0 jY) (MM_Canal_sky:MeD P w K mg base 2 cN "sky" ["self"] (zI (jM cP cB cU) cR cN lR)):FnOk P w K mg base jP 3 f fd ["self"] (zI (jM cP cB cU) cR cN dF):=by
 refine F.ok xI (fun vs H Q E h=>?_) (fun cdv A outer s H vs Q E hr h=>?_)
 ·obtain ⟨x,D,R,L,N,rfl,hc,q⟩:=h
  rfl
 obtain ⟨x,D,R,L,N,rfl,hc,q⟩:=h
 have hu:_<cLine:=hr.units0
 have hu1:=j6 hr
 refine ⟨_,(@jF _ _ _ (@jO _ _ _ _ (@jH _ _ _ _ _ _ _ _ qE (QI MM_Canal_sky hr (pv 0)) jB))),?_⟩
 have hc0:=hc
 obtain ⟨dx,rl,ll,nl,fs,rs,ls,ns,hx,hf,hrl,hll,hnl,hR,hL,hN,d1,d2,d3⟩:=hc
 exact ⟨_,rfl,x,dx,_,rfl,hx,hf.no (by decide +kernel) (by decide +kernel) (by decide +kernel),x,D,R,L,N,rfl,hc0,_,_,rfl,rfl,q⟩
theorem xL:FnScope ["self"] ["self"] (jE JV):=⟨rfl,rfl,rfl,by decide +kernel,rfl,by decide +kernel,by decide +kernel⟩
theorem uE {f:Addr} {fd:FuncData} (F:Fun K "weirs" "Canal.weirs" JV f fd) (T:Txt K mg cP cB cU cR cN tkS jX jW j4 j3 jZ j0 jY) (MM_Canal_sea:MeD P w K mg base 1 cN "sea" ["self"] (zI (jM cP cB cU) cR cN yP)):FnOk P w K mg base jP 2 f fd ["self"] (iM (jM cP cB cU) cR cN):=by
 refine F.ok xL (fun vs H Q E h=>?_) (fun cdv A outer s H vs Q E hr h=>?_)
 ·obtain ⟨x,D,R,L,N,rfl,hc,hR100,q⟩:=h
  rfl
 obtain ⟨x,D,R,L,N,rfl,hc,hR100,q⟩:=h
 have hu:_<cLine:=hr.units0
 have hu1:=j6 hr
 refine ⟨_,(@jF _ _ _ (@jO _ _ _ _ (vD ["reach","self"] (qB 1 [0]) rfl (qK (jE JV) rfl rfl (by decide +kernel) (by decide +kernel) (by decide +kernel)) (qI 1 [0] rfl rfl (by decide +kernel)) (qC (kB (pv 0) rfl)) (fun _ _ _ _ _=>(kF (i:=0) (show List.Nodup (["reach","self"]:List Str) from by decide +kernel) rfl (by first|exact Or.inl rfl|exact Or.inr rfl))) (fun _ _ _ _ _=>qU) (fun _ _ _ _ _=>(yF (jA (cM K (pv 0) rfl) (jA (Z9 (j5 kS (cM K (pv 0) rfl) (vW (v:=.int (-1)) rfl T.g_SEA ⟨_,rfl⟩) (jT _)) (QI MM_Canal_sea hr (pv 1)) (cM K (pv 0) rfl)) jC))))))),?_⟩
 have hc0:=hc
 obtain ⟨dx,rl,ll,nl,fs,rs,ls,ns,hx,hf,hrl,hll,hnl,hR,hL,hN,d1,d2,d3⟩:=hc
 refine ⟨_,rfl,x,cN,dx,_,_,rfl,hx,T.clN,T.nN_reaches,hf.1,rl,rfl,⟨_,SqL.of hrl⟩,fun wl hwl0=>?_⟩
 refine qT (K:=K) (a:=rl) (xs:=rs) (caps:=[some (.ref x)]) (fun i ys Hi=>AllAt (QAt Hi) ys ((R.take i).map (y3 (yP R.length L.length)))) hwl0 (SqL.of hrl) AllAt.nil ?_ ?_
 ·rintro i v ys Hi hv hi hle sm hY hW
  obtain ⟨r,hr,y,rfl,dy,gs,hy,hg⟩:=hR.2 i v hv
  have hy:=sm _ _ hy
  have hi100:i<100:=by rw [hR.1] at hi;omega
  refine qW (qM ?_)
  refine ⟨_,rfl,y,cR,dy,_,_,rfl,hy,T.clR,T.nR_crest,hg.2.2.1,_,rfl,y,cR,dy,_,_,rfl,hy,T.clR,T.nR_target,hg.2.2.2.2.2,rfl,_,rfl,?_⟩
  have put:∀z:Int,z=(y3 (yP R.length L.length) r).2→∀tp,Hi tp=none→∃ys',upd Hi tp (.tup [.int r.crest,.int z]) wl=some (.lst ys')∧ys'.length<sizeLine∧vZ H wl [some (.ref x)] (fun i ys Hi=>AllAt (QAt Hi) ys ((R.take i).map (y3 (yP R.length L.length)))) (i+1) [some (.ref y),some (.ref x)] (upd (upd Hi tp (.tup [.int r.crest,.int z])) wl (.lst (ys'++[.ref tp]))):=by
   intro z hz tp htp
   have u:=jK htp (.tup [V.int r.crest,V.int z])
   exact qL (R:=fun i ys Hi=>AllAt (QAt Hi) ys ((R.take i).map (y3 (yP R.length L.length)))) (c:=some (.ref y)) (caps:=[some (.ref x)]) (v:=.ref tp) hwl0 sm hY hle (by omega) u (by
    rw [List.take_add_one,hr,List.map_append]
    exact ((hW.mono (QAt.same u)).snoc (v:=.ref tp) (x:=y3 (yP R.length L.length) r) ⟨tp,rfl,by rw [← hz];exact jD⟩).mono (QAt.put (u _ _ hY)))
  by_cases ht:r.target = -1
  ·refine kM (congrArg V.int ht) ⟨_,rfl,x,dx,_,rfl,(sm _ _ hx),hf.no (by decide +kernel) (by decide +kernel) (by decide +kernel),x,D,R,L,N,rfl,hc0.same sm,zz2,fun tp htp=>?_⟩
   exact put _ (by unfold y3;rw [if_pos ht]) tp htp
  ·refine kJ (fun z=>ht (V.int.inj z)) ⟨_,rfl,y,cR,dy,_,_,rfl,hy,T.clR,T.nR_target,hg.2.2.2.2.2,zz2,fun tp htp=>?_⟩
   exact put _ (by unfold y3;rw [if_neg ht]) tp htp
 rintro ys Hf sm hY hle hW
 rw [hR.1,List.take_length] at hW
 exact q wl ys Hf sm hwl0 hY hW
theorem gD:FnScope ["self","waters","others"] ["self"] (jE JU):=⟨rfl,rfl,rfl,by decide +kernel,rfl,by decide +kernel,by decide +kernel⟩
theorem uD {f:Addr} {fd:FuncData} (F:Fun K "start" "Canal.start" JU f fd) (T:Txt K mg cP cB cU cR cN tkS jX jW j4 j3 jZ j0 jY) (MM_Canal_many:MeD P w K mg base 3 cN "many" ["self"] (zI (jM cP cB cU) cR cN dF)) (D_settled:Def P w K mg base 4 "settled" ["weirs","waters"] [] (n0 K)) (MM_Canal_weirs:MeD P w K mg base 2 cN "weirs" ["self"] (iM (jM cP cB cU) cR cN)):FnOk P w K mg base jP 5 f fd ["self"] (iN (jM cP cB cU) cR cN):=by
 refine F.ok gD (fun vs H Q E h=>?_) (fun cdv A outer s H vs Q E hr h=>?_)
 ·obtain ⟨x,D,R,L,N,rfl,hc,hR100,hL100,hT,q⟩:=h
  rfl
 obtain ⟨x,D,R,L,N,rfl,hc,hR100,hL100,hT,q⟩:=h
 have hu:_<cLine:=hr.units0
 have hu1:=j6 hr
 refine ⟨_,(@jG _ _ _ _ _ (QD (i:=1) ["reach"] (qB 1 []) gD.nd rfl (by first|exact Or.inl rfl|exact Or.inr rfl) rfl (qK (jE JU) rfl rfl (by decide +kernel) (by decide +kernel) (by decide +kernel)) (qI 1 [] rfl rfl (by decide +kernel)) (qC (kB (pv 0) rfl)) (fun _ _ _ _ _=>(kF (i:=0) (show List.Nodup (["reach"]:List Str) from by decide +kernel) rfl (by first|exact Or.inl rfl|exact Or.inr rfl))) (fun _ _ _ _ _=>qU) (fun _ _ _ _ _=>(cM K (pv 0) rfl)))
   (@jG _ _ _ _ _ (jV (i:=2) gD.nd rfl (by first|exact Or.inl rfl|exact Or.inr rfl) (@jH _ _ _ _ _ _ _ _ lG (kR (jA jB jC)) (@jH _ _ _ _ _ _ _ _ yM (QI MM_Canal_many hr (pv 0)) (kA kQ (by rfl) T.z_len PySem.boot_len (jA (pv 1) jC)))))
   (@jF _ _ _ (@jO _ _ _ _ (jU D_settled hr rfl (jA (QI MM_Canal_weirs hr (pv 0)) (jA (@jH _ _ _ _ _ _ _ _ yO (pv 1) (pv 2)) jC))))))),?_⟩
 have hc0:=hc
 obtain ⟨dx,rl,ll,nl,fs,rs,ls,ns,hx,hf,hrl,hll,hnl,hR,hL,hN,d1,d2,d3⟩:=hc
 refine ⟨_,rfl,x,cN,dx,_,_,rfl,hx,T.clN,T.nN_reaches,hf.1,rl,rfl,⟨_,SqL.of hrl⟩,fun wl hwl0=>?_⟩
 refine qT (K:=K) (a:=rl) (xs:=rs) (caps:=[]) (fun i ys Hi=>ys=((R.take i).map (·.water)).map V.int) hwl0 (SqL.of hrl) rfl ?_ ?_
 ·rintro i v ys Hi hv hi hle sm hY rfl
  obtain ⟨r,hr,y,rfl,dy,gs,hy,hg⟩:=hR.2 i v hv
  have hy:=sm _ _ hy
  have hi100:i<100:=by rw [hR.1] at hi;omega
  refine qW (qM ⟨_,rfl,y,cR,dy,_,_,rfl,hy,T.clR,T.nR_water,hg.2.2.2.2.1,qL hwl0 sm hY hle (by omega) (Same.refl _) ?_⟩)
  rw [List.take_add_one,hr,List.map_append,List.map_append]
  rfl
 rintro ys H1 s1 hwl hle rfl
 rw [hR.1,List.take_length] at hwl
 refine ⟨zz1,fun lp hlp=>?_⟩
 have s2:=jK hlp (.lst [V.int 0])
 have s12:=s1.trans s2
 refine ⟨_,rfl,x,dx,_,rfl,(s12 _ _ hx),hf.no (by decide +kernel) (by decide +kernel) (by decide +kernel),x,D,R,L,N,rfl,hc0.same s12,_,rfl,wl,_,rfl,.inl (SqL.of (s2 _ _ hwl)),_,_,rfl,rfl,?_⟩
 have e1:dF R.length L.length - (((((R.map (·.water)).map V.int).length:Nat)):Int)=((2*L.length+2:Nat):Int):=by
  rw [List.length_map,List.length_map];unfold dF;omega
 try dsimp only
 rw [e1]
 refine ⟨lp,_,_,rfl,rfl,jD,by omega,by omega,?_,fun gp hgp=>?_⟩
 ·rw [Int.toNat_natCast,List.length_singleton,Nat.one_mul]
  exact small (by omega)
 rw [Int.toNat_natCast,pN]
 have s3:=jK hgp (.lst ((List.replicate (2*L.length+2) (0:Int)).map V.int))
 have s13:=s12.trans s3
 have hgp3:upd (upd H1 lp (.lst [V.int 0])) gp (.lst ((List.replicate (2*L.length+2) (0:Int)).map V.int)) gp=_:=jD
 have hwl3:=s3 _ _ (s2 _ _ hwl)
 generalize upd (upd H1 lp (.lst [V.int 0])) gp (.lst ((List.replicate (2*L.length+2) (0:Int)).map V.int))=H3 at s3 s13 hgp3 hwl3 ⊢
 refine ⟨_,rfl,x,dx,_,rfl,(s13 _ _ hx),hf.no (by decide +kernel) (by decide +kernel) (by decide +kernel),x,D,R,L,N,rfl,hc0.same s13,hR100,fun wq ws H4 s4 hwq0 hwq hW=>?_⟩
 refine ⟨_,rfl,_,rfl,wl,gp,_,_,rfl,rfl,s4 _ _ hwl3,s4 _ _ hgp3,?_,fun al hal=>?_⟩
 ·rw [List.length_map,List.length_map,List.length_map,List.length_replicate]
  exact small (by omega)
 have e2:(R.map (·.water)).map V.int++(List.replicate (2*L.length+2) (0:Int)).map V.int=(zX R L.length).map V.int:=by unfold zX;rw [List.map_append]
 rw [e2]
 have s5:=jK hal (.lst ((zX R L.length).map V.int))
 have s15:=(s13.trans s4).trans s5
 refine ⟨wq,al,ws,zW R L.length,zX R L.length,rfl,⟨SqL.of (s5 _ _ hwq),EH hT (hW.mono (QAt.same s5)),.inl (SqL.of jD),mO hT,by rw [gT,gU];omega,by rw [gU];omega⟩,fun r H' gs s' hr0 hr hSp=>?_⟩
 exact q r H' gs (s15.trans s') (s15.free hr0) hr hSp
theorem AJ:FnScope ["rows"] ["rows"] (jE J9):=⟨rfl,rfl,rfl,by decide +kernel,rfl,by decide +kernel,by decide +kernel⟩
theorem xB {f:Addr} {fd:FuncData} (F:Fun K "text_of" "text_of" J9 f fd) (T:Txt K mg cP cB cU cR cN tkS jX jW j4 j3 jZ j0 jY) : FnOk P w K mg base jP 1 f fd ["rows"] (pB K):=by
 refine F.ok AJ (fun vs H Q E h=>?_) (fun cdv A outer s H vs Q E hr h=>?_)
 ·obtain ⟨a,zs,rfl,hS,hn,hl9,q⟩:=h
  rfl
 obtain ⟨a,zs,rfl,hS,hn,hl9,q⟩:=h
 have hu:_<cLine:=hr.units0
 have hu1:=j6 hr
 refine ⟨_,(@jF _ _ _ (@jO _ _ _ _ (qP PySem.F.plainAttrs_str PySem.F.slot_str_join PySem.F.type_str_join JF j7 (jA (vD ["row"] (qB 1 []) rfl (qK (jE J9) rfl rfl (by decide +kernel) (by decide +kernel) (by decide +kernel)) (qI 1 [] rfl rfl (by decide +kernel)) (qC (pv 0)) (fun _ _ _ _ _=>(kF (i:=0) (show List.Nodup (["row"]:List Str) from by decide +kernel) rfl (by first|exact Or.inl rfl|exact Or.inr rfl))) (fun _ _ _ _ _=>qU) (fun _ _ _ _ _=>(@jH _ _ _ _ _ _ _ _ eA (pv 0) j7))) jC)))),?_⟩
 refine ⟨rfl,_,rfl,a,rfl,⟨_,hS⟩,fun w6 hw60=>?_⟩
 refine qT (K:=K) (a:=a) (xs:=zs.map V.str) (caps:=[]) (fun i ys Hi=>ys=((zs.take i).map (·++feedS)).map V.str) hw60 hS rfl ?_ ?_
 ·rintro i v ys Hi hv hi hle sm hY rfl
  obtain ⟨z,hz,rfl⟩:=o9 hv
  have hzl:=hl9 z (List.mem_of_getElem? hz)
  have hi9:i<999:=by have:=(List.getElem?_eq_some_iff.mp hz).1;omega
  refine qW (qM ⟨_,rfl,_,_,rfl,rfl,small (by rw [show ("\n":Str).length=1 by decide +kernel];omega),qL hw60 sm hY hle (by omega) (Same.refl _) ?_⟩)
  rw [List.take_add_one,hz,List.map_append,List.map_append]
  rfl
 ·rintro ys Hf sm hY hle rfl
  rw [List.length_map,List.take_length] at hY
  have hsum:JH (zs.map (·++feedS))+(zs.map (·++feedS)).length≤1048576:=by
   have h3:=bF (B:=901) (zs.map (·++feedS)) (fun y hy=>by
    obtain ⟨x,hx,rfl⟩:=List.mem_map.mp hy
    have:=hl9 x hx
    rw [Str.length_append]
    have:feedS.length=1:=rfl
    omega)
   rw [List.length_map] at h3 ⊢
   have:zs.length*901≤999*901:=Nat.mul_le_mul_right _ hn
   omega
  exact ⟨"",w6,_,rfl,rfl,SqL.of hY,by decide,hsum,q Hf sm⟩
theorem gG:FnScope ["canal","reach","target","numbers"] ["canal","reach"] (jE J4):=⟨rfl,rfl,rfl,by decide +kernel,rfl,by decide +kernel,by decide +kernel⟩
theorem wR {f:Addr} {fd:FuncData} (F:Fun K "reach_row" "reach_row" J4 f fd) (T:Txt K mg cP cB cU cR cN tkS jX jW j4 j3 jZ j0 jY) : FnOk P w K mg base jP 1 f fd ["canal","reach"] (nG (jM cP cB cU) cR cN):=by
 refine F.ok gG (fun vs H Q E h=>?_) (fun cdv A outer s H vs Q E hr h=>?_)
 ·obtain ⟨x,y,D,R,L,N,rn,r,rfl,⟨dx,rl,ll,nl,fs,rs,ls,ns,hx,hf,hrl,hll,hnl,hR,hL,hN,d1,d2,d3⟩,⟨dy,gs,hy,hg⟩,hnm,hok,htR,hrn,q⟩:=h
  rfl
 obtain ⟨x,y,D,R,L,N,rn,r,rfl,⟨dx,rl,ll,nl,fs,rs,ls,ns,hx,hf,hrl,hll,hnl,hR,hL,hN,d1,d2,d3⟩,⟨dy,gs,hy,hg⟩,hnm,hok,htR,hrn,q⟩:=h
 have hu:_<cLine:=hr.units0
 have hu1:=j6 hr
 refine ⟨_,(v6 (jV (i:=2) gG.nd rfl (by first|exact Or.inl rfl|exact Or.inr rfl) (Z9 (j5 kS (kB (pv 1) rfl) (vW (v:=.int (-1)) rfl T.g_SEA ⟨_,rfl⟩) (jT _)) j7 (kB (jI jN (kB (pv 0) rfl) (kB (pv 1) rfl) (fun _ _=>rfl)) rfl)))
   (@jG _ _ _ _ _ (QD (i:=3) ["number"] (qB 1 []) gG.nd rfl (by first|exact Or.inl rfl|exact Or.inr rfl) rfl (qK (jE J4) rfl rfl (by decide +kernel) (by decide +kernel) (by decide +kernel)) (qI 1 [] rfl rfl (by decide +kernel)) (sP (yF (@jA _ _ _ _ _ (kB (pv 1) rfl) (@jA _ _ _ _ _ (kB (pv 1) rfl) (@jA _ _ _ _ _ (kB (pv 1) rfl) (@jA _ _ _ _ _ (kB (pv 1) rfl) jC (by rfl)) (by rfl)) (by rfl)) (by rfl)))) (fun _ _ _ _ _=>(kF (i:=0) (show List.Nodup (["number"]:List Str) from by decide +kernel) rfl (by first|exact Or.inl rfl|exact Or.inr rfl))) (fun _ _ _ _ _=>qU) (fun _ _ _ _ _=>(q8 zF (by rfl) T.z_str PyProof.Rows.boot_str (jA (pv 0) jC))))
   (@jF _ _ _ (@jO _ _ _ _ (qP PySem.F.plainAttrs_str PySem.F.slot_str_join PySem.F.type_str_join JF j7 (jA (@jH _ _ _ _ _ _ _ _ yO (@jH _ _ _ _ _ _ _ _ yO (kR (jA j7 (jA (kB (pv 1) rfl) jC))) (pv 3)) (kR (jA (pv 2) jC))) jC)))))),?_⟩
 have hw:=d9 hrn hok
 have hq:∀H',Same H H'→Q (.str (Str.join " " (kI rn (.reach r)))) H':=fun H' s=>by rw [eT];exact q H' s
 obtain ⟨h8,⟨g1,g2,g3,g4,g5,g6,g7,g8,g9⟩,_⟩:=hok
 refine ⟨fun σ' H'=>σ'=[some (.ref x),some (.ref y),some (.str (yH rn r.target)),none]∧H'=H,?_,?_⟩
 ·refine ⟨_,rfl,y,cR,dy,_,_,rfl,hy,T.clR,T.nR_target,hg.2.2.2.2.2,rfl,_,rfl,?_⟩
  by_cases ht:r.target = -1
  ·refine kM (congrArg V.int ht) ⟨?_,rfl⟩
   rw [show yH rn r.target="sea" from if_neg (by omega)]
   rfl
  ·obtain ⟨z,dz,gz,hat,hz,hgz⟩:=gP hR hnm (show 0≤r.target by omega) htR
   refine kJ (fun e=>ht (V.int.inj e)) ⟨_,rfl,x,cN,dx,_,_,rfl,hx,T.clN,T.nN_reaches,hf.1,_,rfl,y,cR,dy,_,_,rfl,hy,T.clR,T.nR_target,hg.2.2.2.2.2,rl,_,_,_,rfl,rfl,SqL.of hrl,hat,z,cR,dz,_,_,rfl,hz,T.clR,T.nR_name,hgz,?_,rfl⟩
   rw [show yH rn r.target=jJ (rn r.target.toNat) from if_pos (by omega)]
   rfl
 rintro σ' H' ⟨rfl,rfl⟩
 refine ⟨_,rfl,y,cR,dy,_,_,rfl,hy,T.clR,T.nR_least,hg.2.1,_,rfl,y,cR,dy,_,_,rfl,hy,T.clR,T.nR_crest,hg.2.2.1,_,rfl,y,cR,dy,_,_,rfl,hy,T.clR,T.nR_berths,hg.2.2.2.1,_,rfl,y,cR,dy,_,_,rfl,hy,T.clR,T.nR_water,hg.2.2.2.2.1,zz4,fun p2 hp2=>?_⟩
 have s2:=jK hp2 (.tup ([r.least,r.crest,r.berths,r.water].map V.int))
 have h2:upd H' p2 (.tup ([r.least,r.crest,r.berths,r.water].map V.int)) p2=some (.tup ([r.least,r.crest,r.berths,r.water].map V.int)):=jD
 refine ⟨p2,rfl,⟨_,SqT.of h2⟩,fun D' hD=>?_⟩
 have hb:∀z∈[r.least,r.crest,r.berths,r.water],0≤z∧z≤9999999999999:=by
  intro z hz
  simp only [List.mem_cons,List.mem_nil_iff,or_false] at hz
  rcases hz with rfl|rfl|rfl|rfl<;>omega
 refine oX (K:=K) (a:=p2) (xs:=[r.least,r.crest,r.berths,r.water].map V.int) (caps:=[]) (fun i ys Hi=>ys=(([r.least,r.crest,r.berths,r.water].take i).map fun z=>V.str (kG z))) hD h2 rfl ?_ ?_
 ·rintro i v ys Hi hx hi hle sm hY rfl
  obtain ⟨z,rfl,hz⟩:=pY hx
  have hzb:=hb z (List.mem_of_getElem? hz)
  refine qW (qM ⟨_,rfl,_,rfl,(vB hzb.1 hzb.2).1,?_⟩)
  refine qL hD sm hY hle (by have:i<4:=hi;omega) (Same.refl _) ?_
  rw [List.take_add_one,hz,List.map_append]
  rfl
 rintro ys H3 s3 hDl hle rfl
 have s23:=s2.trans s3
 have hy3:=s23 _ _ hy
 refine ⟨rfl,_,rfl,y,cR,dy,_,_,rfl,hy3,T.clR,T.nR_name,hg.1,zz2,fun p1 hp1=>?_⟩
 have s4:=jK hp1 (.lst [V.str "reach",V.str r.name])
 refine ⟨_,rfl,p1,D',_,_,rfl,rfl,jD,s4 _ _ hDl,zz6,fun p3 hp3=>?_⟩
 have s5:=jK hp3 (.lst ((kI rn (.reach r)).take 6 |>.map V.str))
 refine ⟨_,rfl,zz1,fun p4 hp4=>?_⟩
 have s6:=jK hp4 (.lst [V.str (yH rn r.target)])
 refine ⟨p3,p4,_,_,rfl,rfl,s6 _ _ jD,jD,zz7,fun p5 hp5=>?_⟩
 refine ⟨" ",p5,kI rn (.reach r),rfl,rfl,SqL.of jD,by decide +kernel,hw,hq _ ?_⟩
 exact ((((s23.trans s4).trans s5).trans s6).trans (jK hp5 _))
theorem dX:FnScope ["canal","lock","high","low","behind"] ["canal","lock"] (jE ZM):=⟨rfl,rfl,rfl,by decide +kernel,rfl,by decide +kernel,by decide +kernel⟩
theorem wI {f:Addr} {fd:FuncData} (F:Fun K "lock_row" "lock_row" ZM f fd) (T:Txt K mg cP cB cU cR cN tkS jX jW j4 j3 jZ j0 jY) (MP_kind:MeK P w K mg base 1 (jM cP cB cU) "kind" ["self"] (vA (jM cP cB cU) (fun kd _=>V.str (match kd with|.plain=>"plain"|.basin=>"basin"|.pump=>"pump")))) (MP_extra:MeK P w K mg base 1 (jM cP cB cU) "extra" ["self"] (vA (jM cP cB cU) (fun kd v=>V.int (match kd with|.plain=>0|.basin=>v|.pump=>v)))):FnOk P w K mg base jP 2 f fd ["canal","lock"] (oB (jM cP cB cU) cR cN):=by
 refine F.ok dX (fun vs H Q E h=>?_) (fun cdv A outer s H vs Q E hr h=>?_)
 ·obtain ⟨x,y,D,R,L,N,rn,l,rfl,⟨dx,rl,ll,nl,fs,rs,ls,ns,hx,hf,hrl,hll,hnl,hR,hL,hN,d1,d2,d3⟩,⟨dl,hl⟩,hnm,hok,hrn,q⟩:=h
  rfl
 obtain ⟨x,y,D,R,L,N,rn,l,rfl,⟨dx,rl,ll,nl,fs,rs,ls,ns,hx,hf,hrl,hll,hnl,hR,hL,hN,d1,d2,d3⟩,⟨dl,hl⟩,hnm,hok,hrn,q⟩:=h
 have hu:_<cLine:=hr.units0
 have hu1:=j6 hr
 refine ⟨_,(@jG _ _ _ _ _ (jV (i:=2) dX.nd rfl (by first|exact Or.inl rfl|exact Or.inr rfl) (kB (jI jN (kB (pv 0) rfl) (kB (pv 1) rfl) (fun _ _=>rfl)) rfl))
   (@jG _ _ _ _ _ (jV (i:=3) dX.nd rfl (by first|exact Or.inl rfl|exact Or.inr rfl) (kB (jI jN (kB (pv 0) rfl) (kB (pv 1) rfl) (fun _ _=>rfl)) rfl))
   (v6 (jV (i:=4) dX.nd rfl (by first|exact Or.inl rfl|exact Or.inr rfl) (Z9 (j5 kS (JI MP_kind hr (pv 1)) j7 (jT _)) (kR jC) (kR (jA (JI MP_kind hr (pv 1)) (jA (q8 zF (by rfl) T.z_str PyProof.Rows.boot_str (jA (JI MP_extra hr (pv 1)) jC)) jC)))))
   (@jF _ _ _ (@jO _ _ _ _ (qP PySem.F.plainAttrs_str PySem.F.slot_str_join PySem.F.type_str_join JF j7 (jA (@jH _ _ _ _ _ _ _ _ yO (kR (@jA _ _ _ _ _ j7 (@jA _ _ _ _ _ (kB (pv 1) rfl) (@jA _ _ _ _ _ (pv 2) (@jA _ _ _ _ _ (pv 3) (@jA _ _ _ _ _ (q8 zF (by rfl) T.z_str PyProof.Rows.boot_str (jA (kB (pv 1) rfl) jC)) jC (by rfl)) (by rfl)) (by rfl)) (by rfl)) (by rfl))) (pv 4)) jC))))))),?_⟩
 have hw:=d9 hrn hok
 have hq:∀H',Same H H'→Q (.str (Str.join " " (kI rn (.lock l)))) H':=fun H' s=>by rw [eT];exact q H' s
 obtain ⟨h8,⟨g1,g2,g3,g4,g5,g6,g7,g8⟩,_⟩:=hok
 obtain ⟨zh,dzh,gzh,hath,hzh,hgh⟩:=gP hR hnm (show 0≤l.high by omega) g2
 obtain ⟨zl,dzl,gzl,hatl,hzl,hgl⟩:=gP hR hnm (show 0≤l.low by omega) (show l.low<(R.length:Int) by omega)
 refine ⟨_,rfl,x,cN,dx,_,_,rfl,hx,T.clN,T.nN_reaches,hf.1,_,rfl,y,_,dl,_,_,rfl,hl,T.cl l.kd,T.n_high l.kd,cT l.kd _ _ _ _ _,rl,_,_,_,rfl,rfl,SqL.of hrl,hath,zh,cR,dzh,_,_,rfl,hzh,T.clR,T.nR_name,hgh,?_⟩
 refine ⟨_,rfl,x,cN,dx,_,_,rfl,hx,T.clN,T.nN_reaches,hf.1,_,rfl,y,_,dl,_,_,rfl,hl,T.cl l.kd,T.n_low l.kd,dA l.kd _ _ _ _ _,rl,_,_,_,rfl,rfl,SqL.of hrl,hatl,zl,cR,dzl,_,_,rfl,hzl,T.clR,T.nR_name,hgl,?_⟩
 refine ⟨fun σ' H'=>∃b:Addr,σ'=[some (.ref x),some (.ref y),some (.str (jJ (rn l.high.toNat))),some (.str (jJ (rn l.low.toNat))),some (.ref b)]∧H' b=some (.lst ((QL l.kd l.extra).map V.str))∧Same H H',?_,?_⟩
 ·obtain ⟨nm,hi,lo,ro,kd,ex⟩:=l
  cases kd with
  |plain=>exact ⟨_,rfl,.plain,y,dl,_,rfl,hl,yD .plain _ _ _ _ _,y,_,_,_,_,_,rfl,⟨dl,hl⟩,rfl,_,rfl,kM rfl ⟨zz0,fun b hb=>⟨b,rfl,jD,jK hb _⟩⟩⟩
  |basin =>
   have hx:=g8 (by intro z;cases z)
   have hx':1≤ex∧ex≤ro:=hx
   have g6':ro≤999999999999:=g6
   refine ⟨_,rfl,.basin,y,dl,_,rfl,hl,yD .basin _ _ _ _ _,y,_,_,_,_,_,rfl,⟨dl,hl⟩,rfl,_,rfl,kJ (fun z=>K5 (V.str.inj z).symm) ⟨_,rfl,.basin,y,dl,_,rfl,hl,yD .basin _ _ _ _ _,y,_,_,_,_,_,rfl,⟨dl,hl⟩,_,rfl,.basin,y,dl,_,rfl,hl,QE .basin _ _ _ _ _,y,_,_,_,_,_,rfl,⟨dl,hl⟩,_,rfl,(vB (n:=ex) (by omega) (by omega)).1,zz2,fun b hb=>⟨b,rfl,jD,jK hb _⟩⟩⟩
  |pump =>
   have hx:=g8 (by intro z;cases z)
   have hx':1≤ex∧ex≤ro:=hx
   have g6':ro≤999999999999:=g6
   refine ⟨_,rfl,.pump,y,dl,_,rfl,hl,yD .pump _ _ _ _ _,y,_,_,_,_,_,rfl,⟨dl,hl⟩,rfl,_,rfl,kJ (fun z=>K4 (V.str.inj z).symm) ⟨_,rfl,.pump,y,dl,_,rfl,hl,yD .pump _ _ _ _ _,y,_,_,_,_,_,rfl,⟨dl,hl⟩,_,rfl,.pump,y,dl,_,rfl,hl,QE .pump _ _ _ _ _,y,_,_,_,_,_,rfl,⟨dl,hl⟩,_,rfl,(vB (n:=ex) (by omega) (by omega)).1,zz2,fun b hb=>⟨b,rfl,jD,jK hb _⟩⟩⟩
 rintro σ' H' ⟨b,rfl,hb,s1⟩
 have hl1:=s1 _ _ hl
 refine ⟨rfl,_,rfl,y,_,dl,_,_,rfl,hl1,T.cl l.kd,T.n_name l.kd,cS l.kd _ _ _ _ _,_,rfl,_,rfl,_,rfl,y,_,dl,_,_,rfl,hl1,T.cl l.kd,T.n_room l.kd,QG l.kd _ _ _ _ _,_,rfl,(vB (n:=l.room) (by omega) (by omega)).1,zz5,fun wl hwl=>?_⟩
 have s2:=jK hwl (.lst ([("lock":Str),l.name,jJ (rn l.high.toNat),jJ (rn l.low.toNat),kG l.room].map V.str))
 refine ⟨_,rfl,wl,b,_,_,rfl,rfl,jD,s2 _ _ hb,?_,fun p5 hp5=>?_⟩
 ·have:(QL l.kd l.extra).length≤2:=by cases l.kd<;>(first|exact Nat.zero_le _|exact Nat.le_refl _)
  rw [List.length_map]
  exact small (by show 5+_≤1000;omega)
 have s3:=jK hp5 (.lst ([("lock":Str),l.name,jJ (rn l.high.toNat),jJ (rn l.low.toNat),kG l.room].map V.str++(QL l.kd l.extra).map V.str))
 refine ⟨" ",p5,kI rn (.lock l),rfl,rfl,?_,by decide +kernel,hw,hq _ ((s1.trans s2).trans s3)⟩
 rw [Z4,List.map_append]
 exact SqL.of jD
theorem dY:FnScope ["canal","night","words","reach","pair"] ["canal","night"] (jE ZN):=⟨rfl,rfl,rfl,by decide +kernel,rfl,by decide +kernel,by decide +kernel⟩
theorem wK {f:Addr} {fd:FuncData} (F:Fun K "night_row" "night_row" ZN f fd) (T:Txt K mg cP cB cU cR cN tkS jX jW j4 j3 jZ j0 jY) : FnOk P w K mg base jP 1 f fd ["canal","night"] (nH (jM cP cB cU) cR cN):=by
 refine F.ok dY (fun vs H Q E h=>?_) (fun cdv A outer s H vs Q E hr h=>?_)
 ·obtain ⟨x,y,D,R,L,N,rn,p,rfl,⟨dx,rl,ll,nl,fs,rs,ls,ns,hx,hf,hrl,hll,hnl,hR,hL,hN,d1,d2,d3⟩,⟨nl₂,qs,hnv,hny,hQ,_⟩,hnm,hpl,hpo,h8,hrn,q⟩:=h
  rfl
 obtain ⟨x,y,D,R,L,N,rn,p,rfl,⟨dx,rl,ll,nl,fs,rs,ls,ns,hx,hf,hrl,hll,hnl,hR,hL,hN,d1,d2,d3⟩,⟨nl₂,qs,hnv,hny,hQ,_⟩,hnm,hpl,hpo,h8,hrn,q⟩:=h
 have hu:_<cLine:=hr.units0
 have hu1:=j6 hr
 refine ⟨_,(@jG _ _ _ _ _ (jV (i:=2) dY.nd rfl (by first|exact Or.inl rfl|exact Or.inr rfl) (kR (jA j7 jC)))
   (@jG _ _ _ _ _ (vE PassesOwn.never rfl (sO (by rfl) T.z_zip (jA (kB (pv 0) rfl) (jA (pv 1) jC))) (bH rfl (v4 (kF (i:=3) dY.nd rfl (by first|exact Or.inl rfl|exact Or.inr rfl)) (v4 (kF (i:=4) dY.nd rfl (by first|exact Or.inl rfl|exact Or.inr rfl)) bD)))
    (@jF _ _ _ (j9 (j5 (HM hu) (pv 4) (yF (jA jB (jA jB jC))) (jT _)) (@jF _ _ _ (qH (qP PySem.F.plainAttrs_list PySem.F.slot_list_extend PySem.F.type_list_extend iH (pv 2) (jA (kR (@jA _ _ _ _ _ (kB (pv 3) rfl) (@jA _ _ _ _ _ (q8 zF (by rfl) T.z_str PyProof.Rows.boot_str (jA (jI ix_tup (pv 4) jB (fun _ _=>rfl)) jC)) (@jA _ _ _ _ _ (q8 zF (by rfl) T.z_str PyProof.Rows.boot_str (jA (jI ix_tup (pv 4) jB (fun _ _=>rfl)) jC)) jC (by rfl)) (by rfl)) (by rfl))) jC)))) kD)))
   (@jF _ _ _ (@jO _ _ _ _ (qP PySem.F.plainAttrs_str PySem.F.slot_str_join PySem.F.type_str_join JF j7 (jA (pv 2) jC)))))),?_⟩
 cases hnv
 have hok:=gR hpo (Nat.le_refl _) (by omega)
 have hw:=d9 hrn hok
 have hq:∀H',Same H H'→Q (.str (Str.join " " (kI rn (.night (vC p p.length))))) H':=fun H' s=>by rw [eT];exact q H' s
 refine ⟨zz1,fun wl hwl=>?_⟩
 have s1:=jK hwl (.lst [V.str "night"])
 refine ⟨_,rfl,x,cN,dx,_,_,rfl,(s1 _ _ hx),T.clN,T.nN_reaches,hf.1,_,rfl,rl,y,rfl,⟨_,SqL.of (s1 _ _ hrl)⟩,⟨_,SqL.of (s1 _ _ hny)⟩,rT (K:=K) (a1:=rl) (a2:=y) (xs:=rs) (ys:=qs) (fun j σ Hj=>∃(c3 c4:Option V),σ=[some (.ref x),some (.ref y),some (.ref wl),c3,c4]∧Hj wl=some (.lst ((kI rn (.night (vC p j))).map V.str))∧Same H Hj)
  ⟨none,none,rfl,jD,s1⟩ (fun j σ Hj _ ⟨_,_,_,_,s⟩=>⟨SqL.of (s _ _ hrl),SqL.of (s _ _ hny)⟩) ?_ ?_⟩
 ·rintro j v w σ Hj T₁ hv hw' ⟨c3,c4,rfl,hwl2,sj⟩ hT
  obtain ⟨r,hr,z,rfl,dz,gz,hz,hgz⟩:=hR.2 j v hv
  obtain ⟨pq,hpq,tq,rfl,htq⟩:=hQ.2 j w hw'
  have hj8:j<8:=by have:=(List.getElem?_eq_some_iff.mp hr).1;omega
  have hjp:j<p.length:=(List.getElem?_eq_some_iff.mp hpq).1
  obtain ⟨k1,k2,k3,k4⟩:=hpo _ (List.mem_of_getElem? hpq)
  have sT:=jK hT (.tup [V.ref z,V.ref tq])
  have sjT:=sj.trans sT
  have hwl3:=sT _ _ hwl2
  refine ⟨T₁,_,rfl,SqT.of jD,rfl,_,_,rfl,_,_,rfl,rfl,?_⟩
  generalize upd Hj T₁ (.tup [V.ref z,V.ref tq])=Hk at sT sjT hwl3 ⊢
  refine ⟨_,rfl,zz2,fun tz htz=>?_⟩
  have u:=jK htz (.tup [V.int 0,V.int 0])
  have sju:=sjT.trans u
  have hwl4:=u _ _ hwl3
  refine ⟨tq,tz,_,_,rfl,rfl,SqT.of (sju _ _ htq),SqT.of jD,rfl,rfl,_,rfl,?_⟩
  show if (!vM [V.int pq.1,V.int pq.2] [V.int 0,V.int 0])=true then _ else _
  rw [GU]
  by_cases hz0:pq.1=0∧pq.2=0
  ·refine kZ hz0 ⟨_,_,rfl,?_,sju⟩
   rw [d4,mR hpq hz0]
   show _=some (HO.lst ((kI rn (.night (vC p j++[]))).map V.str))
   rw [List.append_nil]
   exact hwl4
  ·refine QJ hz0 ⟨_,rfl,.inl ⟨rfl,_,SqL.of hwl4⟩,_,rfl,z,cR,dz,_,_,rfl,(sju _ _ hz),T.clR,T.nR_name,hgz.1,_,rfl,tq,_,_,_,rfl,rfl,SqT.of (sju _ _ htq),rfl,_,rfl,(vB (n:=pq.1) (by omega) (by omega)).1,_,rfl,tq,_,_,_,rfl,rfl,SqT.of (sju _ _ htq),rfl,_,rfl,(vB (n:=pq.2) (by omega) (by omega)).1,zz3,fun w3 hw3=>?_⟩
   have u2:=jK hw3 (.lst [V.str r.name,V.str (kG pq.1),V.str (kG pq.2)])
   have hlen:((kI rn (.night (vC p j))).map V.str).length≤900:=by
    rw [List.length_map]
    have:=(eO hrn (gR hpo (n:=j) (by omega) (by omega))).1
    omega
   refine ⟨wl,w3,_,_,rfl,rfl,u2 _ _ hwl4,jD,Nat.le_of_lt (vI (by show _+3≤1000;omega)),?_⟩
   refine ⟨_,_,rfl,?_,kU hwl (sju.trans u2)⟩
   rw [jD,d4,mQ hpq hz0,hnm j r hr]
   show _=some (HO.lst ((("night":Str)::(vC p j++[(j,pq.1,pq.2)]).flatMap (fun q=>([jJ (rn q.1),kG q.2.1,kG q.2.2]:List Str))).map V.str))
   rw [List.flatMap_append,← List.cons_append,List.map_append]
   rfl
 ·rintro σ Hj ⟨c3,c4,rfl,hwl2,sj⟩
  rw [hR.1,hQ.1,show min R.length p.length=p.length by omega] at hwl2
  exact ⟨rfl,_,rfl," ",wl,_,rfl,rfl,SqL.of hwl2,by decide +kernel,hw,hq _ sj⟩
theorem mH:FnScope ["canal","rows"] ["canal"] (jE zO):=⟨rfl,rfl,rfl,by decide +kernel,rfl,by decide +kernel,by decide +kernel⟩
theorem w8 {f:Addr} {fd:FuncData} (F:Fun K "shown" "shown" zO f fd) (T:Txt K mg cP cB cU cR cN tkS jX jW j4 j3 jZ j0 jY) (D_reach_row:Def P w K mg base 1 "reach_row" ["canal","reach"] [] (nG (jM cP cB cU) cR cN)) (D_lock_row:Def P w K mg base 2 "lock_row" ["canal","lock"] [] (oB (jM cP cB cU) cR cN)) (D_night_row:Def P w K mg base 1 "night_row" ["canal","night"] [] (nH (jM cP cB cU) cR cN)) (D_text_of:Def P w K mg base 1 "text_of" ["rows"] [] (pB K)):FnOk P w K mg base jP 3 f fd ["canal"] (rH (jM cP cB cU) cR cN):=by
 refine F.ok mH (fun vs H Q E h=>?_) (fun cdv A outer s H vs Q E hr h=>?_)
 ·obtain ⟨x,D,R,L,N,rn,rfl,hc,ok,q⟩:=h
  rfl
 obtain ⟨x,D,R,L,N,rn,rfl,hc,ok,q⟩:=h
 have hu:_<cLine:=hr.units0
 have hu1:=j6 hr
 refine ⟨_,(@jG _ _ _ _ _ (QD (i:=1) ["reach","canal"] (qB 1 [0]) mH.nd rfl (by first|exact Or.inl rfl|exact Or.inr rfl) rfl (qK (jE zO) rfl rfl (by decide +kernel) (by decide +kernel) (by decide +kernel)) (qI 1 [0] rfl rfl (by decide +kernel)) (qC (kB (pv 0) rfl)) (fun _ _ _ _ _=>(kF (i:=0) (show List.Nodup (["reach","canal"]:List Str) from by decide +kernel) rfl (by first|exact Or.inl rfl|exact Or.inr rfl))) (fun _ _ _ _ _=>qU) (fun _ _ _ _ _=>(jU D_reach_row hr rfl (jA (pv 1) (jA (pv 0) jC)))))
   (@jG _ _ _ _ _ (qH (qP PySem.F.plainAttrs_list PySem.F.slot_list_extend PySem.F.type_list_extend iH (pv 1) (jA (vD ["lock","canal"] (qB 1 [0]) rfl (qK (jE zO) rfl rfl (by decide +kernel) (by decide +kernel) (by decide +kernel)) (qI 1 [0] rfl rfl (by decide +kernel)) (qC (kB (pv 0) rfl)) (fun _ _ _ _ _=>(kF (i:=0) (show List.Nodup (["lock","canal"]:List Str) from by decide +kernel) rfl (by first|exact Or.inl rfl|exact Or.inr rfl))) (fun _ _ _ _ _=>qU) (fun _ _ _ _ _=>(jU D_lock_row hr rfl (jA (pv 1) (jA (pv 0) jC))))) jC)))
   (@jG _ _ _ _ _ (qH (qP PySem.F.plainAttrs_list PySem.F.slot_list_extend PySem.F.type_list_extend iH (pv 1) (jA (vD ["night","canal"] (qB 1 [0]) rfl (qK (jE zO) rfl rfl (by decide +kernel) (by decide +kernel) (by decide +kernel)) (qI 1 [0] rfl rfl (by decide +kernel)) (qC (kB (pv 0) rfl)) (fun _ _ _ _ _=>(kF (i:=0) (show List.Nodup (["night","canal"]:List Str) from by decide +kernel) rfl (by first|exact Or.inl rfl|exact Or.inr rfl))) (fun _ _ _ _ _=>qU) (fun _ _ _ _ _=>(jU D_night_row hr rfl (jA (pv 1) (jA (pv 0) jC))))) jC)))
   (@jF _ _ _ (@jO _ _ _ _ (jU D_text_of hr rfl (jA (pv 1) jC))))))),?_⟩
 have hc0:=hc
 obtain ⟨dx,rl,ll,nl,fs,rs,ls,ns,hx,hf,hrl,hll,hnl,hR,hL,hN,d1,d2,d3⟩:=hc
 have b1:=ok.r8
 have b2:=ok.l8
 have b3:=ok.n6
 have hN0:AllAt (NAt [] H) ns N:=hN.mono (NAt.less (by simp))
 refine ⟨_,rfl,x,cN,dx,_,_,rfl,hx,T.clN,T.nN_reaches,hf.1,rl,rfl,⟨_,SqL.of hrl⟩,fun w1 hw10=>?_⟩
 refine qT (K:=K) (a:=rl) (xs:=rs) (caps:=[some (.ref x)]) (fun i ys Hi=>ys=((R.take i).map fun r=>kK rn (.reach r)).map V.str) hw10 (SqL.of hrl) rfl ?_ ?_
 ·rintro i v ys Hi hv hi hle sm hY rfl
  obtain ⟨r,hr,y,rfl,hy⟩:=hR.2 i v hv
  obtain ⟨o1,o2⟩:=ok.reach hr
  have hi8:i<8:=by rw [hR.1] at hi;omega
  refine qW (qM ⟨_,rfl,_,rfl,x,y,D,R,L,N,rn,r,rfl,hc0.same sm,hy.same sm,ok.nm,o1,o2,ok.hrn,fun H' s'=>qL hw10 sm hY hle (by omega) s' ?_⟩)
  rw [List.take_add_one,hr,List.map_append,List.map_append]
  rfl
 rintro ys H1 s1 hw1 hle1 rfl
 rw [hR.1,List.take_length] at hw1
 refine ⟨_,rfl,.inl ⟨rfl,_,SqL.of hw1⟩,_,rfl,x,cN,dx,_,_,rfl,(s1 _ _ hx),T.clN,T.nN_locks,hf.2.1,ll,rfl,⟨_,SqL.of (s1 _ _ hll)⟩,fun w2 hw20=>?_⟩
 refine qT (K:=K) (a:=ll) (xs:=ls) (caps:=[some (.ref x)]) (fun i ys Hi=>ys=((L.take i).map fun l=>kK rn (.lock l)).map V.str) hw20 (SqL.of (s1 _ _ hll)) rfl ?_ ?_
 ·rintro i v ys Hi hv hi hle sm hY rfl
  obtain ⟨l,hl,y,rfl,hy⟩:=hL.2 i v hv
  have hi8:i<8:=by rw [hL.1] at hi;omega
  have sm1:=s1.trans sm
  refine qW (qM ⟨_,rfl,_,rfl,x,y,D,R,L,N,rn,l,rfl,hc0.same sm1,hy.same sm1,ok.nm,ok.lock (List.mem_of_getElem? hl),ok.hrn,fun H' s'=>qL hw20 sm hY hle (by omega) s' ?_⟩)
  rw [List.take_add_one,hl,List.map_append,List.map_append]
  rfl
 rintro ys H2 s2 hw2 hle2 rfl
 rw [hL.1,List.take_length] at hw2
 have hw12:=s2 _ _ hw1
 refine ⟨w1,w2,_,_,rfl,rfl,hw12,hw2,?_,?_⟩
 ·rw [List.length_map,List.length_map,List.length_map,List.length_map];exact small (by omega)
 have s12:Same H (upd H2 w1 (.lst ((R.map fun r=>kK rn (.reach r)).map V.str++(L.map fun l=>kK rn (.lock l)).map V.str))):=kU hw10 (s1.trans s2)
 have hw13:upd H2 w1 (.lst ((R.map fun r=>kK rn (.reach r)).map V.str++(L.map fun l=>kK rn (.lock l)).map V.str)) w1=_:=jD
 generalize upd H2 w1 (.lst ((R.map fun r=>kK rn (.reach r)).map V.str++(L.map fun l=>kK rn (.lock l)).map V.str))=H3 at s12 hw13 ⊢
 refine ⟨_,rfl,.inl ⟨rfl,_,SqL.of hw13⟩,_,rfl,x,cN,dx,_,_,rfl,(s12 _ _ hx),T.clN,T.nN_nights,hf.2.2.1,nl,rfl,⟨_,SqL.of (s12 _ _ hnl)⟩,fun w3 hw30=>?_⟩
 refine qT (K:=K) (a:=nl) (xs:=ns) (caps:=[some (.ref x)]) (fun i ys Hi=>ys=((N.take i).map fun p=>kK rn (.night (v5 p))).map V.str) hw30 (SqL.of (s12 _ _ hnl)) rfl ?_ ?_
 ·rintro i v ys Hi hv hi hle sm hY rfl
  obtain ⟨p,hp,hat⟩:=hN0.2 i v hv
  have hat:=NAt.same (s12.trans sm) _ _ hat
  obtain ⟨y,rfl⟩:∃y,v=.ref y:=by obtain ⟨l,_,e,_⟩:=hat;exact ⟨l,e⟩
  have hi8:i<8:=by rw [hN.1] at hi;omega
  obtain ⟨n1,n2⟩:=ok.nn p (List.mem_of_getElem? hp)
  refine qW (qM ⟨_,rfl,_,rfl,x,y,D,R,L,N,rn,p,rfl,hc0.same (s12.trans sm),hat,ok.nm,n1,n2,b1,ok.hrn,fun H' s'=>qL hw30 sm hY hle (by omega) s' ?_⟩)
  rw [List.take_add_one,hp,List.map_append,List.map_append]
  rfl
 rintro ys H4 s4 hw3 hle4 rfl
 rw [hN.1,List.take_length] at hw3
 have hw14:=s4 _ _ hw13
 refine ⟨w1,w3,_,_,rfl,rfl,hw14,hw3,?_,?_⟩
 ·rw [List.length_append,List.length_map,List.length_map,List.length_map,List.length_map,List.length_map,List.length_map];exact small (by omega)
 have e:(R.map fun r=>kK rn (.reach r)).map V.str++(L.map fun l=>kK rn (.lock l)).map V.str++(N.map fun p=>kK rn (.night (v5 p))).map V.str=(yL rn R L N).map V.str:=by unfold yL;rw [List.map_append,List.map_append]
 rw [e]
 have s5:Same H (upd H4 w1 (.lst ((yL rn R L N).map V.str))):=kU hw10 (s12.trans s4)
 have hw15:upd H4 w1 (.lst ((yL rn R L N).map V.str)) w1=_:=jD
 generalize upd H4 w1 (.lst ((yL rn R L N).map V.str))=H5 at s5 hw15 ⊢
 obtain ⟨ro1,ro2⟩:=FV ok
 exact ⟨_,rfl,w1,yL rn R L N,rfl,SqL.of hw15,by omega,fun z hz=>Nat.le_trans (ro2 z hz) (by decide),fun H6 s6=>q H6 (s5.trans s6)⟩
theorem gF:FnScope ["name","things","place","thing"] ["name","things"] (jE ZQ):=⟨rfl,rfl,rfl,by decide +kernel,rfl,by decide +kernel,by decide +kernel⟩
theorem wO {f:Addr} {fd:FuncData} (F:Fun K "place_called" "place_called" ZQ f fd) (T:Txt K mg cP cB cU cR cN tkS jX jW j4 j3 jZ j0 jY) : FnOk P w K mg base jP 1 f fd ["name","things"] (eG K):=by
 refine F.ok gF (fun vs H Q E h=>?_) (fun cdv A outer s H vs Q E hr h=>?_)
 ·obtain ⟨nm,l,us,zs,i₀,rfl,hl,hA,h100,hfirst,q⟩:=h
  rfl
 obtain ⟨nm,l,us,zs,i₀,rfl,hl,hA,h100,hfirst,q⟩:=h
 have hu:_<cLine:=hr.units0
 have hu1:=j6 hr
 refine ⟨_,(@jG _ _ _ _ _ (vE PassesOwn.never rfl (GB (by rfl) T.z_enumerate (jA (pv 1) jC)) (bH rfl (v4 (kF (i:=2) gF.nd rfl (by first|exact Or.inl rfl|exact Or.inr rfl)) (v4 (kF (i:=3) gF.nd rfl (by first|exact Or.inl rfl|exact Or.inr rfl)) bD)))
    (@jF _ _ _ (j9 (j5 kS (kB (pv 3) rfl) (pv 0) (jT _)) (@jF _ _ _ (@jO _ _ _ _ (pv 2))) kD)))
   (@jF _ _ _ vU)),?_⟩
 refine ⟨_,rfl,l,rfl,⟨_,SqL.of hl⟩,FD (K:=K) (a:=l) (xs:=us) (fun i σ Hi=>∃c2 c3:Option V,σ=[some (.str nm),some (.ref l),c2,c3]∧(∀j:Nat,j<i→zs[j]?≠some nm)∧Same H Hi) ⟨none,none,rfl,fun j hj=>absurd hj (Nat.not_lt_zero j),Same.refl _⟩ (fun i σ Hi _ ⟨_,_,_,_,s⟩=>SqL.of (s _ _ hl)) ?_ ?_⟩
 ·rintro i v σ Hi T₁ hv ⟨c2,c3,rfl,hno,sm⟩ hT
  obtain ⟨z,hz,x,C,dx,fs,rfl,hx,cC,nC,lk⟩:=hA.2 i v hv
  have u:=jK hT (.tup [V.int (i:Int),V.ref x])
  have smu:=sm.trans u
  refine ⟨T₁,_,rfl,SqT.of jD,rfl,_,_,rfl,_,_,rfl,rfl,?_⟩
  refine ⟨_,rfl,x,C,dx,_,_,rfl,smu _ _ hx,cC,nC,lk,_,rfl,rfl,_,rfl,?_⟩
  by_cases h:z=nm
  ·refine kM (congrArg V.str h) ⟨_,rfl,?_⟩
   obtain rfl:i=i₀:=FirstAt.uniq (show FirstAt zs nm i from ⟨by rw [← h];exact hz,hno⟩) hfirst
   exact q _ smu
  ·refine kJ (fun e=>h (V.str.inj e)) ⟨_,_,rfl,fun j hj=>?_,smu⟩
   by_cases c:j=i
   ·rw [c,hz];exact fun e=>h (Option.some.inj e)
   ·exact hno j (by omega)
 rintro σ Hi ⟨c2,c3,rfl,hno,sm⟩
 have hl':i₀<zs.length:=(List.getElem?_eq_some_iff.mp hfirst.1).1
 exact absurd hfirst.1 (hno i₀ (by rw [hA.1];exact hl'))
theorem AL:FnScope ["word","signs"] ["word","signs"] (jE QA):=⟨rfl,rfl,rfl,by decide +kernel,rfl,by decide +kernel,by decide +kernel⟩
theorem xD {f:Addr} {fd:FuncData} (F:Fun K "written_with" "written_with" QA f fd) (T:Txt K mg cP cB cU cR cN tkS jX jW j4 j3 jZ j0 jY) : FnOk P w K mg base jP 1 f fd ["word","signs"] (lB):=by
 refine F.ok AL (fun vs H Q E h=>?_) (fun cdv A outer s H vs Q E hr h=>?_)
 ·obtain ⟨w,S,rfl,hw,q⟩:=h
  rfl
 obtain ⟨w,S,rfl,hw,q⟩:=h
 have hu:_<cLine:=hr.units0
 have hu1:=j6 hr
 refine ⟨_,(@jF _ _ _ (@jO _ _ _ _ (lF (EW bQ bQ jB (kA BG (by rfl) T.z_len PySem.boot_len (jA (pv 0) jC)) (vW (v:=.int 12) rfl T.g_MOST_SIGNS ⟨_,rfl⟩)) (fF (kA (o0 rfl) (by rfl) T.z_all PyProof.Rows.boot_all (jA (vD ["sign","signs"] (qB 1 [1]) rfl (qK (jE QA) rfl rfl (by decide +kernel) (by decide +kernel) (by decide +kernel)) (qI 1 [1] rfl rfl (by decide +kernel)) (HH (pv 0)) (fun _ _ _ _ _=>(kF (i:=0) (show List.Nodup (["sign","signs"]:List Str) from by decide +kernel) rfl (by first|exact Or.inl rfl|exact Or.inr rfl))) (fun _ _ _ _ _=>qU) (fun _ _ _ _ _=>(QF DH (pv 0) (pv 1) (by with_unfolding_all rfl)))) jC)))))),?_⟩
 have hws:w.length≤sizeLine:=small (by omega)
 refine ⟨_,rfl,w,rfl,hws,_,_,rfl,rfl,_,rfl,?_⟩
 have bad:∀H':Hp,Same H H'→vG S w=false→Q (.bl false) H':=fun H' s e=>by
  have:=q H' s
  rw [e] at this
  exact this
 by_cases h1:(1:Int)≤((w.length:Nat):Int)
 ·refine kM h1 ⟨_,_,rfl,rfl,_,rfl,?_⟩
  by_cases h2:((w.length:Nat):Int)≤12
  ·refine kM h2 ⟨_,rfl,w,rfl,fun D hD=>?_⟩
   refine D3 (z:=w) (caps:=[some (.str S)]) (fun i ys Hi=>∃bs:List Bool,ys=bs.map V.bl∧bs.length=i∧bs.all id=QN S w i) hD ⟨[],rfl,rfl,rfl⟩ ?_ ?_
   ·rintro i c ys Hi hc hle sm hY ⟨bs,rfl,hbl,hba⟩
    have hi:i<w.length:=(Array.getElem?_eq_some_iff.mp hc).1
    refine qW (qM ⟨_,rfl,_,rfl,_,_,rfl,rfl,?_⟩)
    refine qL hD sm hY hle (by omega) (Same.refl _) ⟨bs++[bT S c],by rw [List.map_append];rfl,by rw [List.length_append,hbl];rfl,?_⟩
    rw [EE hc,List.all_append,hba]
    simp
   ·rintro ys Hf sm hY hle ⟨bs,rfl,hbl,hba⟩
    refine ⟨D,bs,rfl,SqL.of hY,?_⟩
    have e:bs.all id=vG S w:=by
     unfold vG
     rw [hba,decide_eq_true (show 0<w.length by omega),decide_eq_true (show w.length<13 by omega)]
     rfl
    rw [e]
    exact q Hf sm
  ·refine kJ h2 (bad H (Same.refl _) ?_)
   unfold vG
   rw [decide_eq_false (show ¬w.length<13 by omega),Bool.and_false]
   rfl
 ·refine kJ h1 ⟨_,rfl,kX (bad H (Same.refl _) ?_)⟩
  unfold vG
  rw [decide_eq_false (show ¬0<w.length by omega)]
  rfl
theorem xY:FnScope ["word"] ["word"] (jE ZH):=⟨rfl,rfl,rfl,by decide +kernel,rfl,by decide +kernel,by decide +kernel⟩
theorem wC {f:Addr} {fd:FuncData} (F:Fun K "is_name" "is_name" ZH f fd) (T:Txt K mg cP cB cU cR cN tkS jX jW j4 j3 jZ j0 jY) (D_written_with:Def P w K mg base 1 "written_with" ["word","signs"] [] (lB)):FnOk P w K mg base jP 2 f fd ["word"] (pI):=by
 refine F.ok xY (fun vs H Q E h=>?_) (fun cdv A outer s H vs Q E hr h=>?_)
 ·obtain ⟨w,rfl,hw,q⟩:=h
  rfl
 obtain ⟨w,rfl,hw,q⟩:=h
 have hu:_<cLine:=hr.units0
 have hu1:=j6 hr
 refine ⟨_,(@jF _ _ _ (@jO _ _ _ _ (jU D_written_with hr rfl (jA (pv 0) (jA (vW (v:=.str lettersS) rfl T.g_LETTERS ⟨_,rfl⟩) jC))))),?_⟩
 exact ⟨_,rfl,w,lettersS,rfl,hw,q⟩
theorem xZ:FnScope ["word"] ["word"] (jE ZI):=⟨rfl,rfl,rfl,by decide +kernel,rfl,by decide +kernel,by decide +kernel⟩
theorem wD {f:Addr} {fd:FuncData} (F:Fun K "is_number" "is_number" ZI f fd) (T:Txt K mg cP cB cU cR cN tkS jX jW j4 j3 jZ j0 jY) (D_written_with:Def P w K mg base 1 "written_with" ["word","signs"] [] (lB)):FnOk P w K mg base jP 2 f fd ["word"] (rM):=by
 refine F.ok xZ (fun vs H Q E h=>?_) (fun cdv A outer s H vs Q E hr h=>?_)
 ·obtain ⟨w,rfl,hw,q⟩:=h
  rfl
 obtain ⟨w,rfl,hw,q⟩:=h
 have hu:_<cLine:=hr.units0
 have hu1:=j6 hr
 refine ⟨_,(@jF _ _ _ (@jO _ _ _ _ (IO (QF kS (pv 0) j7 (jT _)) (fF (lF (jU D_written_with hr rfl (jA (pv 0) (jA (vW (v:=.str z8) rfl T.g_FIGURES ⟨_,rfl⟩) jC))) (fF (QF qQ (jI fG (pv 0) jB (fun _ _=>rfl)) j7 (jT _)))))))),?_⟩
 refine ⟨_,rfl,rfl,_,rfl,?_⟩
 unfold bJ at q
 by_cases h0:w="0"
 ·rw [decide_eq_true h0] at q
  exact kM (congrArg V.str h0) (q H (Same.refl _))
 rw [decide_eq_false h0,Bool.false_or] at q
 refine kJ (fun z=>h0 (V.str.inj z)) ⟨_,rfl,w,z8,rfl,hw,fun H1 s1=>⟨_,rfl,?_⟩⟩
 by_cases hg:vG z8 w=true
 ·obtain ⟨h1,h2,h3⟩:=m6 hg
  rw [hg] at q ⊢
  rw [Bool.true_and] at q
  obtain ⟨c,hc,hc2⟩:=FK (z:=w) (i:=0) (Int.le_refl _) (by omega)
  refine qM ⟨_,rfl,w,_,c,rfl,rfl,small (by omega),hc,rfl,?_⟩
  rw [FI]
  have q:=q H1 s1
  rw [show w.cps[0]?=some c from hc2,show decide (some c=some 48)=decide (c=48) from decide_eq_decide.mpr ⟨fun e=>Option.some.inj e,fun e=>by rw [e]⟩] at q
  exact q
 ·rw [Bool.eq_false_iff.mpr hg] at q ⊢
  exact kX (q H1 s1)
theorem x9:FnScope ["word"] ["word"] (jE ZO):=⟨rfl,rfl,rfl,by decide +kernel,rfl,by decide +kernel,by decide +kernel⟩
theorem wL {f:Addr} {fd:FuncData} (F:Fun K "number_of" "number_of" ZO f fd) (T:Txt K mg cP cB cU cR cN tkS jX jW j4 j3 jZ j0 jY) (D_is_number:Def P w K mg base 2 "is_number" ["word"] [] (rM)):FnOk P w K mg base jP 3 f fd ["word"] (rK):=by
 refine F.ok x9 (fun vs H Q E h=>?_) (fun cdv A outer s H vs Q E hr h=>?_)
 ·obtain ⟨w,rfl,⟨hw,hn⟩,q⟩:=h
  rfl
 obtain ⟨w,rfl,⟨hw,hn⟩,q⟩:=h
 have hu:_<cLine:=hr.units0
 have hu1:=j6 hr
 refine ⟨_,(@jG _ _ _ _ _ (j9 (qO (qX (jU D_is_number hr rfl (jA (pv 0) jC)))) (@jF _ _ _ vU) kD)
   (@jF _ _ _ (@jO _ _ _ _ (q8 EC (by rfl) T.z_int PyProof.Rows.boot_int (jA (pv 0) jC))))),?_⟩
 refine ⟨_,rfl,w,rfl,hw,fun H1 s1=>⟨_,rfl,?_⟩⟩
 rw [hn]
 exact kX ⟨_,rfl,w,_,rfl,by omega,DK hw hn,q H1 s1⟩
theorem AA:FnScope ["words"] ["words"] (jE J3):=⟨rfl,rfl,rfl,by decide +kernel,rfl,by decide +kernel,by decide +kernel⟩
theorem wM {f:Addr} {fd:FuncData} (F:Fun K "numbers_of" "numbers_of" J3 f fd) (T:Txt K mg cP cB cU cR cN tkS jX jW j4 j3 jZ j0 jY) (D_number_of:Def P w K mg base 3 "number_of" ["word"] [] (rK)):FnOk P w K mg base jP 4 f fd ["words"] (d6):=by
 refine F.ok AA (fun vs H Q E h=>?_) (fun cdv A outer s H vs Q E hr h=>?_)
 ·obtain ⟨l,ws,rfl,hl,hall,h100,q⟩:=h
  rfl
 obtain ⟨l,ws,rfl,hl,hall,h100,q⟩:=h
 have hu:_<cLine:=hr.units0
 have hu1:=j6 hr
 refine ⟨_,(@jF _ _ _ (@jO _ _ _ _ (vD ["word"] (qB 1 []) rfl (qK (jE J3) rfl rfl (by decide +kernel) (by decide +kernel) (by decide +kernel)) (qI 1 [] rfl rfl (by decide +kernel)) (qC (pv 0)) (fun _ _ _ _ _=>(kF (i:=0) (show List.Nodup (["word"]:List Str) from by decide +kernel) rfl (by first|exact Or.inl rfl|exact Or.inr rfl))) (fun _ _ _ _ _=>qU) (fun _ _ _ _ _=>(jU D_number_of hr rfl (jA (pv 0) jC)))))),?_⟩
 refine ⟨_,rfl,l,rfl,⟨_,SqL.of hl⟩,fun D hD=>?_⟩
 refine qT (K:=K) (a:=l) (xs:=ws.map V.str) (caps:=[]) (fun i ys Hi=>ys=((ws.take i).map JQ).map V.int) hD (SqL.of hl) rfl ?_ ?_
 ·rintro i v ys Hi hv hi hle sm hY rfl
  obtain ⟨w,hw,rfl⟩:=eW hv
  have hi1:i<100:=by rw [List.length_map] at hi;omega
  refine qW (qM ⟨_,rfl,w,rfl,hall w (List.mem_of_getElem? hw),fun H1 s1=>?_⟩)
  refine qL hD sm hY hle (by omega) s1 ?_
  rw [List.take_add_one,hw,List.map_append,List.map_append]
  rfl
 rintro ys Hf sm hY hle rfl
 rw [List.length_map,List.take_length] at hY
 exact q D Hf sm hD hY
theorem AF:FnScope ["words"] ["words"] (jE J5):=⟨rfl,rfl,rfl,by decide +kernel,rfl,by decide +kernel,by decide +kernel⟩
theorem wW {f:Addr} {fd:FuncData} (F:Fun K "refuse_no_names" "refuse_no_names" J5 f fd) (T:Txt K mg cP cB cU cR cN tkS jX jW j4 j3 jZ j0 jY) (D_is_name:Def P w K mg base 2 "is_name" ["word"] [] (pI)):FnOk P w K mg base jP 3 f fd ["words"] (eI):=by
 refine F.ok AF (fun vs H Q E h=>?_) (fun cdv A outer s H vs Q E hr h=>?_)
 ·obtain ⟨l,ws,rfl,hl,hall,h100,q⟩:=h
  rfl
 obtain ⟨l,ws,rfl,hl,hall,h100,q⟩:=h
 have hu:_<cLine:=hr.units0
 have hu1:=j6 hr
 refine ⟨_,(@jF _ _ _ (j9 (qO (qX (kA (o0 rfl) (by rfl) T.z_all PyProof.Rows.boot_all (jA (vD ["word"] (qB 1 []) rfl (qK (jE J5) rfl rfl (by decide +kernel) (by decide +kernel) (by decide +kernel)) (qI 1 [] rfl rfl (by decide +kernel)) (qC (pv 0)) (fun _ _ _ _ _=>(kF (i:=0) (show List.Nodup (["word"]:List Str) from by decide +kernel) rfl (by first|exact Or.inl rfl|exact Or.inr rfl))) (fun _ _ _ _ _=>qU) (fun _ _ _ _ _=>(jU D_is_name hr rfl (jA (pv 0) jC)))) jC)))) (@jF _ _ _ vU) kD)),?_⟩
 refine ⟨_,rfl,l,rfl,⟨_,SqL.of hl⟩,fun D hD=>?_⟩
 refine qT (K:=K) (a:=l) (xs:=ws.map V.str) (caps:=[]) (fun i ys Hi=>ys=(List.replicate i true).map V.bl) hD (SqL.of hl) rfl ?_ ?_
 ·rintro i v ys Hi hv hi hle sm hY rfl
  obtain ⟨w,hw,rfl⟩:=eW hv
  have hi1:i<100:=by rw [List.length_map] at hi;omega
  have hg:=hall w (List.mem_of_getElem? hw)
  refine qW (qM ⟨_,rfl,w,rfl,by have:=DX hg;omega,fun H1 s1=>?_⟩)
  rw [show vG lettersS w=true from hg]
  refine qL hD sm hY hle (by omega) s1 ?_
  rw [List.replicate_succ',List.map_append]
  rfl
 rintro ys Hf sm hY hle rfl
 refine ⟨D,_,rfl,SqL.of hY,_,rfl,?_⟩
 rw [show (List.replicate (ws.map V.str).length true).all id=true by simp]
 exact kX (q Hf sm)
theorem AG:FnScope ["name","things"] ["name","things"] (jE J6):=⟨rfl,rfl,rfl,by decide +kernel,rfl,by decide +kernel,by decide +kernel⟩
theorem wX {f:Addr} {fd:FuncData} (F:Fun K "refuse_told" "refuse_told" J6 f fd) (T:Txt K mg cP cB cU cR cN tkS jX jW j4 j3 jZ j0 jY) : FnOk P w K mg base jP 1 f fd ["name","things"] (lC K):=by
 refine F.ok AG (fun vs H Q E h=>?_) (fun cdv A outer s H vs Q E hr h=>?_)
 ·obtain ⟨nm,l,us,zs,rfl,hl,hA,h100,hno,q⟩:=h
  rfl
 obtain ⟨nm,l,us,zs,rfl,hl,hA,h100,hno,q⟩:=h
 have hu:_<cLine:=hr.units0
 have hu1:=j6 hr
 refine ⟨_,(@jF _ _ _ (j9 (j5 DI (pv 0) (vD ["thing"] (qB 1 []) rfl (qK (jE J6) rfl rfl (by decide +kernel) (by decide +kernel) (by decide +kernel)) (qI 1 [] rfl rfl (by decide +kernel)) (qC (pv 1)) (fun _ _ _ _ _=>(kF (i:=0) (show List.Nodup (["thing"]:List Str) from by decide +kernel) rfl (by first|exact Or.inl rfl|exact Or.inr rfl))) (fun _ _ _ _ _=>qU) (fun _ _ _ _ _=>(cM K (pv 0) rfl))) (by with_unfolding_all rfl)) (@jF _ _ _ vU) kD)),?_⟩
 refine ⟨_,rfl,_,rfl,l,rfl,⟨_,SqL.of hl⟩,fun D hD=>?_⟩
 refine qT (K:=K) (a:=l) (xs:=us) (caps:=[]) (fun i ys Hi=>ys=(zs.take i).map V.str) hD (SqL.of hl) rfl ?_ ?_
 ·rintro i v ys Hi hv hi hle sm hY rfl
  obtain ⟨z,hz,x,C,dx,fs,rfl,hx,cC,nC,lk⟩:=hA.2 i v hv
  refine qW (qM ⟨_,rfl,x,C,dx,_,_,rfl,sm _ _ hx,cC,nC,lk,?_⟩)
  refine qL hD sm hY hle (by omega) (Same.refl _) ?_
  rw [List.take_add_one,hz,List.map_append]
  rfl
 rintro ys Hf sm hY hle rfl
 rw [hA.1,List.take_length] at hY
 refine ⟨D,_,rfl,.inl (SqL.of hY),rfl,C3 zs,_,rfl,?_⟩
 rw [show (if false=true then !QP (V.str nm) (zs.map V.str) else QP (V.str nm) (zs.map V.str))=false from GG hno]
 exact kX (q Hf sm)
theorem AD:FnScope ["reach"] ["reach"] (jE ZV):=⟨rfl,rfl,rfl,by decide +kernel,rfl,by decide +kernel,by decide +kernel⟩
theorem wU {f:Addr} {fd:FuncData} (F:Fun K "refuse_bad_reach" "refuse_bad_reach" ZV f fd) (T:Txt K mg cP cB cU cR cN tkS jX jW j4 j3 jZ j0 jY) : FnOk P w K mg base jP 1 f fd ["reach"] (nK cR):=by
 refine F.ok AD (fun vs H Q E h=>?_) (fun cdv A outer s H vs Q E hr h=>?_)
 ·obtain ⟨y,r,rfl,⟨dy,gs,hy,hg⟩,h1,h2,h3,q⟩:=h
  rfl
 obtain ⟨y,r,rfl,⟨dy,gs,hy,hg⟩,h1,h2,h3,q⟩:=h
 have hu:_<cLine:=hr.units0
 have hu1:=j6 hr
 refine ⟨_,(@jG _ _ _ _ _ (j9 (j5 tD (kB (pv 0) rfl) (kB (pv 0) rfl) (jT _)) (@jF _ _ _ vU) kD)
   (@jF _ _ _ (j9 (qO (pO bQ bQ jB (kB (pv 0) rfl) (vW (v:=.int 9) rfl T.g_MOST_BERTHS ⟨_,rfl⟩))) (@jF _ _ _ vU) kD))),?_⟩
 refine ⟨_,rfl,y,cR,dy,_,_,rfl,hy,T.clR,T.nR_least,hg.2.1,_,rfl,y,cR,dy,_,_,rfl,hy,T.clR,T.nR_crest,hg.2.2.1,_,_,rfl,rfl,_,rfl,kJ (by omega) ?_⟩
 refine ⟨_,rfl,y,cR,dy,_,_,rfl,hy,T.clR,T.nR_berths,hg.2.2.2.1,_,_,rfl,rfl,_,rfl,kM h2 ⟨_,_,rfl,rfl,_,rfl,kZ h3 q⟩⟩
theorem AC:FnScope ["lock"] ["lock"] (jE ZU):=⟨rfl,rfl,rfl,by decide +kernel,rfl,by decide +kernel,by decide +kernel⟩
theorem wT {f:Addr} {fd:FuncData} (F:Fun K "refuse_bad_lock" "refuse_bad_lock" ZU f fd) (T:Txt K mg cP cB cU cR cN tkS jX jW j4 j3 jZ j0 jY) (MP_extra:MeK P w K mg base 1 (jM cP cB cU) "extra" ["self"] (vA (jM cP cB cU) (fun kd v=>V.int (match kd with|.plain=>0|.basin=>v|.pump=>v)))) (MP_kind:MeK P w K mg base 1 (jM cP cB cU) "kind" ["self"] (vA (jM cP cB cU) (fun kd _=>V.str (match kd with|.plain=>"plain"|.basin=>"basin"|.pump=>"pump")))):FnOk P w K mg base jP 2 f fd ["lock"] (oF (jM cP cB cU)):=by
 refine F.ok AC (fun vs H Q E h=>?_) (fun cdv A outer s H vs Q E hr h=>?_)
 ·obtain ⟨y,l,rfl,⟨dl,hl⟩,h1,h2,h3,q⟩:=h
  rfl
 obtain ⟨y,l,rfl,⟨dl,hl⟩,h1,h2,h3,q⟩:=h
 have hu:_<cLine:=hr.units0
 have hu1:=j6 hr
 refine ⟨_,(@jG _ _ _ _ _ (j9 (j5 lM (kB (pv 0) rfl) (kB (pv 0) rfl) (jT _)) (@jF _ _ _ vU) kD)
   (@jG _ _ _ _ _ (j9 (j5 kS (kB (pv 0) rfl) jB (jT _)) (@jF _ _ _ vU) kD)
   (@jF _ _ _ (j9 (PW.pt (cY (j5 qQ (JI MP_kind hr (pv 0)) j7 (jT _)) (eX (qO (pO bQ bQ jB (JI MP_extra hr (pv 0)) (kB (pv 0) rfl)))))) (@jF _ _ _ vU) kD)))),?_⟩
 refine ⟨_,rfl,y,_,dl,_,_,rfl,hl,T.cl l.kd,T.n_low l.kd,dA l.kd _ _ _ _ _,_,rfl,y,_,dl,_,_,rfl,hl,T.cl l.kd,T.n_high l.kd,cT l.kd _ _ _ _ _,_,_,rfl,rfl,_,rfl,kJ (by omega) ?_⟩
 refine ⟨_,rfl,y,_,dl,_,_,rfl,hl,T.cl l.kd,T.n_room l.kd,QG l.kd _ _ _ _ _,rfl,_,rfl,kJ (fun z=>h2 (V.int.inj z)) ?_⟩
 obtain ⟨nm,hi,lo,ro,kd,ex⟩:=l
 cases kd with
 |plain =>
  refine ⟨_,rfl,.plain,y,dl,_,rfl,hl,yD .plain _ _ _ _ _,y,_,_,_,_,_,rfl,⟨dl,hl⟩,rfl,_,rfl,kZ rfl (kX q)⟩
 |basin =>
  refine ⟨_,rfl,.basin,y,dl,_,rfl,hl,yD .basin _ _ _ _ _,y,_,_,_,_,_,rfl,⟨dl,hl⟩,rfl,_,rfl,QJ (fun z=>absurd (V.str.inj z) (by decide +kernel)) ?_⟩
  refine ⟨_,rfl,.basin,y,dl,_,rfl,hl,QE .basin _ _ _ _ _,y,_,_,_,_,_,rfl,⟨dl,hl⟩,_,_,rfl,rfl,_,rfl,kM (h3 (fun z=>nomatch z)).1 ⟨_,rfl,y,_,dl,_,_,rfl,hl,T.cl .basin,T.n_room .basin,QG .basin _ _ _ _ _,_,_,rfl,rfl,_,rfl,kZ (h3 (fun z=>nomatch z)).2 q⟩⟩
 |pump =>
  refine ⟨_,rfl,.pump,y,dl,_,rfl,hl,yD .pump _ _ _ _ _,y,_,_,_,_,_,rfl,⟨dl,hl⟩,rfl,_,rfl,QJ (fun z=>absurd (V.str.inj z) (by decide +kernel)) ?_⟩
  refine ⟨_,rfl,.pump,y,dl,_,rfl,hl,QE .pump _ _ _ _ _,y,_,_,_,_,_,rfl,⟨dl,hl⟩,_,_,rfl,rfl,_,rfl,kM (h3 (fun z=>nomatch z)).1 ⟨_,rfl,y,_,dl,_,_,rfl,hl,T.cl .pump,T.n_room .pump,QG .pump _ _ _ _ _,_,_,rfl,rfl,_,rfl,kZ (h3 (fun z=>nomatch z)).2 q⟩⟩
theorem AE:FnScope ["things","most"] ["things","most"] (jE ZW):=⟨rfl,rfl,rfl,by decide +kernel,rfl,by decide +kernel,by decide +kernel⟩
theorem wV {f:Addr} {fd:FuncData} (F:Fun K "refuse_many" "refuse_many" ZW f fd) (T:Txt K mg cP cB cU cR cN tkS jX jW j4 j3 jZ j0 jY) : FnOk P w K mg base jP 1 f fd ["things","most"] (fB):=by
 refine F.ok AE (fun vs H Q E h=>?_) (fun cdv A outer s H vs Q E hr h=>?_)
 ·obtain ⟨l,us,m,rfl,hl,hm,q⟩:=h
  rfl
 obtain ⟨l,us,m,rfl,hl,hm,q⟩:=h
 have hu:_<cLine:=hr.units0
 have hu1:=j6 hr
 refine ⟨_,(@jF _ _ _ (j9 (j5 lM (kA kQ (by rfl) T.z_len PySem.boot_len (jA (pv 0) jC)) (pv 1) (jT _)) (@jF _ _ _ vU) kD)),?_⟩
 exact ⟨_,rfl,l,_,rfl,.inl (SqL.of hl),_,rfl,_,_,rfl,rfl,_,rfl,kJ (by omega) q⟩
theorem AK:FnScope ["night","many"] ["night","many"] (jE ZZ):=⟨rfl,rfl,rfl,by decide +kernel,rfl,by decide +kernel,by decide +kernel⟩
theorem xC {f:Addr} {fd:FuncData} (F:Fun K "widened" "widened" ZZ f fd) (T:Txt K mg cP cB cU cR cN tkS jX jW j4 j3 jZ j0 jY) : FnOk P w K mg base jP 1 f fd ["night","many"] (gY):=by
 refine F.ok AK (fun vs H Q E h=>?_) (fun cdv A outer s H vs Q E hr h=>?_)
 ·obtain ⟨l,qs,p,n,rfl,hl,hA,hpn,hn,q⟩:=h
  rfl
 obtain ⟨l,qs,p,n,rfl,hl,hA,hpn,hn,q⟩:=h
 have hu:_<cLine:=hr.units0
 have hu1:=j6 hr
 refine ⟨_,(@jF _ _ _ (@jO _ _ _ _ (@jH _ _ _ _ _ _ _ _ yO (pv 0) (@jH _ _ _ _ _ _ _ _ lG (kR (jA (yF (jA jB (jA jB jC))) jC)) (@jH _ _ _ _ _ _ _ _ yM (pv 1) (kA kQ (by rfl) T.z_len PySem.boot_len (jA (pv 0) jC))))))),?_⟩
 have hlen:qs.length=p.length:=hA.1
 refine ⟨_,rfl,zz2,fun t ht=>?_⟩
 have s1:=jK ht (.tup [V.int 0,V.int 0])
 refine ⟨zz1,fun b hb=>?_⟩
 have s2:=jK hb (.lst [V.ref t])
 have s12:=s1.trans s2
 refine ⟨_,rfl,_,rfl,l,_,rfl,.inl (SqL.of (s12 _ _ hl)),_,_,rfl,rfl,b,_,_,rfl,rfl,jD,by omega,by omega,?_,fun c hc=>?_⟩
 ·have:(1000:Nat)≤sizeLine:=by decide
  rw [List.length_singleton];omega
 have s3:=jK hc (.lst (List.replicate ((n:Int) - ((qs.length:Nat):Int)).toNat [V.ref t]).flatten)
 have e:(List.replicate ((n:Int) - ((qs.length:Nat):Int)).toNat [V.ref t]).flatten=List.replicate (n - p.length) (V.ref t):=by
  rw [show ((n:Int) - ((qs.length:Nat):Int)).toNat=n - p.length by omega]
  generalize n - p.length=m
  induction m with
  |zero=>rfl
  |succ m ih=>rw [List.replicate_succ,List.flatten_cons,ih,List.replicate_succ];rfl
 rw [e] at s3 ⊢
 refine ⟨l,c,_,_,rfl,rfl,s3 _ _ (s12 _ _ hl),jD,?_,fun d hd=>?_⟩
 ·have:(1000:Nat)≤sizeLine:=by decide
  rw [List.length_replicate];omega
 have s4:=jK hd (.lst (qs++List.replicate (n - p.length) (V.ref t)))
 have s14:=(s12.trans s3).trans s4
 refine q d _ _ s14 ((s12.trans s3).free hd) jD ?_
 have hz:AllAt (QAt (upd (upd (upd (upd H t (.tup [V.int 0,V.int 0])) b (.lst [V.ref t])) c (.lst (List.replicate (n - p.length) (V.ref t)))) d (.lst (qs++List.replicate (n - p.length) (V.ref t))))) (List.replicate (n - p.length) (V.ref t)) (List.replicate (n - p.length) ((0:Int),(0:Int))):=by
  refine ⟨by rw [List.length_replicate,List.length_replicate],fun i v hv=>?_⟩
  rw [List.getElem?_replicate] at hv
  by_cases hi:i<n - p.length
  ·rw [if_pos hi] at hv
   cases hv
   exact ⟨(0,0),by rw [List.getElem?_replicate,if_pos hi],t,rfl,s4 _ _ (s3 _ _ (s2 _ _ jD))⟩
  ·rw [if_neg hi] at hv;cases hv
 exact (hA.mono (QAt.same s14)).append hz
theorem x8:FnScope ["words","high","low","numbers"] ["words","high","low","numbers"] (jE ZK):=⟨rfl,rfl,rfl,by decide +kernel,rfl,by decide +kernel,by decide +kernel⟩
theorem wG {f:Addr} {fd:FuncData} (F:Fun K "lock_made" "lock_made" ZK f fd) (T:Txt K mg cP cB cU cR cN tkS jX jW j4 j3 jZ j0 jY) (M_PlainLock:MkD P w K mg base 1 "PlainLock" cP ["self","name","high","low","room"] (bC (jM cP cB cU))) (M_BasinLock:MkD P w K mg base 2 "BasinLock" cB ["self","name","high","low","room","side"] (bB (jM cP cB cU) .basin)) (M_PumpLock:MkD P w K mg base 2 "PumpLock" cU ["self","name","high","low","room","lift"] (bB (jM cP cB cU) .pump)):FnOk P w K mg base jP 4 f fd ["words","high","low","numbers"] (nJ (jM cP cB cU)):=by
 refine F.ok x8 (fun vs H Q E h=>?_) (fun cdv A outer s H vs Q E hr h=>?_)
 ·obtain ⟨wl,nl,a,nm,b,c,d,kd,hi,lo,ro,ex,ext,ns,rfl,hwl,hnl,hcase,q⟩:=h
  rfl
 obtain ⟨wl,nl,a,nm,b,c,d,kd,hi,lo,ro,ex,ext,ns,rfl,hwl,hnl,hcase,q⟩:=h
 have hu:_<cLine:=hr.units0
 have hu1:=j6 hr
 refine ⟨_,(@jG _ _ _ _ _ (j9 (j5 kS (kA kQ (by rfl) T.z_len PySem.boot_len (jA (pv 0) jC)) jB (jT _)) (@jF _ _ _ (@jO _ _ _ _ (dC M_PlainLock hr rfl (@jA _ _ _ _ _ (jI jN (pv 0) jB (fun _ _=>rfl)) (@jA _ _ _ _ _ (pv 1) (@jA _ _ _ _ _ (pv 2) (@jA _ _ _ _ _ (jI jN (pv 3) jB (fun _ _=>rfl)) jC (by rfl)) (by rfl)) (by rfl)) (by rfl))))) kD)
   (@jG _ _ _ _ _ (j9 (j5 kS (jI jN (pv 0) jB (fun _ _=>rfl)) j7 (jT _)) (@jF _ _ _ (@jO _ _ _ _ (dC M_BasinLock hr rfl (@jA _ _ _ _ _ (jI jN (pv 0) jB (fun _ _=>rfl)) (@jA _ _ _ _ _ (pv 1) (@jA _ _ _ _ _ (pv 2) (@jA _ _ _ _ _ (jI jN (pv 3) jB (fun _ _=>rfl)) (@jA _ _ _ _ _ (jI jN (pv 3) jB (fun _ _=>rfl)) jC (by rfl)) (by rfl)) (by rfl)) (by rfl)) (by rfl))))) kD)
   (@jF _ _ _ (@jO _ _ _ _ (dC M_PumpLock hr rfl (@jA _ _ _ _ _ (jI jN (pv 0) jB (fun _ _=>rfl)) (@jA _ _ _ _ _ (pv 1) (@jA _ _ _ _ _ (pv 2) (@jA _ _ _ _ _ (jI jN (pv 3) jB (fun _ _=>rfl)) (@jA _ _ _ _ _ (jI jN (pv 3) jB (fun _ _=>rfl)) jC (by rfl)) (by rfl)) (by rfl)) (by rfl)) (by rfl))))))),?_⟩
 rcases hcase with ⟨rfl,rfl,rfl⟩|⟨g,hk,rfl,rfl⟩
 ·refine ⟨_,rfl,wl,_,rfl,.inl (SqL.of hwl),rfl,_,rfl,kM rfl ⟨_,rfl,wl,_,_,_,rfl,rfl,SqL.of hwl,rfl,_,rfl,_,rfl,_,rfl,nl,_,_,_,rfl,rfl,SqL.of hnl,rfl,?_⟩⟩
  intro x dx nx ndx nex
  refine ⟨.plain,x,dx,_,_,_,_,rfl,jD,fun H' kp hx=>⟨rfl,?_⟩⟩
  refine q x H' (fun b₁ o e=>?_) nx ⟨dx,hx⟩
  refine kp b₁ o (kE e nx) ?_
  rw [kC (kE e nx),kC (kE e ndx)]
  exact e
 refine ⟨_,rfl,wl,_,rfl,.inl (SqL.of hwl),rfl,_,rfl,kJ (fun z=>absurd (V.int.inj z) (by show ¬((7:Int)=5);decide)) ?_⟩
 cases kd with
 |plain=>exact absurd rfl hk
 |basin =>
  refine ⟨_,rfl,wl,_,_,_,rfl,rfl,SqL.of hwl,rfl,rfl,_,rfl,kM rfl ⟨_,rfl,wl,_,_,_,rfl,rfl,SqL.of hwl,rfl,_,rfl,_,rfl,_,rfl,nl,_,_,_,rfl,rfl,SqL.of hnl,rfl,_,rfl,nl,_,_,_,rfl,rfl,SqL.of hnl,rfl,?_⟩⟩
  intro x dx nx ndx nex
  refine ⟨x,dx,_,_,_,_,_,rfl,jD,fun H' kp hx=>⟨rfl,?_⟩⟩
  refine q x H' (fun b₁ o e=>?_) nx ⟨dx,hx⟩
  refine kp b₁ o (kE e nx) ?_
  rw [kC (kE e nx),kC (kE e ndx)]
  exact e
 |pump =>
  refine ⟨_,rfl,wl,_,_,_,rfl,rfl,SqL.of hwl,rfl,rfl,_,rfl,kJ (fun z=>K3 (V.str.inj z)) ⟨_,rfl,wl,_,_,_,rfl,rfl,SqL.of hwl,rfl,_,rfl,_,rfl,_,rfl,nl,_,_,_,rfl,rfl,SqL.of hnl,rfl,_,rfl,nl,_,_,_,rfl,rfl,SqL.of hnl,rfl,?_⟩⟩
  intro x dx nx ndx nex
  refine ⟨x,dx,_,_,_,_,_,rfl,jD,fun H' kp hx=>⟨rfl,?_⟩⟩
  refine q x H' (fun b₁ o e=>?_) nx ⟨dx,hx⟩
  refine kp b₁ o (kE e nx) ?_
  rw [kC (kE e nx),kC (kE e ndx)]
  exact e
theorem dZ:FnScope ["words","reaches","numbers","target","reach"] ["words","reaches"] (jE ZS):=⟨rfl,rfl,rfl,by decide +kernel,rfl,by decide +kernel,by decide +kernel⟩
theorem wQ {f:Addr} {fd:FuncData} (F:Fun K "reach_read" "reach_read" ZS f fd) (T:Txt K mg cP cB cU cR cN tkS jX jW j4 j3 jZ j0 jY) (D_refuse_no_names:Def P w K mg base 3 "refuse_no_names" ["words"] [] (eI)) (D_numbers_of:Def P w K mg base 4 "numbers_of" ["words"] [] (d6)) (D_refuse_told:Def P w K mg base 1 "refuse_told" ["name","things"] [] (lC K)) (D_place_called:Def P w K mg base 1 "place_called" ["name","things"] [] (eG K)) (M_Reach:MkD P w K mg base 1 "Reach" cR ["self","name","least","crest","berths","water","target"] (gN cR)) (D_refuse_bad_reach:Def P w K mg base 1 "refuse_bad_reach" ["reach"] [] (nK cR)) (D_refuse_many:Def P w K mg base 1 "refuse_many" ["things","most"] [] (fB)):FnOk P w K mg base jP 5 f fd ["words","reaches"] (mS cR):=by
 refine F.ok dZ (fun vs H Q E h=>?_) (fun cdv A outer s H vs Q E hr h=>?_)
 ·obtain ⟨wl,rl,ws,rs,R,r,rfl,hwl,hrl,hR,⟨w2,w3,w4,w5,tg,rfl,hsea,n1,n6,m2,m3,m4,m5,hno,htg,c1,c2,c3,c4⟩,q⟩:=h
  rfl
 obtain ⟨wl,rl,ws,rs,R,r,rfl,hwl,hrl,hR,⟨w2,w3,w4,w5,tg,rfl,hsea,n1,n6,m2,m3,m4,m5,hno,htg,c1,c2,c3,c4⟩,q⟩:=h
 have hu:_<cLine:=hr.units0
 have hu1:=j6 hr
 refine ⟨_,(@jG _ _ _ _ _ (j9 (PW.pt (vQ (j5 qQ (kA kQ (by rfl) T.z_len PySem.boot_len (jA (pv 0) jC)) jB (jT _)) (yE (j5 kS (jI jN (pv 0) jB (fun _ _=>rfl)) j7 (jT _))))) (@jF _ _ _ vU) kD)
   (@jG _ _ _ _ _ (qH (jU D_refuse_no_names hr rfl (jA (kR (jA (jI jN (pv 0) jB (fun _ _=>rfl)) (jA (jI jN (pv 0) jB (fun _ _=>rfl)) jC))) jC)))
   (@jG _ _ _ _ _ (jV (i:=2) dZ.nd rfl (by first|exact Or.inl rfl|exact Or.inr rfl) (jU D_numbers_of hr rfl (jA (yK cL (pv 0) (qN jB) (qN jB)) jC)))
   (@jG _ _ _ _ _ (qH (jU D_refuse_told hr rfl (jA (jI jN (pv 0) jB (fun _ _=>rfl)) (jA (pv 1) jC))))
   (v6 (jV (i:=3) dZ.nd rfl (by first|exact Or.inl rfl|exact Or.inr rfl) (Z9 (j5 kS (jI jN (pv 0) jB (fun _ _=>rfl)) j7 (jT _)) (vW (v:=.int (-1)) rfl T.g_SEA ⟨_,rfl⟩) (jU D_place_called hr rfl (jA (jI jN (pv 0) jB (fun _ _=>rfl)) (jA (pv 1) jC)))))
   (@jG _ _ _ _ _ (jV (i:=4) dZ.nd rfl (by first|exact Or.inl rfl|exact Or.inr rfl) (dC M_Reach hr rfl (@jA _ _ _ _ _ (jI jN (pv 0) jB (fun _ _=>rfl)) (@jA _ _ _ _ _ (jI jN (pv 2) jB (fun _ _=>rfl)) (@jA _ _ _ _ _ (jI jN (pv 2) jB (fun _ _=>rfl)) (@jA _ _ _ _ _ (jI jN (pv 2) jB (fun _ _=>rfl)) (@jA _ _ _ _ _ (jI jN (pv 2) jB (fun _ _=>rfl)) (@jA _ _ _ _ _ (pv 3) jC (by rfl)) (by rfl)) (by rfl)) (by rfl)) (by rfl)) (by rfl))))
   (@jG _ _ _ _ _ (qH (jU D_refuse_bad_reach hr rfl (jA (pv 4) jC)))
   (@jG _ _ _ _ _ (qH (jU D_refuse_many hr rfl (jA (pv 1) (jA (vW (v:=.int 8) rfl T.g_MOST_REACHES ⟨_,rfl⟩) jC))))
   (@jF _ _ _ (@jO _ _ _ _ (pv 4))))))))))),?_⟩
 have hr8:rs.length<8:=by rw [hR.1];exact c4
 refine ⟨_,rfl,wl,_,rfl,.inl (SqL.of hwl),rfl,_,rfl,kZ rfl ⟨_,rfl,wl,_,_,_,rfl,rfl,SqL.of hwl,rfl,rfl,_,rfl,kJ (fun z=>hsea (V.str.inj z)) ?_⟩⟩
 refine ⟨_,rfl,wl,_,_,_,rfl,rfl,SqL.of hwl,rfl,_,rfl,wl,_,_,_,rfl,rfl,SqL.of hwl,rfl,zz2,fun p hp=>?_⟩
 have s1:=jK hp (.lst [V.str r.name,V.str tg])
 refine ⟨p,[r.name,tg],rfl,jD,fun w hw=>?_,(by show 2≤100;decide),fun H2 s2=>?_⟩
 ·rcases List.mem_cons.mp hw with rfl|hw
  ·exact n1
  ·rw [List.mem_singleton.mp hw];exact n6
 have s12:=s1.trans s2
 refine ⟨_,rfl,_,rfl,_,rfl,wl,_,rfl,SqL.of (s12 _ _ hwl),fun c hc=>?_⟩
 have s3:=jK hc (.lst ([w2,w3,w4,w5].map V.str))
 refine ⟨c,[w2,w3,w4,w5],rfl,jD,fun w hw=>?_,(by show 4≤100;decide),fun nl H4 s4 hn0 hnl=>?_⟩
 ·simp only [List.mem_cons,List.mem_nil_iff,or_false] at hw
  rcases hw with rfl|rfl|rfl|rfl
  ·exact m2.1
  ·exact m3.1
  ·exact m4.1
  ·exact m5.1
 have s14:=s12.trans (s3.trans s4)
 rw [show ([w2,w3,w4,w5].map JQ).map V.int=[V.int r.least,V.int r.crest,V.int r.berths,V.int r.water] by rw [← m2.2,← m3.2,← m4.2,← m5.2];rfl] at hnl
 refine ⟨_,rfl,wl,_,_,_,rfl,rfl,SqL.of (s14 _ _ hwl),rfl,_,rfl,r.name,rl,rs,q0 R,rfl,s14 _ _ hrl,cO T.clR T.nR_name (hR.mono (RcO.same s14)),by omega,hno,fun H5 s5=>?_⟩
 have s15:=s14.trans s5
 refine ⟨fun σ' H'=>σ'=[some (.ref wl),some (.ref rl),some (.ref nl),some (.int r.target),none]∧Same H5 H',?_,?_⟩
 ·refine ⟨_,rfl,wl,_,_,_,rfl,rfl,SqL.of (s15 _ _ hwl),rfl,rfl,_,rfl,?_⟩
  rcases htg with ⟨e1,e2⟩|⟨e1,i,e2,e3⟩
  ·refine kM (congrArg V.str e1) ⟨?_,Same.refl _⟩
   rw [e2];rfl
  ·refine kJ (fun z=>e1 (V.str.inj z)) ⟨_,rfl,wl,_,_,_,rfl,rfl,SqL.of (s15 _ _ hwl),rfl,_,rfl,tg,rl,rs,q0 R,i,rfl,s15 _ _ hrl,cO T.clR T.nR_name (hR.mono (RcO.same s15)),by omega,e2,fun H6 s6=>⟨?_,s6⟩⟩
   rw [e3];rfl
 rintro σ' H6 ⟨rfl,s6⟩
 have s16:=s15.trans s6
 have hnl6:=s6 _ _ (s5 _ _ hnl)
 refine ⟨_,rfl,wl,_,_,_,rfl,rfl,SqL.of (s16 _ _ hwl),rfl,_,rfl,nl,_,_,_,rfl,rfl,SqL.of hnl6,rfl,_,rfl,nl,_,_,_,rfl,rfl,SqL.of hnl6,rfl,_,rfl,nl,_,_,_,rfl,rfl,SqL.of hnl6,rfl,_,rfl,nl,_,_,_,rfl,rfl,SqL.of hnl6,rfl,_,rfl,?_⟩
 intro x dx nx ndx nex
 refine ⟨x,dx,_,_,_,_,_,_,rfl,jD,fun H' fs kp hx hfl=>⟨rfl,?_⟩⟩
 have u:Same H6 H':=fun b o e=>kp b o (kE e nx) (by rw [kC (kE e nx),kC (kE e ndx)];exact e)
 have hrc:RcAt cR H' x r:=⟨dx,fs,hx,hfl⟩
 refine ⟨_,rfl,x,r,rfl,hrc,c1,c2,c3,?_⟩
 refine ⟨_,rfl,rl,rs,8,rfl,u _ _ (s16 _ _ hrl),by omega,?_⟩
 exact ⟨_,rfl,q x H' (s16.trans u) (s16.free nx) hrc⟩
theorem bZ:FnScope ["words","reaches","locks","numbers","high","low","lock"] ["words","reaches","locks"] (jE ZL):=⟨rfl,rfl,rfl,by decide +kernel,rfl,by decide +kernel,by decide +kernel⟩
theorem wH {f:Addr} {fd:FuncData} (F:Fun K "lock_read" "lock_read" ZL f fd) (T:Txt K mg cP cB cU cR cN tkS jX jW j4 j3 jZ j0 jY) (D_refuse_no_names:Def P w K mg base 3 "refuse_no_names" ["words"] [] (eI)) (D_numbers_of:Def P w K mg base 4 "numbers_of" ["words"] [] (d6)) (D_refuse_told:Def P w K mg base 1 "refuse_told" ["name","things"] [] (lC K)) (D_place_called:Def P w K mg base 1 "place_called" ["name","things"] [] (eG K)) (D_lock_made:Def P w K mg base 4 "lock_made" ["words","high","low","numbers"] [] (nJ (jM cP cB cU))) (D_refuse_bad_lock:Def P w K mg base 2 "refuse_bad_lock" ["lock"] [] (oF (jM cP cB cU))) (D_refuse_many:Def P w K mg base 1 "refuse_many" ["things","most"] [] (fB)):FnOk P w K mg base jP 5 f fd ["words","reaches","locks"] (nI (jM cP cB cU) cR):=by
 refine F.ok bZ (fun vs H Q E h=>?_) (fun cdv A outer s H vs Q E hr h=>?_)
 ·obtain ⟨wl,rl,ll,ws,rs,ls,R,L,l,rfl,hwl,hrl,hll,hR,hL,h8,⟨hi,lo,w4,ext,i,j,hws,n1,n2,n3,m4,hcase,hno,f1,e1,f2,e2,c1,c2,c3,c4⟩,q⟩:=h
  rfl
 obtain ⟨wl,rl,ll,ws,rs,ls,R,L,l,rfl,hwl,hrl,hll,hR,hL,h8,⟨hi,lo,w4,ext,i,j,hws,n1,n2,n3,m4,hcase,hno,f1,e1,f2,e2,c1,c2,c3,c4⟩,q⟩:=h
 have hu:_<cLine:=hr.units0
 have hu1:=j6 hr
 refine ⟨_,(v6 (j9 (PW.pt (cY (j5 qQ (kA kQ (by rfl) T.z_len PySem.boot_len (jA (pv 0) jC)) jB (jT _)) (eX (PW.pt (vQ (j5 qQ (kA kQ (by rfl) T.z_len PySem.boot_len (jA (pv 0) jC)) jB (jT _)) (yE (j5 BC (jI jN (pv 0) jB (fun _ _=>rfl)) (yF (jA j7 (jA j7 jC))) (by with_unfolding_all rfl)))))))) (@jF _ _ _ vU) kD)
   (@jG _ _ _ _ _ (qH (jU D_refuse_no_names hr rfl (jA (yK cL (pv 0) (qN jB) (qN jB)) jC)))
   (@jG _ _ _ _ _ (jV (i:=3) bZ.nd rfl (by first|exact Or.inl rfl|exact Or.inr rfl) (jU D_numbers_of hr rfl (jA (@jH _ _ _ _ _ _ _ _ yO (yK cL (pv 0) (qN jB) (qN jB)) (yK cL (pv 0) (qN jB) zG)) jC)))
   (@jG _ _ _ _ _ (qH (jU D_refuse_told hr rfl (jA (jI jN (pv 0) jB (fun _ _=>rfl)) (jA (pv 2) jC))))
   (@jG _ _ _ _ _ (jV (i:=4) bZ.nd rfl (by first|exact Or.inl rfl|exact Or.inr rfl) (jU D_place_called hr rfl (jA (jI jN (pv 0) jB (fun _ _=>rfl)) (jA (pv 1) jC))))
   (@jG _ _ _ _ _ (jV (i:=5) bZ.nd rfl (by first|exact Or.inl rfl|exact Or.inr rfl) (jU D_place_called hr rfl (jA (jI jN (pv 0) jB (fun _ _=>rfl)) (jA (pv 1) jC))))
   (@jG _ _ _ _ _ (jV (i:=6) bZ.nd rfl (by first|exact Or.inl rfl|exact Or.inr rfl) (jU D_lock_made hr rfl (@jA _ _ _ _ _ (pv 0) (@jA _ _ _ _ _ (pv 4) (@jA _ _ _ _ _ (pv 5) (@jA _ _ _ _ _ (pv 3) jC (by rfl)) (by rfl)) (by rfl)) (by rfl))))
   (@jG _ _ _ _ _ (qH (jU D_refuse_bad_lock hr rfl (jA (pv 6) jC)))
   (@jG _ _ _ _ _ (qH (jU D_refuse_many hr rfl (jA (pv 2) (jA (vW (v:=.int 8) rfl T.g_MOST_LOCKS ⟨_,rfl⟩) jC))))
   (@jF _ _ _ (@jO _ _ _ _ (pv 6)))))))))))),?_⟩
 have hr8:rs.length≤8:=by rw [hR.1];exact h8
 have hl8:ls.length<8:=by rw [hL.1];exact c4
 have facts:qF (ws.map V.str) 1=some (V.str l.name)∧qF (ws.map V.str) 2=some (V.str hi)∧qF (ws.map V.str) 3=some (V.str lo)∧vS (ws.map V.str) (some 1) (some 4)=[l.name,hi,lo].map V.str∧vS (ws.map V.str) (some 4) (some 5)=[w4].map V.str∧vS (ws.map V.str) (some 6) none=(ext.drop 1).map V.str:=by
  rcases hcase with ⟨_,rfl⟩|⟨g,_,rfl,_⟩<;>subst hws<;>exact ⟨rfl,rfl,rfl,rfl,rfl,rfl⟩
 obtain ⟨a1,a2,a3,k1,k4,k6⟩:=facts
 refine ⟨fun σ' H'=>σ'=[some (.ref wl),some (.ref rl),some (.ref ll),none,none,none,none]∧Same H H',?_,?_⟩
 ·rcases hcase with ⟨_,rfl⟩|⟨g,hk,rfl,_⟩
  ·subst hws
   exact ⟨_,rfl,wl,_,rfl,.inl (SqL.of hwl),rfl,_,rfl,kZ rfl ⟨rfl,Same.refl _⟩⟩
  ·subst hws
   refine ⟨_,rfl,wl,_,rfl,.inl (SqL.of hwl),rfl,_,rfl,QJ (fun z=>absurd (V.int.inj z) (by show ¬((7:Int)=5);decide)) ⟨_,rfl,wl,_,rfl,.inl (SqL.of hwl),rfl,_,rfl,kZ rfl ⟨_,rfl,wl,_,_,_,rfl,rfl,SqL.of hwl,rfl,zz2,fun tp htp=>?_⟩⟩⟩
   have hin:QP (V.str (yI l.kd)) [V.str "basin",V.str "pump"]=true:=by
    cases hq:l.kd with
    |plain=>exact absurd hq hk
    |basin=>decide +kernel
    |pump=>decide +kernel
   refine ⟨tp,_,rfl,.inr (SqT.of jD),rfl,rfl,_,rfl,?_⟩
   rw [hin]
   exact kX ⟨rfl,jK htp _⟩
 rintro σ' H1 ⟨rfl,s1⟩
 refine ⟨_,rfl,_,rfl,_,rfl,wl,_,rfl,SqL.of (s1 _ _ hwl),fun p hp=>?_⟩
 rw [k1]
 have s2:=jK hp (.lst ([l.name,hi,lo].map V.str))
 refine ⟨p,[l.name,hi,lo],rfl,jD,fun w hw=>?_,(by show 3≤100;decide),fun H3 s3=>?_⟩
 ·simp only [List.mem_cons,List.mem_nil_iff,or_false] at hw
  rcases hw with rfl|rfl|rfl
  ·exact n1
  ·exact n2
  ·exact n3
 have s13:=s1.trans (s2.trans s3)
 refine ⟨_,rfl,_,rfl,_,rfl,wl,_,rfl,SqL.of (s13 _ _ hwl),fun c hc=>?_⟩
 rw [k4]
 have s4:=jK hc (.lst ([w4].map V.str))
 have s14:=s13.trans s4
 refine ⟨_,rfl,_,rfl,wl,_,rfl,SqL.of (s14 _ _ hwl),fun d hd=>?_⟩
 rw [k6]
 have s5:=jK hd (.lst ((ext.drop 1).map V.str))
 have s15:=s14.trans s5
 have hx2:ext.length≤2:=by rcases hcase with ⟨_,rfl⟩|⟨g,_,rfl,_⟩;exact Nat.zero_le _;exact Nat.le_refl _
 have hdl:(ext.drop 1).length≤1:=by rw [List.length_drop];omega
 refine ⟨c,d,_,_,rfl,rfl,s5 _ _ jD,jD,small (by rw [List.length_map,List.length_map];show 1+_≤1000;omega),fun e he=>?_⟩
 have s6:=jK he (.lst ([w4].map V.str++(ext.drop 1).map V.str))
 have s16:=s15.trans s6
 refine ⟨e,w4::ext.drop 1,rfl,jD,fun w hw=>?_,by rw [List.length_cons];omega,fun nl H7 s7 hn0 hnl=>?_⟩
 ·rcases List.mem_cons.mp hw with rfl|hw
  ·exact m4.1
  ·rcases hcase with ⟨_,rfl⟩|⟨g,_,rfl,hg⟩
   ·cases hw
   ·rw [List.mem_singleton.mp hw];exact hg.1
 have s17:=s16.trans s7
 refine ⟨_,rfl,wl,_,_,_,rfl,rfl,SqL.of (s17 _ _ hwl),a1,_,rfl,l.name,ll,ls,QO L,rfl,s17 _ _ hll,GH T.cl T.n_name (hL.mono (LkO.same s17)),by omega,hno,fun H8 s8=>?_⟩
 have s18:=s17.trans s8
 refine ⟨_,rfl,wl,_,_,_,rfl,rfl,SqL.of (s18 _ _ hwl),a2,_,rfl,hi,rl,rs,q0 R,i,rfl,s18 _ _ hrl,cO T.clR T.nR_name (hR.mono (RcO.same s18)),by omega,f1,fun H9 s9=>?_⟩
 have s19:=s18.trans s9
 refine ⟨_,rfl,wl,_,_,_,rfl,rfl,SqL.of (s19 _ _ hwl),a3,_,rfl,lo,rl,rs,q0 R,j,rfl,s19 _ _ hrl,cO T.clR T.nR_name (hR.mono (RcO.same s19)),by omega,f2,fun HA sA=>?_⟩
 have s1A:=s19.trans sA
 have hnA:=sA _ _ (s9 _ _ (s8 _ _ hnl))
 refine ⟨_,rfl,_,rfl,_,rfl,_,rfl,wl,nl,"lock",l.name,hi,lo,w4,l.kd,(i:Int),(j:Int),l.room,l.extra,ext,(w4::ext.drop 1).map JQ,rfl,?_,hnA,?_,fun x HB sB hx0 hlk=>?_⟩
 ·rw [s1A _ _ hwl,hws]
 ·rcases hcase with ⟨hk,rfl⟩|⟨g,hk,rfl,hg⟩
  ·exact .inl ⟨hk,rfl,by rw [← m4.2];rfl⟩
  ·exact .inr ⟨g,hk,rfl,by rw [← m4.2,← hg.2];rfl⟩
 rw [← e1,← e2] at hlk
 refine ⟨_,rfl,x,l,rfl,hlk,c1,c2,c3,?_⟩
 refine ⟨_,rfl,ll,ls,8,rfl,sB _ _ (s1A _ _ hll),by omega,?_⟩
 exact ⟨_,rfl,q x HB (s1A.trans sB) (s1A.free hx0) ⟨x,rfl,hlk⟩⟩
theorem QC:FnScope ["words","reaches","nights","names","weather","places","night","place","pair"] ["words","reaches","nights"] (jE J0):=⟨rfl,rfl,rfl,by decide +kernel,rfl,by decide +kernel,by decide +kernel⟩
theorem wJ {f:Addr} {fd:FuncData} (F:Fun K "night_read" "night_read" J0 f fd) (T:Txt K mg cP cB cU cR cN tkS jX jW j4 j3 jZ j0 jY) (D_refuse_no_names:Def P w K mg base 3 "refuse_no_names" ["words"] [] (eI)) (D_numbers_of:Def P w K mg base 4 "numbers_of" ["words"] [] (d6)) (D_place_called:Def P w K mg base 1 "place_called" ["name","things"] [] (eG K)) (D_refuse_many:Def P w K mg base 1 "refuse_many" ["things","most"] [] (fB)) (D_widened:Def P w K mg base 1 "widened" ["night","many"] [] (gY)):FnOk P w K mg base jP 5 f fd ["words","reaches","nights"] (mT cR):=by
 refine F.ok QC (fun vs H Q E h=>?_) (fun cdv A outer s H vs Q E hr h=>?_)
 ·obtain ⟨wl,rl,nl,ws,rs,ms,R,N,p,rfl,hwl,hrl,hnl,hR,hmN,h8,⟨qs,ts,rfl,hqt,hq30,htr,hnd,rfl,h6⟩,q⟩:=h
  rfl
 obtain ⟨wl,rl,nl,ws,rs,ms,R,N,p,rfl,hwl,hrl,hnl,hR,hmN,h8,⟨qs,ts,rfl,hqt,hq30,htr,hnd,rfl,h6⟩,q⟩:=h
 have hu:_<cLine:=hr.units0
 have hu1:=j6 hr
 refine ⟨_,(@jG _ _ _ _ _ (j9 (j5 qQ (@jH _ _ _ _ _ _ _ _ kO (kA kQ (by rfl) T.z_len PySem.boot_len (jA (pv 0) jC)) jB) jB (jT _)) (@jF _ _ _ vU) kD)
   (@jG _ _ _ _ _ (jV (i:=3) QC.nd rfl (by first|exact Or.inl rfl|exact Or.inr rfl) (iE (pv 0) (qN jB) zG (qN jB)))
   (@jG _ _ _ _ _ (qH (jU D_refuse_no_names hr rfl (jA (pv 3) jC)))
   (@jG _ _ _ _ _ (jV (i:=4) QC.nd rfl (by first|exact Or.inl rfl|exact Or.inr rfl) (B7 rfl (by rfl) T.z_list (by rfl) T.z_zip (jA (jU D_numbers_of hr rfl (jA (iE (pv 0) (qN jB) zG (qN jB)) jC)) (jA (jU D_numbers_of hr rfl (jA (iE (pv 0) (qN jB) zG (qN jB)) jC)) jC))))
   (@jG _ _ _ _ _ (j9 (j5 qQ (DE rfl (by rfl) T.z_len (by rfl) T.z_set (pv 3)) (kA kQ (by rfl) T.z_len PySem.boot_len (jA (pv 3) jC)) (jT _)) (@jF _ _ _ vU) kD)
   (@jG _ _ _ _ _ (QD (i:=5) ["name","reaches"] (qB 1 [1]) QC.nd rfl (by first|exact Or.inl rfl|exact Or.inr rfl) rfl (qK (jE J0) rfl rfl (by decide +kernel) (by decide +kernel) (by decide +kernel)) (qI 1 [1] rfl rfl (by decide +kernel)) (qC (pv 3)) (fun _ _ _ _ _=>(kF (i:=0) (show List.Nodup (["name","reaches"]:List Str) from by decide +kernel) rfl (by first|exact Or.inl rfl|exact Or.inr rfl))) (fun _ _ _ _ _=>qU) (fun _ _ _ _ _=>(jU D_place_called hr rfl (jA (pv 0) (jA (pv 1) jC)))))
   (@jG _ _ _ _ _ (qH (jU D_refuse_many hr rfl (jA (pv 2) (jA (vW (v:=.int 6) rfl T.g_MOST_NIGHTS ⟨_,rfl⟩) jC))))
   (@jG _ _ _ _ _ (jV (i:=6) QC.nd rfl (by first|exact Or.inl rfl|exact Or.inr rfl) (jU D_widened hr rfl (jA (kR jC) (jA (kA kQ (by rfl) T.z_len PySem.boot_len (jA (pv 1) jC)) jC))))
   (@jG _ _ _ _ _ (vE PassesOwn.never rfl (sO (by rfl) T.z_zip (jA (pv 5) (jA (pv 4) jC))) (bH rfl (v4 (kF (i:=7) QC.nd rfl (by first|exact Or.inl rfl|exact Or.inr rfl)) (v4 (kF (i:=8) QC.nd rfl (by first|exact Or.inl rfl|exact Or.inr rfl)) bD)))
    (@jF _ _ _ (bG (pv 8) (bI (pv 6) (pv 7) zR))))
   (@jF _ _ _ (@jO _ _ _ _ (pv 6)))))))))))),?_⟩
 have hr8:rs.length≤8:=by rw [hR.1];exact h8
 have hlen:((("night":Str)::vR qs).map V.str).length=3*qs.length+1:=by rw [List.length_map,List.length_cons,oU]
 obtain ⟨k1,k2,k3⟩:=B6 qs
 have trip:∀(i:Nat) (q:Str×Str×Str),qs[i]?=some q→∃t,ts[i]?=some t∧lH (q0 R) q t:=fun i q hq=>by
  have hi:i<ts.length:=by rw [← hqt];exact (List.getElem?_eq_some_iff.mp hq).1
  exact ⟨_,List.getElem?_eq_getElem hi,htr i q _ hq (List.getElem?_eq_getElem hi)⟩
 have tripM:∀q∈qs,∃t,lH (q0 R) q t:=fun q hq=>by
  obtain ⟨i,hi⟩:=List.mem_iff_getElem?.mp hq
  obtain ⟨t,_,ht⟩:=trip i q hi
  exact ⟨t,ht⟩
 refine ⟨_,rfl,wl,_,rfl,.inl (SqL.of hwl),_,_,rfl,rfl,(by show (0:Int)<3;decide),rfl,_,rfl,kZ (by rw [hlen];exact congrArg V.int (by omega)) ?_⟩
 refine ⟨_,rfl,_,rfl,_,rfl,wl,_,rfl,SqL.of hwl,(fun z=>nomatch z),fun c hc=>?_⟩
 rw [k1]
 have s1:=jK hc (.lst ((qs.map (·.1)).map V.str))
 refine ⟨_,rfl,c,qs.map (·.1),rfl,jD,fun w hw=>?_,by rw [List.length_map];omega,fun H2 s2=>?_⟩
 ·obtain ⟨q,hq,rfl⟩:=List.mem_map.mp hw
  obtain ⟨t,ht⟩:=tripM q hq
  exact ht.1
 have s12:=s1.trans s2
 have hc2:=s2 _ _ (jD (H:=H) (a:=c) (o:=.lst ((qs.map (·.1)).map V.str)))
 refine ⟨_,rfl,_,rfl,_,rfl,wl,_,rfl,SqL.of (s12 _ _ hwl),(fun z=>nomatch z),fun d hd=>?_⟩
 rw [k2]
 have s3:=jK hd (.lst ((qs.map (·.2.1)).map V.str))
 have s13:=s12.trans s3
 refine ⟨d,qs.map (·.2.1),rfl,jD,fun w hw=>?_,by rw [List.length_map];omega,fun xl H4 s4 hxl0 hxl=>?_⟩
 ·obtain ⟨q,hq,rfl⟩:=List.mem_map.mp hw
  obtain ⟨t,ht⟩:=tripM q hq
  exact ht.2.2.1.1
 have s14:=s13.trans s4
 refine ⟨_,rfl,_,rfl,_,rfl,wl,_,rfl,SqL.of (s14 _ _ hwl),(fun z=>nomatch z),fun e he=>?_⟩
 rw [k3]
 have s5:=jK he (.lst ((qs.map (·.2.2)).map V.str))
 have s15:=s14.trans s5
 refine ⟨e,qs.map (·.2.2),rfl,jD,fun w hw=>?_,by rw [List.length_map];omega,fun yl H6 s6 hyl0 hyl=>?_⟩
 ·obtain ⟨q,hq,rfl⟩:=List.mem_map.mp hw
  obtain ⟨t,ht⟩:=tripM q hq
  exact ht.2.2.2.1
 have s16:=s15.trans s6
 have hxl6:=s6 _ _ (s5 _ _ hxl)
 refine ⟨xl,yl,_,_,rfl,SqL.of hxl6,SqL.of hyl,fun wt us H7 s7 hwt0 hwt hul hus=>?_⟩
 have s17:=s16.trans s7
 have hul:us.length=qs.length:=by rw [hul];simp only [List.length_map];exact Nat.min_self _
 have s37:Same H2 H7:=((s3.trans s4).trans (s5.trans s6)).trans s7
 refine ⟨_,rfl,c,qs.map (·.1),rfl,SqL.of (s37 _ _ hc2),by rw [List.length_map];omega,_,rfl,c,_,rfl,.inl (SqL.of (s37 _ _ hc2)),rfl,_,rfl,kZ (congrArg (fun n:Nat=>V.int (n:Int)) (by rw [(CC _).mpr hnd];exact (List.length_map _).symm)) ?_⟩
 refine ⟨_,rfl,c,rfl,⟨_,SqL.of (s37 _ _ hc2)⟩,fun D hD=>?_⟩
 refine qT (K:=K) (a:=c) (xs:=(qs.map (·.1)).map V.str) (caps:=[some (.ref rl)]) (fun i ys Hi=>ys=((ts.take i).map (fun t:Nat×Int×Int=>(t.1:Int))).map V.int) hD (SqL.of (s37 _ _ hc2)) rfl ?_ ?_
 ·rintro i v ys Hi hv hi hle sm hY rfl
  obtain ⟨w,hw,rfl⟩:=eW hv
  rw [List.getElem?_map] at hw
  cases hq:qs[i]? with
  |none=>rw [hq] at hw;cases hw
  |some q₁ =>
   rw [hq] at hw
   cases hw
   obtain ⟨t,ht,hti⟩:=trip i q₁ hq
   have hi1:i<100:=by rw [List.length_map,List.length_map] at hi;omega
   have s1i:=s17.trans sm
   refine qW (qM ⟨_,rfl,_,rfl,q₁.1,rl,rs,q0 R,t.1,rfl,s1i _ _ hrl,cO T.clR T.nR_name (hR.mono (RcO.same s1i)),by omega,hti.2.1,fun H8 s8=>?_⟩)
   refine qL hD sm hY hle (by omega) s8 ?_
   rw [List.take_add_one,ht,List.map_append,List.map_append]
   rfl
 rintro ys H8 s8 hpl hle8 rfl
 have htl:((qs.map (·.1)).map V.str).length=ts.length:=by rw [List.length_map,List.length_map,hqt]
 rw [htl,List.take_length] at hpl
 have s18:=s17.trans s8
 have hwt8:=s8 _ _ hwt
 refine ⟨_,rfl,nl,ms,6,rfl,s18 _ _ hnl,by rw [hmN];omega,?_⟩
 refine ⟨(by show 0≤sizeLine;exact Nat.zero_le _),fun el hel=>?_⟩
 have s9:=jK hel (.lst [])
 have s19:=s18.trans s9
 refine ⟨_,rfl,rl,_,rfl,.inl (SqL.of (s19 _ _ hrl)),el,[],[],rs.length,rfl,jD,AllAt.nil,Nat.zero_le _,by omega,fun gl gs HA sA hgl0 hgl hG=>?_⟩
 have s1A:=s19.trans sA
 have e0:yT rs.length []=qD R.length (ts.take 0):=by rw [hR.1];rfl
 rw [e0] at hG
 have hplA:=sA _ _ (s9 _ _ hpl)
 have hwtA:=sA _ _ (s9 _ _ hwt8)
 have ngp:gl≠D:=fun z=>by rw [z,s9 _ _ hpl] at hgl0;cases hgl0
 have ngw:gl≠wt:=fun z=>by rw [z,s9 _ _ hwt8] at hgl0;cases hgl0
 have hml:((ts.map (fun t:Nat×Int×Int=>(t.1:Int))).map V.int).length=ts.length:=by rw [List.length_map,List.length_map]
 have s7A:Same H7 HA:=(s8.trans s9).trans sA
 have hgf:H gl=none:=s19.free hgl0
 refine ⟨_,rfl,_,rfl,D,wt,rfl,⟨_,SqL.of hplA⟩,⟨_,SqL.of hwtA⟩,rT (K:=K) (a1:=D) (a2:=wt) (xs:=(ts.map (fun t:Nat×Int×Int=>(t.1:Int))).map V.int) (ys:=us) (fun i σ Hi=>∃(c7 c8:Option V) (gs':List V),σ=[some (.ref wl),some (.ref rl),some (.ref nl),some (.ref c),some (.ref wt),some (.ref D),some (.ref gl),c7,c8]∧Keep gl HA Hi∧Hi gl=some (.lst gs')∧AllAt (QAt Hi) gs' (qD R.length (ts.take i))) ⟨none,none,gs,rfl,Keep.refl gl HA,hgl,hG⟩ ?_ ?_ ?_⟩
 ·rintro i σ Hi _ ⟨_,_,_,_,kp,_,_⟩
  exact ⟨SqL.of (kp _ _ ngp.symm hplA),SqL.of (kp _ _ ngw.symm hwtA)⟩
 ·rintro i x y σ Hi T₁ hx hy ⟨c7,c8,gs',rfl,kp,hgs,hQ⟩ hT
  obtain ⟨Tp,x1,y1,rfl,hTp,hx1,hy1⟩:=hus i y hy
  rw [List.getElem?_map,List.getElem?_map] at hx
  cases ht:ts[i]? with
  |none=>rw [ht] at hx;cases hx
  |some t =>
   rw [ht] at hx
   cases hx
   have hqi:i<qs.length:=by rw [hqt];exact (List.getElem?_eq_some_iff.mp ht).1
   have hq:qs[i]?=some qs[i]:=List.getElem?_eq_getElem hqi
   have hti:=htr i _ _ hq ht
   rw [List.getElem?_map,List.getElem?_map,List.getElem?_map,hq] at hx1
   rw [List.getElem?_map,List.getElem?_map,List.getElem?_map,hq] at hy1
   cases hx1
   cases hy1
   rw [hti.2.2.1.2,hti.2.2.2.2] at hTp
   have u:=jK hT (.tup [V.int (t.1:Int),V.ref Tp])
   have hTpA:=s7A _ _ hTp
   have nTp:Tp≠gl:=fun z=>by rw [z,hgl] at hTpA;cases hTpA
   have hTpi:=kp _ _ nTp hTpA
   have ht1:t.1<R.length:=by
    have:=(List.getElem?_eq_some_iff.mp hti.2.1.1).1
    unfold q0 at this
    rw [List.length_map] at this
    exact this
   have hgl':gs'.length=R.length:=by rw [hQ.1,cE]
   refine ⟨T₁,_,rfl,SqT.of jD,rfl,_,_,rfl,_,_,rfl,rfl,?_⟩
   refine ⟨_,rfl,_,rfl,_,rfl,gl,gs',_,t.1,rfl,rfl,u _ _ hgs,bE (by omega),_,_,_,rfl,(kp.trans (Keep.of u)).upd _,jD,?_⟩
   rw [mP _ _ ht]
   exact ((hQ.mono (QAt.same u)).put t.1 (v:=.ref Tp) (x:=(t.2.1,t.2.2)) ⟨Tp,rfl,u _ _ hTpi⟩).mono (QAt.put (u _ _ hgs))
 rintro σ Hi ⟨c7,c8,gs',rfl,kp,hgs,hQ⟩
 have hmin:min ((ts.map (fun t:Nat×Int×Int=>(t.1:Int))).map V.int).length us.length=ts.length:=by rw [hml,hul,hqt];exact Nat.min_self _
 rw [hmin,List.take_length] at hQ
 refine ⟨_,rfl,q gl gs' Hi (fun b o e=>kp b o (kE e hgf) (s1A _ _ e)) hgf hgs hQ⟩
theorem AB:FnScope ["words","reaches","locks","nights"] ["words","reaches","locks","nights"] (jE ZT):=⟨rfl,rfl,rfl,by decide +kernel,rfl,by decide +kernel,by decide +kernel⟩
theorem wS {f:Addr} {fd:FuncData} (F:Fun K "read_row" "read_row" ZT f fd) (T:Txt K mg cP cB cU cR cN tkS jX jW j4 j3 jZ j0 jY) (D_reach_read:Def P w K mg base 5 "reach_read" ["words","reaches"] [] (mS cR)) (D_lock_read:Def P w K mg base 5 "lock_read" ["words","reaches","locks"] [] (nI (jM cP cB cU) cR)) (D_night_read:Def P w K mg base 5 "night_read" ["words","reaches","nights"] [] (mT cR)):FnOk P w K mg base jP 6 f fd ["words","reaches","locks","nights"] (n4 (jM cP cB cU) cR):=by
 refine F.ok AB (fun vs H Q E h=>?_) (fun cdv A outer s H vs Q E hr h=>?_)
 ·obtain ⟨wl,rl,ll,nl,ws,S,S2,rfl,hwl,⟨rs,ls,ms,hrl,hll,hnl,hR,hL,hN,d1,d2,d3⟩,⟨h8,hrow⟩,q⟩:=h
  rfl
 obtain ⟨wl,rl,ll,nl,ws,S,S2,rfl,hwl,⟨rs,ls,ms,hrl,hll,hnl,hR,hL,hN,d1,d2,d3⟩,⟨h8,hrow⟩,q⟩:=h
 have hu:_<cLine:=hr.units0
 have hu1:=j6 hr
 refine ⟨_,(@jF _ _ _ (j9 (j5 kS (jI jN (pv 0) jB (fun _ _=>rfl)) j7 (jT _)) (@jF _ _ _ (qH (qP PySem.F.plainAttrs_list PySem.F.slot_list_append PySem.F.type_list_append yY (pv 1) (jA (jU D_reach_read hr rfl (jA (pv 0) (jA (pv 1) jC))) jC)))) (@jF _ _ _ (j9 (j5 kS (jI jN (pv 0) jB (fun _ _=>rfl)) j7 (jT _)) (@jF _ _ _ (qH (qP PySem.F.plainAttrs_list PySem.F.slot_list_append PySem.F.type_list_append yY (pv 2) (jA (jU D_lock_read hr rfl (@jA _ _ _ _ _ (pv 0) (@jA _ _ _ _ _ (pv 1) (@jA _ _ _ _ _ (pv 2) jC (by rfl)) (by rfl)) (by rfl))) jC)))) (@jF _ _ _ (j9 (j5 kS (jI jN (pv 0) jB (fun _ _=>rfl)) j7 (jT _)) (@jF _ _ _ (qH (qP PySem.F.plainAttrs_list PySem.F.slot_list_append PySem.F.type_list_append yY (pv 3) (jA (jU D_night_read hr rfl (@jA _ _ _ _ _ (pv 0) (@jA _ _ _ _ _ (pv 1) (@jA _ _ _ _ _ (pv 3) jC (by rfl)) (by rfl)) (by rfl))) jC)))) (@jF _ _ _ vU))))))),?_⟩
 have hrs:rs.length≤8:=by rw [hR.1];exact h8
 rcases hrow with ⟨r,hg,rfl⟩|⟨l,hg,rfl⟩|⟨p,hg,rfl⟩
 ·refine ⟨_,rfl,wl,_,_,_,rfl,rfl,SqL.of hwl,B2 hg,rfl,_,rfl,kM rfl ?_⟩
  refine ⟨_,rfl,.inl ⟨rfl,_,SqL.of hrl⟩,_,rfl,_,rfl,wl,rl,ws,rs,S.1,r,rfl,hwl,hrl,hR,hg,fun x H1 s1 hx0 hrc=>?_⟩
  have kp:Keep rl H1 (upd H1 rl (.lst (rs++[.ref x]))):=(Keep.refl rl _).upd _
  have h1:=s1 _ _ hrl
  refine ⟨rl,_,_,rfl,rfl,h1,vI (by omega),?_⟩
  exact q _ (fun d o e1 e2 e3 e=>by rw [kC e1];exact s1 _ _ e) ⟨_,ls,ms,jD,kp _ _ d1.symm (s1 _ _ hll),kp _ _ d2.symm (s1 _ _ hnl),((hR.mono (RcO.same s1)).snoc (v:=.ref x) (x:=r) ⟨x,rfl,hrc⟩).mono (RcO.keep kp h1),(hL.mono (LkO.same s1)).mono (LkO.keep kp h1),(hN.mono (NAt.same s1)).mono (NAt.keep kp h1 (by simp)),d1,d2,d3⟩
 ·refine ⟨_,rfl,wl,_,_,_,rfl,rfl,SqL.of hwl,oK hg,rfl,_,rfl,kJ (fun z=>lP (V.str.inj z)) ⟨_,rfl,wl,_,_,_,rfl,rfl,SqL.of hwl,oK hg,rfl,_,rfl,kM rfl ?_⟩⟩
  have hls:ls.length<8:=by rw [hL.1];obtain ⟨_,_,_,_,_,_,_,_,_,_,_,_,_,_,_,_,_,_,_,_,h⟩:=hg;exact h
  refine ⟨_,rfl,.inl ⟨rfl,_,SqL.of hll⟩,_,rfl,_,rfl,_,rfl,wl,rl,ll,ws,rs,ls,S.1,S.2.1,l,rfl,hwl,hrl,hll,hR,hL,h8,hg,fun x H1 s1 hx0 hlk=>?_⟩
  have kp:Keep ll H1 (upd H1 ll (.lst (ls++[.ref x]))):=(Keep.refl ll _).upd _
  have h1:=s1 _ _ hll
  refine ⟨ll,_,_,rfl,rfl,h1,vI (by omega),?_⟩
  exact q _ (fun d o e1 e2 e3 e=>by rw [kC e2];exact s1 _ _ e) ⟨rs,_,ms,kp _ _ d1 (s1 _ _ hrl),jD,kp _ _ d3.symm (s1 _ _ hnl),(hR.mono (RcO.same s1)).mono (RcO.keep kp h1),((hL.mono (LkO.same s1)).snoc (v:=.ref x) (x:=l) hlk).mono (LkO.keep kp h1),(hN.mono (NAt.same s1)).mono (NAt.keep kp h1 (by simp)),d1,d2,d3⟩
 ·refine ⟨_,rfl,wl,_,_,_,rfl,rfl,SqL.of hwl,gX hg,rfl,_,rfl,kJ (fun z=>lO (V.str.inj z)) ⟨_,rfl,wl,_,_,_,rfl,rfl,SqL.of hwl,gX hg,rfl,_,rfl,kJ (fun z=>lQ (V.str.inj z)) ⟨_,rfl,wl,_,_,_,rfl,rfl,SqL.of hwl,gX hg,rfl,_,rfl,kM rfl ?_⟩⟩⟩
  have hms:ms.length<6:=by rw [hN.1];obtain ⟨_,_,_,_,_,_,_,_,h⟩:=hg;exact h
  refine ⟨_,rfl,.inl ⟨rfl,_,SqL.of hnl⟩,_,rfl,_,rfl,_,rfl,wl,rl,nl,ws,rs,ms,S.1,S.2.2,p,rfl,hwl,hrl,hnl,hR,hN.1,h8,hg,fun x gs H1 s1 hx0 hx hq=>?_⟩
  have kp:Keep nl H1 (upd H1 nl (.lst (ms++[.ref x]))):=(Keep.refl nl _).upd _
  have h1:=s1 _ _ hnl
  have nx:x∉[rl,ll,nl]:=by
   simp only [List.mem_cons,List.mem_nil_iff,or_false,not_or]
   exact ⟨fun z=>kE hrl hx0 z.symm,fun z=>kE hll hx0 z.symm,fun z=>kE hnl hx0 z.symm⟩
  refine ⟨nl,_,_,rfl,rfl,h1,vI (by omega),?_⟩
  exact q _ (fun d o e1 e2 e3 e=>by rw [kC e3];exact s1 _ _ e) ⟨rs,ls,_,kp _ _ d2 (s1 _ _ hrl),kp _ _ d3 (s1 _ _ hll),jD,(hR.mono (RcO.same s1)).mono (RcO.keep kp h1),(hL.mono (LkO.same s1)).mono (LkO.keep kp h1),((hN.mono (NAt.same s1)).snoc (v:=.ref x) (x:=p) ⟨x,gs,rfl,hx,hq,nx⟩).mono (NAt.keep kp h1 (by simp)),d1,d2,d3⟩
theorem AH:FnScope ["text"] ["text"] (jE J7):=⟨rfl,rfl,rfl,by decide +kernel,rfl,by decide +kernel,by decide +kernel⟩
theorem wY {f:Addr} {fd:FuncData} (F:Fun K "rows_of" "rows_of" J7 f fd) (T:Txt K mg cP cB cU cR cN tkS jX jW j4 j3 jZ j0 jY) : FnOk P w K mg base jP 1 f fd ["text"] (pE):=by
 refine F.ok AH (fun vs H Q E h=>?_) (fun cdv A outer s H vs Q E hr h=>?_)
 ·obtain ⟨z,rfl,hz,q⟩:=h
  rfl
 obtain ⟨z,rfl,hz,q⟩:=h
 have hu:_<cLine:=hr.units0
 have hu1:=j6 hr
 refine ⟨_,(@jF _ _ _ (@jO _ _ _ _ (vD ["row"] (qB 1 []) rfl (qK (jE J7) rfl rfl (by decide +kernel) (by decide +kernel) (by decide +kernel)) (qI 1 [] rfl rfl (by decide +kernel)) (qC (qP PySem.F.plainAttrs_str PySem.F.slot_str_split PySem.F.type_str_split eQ (pv 0) (jA j7 jC))) (fun _ _ _ _ _=>(kF (i:=0) (show List.Nodup (["row"]:List Str) from by decide +kernel) rfl (by first|exact Or.inl rfl|exact Or.inr rfl))) (fun _ _ _ _ _=>(eY (j5 qQ (pv 0) j7 (jT _)))) (fun _ _ _ _ _=>(pv 0))))),?_⟩
 have hn:=nZ z feedS (Nat.le_refl 1)
 refine ⟨_,rfl,rfl,z,feedS,rfl,rfl,rfl,hz,fun sl hsl0=>?_⟩
 have s0:=jK hsl0 (.lst ((Txt.split z feedS).map V.str))
 have hsl:upd H sl (.lst ((Txt.split z feedS).map V.str)) sl=some (.lst ((Txt.split z feedS).map V.str)):=jD
 generalize upd H sl (.lst ((Txt.split z feedS).map V.str))=H1 at s0 hsl ⊢
 refine ⟨sl,rfl,⟨_,SqL.of hsl⟩,fun l hl=>?_⟩
 refine qT (K:=K) (a:=sl) (xs:=(Txt.split z feedS).map V.str) (caps:=[]) (fun i ys Hi=>ys=(((Txt.split z feedS).take i).filter dI).map V.str) hl (SqL.of hsl) rfl ?_ ?_
 ·rintro i v ys Hi hv hi hle sm hY rfl
  obtain ⟨row,hrow,rfl⟩:=o9 hv
  have hi9:i≤1000000:=by rw [List.length_map] at hi;omega
  refine ⟨_,rfl,rfl,_,rfl,?_⟩
  by_cases e:row=""
  ·refine kZ (congrArg V.str e) (Z7 sm hY hle (Same.refl _) ?_)
   rw [m7 hrow,if_neg (by rw [e];decide),List.append_nil]
  ·refine QJ (fun x=>e (V.str.inj x)) ⟨_,rfl,EA hl sm hY hle hi9 (Same.refl _) ?_⟩
   rw [m7 hrow,if_pos (by unfold dI;rw [decide_eq_false e];rfl),List.map_append]
   rfl
 ·rintro ys Hf sm hY hle rfl
  rw [List.length_map,List.take_length] at hY
  exact q l Hf (s0.trans sm) (s0.free hl) hY
theorem bY:FnScope ["text","reaches","locks","nights","row"] ["text"] (jE JZ):=⟨rfl,rfl,rfl,by decide +kernel,rfl,by decide +kernel,by decide +kernel⟩
theorem wB {f:Addr} {fd:FuncData} (F:Fun K "canal_of" "canal_of" JZ f fd) (T:Txt K mg cP cB cU cR cN tkS jX jW j4 j3 jZ j0 jY) (D_rows_of:Def P w K mg base 1 "rows_of" ["text"] [] (pE)) (D_read_row:Def P w K mg base 6 "read_row" ["words","reaches","locks","nights"] [] (n4 (jM cP cB cU) cR)) (M_Canal:MkD P w K mg base 1 "Canal" cN ["self","reaches","locks","nights"] (gO (jM cP cB cU) cR cN)) (D_widened:Def P w K mg base 1 "widened" ["night","many"] [] (gY)):FnOk P w K mg base jP 7 f fd ["text"] (oC (jM cP cB cU) cR cN):=by
 refine F.ok bY (fun vs H Q E h=>?_) (fun cdv A outer s H vs Q E hr h=>?_)
 ·obtain ⟨z,S,rfl,hz,hrows,hne,h8,h6,hpl,q⟩:=h
  rfl
 obtain ⟨z,S,rfl,hz,hrows,hne,h8,h6,hpl,q⟩:=h
 have hu:_<cLine:=hr.units0
 have hu1:=j6 hr
 refine ⟨_,(@jG _ _ _ _ _ (jV (i:=1) bY.nd rfl (by first|exact Or.inl rfl|exact Or.inr rfl) (kR jC))
   (@jG _ _ _ _ _ (jV (i:=2) bY.nd rfl (by first|exact Or.inl rfl|exact Or.inr rfl) (kR jC))
   (@jG _ _ _ _ _ (jV (i:=3) bY.nd rfl (by first|exact Or.inl rfl|exact Or.inr rfl) (kR jC))
   (@jG _ _ _ _ _ (vE PassesOwn.never rfl (qC (jU D_rows_of hr rfl (jA (pv 0) jC))) (kF (i:=4) bY.nd rfl (by first|exact Or.inl rfl|exact Or.inr rfl))
    (@jF _ _ _ (qH (jU D_read_row hr rfl (@jA _ _ _ _ _ (qP PySem.F.plainAttrs_str PySem.F.slot_str_split PySem.F.type_str_split eQ (pv 4) (jA j7 jC)) (@jA _ _ _ _ _ (pv 1) (@jA _ _ _ _ _ (pv 2) (@jA _ _ _ _ _ (pv 3) jC (by rfl)) (by rfl)) (by rfl)) (by rfl))))))
   (@jG _ _ _ _ _ (j9 (qO (ET (pv 1) (fun _=>rfl))) (@jF _ _ _ vU) kD)
   (@jF _ _ _ (@jO _ _ _ _ (dC M_Canal hr rfl (@jA _ _ _ _ _ (pv 1) (@jA _ _ _ _ _ (pv 2) (@jA _ _ _ _ _ (vD ["night","reaches"] (qB 1 [1]) rfl (qK (jE JZ) rfl rfl (by decide +kernel) (by decide +kernel) (by decide +kernel)) (qI 1 [1] rfl rfl (by decide +kernel)) (qC (pv 3)) (fun _ _ _ _ _=>(kF (i:=0) (show List.Nodup (["night","reaches"]:List Str) from by decide +kernel) rfl (by first|exact Or.inl rfl|exact Or.inr rfl))) (fun _ _ _ _ _=>qU) (fun _ _ _ _ _=>(jU D_widened hr rfl (jA (pv 0) (jA (kA (AX K) (by rfl) T.z_len PySem.boot_len (jA (pv 1) jC)) jC))))) jC (by rfl)) (by rfl)) (by rfl)))))))))),?_⟩
 refine ⟨Nat.zero_le _,fun rl hrl0=>⟨Nat.zero_le _,fun ll hll0=>⟨Nat.zero_le _,fun nl hnl0=>?_⟩⟩⟩
 have t1:=jK hrl0 (.lst [])
 have t2:=jK hll0 (.lst [])
 have t3:=jK hnl0 (.lst [])
 have n12:rl≠ll:=kE (jD (H:=H) (a:=rl) (o:=.lst [])) hll0
 have n13:rl≠nl:=kE (t2 _ _ (jD (H:=H) (a:=rl) (o:=.lst []))) hnl0
 have n23:ll≠nl:=kE (jD (a:=ll) (o:=.lst [])) hnl0
 have t13:=(t1.trans t2).trans t3
 have hrl1:=t3 _ _ (t2 _ _ (jD (H:=H) (a:=rl) (o:=.lst [])))
 have hll1:=t3 _ _ (jD (H:=upd H rl (.lst [])) (a:=ll) (o:=.lst []))
 have fr:H rl=none∧H ll=none∧H nl=none:=⟨hrl0,t1.free hll0,(t1.trans t2).free hnl0⟩
 have hnl1:upd (upd (upd H rl (.lst [])) ll (.lst [])) nl (.lst []) nl=some (.lst []):=jD
 generalize upd (upd (upd H rl (.lst [])) ll (.lst [])) nl (.lst [])=H1 at t13 hrl1 hll1 hnl1 ⊢
 clear t1 t2 t3 hrl0 hll0 hnl0
 have hrd:RdAt (jM cP cB cU) cR H1 rl ll nl ([],[],[]):=⟨[],[],[],hrl1,hll1,hnl1,AllAt.nil,AllAt.nil,AllAt.nil,n12,n13,n23⟩
 refine ⟨_,rfl,z,rfl,hz,fun sl H2 s2 hsl0 hsl=>?_⟩
 have hrd2:=hrd.same s2
 have ns:sl≠rl∧sl≠ll∧sl≠nl:=⟨(kE hrl1 hsl0).symm,(kE hll1 hsl0).symm,(kE hnl1 hsl0).symm⟩
 have s12:=t13.trans s2
 have hrows:zT (fK z) ([],[],[]) S:=iJ hrows
 have hfull:∀r∈fK z,r≠"":=fun r hr e=>by
  have:=(List.mem_filter.mp hr).2
  rw [e] at this
  exact absurd this (by decide)
 generalize fK z=rows at hrows hsl hfull
 refine ⟨sl,rfl,⟨_,SqL.of hsl⟩,bA (K:=K) (a:=sl) (xs:=rows.map V.str) (fun i σ Hi=>∃(c4:Option V) (Si:yB),σ=[some (.str z),some (.ref rl),some (.ref ll),some (.ref nl),c4]∧RdAt (jM cP cB cU) cR Hi rl ll nl Si∧zT (rows.drop i) Si S∧tJ rl ll nl H2 Hi) ⟨none,_,rfl,hrd2,hrows,fun _ _ _ _ _ e=>e⟩ ?_ ?_ ?_⟩
 ·rintro i σ Hi _ ⟨_,_,_,_,_,kp⟩
  exact SqL.of (kp _ _ ns.1 ns.2.1 ns.2.2 hsl)
 ·rintro i v σ Hi hv ⟨c4,Si,rfl,hrd,hgr,kp⟩
  obtain ⟨row,hrow,rfl⟩:=eW hv
  have hdr:rows.drop i=row::rows.drop (i+1):=by rw [List.drop_eq_getElem_cons (List.getElem?_eq_some_iff.mp hrow).1,(List.getElem?_eq_some_iff.mp hrow).2]
  rw [hdr] at hgr
  rcases hgr with ⟨e,hgr⟩|⟨e,hlr,S1,hrw,hgr⟩
  ·exact absurd e (hfull row (List.mem_of_getElem? hrow))
  ·refine ⟨_,rfl,rfl,row,blankS,rfl,rfl,rfl,hlr,fun wl hwl0=>?_⟩
   have u:=jK hwl0 (.lst ((Txt.split row blankS).map V.str))
   refine ⟨_,rfl,_,rfl,_,rfl,wl,rl,ll,nl,Txt.split row blankS,Si,S1,rfl,jD,hrd.same u,hrw,fun H4 k4 hrd4=>?_⟩
   exact ⟨_,S1,rfl,hrd4,hgr,fun d o e1 e2 e3 ed=>k4 d o e1 e2 e3 (u _ _ (kp d o e1 e2 e3 ed))⟩
 rintro σ H3 ⟨c4,Si,rfl,⟨rs,ls,ms,hrl,hll,hnl,hR,hL,hN,_⟩,hgr,kp⟩
 rw [List.length_map,List.drop_length] at hgr
 obtain rfl:Si=S:=hgr
 have s3:Same H H3:=fun d o e=>kp d o (kE e fr.1) (kE e fr.2.1) (kE e fr.2.2) (s12 _ _ e)
 have hrs:rs.length=Si.1.length:=hR.1
 have hms:ms.length=Si.2.2.length:=hN.1
 have hrne:0<rs.length:=by rw [hrs];exact List.length_pos_iff.mpr hne
 refine ⟨_,rfl,true,.inl ⟨rs,SqL.of hrl,by cases rs with|nil=>exact absurd hrne (by decide)|cons a b=>rfl⟩,kX ?_⟩
 refine ⟨_,rfl,_,rfl,_,rfl,nl,rfl,⟨_,SqL.of hnl⟩,fun D hD=>?_⟩
 refine qT (K:=K) (a:=nl) (xs:=ms) (caps:=[some (.ref rl)]) (fun i ys Hi=>AllAt (NAt [D] Hi) ys ((Si.2.2.take i).map (yT Si.1.length))) hD (SqL.of hnl) AllAt.nil ?_ ?_
 ·rintro i v ys Hi hv hi hle sm hY hI
  obtain ⟨p,hp,l,qs,rfl,hl,hq,_⟩:=hN.2 i v hv
  have hi8:i<100:=by omega
  have hpn:=hpl p (List.mem_of_getElem? hp)
  refine qW (qM ?_)
  refine ⟨_,rfl,_,rfl,rl,_,rfl,.inl (SqL.of (sm _ _ hrl)),l,qs,p,rs.length,rfl,sm _ _ hl,hq.mono (QAt.same sm),by omega,by omega,fun g gs H5 s5 hg0 hg hG=>?_⟩
  rw [hrs] at hG
  refine qL hD sm hY hle (by omega) s5 ?_
  rw [List.take_add_one,hp,List.map_append]
  exact ((hI.mono (NAt.same s5)).snoc (v:=.ref g) (x:=yT Si.1.length p) ⟨g,gs,rfl,hg,hG,fun z=>kE hY hg0 (List.mem_singleton.mp z).symm⟩).mono (NAt.put (s5 _ _ hY) (by simp))
 rintro ys H4 s4 hYD hle4 hM
 rw [hms,List.take_length] at hM
 have s14:=s3.trans s4
 intro x dx nx ndx nex
 have u:=fun o o'=>GI (o:=o) (o':=o') nx ndx
 refine ⟨x,dx,rl,ll,_,rs,ls,Si.1,Si.2.1,Si.2.2.map (yT Si.1.length),rfl,jD,u _ _ _ _ (s4 _ _ hrl),u _ _ _ _ (s4 _ _ hll),(hR.mono (RcO.same s4)).mono (RcO.same (u _ _)),(hL.mono (LkO.same s4)).mono (LkO.same (u _ _)),.inr ⟨D,ys,rfl,u _ _ _ _ hYD,(hM.mono (NAt.same (u _ _))).mono (NAt.less (by simp)),by omega⟩,fun H' kp hC=>⟨rfl,?_⟩⟩
 exact q x H' (s14.trans (E3 nx (u _ _) kp)) (s14.free nx) (hC [] (fun d hd=>nomatch hd))
theorem xT:FnScope ["script","k"] ["script","k"] (jE Q6):=⟨rfl,rfl,rfl,by decide +kernel,rfl,by decide +kernel,by decide +kernel⟩
theorem uO {f:Addr} {fd:FuncData} (F:Fun K "_law_cell_at" "_law_cell_at" Q6 f fd) (T:Txt K mg cP cB cU cR cN tkS jX jW j4 j3 jZ j0 jY) : FnOk P w K mg base jP 1 f fd ["script","k"] (lE K):=by
 refine F.ok xT (fun vs H Q E h=>?_) (fun cdv A outer s H vs Q E hr h=>?_)
 ·obtain ⟨a,ns,k,rfl,hS,q⟩:=h
  rfl
 obtain ⟨a,ns,k,rfl,hS,q⟩:=h
 have hu:_<cLine:=hr.units0
 have hu1:=j6 hr
 refine ⟨_,(@jG _ _ _ _ _ (j9 (j5 dE (pv 1) (kA kQ (by rfl) T.z_len PySem.boot_len (jA (pv 0) jC)) (jT _)) (@jF _ _ _ (@jO _ _ _ _ (jI jN (pv 0) (pv 1) (fun _ _=>rfl)))) kD)
   (@jF _ _ _ (@jO _ _ _ _ jB))),?_⟩
 refine ⟨_,rfl,_,rfl,a,_,rfl,.inl hS,_,_,rfl,rfl,_,rfl,?_⟩
 refine dJ (fun c=>?_) (fun c=>?_)
 ·have c':(k:Int)<(((ns.map V.int).length:Nat):Int):=of_decide_eq_true c
  rw [List.length_map] at c'
  exact ⟨_,rfl,_,rfl,a,_,_,_,rfl,rfl,hS,zS (by omega),q⟩
 ·have c':¬(k:Int)<(((ns.map V.int).length:Nat):Int):=of_decide_eq_false (Bool.eq_false_iff.mpr c)
  rw [List.length_map] at c'
  have e:ns.getD k 0=0:=by rw [List.getD_eq_getElem?_getD,List.getElem?_eq_none (by omega)];rfl
  rw [e] at q
  exact q
theorem xX:FnScope ["found"] ["found"] (jE ZG):=⟨rfl,rfl,rfl,by decide +kernel,rfl,by decide +kernel,by decide +kernel⟩
theorem wA {f:Addr} {fd:FuncData} (F:Fun K "_law_whole" "_law_whole" ZG f fd) (T:Txt K mg cP cB cU cR cN tkS jX jW j4 j3 jZ j0 jY) : FnOk P w K mg base jP 1 f fd ["found"] (rG):=by
 refine F.ok xX (fun vs H Q E h=>?_) (fun cdv A outer s H vs Q E hr h=>?_)
 ·obtain ⟨i,rfl,q⟩:=h
  rfl
 obtain ⟨i,rfl,q⟩:=h
 have hu:_<cLine:=hr.units0
 have hu1:=j6 hr
 refine ⟨_,(@jF _ _ _ (@jO _ _ _ _ (lF (kA vV (by rfl) T.z_isinstance PyProof.Rows.boot_isinstance (jA (pv 0) (jA (y0 (v:=.ty "int") rfl T.z_int PyProof.Rows.boot_int rfl) jC))) (fF (HJ (kA vV (by rfl) T.z_isinstance PyProof.Rows.boot_isinstance (jA (pv 0) (jA (y0 (v:=.ty "bool") rfl T.z_bool PyProof.Rows.boot_bool rfl) jC)))))))),?_⟩
 refine ⟨_,rfl,_,_,_,_,_,rfl,rfl,TyOf.int i,yS "int",true,rfl,qM ?_⟩
 exact ⟨_,rfl,_,_,_,_,_,rfl,rfl,TyOf.int i,BF,false,rfl,q⟩
theorem yJ:FnScope ["cell","many","signs","base","k","size","at","names","sign","name"] ["cell","many"] (jE ZA):=⟨rfl,rfl,rfl,by decide +kernel,rfl,by decide +kernel,by decide +kernel⟩
theorem uT {f:Addr} {fd:FuncData} (F:Fun K "_law_names" "_law_names" ZA f fd) (T:Txt K mg cP cB cU cR cN tkS jX jW j4 j3 jZ j0 jY) : FnOk P w K mg base jP 1 f fd ["cell","many"] (iO):=by
 refine F.ok yJ (fun vs H Q E h=>?_) (fun cdv A outer s H vs Q E hr h=>?_)
 ·obtain ⟨c,rfl,q⟩:=h
  rfl
 obtain ⟨c,rfl,q⟩:=h
 have hu:_<cLine:=hr.units0
 have hu1:=j6 hr
 refine ⟨_,(@jG _ _ _ _ _ (jV (i:=2) yJ.nd rfl (by first|exact Or.inl rfl|exact Or.inr rfl) j7)
   (@jG _ _ _ _ _ (jV (i:=3) yJ.nd rfl (by first|exact Or.inl rfl|exact Or.inr rfl) j7)
   (@jG _ _ _ _ _ (vE PassesOwn.never rfl (zE (by rfl) T.z_range (jA jB jC)) (kF (i:=4) yJ.nd rfl (by first|exact Or.inl rfl|exact Or.inr rfl))
    (@jF _ _ _ (jV (i:=3) yJ.nd rfl (by first|exact Or.inl rfl|exact Or.inr rfl) (@jH _ _ _ _ _ _ _ _ eA (pv 3) (jI fG (pv 2) (@jH _ _ _ _ _ _ _ _ kO (@jH _ _ _ _ _ _ _ _ qE (@jH _ _ _ _ _ _ _ _ qE (@jH _ _ _ _ _ _ _ _ vN (pv 0) jB) (@jH _ _ _ _ _ _ _ _ JJ (@jH _ _ _ _ _ _ _ _ vN (pv 0) jB) (pv 4))) (@jH _ _ _ _ _ _ _ _ JJ (pv 4) (pv 4))) jB) (fun _ _=>rfl))))))
   (@jG _ _ _ _ _ (jV (i:=5) yJ.nd rfl (by first|exact Or.inl rfl|exact Or.inr rfl) (@jH _ _ _ _ _ _ _ _ qE jB (@jH _ _ _ _ _ _ _ _ kO (@jH _ _ _ _ _ _ _ _ vN (pv 0) jB) jB)))
   (@jG _ _ _ _ _ (jV (i:=6) yJ.nd rfl (by first|exact Or.inl rfl|exact Or.inr rfl) (@jH _ _ _ _ _ _ _ _ kO (@jH _ _ _ _ _ _ _ _ vN (pv 0) jB) (pv 5)))
   (@jG _ _ _ _ _ (jV (i:=7) yJ.nd rfl (by first|exact Or.inl rfl|exact Or.inr rfl) (kR jC))
   (@jG _ _ _ _ _ (vE PassesOwn.never rfl (zE (by rfl) T.z_range (jA (pv 1) jC)) (kF (i:=4) yJ.nd rfl (by first|exact Or.inl rfl|exact Or.inr rfl))
    (@jG _ _ _ _ _ (jV (i:=8) yJ.nd rfl (by first|exact Or.inl rfl|exact Or.inr rfl) (jI fG (pv 2) (@jH _ _ _ _ _ _ _ _ kO (@jH _ _ _ _ _ _ _ _ qE (@jH _ _ _ _ _ _ _ _ vN (pv 0) jB) (@jH _ _ _ _ _ _ _ _ JJ jB (pv 4))) jB) (fun _ _=>rfl)))
   (@jG _ _ _ _ _ (jV (i:=9) yJ.nd rfl (by first|exact Or.inl rfl|exact Or.inr rfl) (@jH _ _ _ _ _ _ _ _ eA (@jH _ _ _ _ _ _ _ _ eA (yK fD (pv 3) zG (qN (pv 6))) (pv 8)) (yK fD (pv 3) (qN (@jH _ _ _ _ _ _ _ _ qE (pv 6) jB)) (qN (pv 5)))))
   (v6 (j9 (j5 kS (@jH _ _ _ _ _ _ _ _ kO (pv 0) jB) jB (jT _)) (@jF _ _ _ (jV (i:=9) yJ.nd rfl (by first|exact Or.inl rfl|exact Or.inr rfl) (yK fD (pv 3) zG (qN (@jH _ _ _ _ _ _ _ _ qE (pv 4) jB))))) kD)
   (v6 (j9 (j5 kS (@jH _ _ _ _ _ _ _ _ kO (pv 0) jB) jB (jT _)) (@jF _ _ _ (jV (i:=9) yJ.nd rfl (by first|exact Or.inl rfl|exact Or.inr rfl) (yK fD (pv 3) (qN (@jH _ _ _ _ _ _ _ _ yM jB (pv 4))) zG))) kD)
   (@jF _ _ _ (qH (qP PySem.F.plainAttrs_list PySem.F.slot_list_append PySem.F.type_list_append yY (pv 7) (jA (pv 9) jC)))))))))
   (@jF _ _ _ (@jO _ _ _ _ (pv 7)))))))))),?_⟩
 refine ⟨_,rfl,by decide,by decide,zQ (n:=Int.toNat 12) (fun i σ Hi=>∃ck:Option V,σ=[some (.int c),some (.int 8),some (.str lettersS),some (.str (jJ ((qA c).take i))),ck,none,none,none,none,none]∧H=Hi) ⟨none,by rw [FH];rfl,rfl⟩ ?_ ?_⟩
 ·rintro i σ Hi hi ⟨ck,rfl,rfl⟩
  have hi12:i<12:=hi
  rw [Int.zero_add]
  have hbl:(jJ ((qA c).take i)).length≤12:=by rw [v3,List.length_take,vJ];omega
  refine ⟨_,rfl,_,rfl,_,rfl,_,_,rfl,rfl,⟨by decide,by decide⟩,_,rfl,_,_,rfl,rfl,⟨by decide,by decide⟩,_,rfl,_,_,rfl,rfl,.inr ⟨by omega,by omega⟩,_,_,rfl,rfl,_,rfl,_,rfl,_,_,rfl,rfl,.inr ⟨by omega,by omega⟩,_,_,rfl,rfl,_,_,rfl,rfl,(by show (0:Int)<26;decide),lettersS,_,_,rfl,rfl,mL,o7 _,_,_,rfl,rfl,?_,?_⟩
  ·exact small (by show _+1≤1000;omega)
  ·refine ⟨some (.int (i:Int)),?_,rfl⟩
   show [some (V.int c),some (V.int 8),some (V.str lettersS),some (V.str (jJ ((qA c).take i)++jJ [vL (c / 4+c / 100*(i:Int)+(i:Int)*(i:Int))])),some (V.int (i:Int)),none,none,none,none,none]=_
   rw [iL,ED c hi12]
 rintro σ Hi ⟨ck,rfl,rfl⟩
 rw [show (qA c).take (Int.toNat 12)=qA c from List.take_of_length_le (by rw [vJ];exact Nat.le_refl 12)]
 have hbs:(jJ (qA c)).length≤sizeLine:=small (by rw [v3,vJ];decide)
 have hsz0:=Int.emod_nonneg (c / 16) (by decide:(12:Int)≠0)
 have hsz1:=Int.emod_lt_of_pos (c / 16) (by decide:(0:Int)<12)
 have hpos:(0:Int)<1+c / 16%12:=by omega
 have hat0:=Int.emod_nonneg (c / 32) (show (1+c / 16%12:Int)≠0 by omega)
 have hat1:=Int.emod_lt_of_pos (c / 32) hpos
 refine ⟨_,rfl,_,_,rfl,rfl,⟨by decide,by decide⟩,_,_,rfl,rfl,(by show (0:Int)<12;decide),_,_,rfl,rfl,_,rfl,_,_,rfl,rfl,⟨by decide,by decide⟩,_,rfl,_,_,rfl,rfl,hpos,zz0,fun nl hnl=>?_⟩
 refine ⟨_,rfl,_,rfl,by decide,by decide,zQ (n:=Int.toNat 8) (fun i σ Hi=>∃ck cs cn:Option V,σ=[some (.int c),some (.int 8),some (.str lettersS),some (.str (jJ (qA c))),ck,some (.int (1+c / 16%12)),some (.int (c / 32%(1+c / 16%12))),some (.ref nl),cs,cn]∧Hi nl=some (.lst (kT (kP c) i))∧Same H Hi) ⟨_,none,none,rfl,jD,jK hnl _⟩ ?_ ?_⟩
 ·rintro i σ Hi hi ⟨ck,cs,cn,rfl,hn,sm⟩
  have hi8:i<8:=hi
  rw [Int.zero_add]
  refine ⟨_,rfl,_,rfl,_,_,rfl,rfl,⟨by decide,by decide⟩,_,rfl,_,_,rfl,rfl,.inl ⟨by decide,by decide⟩,_,_,rfl,rfl,_,_,rfl,rfl,(by show (0:Int)<26;decide),lettersS,_,_,rfl,rfl,mL,o7 _,?_⟩
  have l1:=fun a b=>Txt.slice_le (jJ (qA c)) a b
  have hb12:(jJ (qA c)).length=12:=by rw [v3,vJ]
  refine ⟨_,rfl,_,rfl,_,rfl,_,rfl,hbs,_,rfl,_,_,rfl,rfl,?_,_,rfl,_,rfl,_,_,rfl,rfl,_,rfl,_,rfl,_,rfl,_,rfl,hbs,_,_,rfl,rfl,?_,?_⟩
  ·exact small (by have:=l1 none (some (c / 32%(1+c / 16%12)));show _+1≤1000;omega)
  ·exact small (by rw [Str.length_append];have:=l1 none (some (c / 32%(1+c / 16%12)));have:=l1 (some (c / 32%(1+c / 16%12)+1)) (some (1+c / 16%12));show _+1+_≤1000;omega)
  have hmid:Txt.slice (jJ (qA c)) none (some (c / 32%(1+c / 16%12)))++⟨#[vL (c / 4+3*(i:Int))]⟩++Txt.slice (jJ (qA c)) (some (c / 32%(1+c / 16%12)+1)) (some (1+c / 16%12))=jJ (y9 c i):=by
   rw [pL _ hat0 (by rw [vJ];omega),C5 _ (by omega) (by omega) (by rw [vJ];omega),EY,iL,iL]
   unfold y9 z9 z3
   rw [show (c / 32%(1+c / 16%12)+1).toNat=(c / 32%(1+c / 16%12)).toNat+1 by omega]
  rw [hmid]
  refine ⟨fun σ' H'=>σ'=[some (.int c),some (.int 8),some (.str lettersS),some (.str (jJ (qA c))),some (.int (i:Int)),some (.int (1+c / 16%12)),some (.int (c / 32%(1+c / 16%12))),some (.ref nl),some (.str ⟨#[vL (c / 4+3*(i:Int))]⟩),some (.str (jJ (if c%4=0 then (qA c).take (i+1) else y9 c i)))]∧H'=Hi,?_,?_⟩
  ·refine ⟨_,rfl,_,_,rfl,rfl,(by show (0:Int)<4;decide),rfl,_,rfl,?_⟩
   by_cases h4:c%4=0
   ·refine kM (congrArg V.int h4) ⟨_,rfl,_,rfl,_,_,rfl,rfl,_,rfl,_,rfl,hbs,?_,rfl⟩
    rw [pL _ (by omega) (by rw [vJ];omega),if_pos h4,show ((i:Int)+1).toNat=i+1 by omega]
    rfl
   ·refine kJ (fun z=>h4 (V.int.inj z)) ⟨?_,rfl⟩
    rw [if_neg h4]
    rfl
  rintro σ' H' ⟨rfl,rfl⟩
  refine ⟨fun σ' H2=>σ'=[some (.int c),some (.int 8),some (.str lettersS),some (.str (jJ (qA c))),some (.int (i:Int)),some (.int (1+c / 16%12)),some (.int (c / 32%(1+c / 16%12))),some (.ref nl),some (.str ⟨#[vL (c / 4+3*(i:Int))]⟩),some (.str (jJ (kP c i)))]∧H2=H',?_,?_⟩
  ·refine ⟨_,rfl,_,_,rfl,rfl,(by show (0:Int)<4;decide),rfl,_,rfl,?_⟩
   by_cases h4:c%4=1
   ·refine kM (congrArg V.int h4) ⟨_,rfl,_,rfl,_,_,rfl,rfl,_,rfl,_,rfl,hbs,?_,rfl⟩
    rw [B0 _ (by omega) (by rw [vJ];omega),show ((11:Int) - (i:Int)).toNat=11 - i by omega]
    have e:kP c i=(qA c).drop (11 - i):=by unfold kP;rw [if_neg (by omega),if_pos h4]
    rw [e]
    rfl
   ·refine kJ (fun z=>h4 (V.int.inj z)) ⟨?_,rfl⟩
    unfold kP
    rw [if_neg h4]
  rintro σ' H2 ⟨rfl,rfl⟩
  refine ⟨_,rfl,.inl ⟨rfl,_,SqL.of hn⟩,_,rfl,nl,_,_,rfl,rfl,hn,vI (by rw [cF];omega),?_⟩
  refine ⟨_,_,_,rfl,?_,kU hnl sm⟩
  rw [jD,gM]
 ·rintro σ Hi ⟨ck,cs,cn,rfl,hn,sm⟩
  exact ⟨_,rfl,q nl Hi sm hnl hn⟩
theorem dW:FnScope ["cell","names","other"] ["cell"] (jE JX):=⟨rfl,rfl,rfl,by decide +kernel,rfl,by decide +kernel,by decide +kernel⟩
theorem u0 {f:Addr} {fd:FuncData} (F:Fun K "_law_reach_names" "_law_reach_names" JX f fd) (T:Txt K mg cP cB cU cR cN tkS jX jW j4 j3 jZ j0 jY) (D__law_names:Def P w K mg base 1 "_law_names" ["cell","many"] [] (iO)):FnOk P w K mg base jP 2 f fd ["cell"] (gK):=by
 refine F.ok dW (fun vs H Q E h=>?_) (fun cdv A outer s H vs Q E hr h=>?_)
 ·obtain ⟨c,rfl,q⟩:=h
  rfl
 obtain ⟨c,rfl,q⟩:=h
 have hu:_<cLine:=hr.units0
 have hu1:=j6 hr
 refine ⟨_,(@jG _ _ _ _ _ (jV (i:=1) dW.nd rfl (by first|exact Or.inl rfl|exact Or.inr rfl) (jU D__law_names hr rfl (jA (pv 0) (jA jB jC))))
   (@jG _ _ _ _ _ (jV (i:=2) dW.nd rfl (by first|exact Or.inl rfl|exact Or.inr rfl) j7)
   (v6 (j9 (j5 dE (@jH _ _ _ _ _ _ _ _ kO (pv 0) jB) jB (jT _)) (@jF _ _ _ (jV (i:=2) dW.nd rfl (by first|exact Or.inl rfl|exact Or.inr rfl) j7)) kD)
   (@jF _ _ _ (@jO _ _ _ _ (vD ["name","other"] (qB 1 [2]) rfl (qK (jE JX) rfl rfl (by decide +kernel) (by decide +kernel) (by decide +kernel)) (qI 1 [2] rfl rfl (by decide +kernel)) (qC (pv 1)) (fun _ _ _ _ _=>(kF (i:=0) (show List.Nodup (["name","other"]:List Str) from by decide +kernel) rfl (by first|exact Or.inl rfl|exact Or.inr rfl))) (fun _ _ _ _ _=>qU) (fun _ _ _ _ _=>(Z9 (j5 kS (pv 0) j7 (jT _)) (pv 1) (pv 0))))))))),?_⟩
 refine ⟨_,rfl,c,rfl,fun nl H1 s1 hnl0 hnl=>?_⟩
 refine ⟨fun σ' H'=>σ'=[some (.int c),some (.ref nl),some (.str (jJ (vY c)))]∧H1=H',?_,?_⟩
 ·refine ⟨_,rfl,_,_,rfl,rfl,(by show (0:Int)<4;decide),_,_,rfl,rfl,_,rfl,?_⟩
  by_cases h:c%4<2
  ·refine kM h ⟨?_,rfl⟩
   rw [show vY c=[115,101,98] from if_pos h,← EN]
   rfl
  ·refine kJ h ⟨?_,rfl⟩
   rw [show vY c=[115,101,97,122] from if_neg h,← C6]
   rfl
 rintro σ' H' ⟨rfl,rfl⟩
 refine ⟨_,rfl,nl,rfl,⟨_,SqL.of hnl⟩,fun D hD=>?_⟩
 refine qT (K:=K) (a:=nl) (caps:=[some (.str (jJ (vY c)))]) (fun i ys Hi=>ys=kT (kN c) i) hD (SqL.of hnl) rfl ?_ ?_
 ·rintro i y ys Hi hy hi hle sm hY rfl
  have hi8:i<8:=by rw [cF] at hi;exact hi
  rw [cH _ hi8] at hy
  cases hy
  refine qW (qM ?_)
  refine ⟨_,rfl,rfl,_,rfl,?_⟩
  have hd:(V.str (jJ (kP c i))=V.str "sea")↔kP c i=seaL:=⟨fun z=>Z8 ((V.str.inj z).trans eN),fun z=>by rw [z,eN]⟩
  by_cases h:kP c i=seaL
  ·refine kM (hd.mpr h) ⟨_,rfl,?_⟩
   refine qL hD sm hY hle (by omega) (Same.refl _) ?_
   rw [show jJ (vY c)=jJ (kN c i) by unfold kN;rw [if_pos h],gM]
  ·refine kJ (fun z=>h (hd.mp z)) ⟨_,rfl,?_⟩
   refine qL hD sm hY hle (by omega) (Same.refl _) ?_
   rw [show jJ (kP c i)=jJ (kN c i) by unfold kN;rw [if_neg h],gM]
 ·rintro ys Hf sm hY hle rfl
  rw [cF] at hY
  exact q D Hf (s1.trans sm) (s1.free hD) hY
theorem xU:FnScope ["cell","names"] ["cell","names"] (jE Q7):=⟨rfl,rfl,rfl,by decide +kernel,rfl,by decide +kernel,by decide +kernel⟩
theorem uQ {f:Addr} {fd:FuncData} (F:Fun K "_law_gates" "_law_gates" Q7 f fd) (T:Txt K mg cP cB cU cR cN tkS jX jW j4 j3 jZ j0 jY) (D__law_reach_names:Def P w K mg base 2 "_law_reach_names" ["cell"] [] (gK)) (D__law_names:Def P w K mg base 1 "_law_names" ["cell","many"] [] (iO)):FnOk P w K mg base jP 3 f fd ["cell","names"] (pJ):=by
 refine F.ok xU (fun vs H Q E h=>?_) (fun cdv A outer s H vs Q E hr h=>?_)
 ·obtain ⟨c,r,a,rfl,ha,q⟩:=h
  rfl
 obtain ⟨c,r,a,rfl,ha,q⟩:=h
 have hu:_<cLine:=hr.units0
 have hu1:=j6 hr
 refine ⟨_,(@jG _ _ _ _ _ (j9 (j5 kS (@jH _ _ _ _ _ _ _ _ kO (pv 0) jB) jB (jT _)) (@jF _ _ _ (@jO _ _ _ _ (pv 1))) kD)
   (@jG _ _ _ _ _ (j9 (j5 kS (@jH _ _ _ _ _ _ _ _ kO (pv 0) jB) jB (jT _)) (@jF _ _ _ (@jO _ _ _ _ (@jH _ _ _ _ _ _ _ _ yO (kR (jA j7 jC)) (yK cL (jU D__law_reach_names hr rfl (jA (@jH _ _ _ _ _ _ _ _ qE (@jH _ _ _ _ _ _ _ _ JJ (@jH _ _ _ _ _ _ _ _ vN (pv 0) jB) jB) jB) jC)) zG (qN jB))))) kD)
   (@jF _ _ _ (@jO _ _ _ _ (jU D__law_names hr rfl (jA (@jH _ _ _ _ _ _ _ _ vN (pv 0) jB) (jA jB jC))))))),?_⟩
 refine ⟨_,rfl,_,_,rfl,rfl,(by show (0:Int)<5;decide),rfl,_,rfl,?_⟩
 by_cases h0:c%5=0
 ·refine kM (congrArg V.int h0) ⟨_,rfl,q a H (Same.refl _) ?_⟩
  rw [ha]
  exact congrArg (fun z=>some (HO.lst z)) (mK fun k=>(if_pos h0:vK r c k=kN r k).symm)
 refine kJ (fun z=>h0 (V.int.inj z)) ⟨_,rfl,_,_,rfl,rfl,(by show (0:Int)<5;decide),rfl,_,rfl,?_⟩
 by_cases h1:c%5=1
 ·refine kM (congrArg V.int h1) ⟨zz1,fun p hp=>?_⟩
  have s1:=jK hp (.lst [V.str "sea"])
  refine ⟨_,rfl,_,_,rfl,rfl,⟨by decide,by decide⟩,_,_,rfl,rfl,.inr ⟨by decide,by decide⟩,_,_,rfl,rfl,c / 5*4+3,rfl,fun nl H1 s2 hnl0 hnl=>?_⟩
  refine ⟨_,rfl,nl,_,rfl,SqL.of hnl,fun sl hsl=>?_⟩
  have s3:=jK hsl (.lst (vS (kT (kN (c / 5*4+3)) 8) none (some 7)))
  refine ⟨p,sl,_,_,rfl,rfl,s3 _ _ (s2 _ _ jD),jD,?_,fun l hl=>q l _ (((s1.trans s2).trans s3).trans (jK hl _)) ?_⟩
  ·rw [sU,cF];decide
  rw [jD,sU,eN]
  show some (HO.lst (V.str (jJ seaL)::kT (kN (c / 5*4+3)) 7))=_
  rw [BE seaL _ (vK r c) 7 (by unfold vK;rw [if_neg h0,if_pos h1]) (fun k=>by unfold vK;rw [if_neg h0,if_pos h1])]
 refine kJ (fun z=>h1 (V.int.inj z)) ⟨_,rfl,_,_,rfl,rfl,⟨by decide,by decide⟩,c / 5,rfl,fun nl H1 s2 hnl0 hnl=>q nl H1 s2 ?_⟩
 rw [hnl]
 exact congrArg (fun z=>some (HO.lst z)) (mK fun k=>((by unfold vK;rw [if_neg h0,if_neg h1]):vK r c k=kP (c / 5) k).symm)
theorem Z2:FnScope ["name","a","b","c","many","least","crest","some","water"] ["name","a","b","c","many"] (jE ZE):=⟨rfl,rfl,rfl,by decide +kernel,rfl,by decide +kernel,by decide +kernel⟩
theorem uY {f:Addr} {fd:FuncData} (F:Fun K "_law_reach" "_law_reach" ZE f fd) (T:Txt K mg cP cB cU cR cN tkS jX jW j4 j3 jZ j0 jY) : FnOk P w K mg base jP 1 f fd ["name","a","b","c","many"] (pF):=by
 refine F.ok Z2 (fun vs H Q E h=>?_) (fun cdv A outer s H vs Q E hr h=>?_)
 ·obtain ⟨nm,a,b,c,n,rfl,q⟩:=h
  rfl
 obtain ⟨nm,a,b,c,n,rfl,q⟩:=h
 have hu:_<cLine:=hr.units0
 have hu1:=j6 hr
 refine ⟨_,(@jG _ _ _ _ _ (jV (i:=5) Z2.nd rfl (by first|exact Or.inl rfl|exact Or.inr rfl) (kA (oZ rfl) (by rfl) T.z_min PyProof.Rows.boot_min (jA (@jH _ _ _ _ _ _ _ _ kO (pv 2) (@jH _ _ _ _ _ _ _ _ yN jB jB)) (jA (@jH _ _ _ _ _ _ _ _ kO (pv 3) (@jH _ _ _ _ _ _ _ _ yN jB jB)) jC))))
   (@jG _ _ _ _ _ (jV (i:=6) Z2.nd rfl (by first|exact Or.inl rfl|exact Or.inr rfl) (kA (iK rfl) (by rfl) T.z_max PyProof.Rows.boot_max (jA (@jH _ _ _ _ _ _ _ _ kO (pv 2) (@jH _ _ _ _ _ _ _ _ yN jB jB)) (jA (@jH _ _ _ _ _ _ _ _ kO (pv 3) (@jH _ _ _ _ _ _ _ _ yN jB jB)) jC))))
   (v6 (j9 (j5 kS (@jH _ _ _ _ _ _ _ _ kO (@jH _ _ _ _ _ _ _ _ vN (pv 1) jB) jB) jB (jT _)) (@jF _ _ _ (jV (i:=5) Z2.nd rfl (by first|exact Or.inl rfl|exact Or.inr rfl) (pv 6))) kD)
   (@jG _ _ _ _ _ (jV (i:=7) Z2.nd rfl (by first|exact Or.inl rfl|exact Or.inr rfl) (kR (@jA _ _ _ _ _ jB (@jA _ _ _ _ _ (pv 5) (@jA _ _ _ _ _ (pv 6) (@jA _ _ _ _ _ (kA (oZ rfl) (by rfl) T.z_min PyProof.Rows.boot_min (jA (@jH _ _ _ _ _ _ _ _ qE (pv 6) jB) (jA (@jH _ _ _ _ _ _ _ _ yM (@jH _ _ _ _ _ _ _ _ yN jB jB) jB) jC))) (@jA _ _ _ _ _ (kA (iK rfl) (by rfl) T.z_max PyProof.Rows.boot_max (jA jB (jA (@jH _ _ _ _ _ _ _ _ yM (pv 5) jB) jC))) (@jA _ _ _ _ _ (@jH _ _ _ _ _ _ _ _ kO (@jH _ _ _ _ _ _ _ _ qE (@jH _ _ _ _ _ _ _ _ JJ (pv 2) jB) (pv 3)) (@jH _ _ _ _ _ _ _ _ yN jB jB)) jC (by rfl)) (by rfl)) (by rfl)) (by rfl)) (by rfl)) (by rfl))))
   (@jG _ _ _ _ _ (jV (i:=8) Z2.nd rfl (by first|exact Or.inl rfl|exact Or.inr rfl) (jI jN (pv 7) (@jH _ _ _ _ _ _ _ _ kO (@jH _ _ _ _ _ _ _ _ vN (pv 1) jB) jB) (fun _ _=>rfl)))
   (@jF _ _ _ (@jO _ _ _ _ (yF (@jA _ _ _ _ _ j7 (@jA _ _ _ _ _ (pv 0) (@jA _ _ _ _ _ (pv 5) (@jA _ _ _ _ _ (pv 6) (@jA _ _ _ _ _ (@jH _ _ _ _ _ _ _ _ qE jB (@jH _ _ _ _ _ _ _ _ kO (@jH _ _ _ _ _ _ _ _ vN (pv 3) jB) jB)) (@jA _ _ _ _ _ (pv 8) (@jA _ _ _ _ _ (@jH _ _ _ _ _ _ _ _ yM (@jH _ _ _ _ _ _ _ _ kO (@jH _ _ _ _ _ _ _ _ vN (pv 1) jB) (@jH _ _ _ _ _ _ _ _ qE (pv 4) jB)) jB) jC (by rfl)) (by rfl)) (by rfl)) (by rfl)) (by rfl)) (by rfl)) (by rfl)))))))))),?_⟩
 have eb0:=Int.emod_nonneg b (show (10:Int) ^ Int.toNat 12≠0 from by decide +kernel)
 have eb1:=Int.emod_lt_of_pos b (show (0:Int)<10 ^ Int.toNat 12 from by decide +kernel)
 have ec0:=Int.emod_nonneg c (show (10:Int) ^ Int.toNat 12≠0 from by decide +kernel)
 have ec1:=Int.emod_lt_of_pos c (show (0:Int)<10 ^ Int.toNat 12 from by decide +kernel)
 have ed0:=Int.emod_nonneg (b*48271+c) (show (10:Int) ^ Int.toNat 12≠0 from by decide +kernel)
 have ed1:=Int.emod_lt_of_pos (b*48271+c) (show (0:Int)<10 ^ Int.toNat 12 from by decide +kernel)
 refine ⟨_,rfl,_,_,rfl,rfl,⟨by decide,by decide,by decide⟩,_,_,rfl,rfl,(show (0:Int)<10 ^ Int.toNat 12 from by decide +kernel),_,rfl,_,_,rfl,rfl,⟨by decide,by decide,by decide⟩,_,_,rfl,rfl,(show (0:Int)<10 ^ Int.toNat 12 from by decide +kernel),_,_,rfl,_,rfl,_,_,rfl,rfl,⟨by decide,by decide,by decide⟩,_,_,rfl,rfl,(show (0:Int)<10 ^ Int.toNat 12 from by decide +kernel),_,rfl,_,_,rfl,rfl,⟨by decide,by decide,by decide⟩,_,_,rfl,rfl,(show (0:Int)<10 ^ Int.toNat 12 from by decide +kernel),_,_,rfl,?_⟩
 try dsimp only
 generalize hB:b%10 ^ Int.toNat 12=B at eb0 eb1 ⊢
 generalize hC:c%10 ^ Int.toNat 12=C at ec0 ec1 ⊢
 generalize hD:(b*48271+c)%10 ^ Int.toNat 12=D at ed0 ed1
 rw [mB] at eb1 ec1 ed1
 obtain ⟨least,hle⟩:∃z,(if C<B then C else B)=z:=⟨_,rfl⟩
 obtain ⟨crest,hcr⟩:∃z,(if C>B then C else B)=z:=⟨_,rfl⟩
 rw [hle,hcr]
 have f1:0≤least∧least≤crest∧crest≤999999999999:=by
  rw [← hle,← hcr]
  split<;>split<;>omega
 clear hle hcr
 refine ⟨fun σ' H'=>∃le:Int,σ'=[some (.str nm),some (.int a),some (.int b),some (.int c),some (.int (n:Int)),some (.int le),some (.int crest),none,none]∧H=H'∧0≤le∧le≤crest,?_,?_⟩
 ·refine ⟨_,rfl,_,_,rfl,rfl,⟨by decide,by decide⟩,_,_,rfl,rfl,(by show (0:Int)<5;decide),rfl,_,rfl,dJ (fun _=>?_) (fun _=>?_)⟩
  ·exact ⟨_,rfl,crest,rfl,rfl,by omega,Int.le_refl _⟩
  ·exact ⟨least,rfl,rfl,f1.1,f1.2.1⟩
 rintro σ' H' ⟨le,rfl,rfl,g1,g2⟩
 refine ⟨_,rfl,_,rfl,_,rfl,_,_,rfl,rfl,_,_,rfl,rfl,⟨by decide,by decide,by decide⟩,_,_,rfl,rfl,_,_,rfl,_,rfl,_,_,rfl,rfl,_,_,rfl,_,rfl,_,_,rfl,rfl,.inr ⟨by decide,by decide⟩,_,rfl,_,_,rfl,rfl,_,_,rfl,rfl,⟨by decide,by decide,by decide⟩,_,_,rfl,rfl,(show (0:Int)<10 ^ Int.toNat 12 from by decide +kernel),zz6,fun p hp=>?_⟩
 have s1:=jK hp (.lst [V.int 0,V.int le,V.int crest,V.int (if 10 ^ Int.toNat 12 - 1<crest+1 then 10 ^ Int.toNat 12 - 1 else crest+1),V.int (if le - 1>0 then le - 1 else 0),V.int ((b*48271+c)%10 ^ Int.toNat 12)])
 have hpl:=jD (H:=H) (a:=p) (o:=.lst [V.int 0,V.int le,V.int crest,V.int (if 10 ^ Int.toNat 12 - 1<crest+1 then 10 ^ Int.toNat 12 - 1 else crest+1),V.int (if le - 1>0 then le - 1 else 0),V.int ((b*48271+c)%10 ^ Int.toNat 12)])
 obtain ⟨wt,hwt,w1,w2⟩:=IN (n:=a / 4) (lo:=0) (hi:=999999999999) (x0:=0) (x1:=le) (x2:=crest) (x3:=if 10 ^ Int.toNat 12 - 1<crest+1 then 10 ^ Int.toNat 12 - 1 else crest+1) (x4:=if le - 1>0 then le - 1 else 0) (x5:=(b*48271+c)%10 ^ Int.toNat 12) ⟨by omega,by omega⟩ ⟨by omega,by omega⟩ ⟨by omega,by omega⟩ (by rw [mB];split<;>omega) (by split<;>omega) (by rw [hD];omega)
 refine ⟨_,rfl,_,rfl,_,_,rfl,rfl,⟨by decide,by decide⟩,_,_,rfl,rfl,(by show (0:Int)<6;decide),p,_,_,_,rfl,rfl,SqL.of hpl,hwt,?_⟩
 have hn1:(0:Int)<(n:Int)+1:=by omega
 have t0:=Int.emod_nonneg (a / 16) (show ((n:Int)+1)≠0 by omega)
 have t1:=Int.emod_lt_of_pos (a / 16) hn1
 have b0:=Int.emod_nonneg (c / 2) (by decide:(9:Int)≠0)
 have b1:=Int.emod_lt_of_pos (c / 2) (by decide:(0:Int)<9)
 refine ⟨_,rfl,_,rfl,_,rfl,_,rfl,_,_,rfl,rfl,⟨by decide,by decide⟩,_,_,rfl,rfl,(by show (0:Int)<9;decide),_,_,rfl,rfl,_,rfl,_,rfl,_,_,rfl,rfl,⟨by decide,by decide⟩,_,rfl,_,_,rfl,rfl,_,_,rfl,rfl,hn1,_,_,rfl,rfl,zz7,fun t ht=>?_⟩
 exact q ⟨nm,le,crest,1+c / 2%9,wt,a / 16%((n:Int)+1) - 1⟩ t _ rfl ⟨g1,g2,f1.2.2,by show 1≤1+c / 2%9;omega,by show 1+c / 2%9≤9;omega,w1,w2,by show -1≤a / 16%((n:Int)+1) - 1;omega,by show a / 16%((n:Int)+1) - 1<(n:Int);omega⟩ (s1.trans (jK ht _)) (s1.free ht) jD
theorem QB:FnScope ["name","a","b","c","many","high","room","extra","word"] ["name","a","b","c","many"] (jE Q8):=⟨rfl,rfl,rfl,by decide +kernel,rfl,by decide +kernel,by decide +kernel⟩
theorem uR {f:Addr} {fd:FuncData} (F:Fun K "_law_lock" "_law_lock" Q8 f fd) (T:Txt K mg cP cB cU cR cN tkS jX jW j4 j3 jZ j0 jY) : FnOk P w K mg base jP 1 f fd ["name","a","b","c","many"] (rL):=by
 refine F.ok QB (fun vs H Q E h=>?_) (fun cdv A outer s H vs Q E hr h=>?_)
 ·obtain ⟨nm,a,b,c,n,rfl,hn,q⟩:=h
  rfl
 obtain ⟨nm,a,b,c,n,rfl,hn,q⟩:=h
 have hu:_<cLine:=hr.units0
 have hu1:=j6 hr
 refine ⟨_,(@jG _ _ _ _ _ (jV (i:=5) QB.nd rfl (by first|exact Or.inl rfl|exact Or.inr rfl) (@jH _ _ _ _ _ _ _ _ qE jB (@jH _ _ _ _ _ _ _ _ kO (@jH _ _ _ _ _ _ _ _ vN (pv 1) jB) (@jH _ _ _ _ _ _ _ _ yM (pv 4) jB))))
   (@jG _ _ _ _ _ (jV (i:=6) QB.nd rfl (by first|exact Or.inl rfl|exact Or.inr rfl) (@jH _ _ _ _ _ _ _ _ qE jB (@jH _ _ _ _ _ _ _ _ kO (pv 2) (@jH _ _ _ _ _ _ _ _ yM (@jH _ _ _ _ _ _ _ _ yN jB jB) jB))))
   (@jG _ _ _ _ _ (jV (i:=7) QB.nd rfl (by first|exact Or.inl rfl|exact Or.inr rfl) (@jH _ _ _ _ _ _ _ _ qE jB (@jH _ _ _ _ _ _ _ _ kO (@jH _ _ _ _ _ _ _ _ vN (pv 3) jB) (pv 6))))
   (v6 (j9 (j5 kS (@jH _ _ _ _ _ _ _ _ kO (@jH _ _ _ _ _ _ _ _ vN (pv 3) jB) jB) jB (jT _)) (@jF _ _ _ (jV (i:=7) QB.nd rfl (by first|exact Or.inl rfl|exact Or.inr rfl) (pv 6))) kD)
   (@jG _ _ _ _ _ (jV (i:=8) QB.nd rfl (by first|exact Or.inl rfl|exact Or.inr rfl) (jI jN (kR (@jA _ _ _ _ _ j7 (@jA _ _ _ _ _ j7 (@jA _ _ _ _ _ j7 jC (by rfl)) (by rfl)) (by rfl))) (@jH _ _ _ _ _ _ _ _ kO (pv 3) jB) (fun _ _=>rfl)))
   (v6 (j9 (j5 kS (pv 8) j7 (jT _)) (@jF _ _ _ (jV (i:=7) QB.nd rfl (by first|exact Or.inl rfl|exact Or.inr rfl) jB)) kD)
   (@jF _ _ _ (@jO _ _ _ _ (yF (@jA _ _ _ _ _ j7 (@jA _ _ _ _ _ (pv 0) (@jA _ _ _ _ _ (pv 5) (@jA _ _ _ _ _ (@jH _ _ _ _ _ _ _ _ kO (@jH _ _ _ _ _ _ _ _ vN (pv 1) jB) (pv 5)) (@jA _ _ _ _ _ (pv 6) (@jA _ _ _ _ _ (pv 8) (@jA _ _ _ _ _ (pv 7) jC (by rfl)) (by rfl)) (by rfl)) (by rfl)) (by rfl)) (by rfl)) (by rfl))))))))))),?_⟩
 have hn1:(0:Int)<(n:Int) - 1:=by omega
 have a0:=Int.emod_nonneg (a / 4) (show (n:Int) - 1≠0 by omega)
 have a1:=Int.emod_lt_of_pos (a / 4) hn1
 have em:(10:Int) ^ Int.toNat 12 - 1=999999999999:=by decide +kernel
 have hr0:=Int.emod_nonneg b (show (10:Int) ^ Int.toNat 12 - 1≠0 from by decide +kernel)
 have hr1:=Int.emod_lt_of_pos b (show (0:Int)<10 ^ Int.toNat 12 - 1 from by decide +kernel)
 refine ⟨_,rfl,_,_,rfl,rfl,⟨by decide,by decide⟩,_,rfl,_,_,rfl,rfl,_,_,rfl,rfl,hn1,_,_,rfl,rfl,_,rfl,_,_,rfl,rfl,⟨by decide,by decide,by decide⟩,_,_,rfl,rfl,_,_,rfl,rfl,(show (0:Int)<10 ^ Int.toNat 12 - 1 from by decide +kernel),_,_,rfl,rfl,?_⟩
 try dsimp only
 generalize hH:1+a / 4%((n:Int) - 1)=high
 generalize hR:1+b%(10 ^ Int.toNat 12 - 1)=room
 rw [em] at hr0 hr1 hR
 have hh1:1≤high:=by omega
 have hh2:high<(n:Int):=by omega
 have hrm1:1≤room:=by omega
 have hrm2:room≤999999999999:=by omega
 have x0:=Int.emod_nonneg (c / 3) (show room≠0 by omega)
 have x1:=Int.emod_lt_of_pos (c / 3) (show 0<room by omega)
 have l0:=Int.emod_nonneg (a / 32) (show high≠0 by omega)
 have l1:=Int.emod_lt_of_pos (a / 32) (show 0<high by omega)
 refine ⟨_,rfl,_,_,rfl,rfl,⟨by decide,by decide⟩,_,rfl,_,_,rfl,rfl,(show (0:Int)<room by omega),_,_,rfl,rfl,?_⟩
 refine ⟨fun σ' H'=>∃ex:Int,σ'=[some (.str nm),some (.int a),some (.int b),some (.int c),some (.int (n:Int)),some (.int high),some (.int room),some (.int ex),none]∧H=H'∧1≤ex∧ex≤room,?_,?_⟩
 ·refine ⟨_,rfl,_,_,rfl,rfl,⟨by decide,by decide⟩,_,_,rfl,rfl,(by show (0:Int)<4;decide),rfl,_,rfl,dJ (fun _=>?_) (fun _=>?_)⟩
  ·exact ⟨_,rfl,room,rfl,rfl,hrm1,Int.le_refl _⟩
  ·exact ⟨_,rfl,rfl,by omega,by omega⟩
 rintro σ' H' ⟨ex,rfl,rfl,g1,g2⟩
 obtain ⟨kd,hkd⟩:=G9 c
 refine ⟨zz3,fun p hp=>?_⟩
 have s1:=jK hp (.lst [V.str "plain",V.str "basin",V.str "pump"])
 refine ⟨_,rfl,_,_,rfl,rfl,(by show (0:Int)<3;decide),p,_,_,_,rfl,rfl,SqL.of jD,hkd,?_⟩
 generalize upd H p (.lst [V.str "plain",V.str "basin",V.str "pump"])=H1 at s1 ⊢
 refine ⟨fun σ' H'=>∃ex:Int,σ'=[some (.str nm),some (.int a),some (.int b),some (.int c),some (.int (n:Int)),some (.int high),some (.int room),some (.int ex),some (.str (yI kd))]∧H1=H'∧(kd=.plain→ex=0)∧(kd≠.plain→1≤ex∧ex≤room),?_,?_⟩
 ·refine ⟨_,rfl,rfl,_,rfl,?_⟩
  by_cases hk:kd=.plain
  ·exact kM ((eK kd).mpr hk) ⟨0,rfl,rfl,fun _=>rfl,fun z=>absurd hk z⟩
  ·exact kJ (fun z=>hk ((eK kd).mp z)) ⟨ex,rfl,rfl,fun z=>absurd z hk,fun _=>⟨g1,g2⟩⟩
 rintro σ' H' ⟨ex,rfl,rfl,e1,e2⟩
 refine ⟨_,rfl,_,rfl,_,rfl,_,_,rfl,rfl,⟨by decide,by decide⟩,_,rfl,_,_,rfl,rfl,(show (0:Int)<high by omega),_,rfl,_,rfl,_,rfl,zz7,fun t ht=>?_⟩
 exact q ⟨nm,high,a / 32%high,room,kd,ex⟩ t _ rfl ⟨hh1,hh2,l0,l1,hrm1,hrm2,e1,e2⟩ (s1.trans (jK ht _)) (s1.free ht) jD
theorem Z0:FnScope ["a","b","c","many","told","bits","k","comes"] ["a","b","c","many"] (jE ZB):=⟨rfl,rfl,rfl,by decide +kernel,rfl,by decide +kernel,by decide +kernel⟩
theorem uU {f:Addr} {fd:FuncData} (F:Fun K "_law_night" "_law_night" ZB f fd) (T:Txt K mg cP cB cU cR cN tkS jX jW j4 j3 jZ j0 jY) : FnOk P w K mg base jP 1 f fd ["a","b","c","many"] (pG):=by
 refine F.ok Z0 (fun vs H Q E h=>?_) (fun cdv A outer s H vs Q E hr h=>?_)
 ·obtain ⟨a,b,c,n,rfl,hn,q⟩:=h
  rfl
 obtain ⟨a,b,c,n,rfl,hn,q⟩:=h
 have hu:_<cLine:=hr.units0
 have hu1:=j6 hr
 refine ⟨_,(@jG _ _ _ _ _ (jV (i:=4) Z0.nd rfl (by first|exact Or.inl rfl|exact Or.inr rfl) (kR jC))
   (@jG _ _ _ _ _ (jV (i:=5) Z0.nd rfl (by first|exact Or.inl rfl|exact Or.inr rfl) (@jH _ _ _ _ _ _ _ _ vN (pv 0) jB))
   (@jG _ _ _ _ _ (vE PassesOwn.never rfl (zE (by rfl) T.z_range (jA (pv 3) jC)) (kF (i:=6) Z0.nd rfl (by first|exact Or.inl rfl|exact Or.inr rfl))
    (v6 (j9 (j5 kS (@jH _ _ _ _ _ _ _ _ kO (pv 5) jB) jB (jT _)) (@jG _ _ _ _ _ (jV (i:=7) Z0.nd rfl (by first|exact Or.inl rfl|exact Or.inr rfl) (jI jN (kR (@jA _ _ _ _ _ jB (@jA _ _ _ _ _ (@jH _ _ _ _ _ _ _ _ kO (pv 1) (@jH _ _ _ _ _ _ _ _ yN jB jB)) (@jA _ _ _ _ _ (@jH _ _ _ _ _ _ _ _ kO (@jH _ _ _ _ _ _ _ _ qE (@jH _ _ _ _ _ _ _ _ JJ (pv 1) (@jH _ _ _ _ _ _ _ _ qE (pv 6) jB)) (pv 2)) (@jH _ _ _ _ _ _ _ _ yN jB jB)) jC (by rfl)) (by rfl)) (by rfl))) (@jH _ _ _ _ _ _ _ _ kO (@jH _ _ _ _ _ _ _ _ qE (pv 1) (pv 6)) jB) (fun _ _=>rfl)))
   (@jF _ _ _ (qH (qP PySem.F.plainAttrs_list PySem.F.slot_list_append PySem.F.type_list_append yY (pv 4) (jA (yF (@jA _ _ _ _ _ (pv 6) (@jA _ _ _ _ _ (pv 7) (@jA _ _ _ _ _ (jI jN (kR (@jA _ _ _ _ _ jB (@jA _ _ _ _ _ (@jH _ _ _ _ _ _ _ _ kO (pv 2) jB) (@jA _ _ _ _ _ (@jH _ _ _ _ _ _ _ _ kO (@jH _ _ _ _ _ _ _ _ qE (@jH _ _ _ _ _ _ _ _ JJ (pv 2) (@jH _ _ _ _ _ _ _ _ qE (pv 6) jB)) (pv 1)) (@jH _ _ _ _ _ _ _ _ yN jB jB)) jC (by rfl)) (by rfl)) (by rfl))) (@jH _ _ _ _ _ _ _ _ kO (@jH _ _ _ _ _ _ _ _ qE (pv 2) (pv 6)) jB) (fun _ _=>rfl)) jC (by rfl)) (by rfl)) (by rfl))) jC))))) kD)
   (@jF _ _ _ (jV (i:=5) Z0.nd rfl (by first|exact Or.inl rfl|exact Or.inr rfl) (@jH _ _ _ _ _ _ _ _ vN (pv 5) jB)))))
   (v6 (j9 (j5 kS (@jH _ _ _ _ _ _ _ _ kO (pv 2) jB) jB (jT _)) (@jF _ _ _ (qH (HL PySem.F.plainAttrs_list PySem.F.slot_list_reverse PySem.F.type_list_reverse CB (pv 4)))) kD)
   (@jF _ _ _ (@jO _ _ _ _ (yF (jA j7 (jA (pv 4) jC))))))))),?_⟩
 refine ⟨zz0,fun l hl=>?_⟩
 have s0:=jK hl (.lst [])
 refine ⟨_,rfl,_,_,rfl,rfl,⟨by decide,by decide⟩,?_⟩
 refine ⟨_,rfl,_,rfl,by omega,by omega,zQ (n:=Int.toNat (n:Int)) (fun i σ Hi=>∃(bits:Int) (ck cc:Option V) (rs:List V) (ts:List (Nat×Int×Int)),σ=[some (.int a),some (.int b),some (.int c),some (.int (n:Int)),some (.ref l),some (.int bits),ck,cc]∧Hi l=some (.lst rs)∧TripsAt Hi rs ts∧tripsOk ts i∧ts.length≤i∧Same H Hi) ⟨_,none,none,[],[],rfl,jD,⟨rfl,fun i r h=>by cases h⟩,⟨List.nodup_nil,fun q h=>by cases h⟩,Nat.le_refl _,s0⟩ ?_ ?_⟩
 ·rintro i σ Hi hi ⟨bits,ck,cc,rs,ts,rfl,hl1,htr,hok,hlen,sm⟩
  have hi8:i<8:=by have:i<Int.toNat (n:Int):=hi;omega
  rw [Int.zero_add]
  refine ⟨fun σ' H'=>∃(cc:Option V) (rs:List V) (ts:List (Nat×Int×Int)),σ'=[some (.int a),some (.int b),some (.int c),some (.int (n:Int)),some (.ref l),some (.int bits),some (.int (i:Int)),cc]∧H' l=some (.lst rs)∧TripsAt H' rs ts∧tripsOk ts (i+1)∧ts.length≤i+1∧Same H H',?_,?_⟩
  ·refine ⟨_,rfl,_,_,rfl,rfl,(by show (0:Int)<2;decide),rfl,_,rfl,dJ (fun _=>?_) (fun _=>⟨cc,rs,ts,rfl,hl1,htr,hok.more (by omega),by omega,sm⟩)⟩
   refine ⟨_,rfl,_,_,rfl,rfl,⟨by decide,by decide,by decide⟩,_,_,rfl,rfl,(show (0:Int)<10 ^ Int.toNat 12 from by decide +kernel),_,rfl,_,rfl,_,_,rfl,rfl,_,_,rfl,rfl,.inr ⟨by omega,by omega⟩,_,rfl,_,_,rfl,rfl,_,_,rfl,rfl,⟨by decide,by decide,by decide⟩,_,_,rfl,rfl,(show (0:Int)<10 ^ Int.toNat 12 from by decide +kernel),zz3,fun p hp=>?_⟩
   obtain ⟨x,hx,hx1,hx2⟩:=sZ (n:=b+(i:Int)) (x0:=0) (x1:=b%10 ^ Int.toNat 12) (x2:=(b*((i:Int)+1)+c)%10 ^ Int.toNat 12) (lo:=0) (hi:=999999999999) ⟨by decide,by decide⟩ (lZ _) (lZ _)
   refine ⟨_,rfl,_,rfl,_,_,rfl,rfl,_,_,rfl,rfl,(by show (0:Int)<3;decide),p,_,_,_,rfl,rfl,SqL.of jD,hx,?_⟩
   have u1:=jK hp (.lst [V.int 0,V.int (b%10 ^ Int.toNat 12),V.int ((b*((i:Int)+1)+c)%10 ^ Int.toNat 12)])
   generalize upd Hi p (.lst [V.int 0,V.int (b%10 ^ Int.toNat 12),V.int ((b*((i:Int)+1)+c)%10 ^ Int.toNat 12)])=H1 at u1 ⊢
   have hc7:0≤c%7∧c%7≤999999999999:=by have:=Int.emod_nonneg c (by decide:(7:Int)≠0);have:=Int.emod_lt_of_pos c (by decide:(0:Int)<7);omega
   refine ⟨_,rfl,.inl ⟨rfl,_,SqL.of (u1 _ _ hl1)⟩,_,rfl,_,rfl,_,rfl,_,_,rfl,rfl,(by show (0:Int)<7;decide),_,rfl,_,rfl,_,_,rfl,rfl,_,_,rfl,rfl,.inr ⟨by omega,by omega⟩,_,rfl,_,_,rfl,rfl,_,_,rfl,rfl,⟨by decide,by decide,by decide⟩,_,_,rfl,rfl,(show (0:Int)<10 ^ Int.toNat 12 from by decide +kernel),zz3,fun p2 hp2=>?_⟩
   obtain ⟨y,hy,hy1,hy2⟩:=sZ (n:=c+(i:Int)) (x0:=0) (x1:=c%7) (x2:=(c*((i:Int)+3)+b)%10 ^ Int.toNat 12) (lo:=0) (hi:=999999999999) ⟨by decide,by decide⟩ hc7 (lZ _)
   have u2:=jK hp2 (.lst [V.int 0,V.int (c%7),V.int ((c*((i:Int)+3)+b)%10 ^ Int.toNat 12)])
   refine ⟨_,rfl,_,rfl,_,_,rfl,rfl,_,_,rfl,rfl,(by show (0:Int)<3;decide),p2,_,_,_,rfl,rfl,SqL.of jD,hy,?_⟩
   generalize upd H1 p2 (.lst [V.int 0,V.int (c%7),V.int ((c*((i:Int)+3)+b)%10 ^ Int.toNat 12)])=H2 at u2 ⊢
   refine ⟨zz3,fun tp htp=>?_⟩
   have u3:=jK htp (.tup [V.int (i:Int),V.int x,V.int y])
   have htp1:upd H2 tp (.tup [V.int (i:Int),V.int x,V.int y]) tp=some (.tup [V.int (i:Int),V.int x,V.int y]):=jD
   have sHi:=(u1.trans u2).trans u3
   generalize upd H2 tp (.tup [V.int (i:Int),V.int x,V.int y])=H3 at u3 htp1 sHi ⊢
   have hl3:=sHi _ _ hl1
   refine ⟨l,_,_,rfl,rfl,hl3,vI (by rw [htr.1];omega),?_⟩
   refine ⟨_,rs++[.ref tp],ts++[(i,x,y)],rfl,jD,?_,hok.snoc ⟨hx1,hx2⟩ ⟨hy1,hy2⟩,by rw [List.length_append];show ts.length+1≤i+1;omega,kU hl (sm.trans sHi)⟩
   exact ((htr.same sHi).snoc htp1).keep ((Keep.refl l _).upd _) hl3
  rintro σ' H' ⟨cc,rs,ts,rfl,hl1,htr,hok,hlen,sm⟩
  exact ⟨_,rfl,_,_,rfl,rfl,⟨by decide,by decide⟩,_,_,cc,rs,ts,rfl,hl1,htr,hok,hlen,sm⟩
 rintro σ Hi ⟨bits,ck,cc,rs,ts,rfl,hl1,htr,hok,hlen,sm⟩
 have hok:tripsOk ts n:=hok
 have hlen:ts.length≤8:=by have:ts.length≤Int.toNat (n:Int):=hlen;omega
 refine ⟨fun σ' H'=>∃(rs:List V) (ts:List (Nat×Int×Int)),σ'=[some (.int a),some (.int b),some (.int c),some (.int (n:Int)),some (.ref l),some (.int bits),ck,cc]∧H' l=some (.lst rs)∧TripsAt H' rs ts∧tripsOk ts n∧ts.length≤8∧Same H H',?_,?_⟩
 ·refine ⟨_,rfl,_,_,rfl,rfl,(by show (0:Int)<2;decide),rfl,_,rfl,dJ (fun _=>?_) (fun _=>⟨rs,ts,rfl,hl1,htr,hok,hlen,sm⟩)⟩
  refine ⟨_,rfl,.inl ⟨rfl,_,SqL.of hl1⟩,l,_,rfl,rfl,hl1,?_⟩
  exact ⟨rs.reverse,ts.reverse,rfl,jD,htr.rev.keep ((Keep.refl l _).upd _) hl1,hok.rev,by rw [List.length_reverse];exact hlen,kU hl sm⟩
 rintro σ' H' ⟨rs,ts,rfl,hl1,htr,hok,hlen,sm⟩
 refine ⟨_,rfl,zz2,fun t ht=>?_⟩
 have u:=jK ht (.tup [V.str "night",V.ref l])
 exact q ts rs t l _ hok hlen (sm.trans u) (sm.free ht) hl jD (u _ _ hl1) (htr.same u)
theorem Z1:FnScope ["script","names","gates","plan","many","at","cells","way"] ["script","names","gates"] (jE JW):=⟨rfl,rfl,rfl,by decide +kernel,rfl,by decide +kernel,by decide +kernel⟩
theorem uX {f:Addr} {fd:FuncData} (F:Fun K "_law_plan" "_law_plan" JW f fd) (T:Txt K mg cP cB cU cR cN tkS jX jW j4 j3 jZ j0 jY) (D__law_cell_at:Def P w K mg base 1 "_law_cell_at" ["script","k"] [] (lE K)) (D__law_night:Def P w K mg base 1 "_law_night" ["a","b","c","many"] [] (pG)) (D__law_lock:Def P w K mg base 1 "_law_lock" ["name","a","b","c","many"] [] (rL)) (D__law_reach:Def P w K mg base 1 "_law_reach" ["name","a","b","c","many"] [] (pF)):FnOk P w K mg base jP 2 f fd ["script","names","gates"] (rJ K):=by
 refine F.ok Z1 (fun vs H Q E h=>?_) (fun cdv A outer s H vs Q E hr h=>?_)
 ·obtain ⟨s,nl,gl,ns,rn,gn,rfl,hS,h63,hnl,hgl,q⟩:=h
  rfl
 obtain ⟨s,nl,gl,ns,rn,gn,rfl,hS,h63,hnl,hgl,q⟩:=h
 have hu:_<cLine:=hr.units0
 have hu1:=j6 hr
 refine ⟨_,(@jG _ _ _ _ _ (jV (i:=3) Z1.nd rfl (by first|exact Or.inl rfl|exact Or.inr rfl) (kR jC))
   (@jG _ _ _ _ _ (jV (i:=4) Z1.nd rfl (by first|exact Or.inl rfl|exact Or.inr rfl) (kR (@jA _ _ _ _ _ jB (@jA _ _ _ _ _ jB (@jA _ _ _ _ _ jB jC (by rfl)) (by rfl)) (by rfl))))
   (@jG _ _ _ _ _ (vE PassesOwn.never rfl (GA (by rfl) T.z_range (@jA _ _ _ _ _ jB (@jA _ _ _ _ _ (kA kQ (by rfl) T.z_len PySem.boot_len (jA (pv 0) jC)) (@jA _ _ _ _ _ jB jC (by rfl)) (by rfl)) (by rfl))) (kF (i:=5) Z1.nd rfl (by first|exact Or.inl rfl|exact Or.inr rfl))
    (@jG _ _ _ _ _ (QD (i:=6) ["k","script","at"] (qB 1 [0,5]) Z1.nd rfl (by first|exact Or.inl rfl|exact Or.inr rfl) rfl (qK (jE JW) rfl rfl (by decide +kernel) (by decide +kernel) (by decide +kernel)) (qI 1 [0,5] rfl rfl (by decide +kernel)) (zE (by rfl) T.z_range (jA jB jC)) (fun _ _ _ _ _=>(kF (i:=0) (show List.Nodup (["k","script","at"]:List Str) from by decide +kernel) rfl (by first|exact Or.inl rfl|exact Or.inr rfl))) (fun _ _ _ _ _=>qU) (fun _ _ _ _ _=>(@jH _ _ _ _ _ _ _ _ kO (jU D__law_cell_at hr rfl (jA (pv 1) (jA (@jH _ _ _ _ _ _ _ _ qE (pv 2) (pv 0)) jC))) (@jH _ _ _ _ _ _ _ _ yN jB jB))))
   (@jG _ _ _ _ _ (jV (i:=7) Z1.nd rfl (by first|exact Or.inl rfl|exact Or.inr rfl) (@jH _ _ _ _ _ _ _ _ kO (jI jN (pv 6) jB (fun _ _=>rfl)) jB))
   (@jF _ _ _ (j9 (PW.pt (cY (j5 kS (pv 7) jB (jT _)) (eX (j5 dE (jI jN (pv 4) jB (fun _ _=>rfl)) jB (jT _))))) (@jG _ _ _ _ _ (bG (@jH _ _ _ _ _ _ _ _ qE (jI jN (pv 4) jB (fun _ _=>rfl)) jB) (bI (pv 4) jB zR))
   (@jF _ _ _ (qH (qP PySem.F.plainAttrs_list PySem.F.slot_list_append PySem.F.type_list_append yY (pv 3) (jA (jU D__law_night hr rfl (@jA _ _ _ _ _ (jI jN (pv 6) jB (fun _ _=>rfl)) (@jA _ _ _ _ _ (jI jN (pv 6) jB (fun _ _=>rfl)) (@jA _ _ _ _ _ (jI jN (pv 6) jB (fun _ _=>rfl)) (@jA _ _ _ _ _ (jI jN (pv 4) jB (fun _ _=>rfl)) jC (by rfl)) (by rfl)) (by rfl)) (by rfl))) jC))))) (@jF _ _ _ (j9 (PW.pt (cY (j5 kS (pv 7) jB (jT _)) (cY (j5 tD (jI jN (pv 4) jB (fun _ _=>rfl)) jB (jT _)) (eX (j5 dE (jI jN (pv 4) jB (fun _ _=>rfl)) jB (jT _)))))) (@jG _ _ _ _ _ (bG (@jH _ _ _ _ _ _ _ _ qE (jI jN (pv 4) jB (fun _ _=>rfl)) jB) (bI (pv 4) jB zR))
   (@jF _ _ _ (qH (qP PySem.F.plainAttrs_list PySem.F.slot_list_append PySem.F.type_list_append yY (pv 3) (jA (jU D__law_lock hr rfl (@jA _ _ _ _ _ (jI jN (pv 2) (@jH _ _ _ _ _ _ _ _ yM (jI jN (pv 4) jB (fun _ _=>rfl)) jB) (fun _ _=>rfl)) (@jA _ _ _ _ _ (jI jN (pv 6) jB (fun _ _=>rfl)) (@jA _ _ _ _ _ (jI jN (pv 6) jB (fun _ _=>rfl)) (@jA _ _ _ _ _ (jI jN (pv 6) jB (fun _ _=>rfl)) (@jA _ _ _ _ _ (jI jN (pv 4) jB (fun _ _=>rfl)) jC (by rfl)) (by rfl)) (by rfl)) (by rfl)) (by rfl))) jC))))) (@jF _ _ _ (j9 (j5 dE (jI jN (pv 4) jB (fun _ _=>rfl)) jB (jT _)) (@jG _ _ _ _ _ (bG (@jH _ _ _ _ _ _ _ _ qE (jI jN (pv 4) jB (fun _ _=>rfl)) jB) (bI (pv 4) jB zR))
   (@jF _ _ _ (qH (qP PySem.F.plainAttrs_list PySem.F.slot_list_append PySem.F.type_list_append yY (pv 3) (jA (jU D__law_reach hr rfl (@jA _ _ _ _ _ (jI jN (pv 1) (@jH _ _ _ _ _ _ _ _ yM (jI jN (pv 4) jB (fun _ _=>rfl)) jB) (fun _ _=>rfl)) (@jA _ _ _ _ _ (jI jN (pv 6) jB (fun _ _=>rfl)) (@jA _ _ _ _ _ (jI jN (pv 6) jB (fun _ _=>rfl)) (@jA _ _ _ _ _ (jI jN (pv 6) jB (fun _ _=>rfl)) (@jA _ _ _ _ _ (@jH _ _ _ _ _ _ _ _ yM (jI jN (pv 4) jB (fun _ _=>rfl)) jB) jC (by rfl)) (by rfl)) (by rfl)) (by rfl)) (by rfl))) jC))))) kD)))))))))
   (v6 (j9 (j5 kS (jI jN (pv 4) jB (fun _ _=>rfl)) jB (jT _)) (@jF _ _ _ (qH (qP PySem.F.plainAttrs_list PySem.F.slot_list_append PySem.F.type_list_append yY (pv 3) (jA (yF (@jA _ _ _ _ _ j7 (@jA _ _ _ _ _ (jI jN (pv 1) jB (fun _ _=>rfl)) (@jA _ _ _ _ _ jB (@jA _ _ _ _ _ jB (@jA _ _ _ _ _ jB (@jA _ _ _ _ _ jB (@jA _ _ _ _ _ (fL fA jB) jC (by rfl)) (by rfl)) (by rfl)) (by rfl)) (by rfl)) (by rfl)) (by rfl))) jC)))) kD)
   (@jF _ _ _ (@jO _ _ _ _ (pv 3))))))),?_⟩
 refine ⟨zz0,fun pl hpl0=>?_⟩
 have s1:=jK hpl0 (.lst [])
 refine ⟨zz3,fun mn hmn1=>?_⟩
 have s2:=jK hmn1 (.lst [V.int 0,V.int 0,V.int 0])
 have hmn0:=s1.free hmn1
 have npm:pl≠mn:=kE (jD (H:=H) (a:=pl) (o:=.lst [])) hmn1
 have hml:(ns.map V.int).length=ns.length:=List.length_map _
 obtain ⟨n,hn,hn21⟩:∃n:Nat,Builtin.Range.rangeSize 2 (((ns.map V.int).length:Nat):Int) 3=(n:Int)∧n≤21:=by
  rw [C4 (by decide),hml]
  split
  ·exact ⟨(((ns.length:Nat):Int) - 2 - 1).toNat / 3+1,by omega,by omega⟩
  ·exact ⟨0,rfl,by omega⟩
 refine ⟨_,rfl,s,_,rfl,.inl ((s1.trans s2).seq hS),2,_,3,n,rfl,by decide,by decide,(by rw [hml];exact C9 h63),hn,?_⟩
 refine FC (a:=2) (c:=3) (n:=n) (fun i σ Hi=>∃(its:List PIt) (a b c:Nat) (vs:List V) (c5 c6 c7:Option V),σ=[some (.ref s),some (.ref nl),some (.ref gl),some (.ref pl),some (.ref mn),c5,c6,c7]∧PlanOk rn gn its a b c∧Hi pl=some (.lst vs)∧Hi mn=some (.lst [V.int (a:Int),V.int (b:Int),V.int (c:Int)])∧PlanAt [pl,mn] Hi vs its∧Same H Hi) ⟨[],0,0,0,[],none,none,none,rfl,.nil,s2 _ _ jD,jD,PlanAt.nil,s1.trans s2⟩ ?_ ?_
 ·rintro i σ Hi hi ⟨its,a,b,c,vs,c5,c6,c7,rfl,ok,hpl,hmn,hpa,sm⟩
  refine ⟨_,rfl,by decide,by decide,fun cl hcl0=>?_⟩
  refine BP (n:=3) (caps:=[some (.ref s),some (.int (2+(i:Int)*3))]) (fun j ys Hj=>∃zs:List Int,ys=zs.map V.int∧zs.length=j) hcl0 ⟨[],rfl,rfl⟩ ?_ ?_
  ·rintro j ys Hj hj hle sm3 hY ⟨zs,rfl,hzl⟩
   rw [Int.zero_add]
   refine qW (qM ?_)
   refine ⟨_,rfl,_,rfl,_,rfl,_,_,rfl,rfl,s,ns,2+i*3+j,(by rw [show ((2+i*3+j:Nat):Int)=2+(i:Int)*3+(j:Int) by omega];rfl),(sm.trans sm3).seq hS,_,_,rfl,rfl,⟨by decide,by decide,by decide⟩,_,_,rfl,rfl,(show (0:Int)<10 ^ Int.toNat 40 from by decide +kernel),?_⟩
   refine qL hcl0 sm3 hY hle (by omega) (Same.refl _) ⟨zs++[ns.getD (2+i*3+j) 0%10 ^ Int.toNat 40],by rw [List.map_append];rfl,by rw [List.length_append,hzl];rfl⟩
  rintro ys Hj sj hcl hle ⟨zs,rfl,hzl⟩
  obtain ⟨z0,z1,z2,rfl⟩:∃z0 z1 z2,zs=[z0,z1,z2]:=by
   match zs,hzl with
   |[z0,z1,z2],_=>exact ⟨z0,z1,z2,rfl⟩
  have ncm:cl≠mn:=(kE hmn hcl0).symm
  have hpl:=sj _ _ hpl
  have hmn:=sj _ _ hmn
  have hpa:=hpa.same sj
  have sm:=sm.trans sj
  clear hcl0
  refine ⟨_,rfl,cl,_,_,_,rfl,rfl,SqL.of hcl,rfl,_,_,rfl,rfl,(by show (0:Int)<4;decide),?_⟩
  try dsimp only
  generalize z0%4=way
  refine ⟨_,rfl,rfl,_,rfl,?_⟩
  by_cases h3:way=3
  ·refine kM (congrArg V.int h3) ⟨_,rfl,mn,_,_,_,rfl,rfl,SqL.of hmn,rfl,_,_,rfl,rfl,_,rfl,?_⟩
   by_cases hc6:c<6
   ·refine kM (by omega) ?_
    refine ⟨_,rfl,mn,_,_,_,rfl,rfl,SqL.of hmn,rfl,_,_,rfl,rfl,_,rfl,mn,_,_,_,rfl,rfl,hmn,rfl,?_⟩
    have km:Keep mn Hj (upd Hj mn (.lst [V.int (a:Int),V.int (b:Int),V.int ((c:Int)+1)])):=(Keep.refl mn _).upd _
    have hmn2:upd Hj mn (.lst [V.int (a:Int),V.int (b:Int),V.int ((c:Int)+1)]) mn=some (.lst [V.int (a:Int),V.int (b:Int),V.int ((c:Int)+1)]):=jD
    have hpl2:=km _ _ npm hpl
    have hpa2:=hpa.keep km hmn (by simp)
    have sm2:Same H (upd Hj mn (.lst [V.int (a:Int),V.int (b:Int),V.int ((c:Int)+1)])):=kU hmn0 sm
    have hcl2:=km _ _ ncm hcl
    have hset:([V.int (a:Int),V.int (b:Int),V.int (c:Int)]:List V).set (Int.toNat 2) (V.int ((c:Int)+1))=[V.int (a:Int),V.int (b:Int),V.int ((c:Int)+1)]:=rfl
    try rw [hset]
    generalize upd Hj mn (.lst [V.int (a:Int),V.int (b:Int),V.int ((c:Int)+1)])=Hk at km hmn2 hpl2 hpa2 sm2 hcl2 ⊢
    refine ⟨_,rfl,.inl ⟨rfl,_,SqL.of hpl2⟩,_,rfl,cl,_,_,_,rfl,rfl,SqL.of hcl2,rfl,_,rfl,cl,_,_,_,rfl,rfl,SqL.of hcl2,rfl,_,rfl,cl,_,_,_,rfl,rfl,SqL.of hcl2,rfl,_,rfl,mn,_,_,_,rfl,rfl,SqL.of hmn2,rfl,z0,z1,z2,a,rfl,ok.bounds.1,fun ts rs t l Hm hts htl sM ht0 hl0 ht hl htr=>?_⟩
    have hpl3:=sM _ _ hpl2
    have kp:Keep pl Hm (upd Hm pl (.lst (vs++[.ref t]))):=(Keep.refl pl _).upd _
    refine ⟨pl,_,_,rfl,rfl,hpl3,vI (by rw [hpa.1,ok.bounds.2.2.2];have:=ok.bounds;omega),?_⟩
    refine ⟨its++[.night ts],a,b,c+1,_,_,_,_,rfl,ok.night hc6 hts htl,jD,kp _ _ (fun z=>npm z.symm) (sM _ _ hmn2),?_,kU hpl0 (sm2.trans sM)⟩
    exact ((hpa2.same sM).snoc (v:=.ref t) (it:=.night ts) ⟨t,l,rs,rfl,ht,hl,htr,by simp only [List.mem_cons,List.mem_nil_iff,or_false,not_or];exact ⟨fun z=>kE hpl2 (z▸hl0) rfl,fun z=>kE hmn2 (z▸hl0) rfl⟩⟩).keep kp hpl3 (by simp)
   ·refine kJ (by omega) ⟨_,rfl,rfl,_,rfl,kJ (fun z=>absurd (V.int.inj z) (by omega)) ?_⟩
    refine ⟨_,rfl,mn,_,_,_,rfl,rfl,SqL.of hmn,rfl,_,_,rfl,rfl,_,rfl,?_⟩
    by_cases ha8:a<8
    ·refine kM (by omega) ?_
     refine ⟨_,rfl,mn,_,_,_,rfl,rfl,SqL.of hmn,rfl,_,_,rfl,rfl,_,rfl,mn,_,_,_,rfl,rfl,hmn,rfl,?_⟩
     have km:Keep mn Hj (upd Hj mn (.lst [V.int ((a:Int)+1),V.int (b:Int),V.int (c:Int)])):=(Keep.refl mn _).upd _
     have hmn2:upd Hj mn (.lst [V.int ((a:Int)+1),V.int (b:Int),V.int (c:Int)]) mn=some (.lst [V.int ((a:Int)+1),V.int (b:Int),V.int (c:Int)]):=jD
     have hpl2:=km _ _ npm hpl
     have hpa2:=hpa.keep km hmn (by simp)
     have sm2:Same H (upd Hj mn (.lst [V.int ((a:Int)+1),V.int (b:Int),V.int (c:Int)])):=kU hmn0 sm
     have hcl2:=km _ _ ncm hcl
     have hset:([V.int (a:Int),V.int (b:Int),V.int (c:Int)]:List V).set (Int.toNat 0) (V.int ((a:Int)+1))=[V.int ((a:Int)+1),V.int (b:Int),V.int (c:Int)]:=rfl
     try rw [hset]
     generalize upd Hj mn (.lst [V.int ((a:Int)+1),V.int (b:Int),V.int (c:Int)])=Hk at km hmn2 hpl2 hpa2 sm2 hcl2 ⊢
     refine ⟨_,rfl,.inl ⟨rfl,_,SqL.of hpl2⟩,_,rfl,_,rfl,mn,_,_,_,rfl,rfl,SqL.of hmn2,rfl,_,_,rfl,rfl,nl,_,_,_,rfl,rfl,SqL.of (sm2 _ _ hnl),cI rn ha8,_,rfl,cl,_,_,_,rfl,rfl,SqL.of hcl2,rfl,_,rfl,cl,_,_,_,rfl,rfl,SqL.of hcl2,rfl,_,rfl,cl,_,_,_,rfl,rfl,SqL.of hcl2,rfl,_,rfl,mn,_,_,_,rfl,rfl,SqL.of hmn2,rfl,_,_,rfl,rfl,jJ (rn a),z0,z1,z2,a,(by show [V.str (jJ (rn a)),V.int z0,V.int z1,V.int z2,V.int ((a:Int)+1 - 1)]=_;rw [show (a:Int)+1 - 1=(a:Int) by omega]),fun r t Hm hnm hg sM ht0 ht=>?_⟩
     have hpl3:=sM _ _ hpl2
     have kp:Keep pl Hm (upd Hm pl (.lst (vs++[.ref t]))):=(Keep.refl pl _).upd _
     refine ⟨pl,_,_,rfl,rfl,hpl3,vI (by rw [hpa.1,ok.bounds.2.2.2];have:=ok.bounds;omega),?_⟩
     refine ⟨its++[.reach r],a+1,b,c,_,_,_,_,rfl,ok.reach ha8 hnm hg,jD,kp _ _ (fun z=>npm z.symm) (sM _ _ hmn2),?_,kU hpl0 (sm2.trans sM)⟩
     exact ((hpa2.same sM).snoc (v:=.ref t) (it:=.reach r) ⟨t,rfl,ht⟩).keep kp hpl3 (by simp)
    ·exact kJ (by omega) ⟨its,a,b,c,vs,_,_,_,rfl,ok,hpl,hmn,hpa,sm⟩
  ·refine kJ (fun z=>h3 (V.int.inj z)) ⟨_,rfl,rfl,_,rfl,?_⟩
   by_cases h2:way=2
   ·refine kM (congrArg V.int h2) ⟨_,rfl,mn,_,_,_,rfl,rfl,SqL.of hmn,rfl,_,_,rfl,rfl,_,rfl,?_⟩
    by_cases ha1:1<a
    ·refine kM (by omega) ⟨_,rfl,mn,_,_,_,rfl,rfl,SqL.of hmn,rfl,_,_,rfl,rfl,_,rfl,?_⟩
     by_cases hb8:b<8
     ·refine kM (by omega) ?_
      refine ⟨_,rfl,mn,_,_,_,rfl,rfl,SqL.of hmn,rfl,_,_,rfl,rfl,_,rfl,mn,_,_,_,rfl,rfl,hmn,rfl,?_⟩
      have km:Keep mn Hj (upd Hj mn (.lst [V.int (a:Int),V.int ((b:Int)+1),V.int (c:Int)])):=(Keep.refl mn _).upd _
      have hmn2:upd Hj mn (.lst [V.int (a:Int),V.int ((b:Int)+1),V.int (c:Int)]) mn=some (.lst [V.int (a:Int),V.int ((b:Int)+1),V.int (c:Int)]):=jD
      have hpl2:=km _ _ npm hpl
      have hpa2:=hpa.keep km hmn (by simp)
      have sm2:Same H (upd Hj mn (.lst [V.int (a:Int),V.int ((b:Int)+1),V.int (c:Int)])):=kU hmn0 sm
      have hcl2:=km _ _ ncm hcl
      have hset:([V.int (a:Int),V.int (b:Int),V.int (c:Int)]:List V).set (Int.toNat 1) (V.int ((b:Int)+1))=[V.int (a:Int),V.int ((b:Int)+1),V.int (c:Int)]:=rfl
      try rw [hset]
      generalize upd Hj mn (.lst [V.int (a:Int),V.int ((b:Int)+1),V.int (c:Int)])=Hk at km hmn2 hpl2 hpa2 sm2 hcl2 ⊢
      refine ⟨_,rfl,.inl ⟨rfl,_,SqL.of hpl2⟩,_,rfl,_,rfl,mn,_,_,_,rfl,rfl,SqL.of hmn2,rfl,_,_,rfl,rfl,gl,_,_,_,rfl,rfl,SqL.of (sm2 _ _ hgl),cI gn hb8,_,rfl,cl,_,_,_,rfl,rfl,SqL.of hcl2,rfl,_,rfl,cl,_,_,_,rfl,rfl,SqL.of hcl2,rfl,_,rfl,cl,_,_,_,rfl,rfl,SqL.of hcl2,rfl,_,rfl,mn,_,_,_,rfl,rfl,SqL.of hmn2,rfl,jJ (gn b),z0,z1,z2,a,rfl,ha1,fun r t Hm hnm hg sM ht0 ht=>?_⟩
      have hpl3:=sM _ _ hpl2
      have kp:Keep pl Hm (upd Hm pl (.lst (vs++[.ref t]))):=(Keep.refl pl _).upd _
      refine ⟨pl,_,_,rfl,rfl,hpl3,vI (by rw [hpa.1,ok.bounds.2.2.2];have:=ok.bounds;omega),?_⟩
      refine ⟨its++[.lock r],a,b+1,c,_,_,_,_,rfl,ok.lock hb8 hnm hg,jD,kp _ _ (fun z=>npm z.symm) (sM _ _ hmn2),?_,kU hpl0 (sm2.trans sM)⟩
      exact ((hpa2.same sM).snoc (v:=.ref t) (it:=.lock r) ⟨t,rfl,ht⟩).keep kp hpl3 (by simp)
     ·refine kJ (by omega) ?_
      refine ⟨_,rfl,mn,_,_,_,rfl,rfl,SqL.of hmn,rfl,_,_,rfl,rfl,_,rfl,?_⟩
      by_cases ha8:a<8
      ·refine kM (by omega) ?_
       refine ⟨_,rfl,mn,_,_,_,rfl,rfl,SqL.of hmn,rfl,_,_,rfl,rfl,_,rfl,mn,_,_,_,rfl,rfl,hmn,rfl,?_⟩
       have km:Keep mn Hj (upd Hj mn (.lst [V.int ((a:Int)+1),V.int (b:Int),V.int (c:Int)])):=(Keep.refl mn _).upd _
       have hmn2:upd Hj mn (.lst [V.int ((a:Int)+1),V.int (b:Int),V.int (c:Int)]) mn=some (.lst [V.int ((a:Int)+1),V.int (b:Int),V.int (c:Int)]):=jD
       have hpl2:=km _ _ npm hpl
       have hpa2:=hpa.keep km hmn (by simp)
       have sm2:Same H (upd Hj mn (.lst [V.int ((a:Int)+1),V.int (b:Int),V.int (c:Int)])):=kU hmn0 sm
       have hcl2:=km _ _ ncm hcl
       have hset:([V.int (a:Int),V.int (b:Int),V.int (c:Int)]:List V).set (Int.toNat 0) (V.int ((a:Int)+1))=[V.int ((a:Int)+1),V.int (b:Int),V.int (c:Int)]:=rfl
       try rw [hset]
       generalize upd Hj mn (.lst [V.int ((a:Int)+1),V.int (b:Int),V.int (c:Int)])=Hk at km hmn2 hpl2 hpa2 sm2 hcl2 ⊢
       refine ⟨_,rfl,.inl ⟨rfl,_,SqL.of hpl2⟩,_,rfl,_,rfl,mn,_,_,_,rfl,rfl,SqL.of hmn2,rfl,_,_,rfl,rfl,nl,_,_,_,rfl,rfl,SqL.of (sm2 _ _ hnl),cI rn ha8,_,rfl,cl,_,_,_,rfl,rfl,SqL.of hcl2,rfl,_,rfl,cl,_,_,_,rfl,rfl,SqL.of hcl2,rfl,_,rfl,cl,_,_,_,rfl,rfl,SqL.of hcl2,rfl,_,rfl,mn,_,_,_,rfl,rfl,SqL.of hmn2,rfl,_,_,rfl,rfl,jJ (rn a),z0,z1,z2,a,(by show [V.str (jJ (rn a)),V.int z0,V.int z1,V.int z2,V.int ((a:Int)+1 - 1)]=_;rw [show (a:Int)+1 - 1=(a:Int) by omega]),fun r t Hm hnm hg sM ht0 ht=>?_⟩
       have hpl3:=sM _ _ hpl2
       have kp:Keep pl Hm (upd Hm pl (.lst (vs++[.ref t]))):=(Keep.refl pl _).upd _
       refine ⟨pl,_,_,rfl,rfl,hpl3,vI (by rw [hpa.1,ok.bounds.2.2.2];have:=ok.bounds;omega),?_⟩
       refine ⟨its++[.reach r],a+1,b,c,_,_,_,_,rfl,ok.reach ha8 hnm hg,jD,kp _ _ (fun z=>npm z.symm) (sM _ _ hmn2),?_,kU hpl0 (sm2.trans sM)⟩
       exact ((hpa2.same sM).snoc (v:=.ref t) (it:=.reach r) ⟨t,rfl,ht⟩).keep kp hpl3 (by simp)
      ·exact kJ (by omega) ⟨its,a,b,c,vs,_,_,_,rfl,ok,hpl,hmn,hpa,sm⟩
    ·refine kJ (by omega) ?_
     refine ⟨_,rfl,mn,_,_,_,rfl,rfl,SqL.of hmn,rfl,_,_,rfl,rfl,_,rfl,?_⟩
     by_cases ha8:a<8
     ·refine kM (by omega) ?_
      refine ⟨_,rfl,mn,_,_,_,rfl,rfl,SqL.of hmn,rfl,_,_,rfl,rfl,_,rfl,mn,_,_,_,rfl,rfl,hmn,rfl,?_⟩
      have km:Keep mn Hj (upd Hj mn (.lst [V.int ((a:Int)+1),V.int (b:Int),V.int (c:Int)])):=(Keep.refl mn _).upd _
      have hmn2:upd Hj mn (.lst [V.int ((a:Int)+1),V.int (b:Int),V.int (c:Int)]) mn=some (.lst [V.int ((a:Int)+1),V.int (b:Int),V.int (c:Int)]):=jD
      have hpl2:=km _ _ npm hpl
      have hpa2:=hpa.keep km hmn (by simp)
      have sm2:Same H (upd Hj mn (.lst [V.int ((a:Int)+1),V.int (b:Int),V.int (c:Int)])):=kU hmn0 sm
      have hcl2:=km _ _ ncm hcl
      have hset:([V.int (a:Int),V.int (b:Int),V.int (c:Int)]:List V).set (Int.toNat 0) (V.int ((a:Int)+1))=[V.int ((a:Int)+1),V.int (b:Int),V.int (c:Int)]:=rfl
      try rw [hset]
      generalize upd Hj mn (.lst [V.int ((a:Int)+1),V.int (b:Int),V.int (c:Int)])=Hk at km hmn2 hpl2 hpa2 sm2 hcl2 ⊢
      refine ⟨_,rfl,.inl ⟨rfl,_,SqL.of hpl2⟩,_,rfl,_,rfl,mn,_,_,_,rfl,rfl,SqL.of hmn2,rfl,_,_,rfl,rfl,nl,_,_,_,rfl,rfl,SqL.of (sm2 _ _ hnl),cI rn ha8,_,rfl,cl,_,_,_,rfl,rfl,SqL.of hcl2,rfl,_,rfl,cl,_,_,_,rfl,rfl,SqL.of hcl2,rfl,_,rfl,cl,_,_,_,rfl,rfl,SqL.of hcl2,rfl,_,rfl,mn,_,_,_,rfl,rfl,SqL.of hmn2,rfl,_,_,rfl,rfl,jJ (rn a),z0,z1,z2,a,(by show [V.str (jJ (rn a)),V.int z0,V.int z1,V.int z2,V.int ((a:Int)+1 - 1)]=_;rw [show (a:Int)+1 - 1=(a:Int) by omega]),fun r t Hm hnm hg sM ht0 ht=>?_⟩
      have hpl3:=sM _ _ hpl2
      have kp:Keep pl Hm (upd Hm pl (.lst (vs++[.ref t]))):=(Keep.refl pl _).upd _
      refine ⟨pl,_,_,rfl,rfl,hpl3,vI (by rw [hpa.1,ok.bounds.2.2.2];have:=ok.bounds;omega),?_⟩
      refine ⟨its++[.reach r],a+1,b,c,_,_,_,_,rfl,ok.reach ha8 hnm hg,jD,kp _ _ (fun z=>npm z.symm) (sM _ _ hmn2),?_,kU hpl0 (sm2.trans sM)⟩
      exact ((hpa2.same sM).snoc (v:=.ref t) (it:=.reach r) ⟨t,rfl,ht⟩).keep kp hpl3 (by simp)
     ·exact kJ (by omega) ⟨its,a,b,c,vs,_,_,_,rfl,ok,hpl,hmn,hpa,sm⟩
   ·refine kJ (fun z=>h2 (V.int.inj z)) ?_
    refine ⟨_,rfl,mn,_,_,_,rfl,rfl,SqL.of hmn,rfl,_,_,rfl,rfl,_,rfl,?_⟩
    by_cases ha8:a<8
    ·refine kM (by omega) ?_
     refine ⟨_,rfl,mn,_,_,_,rfl,rfl,SqL.of hmn,rfl,_,_,rfl,rfl,_,rfl,mn,_,_,_,rfl,rfl,hmn,rfl,?_⟩
     have km:Keep mn Hj (upd Hj mn (.lst [V.int ((a:Int)+1),V.int (b:Int),V.int (c:Int)])):=(Keep.refl mn _).upd _
     have hmn2:upd Hj mn (.lst [V.int ((a:Int)+1),V.int (b:Int),V.int (c:Int)]) mn=some (.lst [V.int ((a:Int)+1),V.int (b:Int),V.int (c:Int)]):=jD
     have hpl2:=km _ _ npm hpl
     have hpa2:=hpa.keep km hmn (by simp)
     have sm2:Same H (upd Hj mn (.lst [V.int ((a:Int)+1),V.int (b:Int),V.int (c:Int)])):=kU hmn0 sm
     have hcl2:=km _ _ ncm hcl
     have hset:([V.int (a:Int),V.int (b:Int),V.int (c:Int)]:List V).set (Int.toNat 0) (V.int ((a:Int)+1))=[V.int ((a:Int)+1),V.int (b:Int),V.int (c:Int)]:=rfl
     try rw [hset]
     generalize upd Hj mn (.lst [V.int ((a:Int)+1),V.int (b:Int),V.int (c:Int)])=Hk at km hmn2 hpl2 hpa2 sm2 hcl2 ⊢
     refine ⟨_,rfl,.inl ⟨rfl,_,SqL.of hpl2⟩,_,rfl,_,rfl,mn,_,_,_,rfl,rfl,SqL.of hmn2,rfl,_,_,rfl,rfl,nl,_,_,_,rfl,rfl,SqL.of (sm2 _ _ hnl),cI rn ha8,_,rfl,cl,_,_,_,rfl,rfl,SqL.of hcl2,rfl,_,rfl,cl,_,_,_,rfl,rfl,SqL.of hcl2,rfl,_,rfl,cl,_,_,_,rfl,rfl,SqL.of hcl2,rfl,_,rfl,mn,_,_,_,rfl,rfl,SqL.of hmn2,rfl,_,_,rfl,rfl,jJ (rn a),z0,z1,z2,a,(by show [V.str (jJ (rn a)),V.int z0,V.int z1,V.int z2,V.int ((a:Int)+1 - 1)]=_;rw [show (a:Int)+1 - 1=(a:Int) by omega]),fun r t Hm hnm hg sM ht0 ht=>?_⟩
     have hpl3:=sM _ _ hpl2
     have kp:Keep pl Hm (upd Hm pl (.lst (vs++[.ref t]))):=(Keep.refl pl _).upd _
     refine ⟨pl,_,_,rfl,rfl,hpl3,vI (by rw [hpa.1,ok.bounds.2.2.2];have:=ok.bounds;omega),?_⟩
     refine ⟨its++[.reach r],a+1,b,c,_,_,_,_,rfl,ok.reach ha8 hnm hg,jD,kp _ _ (fun z=>npm z.symm) (sM _ _ hmn2),?_,kU hpl0 (sm2.trans sM)⟩
     exact ((hpa2.same sM).snoc (v:=.ref t) (it:=.reach r) ⟨t,rfl,ht⟩).keep kp hpl3 (by simp)
    ·exact kJ (by omega) ⟨its,a,b,c,vs,_,_,_,rfl,ok,hpl,hmn,hpa,sm⟩
 rintro σ Hi ⟨its,a,b,c,vs,c5,c6,c7,rfl,ok,hpl,hmn,hpa,sm⟩
 refine ⟨fun σ' H'=>∃(its:List PIt) (a b c:Nat) (vs:List V),σ'=[some (.ref s),some (.ref nl),some (.ref gl),some (.ref pl),some (.ref mn),c5,c6,c7]∧1≤a∧PlanOk rn gn its a b c∧H' pl=some (.lst vs)∧PlanAt [pl,mn] H' vs its∧Same H H',?_,?_⟩
 ·refine ⟨_,rfl,mn,_,_,_,rfl,rfl,SqL.of hmn,rfl,rfl,_,rfl,?_⟩
  by_cases ha:a=0
  ·subst ha
   refine kM rfl ⟨_,rfl,.inl ⟨rfl,_,SqL.of hpl⟩,_,rfl,nl,_,_,_,rfl,rfl,SqL.of (sm _ _ hnl),DN rn,_,rfl,zz7,fun t ht=>?_⟩
   have u:=jK ht (.tup (yV ⟨jJ (rn 0),0,7,1,9,-1⟩))
   have hpl3:=u _ _ hpl
   have kp:Keep pl (upd Hi t (.tup (yV ⟨jJ (rn 0),0,7,1,9,-1⟩))) (upd (upd Hi t (.tup (yV ⟨jJ (rn 0),0,7,1,9,-1⟩))) pl (.lst (vs++[.ref t]))):=(Keep.refl pl _).upd _
   refine ⟨pl,_,_,rfl,rfl,hpl3,vI (by rw [hpa.1,ok.bounds.2.2.2];have:=ok.bounds;omega),?_⟩
   refine ⟨its++[.reach ⟨jJ (rn 0),0,7,1,9,-1⟩],1,b,c,vs++[.ref t],rfl,by decide,ok.reach (by decide) rfl (IZ _),jD,?_,kU hpl0 (sm.trans u)⟩
   exact ((hpa.same u).snoc (v:=.ref t) (it:=.reach ⟨jJ (rn 0),0,7,1,9,-1⟩) ⟨t,rfl,jD⟩).keep kp hpl3 (by simp)
  ·exact kJ (fun z=>ha (by have:=V.int.inj z;omega)) ⟨its,a,b,c,vs,rfl,by omega,ok,hpl,hpa,sm⟩
 rintro σ' H' ⟨its,a,b,c,vs,rfl,ha,ok,hpl,hpa,sm⟩
 exact ⟨_,rfl,q its a b c pl vs H' ok ha sm hpl0 hpl (hpa.less (by simp))⟩
theorem JA:FnScope ["plan","reaches","nights","one","pairs","k","comes","goes"] ["plan"] (jE zN):=⟨rfl,rfl,rfl,by decide +kernel,rfl,by decide +kernel,by decide +kernel⟩
theorem uP {f:Addr} {fd:FuncData} (F:Fun K "_law_due" "_law_due" zN f fd) (T:Txt K mg cP cB cU cR cN tkS jX jW j4 j3 jZ j0 jY) : FnOk P w K mg base jP 1 f fd ["plan"] (sK):=by
 refine F.ok JA (fun vs H Q E h=>?_) (fun cdv A outer s H vs Q E hr h=>?_)
 ·obtain ⟨pl,us,its,rn,gn,a,b,c,rfl,hpl,hpa,ok,q⟩:=h
  rfl
 obtain ⟨pl,us,its,rn,gn,a,b,c,rfl,hpl,hpa,ok,q⟩:=h
 have hu:_<cLine:=hr.units0
 have hu1:=j6 hr
 refine ⟨_,(@jG _ _ _ _ _ (QD (i:=1) ["one"] (qB 1 []) JA.nd rfl (by first|exact Or.inl rfl|exact Or.inr rfl) rfl (qK (jE zN) rfl rfl (by decide +kernel) (by decide +kernel) (by decide +kernel)) (qI 1 [] rfl rfl (by decide +kernel)) (qC (pv 0)) (fun _ _ _ _ _=>(kF (i:=0) (show List.Nodup (["one"]:List Str) from by decide +kernel) rfl (by first|exact Or.inl rfl|exact Or.inr rfl))) (fun _ _ _ _ _=>(eY (j5 kS (jI (i8 K) (pv 0) jB (fun _ _=>rfl)) j7 (jT _)))) (fun _ _ _ _ _=>(pv 0)))
   (@jG _ _ _ _ _ (jV (i:=2) JA.nd rfl (by first|exact Or.inl rfl|exact Or.inr rfl) (kR jC))
   (@jG _ _ _ _ _ (vE PassesOwn.never rfl (qC (pv 0)) (kF (i:=3) JA.nd rfl (by first|exact Or.inl rfl|exact Or.inr rfl))
    (@jF _ _ _ (j9 (j5 kS (jI ix_tup (pv 3) jB (fun _ _=>rfl)) j7 (jT _)) (@jG _ _ _ _ _ (QD (i:=4) ["reach"] (qB 1 []) JA.nd rfl (by first|exact Or.inl rfl|exact Or.inr rfl) rfl (qK (jE zN) rfl rfl (by decide +kernel) (by decide +kernel) (by decide +kernel)) (qI 1 [] rfl rfl (by decide +kernel)) (qC (pv 1)) (fun _ _ _ _ _=>(kF (i:=0) (show List.Nodup (["reach"]:List Str) from by decide +kernel) rfl (by first|exact Or.inl rfl|exact Or.inr rfl))) (fun _ _ _ _ _=>qU) (fun _ _ _ _ _=>(yF (jA jB (jA jB jC)))))
   (@jG _ _ _ _ _ (vE PassesOwn.never rfl (qC (jI ix_tup (pv 3) jB (fun _ _=>rfl))) (bH rfl (v4 (kF (i:=5) JA.nd rfl (by first|exact Or.inl rfl|exact Or.inr rfl)) (v4 (kF (i:=6) JA.nd rfl (by first|exact Or.inl rfl|exact Or.inr rfl)) (v4 (kF (i:=7) JA.nd rfl (by first|exact Or.inl rfl|exact Or.inr rfl)) bD))))
    (@jF _ _ _ (bG (yF (jA (pv 6) (jA (pv 7) jC))) (bI (pv 4) (pv 5) zR))))
   (@jF _ _ _ (qH (qP PySem.F.plainAttrs_list PySem.F.slot_list_append PySem.F.type_list_append yY (pv 2) (jA (pv 4) jC)))))) kD)))
   (@jF _ _ _ (@jO _ _ _ _ (yF (@jA _ _ _ _ _ (pv 1) (@jA _ _ _ _ _ (vD ["one"] (qB 1 []) rfl (qK (jE zN) rfl rfl (by decide +kernel) (by decide +kernel) (by decide +kernel)) (qI 1 [] rfl rfl (by decide +kernel)) (qC (pv 0)) (fun _ _ _ _ _=>(kF (i:=0) (show List.Nodup (["one"]:List Str) from by decide +kernel) rfl (by first|exact Or.inl rfl|exact Or.inr rfl))) (fun _ _ _ _ _=>(eY (j5 kS (jI (i8 K) (pv 0) jB (fun _ _=>rfl)) j7 (jT _)))) (fun _ _ _ _ _=>(pv 0))) (@jA _ _ _ _ _ (pv 2) jC (by rfl)) (by rfl)) (by rfl)))))))),?_⟩
 refine ⟨_,rfl,pl,rfl,⟨_,SqL.of hpl⟩,fun rl hrl0=>?_⟩
 refine qT (K:=K) (a:=pl) (xs:=us) (caps:=[]) (fun i ys Hi=>AllAt (RAt H) ys ((its.take i).filterMap zK)) hrl0 (SqL.of hpl) AllAt.nil ?_ ?_
 ·rintro i v ys Hi hv hi hle sm hY hR
  obtain ⟨it,hit,hat⟩:=hpa.2 i v hv
  have hi30:i<30:=by have:=(List.getElem?_eq_some_iff.mp hit).1;have:=ok.bounds;omega
  cases it with
  |reach r =>
   obtain ⟨t,rfl,ht⟩:=hat
   refine ⟨_,rfl,t,_,_,_,rfl,rfl,SqT.of (sm _ _ ht),rfl,rfl,_,rfl,kM rfl ⟨_,rfl,qL hrl0 sm hY hle (by omega) (Same.refl _) ?_⟩⟩
   rw [zV zK its hit]
   exact hR.snoc ⟨t,rfl,ht⟩
  |lock r =>
   obtain ⟨t,rfl,ht⟩:=hat
   refine ⟨_,rfl,t,_,_,_,rfl,rfl,SqT.of (sm _ _ ht),rfl,rfl,_,rfl,kJ (fun z=>lP (V.str.inj z)) (Z7 sm hY hle (Same.refl _) ?_)⟩
   rw [zV zK its hit,show (zK (.lock r)).toList=[] from rfl,List.append_nil]
   exact hR
  |night ts =>
   obtain ⟨t,_,_,rfl,ht,_⟩:=hat
   refine ⟨_,rfl,t,_,_,_,rfl,rfl,SqT.of (sm _ _ ht),rfl,rfl,_,rfl,kJ (fun z=>lO (V.str.inj z)) (Z7 sm hY hle (Same.refl _) ?_)⟩
   rw [zV zK its hit,show (zK (.night ts)).toList=[] from rfl,List.append_nil]
   exact hR
 rintro rs H1 s1 hrl hle1 hR
 rw [hpa.1,List.take_length] at hR
 have hR:AllAt (RAt H) rs (kH its):=hR
 refine ⟨zz0,fun nl hnl0=>?_⟩
 have s2:=jK hnl0 (.lst [])
 have s12:=s1.trans s2
 have nrl:rl≠nl:=kE hrl hnl0
 obtain ⟨tr1,tr2,tr3⟩:=yC ok
 have hrl2:=s2 _ _ hrl
 have hrs:rs.length=a:=by rw [hR.1,tr1]
 generalize hH2:upd H1 nl (.lst [])=H2 at s2 s12 hrl2 ⊢
 have hnl2:H2 nl=some (.lst []):=by rw [← hH2];exact jD
 clear hH2
 refine ⟨_,rfl,pl,rfl,⟨_,SqL.of (s12 _ _ hpl)⟩,bA (K:=K) (a:=pl) (xs:=us) (fun i σ Hi=>∃(ns:List V) (c3 c4 c5 c6 c7:Option V),σ=[some (.ref pl),some (.ref rl),some (.ref nl),c3,c4,c5,c6,c7]∧Hi nl=some (.lst ns)∧AllAt (NAt [rl,nl] Hi) ns ((its.take i).filterMap (v2 a))∧Hi rl=some (.lst rs)∧Same H Hi)
  ⟨[],none,none,none,none,none,rfl,hnl2,AllAt.nil,hrl2,s12⟩ (fun i σ Hi _ ⟨_,_,_,_,_,_,_,_,_,_,s⟩=>SqL.of (s _ _ hpl)) ?_ ?_⟩
 ·rintro i v σ Hi hv ⟨ns,c3,c4,c5,c6,c7,rfl,hnl,hN,hrl,sm⟩
  obtain ⟨it,hit,hat⟩:=hpa.2 i v hv
  have hi30:i<30:=by have:=(List.getElem?_eq_some_iff.mp hit).1;have:=ok.bounds;omega
  cases it with
  |reach r =>
   obtain ⟨t,rfl,ht⟩:=hat
   refine ⟨_,rfl,t,_,_,_,rfl,rfl,SqT.of (sm _ _ ht),rfl,rfl,_,rfl,kJ (fun z=>KC (V.str.inj z)) ⟨ns,_,c4,c5,c6,c7,rfl,hnl,?_,hrl,sm⟩⟩
   rw [zV (v2 a) its hit,show (v2 a (.reach r)).toList=[] from rfl,List.append_nil]
   exact hN
  |lock r =>
   obtain ⟨t,rfl,ht⟩:=hat
   refine ⟨_,rfl,t,_,_,_,rfl,rfl,SqT.of (sm _ _ ht),rfl,rfl,_,rfl,kJ (fun z=>KD (V.str.inj z)) ⟨ns,_,c4,c5,c6,c7,rfl,hnl,?_,hrl,sm⟩⟩
   rw [zV (v2 a) its hit,show (v2 a (.lock r)).toList=[] from rfl,List.append_nil]
   exact hN
  |night ts =>
   obtain ⟨t,l,trs,rfl,ht,hl,htr,hlD⟩:=hat
   obtain ⟨tok,tlen⟩:=tr3 ts (List.mem_of_getElem? hit)
   refine ⟨_,rfl,t,_,_,_,rfl,rfl,SqT.of (sm _ _ ht),rfl,rfl,_,rfl,kM rfl ?_⟩
   refine ⟨_,rfl,rl,rfl,⟨_,SqL.of hrl⟩,fun pr hpr0=>?_⟩
   refine qT (K:=K) (a:=rl) (xs:=rs) (caps:=[]) (fun j ys Hj=>AllAt (QAt Hj) ys (List.replicate j ((0:Int),(0:Int)))) hpr0 (SqL.of hrl) AllAt.nil ?_ ?_
   ·rintro j y ys Hj hy hj hle sj hY hQ
    have hj8:j<30:=by rw [hrs] at hj;have:=ok.bounds;omega
    refine qW (qM ⟨zz2,fun tp htp=>?_⟩)
    have u:=jK htp (.tup [V.int 0,V.int 0])
    refine qL hpr0 sj hY hle (by omega) u ?_
    rw [List.replicate_succ']
    exact ((hQ.mono (QAt.same u)).snoc (v:=.ref tp) (x:=((0:Int),(0:Int))) ⟨tp,rfl,jD⟩).mono (QAt.put (u _ _ hY))
   rintro qs Hj sj hpr hle hQ
   rw [hrs] at hQ
   have sm1:=sm.trans sj
   refine ⟨_,rfl,t,_,_,_,rfl,rfl,SqT.of (sm1 _ _ ht),rfl,l,rfl,⟨trs,SqL.of (sm1 _ _ hl)⟩,bA (K:=K) (a:=l) (xs:=trs) (fun j σ Hm=>∃(qs:List V) (c5 c6 c7:Option V),σ=[some (.ref pl),some (.ref rl),some (.ref nl),some (.ref t),some (.ref pr),c5,c6,c7]∧Hm pr=some (.lst qs)∧AllAt (QAt Hm) qs (qD a (ts.take j))∧Same Hi Hm)
    ⟨qs,c5,c6,c7,rfl,hpr,hQ,sj⟩ (fun j σ Hm _ ⟨_,_,_,_,_,_,_,s⟩=>SqL.of ((sm.trans s) _ _ hl)) ?_ ?_⟩
   ·rintro j y σ Hm hy ⟨qs,c5,c6,c7,rfl,hpr,hQ,sM⟩
    obtain ⟨ta,k,x,z,rfl,htk,hta⟩:=htr.2 j y hy
    have hk:=(tok.2 _ (List.mem_of_getElem? htk)).1
    have hk:k<a:=hk
    refine ⟨ta,_,rfl,SqT.of ((sm.trans sM) _ _ hta),rfl,_,_,rfl,_,_,rfl,_,_,rfl,rfl,?_⟩
    refine ⟨_,rfl,_,rfl,zz2,fun tp htp=>?_⟩
    have u:=jK htp (.tup [V.int x,V.int z])
    have hpr2:=u _ _ hpr
    refine ⟨_,rfl,_,rfl,pr,_,_,_,rfl,rfl,hpr2,bE (by rw [hQ.1,cE];exact hk),?_⟩
    refine ⟨_,_,_,_,rfl,jD,?_,?_⟩
    ·rw [mP a ts htk]
     exact ((hQ.mono (QAt.same u)).put k (v:=.ref tp) (x:=(x,z)) ⟨tp,rfl,jD⟩).mono (QAt.put hpr2)
    ·exact kU hpr0 (sM.trans u)
   ·rintro σ Hm ⟨qs,c5,c6,c7,rfl,hpr,hQ,sM⟩
    rw [htr.1,List.take_length] at hQ
    have hnl3:=sM _ _ hnl
    refine ⟨_,rfl,.inl ⟨rfl,_,SqL.of hnl3⟩,_,rfl,nl,_,_,rfl,rfl,hnl3,vI (by rw [hN.1];have:=List.length_filterMap_le (v2 a) (its.take i);rw [List.length_take] at this;omega),?_⟩
    have npn:pr≠nl:=(kE hnl hpr0).symm
    have npr:pr≠rl:=(kE hrl hpr0).symm
    refine ⟨ns++[.ref pr],_,_,_,_,_,rfl,jD,?_,by rw [kC nrl];exact sM _ _ hrl,kU (s1.free hnl0) (sm.trans sM)⟩
    rw [zV (v2 a) its hit]
    refine ((hN.mono (NAt.same sM)).snoc (v:=.ref pr) (x:=qD a ts) ⟨pr,qs,rfl,hpr,hQ,?_⟩).mono (NAt.put hnl3 (by simp))
    simp only [List.mem_cons,List.mem_nil_iff,or_false,not_or]
    exact ⟨npr,npn⟩
 rintro σ Hi ⟨ns,c3,c4,c5,c6,c7,rfl,hnl,hN,hrl,sm⟩
 rw [hpa.1,List.take_length] at hN
 refine ⟨_,rfl,_,rfl,pl,rfl,⟨_,SqL.of (sm _ _ hpl)⟩,fun ll hll0=>?_⟩
 have smO:=sm
 have hN2:AllAt (NAt [rl,ll,nl] Hi) ns (its.filterMap (v2 a)):=hN.mono fun v ps=>by
  rintro ⟨l,qs,h1,h2,h3,h4⟩
  refine ⟨l,qs,h1,h2,h3,?_⟩
  simp only [List.mem_cons,List.mem_nil_iff,or_false,not_or] at h4 ⊢
  exact ⟨h4.1,kE h2 hll0,h4.2⟩
 refine qT (K:=K) (a:=pl) (xs:=us) (caps:=[]) (fun i ys Hj=>AllAt (LAt H) ys ((its.take i).filterMap zL)) hll0 (SqL.of (sm _ _ hpl)) AllAt.nil ?_ ?_
 ·rintro i v ys Hi hv hi hle sm hY hR
  obtain ⟨it,hit,hat⟩:=hpa.2 i v hv
  have hi30:i<30:=by have:=(List.getElem?_eq_some_iff.mp hit).1;have:=ok.bounds;omega
  cases it with
  |reach r =>
   obtain ⟨t,rfl,ht⟩:=hat
   refine ⟨_,rfl,t,_,_,_,rfl,rfl,SqT.of (sm _ _ (smO _ _ ht)),rfl,rfl,_,rfl,kJ (fun z=>KF (V.str.inj z)) (Z7 sm hY hle (Same.refl _) ?_)⟩
   rw [zV zL its hit,show (zL (.reach r)).toList=[] from rfl,List.append_nil]
   exact hR
  |lock r =>
   obtain ⟨t,rfl,ht⟩:=hat
   refine ⟨_,rfl,t,_,_,_,rfl,rfl,SqT.of (sm _ _ (smO _ _ ht)),rfl,rfl,_,rfl,kM rfl ⟨_,rfl,qL hll0 sm hY hle (by omega) (Same.refl _) ?_⟩⟩
   rw [zV zL its hit]
   exact hR.snoc ⟨t,rfl,ht⟩
  |night ts =>
   obtain ⟨t,_,_,rfl,ht,_⟩:=hat
   refine ⟨_,rfl,t,_,_,_,rfl,rfl,SqT.of (sm _ _ (smO _ _ ht)),rfl,rfl,_,rfl,kJ (fun z=>lQ (V.str.inj z)) (Z7 sm hY hle (Same.refl _) ?_)⟩
   rw [zV zL its hit,show (zL (.night ts)).toList=[] from rfl,List.append_nil]
   exact hR
 rintro ls H3 s3 hll hle hL
 rw [hpa.1,List.take_length] at hL
 refine ⟨_,rfl,zz3,fun t ht=>?_⟩
 have u:=jK ht (.tup [V.ref rl,V.ref ll,V.ref nl])
 have sF:=(sm.trans s3).trans u
 refine q t rl ll nl rs ls ns _ sF jD (u _ _ (s3 _ _ hrl)) (u _ _ hll) (u _ _ (s3 _ _ hnl)) (hR.mono (RAt.same sF)) (hL.mono (LAt.same sF)) ?_
 unfold yZ
 rw [tr1]
 exact hN2.mono (NAt.same (s3.trans u))
theorem mF:FnScope ["found","due","k"] ["found","due"] (jE ZD):=⟨rfl,rfl,rfl,by decide +kernel,rfl,by decide +kernel,by decide +kernel⟩
theorem uW {f:Addr} {fd:FuncData} (F:Fun K "_law_numbers" "_law_numbers" ZD f fd) (T:Txt K mg cP cB cU cR cN tkS jX jW j4 j3 jZ j0 jY) (D__law_whole:Def P w K mg base 1 "_law_whole" ["found"] [] (rG)):FnOk P w K mg base jP 2 f fd ["found","due"] (eH K):=by
 refine F.ok mF (fun vs H Q E h=>?_) (fun cdv A outer s H vs Q E hr h=>?_)
 ·obtain ⟨f₁,d,ms,rfl,hF,hD,hn,q⟩:=h
  rfl
 obtain ⟨f₁,d,ms,rfl,hF,hD,hn,q⟩:=h
 have hu:_<cLine:=hr.units0
 have hu1:=j6 hr
 refine ⟨_,(@jG _ _ _ _ _ (vE PassesOwn.never rfl (zE (by rfl) T.z_range (jA (kA kQ (by rfl) T.z_len PySem.boot_len (jA (pv 1) jC)) jC)) (kF (i:=2) mF.nd rfl (by first|exact Or.inl rfl|exact Or.inr rfl))
    (@jF _ _ _ (j9 (PW.pt (vQ (qO (qX (jU D__law_whole hr rfl (jA (jI fH (pv 0) (pv 2) (fun _ _=>rfl)) jC)))) (yE (j5 qQ (jI fH (pv 0) (pv 2) (fun _ _=>rfl)) (jI fH (pv 1) (pv 2) (fun _ _=>rfl)) (jT _))))) (@jF _ _ _ (@jO _ _ _ _ qS)) kD)))
   (@jF _ _ _ (@jO _ _ _ _ (QF kS (kA kQ (by rfl) T.z_len PySem.boot_len (jA (pv 0) jC)) (kA kQ (by rfl) T.z_len PySem.boot_len (jA (pv 1) jC)) (jT _))))),?_⟩
 have hml:(ms.map V.int).length=ms.length:=List.length_map _
 refine ⟨_,rfl,d,_,rfl,hD,_,rfl,by omega,by rw [hml];omega,zQ (n:=(((ms.map V.int).length:Nat):Int).toNat) (fun i σ Hi=>∃c,σ=[some (.ref f₁),some (.ref d),c]∧H=Hi) ⟨none,rfl,rfl⟩ ?_ ?_⟩
 ·rintro i σ Hi hi ⟨c,rfl,rfl⟩
  have hi':i<ms.length:=by rw [Int.toNat_natCast,hml] at hi;exact hi
  rw [Int.zero_add]
  refine ⟨_,rfl,_,rfl,eP hF hi' ?_⟩
  refine ⟨_,rfl,_,rfl,kX ?_⟩
  refine ⟨_,rfl,_,rfl,eP hF hi' ⟨_,rfl,_,rfl,eP hD hi' ⟨rfl,_,rfl,kZ rfl ⟨_,rfl,rfl⟩⟩⟩⟩
 ·rintro σ Hi ⟨c,rfl,rfl⟩
  refine ⟨_,rfl,f₁,_,rfl,hF,_,rfl,d,_,rfl,hD,rfl,?_⟩
  rw [decide_eq_true rfl]
  exact q
theorem xW:FnScope ["reach","due"] ["reach","due"] (jE ZF):=⟨rfl,rfl,rfl,by decide +kernel,rfl,by decide +kernel,by decide +kernel⟩
theorem uZ {f:Addr} {fd:FuncData} (F:Fun K "_law_reach_is" "_law_reach_is" ZF f fd) (T:Txt K mg cP cB cU cR cN tkS jX jW j4 j3 jZ j0 jY) (D__law_numbers:Def P w K mg base 2 "_law_numbers" ["found","due"] [] (eH K)):FnOk P w K mg base jP 3 f fd ["reach","due"] (n5 cR):=by
 refine F.ok xW (fun vs H Q E h=>?_) (fun cdv A outer s H vs Q E hr h=>?_)
 ·obtain ⟨y,t,r,rfl,⟨dy,gs,hy,hg⟩,ht,q⟩:=h
  rfl
 obtain ⟨y,t,r,rfl,⟨dy,gs,hy,hg⟩,ht,q⟩:=h
 have hu:_<cLine:=hr.units0
 have hu1:=j6 hr
 refine ⟨_,(@jG _ _ _ _ _ (j9 (PW.pt (vQ (qO (qX (kA vV (by rfl) T.z_isinstance PyProof.Rows.boot_isinstance (jA (pv 0) (jA (vW (v:=.ref cR) rfl T.c_Reach rfl) jC))))) (vQ (qO (qX (kA vV (by rfl) T.z_isinstance PyProof.Rows.boot_isinstance (jA (kB (pv 0) rfl) (jA (y0 (v:=.ty "str") rfl T.z_str PyProof.Rows.boot_str rfl) jC))))) (yE (j5 qQ (kB (pv 0) rfl) (jI ix_tup (pv 1) jB (fun _ _=>rfl)) (jT _)))))) (@jF _ _ _ (@jO _ _ _ _ qS)) kD)
   (@jF _ _ _ (@jO _ _ _ _ (jU D__law_numbers hr rfl (jA (kR (@jA _ _ _ _ _ (kB (pv 0) rfl) (@jA _ _ _ _ _ (kB (pv 0) rfl) (@jA _ _ _ _ _ (kB (pv 0) rfl) (@jA _ _ _ _ _ (kB (pv 0) rfl) (@jA _ _ _ _ _ (kB (pv 0) rfl) jC (by rfl)) (by rfl)) (by rfl)) (by rfl)) (by rfl))) (jA (q8 Z3 (by rfl) T.z_list PyProof.Rows.boot_list (jA (yK fC (pv 1) (qN jB) zG) jC)) jC)))))),?_⟩
 refine ⟨_,rfl,_,_,_,_,_,rfl,rfl,T.tyR _ _ _ _ hy,T.ktR,_,rfl,kX ?_⟩
 refine ⟨_,rfl,y,cR,dy,_,_,rfl,hy,T.clR,T.nR_name,hg.1,_,_,_,_,_,rfl,rfl,TyOf.str _,yS "str",_,rfl,kX ?_⟩
 refine ⟨_,rfl,y,cR,dy,_,_,rfl,hy,T.clR,T.nR_name,hg.1,_,rfl,t,_,_,_,rfl,rfl,SqT.of ht,rfl,rfl,_,rfl,kZ rfl ?_⟩
 refine ⟨_,rfl,y,cR,dy,_,_,rfl,hy,T.clR,T.nR_least,hg.2.1,_,rfl,y,cR,dy,_,_,rfl,hy,T.clR,T.nR_crest,hg.2.2.1,_,rfl,y,cR,dy,_,_,rfl,hy,T.clR,T.nR_berths,hg.2.2.2.1,_,rfl,y,cR,dy,_,_,rfl,hy,T.clR,T.nR_water,hg.2.2.2.2.1,_,rfl,y,cR,dy,_,_,rfl,hy,T.clR,T.nR_target,hg.2.2.2.2.2,zz5,fun p1 hp1=>?_⟩
 have s1:=jK hp1 (.lst ([r.least,r.crest,r.berths,r.water,r.target].map V.int))
 refine ⟨_,rfl,_,rfl,t,_,rfl,SqT.of (s1 _ _ ht),(by show ¬(HT.sIx 7 0 (some 2)=0∧HT.sIx 7 7 none=7);decide),fun p2 hp2=>?_⟩
 have s2:=jK hp2 (.tup (vS (yV r) (some 2) none))
 refine ⟨p2,_,rfl,.inr (SqT.of jD),fun p3 hp3=>?_⟩
 have s3:=jK hp3 (.lst (vS (yV r) (some 2) none))
 refine ⟨p1,p3,[r.least,r.crest,r.berths,r.water,r.target],rfl,.inl (SqL.of (s3 _ _ (s2 _ _ jD))),.inl (SqL.of ?_),by show 5≤1000;decide,q _ ((s1.trans s2).trans s3)⟩
 rw [jD]
 rfl
theorem xV:FnScope ["lock","due"] ["lock","due"] (jE Q9):=⟨rfl,rfl,rfl,by decide +kernel,rfl,by decide +kernel,by decide +kernel⟩
theorem uS {f:Addr} {fd:FuncData} (F:Fun K "_law_lock_is" "_law_lock_is" Q9 f fd) (T:Txt K mg cP cB cU cR cN tkS jX jW j4 j3 jZ j0 jY) (MP_kind:MeK P w K mg base 1 (jM cP cB cU) "kind" ["self"] (vA (jM cP cB cU) (fun kd _=>V.str (match kd with|.plain=>"plain"|.basin=>"basin"|.pump=>"pump")))) (D__law_numbers:Def P w K mg base 2 "_law_numbers" ["found","due"] [] (eH K)) (MP_extra:MeK P w K mg base 1 (jM cP cB cU) "extra" ["self"] (vA (jM cP cB cU) (fun kd v=>V.int (match kd with|.plain=>0|.basin=>v|.pump=>v)))):FnOk P w K mg base jP 3 f fd ["lock","due"] (pH (jM cP cB cU)):=by
 refine F.ok xV (fun vs H Q E h=>?_) (fun cdv A outer s H vs Q E hr h=>?_)
 ·obtain ⟨y,t,l,rfl,⟨dl,hl⟩,h0,ht,q⟩:=h
  rfl
 obtain ⟨y,t,l,rfl,⟨dl,hl⟩,h0,ht,q⟩:=h
 have hu:_<cLine:=hr.units0
 have hu1:=j6 hr
 refine ⟨_,(@jG _ _ _ _ _ (j9 (PW.pt (vQ (qO (qX (kA vV (by rfl) T.z_isinstance PyProof.Rows.boot_isinstance (jA (pv 0) (jA (vW (v:=.ref cP) rfl T.c_PlainLock rfl) jC))))) (vQ (qO (qX (kA vV (by rfl) T.z_isinstance PyProof.Rows.boot_isinstance (jA (kB (pv 0) rfl) (jA (y0 (v:=.ty "str") rfl T.z_str PyProof.Rows.boot_str rfl) jC))))) (yE (j5 qQ (kB (pv 0) rfl) (jI ix_tup (pv 1) jB (fun _ _=>rfl)) (jT _)))))) (@jF _ _ _ (@jO _ _ _ _ qS)) kD)
   (@jG _ _ _ _ _ (j9 (j5 qQ (kA vV (by rfl) T.z_isinstance PyProof.Rows.boot_isinstance (jA (pv 0) (jA (vW (v:=.ref cB) rfl T.c_BasinLock rfl) jC))) (QF kS (jI ix_tup (pv 1) jB (fun _ _=>rfl)) j7 (jT _)) (jT _)) (@jF _ _ _ (@jO _ _ _ _ qS)) kD)
   (@jG _ _ _ _ _ (j9 (j5 qQ (kA vV (by rfl) T.z_isinstance PyProof.Rows.boot_isinstance (jA (pv 0) (jA (vW (v:=.ref cU) rfl T.c_PumpLock rfl) jC))) (QF kS (jI ix_tup (pv 1) jB (fun _ _=>rfl)) j7 (jT _)) (jT _)) (@jF _ _ _ (@jO _ _ _ _ qS)) kD)
   (@jG _ _ _ _ _ (j9 (PW.pt (vQ (qO (qX (kA vV (by rfl) T.z_isinstance PyProof.Rows.boot_isinstance (jA (JI MP_kind hr (pv 0)) (jA (y0 (v:=.ty "str") rfl T.z_str PyProof.Rows.boot_str rfl) jC))))) (yE (j5 qQ (JI MP_kind hr (pv 0)) (jI ix_tup (pv 1) jB (fun _ _=>rfl)) (jT _))))) (@jF _ _ _ (@jO _ _ _ _ qS)) kD)
   (@jF _ _ _ (@jO _ _ _ _ (jU D__law_numbers hr rfl (jA (kR (@jA _ _ _ _ _ (kB (pv 0) rfl) (@jA _ _ _ _ _ (kB (pv 0) rfl) (@jA _ _ _ _ _ (kB (pv 0) rfl) (@jA _ _ _ _ _ (JI MP_extra hr (pv 0)) jC (by rfl)) (by rfl)) (by rfl)) (by rfl))) (jA (@jH _ _ _ _ _ _ _ _ GE (yK fC (pv 1) (qN jB) (qN jB)) (yK fC (pv 1) (qN jB) zG)) jC))))))))),?_⟩
 refine ⟨_,rfl,_,_,_,_,_,rfl,rfl,T.tyL _ _ _ _ _ hl,T.ktLP _,_,rfl,kX ?_⟩
 refine ⟨_,rfl,y,_,dl,_,_,rfl,hl,T.cl l.kd,T.n_name l.kd,cS l.kd _ _ _ _ _,_,_,_,_,_,rfl,rfl,TyOf.str _,yS "str",_,rfl,kX ?_⟩
 refine ⟨_,rfl,y,_,dl,_,_,rfl,hl,T.cl l.kd,T.n_name l.kd,cS l.kd _ _ _ _ _,_,rfl,t,_,_,_,rfl,rfl,SqT.of ht,rfl,rfl,_,rfl,kZ rfl ?_⟩
 refine ⟨_,rfl,_,_,_,_,_,rfl,rfl,T.tyL _ _ _ _ _ hl,T.ktLB _,_,rfl,t,_,_,_,rfl,rfl,SqT.of ht,rfl,rfl,rfl,_,rfl,kZ (congrArg V.bl (KA l.kd).symm) ?_⟩
 refine ⟨_,rfl,_,_,_,_,_,rfl,rfl,T.tyL _ _ _ _ _ hl,T.ktLU _,_,rfl,t,_,_,_,rfl,rfl,SqT.of ht,rfl,rfl,rfl,_,rfl,kZ (congrArg V.bl (IM l.kd).symm) ?_⟩
 cases hkd:l.kd with
 |plain =>
  obtain ⟨nm,hi,lo,ro,kd,ex⟩:=l
  cases hkd
  have hex:ex=0:=h0 rfl
  subst hex
  refine ⟨_,rfl,.plain,y,dl,_,rfl,hl,yD .plain _ _ _ _ _,y,_,_,_,_,_,rfl,⟨dl,hl⟩,_,_,_,_,_,rfl,rfl,TyOf.str _,yS "str",_,rfl,kX ?_⟩
  refine ⟨_,rfl,.plain,y,dl,_,rfl,hl,yD .plain _ _ _ _ _,y,_,_,_,_,_,rfl,⟨dl,hl⟩,_,rfl,t,_,_,_,rfl,rfl,SqT.of ht,rfl,rfl,_,rfl,kZ rfl ?_⟩
  refine ⟨_,rfl,y,_,dl,_,_,rfl,hl,T.cl .plain,T.n_high .plain,cT .plain _ _ _ _ _,_,rfl,y,_,dl,_,_,rfl,hl,T.cl .plain,T.n_low .plain,dA .plain _ _ _ _ _,_,rfl,y,_,dl,_,_,rfl,hl,T.cl .plain,T.n_room .plain,QG .plain _ _ _ _ _,_,rfl,.plain,y,dl,_,rfl,hl,QE .plain _ _ _ _ _,y,_,_,_,_,_,rfl,⟨dl,hl⟩,zz4,fun p1 hp1=>?_⟩
  have s1:=jK hp1 (.lst ([hi,lo,ro,0].map V.int))
  refine ⟨_,rfl,_,rfl,_,rfl,t,_,rfl,SqT.of (s1 _ _ ht),(by show ¬(HT.sIx 7 0 (some 2)=0∧HT.sIx 7 7 (some 5)=7);decide),fun p2 hp2=>?_⟩
  have s2:=jK hp2 (.tup [V.int hi,V.int lo,V.int ro])
  refine ⟨_,rfl,_,rfl,t,_,rfl,SqT.of (s2 _ _ (s1 _ _ ht)),(by show ¬(HT.sIx 7 0 (some 6)=0∧HT.sIx 7 7 none=7);decide),fun p3 hp3=>?_⟩
  have s3:=jK hp3 (.tup [V.int 0])
  refine ⟨p2,p3,_,_,rfl,rfl,SqT.of (s3 _ _ jD),SqT.of jD,(fun z=>nomatch z),zz4,(fun z=>nomatch z),fun _ p4 hp4=>?_⟩
  have s4:=jK hp4 (.tup ([hi,lo,ro,0].map V.int))
  refine ⟨p1,p4,[hi,lo,ro,0],rfl,.inl (SqL.of (s4 _ _ (s3 _ _ (s2 _ _ jD)))),.inr (SqT.of jD),by show 4≤1000;decide,q _ (((s1.trans s2).trans s3).trans s4)⟩
 |basin =>
  obtain ⟨nm,hi,lo,ro,kd,ex⟩:=l
  cases hkd
  have hex:ex=ex:=rfl
  clear hex
  refine ⟨_,rfl,.basin,y,dl,_,rfl,hl,yD .basin _ _ _ _ _,y,_,_,_,_,_,rfl,⟨dl,hl⟩,_,_,_,_,_,rfl,rfl,TyOf.str _,yS "str",_,rfl,kX ?_⟩
  refine ⟨_,rfl,.basin,y,dl,_,rfl,hl,yD .basin _ _ _ _ _,y,_,_,_,_,_,rfl,⟨dl,hl⟩,_,rfl,t,_,_,_,rfl,rfl,SqT.of ht,rfl,rfl,_,rfl,kZ rfl ?_⟩
  refine ⟨_,rfl,y,_,dl,_,_,rfl,hl,T.cl .basin,T.n_high .basin,cT .basin _ _ _ _ _,_,rfl,y,_,dl,_,_,rfl,hl,T.cl .basin,T.n_low .basin,dA .basin _ _ _ _ _,_,rfl,y,_,dl,_,_,rfl,hl,T.cl .basin,T.n_room .basin,QG .basin _ _ _ _ _,_,rfl,.basin,y,dl,_,rfl,hl,QE .basin _ _ _ _ _,y,_,_,_,_,_,rfl,⟨dl,hl⟩,zz4,fun p1 hp1=>?_⟩
  have s1:=jK hp1 (.lst ([hi,lo,ro,ex].map V.int))
  refine ⟨_,rfl,_,rfl,_,rfl,t,_,rfl,SqT.of (s1 _ _ ht),(by show ¬(HT.sIx 7 0 (some 2)=0∧HT.sIx 7 7 (some 5)=7);decide),fun p2 hp2=>?_⟩
  have s2:=jK hp2 (.tup [V.int hi,V.int lo,V.int ro])
  refine ⟨_,rfl,_,rfl,t,_,rfl,SqT.of (s2 _ _ (s1 _ _ ht)),(by show ¬(HT.sIx 7 0 (some 6)=0∧HT.sIx 7 7 none=7);decide),fun p3 hp3=>?_⟩
  have s3:=jK hp3 (.tup [V.int ex])
  refine ⟨p2,p3,_,_,rfl,rfl,SqT.of (s3 _ _ jD),SqT.of jD,(fun z=>nomatch z),zz4,(fun z=>nomatch z),fun _ p4 hp4=>?_⟩
  have s4:=jK hp4 (.tup ([hi,lo,ro,ex].map V.int))
  refine ⟨p1,p4,[hi,lo,ro,ex],rfl,.inl (SqL.of (s4 _ _ (s3 _ _ (s2 _ _ jD)))),.inr (SqT.of jD),by show 4≤1000;decide,q _ (((s1.trans s2).trans s3).trans s4)⟩
 |pump =>
  obtain ⟨nm,hi,lo,ro,kd,ex⟩:=l
  cases hkd
  have hex:ex=ex:=rfl
  clear hex
  refine ⟨_,rfl,.pump,y,dl,_,rfl,hl,yD .pump _ _ _ _ _,y,_,_,_,_,_,rfl,⟨dl,hl⟩,_,_,_,_,_,rfl,rfl,TyOf.str _,yS "str",_,rfl,kX ?_⟩
  refine ⟨_,rfl,.pump,y,dl,_,rfl,hl,yD .pump _ _ _ _ _,y,_,_,_,_,_,rfl,⟨dl,hl⟩,_,rfl,t,_,_,_,rfl,rfl,SqT.of ht,rfl,rfl,_,rfl,kZ rfl ?_⟩
  refine ⟨_,rfl,y,_,dl,_,_,rfl,hl,T.cl .pump,T.n_high .pump,cT .pump _ _ _ _ _,_,rfl,y,_,dl,_,_,rfl,hl,T.cl .pump,T.n_low .pump,dA .pump _ _ _ _ _,_,rfl,y,_,dl,_,_,rfl,hl,T.cl .pump,T.n_room .pump,QG .pump _ _ _ _ _,_,rfl,.pump,y,dl,_,rfl,hl,QE .pump _ _ _ _ _,y,_,_,_,_,_,rfl,⟨dl,hl⟩,zz4,fun p1 hp1=>?_⟩
  have s1:=jK hp1 (.lst ([hi,lo,ro,ex].map V.int))
  refine ⟨_,rfl,_,rfl,_,rfl,t,_,rfl,SqT.of (s1 _ _ ht),(by show ¬(HT.sIx 7 0 (some 2)=0∧HT.sIx 7 7 (some 5)=7);decide),fun p2 hp2=>?_⟩
  have s2:=jK hp2 (.tup [V.int hi,V.int lo,V.int ro])
  refine ⟨_,rfl,_,rfl,t,_,rfl,SqT.of (s2 _ _ (s1 _ _ ht)),(by show ¬(HT.sIx 7 0 (some 6)=0∧HT.sIx 7 7 none=7);decide),fun p3 hp3=>?_⟩
  have s3:=jK hp3 (.tup [V.int ex])
  refine ⟨p2,p3,_,_,rfl,rfl,SqT.of (s3 _ _ jD),SqT.of jD,(fun z=>nomatch z),zz4,(fun z=>nomatch z),fun _ p4 hp4=>?_⟩
  have s4:=jK hp4 (.tup ([hi,lo,ro,ex].map V.int))
  refine ⟨p1,p4,[hi,lo,ro,ex],rfl,.inl (SqL.of (s4 _ _ (s3 _ _ (s2 _ _ jD)))),.inr (SqT.of jD),by show 4≤1000;decide,q _ (((s1.trans s2).trans s3).trans s4)⟩
theorem mE:FnScope ["night","due","k"] ["night","due"] (jE ZC):=⟨rfl,rfl,rfl,by decide +kernel,rfl,by decide +kernel,by decide +kernel⟩
theorem uV {f:Addr} {fd:FuncData} (F:Fun K "_law_night_is" "_law_night_is" ZC f fd) (T:Txt K mg cP cB cU cR cN tkS jX jW j4 j3 jZ j0 jY) (D__law_numbers:Def P w K mg base 2 "_law_numbers" ["found","due"] [] (eH K)):FnOk P w K mg base jP 3 f fd ["night","due"] (oA):=by
 refine F.ok mE (fun vs H Q E h=>?_) (fun cdv A outer s H vs Q E hr h=>?_)
 ·obtain ⟨y,t,D,D₂,p,rfl,⟨l₁,qs,e₁,hl,hq,_⟩,⟨l₂,us,e₂,huu,hv,_⟩,hp,q⟩:=h
  rfl
 obtain ⟨y,t,D,D₂,p,rfl,⟨l₁,qs,e₁,hl,hq,_⟩,⟨l₂,us,e₂,huu,hv,_⟩,hp,q⟩:=h
 have hu:_<cLine:=hr.units0
 have hu1:=j6 hr
 refine ⟨_,(@jG _ _ _ _ _ (j9 (PW.pt (vQ (qO (qX (kA vV (by rfl) T.z_isinstance PyProof.Rows.boot_isinstance (jA (pv 0) (jA (y0 (v:=.ty "list") rfl T.z_list PyProof.Rows.boot_list rfl) jC))))) (yE (j5 qQ (kA kQ (by rfl) T.z_len PySem.boot_len (jA (pv 0) jC)) (kA kQ (by rfl) T.z_len PySem.boot_len (jA (pv 1) jC)) (jT _))))) (@jF _ _ _ (@jO _ _ _ _ qS)) kD)
   (@jG _ _ _ _ _ (vE PassesOwn.never rfl (zE (by rfl) T.z_range (jA (kA kQ (by rfl) T.z_len PySem.boot_len (jA (pv 1) jC)) jC)) (kF (i:=2) mE.nd rfl (by first|exact Or.inl rfl|exact Or.inr rfl))
    (@jF _ _ _ (j9 (PW.pt (vQ (qO (qX (kA vV (by rfl) T.z_isinstance PyProof.Rows.boot_isinstance (jA (jI jN (pv 0) (pv 2) (fun _ _=>rfl)) (jA (y0 (v:=.ty "tuple") rfl T.z_tuple PyProof.Rows.boot_tuple rfl) jC))))) (yE (qO (qX (jU D__law_numbers hr rfl (jA (jI jN (pv 0) (pv 2) (fun _ _=>rfl)) (jA (jI jN (pv 1) (pv 2) (fun _ _=>rfl)) jC)))))))) (@jF _ _ _ (@jO _ _ _ _ qS)) kD)))
   (@jF _ _ _ (@jO _ _ _ _ qS)))),?_⟩
 cases e₁
 cases e₂
 refine ⟨_,rfl,_,_,_,_,_,rfl,rfl,TyOf.lst hl,yS "list",_,rfl,kX ?_⟩
 refine ⟨_,rfl,y,_,rfl,.inl (SqL.of hl),_,rfl,t,_,rfl,.inl (SqL.of huu),rfl,_,rfl,kZ (by rw [hq.1,hv.1]) ?_⟩
 refine ⟨_,rfl,t,_,rfl,.inl (SqL.of huu),_,rfl,by omega,by rw [hv.1];omega,zQ (n:=((us.length:Nat):Int).toNat) (fun i σ Hi=>∃c:Option V,σ=[some (.ref y),some (.ref t),c]∧Hi=H) ⟨none,rfl,rfl⟩ ?_ ?_⟩
 ·rintro i σ Hi hi ⟨c,rfl,rfl⟩
  rw [Int.toNat_natCast,hv.1] at hi
  rw [Int.zero_add]
  obtain ⟨v,hv1,tq,rfl,htq⟩:=hq.get (List.getElem?_eq_getElem hi)
  obtain ⟨u,hu1,tu,rfl,htu⟩:=hv.get (List.getElem?_eq_getElem hi)
  refine ⟨_,rfl,_,rfl,y,_,_,_,rfl,rfl,SqL.of hl,qV hv1,_,_,_,_,_,rfl,rfl,TyOf.tup htq,yS "tuple",_,rfl,kX ?_⟩
  refine ⟨_,rfl,_,rfl,y,_,_,_,rfl,rfl,SqL.of hl,qV hv1,_,rfl,_,rfl,t,_,_,_,rfl,rfl,SqL.of huu,qV hu1,tq,tu,[p[i].1,p[i].2],rfl,.inr (SqT.of htq),.inr (SqT.of htu),by show 2≤1000;decide,_,rfl,kX ?_⟩
  exact ⟨_,rfl,rfl⟩
 ·rintro σ Hi ⟨c,rfl,rfl⟩
  exact q _ (Same.refl _)
theorem dU:FnScope ["canal","due","k"] ["canal","due"] (jE Q5):=⟨rfl,rfl,rfl,by decide +kernel,rfl,by decide +kernel,by decide +kernel⟩
theorem uN {f:Addr} {fd:FuncData} (F:Fun K "_law_canal_is" "_law_canal_is" Q5 f fd) (T:Txt K mg cP cB cU cR cN tkS jX jW j4 j3 jZ j0 jY) (D__law_reach_is:Def P w K mg base 3 "_law_reach_is" ["reach","due"] [] (n5 cR)) (D__law_lock_is:Def P w K mg base 3 "_law_lock_is" ["lock","due"] [] (pH (jM cP cB cU))) (D__law_night_is:Def P w K mg base 3 "_law_night_is" ["night","due"] [] (oA)):FnOk P w K mg base jP 4 f fd ["canal","due"] (oE (jM cP cB cU) cR cN):=by
 refine F.ok dU (fun vs H Q E h=>?_) (fun cdv A outer s H vs Q E hr h=>?_)
 ·obtain ⟨x,t,D,D₂,R,L,N,rfl,⟨dx,rl,ll,nl,fs,rs,ls,ns,hx,hf,hrl,hll,hnl,hR,hL,hN,d1,d2,d3⟩,⟨rl2,ll2,nl2,rs2,ls2,ns2,ht,hrl2,hll2,hnl2,hR2,hL2,hN2,_⟩,bR,bL,bN,hpl,hpn,q⟩:=h
  rfl
 obtain ⟨x,t,D,D₂,R,L,N,rfl,⟨dx,rl,ll,nl,fs,rs,ls,ns,hx,hf,hrl,hll,hnl,hR,hL,hN,d1,d2,d3⟩,⟨rl2,ll2,nl2,rs2,ls2,ns2,ht,hrl2,hll2,hnl2,hR2,hL2,hN2,_⟩,bR,bL,bN,hpl,hpn,q⟩:=h
 have hu:_<cLine:=hr.units0
 have hu1:=j6 hr
 refine ⟨_,(@jG _ _ _ _ _ (j9 (PW.pt (vQ (qO (qX (kA vV (by rfl) T.z_isinstance PyProof.Rows.boot_isinstance (jA (pv 0) (jA (vW (v:=.ref cN) rfl T.c_Canal rfl) jC))))) (yE (qO (qX (kA vV (by rfl) T.z_isinstance PyProof.Rows.boot_isinstance (jA (kB (pv 0) rfl) (jA (y0 (v:=.ty "list") rfl T.z_list PyProof.Rows.boot_list rfl) jC)))))))) (@jF _ _ _ (@jO _ _ _ _ qS)) kD)
   (@jG _ _ _ _ _ (j9 (qO (qX (kA vV (by rfl) T.z_isinstance PyProof.Rows.boot_isinstance (jA (kB (pv 0) rfl) (jA (y0 (v:=.ty "list") rfl T.z_list PyProof.Rows.boot_list rfl) jC))))) (@jF _ _ _ (@jO _ _ _ _ qS)) kD)
   (@jG _ _ _ _ _ (j9 (PW.pt (vQ (qO (qX (kA vV (by rfl) T.z_isinstance PyProof.Rows.boot_isinstance (jA (kB (pv 0) rfl) (jA (y0 (v:=.ty "list") rfl T.z_list PyProof.Rows.boot_list rfl) jC))))) (yE (j5 qQ (kA kQ (by rfl) T.z_len PySem.boot_len (jA (kB (pv 0) rfl) jC)) (kA kQ (by rfl) T.z_len PySem.boot_len (jA (jI ix_tup (pv 1) jB (fun _ _=>rfl)) jC)) (jT _))))) (@jF _ _ _ (@jO _ _ _ _ qS)) kD)
   (@jG _ _ _ _ _ (j9 (PW.pt (vQ (j5 qQ (kA kQ (by rfl) T.z_len PySem.boot_len (jA (kB (pv 0) rfl) jC)) (kA kQ (by rfl) T.z_len PySem.boot_len (jA (jI ix_tup (pv 1) jB (fun _ _=>rfl)) jC)) (jT _)) (yE (j5 qQ (kA kQ (by rfl) T.z_len PySem.boot_len (jA (kB (pv 0) rfl) jC)) (kA kQ (by rfl) T.z_len PySem.boot_len (jA (jI ix_tup (pv 1) jB (fun _ _=>rfl)) jC)) (jT _))))) (@jF _ _ _ (@jO _ _ _ _ qS)) kD)
   (@jG _ _ _ _ _ (vE PassesOwn.never rfl (zE (by rfl) T.z_range (jA (kA kQ (by rfl) T.z_len PySem.boot_len (jA (jI ix_tup (pv 1) jB (fun _ _=>rfl)) jC)) jC)) (kF (i:=2) dU.nd rfl (by first|exact Or.inl rfl|exact Or.inr rfl))
    (@jF _ _ _ (j9 (qO (qX (jU D__law_reach_is hr rfl (jA (jI jN (kB (pv 0) rfl) (pv 2) (fun _ _=>rfl)) (jA (jI jN (jI ix_tup (pv 1) jB (fun _ _=>rfl)) (pv 2) (fun _ _=>rfl)) jC))))) (@jF _ _ _ (@jO _ _ _ _ qS)) kD)))
   (@jG _ _ _ _ _ (vE PassesOwn.never rfl (zE (by rfl) T.z_range (jA (kA kQ (by rfl) T.z_len PySem.boot_len (jA (jI ix_tup (pv 1) jB (fun _ _=>rfl)) jC)) jC)) (kF (i:=2) dU.nd rfl (by first|exact Or.inl rfl|exact Or.inr rfl))
    (@jF _ _ _ (j9 (qO (qX (jU D__law_lock_is hr rfl (jA (jI jN (kB (pv 0) rfl) (pv 2) (fun _ _=>rfl)) (jA (jI jN (jI ix_tup (pv 1) jB (fun _ _=>rfl)) (pv 2) (fun _ _=>rfl)) jC))))) (@jF _ _ _ (@jO _ _ _ _ qS)) kD)))
   (@jG _ _ _ _ _ (vE PassesOwn.never rfl (zE (by rfl) T.z_range (jA (kA kQ (by rfl) T.z_len PySem.boot_len (jA (jI ix_tup (pv 1) jB (fun _ _=>rfl)) jC)) jC)) (kF (i:=2) dU.nd rfl (by first|exact Or.inl rfl|exact Or.inr rfl))
    (@jF _ _ _ (j9 (qO (qX (jU D__law_night_is hr rfl (jA (jI jN (kB (pv 0) rfl) (pv 2) (fun _ _=>rfl)) (jA (jI jN (jI ix_tup (pv 1) jB (fun _ _=>rfl)) (pv 2) (fun _ _=>rfl)) jC))))) (@jF _ _ _ (@jO _ _ _ _ qS)) kD)))
   (@jF _ _ _ (@jO _ _ _ _ qS))))))))),?_⟩
 have fx:=hx
 refine ⟨_,rfl,_,_,_,_,_,rfl,rfl,T.tyN _ _ _ _ hx,T.ktN,_,rfl,kX ?_⟩
 refine ⟨_,rfl,x,cN,dx,_,_,rfl,hx,T.clN,T.nN_reaches,hf.1,_,_,_,_,_,rfl,rfl,TyOf.lst hrl,yS "list",_,rfl,kX ?_⟩
 refine ⟨_,rfl,x,cN,dx,_,_,rfl,hx,T.clN,T.nN_locks,hf.2.1,_,_,_,_,_,rfl,rfl,TyOf.lst hll,yS "list",_,rfl,kX ?_⟩
 refine ⟨_,rfl,x,cN,dx,_,_,rfl,hx,T.clN,T.nN_nights,hf.2.2.1,_,_,_,_,_,rfl,rfl,TyOf.lst hnl,yS "list",_,rfl,kX ?_⟩
 refine ⟨_,rfl,x,cN,dx,_,_,rfl,hx,T.clN,T.nN_nights,hf.2.2.1,nl,_,rfl,.inl (SqL.of hnl),_,rfl,t,_,_,_,rfl,rfl,SqT.of ht,rfl,nl2,_,rfl,.inl (SqL.of hnl2),rfl,_,rfl,kZ (by rw [hN.1,hN2.1]) ?_⟩
 refine ⟨_,rfl,x,cN,dx,_,_,rfl,hx,T.clN,T.nN_reaches,hf.1,rl,_,rfl,.inl (SqL.of hrl),_,rfl,t,_,_,_,rfl,rfl,SqT.of ht,rfl,rl2,_,rfl,.inl (SqL.of hrl2),rfl,_,rfl,kZ (by rw [hR.1,hR2.1]) ?_⟩
 refine ⟨_,rfl,x,cN,dx,_,_,rfl,hx,T.clN,T.nN_locks,hf.2.1,ll,_,rfl,.inl (SqL.of hll),_,rfl,t,_,_,_,rfl,rfl,SqT.of ht,rfl,ll2,_,rfl,.inl (SqL.of hll2),rfl,_,rfl,kZ (by rw [hL.1,hL2.1]) ?_⟩
 have sm:Same H H:=Same.refl _
 refine ⟨_,rfl,t,_,_,_,rfl,rfl,SqT.of (sm _ _ ht),rfl,rl2,_,rfl,.inl (SqL.of (sm _ _ hrl2)),_,rfl,by omega,by rw [hR2.1];omega,zQ (n:=((rs2.length:Nat):Int).toNat) (fun i σ Hi=>∃c:Option V,σ=[some (.ref x),some (.ref t),c]∧Same H Hi) ⟨none,rfl,sm⟩ ?_ ?_⟩
 ·rintro i σ Hi hi ⟨c,rfl,sm⟩
  rw [Int.toNat_natCast,hR2.1] at hi
  rw [Int.zero_add]
  obtain ⟨r,hr⟩:∃r,R[i]?=some r:=⟨_,List.getElem?_eq_getElem hi⟩
  obtain ⟨v,hv1,y,rfl,hy⟩:=hR.get hr
  obtain ⟨u,hu1,y2,rfl,hy2⟩:=hR2.get hr
  refine ⟨_,rfl,x,cN,dx,_,_,rfl,(sm _ _ fx),T.clN,T.nN_reaches,hf.1,_,rfl,rl,_,_,_,rfl,rfl,SqL.of (sm _ _ hrl),qV hv1,_,rfl,t,_,_,_,rfl,rfl,SqT.of (sm _ _ ht),rfl,_,rfl,rl2,_,_,_,rfl,rfl,SqL.of (sm _ _ hrl2),qV hu1,y,y2,r,rfl,hy.same sm,sm _ _ hy2,fun H' s'=>⟨_,rfl,kX ?_⟩⟩
  exact ⟨_,rfl,sm.trans s'⟩
 rintro σ Hi ⟨c,rfl,sm⟩
 refine ⟨_,rfl,t,_,_,_,rfl,rfl,SqT.of (sm _ _ ht),rfl,ll2,_,rfl,.inl (SqL.of (sm _ _ hll2)),_,rfl,by omega,by rw [hL2.1];omega,zQ (n:=((ls2.length:Nat):Int).toNat) (fun i σ Hi=>∃c:Option V,σ=[some (.ref x),some (.ref t),c]∧Same H Hi) ⟨c,rfl,sm⟩ ?_ ?_⟩
 ·rintro i σ Hi hi ⟨c,rfl,sm⟩
  rw [Int.toNat_natCast,hL2.1] at hi
  rw [Int.zero_add]
  obtain ⟨r,hr⟩:∃r,L[i]?=some r:=⟨_,List.getElem?_eq_getElem hi⟩
  obtain ⟨v,hv1,y,rfl,hy⟩:=hL.get hr
  obtain ⟨u,hu1,y2,rfl,hy2⟩:=hL2.get hr
  refine ⟨_,rfl,x,cN,dx,_,_,rfl,(sm _ _ fx),T.clN,T.nN_locks,hf.2.1,_,rfl,ll,_,_,_,rfl,rfl,SqL.of (sm _ _ hll),qV hv1,_,rfl,t,_,_,_,rfl,rfl,SqT.of (sm _ _ ht),rfl,_,rfl,ll2,_,_,_,rfl,rfl,SqL.of (sm _ _ hll2),qV hu1,y,y2,r,rfl,hy.same sm,(fun e=>hpl r (List.mem_of_getElem? hr) e),sm _ _ hy2,fun H' s'=>⟨_,rfl,kX ?_⟩⟩
  exact ⟨_,rfl,sm.trans s'⟩
 rintro σ Hi ⟨c,rfl,sm⟩
 refine ⟨_,rfl,t,_,_,_,rfl,rfl,SqT.of (sm _ _ ht),rfl,nl2,_,rfl,.inl (SqL.of (sm _ _ hnl2)),_,rfl,by omega,by rw [hN2.1];omega,zQ (n:=((ns2.length:Nat):Int).toNat) (fun i σ Hi=>∃c:Option V,σ=[some (.ref x),some (.ref t),c]∧Same H Hi) ⟨c,rfl,sm⟩ ?_ ?_⟩
 ·rintro i σ Hi hi ⟨c,rfl,sm⟩
  rw [Int.toNat_natCast,hN2.1] at hi
  rw [Int.zero_add]
  obtain ⟨r,hr⟩:∃r,N[i]?=some r:=⟨_,List.getElem?_eq_getElem hi⟩
  obtain ⟨v,hv1,hy⟩:=hN.get hr
  obtain ⟨u,hu1,hy2⟩:=hN2.get hr
  obtain ⟨y,rfl⟩:∃y,v=.ref y:=by obtain ⟨l,_,e,_⟩:=hy;exact ⟨l,e⟩
  obtain ⟨y2,rfl⟩:∃y2,u=.ref y2:=by obtain ⟨l,_,e,_⟩:=hy2;exact ⟨l,e⟩
  refine ⟨_,rfl,x,cN,dx,_,_,rfl,(sm _ _ fx),T.clN,T.nN_nights,hf.2.2.1,_,rfl,nl,_,_,_,rfl,rfl,SqL.of (sm _ _ hnl),qV hv1,_,rfl,t,_,_,_,rfl,rfl,SqT.of (sm _ _ ht),rfl,_,rfl,nl2,_,_,_,rfl,rfl,SqL.of (sm _ _ hnl2),qV hu1,y,y2,_,_,r,rfl,NAt.same sm _ _ hy,NAt.same sm _ _ hy2,hpn r (List.mem_of_getElem? hr),fun H' s'=>⟨_,rfl,kX ?_⟩⟩
  exact ⟨_,rfl,sm.trans s'⟩
 rintro σ Hi ⟨c,rfl,sm⟩
 exact q _ sm
theorem zC:FnScope ["one","names","target","words","k","comes","goes"] ["one","names"] (jE JY):=⟨rfl,rfl,rfl,by decide +kernel,rfl,by decide +kernel,by decide +kernel⟩
theorem u9 {f:Addr} {fd:FuncData} (F:Fun K "_law_row" "_law_row" JY f fd) (T:Txt K mg cP cB cU cR cN tkS jX jW j4 j3 jZ j0 jY) : FnOk P w K mg base jP 1 f fd ["one","names"] (sI):=by
 refine F.ok zC (fun vs H Q E h=>?_) (fun cdv A outer s H vs Q E hr h=>?_)
 ·obtain ⟨t,nl,it,rn,n,rfl,hat,hnl,hrn,hok,q⟩:=h
  rfl
 obtain ⟨t,nl,it,rn,n,rfl,hat,hnl,hrn,hok,q⟩:=h
 have hu:_<cLine:=hr.units0
 have hu1:=j6 hr
 refine ⟨_,(@jG _ _ _ _ _ (j9 (j5 kS (jI ix_tup (pv 0) jB (fun _ _=>rfl)) j7 (jT _)) (@jG _ _ _ _ _ (jV (i:=2) zC.nd rfl (by first|exact Or.inl rfl|exact Or.inr rfl) j7)
   (v6 (j9 (j5 lM (jI ix_tup (pv 0) jB (fun _ _=>rfl)) jB (jT _)) (@jF _ _ _ (jV (i:=2) zC.nd rfl (by first|exact Or.inl rfl|exact Or.inr rfl) (jI jN (pv 1) (jI ix_tup (pv 0) jB (fun _ _=>rfl)) (fun _ _=>rfl)))) kD)
   (@jF _ _ _ (@jO _ _ _ _ (qP PySem.F.plainAttrs_str PySem.F.slot_str_join PySem.F.type_str_join JF j7 (jA (@jH _ _ _ _ _ _ _ _ yO (@jH _ _ _ _ _ _ _ _ yO (kR (jA j7 (jA (jI ix_tup (pv 0) jB (fun _ _=>rfl)) jC))) (vD ["number"] (qB 1 []) rfl (qK (jE JY) rfl rfl (by decide +kernel) (by decide +kernel) (by decide +kernel)) (qI 1 [] rfl rfl (by decide +kernel)) (sP (yK fC (pv 0) (qN jB) (qN jB))) (fun _ _ _ _ _=>(kF (i:=0) (show List.Nodup (["number"]:List Str) from by decide +kernel) rfl (by first|exact Or.inl rfl|exact Or.inr rfl))) (fun _ _ _ _ _=>qU) (fun _ _ _ _ _=>(q8 zF (by rfl) T.z_str PyProof.Rows.boot_str (jA (pv 0) jC))))) (kR (jA (pv 2) jC))) jC)))))) kD)
   (@jG _ _ _ _ _ (j9 (j5 kS (jI ix_tup (pv 0) jB (fun _ _=>rfl)) j7 (jT _)) (@jG _ _ _ _ _ (jV (i:=3) zC.nd rfl (by first|exact Or.inl rfl|exact Or.inr rfl) (kR (@jA _ _ _ _ _ j7 (@jA _ _ _ _ _ (jI ix_tup (pv 0) jB (fun _ _=>rfl)) (@jA _ _ _ _ _ (jI jN (pv 1) (jI ix_tup (pv 0) jB (fun _ _=>rfl)) (fun _ _=>rfl)) (@jA _ _ _ _ _ (jI jN (pv 1) (jI ix_tup (pv 0) jB (fun _ _=>rfl)) (fun _ _=>rfl)) (@jA _ _ _ _ _ (q8 zF (by rfl) T.z_str PyProof.Rows.boot_str (jA (jI ix_tup (pv 0) jB (fun _ _=>rfl)) jC)) jC (by rfl)) (by rfl)) (by rfl)) (by rfl)) (by rfl))))
   (v6 (j9 (j5 qQ (jI ix_tup (pv 0) jB (fun _ _=>rfl)) j7 (jT _)) (@jF _ _ _ (jV (i:=3) zC.nd rfl (by first|exact Or.inl rfl|exact Or.inr rfl) (@jH _ _ _ _ _ _ _ _ yO (pv 3) (kR (jA (jI ix_tup (pv 0) jB (fun _ _=>rfl)) (jA (q8 zF (by rfl) T.z_str PyProof.Rows.boot_str (jA (jI ix_tup (pv 0) jB (fun _ _=>rfl)) jC)) jC)))))) kD)
   (@jF _ _ _ (@jO _ _ _ _ (qP PySem.F.plainAttrs_str PySem.F.slot_str_join PySem.F.type_str_join JF j7 (jA (pv 3) jC)))))) kD)
   (@jG _ _ _ _ _ (jV (i:=3) zC.nd rfl (by first|exact Or.inl rfl|exact Or.inr rfl) (kR (jA j7 jC)))
   (@jG _ _ _ _ _ (vE PassesOwn.never rfl (qC (jI ix_tup (pv 0) jB (fun _ _=>rfl))) (bH rfl (v4 (kF (i:=4) zC.nd rfl (by first|exact Or.inl rfl|exact Or.inr rfl)) (v4 (kF (i:=5) zC.nd rfl (by first|exact Or.inl rfl|exact Or.inr rfl)) (v4 (kF (i:=6) zC.nd rfl (by first|exact Or.inl rfl|exact Or.inr rfl)) bD))))
    (@jF _ _ _ (jV (i:=3) zC.nd rfl (by first|exact Or.inl rfl|exact Or.inr rfl) (@jH _ _ _ _ _ _ _ _ yO (pv 3) (kR (@jA _ _ _ _ _ (jI jN (pv 1) (pv 4) (fun _ _=>rfl)) (@jA _ _ _ _ _ (q8 zF (by rfl) T.z_str PyProof.Rows.boot_str (jA (pv 5) jC)) (@jA _ _ _ _ _ (q8 zF (by rfl) T.z_str PyProof.Rows.boot_str (jA (pv 6) jC)) jC (by rfl)) (by rfl)) (by rfl)))))))
   (@jF _ _ _ (@jO _ _ _ _ (qP PySem.F.plainAttrs_str PySem.F.slot_str_join PySem.F.type_str_join JF j7 (jA (pv 3) jC)))))))),?_⟩
 have hw:=d9 hrn hok
 have hq:∀H',Same H H'→Q (.str (Str.join " " (kI rn it))) H':=fun H' s=>by rw [eT];exact q H' s
 obtain ⟨hn8,hok⟩:=hok
 cases it with
 |reach r =>
  obtain ⟨t',h',ht⟩:=hat
  cases h'
  obtain ⟨⟨g1,g2,g3,g4,g5,g6,g7,g8,g9⟩,hl⟩:=hok
  refine ⟨_,rfl,t,_,_,_,rfl,rfl,SqT.of ht,rfl,rfl,_,rfl,kM rfl ?_⟩
  refine ⟨fun σ' H'=>σ'=[some (.ref t),some (.ref nl),some (.str (yH rn r.target)),none,none,none,none]∧H=H',?_,?_⟩
  ·refine ⟨_,rfl,t,_,_,_,rfl,rfl,SqT.of ht,rfl,_,_,rfl,rfl,_,rfl,?_⟩
   by_cases hz:0≤r.target
   ·refine kM hz ⟨_,rfl,_,rfl,t,_,_,_,rfl,rfl,SqT.of ht,rfl,nl,_,_,_,rfl,rfl,SqL.of hnl,iG rn hz (by omega),?_,rfl⟩
    rw [show yH rn r.target=jJ (rn r.target.toNat) from if_pos hz]
    rfl
   ·refine kJ hz ⟨?_,rfl⟩
    rw [show yH rn r.target="sea" from if_neg hz]
    rfl
  rintro σ' H' ⟨rfl,rfl⟩
  refine ⟨rfl,_,rfl,t,_,_,_,rfl,rfl,SqT.of ht,rfl,zz2,fun p1 hp1=>?_⟩
  have s1:=jK hp1 (.lst [V.str "reach",V.str r.name])
  have h1:upd H p1 (.lst [V.str "reach",V.str r.name]) p1=some (.lst [V.str "reach",V.str r.name]):=jD
  generalize upd H p1 (.lst [V.str "reach",V.str r.name])=H1 at s1 h1 ⊢
  refine ⟨_,rfl,_,rfl,_,rfl,t,_,rfl,SqT.of (s1 _ _ ht),(by show ¬(HT.sIx 7 0 (some 2)=0∧HT.sIx 7 7 (some 6)=7);decide),fun p2 hp2=>?_⟩
  have s2:=jK hp2 (.tup (vS (yV r) (some 2) (some 6)))
  have h2:upd H1 p2 (.tup (vS (yV r) (some 2) (some 6))) p2=some (.tup ([r.least,r.crest,r.berths,r.water].map V.int)):=jD
  generalize upd H1 p2 (.tup (vS (yV r) (some 2) (some 6)))=H2 at s2 h2 ⊢
  refine ⟨p2,rfl,⟨_,SqT.of h2⟩,fun D hD=>?_⟩
  have hb:∀z∈[r.least,r.crest,r.berths,r.water],0≤z∧z≤9999999999999:=by
   intro z hz
   simp only [List.mem_cons,List.mem_nil_iff,or_false] at hz
   rcases hz with rfl|rfl|rfl|rfl<;>omega
  refine oX (K:=K) (a:=p2) (xs:=[r.least,r.crest,r.berths,r.water].map V.int) (caps:=[]) (fun i ys Hi=>ys=(([r.least,r.crest,r.berths,r.water].take i).map fun z=>V.str (kG z))) hD h2 rfl ?_ ?_
  ·rintro i x ys Hi hx hi hle sm hY rfl
   obtain ⟨z,rfl,hz⟩:=pY hx
   have hzb:=hb z (List.mem_of_getElem? hz)
   refine qW (qM ⟨_,rfl,_,rfl,(vB hzb.1 hzb.2).1,?_⟩)
   refine qL hD sm hY hle (by have:i<4:=hi;omega) (Same.refl _) ?_
   rw [List.take_add_one,hz,List.map_append]
   rfl
  rintro ys H3 s3 hDl hle rfl
  have s13:=s2.trans s3
  refine ⟨p1,D,_,_,rfl,rfl,s13 _ _ h1,hDl,zz6,fun p3 hp3=>?_⟩
  have s4:=jK hp3 (.lst ((kI rn (.reach r)).take 6 |>.map V.str))
  have h3:upd H3 p3 (.lst ((kI rn (.reach r)).take 6 |>.map V.str)) p3=some (.lst ((kI rn (.reach r)).take 6 |>.map V.str)):=jD
  refine ⟨_,rfl,zz1,fun p4 hp4=>?_⟩
  have s5:=jK hp4 (.lst [V.str (yH rn r.target)])
  refine ⟨p3,p4,_,_,rfl,rfl,s5 _ _ h3,jD,zz7,fun p5 hp5=>?_⟩
  refine ⟨" ",p5,kI rn (.reach r),rfl,rfl,SqL.of jD,by decide +kernel,hw,hq _ ?_⟩
  exact ((((s1.trans s13).trans s4).trans s5).trans (jK hp5 _))
 |lock l =>
  obtain ⟨t',h',ht⟩:=hat
  cases h'
  obtain ⟨⟨g1,g2,g3,g4,g5,g6,g7,g8⟩,hl⟩:=hok
  refine ⟨_,rfl,t,_,_,_,rfl,rfl,SqT.of ht,rfl,rfl,_,rfl,kJ (fun z=>lP (V.str.inj z)) ⟨_,rfl,t,_,_,_,rfl,rfl,SqT.of ht,rfl,rfl,_,rfl,kM rfl ?_⟩⟩
  refine ⟨_,rfl,t,_,_,_,rfl,rfl,SqT.of ht,rfl,_,rfl,_,rfl,t,_,_,_,rfl,rfl,SqT.of ht,rfl,nl,_,_,_,rfl,rfl,SqL.of hnl,iG rn (by show 0≤l.high;omega) (by show l.high<8;omega),_,rfl,_,rfl,t,_,_,_,rfl,rfl,SqT.of ht,rfl,nl,_,_,_,rfl,rfl,SqL.of hnl,iG rn (by show 0≤l.low;omega) (by show l.low<8;omega),_,rfl,t,_,_,_,rfl,rfl,SqT.of ht,rfl,_,rfl,(vB (n:=l.room) (by omega) (by omega)).1,zz5,fun wl hwl=>?_⟩
  have s1:=jK hwl (.lst ([("lock":Str),l.name,jJ (rn l.high.toNat),jJ (rn l.low.toNat),kG l.room].map V.str))
  have h1:upd H wl (.lst ([("lock":Str),l.name,jJ (rn l.high.toNat),jJ (rn l.low.toNat),kG l.room].map V.str)) wl=some (.lst ([("lock":Str),l.name,jJ (rn l.high.toNat),jJ (rn l.low.toNat),kG l.room].map V.str)):=jD
  refine ⟨fun σ' H'=>∃w2:Addr,σ'=[some (.ref t),some (.ref nl),none,some (.ref w2),none,none,none]∧H' w2=some (.lst ((kI rn (.lock l)).map V.str))∧Same H H',?_,?_⟩
  ·refine ⟨_,rfl,t,_,_,_,rfl,rfl,SqT.of (s1 _ _ ht),rfl,rfl,_,rfl,?_⟩
   by_cases hk:l.kd=.plain
   ·refine kZ ((eK l.kd).mpr hk) ⟨wl,rfl,?_,s1⟩
    rw [show kI rn (.lock l)=([("lock":Str),l.name,jJ (rn l.high.toNat),jJ (rn l.low.toNat),kG l.room]:List Str) by rw [Z4,hk];rfl]
    exact h1
   ·have hx:=g8 hk
    refine QJ (fun z=>hk ((eK l.kd).mp z)) ⟨_,rfl,_,rfl,t,_,_,_,rfl,rfl,SqT.of (s1 _ _ ht),rfl,_,rfl,t,_,_,_,rfl,rfl,SqT.of (s1 _ _ ht),rfl,_,rfl,(vB (n:=l.extra) (by omega) (by omega)).1,zz2,fun w2 hw2=>?_⟩
    have s2:=jK hw2 (.lst [V.str (yI l.kd),V.str (kG l.extra)])
    refine ⟨wl,w2,_,_,rfl,rfl,s2 _ _ h1,jD,zz7,fun w3 hw3=>⟨w3,rfl,?_,(s1.trans s2).trans (jK hw3 _)⟩⟩
    rw [show kI rn (.lock l)=([("lock":Str),l.name,jJ (rn l.high.toNat),jJ (rn l.low.toNat),kG l.room]:List Str)++[yI l.kd,kG l.extra] by rw [Z4,eS hk]]
    exact jD
  rintro σ' H' ⟨w2,rfl,h2,s2⟩
  exact ⟨rfl,_,rfl," ",w2,_,rfl,rfl,SqL.of h2,by decide +kernel,hw,hq _ s2⟩
 |night ts =>
  obtain ⟨t',l,trs,h',ht,hl,htr,_⟩:=hat
  cases h'
  obtain ⟨⟨hnd,hts⟩,htl⟩:=hok
  refine ⟨_,rfl,t,_,_,_,rfl,rfl,SqT.of ht,rfl,rfl,_,rfl,kJ (fun z=>lO (V.str.inj z)) ⟨_,rfl,t,_,_,_,rfl,rfl,SqT.of ht,rfl,rfl,_,rfl,kJ (fun z=>lQ (V.str.inj z)) ?_⟩⟩
  refine ⟨zz1,fun wl hwl=>?_⟩
  have s1:=jK hwl (.lst [V.str "night"])
  refine ⟨_,rfl,t,_,_,_,rfl,rfl,SqT.of (s1 _ _ ht),rfl,l,rfl,⟨_,SqL.of (s1 _ _ hl)⟩,bA (K:=K) (a:=l) (xs:=trs) (fun j σ Hj=>∃(w2:Addr) (c4 c5 c6:Option V),σ=[some (.ref t),some (.ref nl),none,some (.ref w2),c4,c5,c6]∧Hj w2=some (.lst ((kI rn (.night (ts.take j))).map V.str))∧Same H Hj)
   ⟨wl,none,none,none,rfl,jD,s1⟩ (fun j σ Hj _ ⟨_,_,_,_,_,_,s⟩=>SqL.of (s _ _ hl)) ?_ ?_⟩
  ·rintro j y σ Hj hy ⟨w2,c4,c5,c6,rfl,hw2,sj⟩
   obtain ⟨ta,k,x,z,rfl,htk,hta⟩:=htr.2 j y hy
   obtain ⟨k1,k2,k3,k4,k5⟩:=hts _ (List.mem_of_getElem? htk)
   have k1:k<n:=k1
   have hj8:j<8:=by have:=(List.getElem?_eq_some_iff.mp htk).1;omega
   refine ⟨ta,_,rfl,SqT.of (sj _ _ hta),rfl,_,_,rfl,_,_,rfl,_,_,rfl,rfl,?_⟩
   refine ⟨_,rfl,_,rfl,_,rfl,nl,_,_,_,rfl,rfl,SqL.of (sj _ _ hnl),qV (cH rn (show k<8 by omega)),_,rfl,_,rfl,(vB (n:=x) k2 (by have:x≤999999999999:=k3;omega)).1,_,rfl,_,rfl,(vB (n:=z) k4 (by have:z≤999999999999:=k5;omega)).1,zz3,fun w3 hw3=>?_⟩
   have u:=jK hw3 (.lst [V.str (jJ (rn k)),V.str (kG x),V.str (kG z)])
   have hlen:((kI rn (.night (ts.take j))).map V.str).length≤900:=by
    rw [List.length_map]
    have:=(eO (it:=.night (ts.take j)) (n:=n) hrn ⟨hn8,⟨by rw [List.map_take];exact hnd.sublist (List.take_sublist _ _),fun q hq=>hts q (List.mem_of_mem_take hq)⟩,by rw [List.length_take];omega⟩).1
    omega
   refine ⟨w2,w3,_,_,rfl,rfl,u _ _ hw2,jD,Nat.le_of_lt (vI (by show _+3≤1000;omega)),fun w4 hw4=>⟨w4,_,_,_,rfl,?_,(sj.trans u).trans (jK hw4 _)⟩⟩
   rw [jD,D2 rn ts htk,List.map_append]
   rfl
  ·rintro σ Hj ⟨w2,c4,c5,c6,rfl,hw2,sj⟩
   rw [htr.1,List.take_length] at hw2
   exact ⟨rfl,_,rfl," ",w2,_,rfl,rfl,SqL.of hw2,by decide +kernel,hw,hq _ sj⟩
theorem gE:FnScope ["rows","due","words","k"] ["rows","due"] (jE zM):=⟨rfl,rfl,rfl,by decide +kernel,rfl,by decide +kernel,by decide +kernel⟩
theorem uM {f:Addr} {fd:FuncData} (F:Fun K "_law_begins" "_law_begins" zM f fd) (T:Txt K mg cP cB cU cR cN tkS jX jW j4 j3 jZ j0 jY) : FnOk P w K mg base jP 1 f fd ["rows","due"] (pK):=by
 refine F.ok gE (fun vs H Q E h=>?_) (fun cdv A outer s H vs Q E hr h=>?_)
 ·obtain ⟨sl,t,rn,R,L,N,rfl,hsl,⟨rl,ll,nl,rs,ls,ns,ht,hrl,hll,hnl,hR,hL,hN,_⟩,b1,b2,b3,hsp,q⟩:=h
  rfl
 obtain ⟨sl,t,rn,R,L,N,rfl,hsl,⟨rl,ll,nl,rs,ls,ns,ht,hrl,hll,hnl,hR,hL,hN,_⟩,b1,b2,b3,hsp,q⟩:=h
 have hu:_<cLine:=hr.units0
 have hu1:=j6 hr
 refine ⟨_,(@jG _ _ _ _ _ (jV (i:=2) gE.nd rfl (by first|exact Or.inl rfl|exact Or.inr rfl) (@jH _ _ _ _ _ _ _ _ yO (@jH _ _ _ _ _ _ _ _ yO (vD ["one"] (qB 1 []) rfl (qK (jE zM) rfl rfl (by decide +kernel) (by decide +kernel) (by decide +kernel)) (qI 1 [] rfl rfl (by decide +kernel)) (qC (jI ix_tup (pv 1) jB (fun _ _=>rfl))) (fun _ _ _ _ _=>(kF (i:=0) (show List.Nodup (["one"]:List Str) from by decide +kernel) rfl (by first|exact Or.inl rfl|exact Or.inr rfl))) (fun _ _ _ _ _=>qU) (fun _ _ _ _ _=>j7)) (vD ["one"] (qB 1 []) rfl (qK (jE zM) rfl rfl (by decide +kernel) (by decide +kernel) (by decide +kernel)) (qI 1 [] rfl rfl (by decide +kernel)) (qC (jI ix_tup (pv 1) jB (fun _ _=>rfl))) (fun _ _ _ _ _=>(kF (i:=0) (show List.Nodup (["one"]:List Str) from by decide +kernel) rfl (by first|exact Or.inl rfl|exact Or.inr rfl))) (fun _ _ _ _ _=>qU) (fun _ _ _ _ _=>j7))) (vD ["one"] (qB 1 []) rfl (qK (jE zM) rfl rfl (by decide +kernel) (by decide +kernel) (by decide +kernel)) (qI 1 [] rfl rfl (by decide +kernel)) (qC (jI ix_tup (pv 1) jB (fun _ _=>rfl))) (fun _ _ _ _ _=>(kF (i:=0) (show List.Nodup (["one"]:List Str) from by decide +kernel) rfl (by first|exact Or.inl rfl|exact Or.inr rfl))) (fun _ _ _ _ _=>qU) (fun _ _ _ _ _=>j7))))
   (@jG _ _ _ _ _ (j9 (PW.pt (vQ (j5 qQ (kA kQ (by rfl) T.z_len PySem.boot_len (jA (pv 0) jC)) (@jH _ _ _ _ _ _ _ _ qE (kA kQ (by rfl) T.z_len PySem.boot_len (jA (pv 2) jC)) jB) (jT _)) (yE (j5 qQ (jI jN (pv 0) (fL fA jB) (fun _ _=>rfl)) j7 (jT _))))) (@jF _ _ _ (@jO _ _ _ _ qS)) kD)
   (@jG _ _ _ _ _ (vE PassesOwn.never rfl (zE (by rfl) T.z_range (jA (kA kQ (by rfl) T.z_len PySem.boot_len (jA (pv 2) jC)) jC)) (kF (i:=3) gE.nd rfl (by first|exact Or.inl rfl|exact Or.inr rfl))
    (@jF _ _ _ (j9 (j5 qQ (jI jN (qP PySem.F.plainAttrs_str PySem.F.slot_str_split PySem.F.type_str_split eQ (jI jN (pv 0) (pv 3) (fun _ _=>rfl)) (jA j7 jC)) jB (fun _ _=>rfl)) (jI jN (pv 2) (pv 3) (fun _ _=>rfl)) (jT _)) (@jF _ _ _ (@jO _ _ _ _ qS)) kD)))
   (@jF _ _ _ (@jO _ _ _ _ qS))))),?_⟩
 have l1:rs.length=R.length:=hR.1
 have l2:ls.length=L.length:=hL.1
 have l3:ns.length=N.length:=hN.1
 refine ⟨_,rfl,t,_,_,_,rfl,rfl,SqT.of ht,rfl,rl,rfl,⟨_,SqL.of hrl⟩,fun A₁ hA₁0=>?_⟩
 refine qT (K:=K) (a:=rl) (xs:=rs) (caps:=[]) (fun i ys Hi=>ys=(List.replicate i ("reach":Str)).map V.str) hA₁0 (SqL.of hrl) rfl ?_ ?_
 ·rintro i v ys Hi hv hi hle sm hY rfl
  refine qW (qM ?_)
  refine qL hA₁0 sm hY hle (by omega) (Same.refl _) ?_
  rw [List.replicate_succ',List.map_append]
  rfl
 rintro ys H1 s1 hA₁ hle1 rfl
 rw [l1] at hA₁
 refine ⟨_,rfl,t,_,_,_,rfl,rfl,SqT.of (s1 _ _ ht),rfl,ll,rfl,⟨_,SqL.of (s1 _ _ hll)⟩,fun A₂ hA₂0=>?_⟩
 refine qT (K:=K) (a:=ll) (xs:=ls) (caps:=[]) (fun i ys Hi=>ys=(List.replicate i ("lock":Str)).map V.str) hA₂0 (SqL.of (s1 _ _ hll)) rfl ?_ ?_
 ·rintro i v ys Hi hv hi hle sm hY rfl
  refine qW (qM ?_)
  refine qL hA₂0 sm hY hle (by omega) (Same.refl _) ?_
  rw [List.replicate_succ',List.map_append]
  rfl
 rintro ys H2 s2 hA₂ hle2 rfl
 rw [l2] at hA₂
 have s12:=s1.trans s2
 refine ⟨A₁,A₂,_,_,rfl,rfl,s2 _ _ hA₁,hA₂,small (by rw [List.length_map,List.length_map,List.length_replicate,List.length_replicate];omega),fun A₃ hA₃0=>?_⟩
 rw [← List.map_append]
 have s3:=jK hA₃0 (.lst ((List.replicate R.length ("reach":Str)++List.replicate L.length ("lock":Str)).map V.str))
 have s13:=s12.trans s3
 have hA₃:upd H2 A₃ (.lst ((List.replicate R.length ("reach":Str)++List.replicate L.length ("lock":Str)).map V.str)) A₃=_:=jD
 generalize upd H2 A₃ (.lst ((List.replicate R.length ("reach":Str)++List.replicate L.length ("lock":Str)).map V.str))=H3 at s3 s13 hA₃ ⊢
 refine ⟨_,rfl,t,_,_,_,rfl,rfl,SqT.of (s13 _ _ ht),rfl,nl,rfl,⟨_,SqL.of (s13 _ _ hnl)⟩,fun A₄ hA₄0=>?_⟩
 refine qT (K:=K) (a:=nl) (xs:=ns) (caps:=[]) (fun i ys Hi=>ys=(List.replicate i ("night":Str)).map V.str) hA₄0 (SqL.of (s13 _ _ hnl)) rfl ?_ ?_
 ·rintro i v ys Hi hv hi hle sm hY rfl
  refine qW (qM ?_)
  refine qL hA₄0 sm hY hle (by omega) (Same.refl _) ?_
  rw [List.replicate_succ',List.map_append]
  rfl
 rintro ys H4 s4 hA₄ hle4 rfl
 rw [l3] at hA₄
 have s14:=s13.trans s4
 refine ⟨A₃,A₄,_,_,rfl,rfl,s4 _ _ hA₃,hA₄,small (by rw [List.length_map,List.length_map,List.length_append,List.length_replicate,List.length_replicate,List.length_replicate];omega),fun A₅ hA₅0=>?_⟩
 rw [← List.map_append,DQ]
 have s5:=jK hA₅0 (.lst (((qR R L N).map y7).map V.str))
 have s15:=s14.trans s5
 have hA₅:upd H4 A₅ (.lst (((qR R L N).map y7).map V.str)) A₅=_:=jD
 generalize upd H4 A₅ (.lst (((qR R L N).map y7).map V.str))=H5 at s5 s15 hA₅ ⊢
 have hn:=i9 R L N
 generalize qR R L N=its at hsl hsp hA₅ hn
 have hsl5:=s15 _ _ hsl
 have hrl5:((its.map (kK rn)++[("":Str)]).map V.str).length=its.length+1:=by rw [List.length_map,List.length_append,List.length_map];rfl
 have hwl5:((its.map y7).map V.str).length=its.length:=by rw [List.length_map,List.length_map]
 have hlast:qF ((its.map (kK rn)++[("":Str)]).map V.str) (-1)=some (V.str ""):=by
  rw [List.map_append]
  exact FL _ _
 refine ⟨_,rfl,sl,_,rfl,.inl (SqL.of hsl5),_,rfl,A₅,_,rfl,.inl (SqL.of hA₅),_,_,rfl,rfl,rfl,_,rfl,kZ (congrArg V.int (by rw [hrl5,hwl5];omega)) ?_⟩
 refine ⟨_,rfl,_,rfl,sl,_,_,_,rfl,rfl,SqL.of hsl5,hlast,rfl,_,rfl,kZ rfl ?_⟩
 refine ⟨_,rfl,A₅,_,rfl,.inl (SqL.of hA₅),_,rfl,by omega,by rw [hwl5];omega,zQ (n:=(((its.map y7).map V.str).length:Nat)) (fun i σ Hi=>∃c:Option V,σ=[some (.ref sl),some (.ref t),some (.ref A₅),c]∧Same H5 Hi) ⟨none,rfl,Same.refl _⟩ ?_ ?_⟩
 ·rintro i σ Hi hi ⟨c,rfl,sm⟩
  rw [hwl5] at hi
  rw [Int.zero_add]
  have hit:its[i]?=some its[i]:=List.getElem?_eq_getElem hi
  obtain ⟨e1,e2⟩:=hsp its[i] (List.mem_of_getElem? hit)
  have hrow:((its.map (kK rn)++[("":Str)]).map V.str)[i]?=some (V.str (kK rn its[i])):=by
   rw [List.getElem?_map,List.getElem?_append_left (by rw [List.length_map];exact hi),List.getElem?_map,hit];rfl
  have hwd:((its.map y7).map V.str)[i]?=some (V.str (y7 its[i])):=by rw [List.getElem?_map,List.getElem?_map,hit];rfl
  refine ⟨_,rfl,_,rfl,sl,_,_,_,rfl,rfl,SqL.of (sm _ _ hsl5),qV hrow,rfl,kK rn its[i],blankS,rfl,rfl,rfl,e2,fun wl hwl0=>?_⟩
  rw [e1]
  have u:=jK hwl0 (.lst ((kI rn its[i]).map V.str))
  refine ⟨wl,_,_,_,rfl,rfl,SqL.of jD,qV (j:=0) (by rw [List.getElem?_map,C8];rfl),_,rfl,_,rfl,A₅,_,_,_,rfl,rfl,SqL.of (u _ _ (sm _ _ hA₅)),qV hwd,rfl,_,rfl,kZ rfl ⟨_,rfl,sm.trans u⟩⟩
 rintro σ Hi ⟨c,rfl,sm⟩
 exact q Hi (s15.trans sm)
theorem JB:FnScope ["script","names","gates","plan","due","first","told","second"] ["script"] (jE zB):=⟨rfl,rfl,rfl,by decide +kernel,rfl,by decide +kernel,by decide +kernel⟩
theorem wF {f:Addr} {fd:FuncData} (F:Fun K "law" "law" zB f fd) (T:Txt K mg cP cB cU cR cN tkS jX jW j4 j3 jZ j0 jY) (D__law_reach_names:Def P w K mg base 2 "_law_reach_names" ["cell"] [] (gK)) (D__law_cell_at:Def P w K mg base 1 "_law_cell_at" ["script","k"] [] (lE K)) (D__law_gates:Def P w K mg base 3 "_law_gates" ["cell","names"] [] (pJ)) (D__law_plan:Def P w K mg base 2 "_law_plan" ["script","names","gates"] [] (rJ K)) (D__law_due:Def P w K mg base 1 "_law_due" ["plan"] [] (sK)) (D_canal_of:Def P w K mg base 7 "canal_of" ["text"] [] (oC (jM cP cB cU) cR cN)) (D__law_row:Def P w K mg base 1 "_law_row" ["one","names"] [] (sI)) (D__law_canal_is:Def P w K mg base 4 "_law_canal_is" ["canal","due"] [] (oE (jM cP cB cU) cR cN)) (D_shown:Def P w K mg base 3 "shown" ["canal"] [] (rH (jM cP cB cU) cR cN)) (D__law_begins:Def P w K mg base 1 "_law_begins" ["rows","due"] [] (pK)) (MM_Canal_start:MeD P w K mg base 5 cN "start" ["self"] (iN (jM cP cB cU) cR cN)):FnOk P w K mg base jP 8 f fd ["script"] (fI K):=by
 refine F.ok JB (fun vs H Q E h=>?_) (fun cdv A outer s H vs Q E hr h=>?_)
 ·obtain ⟨a,ns,rfl,hS,h63,q⟩:=h
  rfl
 obtain ⟨a,ns,rfl,hS,h63,q⟩:=h
 have hu:_<cLine:=hr.units0
 have hu1:=j6 hr
 refine ⟨_,(@jG _ _ _ _ _ (jV (i:=1) JB.nd rfl (by first|exact Or.inl rfl|exact Or.inr rfl) (jU D__law_reach_names hr rfl (jA (@jH _ _ _ _ _ _ _ _ kO (jU D__law_cell_at hr rfl (jA (pv 0) (jA jB jC))) (@jH _ _ _ _ _ _ _ _ yN jB jB)) jC)))
   (@jG _ _ _ _ _ (jV (i:=2) JB.nd rfl (by first|exact Or.inl rfl|exact Or.inr rfl) (jU D__law_gates hr rfl (jA (@jH _ _ _ _ _ _ _ _ kO (jU D__law_cell_at hr rfl (jA (pv 0) (jA jB jC))) (@jH _ _ _ _ _ _ _ _ yN jB jB)) (jA (pv 1) jC))))
   (@jG _ _ _ _ _ (jV (i:=3) JB.nd rfl (by first|exact Or.inl rfl|exact Or.inr rfl) (jU D__law_plan hr rfl (@jA _ _ _ _ _ (pv 0) (@jA _ _ _ _ _ (pv 1) (@jA _ _ _ _ _ (pv 2) jC (by rfl)) (by rfl)) (by rfl))))
   (@jG _ _ _ _ _ (jV (i:=4) JB.nd rfl (by first|exact Or.inl rfl|exact Or.inr rfl) (jU D__law_due hr rfl (jA (pv 3) jC)))
   (@jG _ _ _ _ _ (jV (i:=5) JB.nd rfl (by first|exact Or.inl rfl|exact Or.inr rfl) (jU D_canal_of hr rfl (jA (qP PySem.F.plainAttrs_str PySem.F.slot_str_join PySem.F.type_str_join JF j7 (jA (vD ["one","names"] (qB 1 [1]) rfl (qK (jE zB) rfl rfl (by decide +kernel) (by decide +kernel) (by decide +kernel)) (qI 1 [1] rfl rfl (by decide +kernel)) (qC (pv 3)) (fun _ _ _ _ _=>(kF (i:=0) (show List.Nodup (["one","names"]:List Str) from by decide +kernel) rfl (by first|exact Or.inl rfl|exact Or.inr rfl))) (fun _ _ _ _ _=>qU) (fun _ _ _ _ _=>(jU D__law_row hr rfl (jA (pv 0) (jA (pv 1) jC))))) jC)) jC)))
   (@jG _ _ _ _ _ (j9 (qO (qX (jU D__law_canal_is hr rfl (jA (pv 5) (jA (pv 4) jC))))) (@jF _ _ _ (@jO _ _ _ _ qS)) kD)
   (@jG _ _ _ _ _ (jV (i:=6) JB.nd rfl (by first|exact Or.inl rfl|exact Or.inr rfl) (jU D_shown hr rfl (jA (pv 5) jC)))
   (@jG _ _ _ _ _ (j9 (PW.pt (vQ (qO (qX (kA vV (by rfl) T.z_isinstance PyProof.Rows.boot_isinstance (jA (pv 6) (jA (y0 (v:=.ty "str") rfl T.z_str PyProof.Rows.boot_str rfl) jC))))) (yE (qO (qX (jU D__law_begins hr rfl (jA (qP PySem.F.plainAttrs_str PySem.F.slot_str_split PySem.F.type_str_split eQ (pv 6) (jA j7 jC)) (jA (pv 4) jC)))))))) (@jF _ _ _ (@jO _ _ _ _ qS)) kD)
   (@jG _ _ _ _ _ (jV (i:=7) JB.nd rfl (by first|exact Or.inl rfl|exact Or.inr rfl) (jU D_canal_of hr rfl (jA (pv 6) jC)))
   (@jG _ _ _ _ _ (j9 (PW.pt (vQ (qO (qX (jU D__law_canal_is hr rfl (jA (pv 7) (jA (pv 4) jC))))) (vQ (j5 qQ (jU D_shown hr rfl (jA (pv 7) jC)) (pv 6) (jT _)) (yE (j5 qQ (jU D_shown hr rfl (jA (pv 5) jC)) (pv 6) (jT _)))))) (@jF _ _ _ (@jO _ _ _ _ qS)) kD)
   (@jF _ _ _ (@jO _ _ _ _ (QF (HP hu) (QI MM_Canal_start hr (pv 7)) (QI MM_Canal_start hr (pv 5)) (jT _)))))))))))))),?_⟩
 refine ⟨_,rfl,a,ns,0,rfl,hS,_,_,rfl,rfl,⟨by decide,by decide,by decide⟩,_,_,rfl,rfl,(show (0:Int)<10 ^ Int.toNat 40 from by decide +kernel),_,rfl,fun nl H1 s1 hnl0 hnl=>?_⟩
 have hc0:0≤ns.getD 0 0%10 ^ Int.toNat 40:=Int.emod_nonneg _ (by decide +kernel)
 generalize ns.getD 0 0%10 ^ Int.toNat 40=c0 at hnl hc0
 refine ⟨_,rfl,a,ns,1,rfl,s1.seq hS,_,_,rfl,rfl,⟨by decide,by decide,by decide⟩,_,_,rfl,rfl,(show (0:Int)<10 ^ Int.toNat 40 from by decide +kernel),_,rfl,_,c0,nl,rfl,hnl,fun gl H2 s2 hgl=>?_⟩
 have hc1:0≤ns.getD 1 0%10 ^ Int.toNat 40:=Int.emod_nonneg _ (by decide +kernel)
 generalize ns.getD 1 0%10 ^ Int.toNat 40=c1 at hgl hc1
 have s12:=s1.trans s2
 refine ⟨_,rfl,_,rfl,_,rfl,a,nl,gl,ns,kN c0,vK c0 c1,rfl,s12.seq hS,h63,s2 _ _ hnl,hgl,fun its a₁ b₁ c₁ pl us H3 ok ha1 s3 hpl0 hpl hpa=>?_⟩
 have s13:=s12.trans s3
 have hdr:=nM ok ha1
 refine ⟨_,rfl,pl,us,its,_,_,a₁,b₁,c₁,rfl,hpl,hpa,ok,fun t rl ll nl2 rs ls ns2 H4 s4 ht hrl hll hnl2 hR hL hN=>?_⟩
 have s14:=s13.trans s4
 have nok:=BN hc0 hc1
 have hrl12:∀k,k<8→(kN c0 k).length≤12:=fun k hk=>(nok.rlen k hk).2
 have hgl12:∀k,k<8→(vK c0 c1 k).length≤12:=fun k hk=>(nok.glen k hk).2
 have hsh:=DC ok ha1 hrl12 hgl12
 have hit:=iZ hrl12 hgl12 ok
 have hnl4:=s4 _ _ (s3 _ _ (s2 _ _ hnl))
 have hpl4:=s4 _ _ hpl
 have hpa4:=hpa.same s4
 have hlen22:its.length≤22:=by have:=ok.bounds;omega
 refine ⟨rfl,_,rfl,pl,rfl,⟨_,SqL.of hpl4⟩,fun D hD=>?_⟩
 refine qT (K:=K) (a:=pl) (xs:=us) (caps:=[some (.ref nl)]) (fun i ys Hi=>ys=((its.take i).map (kK (kN c0))).map V.str) hD (SqL.of hpl4) rfl ?_ ?_
 ·rintro i v ys Hi hv hi hle sm hY rfl
  obtain ⟨it,hiti,hat⟩:=hpa4.2 i v hv
  obtain ⟨m,hm⟩:=hit it (List.mem_of_getElem? hiti)
  have hi22:i<22:=by rw [hpa4.1] at hi;omega
  obtain ⟨tv,rfl⟩:∃tv:Addr,v=.ref tv:=by
   cases it with
   |reach r=>obtain ⟨tv,e,_⟩:=hat;exact ⟨tv,e⟩
   |lock l=>obtain ⟨tv,e,_⟩:=hat;exact ⟨tv,e⟩
   |night ts=>obtain ⟨tv,_,_,e,_⟩:=hat;exact ⟨tv,e⟩
  refine qW (qM ⟨_,rfl,_,rfl,tv,nl,it,kN c0,m,rfl,(hat.less (by simp)).same sm,sm _ _ hnl4,hrl12,hm,fun H' u=>?_⟩)
  refine qL hD sm hY hle (by omega) u ?_
  rw [List.take_add_one,hiti,List.map_append,List.map_append]
  rfl
 rintro ys H5 s5 hD5 hle5 rfl
 rw [hpa4.1,List.take_length] at hD5
 have hro:=pM (kN c0) its
 have hrl46:(its.map (kK (kN c0))).length≤46:=by rw [List.length_map];omega
 obtain ⟨S,hz,hgr,e1,e2,e3,h6,hpl'⟩:=nX nok ok ha1 hro hrl46
 refine ⟨"\n",D,its.map (kK (kN c0)),rfl,rfl,SqL.of hD5,by decide +kernel,mU hrl12 hro hrl46 hit,?_⟩
 rw [GT]
 refine ⟨_,S,rfl,hz,hgr,?_,by rw [e1];exact hdr.r8,h6,hpl',fun x H6 s6 hx0 hcn=>?_⟩
 ·rw [e1];have:=hdr.r1;intro e;rw [e] at this;exact absurd this (by decide)
 rw [e3,e1,e2] at hcn
 have hgn:=fun i l hl=>((cG ok).2 i l hl).2.1
 clear hgr hz hpl' h6 e1 e2 e3 S
 generalize kH its=R at hR hdr hsh hcn
 generalize kL its=L at hL hdr hsh hcn hgn
 generalize yZ its=N at hN hdr hsh hcn
 have b1:=hdr.r8
 have b2:=hdr.l8
 have b3:=hdr.n6
 have s46:=s5.trans s6
 have hdue:DueAt [] H4 t R L N:=⟨rl,ll,nl2,rs,ls,ns2,ht,hrl,hll,hnl2,hR,hL,hN.mono (NAt.less (by simp)),by simp,by simp,by simp⟩
 have hex:∀l∈L,l.kd=.plain→l.extra=0:=fun l hl=>by
  obtain ⟨i,hi,e⟩:=List.getElem_of_mem hl
  exact (hdr.lock i l (by rw [List.getElem?_eq_getElem hi,e])).2.2.2.2.2.2.1
 have hpn:∀p∈N,p.length≤100:=fun p hp=>by rw [hdr.night p hp];omega
 have hT:fM R:=fun i r hr=>(hdr.good i r hr).2.2.2.2.2.2.2
 refine ⟨_,rfl,_,rfl,x,t,[],[],R,L,N,rfl,hcn,hdue.same s46,by omega,by omega,by omega,hex,hpn,fun H7 s7=>⟨_,rfl,kX ?_⟩⟩
 have hcn7:=hcn.same s7
 have hdue7:=hdue.same (s46.trans s7)
 refine ⟨_,rfl,x,[],R,L,N,kN c0,rfl,hcn7,hsh,fun H8 s8=>?_⟩
 rw [iX]
 refine ⟨_,rfl,_,_,_,_,_,rfl,rfl,TyOf.str _,yS "str",_,rfl,kX ?_⟩
 have ok2:=B4 hsh hgn
 have ha2:1≤R.length:=hdr.r1
 have hro2:=(pM (kN c0) (qR R L N)).emp
 have hrl2:((qR R L N).map (kK (kN c0))++[("":Str)]).length≤46:=by rw [List.length_append,List.length_map,i9];show _+1≤_;omega
 have hit2:=iZ hrl12 hgl12 ok2
 have hlet2:=pP nok.rlet nok.glet ok2
 obtain ⟨S,hz,hgr,e1,e2,e3,h6,hpl'⟩:=nX nok ok2 ha2 hro2 hrl2
 rw [p6] at e1
 rw [GS] at e2
 rw [FE hdr.night,e1] at e3
 have hne2:qR R L N≠[]:=fun e=>by have:=i9 R L N;rw [e] at this;have:([]:List PIt).length=0:=rfl;omega
 have hspl:=nB nok.rlet hro2 hne2 hit2 hlet2
 refine ⟨_,rfl,rfl,_,feedS,rfl,rfl,rfl,hz,fun sl hsl0=>?_⟩
 have s9:=jK hsl0 (.lst ((Txt.split (Str.join feedS ((qR R L N).map (kK (kN c0))++[("":Str)])) feedS).map V.str))
 rw [hspl] at s9 ⊢
 have s89:=s8.trans s9
 refine ⟨_,rfl,sl,t,kN c0,R,L,N,rfl,jD,hdue7.same s89,by omega,by omega,by omega,fun it hm=>?_,fun HA sA=>⟨_,rfl,kX ?_⟩⟩
 ·obtain ⟨m,hm'⟩:=hit2 it hm
  exact ⟨oG nok.rlet hm' (hlet2 it hm),by have:=QH hrl12 hm';omega⟩
 have s8A:=s89.trans sA
 generalize upd H8 sl (.lst (((qR R L N).map (kK (kN c0))++[("":Str)]).map V.str))=H9 at s9 s89 sA
 refine ⟨_,rfl,_,S,rfl,hz,hgr,?_,by rw [e1];exact b1,h6,hpl',fun y HB sB hy0 hcy=>?_⟩
 ·rw [e1];intro e;rw [e] at ha2;exact absurd ha2 (by decide)
 rw [e1,e3,e2] at hcy
 have s8B:=s8A.trans sB
 refine ⟨_,rfl,_,rfl,y,t,[],[],R,L,N,rfl,hcy,hdue7.same s8B,by omega,by omega,by omega,hex,hpn,fun HC sC=>⟨_,rfl,kX ?_⟩⟩
 refine ⟨_,rfl,y,[],R,L,N,kN c0,rfl,hcy.same sC,hsh,fun HD sD=>?_⟩
 rw [iX]
 refine ⟨_,rfl,rfl,_,rfl,kZ rfl ?_⟩
 have s8D:=(s8B.trans sC).trans sD
 refine ⟨_,rfl,x,[],R,L,N,kN c0,rfl,hcn7.same s8D,hsh,fun HE sE=>?_⟩
 rw [iX]
 refine ⟨_,rfl,rfl,_,rfl,kZ rfl ?_⟩
 have hcyE:=hcy.same ((sC.trans sD).trans sE)
 have hcyE0:=hcyE
 obtain ⟨d_y,rl_y,ll_y,nl_y,fs_y,rs_y,ls_y,ns_y,hx_y,hf_y,hrl_y,hll_y,hnl_y,hR_y,hL_y,hN_y,_,_,_⟩:=hcyE
 refine ⟨_,rfl,y,d_y,_,rfl,hx_y,hf_y.no (by decide +kernel) (by decide +kernel) (by decide +kernel),y,[],R,L,N,rfl,hcyE0,by omega,by omega,hT,fun r1 HF gs1 sF hr10 hr1 hSp1=>?_⟩
 have hcxF:=hcn7.same ((s8D.trans sE).trans sF)
 have hcxF0:=hcxF
 obtain ⟨d_x,rl_x,ll_x,nl_x,fs_x,rs_x,ls_x,ns_x,hx_x,hf_x,hrl_x,hll_x,hnl_x,hR_x,hL_x,hN_x,_,_,_⟩:=hcxF
 refine ⟨_,rfl,x,d_x,_,rfl,hx_x,hf_x.no (by decide +kernel) (by decide +kernel) (by decide +kernel),x,[],R,L,N,rfl,hcxF0,by omega,by omega,hT,fun r2 HG gs2 sG hr20 hr2 hSp2=>?_⟩
 have eg:=Spl.unique (o8 (mO (m:=L.length) hT)) hSp1 hSp2
 rw [← eg] at hr2
 refine ⟨r1,r2,_,_,rfl,rfl,SqT.of (sG _ _ hr1),SqT.of hr2,gJ _,gJ _,?_⟩
 rw [FF (gJ _)]
 exact q _
end
theorem all_mk {l:W.OpenLaw} {w:World} {K:W.Frag} {h:Heap} {mg:Str→Option Value} {fa f0 f1 f2 f3 f4 f5 f6 f7 f8 f9 f10 f11 f12 f13 f14 f15 f16 f17 f18 f19 f20 f21 f22 f23 f24 f25 f26 f27 f28 f29 f30 f31 f32 f33 f34 f35 f36 f37 f38 f39 f40 f41 f42 f43 f44 f45 f46 f47 f48 f49 f50 f51 f52 f53 f54 f55 f56 f57 f58 f59 f60 f61 f62 f63:Addr} {cP cB cU:Addr} {cR:Addr} {cN:Addr} {dn0:Nat} {tkS:Tok} {jX:Tok} {jW:Tok} {j4:Tok} {j3:Tok} {jZ:Tok} {j0:Tok} {jY:Tok} (X:K.In h) (G:h.Ns mainGlobals mg) (hfa:mg "law"=some (.ref fa))
 {od0 an0 od1 an1 od2 an2 od3 an3 od4 an4 od5 an5 od6 an6 od7 an7 od8 an8 od9 an9 od10 an10 od11 an11 od12 an12 od13 an13 od14 an14 od15 an15 od16 an16 od17 an17 od18 an18 od19 an19 od20 an20 od21 an21 od22 an22 od23 an23 od24 an24 od25 an25 od26 an26 od27 an27 od28 an28 od29 an29 od30 an30 od31 an31 od32 an32 od33 an33 od34 an34 od35 an35 od36 an36 od37 an37 od38 an38 od39 an39 od40 an40 od41 an41 od42 an42 od43 an43 od44 an44 od45 an45 od46 an46 od47 an47 od48 an48 od49 an49 od50 an50 od51 an51 od52 an52 od53 an53 od54 an54 od55 an55 od56 an56 od57 an57 od58 an58 od59 an59 od60 an60 od61 an61 od62 an62 od63 an63:Option Addr} {sl0 sl1 sl2 sl3 sl4 sl5 sl6 sl7 sl8 sl9 sl10 sl11 sl12 sl13 sl14 sl15 sl16 sl17 sl18 sl19 sl20 sl21 sl22 sl23 sl24 sl25 sl26 sl27 sl28 sl29 sl30 sl31 sl32 sl33 sl34 sl35 sl36 sl37 sl38 sl39 sl40 sl41 sl42 sl43 sl44 sl45 sl46 sl47 sl48 sl49 sl50 sl51 sl52 sl53 sl54 sl55 sl56 sl57 sl58 sl59 sl60 sl61 sl62 sl63:Array (Option Value)} {oc0 kV0 dc0 pm0 cd0 ct0 oc1 kV1 dc1 pm1 cd1 ct1 oc2 kV2 dc2 pm2 cd2 ct2 oc3 kV3 dc3 pm3 cd3 ct3 oc4 kV4 dc4 pm4 cd4 ct4 oc5 kV5 dc5 pm5 cd5 ct5 oc6 kV6 dc6 pm6 cd6 ct6 oc7 kV7 dc7 pm7 cd7 ct7 oc8 kV8 dc8 pm8 cd8 ct8 oc9 kV9 dc9 pm9 cd9 ct9 oc10 kV10 dc10 pm10 cd10 ct10 oc11 kV11 dc11 pm11 cd11 ct11 oc12 kV12 dc12 pm12 cd12 ct12 oc13 kV13 dc13 pm13 cd13 ct13 oc14 kV14 dc14 pm14 cd14 ct14 oc15 kV15 dc15 pm15 cd15 ct15 oc16 kV16 dc16 pm16 cd16 ct16 oc17 kV17 dc17 pm17 cd17 ct17 oc18 kV18 dc18 pm18 cd18 ct18 oc19 kV19 dc19 pm19 cd19 ct19 oc20 kV20 dc20 pm20 cd20 ct20 oc21 kV21 dc21 pm21 cd21 ct21 oc22 kV22 dc22 pm22 cd22 ct22 oc23 kV23 dc23 pm23 cd23 ct23 oc24 kV24 dc24 pm24 cd24 ct24 oc25 kV25 dc25 pm25 cd25 ct25 oc26 kV26 dc26 pm26 cd26 ct26 oc27 kV27 dc27 pm27 cd27 ct27 oc28 kV28 dc28 pm28 cd28 ct28 oc29 kV29 dc29 pm29 cd29 ct29 oc30 kV30 dc30 pm30 cd30 ct30 oc31 kV31 dc31 pm31 cd31 ct31 oc32 kV32 dc32 pm32 cd32 ct32 oc33 kV33 dc33 pm33 cd33 ct33 oc34 kV34 dc34 pm34 cd34 ct34 oc35 kV35 dc35 pm35 cd35 ct35 oc36 kV36 dc36 pm36 cd36 ct36 oc37 kV37 dc37 pm37 cd37 ct37 oc38 kV38 dc38 pm38 cd38 ct38 oc39 kV39 dc39 pm39 cd39 ct39 oc40 kV40 dc40 pm40 cd40 ct40 oc41 kV41 dc41 pm41 cd41 ct41 oc42 kV42 dc42 pm42 cd42 ct42 oc43 kV43 dc43 pm43 cd43 ct43 oc44 kV44 dc44 pm44 cd44 ct44 oc45 kV45 dc45 pm45 cd45 ct45 oc46 kV46 dc46 pm46 cd46 ct46 oc47 kV47 dc47 pm47 cd47 ct47 oc48 kV48 dc48 pm48 cd48 ct48 oc49 kV49 dc49 pm49 cd49 ct49 oc50 kV50 dc50 pm50 cd50 ct50 oc51 kV51 dc51 pm51 cd51 ct51 oc52 kV52 dc52 pm52 cd52 ct52 oc53 kV53 dc53 pm53 cd53 ct53 oc54 kV54 dc54 pm54 cd54 ct54 oc55 kV55 dc55 pm55 cd55 ct55 oc56 kV56 dc56 pm56 cd56 ct56 oc57 kV57 dc57 pm57 cd57 ct57 oc58 kV58 dc58 pm58 cd58 ct58 oc59 kV59 dc59 pm59 cd59 ct59 oc60 kV60 dc60 pm60 cd60 ct60 oc61 kV61 dc61 pm61 cd61 ct61 oc62 kV62 dc62 pm62 cd62 ct62 oc63 kV63 dc63 pm63 cd63 ct63:Value}
 {T16:Addr} {oT16:Obj}
  (aC_P:W.nsIn K mainGlobals "PlainLock"=some (some (.ref cP)))
  (aC_B:W.nsIn K mainGlobals "BasinLock"=some (some (.ref cB)))
  (aC_U:W.nsIn K mainGlobals "PumpLock"=some (some (.ref cU)))
  (aC_R:W.nsIn K mainGlobals "Reach"=some (some (.ref cR)))
  (aC_N:W.nsIn K mainGlobals "Canal"=some (some (.ref cN)))
  (a0:W.findIn K (.ref cP) "__init__"=some (some (.ref f0)))
  (i0:W.isFn K (.ref f0)=true)
  (ac0:W.findCls K (.ref cP) (.type "type") "__init__"=some (.val (.ref f0)))
  (l0:K.lookup f0=some ⟨oc0,od0,.func (W.fnOf "__init__" "PlainLock.__init__" (jS QY) (jQ QY) (jE QY) .none kV0 dc0 pm0 an0 cd0 ct0),sl0⟩)
  (c0:W.codeIn K cd0 "PlainLock.__init__"=true)
  (k0:W.keepIn K (.ref f0)=true)
  (a1:W.findIn K (.ref cB) "__init__"=some (some (.ref f1)))
  (i1:W.isFn K (.ref f1)=true)
  (l1:K.lookup f1=some ⟨oc1,od1,.func (W.fnOf "__init__" "BasinLock.__init__" (jS QS) (jQ QS) (jE QS) .none kV1 dc1 pm1 an1 cd1 ct1),sl1⟩)
  (c1:W.codeIn K cd1 "BasinLock.__init__"=true)
  (k1:W.keepIn K (.ref f1)=true)
  (a2:W.findIn K (.ref cU) "__init__"=some (some (.ref f2)))
  (i2:W.isFn K (.ref f2)=true)
  (l2:K.lookup f2=some ⟨oc2,od2,.func (W.fnOf "__init__" "PumpLock.__init__" (jS Q1) (jQ Q1) (jE Q1) .none kV2 dc2 pm2 an2 cd2 ct2),sl2⟩)
  (c2:W.codeIn K cd2 "PumpLock.__init__"=true)
  (k2:W.keepIn K (.ref f2)=true)
  (a3:W.findIn K (.ref cR) "__init__"=some (some (.ref f3)))
  (i3:W.isFn K (.ref f3)=true)
  (l3:K.lookup f3=some ⟨oc3,od3,.func (W.fnOf "__init__" "Reach.__init__" (jS Q4) (jQ Q4) (jE Q4) .none kV3 dc3 pm3 an3 cd3 ct3),sl3⟩)
  (c3:W.codeIn K cd3 "Reach.__init__"=true)
  (k3:W.keepIn K (.ref f3)=true)
  (a4:W.nsIn K mainGlobals "poured_all"=some (some (.ref f4)))
  (l4:K.lookup f4=some ⟨oc4,od4,.func (W.fnOf "poured_all" "poured_all" (jS ZR) (jQ ZR) (jE ZR) .none kV4 dc4 pm4 an4 cd4 ct4),sl4⟩)
  (c4:W.codeIn K cd4 "poured_all"=true)
  (k4:W.keepIn K (.ref f4)=true)
  (a5:W.nsIn K mainGlobals "over"=some (some (.ref f5)))
  (l5:K.lookup f5=some ⟨oc5,od5,.func (W.fnOf "over" "over" (jS ZP) (jQ ZP) (jE ZP) .none kV5 dc5 pm5 an5 cd5 ct5),sl5⟩)
  (c5:W.codeIn K cd5 "over"=true)
  (k5:W.keepIn K (.ref f5)=true)
  (a6:W.nsIn K mainGlobals "last_first"=some (some (.ref f6)))
  (l6:K.lookup f6=some ⟨oc6,od6,.func (W.fnOf "last_first" "last_first" (jS ZJ) (jQ ZJ) (jE ZJ) .none kV6 dc6 pm6 an6 cd6 ct6),sl6⟩)
  (c6:W.codeIn K cd6 "last_first"=true)
  (k6:W.keepIn K (.ref f6)=true)
  (a7:W.nsIn K mainGlobals "spills"=some (some (.ref f7)))
  (l7:K.lookup f7=some ⟨oc7,od7,.func (W.fnOf "spills" "spills" (jS ZY) (jQ ZY) (jE ZY) .none kV7 dc7 pm7 an7 cd7 ct7),sl7⟩)
  (c7:W.codeIn K cd7 "spills"=true)
  (k7:W.keepIn K (.ref f7)=true)
  (a8:W.nsIn K mainGlobals "spill_pours"=some (some (.ref f8)))
  (l8:K.lookup f8=some ⟨oc8,od8,.func (W.fnOf "spill_pours" "spill_pours" (jS J8) (jQ J8) (jE J8) .none kV8 dc8 pm8 an8 cd8 ct8),sl8⟩)
  (c8:W.codeIn K cd8 "spill_pours"=true)
  (k8:W.keepIn K (.ref f8)=true)
  (a9:W.nsIn K mainGlobals "settled"=some (some (.ref f9)))
  (l9:K.lookup f9=some ⟨oc9,od9,.func (W.fnOf "settled" "settled" (jS ZX) (jQ ZX) (jE ZX) .none kV9 dc9 pm9 an9 cd9 ct9),sl9⟩)
  (c9:W.codeIn K cd9 "settled"=true)
  (k9:W.keepIn K (.ref f9)=true)
  (a10:W.findIn K (.ref cP) "kind"=some (some (.ref f10)))
  (i10:W.isFn K (.ref f10)=true)
  (l10:K.lookup f10=some ⟨oc10,od10,.func (W.fnOf "kind" "PlainLock.kind" (jS Q0) (jQ Q0) (jE Q0) .none kV10 dc10 pm10 an10 cd10 ct10),sl10⟩)
  (c10:W.codeIn K cd10 "PlainLock.kind"=true)
  (k10:W.keepIn K (.ref f10)=true)
  (a11:W.findIn K (.ref cB) "kind"=some (some (.ref f11)))
  (i11:W.isFn K (.ref f11)=true)
  (l11:K.lookup f11=some ⟨oc11,od11,.func (W.fnOf "kind" "BasinLock.kind" (jS QU) (jQ QU) (jE QU) .none kV11 dc11 pm11 an11 cd11 ct11),sl11⟩)
  (c11:W.codeIn K cd11 "BasinLock.kind"=true)
  (k11:W.keepIn K (.ref f11)=true)
  (a12:W.findIn K (.ref cU) "kind"=some (some (.ref f12)))
  (i12:W.isFn K (.ref f12)=true)
  (l12:K.lookup f12=some ⟨oc12,od12,.func (W.fnOf "kind" "PumpLock.kind" (jS Q3) (jQ Q3) (jE Q3) .none kV12 dc12 pm12 an12 cd12 ct12),sl12⟩)
  (c12:W.codeIn K cd12 "PumpLock.kind"=true)
  (k12:W.keepIn K (.ref f12)=true)
  (a13:W.findIn K (.ref cP) "extra"=some (some (.ref f13)))
  (i13:W.isFn K (.ref f13)=true)
  (l13:K.lookup f13=some ⟨oc13,od13,.func (W.fnOf "extra" "PlainLock.extra" (jS QZ) (jQ QZ) (jE QZ) .none kV13 dc13 pm13 an13 cd13 ct13),sl13⟩)
  (c13:W.codeIn K cd13 "PlainLock.extra"=true)
  (k13:W.keepIn K (.ref f13)=true)
  (a14:W.findIn K (.ref cB) "extra"=some (some (.ref f14)))
  (i14:W.isFn K (.ref f14)=true)
  (l14:K.lookup f14=some ⟨oc14,od14,.func (W.fnOf "extra" "BasinLock.extra" (jS QT) (jQ QT) (jE QT) .none kV14 dc14 pm14 an14 cd14 ct14),sl14⟩)
  (c14:W.codeIn K cd14 "BasinLock.extra"=true)
  (k14:W.keepIn K (.ref f14)=true)
  (a15:W.findIn K (.ref cU) "extra"=some (some (.ref f15)))
  (i15:W.isFn K (.ref f15)=true)
  (l15:K.lookup f15=some ⟨oc15,od15,.func (W.fnOf "extra" "PumpLock.extra" (jS Q2) (jQ Q2) (jE Q2) .none kV15 dc15 pm15 an15 cd15 ct15),sl15⟩)
  (c15:W.codeIn K cd15 "PumpLock.extra"=true)
  (k15:W.keepIn K (.ref f15)=true)
  (a16:W.findIn K (.ref cN) "__init__"=some (some (.ref f16)))
  (i16:W.isFn K (.ref f16)=true)
  (l16:K.lookup f16=some ⟨oc16,od16,.func (W.fnOf "__init__" "Canal.__init__" (jS JT) (jQ JT) (jE JT) (.ref T16) kV16 dc16 pm16 an16 cd16 ct16),sl16⟩)
  (c16:W.codeIn K cd16 "Canal.__init__"=true)
  (k16:W.keepIn K (.ref f16)=true)
  (lT16:K.lookup T16=some oT16)
  (dT16:oT16.data=.seq ([.none]:List Value).toArray dn0)
  (a17:W.findIn K (.ref cN) "sea"=some (some (.ref f17)))
  (i17:W.isFn K (.ref f17)=true)
  (l17:K.lookup f17=some ⟨oc17,od17,.func (W.fnOf "sea" "Canal.sea" (jS QW) (jQ QW) (jE QW) .none kV17 dc17 pm17 an17 cd17 ct17),sl17⟩)
  (c17:W.codeIn K cd17 "Canal.sea"=true)
  (k17:W.keepIn K (.ref f17)=true)
  (a18:W.findIn K (.ref cN) "sky"=some (some (.ref f18)))
  (i18:W.isFn K (.ref f18)=true)
  (l18:K.lookup f18=some ⟨oc18,od18,.func (W.fnOf "sky" "Canal.sky" (jS QX) (jQ QX) (jE QX) .none kV18 dc18 pm18 an18 cd18 ct18),sl18⟩)
  (c18:W.codeIn K cd18 "Canal.sky"=true)
  (k18:W.keepIn K (.ref f18)=true)
  (a19:W.findIn K (.ref cN) "many"=some (some (.ref f19)))
  (i19:W.isFn K (.ref f19)=true)
  (l19:K.lookup f19=some ⟨oc19,od19,.func (W.fnOf "many" "Canal.many" (jS QV) (jQ QV) (jE QV) .none kV19 dc19 pm19 an19 cd19 ct19),sl19⟩)
  (c19:W.codeIn K cd19 "Canal.many"=true)
  (k19:W.keepIn K (.ref f19)=true)
  (a20:W.findIn K (.ref cN) "weirs"=some (some (.ref f20)))
  (i20:W.isFn K (.ref f20)=true)
  (l20:K.lookup f20=some ⟨oc20,od20,.func (W.fnOf "weirs" "Canal.weirs" (jS JV) (jQ JV) (jE JV) .none kV20 dc20 pm20 an20 cd20 ct20),sl20⟩)
  (c20:W.codeIn K cd20 "Canal.weirs"=true)
  (k20:W.keepIn K (.ref f20)=true)
  (a21:W.findIn K (.ref cN) "start"=some (some (.ref f21)))
  (i21:W.isFn K (.ref f21)=true)
  (l21:K.lookup f21=some ⟨oc21,od21,.func (W.fnOf "start" "Canal.start" (jS JU) (jQ JU) (jE JU) .none kV21 dc21 pm21 an21 cd21 ct21),sl21⟩)
  (c21:W.codeIn K cd21 "Canal.start"=true)
  (k21:W.keepIn K (.ref f21)=true)
  (a22:W.nsIn K mainGlobals "text_of"=some (some (.ref f22)))
  (l22:K.lookup f22=some ⟨oc22,od22,.func (W.fnOf "text_of" "text_of" (jS J9) (jQ J9) (jE J9) .none kV22 dc22 pm22 an22 cd22 ct22),sl22⟩)
  (c22:W.codeIn K cd22 "text_of"=true)
  (k22:W.keepIn K (.ref f22)=true)
  (a23:W.nsIn K mainGlobals "reach_row"=some (some (.ref f23)))
  (l23:K.lookup f23=some ⟨oc23,od23,.func (W.fnOf "reach_row" "reach_row" (jS J4) (jQ J4) (jE J4) .none kV23 dc23 pm23 an23 cd23 ct23),sl23⟩)
  (c23:W.codeIn K cd23 "reach_row"=true)
  (k23:W.keepIn K (.ref f23)=true)
  (a24:W.nsIn K mainGlobals "lock_row"=some (some (.ref f24)))
  (l24:K.lookup f24=some ⟨oc24,od24,.func (W.fnOf "lock_row" "lock_row" (jS ZM) (jQ ZM) (jE ZM) .none kV24 dc24 pm24 an24 cd24 ct24),sl24⟩)
  (c24:W.codeIn K cd24 "lock_row"=true)
  (k24:W.keepIn K (.ref f24)=true)
  (a25:W.nsIn K mainGlobals "night_row"=some (some (.ref f25)))
  (l25:K.lookup f25=some ⟨oc25,od25,.func (W.fnOf "night_row" "night_row" (jS ZN) (jQ ZN) (jE ZN) .none kV25 dc25 pm25 an25 cd25 ct25),sl25⟩)
  (c25:W.codeIn K cd25 "night_row"=true)
  (k25:W.keepIn K (.ref f25)=true)
  (a26:W.nsIn K mainGlobals "shown"=some (some (.ref f26)))
  (l26:K.lookup f26=some ⟨oc26,od26,.func (W.fnOf "shown" "shown" (jS zO) (jQ zO) (jE zO) .none kV26 dc26 pm26 an26 cd26 ct26),sl26⟩)
  (c26:W.codeIn K cd26 "shown"=true)
  (k26:W.keepIn K (.ref f26)=true)
  (a27:W.nsIn K mainGlobals "place_called"=some (some (.ref f27)))
  (l27:K.lookup f27=some ⟨oc27,od27,.func (W.fnOf "place_called" "place_called" (jS ZQ) (jQ ZQ) (jE ZQ) .none kV27 dc27 pm27 an27 cd27 ct27),sl27⟩)
  (c27:W.codeIn K cd27 "place_called"=true)
  (k27:W.keepIn K (.ref f27)=true)
  (a28:W.nsIn K mainGlobals "written_with"=some (some (.ref f28)))
  (l28:K.lookup f28=some ⟨oc28,od28,.func (W.fnOf "written_with" "written_with" (jS QA) (jQ QA) (jE QA) .none kV28 dc28 pm28 an28 cd28 ct28),sl28⟩)
  (c28:W.codeIn K cd28 "written_with"=true)
  (k28:W.keepIn K (.ref f28)=true)
  (a29:W.nsIn K mainGlobals "is_name"=some (some (.ref f29)))
  (l29:K.lookup f29=some ⟨oc29,od29,.func (W.fnOf "is_name" "is_name" (jS ZH) (jQ ZH) (jE ZH) .none kV29 dc29 pm29 an29 cd29 ct29),sl29⟩)
  (c29:W.codeIn K cd29 "is_name"=true)
  (k29:W.keepIn K (.ref f29)=true)
  (a30:W.nsIn K mainGlobals "is_number"=some (some (.ref f30)))
  (l30:K.lookup f30=some ⟨oc30,od30,.func (W.fnOf "is_number" "is_number" (jS ZI) (jQ ZI) (jE ZI) .none kV30 dc30 pm30 an30 cd30 ct30),sl30⟩)
  (c30:W.codeIn K cd30 "is_number"=true)
  (k30:W.keepIn K (.ref f30)=true)
  (a31:W.nsIn K mainGlobals "number_of"=some (some (.ref f31)))
  (l31:K.lookup f31=some ⟨oc31,od31,.func (W.fnOf "number_of" "number_of" (jS ZO) (jQ ZO) (jE ZO) .none kV31 dc31 pm31 an31 cd31 ct31),sl31⟩)
  (c31:W.codeIn K cd31 "number_of"=true)
  (k31:W.keepIn K (.ref f31)=true)
  (a32:W.nsIn K mainGlobals "numbers_of"=some (some (.ref f32)))
  (l32:K.lookup f32=some ⟨oc32,od32,.func (W.fnOf "numbers_of" "numbers_of" (jS J3) (jQ J3) (jE J3) .none kV32 dc32 pm32 an32 cd32 ct32),sl32⟩)
  (c32:W.codeIn K cd32 "numbers_of"=true)
  (k32:W.keepIn K (.ref f32)=true)
  (a33:W.nsIn K mainGlobals "refuse_no_names"=some (some (.ref f33)))
  (l33:K.lookup f33=some ⟨oc33,od33,.func (W.fnOf "refuse_no_names" "refuse_no_names" (jS J5) (jQ J5) (jE J5) .none kV33 dc33 pm33 an33 cd33 ct33),sl33⟩)
  (c33:W.codeIn K cd33 "refuse_no_names"=true)
  (k33:W.keepIn K (.ref f33)=true)
  (a34:W.nsIn K mainGlobals "refuse_told"=some (some (.ref f34)))
  (l34:K.lookup f34=some ⟨oc34,od34,.func (W.fnOf "refuse_told" "refuse_told" (jS J6) (jQ J6) (jE J6) .none kV34 dc34 pm34 an34 cd34 ct34),sl34⟩)
  (c34:W.codeIn K cd34 "refuse_told"=true)
  (k34:W.keepIn K (.ref f34)=true)
  (a35:W.nsIn K mainGlobals "refuse_bad_reach"=some (some (.ref f35)))
  (l35:K.lookup f35=some ⟨oc35,od35,.func (W.fnOf "refuse_bad_reach" "refuse_bad_reach" (jS ZV) (jQ ZV) (jE ZV) .none kV35 dc35 pm35 an35 cd35 ct35),sl35⟩)
  (c35:W.codeIn K cd35 "refuse_bad_reach"=true)
  (k35:W.keepIn K (.ref f35)=true)
  (a36:W.nsIn K mainGlobals "refuse_bad_lock"=some (some (.ref f36)))
  (l36:K.lookup f36=some ⟨oc36,od36,.func (W.fnOf "refuse_bad_lock" "refuse_bad_lock" (jS ZU) (jQ ZU) (jE ZU) .none kV36 dc36 pm36 an36 cd36 ct36),sl36⟩)
  (c36:W.codeIn K cd36 "refuse_bad_lock"=true)
  (k36:W.keepIn K (.ref f36)=true)
  (a37:W.nsIn K mainGlobals "refuse_many"=some (some (.ref f37)))
  (l37:K.lookup f37=some ⟨oc37,od37,.func (W.fnOf "refuse_many" "refuse_many" (jS ZW) (jQ ZW) (jE ZW) .none kV37 dc37 pm37 an37 cd37 ct37),sl37⟩)
  (c37:W.codeIn K cd37 "refuse_many"=true)
  (k37:W.keepIn K (.ref f37)=true)
  (a38:W.nsIn K mainGlobals "widened"=some (some (.ref f38)))
  (l38:K.lookup f38=some ⟨oc38,od38,.func (W.fnOf "widened" "widened" (jS ZZ) (jQ ZZ) (jE ZZ) .none kV38 dc38 pm38 an38 cd38 ct38),sl38⟩)
  (c38:W.codeIn K cd38 "widened"=true)
  (k38:W.keepIn K (.ref f38)=true)
  (a39:W.nsIn K mainGlobals "lock_made"=some (some (.ref f39)))
  (l39:K.lookup f39=some ⟨oc39,od39,.func (W.fnOf "lock_made" "lock_made" (jS ZK) (jQ ZK) (jE ZK) .none kV39 dc39 pm39 an39 cd39 ct39),sl39⟩)
  (c39:W.codeIn K cd39 "lock_made"=true)
  (k39:W.keepIn K (.ref f39)=true)
  (a40:W.nsIn K mainGlobals "reach_read"=some (some (.ref f40)))
  (l40:K.lookup f40=some ⟨oc40,od40,.func (W.fnOf "reach_read" "reach_read" (jS ZS) (jQ ZS) (jE ZS) .none kV40 dc40 pm40 an40 cd40 ct40),sl40⟩)
  (c40:W.codeIn K cd40 "reach_read"=true)
  (k40:W.keepIn K (.ref f40)=true)
  (a41:W.nsIn K mainGlobals "lock_read"=some (some (.ref f41)))
  (l41:K.lookup f41=some ⟨oc41,od41,.func (W.fnOf "lock_read" "lock_read" (jS ZL) (jQ ZL) (jE ZL) .none kV41 dc41 pm41 an41 cd41 ct41),sl41⟩)
  (c41:W.codeIn K cd41 "lock_read"=true)
  (k41:W.keepIn K (.ref f41)=true)
  (a42:W.nsIn K mainGlobals "night_read"=some (some (.ref f42)))
  (l42:K.lookup f42=some ⟨oc42,od42,.func (W.fnOf "night_read" "night_read" (jS J0) (jQ J0) (jE J0) .none kV42 dc42 pm42 an42 cd42 ct42),sl42⟩)
  (c42:W.codeIn K cd42 "night_read"=true)
  (k42:W.keepIn K (.ref f42)=true)
  (a43:W.nsIn K mainGlobals "read_row"=some (some (.ref f43)))
  (l43:K.lookup f43=some ⟨oc43,od43,.func (W.fnOf "read_row" "read_row" (jS ZT) (jQ ZT) (jE ZT) .none kV43 dc43 pm43 an43 cd43 ct43),sl43⟩)
  (c43:W.codeIn K cd43 "read_row"=true)
  (k43:W.keepIn K (.ref f43)=true)
  (a44:W.nsIn K mainGlobals "rows_of"=some (some (.ref f44)))
  (l44:K.lookup f44=some ⟨oc44,od44,.func (W.fnOf "rows_of" "rows_of" (jS J7) (jQ J7) (jE J7) .none kV44 dc44 pm44 an44 cd44 ct44),sl44⟩)
  (c44:W.codeIn K cd44 "rows_of"=true)
  (k44:W.keepIn K (.ref f44)=true)
  (a45:W.nsIn K mainGlobals "canal_of"=some (some (.ref f45)))
  (l45:K.lookup f45=some ⟨oc45,od45,.func (W.fnOf "canal_of" "canal_of" (jS JZ) (jQ JZ) (jE JZ) .none kV45 dc45 pm45 an45 cd45 ct45),sl45⟩)
  (c45:W.codeIn K cd45 "canal_of"=true)
  (k45:W.keepIn K (.ref f45)=true)
  (a46:W.nsIn K mainGlobals "_law_cell_at"=some (some (.ref f46)))
  (l46:K.lookup f46=some ⟨oc46,od46,.func (W.fnOf "_law_cell_at" "_law_cell_at" (jS Q6) (jQ Q6) (jE Q6) .none kV46 dc46 pm46 an46 cd46 ct46),sl46⟩)
  (c46:W.codeIn K cd46 "_law_cell_at"=true)
  (k46:W.keepIn K (.ref f46)=true)
  (a47:W.nsIn K mainGlobals "_law_whole"=some (some (.ref f47)))
  (l47:K.lookup f47=some ⟨oc47,od47,.func (W.fnOf "_law_whole" "_law_whole" (jS ZG) (jQ ZG) (jE ZG) .none kV47 dc47 pm47 an47 cd47 ct47),sl47⟩)
  (c47:W.codeIn K cd47 "_law_whole"=true)
  (k47:W.keepIn K (.ref f47)=true)
  (a48:W.nsIn K mainGlobals "_law_names"=some (some (.ref f48)))
  (l48:K.lookup f48=some ⟨oc48,od48,.func (W.fnOf "_law_names" "_law_names" (jS ZA) (jQ ZA) (jE ZA) .none kV48 dc48 pm48 an48 cd48 ct48),sl48⟩)
  (c48:W.codeIn K cd48 "_law_names"=true)
  (k48:W.keepIn K (.ref f48)=true)
  (a49:W.nsIn K mainGlobals "_law_reach_names"=some (some (.ref f49)))
  (l49:K.lookup f49=some ⟨oc49,od49,.func (W.fnOf "_law_reach_names" "_law_reach_names" (jS JX) (jQ JX) (jE JX) .none kV49 dc49 pm49 an49 cd49 ct49),sl49⟩)
  (c49:W.codeIn K cd49 "_law_reach_names"=true)
  (k49:W.keepIn K (.ref f49)=true)
  (a50:W.nsIn K mainGlobals "_law_gates"=some (some (.ref f50)))
  (l50:K.lookup f50=some ⟨oc50,od50,.func (W.fnOf "_law_gates" "_law_gates" (jS Q7) (jQ Q7) (jE Q7) .none kV50 dc50 pm50 an50 cd50 ct50),sl50⟩)
  (c50:W.codeIn K cd50 "_law_gates"=true)
  (k50:W.keepIn K (.ref f50)=true)
  (a51:W.nsIn K mainGlobals "_law_reach"=some (some (.ref f51)))
  (l51:K.lookup f51=some ⟨oc51,od51,.func (W.fnOf "_law_reach" "_law_reach" (jS ZE) (jQ ZE) (jE ZE) .none kV51 dc51 pm51 an51 cd51 ct51),sl51⟩)
  (c51:W.codeIn K cd51 "_law_reach"=true)
  (k51:W.keepIn K (.ref f51)=true)
  (a52:W.nsIn K mainGlobals "_law_lock"=some (some (.ref f52)))
  (l52:K.lookup f52=some ⟨oc52,od52,.func (W.fnOf "_law_lock" "_law_lock" (jS Q8) (jQ Q8) (jE Q8) .none kV52 dc52 pm52 an52 cd52 ct52),sl52⟩)
  (c52:W.codeIn K cd52 "_law_lock"=true)
  (k52:W.keepIn K (.ref f52)=true)
  (a53:W.nsIn K mainGlobals "_law_night"=some (some (.ref f53)))
  (l53:K.lookup f53=some ⟨oc53,od53,.func (W.fnOf "_law_night" "_law_night" (jS ZB) (jQ ZB) (jE ZB) .none kV53 dc53 pm53 an53 cd53 ct53),sl53⟩)
  (c53:W.codeIn K cd53 "_law_night"=true)
  (k53:W.keepIn K (.ref f53)=true)
  (a54:W.nsIn K mainGlobals "_law_plan"=some (some (.ref f54)))
  (l54:K.lookup f54=some ⟨oc54,od54,.func (W.fnOf "_law_plan" "_law_plan" (jS JW) (jQ JW) (jE JW) .none kV54 dc54 pm54 an54 cd54 ct54),sl54⟩)
  (c54:W.codeIn K cd54 "_law_plan"=true)
  (k54:W.keepIn K (.ref f54)=true)
  (a55:W.nsIn K mainGlobals "_law_due"=some (some (.ref f55)))
  (l55:K.lookup f55=some ⟨oc55,od55,.func (W.fnOf "_law_due" "_law_due" (jS zN) (jQ zN) (jE zN) .none kV55 dc55 pm55 an55 cd55 ct55),sl55⟩)
  (c55:W.codeIn K cd55 "_law_due"=true)
  (k55:W.keepIn K (.ref f55)=true)
  (a56:W.nsIn K mainGlobals "_law_numbers"=some (some (.ref f56)))
  (l56:K.lookup f56=some ⟨oc56,od56,.func (W.fnOf "_law_numbers" "_law_numbers" (jS ZD) (jQ ZD) (jE ZD) .none kV56 dc56 pm56 an56 cd56 ct56),sl56⟩)
  (c56:W.codeIn K cd56 "_law_numbers"=true)
  (k56:W.keepIn K (.ref f56)=true)
  (a57:W.nsIn K mainGlobals "_law_reach_is"=some (some (.ref f57)))
  (l57:K.lookup f57=some ⟨oc57,od57,.func (W.fnOf "_law_reach_is" "_law_reach_is" (jS ZF) (jQ ZF) (jE ZF) .none kV57 dc57 pm57 an57 cd57 ct57),sl57⟩)
  (c57:W.codeIn K cd57 "_law_reach_is"=true)
  (k57:W.keepIn K (.ref f57)=true)
  (a58:W.nsIn K mainGlobals "_law_lock_is"=some (some (.ref f58)))
  (l58:K.lookup f58=some ⟨oc58,od58,.func (W.fnOf "_law_lock_is" "_law_lock_is" (jS Q9) (jQ Q9) (jE Q9) .none kV58 dc58 pm58 an58 cd58 ct58),sl58⟩)
  (c58:W.codeIn K cd58 "_law_lock_is"=true)
  (k58:W.keepIn K (.ref f58)=true)
  (a59:W.nsIn K mainGlobals "_law_night_is"=some (some (.ref f59)))
  (l59:K.lookup f59=some ⟨oc59,od59,.func (W.fnOf "_law_night_is" "_law_night_is" (jS ZC) (jQ ZC) (jE ZC) .none kV59 dc59 pm59 an59 cd59 ct59),sl59⟩)
  (c59:W.codeIn K cd59 "_law_night_is"=true)
  (k59:W.keepIn K (.ref f59)=true)
  (a60:W.nsIn K mainGlobals "_law_canal_is"=some (some (.ref f60)))
  (l60:K.lookup f60=some ⟨oc60,od60,.func (W.fnOf "_law_canal_is" "_law_canal_is" (jS Q5) (jQ Q5) (jE Q5) .none kV60 dc60 pm60 an60 cd60 ct60),sl60⟩)
  (c60:W.codeIn K cd60 "_law_canal_is"=true)
  (k60:W.keepIn K (.ref f60)=true)
  (a61:W.nsIn K mainGlobals "_law_row"=some (some (.ref f61)))
  (l61:K.lookup f61=some ⟨oc61,od61,.func (W.fnOf "_law_row" "_law_row" (jS JY) (jQ JY) (jE JY) .none kV61 dc61 pm61 an61 cd61 ct61),sl61⟩)
  (c61:W.codeIn K cd61 "_law_row"=true)
  (k61:W.keepIn K (.ref f61)=true)
  (a62:W.nsIn K mainGlobals "_law_begins"=some (some (.ref f62)))
  (l62:K.lookup f62=some ⟨oc62,od62,.func (W.fnOf "_law_begins" "_law_begins" (jS zM) (jQ zM) (jE zM) .none kV62 dc62 pm62 an62 cd62 ct62),sl62⟩)
  (c62:W.codeIn K cd62 "_law_begins"=true)
  (k62:W.keepIn K (.ref f62)=true)
  (a63:W.nsIn K mainGlobals "law"=some (some (.ref f63)))
  (l63:K.lookup f63=some ⟨oc63,od63,.func (W.fnOf "law" "law" (jS zB) (jQ zB) (jE zB) .none kV63 dc63 pm63 an63 cd63 ct63),sl63⟩)
  (c63:W.codeIn K cd63 "law"=true)
  (k63:W.keepIn K (.ref f63)=true)
  (z_list:W.nsIn K mainGlobals "list"=some none)
  (z_tuple:W.nsIn K mainGlobals "tuple"=some none)
  (z_max:W.nsIn K mainGlobals "max"=some none)
  (z_range:W.nsIn K mainGlobals "range"=some none)
  (z_len:W.nsIn K mainGlobals "len"=some none)
  (z_str:W.nsIn K mainGlobals "str"=some none)
  (z_zip:W.nsIn K mainGlobals "zip"=some none)
  (z_enumerate:W.nsIn K mainGlobals "enumerate"=some none)
  (z_all:W.nsIn K mainGlobals "all"=some none)
  (z_int:W.nsIn K mainGlobals "int"=some none)
  (z_set:W.nsIn K mainGlobals "set"=some none)
  (z_isinstance:W.nsIn K mainGlobals "isinstance"=some none)
  (z_bool:W.nsIn K mainGlobals "bool"=some none)
  (z_min:W.nsIn K mainGlobals "min"=some none)
  (pg_P:W.plainGet K cP Str.empty=true)
  (hdd_P:W.hasDictIn K cP=true)
  (po_P:W.plainOver K cP=true)
  (sa_P:W.findIn K (.ref cP) "__setattr__"=some (some (.builtin "object.__setattr__")))
  (mk_P:W.makesIn K cP=true)
  (kc_P:W.keepIn K (.ref cP)=true)
  (n_name_P:W.findIn K (.ref cP) "name"=some none)
  (n_high_P:W.findIn K (.ref cP) "high"=some none)
  (n_low_P:W.findIn K (.ref cP) "low"=some none)
  (n_room_P:W.findIn K (.ref cP) "room"=some none)
  (pg_B:W.plainGet K cB Str.empty=true)
  (hdd_B:W.hasDictIn K cB=true)
  (po_B:W.plainOver K cB=true)
  (sa_B:W.findIn K (.ref cB) "__setattr__"=some (some (.builtin "object.__setattr__")))
  (mk_B:W.makesIn K cB=true)
  (kc_B:W.keepIn K (.ref cB)=true)
  (n_name_B:W.findIn K (.ref cB) "name"=some none)
  (n_high_B:W.findIn K (.ref cB) "high"=some none)
  (n_low_B:W.findIn K (.ref cB) "low"=some none)
  (n_room_B:W.findIn K (.ref cB) "room"=some none)
  (n_side_B:W.findIn K (.ref cB) "side"=some none)
  (pg_U:W.plainGet K cU Str.empty=true)
  (hdd_U:W.hasDictIn K cU=true)
  (po_U:W.plainOver K cU=true)
  (sa_U:W.findIn K (.ref cU) "__setattr__"=some (some (.builtin "object.__setattr__")))
  (mk_U:W.makesIn K cU=true)
  (kc_U:W.keepIn K (.ref cU)=true)
  (n_name_U:W.findIn K (.ref cU) "name"=some none)
  (n_high_U:W.findIn K (.ref cU) "high"=some none)
  (n_low_U:W.findIn K (.ref cU) "low"=some none)
  (n_room_U:W.findIn K (.ref cU) "room"=some none)
  (n_lift_U:W.findIn K (.ref cU) "lift"=some none)
  (g1:W.specialIn K (.ref cP) "__getattribute__"=some (some (.builtin "type.__getattribute__")))
  (g2:W.readsIn K cP (.type "type")=true)
  (pg_R:W.plainGet K cR Str.empty=true)
  (hdd_R:W.hasDictIn K cR=true)
  (po_R:W.plainOver K cR=true)
  (sa_R:W.findIn K (.ref cR) "__setattr__"=some (some (.builtin "object.__setattr__")))
  (mk_R:W.makesIn K cR=true)
  (kc_R:W.keepIn K (.ref cR)=true)
  (nR_name:W.findIn K (.ref cR) "name"=some none)
  (nR_least:W.findIn K (.ref cR) "least"=some none)
  (nR_crest:W.findIn K (.ref cR) "crest"=some none)
  (nR_berths:W.findIn K (.ref cR) "berths"=some none)
  (nR_water:W.findIn K (.ref cR) "water"=some none)
  (nR_target:W.findIn K (.ref cR) "target"=some none)
  (pg_N:W.plainGet K cN Str.empty=true)
  (hdd_N:W.hasDictIn K cN=true)
  (po_N:W.plainOver K cN=true)
  (sa_N:W.findIn K (.ref cN) "__setattr__"=some (some (.builtin "object.__setattr__")))
  (mk_N:W.makesIn K cN=true)
  (kc_N:W.keepIn K (.ref cN)=true)
  (nN_reaches:W.findIn K (.ref cN) "reaches"=some none)
  (nN_locks:W.findIn K (.ref cN) "locks"=some none)
  (nN_nights:W.findIn K (.ref cN) "nights"=some none)
  (ty2:W.specialIn K (.builtin "object.__class__") "__get__"=some (some (.builtin "getset_descriptor.__get__")))
  (ty3:W.takesIn K (.builtin "object.__class__")=some true)
  (ty1_R:W.findIn K (.ref cR) "__class__"=some (some (.builtin "object.__class__")))
  (ty4_R:W.mroIn K cR (.type "object")=some true)
  (ty1_N:W.findIn K (.ref cN) "__class__"=some (some (.builtin "object.__class__")))
  (ty4_N:W.mroIn K cN (.type "object")=some true)
  (ty1_P:W.findIn K (.ref cP) "__class__"=some (some (.builtin "object.__class__")))
  (ty4_P:W.mroIn K cP (.type "object")=some true)
  (ty1_B:W.findIn K (.ref cB) "__class__"=some (some (.builtin "object.__class__")))
  (ty4_B:W.mroIn K cB (.type "object")=some true)
  (ty1_U:W.findIn K (.ref cU) "__class__"=some (some (.builtin "object.__class__")))
  (ty4_U:W.mroIn K cU (.type "object")=some true)
  (kt_R:W.kitOne K (.ref cR) (.ref cR)=some true)
  (kt_N:W.kitOne K (.ref cN) (.ref cN)=some true)
  (kt_PP:W.kitOne K (.ref cP) (.ref cP)=some true)
  (kt_PB:W.kitOne K (.ref cP) (.ref cB)=some false)
  (kt_PU:W.kitOne K (.ref cP) (.ref cU)=some false)
  (kt_BP:W.kitOne K (.ref cB) (.ref cP)=some true)
  (kt_BB:W.kitOne K (.ref cB) (.ref cB)=some true)
  (kt_BU:W.kitOne K (.ref cB) (.ref cU)=some false)
  (kt_UP:W.kitOne K (.ref cU) (.ref cP)=some true)
  (kt_UB:W.kitOne K (.ref cU) (.ref cB)=some false)
  (kt_UU:W.kitOne K (.ref cU) (.ref cU)=some true)
  (gSEA:W.nsIn K mainGlobals "SEA"=some (some (.int (-1) tkS)))
  (gLETTERS:W.nsIn K mainGlobals "LETTERS"=some (some (.str lettersS jX)))
  (gFIGURES:W.nsIn K mainGlobals "FIGURES"=some (some (.str z8 jW)))
  (gMOST_SIGNS:W.nsIn K mainGlobals "MOST_SIGNS"=some (some (.int 12 j4)))
  (gMOST_REACHES:W.nsIn K mainGlobals "MOST_REACHES"=some (some (.int 8 j3)))
  (gMOST_LOCKS:W.nsIn K mainGlobals "MOST_LOCKS"=some (some (.int 8 jZ)))
  (gMOST_NIGHTS:W.nsIn K mainGlobals "MOST_NIGHTS"=some (some (.int 6 j0)))
  (gMOST_BERTHS:W.nsIn K mainGlobals "MOST_BERTHS"=some (some (.int 9 jY))) :
  ∃fd:FuncData,(∀(s:Shared) (v:Value),BindsTo s fd ⟨[v],[]⟩ [("script",v)])∧∀base:Heap,K.In base→base.Ns mainGlobals mg→FnOk l.prog w K mg base jP 8 fa fd ["script"] (fI K):=by
 have e:=hfa.symm.trans (W.mg_of X G a63)
 cases e
 have F0:=j8 (st:=QY) l0 c0 k0
 have b0:=F0.binds (ps:=["self","name","high","low","room"]) fun _ _ _ _ _ _ us hl=>match us,hl with|[_,_,_,_,_],_=>rfl
 have F1:=j8 (st:=QS) l1 c1 k1
 have b1:=F1.binds (ps:=["self","name","high","low","room","side"]) fun _ _ _ _ _ _ us hl=>match us,hl with|[_,_,_,_,_,_],_=>rfl
 have F2:=j8 (st:=Q1) l2 c2 k2
 have b2:=F2.binds (ps:=["self","name","high","low","room","lift"]) fun _ _ _ _ _ _ us hl=>match us,hl with|[_,_,_,_,_,_],_=>rfl
 have F3:=j8 (st:=Q4) l3 c3 k3
 have b3:=F3.binds (ps:=["self","name","least","crest","berths","water","target"]) fun _ _ _ _ _ _ us hl=>match us,hl with|[_,_,_,_,_,_,_],_=>rfl
 have F4:=j8 (st:=ZR) l4 c4 k4
 have b4:=F4.binds (ps:=["waters","pours"]) fun _ _ _ _ _ _ us hl=>match us,hl with|[_,_],_=>rfl
 have F5:=j8 (st:=ZP) l5 c5 k5
 have b5:=F5.binds (ps:=["weirs","waters","at"]) fun _ _ _ _ _ _ us hl=>match us,hl with|[_,_,_],_=>rfl
 have F6:=j8 (st:=ZJ) l6 c6 k6
 have b6:=F6.binds (ps:=["weirs"]) fun _ _ _ _ _ _ us hl=>match us,hl with|[_],_=>rfl
 have F7:=j8 (st:=ZY) l7 c7 k7
 have b7:=F7.binds (ps:=["weirs","waters"]) fun _ _ _ _ _ _ us hl=>match us,hl with|[_,_],_=>rfl
 have F8:=j8 (st:=J8) l8 c8 k8
 have b8:=F8.binds (ps:=["weirs","waters"]) fun _ _ _ _ _ _ us hl=>match us,hl with|[_,_],_=>rfl
 have F9:=j8 (st:=ZX) l9 c9 k9
 have b9:=F9.binds (ps:=["weirs","waters"]) fun _ _ _ _ _ _ us hl=>match us,hl with|[_,_],_=>rfl
 have F10:=j8 (st:=Q0) l10 c10 k10
 have b10:=F10.binds (ps:=["self"]) fun _ _ _ _ _ _ us hl=>match us,hl with|[_],_=>rfl
 have F11:=j8 (st:=QU) l11 c11 k11
 have b11:=F11.binds (ps:=["self"]) fun _ _ _ _ _ _ us hl=>match us,hl with|[_],_=>rfl
 have F12:=j8 (st:=Q3) l12 c12 k12
 have b12:=F12.binds (ps:=["self"]) fun _ _ _ _ _ _ us hl=>match us,hl with|[_],_=>rfl
 have F13:=j8 (st:=QZ) l13 c13 k13
 have b13:=F13.binds (ps:=["self"]) fun _ _ _ _ _ _ us hl=>match us,hl with|[_],_=>rfl
 have F14:=j8 (st:=QT) l14 c14 k14
 have b14:=F14.binds (ps:=["self"]) fun _ _ _ _ _ _ us hl=>match us,hl with|[_],_=>rfl
 have F15:=j8 (st:=Q2) l15 c15 k15
 have b15:=F15.binds (ps:=["self"]) fun _ _ _ _ _ _ us hl=>match us,hl with|[_],_=>rfl
 have F16:=GR (st:=JT) (ds:=[.none]) (n:=dn0) l16 c16 k16 lT16 (by first|exact dT16|rfl)
 have b16:Binds K _ ["self","reaches","locks","nights"] []:=F16.binds [] 4 rfl fun _ _ _ _ _ _ _ us hl=>match us,hl with|[_,_,_,_],_=>⟨_,rfl,rfl⟩
 have b16_1:Binds K _ ["self","reaches","locks","nights"] [.none]:=F16.binds [.none] 3 rfl fun _ _ _ _ _ _ _ us hl=>match us,hl with|[_,_,_],_=>⟨_,rfl,rfl⟩
 have F17:=j8 (st:=QW) l17 c17 k17
 have b17:=F17.binds (ps:=["self"]) fun _ _ _ _ _ _ us hl=>match us,hl with|[_],_=>rfl
 have F18:=j8 (st:=QX) l18 c18 k18
 have b18:=F18.binds (ps:=["self"]) fun _ _ _ _ _ _ us hl=>match us,hl with|[_],_=>rfl
 have F19:=j8 (st:=QV) l19 c19 k19
 have b19:=F19.binds (ps:=["self"]) fun _ _ _ _ _ _ us hl=>match us,hl with|[_],_=>rfl
 have F20:=j8 (st:=JV) l20 c20 k20
 have b20:=F20.binds (ps:=["self"]) fun _ _ _ _ _ _ us hl=>match us,hl with|[_],_=>rfl
 have F21:=j8 (st:=JU) l21 c21 k21
 have b21:=F21.binds (ps:=["self"]) fun _ _ _ _ _ _ us hl=>match us,hl with|[_],_=>rfl
 have F22:=j8 (st:=J9) l22 c22 k22
 have b22:=F22.binds (ps:=["rows"]) fun _ _ _ _ _ _ us hl=>match us,hl with|[_],_=>rfl
 have F23:=j8 (st:=J4) l23 c23 k23
 have b23:=F23.binds (ps:=["canal","reach"]) fun _ _ _ _ _ _ us hl=>match us,hl with|[_,_],_=>rfl
 have F24:=j8 (st:=ZM) l24 c24 k24
 have b24:=F24.binds (ps:=["canal","lock"]) fun _ _ _ _ _ _ us hl=>match us,hl with|[_,_],_=>rfl
 have F25:=j8 (st:=ZN) l25 c25 k25
 have b25:=F25.binds (ps:=["canal","night"]) fun _ _ _ _ _ _ us hl=>match us,hl with|[_,_],_=>rfl
 have F26:=j8 (st:=zO) l26 c26 k26
 have b26:=F26.binds (ps:=["canal"]) fun _ _ _ _ _ _ us hl=>match us,hl with|[_],_=>rfl
 have F27:=j8 (st:=ZQ) l27 c27 k27
 have b27:=F27.binds (ps:=["name","things"]) fun _ _ _ _ _ _ us hl=>match us,hl with|[_,_],_=>rfl
 have F28:=j8 (st:=QA) l28 c28 k28
 have b28:=F28.binds (ps:=["word","signs"]) fun _ _ _ _ _ _ us hl=>match us,hl with|[_,_],_=>rfl
 have F29:=j8 (st:=ZH) l29 c29 k29
 have b29:=F29.binds (ps:=["word"]) fun _ _ _ _ _ _ us hl=>match us,hl with|[_],_=>rfl
 have F30:=j8 (st:=ZI) l30 c30 k30
 have b30:=F30.binds (ps:=["word"]) fun _ _ _ _ _ _ us hl=>match us,hl with|[_],_=>rfl
 have F31:=j8 (st:=ZO) l31 c31 k31
 have b31:=F31.binds (ps:=["word"]) fun _ _ _ _ _ _ us hl=>match us,hl with|[_],_=>rfl
 have F32:=j8 (st:=J3) l32 c32 k32
 have b32:=F32.binds (ps:=["words"]) fun _ _ _ _ _ _ us hl=>match us,hl with|[_],_=>rfl
 have F33:=j8 (st:=J5) l33 c33 k33
 have b33:=F33.binds (ps:=["words"]) fun _ _ _ _ _ _ us hl=>match us,hl with|[_],_=>rfl
 have F34:=j8 (st:=J6) l34 c34 k34
 have b34:=F34.binds (ps:=["name","things"]) fun _ _ _ _ _ _ us hl=>match us,hl with|[_,_],_=>rfl
 have F35:=j8 (st:=ZV) l35 c35 k35
 have b35:=F35.binds (ps:=["reach"]) fun _ _ _ _ _ _ us hl=>match us,hl with|[_],_=>rfl
 have F36:=j8 (st:=ZU) l36 c36 k36
 have b36:=F36.binds (ps:=["lock"]) fun _ _ _ _ _ _ us hl=>match us,hl with|[_],_=>rfl
 have F37:=j8 (st:=ZW) l37 c37 k37
 have b37:=F37.binds (ps:=["things","most"]) fun _ _ _ _ _ _ us hl=>match us,hl with|[_,_],_=>rfl
 have F38:=j8 (st:=ZZ) l38 c38 k38
 have b38:=F38.binds (ps:=["night","many"]) fun _ _ _ _ _ _ us hl=>match us,hl with|[_,_],_=>rfl
 have F39:=j8 (st:=ZK) l39 c39 k39
 have b39:=F39.binds (ps:=["words","high","low","numbers"]) fun _ _ _ _ _ _ us hl=>match us,hl with|[_,_,_,_],_=>rfl
 have F40:=j8 (st:=ZS) l40 c40 k40
 have b40:=F40.binds (ps:=["words","reaches"]) fun _ _ _ _ _ _ us hl=>match us,hl with|[_,_],_=>rfl
 have F41:=j8 (st:=ZL) l41 c41 k41
 have b41:=F41.binds (ps:=["words","reaches","locks"]) fun _ _ _ _ _ _ us hl=>match us,hl with|[_,_,_],_=>rfl
 have F42:=j8 (st:=J0) l42 c42 k42
 have b42:=F42.binds (ps:=["words","reaches","nights"]) fun _ _ _ _ _ _ us hl=>match us,hl with|[_,_,_],_=>rfl
 have F43:=j8 (st:=ZT) l43 c43 k43
 have b43:=F43.binds (ps:=["words","reaches","locks","nights"]) fun _ _ _ _ _ _ us hl=>match us,hl with|[_,_,_,_],_=>rfl
 have F44:=j8 (st:=J7) l44 c44 k44
 have b44:=F44.binds (ps:=["text"]) fun _ _ _ _ _ _ us hl=>match us,hl with|[_],_=>rfl
 have F45:=j8 (st:=JZ) l45 c45 k45
 have b45:=F45.binds (ps:=["text"]) fun _ _ _ _ _ _ us hl=>match us,hl with|[_],_=>rfl
 have F46:=j8 (st:=Q6) l46 c46 k46
 have b46:=F46.binds (ps:=["script","k"]) fun _ _ _ _ _ _ us hl=>match us,hl with|[_,_],_=>rfl
 have F47:=j8 (st:=ZG) l47 c47 k47
 have b47:=F47.binds (ps:=["found"]) fun _ _ _ _ _ _ us hl=>match us,hl with|[_],_=>rfl
 have F48:=j8 (st:=ZA) l48 c48 k48
 have b48:=F48.binds (ps:=["cell","many"]) fun _ _ _ _ _ _ us hl=>match us,hl with|[_,_],_=>rfl
 have F49:=j8 (st:=JX) l49 c49 k49
 have b49:=F49.binds (ps:=["cell"]) fun _ _ _ _ _ _ us hl=>match us,hl with|[_],_=>rfl
 have F50:=j8 (st:=Q7) l50 c50 k50
 have b50:=F50.binds (ps:=["cell","names"]) fun _ _ _ _ _ _ us hl=>match us,hl with|[_,_],_=>rfl
 have F51:=j8 (st:=ZE) l51 c51 k51
 have b51:=F51.binds (ps:=["name","a","b","c","many"]) fun _ _ _ _ _ _ us hl=>match us,hl with|[_,_,_,_,_],_=>rfl
 have F52:=j8 (st:=Q8) l52 c52 k52
 have b52:=F52.binds (ps:=["name","a","b","c","many"]) fun _ _ _ _ _ _ us hl=>match us,hl with|[_,_,_,_,_],_=>rfl
 have F53:=j8 (st:=ZB) l53 c53 k53
 have b53:=F53.binds (ps:=["a","b","c","many"]) fun _ _ _ _ _ _ us hl=>match us,hl with|[_,_,_,_],_=>rfl
 have F54:=j8 (st:=JW) l54 c54 k54
 have b54:=F54.binds (ps:=["script","names","gates"]) fun _ _ _ _ _ _ us hl=>match us,hl with|[_,_,_],_=>rfl
 have F55:=j8 (st:=zN) l55 c55 k55
 have b55:=F55.binds (ps:=["plan"]) fun _ _ _ _ _ _ us hl=>match us,hl with|[_],_=>rfl
 have F56:=j8 (st:=ZD) l56 c56 k56
 have b56:=F56.binds (ps:=["found","due"]) fun _ _ _ _ _ _ us hl=>match us,hl with|[_,_],_=>rfl
 have F57:=j8 (st:=ZF) l57 c57 k57
 have b57:=F57.binds (ps:=["reach","due"]) fun _ _ _ _ _ _ us hl=>match us,hl with|[_,_],_=>rfl
 have F58:=j8 (st:=Q9) l58 c58 k58
 have b58:=F58.binds (ps:=["lock","due"]) fun _ _ _ _ _ _ us hl=>match us,hl with|[_,_],_=>rfl
 have F59:=j8 (st:=ZC) l59 c59 k59
 have b59:=F59.binds (ps:=["night","due"]) fun _ _ _ _ _ _ us hl=>match us,hl with|[_,_],_=>rfl
 have F60:=j8 (st:=Q5) l60 c60 k60
 have b60:=F60.binds (ps:=["canal","due"]) fun _ _ _ _ _ _ us hl=>match us,hl with|[_,_],_=>rfl
 have F61:=j8 (st:=JY) l61 c61 k61
 have b61:=F61.binds (ps:=["one","names"]) fun _ _ _ _ _ _ us hl=>match us,hl with|[_,_],_=>rfl
 have F62:=j8 (st:=zM) l62 c62 k62
 have b62:=F62.binds (ps:=["rows","due"]) fun _ _ _ _ _ _ us hl=>match us,hl with|[_,_],_=>rfl
 have F63:=j8 (st:=zB) l63 c63 k63
 have b63:=F63.binds (ps:=["script"]) fun _ _ _ _ _ _ us hl=>match us,hl with|[_],_=>rfl
 have T:Txt K mg cP cB cU cR cN tkS jX jW j4 j3 jZ j0 jY:={z_list:=W.mg_none_of X G z_list,z_tuple:=W.mg_none_of X G z_tuple,z_max:=W.mg_none_of X G z_max,z_range:=W.mg_none_of X G z_range,z_len:=W.mg_none_of X G z_len,z_str:=W.mg_none_of X G z_str,z_zip:=W.mg_none_of X G z_zip,z_enumerate:=W.mg_none_of X G z_enumerate,z_all:=W.mg_none_of X G z_all,z_int:=W.mg_none_of X G z_int,z_set:=W.mg_none_of X G z_set,z_isinstance:=W.mg_none_of X G z_isinstance,z_bool:=W.mg_none_of X G z_bool,z_min:=W.mg_none_of X G z_min,cl:=fun kd=>match kd with|.plain=>⟨pg_P,hdd_P,po_P,sa_P⟩|.basin=>⟨pg_B,hdd_B,po_B,sa_B⟩|.pump=>⟨pg_U,hdd_U,po_U,sa_U⟩,n_name:=fun kd=>match kd with|.plain=>n_name_P|.basin=>n_name_B|.pump=>n_name_U,n_high:=fun kd=>match kd with|.plain=>n_high_P|.basin=>n_high_B|.pump=>n_high_U,n_low:=fun kd=>match kd with|.plain=>n_low_P|.basin=>n_low_B|.pump=>n_low_U,n_room:=fun kd=>match kd with|.plain=>n_room_P|.basin=>n_room_B|.pump=>n_room_U,n_side:=n_side_B,n_lift:=n_lift_U,c_PlainLock:=W.mg_of X G aC_P,c_BasinLock:=W.mg_of X G aC_B,c_PumpLock:=W.mg_of X G aC_U,clR:=⟨pg_R,hdd_R,po_R,sa_R⟩,nR_name:=nR_name,nR_least:=nR_least,nR_crest:=nR_crest,nR_berths:=nR_berths,nR_water:=nR_water,nR_target:=nR_target,c_Reach:=W.mg_of X G aC_R,clN:=⟨pg_N,hdd_N,po_N,sa_N⟩,nN_reaches:=nN_reaches,nN_locks:=nN_locks,nN_nights:=nN_nights,c_Canal:=W.mg_of X G aC_N,tyR:=fun H a dx fs e=>TyOf.ins e ⟨pg_R,hdd_R,po_R,sa_R⟩ ty1_R ty2 ty3 ty4_R,tyN:=fun H a dx fs e=>TyOf.ins e ⟨pg_N,hdd_N,po_N,sa_N⟩ ty1_N ty2 ty3 ty4_N,tyL:=fun kd=>match kd with|.plain=>fun H a dx fs e=>TyOf.ins e ⟨pg_P,hdd_P,po_P,sa_P⟩ ty1_P ty2 ty3 ty4_P|.basin=>fun H a dx fs e=>TyOf.ins e ⟨pg_B,hdd_B,po_B,sa_B⟩ ty1_B ty2 ty3 ty4_B|.pump=>fun H a dx fs e=>TyOf.ins e ⟨pg_U,hdd_U,po_U,sa_U⟩ ty1_U ty2 ty3 ty4_U,ktR:=kt_R,ktN:=kt_N,ktLP:=fun kd=>match kd with|.plain=>kt_PP|.basin=>kt_BP|.pump=>kt_UP,ktLB:=fun kd=>match kd with|.plain=>kt_PB|.basin=>kt_BB|.pump=>kt_UB,ktLU:=fun kd=>match kd with|.plain=>kt_PU|.basin=>kt_BU|.pump=>kt_UU,g_SEA:=W.mg_of X G gSEA,g_LETTERS:=W.mg_of X G gLETTERS,g_FIGURES:=W.mg_of X G gFIGURES,g_MOST_SIGNS:=W.mg_of X G gMOST_SIGNS,g_MOST_REACHES:=W.mg_of X G gMOST_REACHES,g_MOST_LOCKS:=W.mg_of X G gMOST_LOCKS,g_MOST_NIGHTS:=W.mg_of X G gMOST_NIGHTS,g_MOST_BERTHS:=W.mg_of X G gMOST_BERTHS}
 refine ⟨W.fnOf "law" "law" (jS zB) (jQ zB) (jE zB) .none kV63 dc63 pm63 an63 cd63 ct63,fun s v=>.of_eq rfl,fun base _ _=>?_⟩
 have G0:=uF (P:=l.prog) (w:=w) (base:=base) F0 T
 have MK_PlainLock:MkD l.prog w K mg base 1 "PlainLock" cP ["self","name","high","low","room"] (bC (jM cP cB cU)):=⟨T.c_PlainLock,_,_,⟨mk_P,a0,i0,kc_P⟩,G0,b0⟩
 have CM0:CmD l.prog w K mg base 1 "PlainLock" cP "__init__" ["self","name","high","low","room"] (bC (jM cP cB cU)):=⟨T.c_PlainLock,_,_,⟨g1,g2,ac0,k0⟩,G0,b0⟩
 have G1:=t5 (P:=l.prog) (w:=w) (base:=base) F1 T CM0
 have MK_BasinLock:MkD l.prog w K mg base 2 "BasinLock" cB ["self","name","high","low","room","side"] (bB (jM cP cB cU) .basin):=⟨T.c_BasinLock,_,_,⟨mk_B,a1,i1,kc_B⟩,G1,b1⟩
 have G2:=uI (P:=l.prog) (w:=w) (base:=base) F2 T CM0
 have MK_PumpLock:MkD l.prog w K mg base 2 "PumpLock" cU ["self","name","high","low","room","lift"] (bB (jM cP cB cU) .pump):=⟨T.c_PumpLock,_,_,⟨mk_U,a2,i2,kc_U⟩,G2,b2⟩
 have G3:=uL (P:=l.prog) (w:=w) (base:=base) F3 T
 have MK_Reach:MkD l.prog w K mg base 1 "Reach" cR ["self","name","least","crest","berths","water","target"] (gN cR):=⟨T.c_Reach,_,_,⟨mk_R,a3,i3,kc_R⟩,G3,b3⟩
 have D4:Def l.prog w K mg base 1 "poured_all" _ [] _:=⟨_,_,[],wP F4 T,W.mg_of X G a4,k4,.nil,b4⟩
 have D5:Def l.prog w K mg base 1 "over" _ [] _:=⟨_,_,[],wN F5 T,W.mg_of X G a5,k5,.nil,b5⟩
 have D6:Def l.prog w K mg base 1 "last_first" _ [] _:=⟨_,_,[],wE F6 T,W.mg_of X G a6,k6,.nil,b6⟩
 have D7:Def l.prog w K mg base 2 "spills" _ [] _:=⟨_,_,[],xA F7 T D6 D5,W.mg_of X G a7,k7,.nil,b7⟩
 have D8:Def l.prog w K mg base 3 "spill_pours" _ [] _:=⟨_,_,[],w9 F8 T D7 D6,W.mg_of X G a8,k8,.nil,b8⟩
 have D9:Def l.prog w K mg base 4 "settled" _ [] _:=⟨_,_,[],wZ F9 T D4 D8,W.mg_of X G a9,k9,.nil,b9⟩
 have G10:=uH (P:=l.prog) (w:=w) (base:=base) F10 T
 have ME_kind_P:MeD l.prog w K mg base 1 cP "kind" ["self"] (vA (jM cP cB cU) (fun kd _=>V.str (match kd with|.plain=>"plain"|.basin=>"basin"|.pump=>"pump")) .plain):=⟨T.cl .plain,_,_,⟨a10,i10,k10⟩,G10,b10⟩
 have G11:=t7 (P:=l.prog) (w:=w) (base:=base) F11 T
 have ME_kind_B:MeD l.prog w K mg base 1 cB "kind" ["self"] (vA (jM cP cB cU) (fun kd _=>V.str (match kd with|.plain=>"plain"|.basin=>"basin"|.pump=>"pump")) .basin):=⟨T.cl .basin,_,_,⟨a11,i11,k11⟩,G11,b11⟩
 have G12:=uK (P:=l.prog) (w:=w) (base:=base) F12 T
 have ME_kind_U:MeD l.prog w K mg base 1 cU "kind" ["self"] (vA (jM cP cB cU) (fun kd _=>V.str (match kd with|.plain=>"plain"|.basin=>"basin"|.pump=>"pump")) .pump):=⟨T.cl .pump,_,_,⟨a12,i12,k12⟩,G12,b12⟩
 have MP_kind:MeK l.prog w K mg base 1 (jM cP cB cU) "kind" ["self"] (vA (jM cP cB cU) (fun kd _=>V.str (match kd with|.plain=>"plain"|.basin=>"basin"|.pump=>"pump"))):=⟨fun kd=>match kd with|.plain=>ME_kind_P|.basin=>ME_kind_B|.pump=>ME_kind_U⟩
 have G13:=uG (P:=l.prog) (w:=w) (base:=base) F13 T
 have ME_extra_P:MeD l.prog w K mg base 1 cP "extra" ["self"] (vA (jM cP cB cU) (fun kd v=>V.int (match kd with|.plain=>0|.basin=>v|.pump=>v)) .plain):=⟨T.cl .plain,_,_,⟨a13,i13,k13⟩,G13,b13⟩
 have G14:=t6 (P:=l.prog) (w:=w) (base:=base) F14 T
 have ME_extra_B:MeD l.prog w K mg base 1 cB "extra" ["self"] (vA (jM cP cB cU) (fun kd v=>V.int (match kd with|.plain=>0|.basin=>v|.pump=>v)) .basin):=⟨T.cl .basin,_,_,⟨a14,i14,k14⟩,G14,b14⟩
 have G15:=uJ (P:=l.prog) (w:=w) (base:=base) F15 T
 have ME_extra_U:MeD l.prog w K mg base 1 cU "extra" ["self"] (vA (jM cP cB cU) (fun kd v=>V.int (match kd with|.plain=>0|.basin=>v|.pump=>v)) .pump):=⟨T.cl .pump,_,_,⟨a15,i15,k15⟩,G15,b15⟩
 have MP_extra:MeK l.prog w K mg base 1 (jM cP cB cU) "extra" ["self"] (vA (jM cP cB cU) (fun kd v=>V.int (match kd with|.plain=>0|.basin=>v|.pump=>v))):=⟨fun kd=>match kd with|.plain=>ME_extra_P|.basin=>ME_extra_B|.pump=>ME_extra_U⟩
 have G16:=t9 (P:=l.prog) (w:=w) (base:=base) F16 T
 have MK_Canal:MkD l.prog w K mg base 1 "Canal" cN ["self","reaches","locks","nights"] (gO (jM cP cB cU) cR cN):=⟨T.c_Canal,_,_,⟨mk_N,a16,i16,kc_N⟩,G16,b16⟩
 have G17:=uB (P:=l.prog) (w:=w) (base:=base) F17 T
 have MN_sea:MeD l.prog w K mg base 1 cN "sea" ["self"] (zI (jM cP cB cU) cR cN yP):=⟨T.clN,_,_,⟨a17,i17,k17⟩,G17,b17⟩
 have G18:=uC (P:=l.prog) (w:=w) (base:=base) F18 T MN_sea
 have MN_sky:MeD l.prog w K mg base 2 cN "sky" ["self"] (zI (jM cP cB cU) cR cN lR):=⟨T.clN,_,_,⟨a18,i18,k18⟩,G18,b18⟩
 have G19:=uA (P:=l.prog) (w:=w) (base:=base) F19 T MN_sky
 have MN_many:MeD l.prog w K mg base 3 cN "many" ["self"] (zI (jM cP cB cU) cR cN dF):=⟨T.clN,_,_,⟨a19,i19,k19⟩,G19,b19⟩
 have G20:=uE (P:=l.prog) (w:=w) (base:=base) F20 T MN_sea
 have MN_weirs:MeD l.prog w K mg base 2 cN "weirs" ["self"] (iM (jM cP cB cU) cR cN):=⟨T.clN,_,_,⟨a20,i20,k20⟩,G20,b20⟩
 have G21:=uD (P:=l.prog) (w:=w) (base:=base) F21 T MN_many D9 MN_weirs
 have MN_start:MeD l.prog w K mg base 5 cN "start" ["self"] (iN (jM cP cB cU) cR cN):=⟨T.clN,_,_,⟨a21,i21,k21⟩,G21,b21⟩
 have D22:Def l.prog w K mg base 1 "text_of" _ [] _:=⟨_,_,[],xB F22 T,W.mg_of X G a22,k22,.nil,b22⟩
 have D23:Def l.prog w K mg base 1 "reach_row" _ [] _:=⟨_,_,[],wR F23 T,W.mg_of X G a23,k23,.nil,b23⟩
 have D24:Def l.prog w K mg base 2 "lock_row" _ [] _:=⟨_,_,[],wI F24 T MP_kind MP_extra,W.mg_of X G a24,k24,.nil,b24⟩
 have D25:Def l.prog w K mg base 1 "night_row" _ [] _:=⟨_,_,[],wK F25 T,W.mg_of X G a25,k25,.nil,b25⟩
 have D26:Def l.prog w K mg base 3 "shown" _ [] _:=⟨_,_,[],w8 F26 T D23 D24 D25 D22,W.mg_of X G a26,k26,.nil,b26⟩
 have D27:Def l.prog w K mg base 1 "place_called" _ [] _:=⟨_,_,[],wO F27 T,W.mg_of X G a27,k27,.nil,b27⟩
 have D28:Def l.prog w K mg base 1 "written_with" _ [] _:=⟨_,_,[],xD F28 T,W.mg_of X G a28,k28,.nil,b28⟩
 have D29:Def l.prog w K mg base 2 "is_name" _ [] _:=⟨_,_,[],wC F29 T D28,W.mg_of X G a29,k29,.nil,b29⟩
 have D30:Def l.prog w K mg base 2 "is_number" _ [] _:=⟨_,_,[],wD F30 T D28,W.mg_of X G a30,k30,.nil,b30⟩
 have D31:Def l.prog w K mg base 3 "number_of" _ [] _:=⟨_,_,[],wL F31 T D30,W.mg_of X G a31,k31,.nil,b31⟩
 have D32:Def l.prog w K mg base 4 "numbers_of" _ [] _:=⟨_,_,[],wM F32 T D31,W.mg_of X G a32,k32,.nil,b32⟩
 have D33:Def l.prog w K mg base 3 "refuse_no_names" _ [] _:=⟨_,_,[],wW F33 T D29,W.mg_of X G a33,k33,.nil,b33⟩
 have D34:Def l.prog w K mg base 1 "refuse_told" _ [] _:=⟨_,_,[],wX F34 T,W.mg_of X G a34,k34,.nil,b34⟩
 have D35:Def l.prog w K mg base 1 "refuse_bad_reach" _ [] _:=⟨_,_,[],wU F35 T,W.mg_of X G a35,k35,.nil,b35⟩
 have D36:Def l.prog w K mg base 2 "refuse_bad_lock" _ [] _:=⟨_,_,[],wT F36 T MP_extra MP_kind,W.mg_of X G a36,k36,.nil,b36⟩
 have D37:Def l.prog w K mg base 1 "refuse_many" _ [] _:=⟨_,_,[],wV F37 T,W.mg_of X G a37,k37,.nil,b37⟩
 have D38:Def l.prog w K mg base 1 "widened" _ [] _:=⟨_,_,[],xC F38 T,W.mg_of X G a38,k38,.nil,b38⟩
 have D39:Def l.prog w K mg base 4 "lock_made" _ [] _:=⟨_,_,[],wG F39 T MK_PlainLock MK_BasinLock MK_PumpLock,W.mg_of X G a39,k39,.nil,b39⟩
 have D40:Def l.prog w K mg base 5 "reach_read" _ [] _:=⟨_,_,[],wQ F40 T D33 D32 D34 D27 MK_Reach D35 D37,W.mg_of X G a40,k40,.nil,b40⟩
 have D41:Def l.prog w K mg base 5 "lock_read" _ [] _:=⟨_,_,[],wH F41 T D33 D32 D34 D27 D39 D36 D37,W.mg_of X G a41,k41,.nil,b41⟩
 have D42:Def l.prog w K mg base 5 "night_read" _ [] _:=⟨_,_,[],wJ F42 T D33 D32 D27 D37 D38,W.mg_of X G a42,k42,.nil,b42⟩
 have D43:Def l.prog w K mg base 6 "read_row" _ [] _:=⟨_,_,[],wS F43 T D40 D41 D42,W.mg_of X G a43,k43,.nil,b43⟩
 have D44:Def l.prog w K mg base 1 "rows_of" _ [] _:=⟨_,_,[],wY F44 T,W.mg_of X G a44,k44,.nil,b44⟩
 have D45:Def l.prog w K mg base 7 "canal_of" _ [] _:=⟨_,_,[],wB F45 T D44 D43 MK_Canal D38,W.mg_of X G a45,k45,.nil,b45⟩
 have D46:Def l.prog w K mg base 1 "_law_cell_at" _ [] _:=⟨_,_,[],uO F46 T,W.mg_of X G a46,k46,.nil,b46⟩
 have D47:Def l.prog w K mg base 1 "_law_whole" _ [] _:=⟨_,_,[],wA F47 T,W.mg_of X G a47,k47,.nil,b47⟩
 have D48:Def l.prog w K mg base 1 "_law_names" _ [] _:=⟨_,_,[],uT F48 T,W.mg_of X G a48,k48,.nil,b48⟩
 have D49:Def l.prog w K mg base 2 "_law_reach_names" _ [] _:=⟨_,_,[],u0 F49 T D48,W.mg_of X G a49,k49,.nil,b49⟩
 have D50:Def l.prog w K mg base 3 "_law_gates" _ [] _:=⟨_,_,[],uQ F50 T D49 D48,W.mg_of X G a50,k50,.nil,b50⟩
 have D51:Def l.prog w K mg base 1 "_law_reach" _ [] _:=⟨_,_,[],uY F51 T,W.mg_of X G a51,k51,.nil,b51⟩
 have D52:Def l.prog w K mg base 1 "_law_lock" _ [] _:=⟨_,_,[],uR F52 T,W.mg_of X G a52,k52,.nil,b52⟩
 have D53:Def l.prog w K mg base 1 "_law_night" _ [] _:=⟨_,_,[],uU F53 T,W.mg_of X G a53,k53,.nil,b53⟩
 have D54:Def l.prog w K mg base 2 "_law_plan" _ [] _:=⟨_,_,[],uX F54 T D46 D53 D52 D51,W.mg_of X G a54,k54,.nil,b54⟩
 have D55:Def l.prog w K mg base 1 "_law_due" _ [] _:=⟨_,_,[],uP F55 T,W.mg_of X G a55,k55,.nil,b55⟩
 have D56:Def l.prog w K mg base 2 "_law_numbers" _ [] _:=⟨_,_,[],uW F56 T D47,W.mg_of X G a56,k56,.nil,b56⟩
 have D57:Def l.prog w K mg base 3 "_law_reach_is" _ [] _:=⟨_,_,[],uZ F57 T D56,W.mg_of X G a57,k57,.nil,b57⟩
 have D58:Def l.prog w K mg base 3 "_law_lock_is" _ [] _:=⟨_,_,[],uS F58 T MP_kind D56 MP_extra,W.mg_of X G a58,k58,.nil,b58⟩
 have D59:Def l.prog w K mg base 3 "_law_night_is" _ [] _:=⟨_,_,[],uV F59 T D56,W.mg_of X G a59,k59,.nil,b59⟩
 have D60:Def l.prog w K mg base 4 "_law_canal_is" _ [] _:=⟨_,_,[],uN F60 T D57 D58 D59,W.mg_of X G a60,k60,.nil,b60⟩
 have D61:Def l.prog w K mg base 1 "_law_row" _ [] _:=⟨_,_,[],u9 F61 T,W.mg_of X G a61,k61,.nil,b61⟩
 have D62:Def l.prog w K mg base 1 "_law_begins" _ [] _:=⟨_,_,[],uM F62 T,W.mg_of X G a62,k62,.nil,b62⟩
 have G63:=wF (P:=l.prog) (w:=w) (base:=base) F63 T D49 D46 D50 D54 D55 D45 D61 D60 D26 D62 MN_start
 exact G63
theorem walk {l:W.OpenLaw} {q:Program} {loose:List Str} {XP:(Str→Option Value)→Heap→Prop} {YP:World→Heap→Prop} {d:DefRec} {K:Params→W.Frag} (hn:l.most=some 63) (hdf:d.params.defaults=[])
  (hY:∀(w:World) (h:Heap),YP w h→(K w.params).In h)
  (F:∀(w:World) (mg:Str→Option Value) (fa:Addr) (h:Heap),(K w.params).In h→h.Ns mainGlobals mg→mg d.name=some (.ref fa)→
   ∃fd:FuncData,(∀(s:Shared) (u:Value),BindsTo s fd ⟨[u],[]⟩ [("script",u)])∧∀base:Heap,(K w.params).In base→base.Ns mainGlobals mg→FnOk l.prog w (K w.params) mg base jP 8 fa fd ["script"] (fI (K w.params))) :
  W.WalkO q loose XP YP l.row.toRowW d [] (fun f vs=>PySem.call f vs) :=
 L2.walk_of (n:=63) (k:=8) (x:="script") (CX:=fun _=>jP) (sp:=fun w=>fI (K w.params)) hn (by decide) hdf ⟨rfl,by decide,by decide⟩ hY F (fun _ _ a ns hl _ hS=>⟨a,ns,rfl,hS,hl,fun _=>rfl⟩) fun _ _ _ _ _ z=>z
end My
/- These names are taken here so that the head below leaves out its twins of whole states (they are not needed,and make the compiled file larger than a hand-in may be). -/
def PySem.W.Fast.tw974182550986954318:Nat:=0
def PySem.W.Fast.tw300959343099586538:Nat:=0
def PySem.W.Fast.tw16075125499140294852:Nat:=0
def PySem.W.Fast.tw15969002308128516239:Nat:=0
def PySem.W.Fast.tw14232698502923483157:Nat:=0
def PySem.W.Fast.tw15399245161586921079:Nat:=0
def PySem.W.Fast.tw12164066013326881338:Nat:=0
def PySem.W.Fast.tw1983104720949220052:Nat:=0
def PySem.W.Fast.tw1559815545646066362:Nat:=0
def PySem.W.Fast.tw8601514803624404369:Nat:=0
def PySem.W.Fast.tw15329573945295868601:Nat:=0
def PySem.W.Fast.tw11991454195271944284:Nat:=0
def PySem.W.Fast.tw6240068825545839514:Nat:=0
def PySem.W.Fast.tw16136537611147722426:Nat:=0
def PySem.W.Fast.tw6964232937380286499:Nat:=0
def PySem.W.Fast.tw17071655137710481985:Nat:=0
def PySem.W.Fast.tw10166439220593185604:Nat:=0
def PySem.W.Fast.tw1658794480396186182:Nat:=0
def PySem.W.Fast.tw9681947327049496366:Nat:=0
def PySem.W.Fast.tw18387681438098066176:Nat:=0
def PySem.W.Fast.tw11030578347257644680:Nat:=0
def PySem.W.Fast.tw3442824514185013153:Nat:=0
def PySem.W.Fast.tw4713915798125293541:Nat:=0
def PySem.W.Fast.tw2972229297579024213:Nat:=0
def PySem.W.Fast.tw9134273455664102219:Nat:=0
def PySem.W.Fast.tw11810648499973590642:Nat:=0
def PySem.W.Fast.tw14354233744561316516:Nat:=0
def PySem.W.Fast.tw388543608047800427:Nat:=0
def PySem.W.Fast.tw5916858185731208817:Nat:=0
def PySem.W.Fast.tw16165389622808963728:Nat:=0
def PySem.W.Fast.tw18380033632472074876:Nat:=0
def PySem.W.Fast.tw12996820315737940418:Nat:=0
def PySem.W.Fast.tw12743121233549118853:Nat:=0
def PySem.W.Fast.tw6318230336461811365:Nat:=0
def PySem.W.Fast.tw10060784274539354448:Nat:=0
def PySem.W.Fast.tw15935823897362046394:Nat:=0
def PySem.W.Fast.tw15357278244088051361:Nat:=0
def PySem.W.Fast.tw742435212489717433:Nat:=0
def PySem.W.Fast.tw1823278561030092179:Nat:=0
def PySem.W.Fast.tw18162945154284597245:Nat:=0
def PySem.W.Fast.tw10635537254464789599:Nat:=0
def PySem.W.Fast.tw16489868252869870217:Nat:=0
def PySem.W.Fast.tw15804896974127285690:Nat:=0
def PySem.W.Fast.tw2663765472192154761:Nat:=0
def PySem.W.Fast.tw17624019511058220897:Nat:=0
def PySem.W.Fast.tw10612653149403567711:Nat:=0
def PySem.W.Fast.tw675424309779248707:Nat:=0
def PySem.W.Fast.tw4148597863434136063:Nat:=0
def PySem.W.Fast.tw2587243350024834960:Nat:=0
def PySem.W.Fast.tw3149649219898193169:Nat:=0
def PySem.W.Fast.tw8661359332119249306:Nat:=0
def PySem.W.Fast.tw2751951515513669728:Nat:=0
def PySem.W.Fast.tw16687949792479184995:Nat:=0
def PySem.W.Fast.tw2242519740742817825:Nat:=0
def PySem.W.Fast.tw17684620986509572153:Nat:=0
def PySem.W.Fast.tw5780242646452500981:Nat:=0
def PySem.W.Fast.tw8020253813704798178:Nat:=0
def PySem.W.Fast.tw9155138455144994045:Nat:=0
def PySem.W.Fast.tw5183204983812777341:Nat:=0
def PySem.W.Fast.tw17797687514784503877:Nat:=0
def PySem.W.Fast.tw7096555465569902690:Nat:=0
def PySem.W.Fast.tw17133451003371055154:Nat:=0
def PySem.W.Fast.tw18189877484909310254:Nat:=0
def PySem.W.Fast.tw3450501280887689091:Nat:=0
def PySem.W.Fast.tw15750123199433115193:Nat:=0
def PySem.W.Fast.tw14322646158747928468:Nat:=0
def PySem.W.Fast.tw15246261140956578760:Nat:=0
def PySem.W.Fast.tw6520889922347231907:Nat:=0
def PySem.W.Fast.tw7826164122196333583:Nat:=0
def PySem.W.Fast.tw3223277290704630983:Nat:=0
def PySem.W.Fast.tw8137515907804964847:Nat:=0
def PySem.W.Fast.tw13411178762783333041:Nat:=0
def PySem.W.Fast.tw7987653307350770535:Nat:=0
def PySem.W.Fast.tw6747912514427959496:Nat:=0
def PySem.W.Fast.tw11281094886617778610:Nat:=0
def PySem.W.Fast.tw6979648100005238077:Nat:=0
def PySem.W.Fast.tw15183168584985247926:Nat:=0
def PySem.W.Fast.tw13576991882685300096:Nat:=0
def PySem.W.Fast.tw14684853878219872547:Nat:=0
def PySem.W.Fast.tw3678745885585786909:Nat:=0
def PySem.W.Fast.tw14565550098144630728:Nat:=0
def PySem.W.Fast.tw9403657096982913003:Nat:=0
def PySem.W.Fast.tw17388068172205619703:Nat:=0
def PySem.W.Fast.tw17699722705095685868:Nat:=0
def PySem.W.Fast.tw6255995163001036073:Nat:=0
def PySem.W.Fast.tw3447514531276624361:Nat:=0
def PySem.W.Fast.tw6501294041234188053:Nat:=0
def PySem.W.Fast.tw74682298011845962:Nat:=0
def PySem.W.Fast.tw8704038799542758266:Nat:=0
def PySem.W.Fast.tw12119671979153119799:Nat:=0
def PySem.W.Fast.tw1091900723138074390:Nat:=0
def PySem.W.Fast.tw7363962098918669583:Nat:=0
def PySem.W.Fast.tw10211676112192645623:Nat:=0
def PySem.W.Fast.tw1999490646022466970:Nat:=0
def PySem.W.Fast.tw7770137130066548726:Nat:=0
def PySem.W.Fast.tw14249395462763924373:Nat:=0
def PySem.W.Fast.tw15717084517753200929:Nat:=0
def PySem.W.Fast.tw5337937385325892935:Nat:=0
def PySem.W.Fast.tw9722946833750280723:Nat:=0
def PySem.W.Fast.tw10781963208300644830:Nat:=0
def PySem.W.Fast.tw10784323926478578894:Nat:=0
def PySem.W.Fast.tw12880083401983433764:Nat:=0
def PySem.W.Fast.tw2868467876371332198:Nat:=0
def PySem.W.Fast.tw13274190836366718249:Nat:=0
def PySem.W.Fast.tw6533967576267637936:Nat:=0
def PySem.W.Fast.tw6811170592888949547:Nat:=0
def PySem.W.Fast.tw11699381991731482493:Nat:=0
def PySem.W.Fast.tw561459535216221770:Nat:=0
def PySem.W.Fast.tw18090018682860146404:Nat:=0
def PySem.W.Fast.tw13811267982664793662:Nat:=0
def PySem.W.Fast.tw6661048826579242921:Nat:=0
def PySem.W.Fast.tw1034063497486948649:Nat:=0
def PySem.W.Fast.tw12456020392349165326:Nat:=0
def PySem.W.Fast.tw9961668955564086301:Nat:=0
def PySem.W.Fast.tw16778237536273072884:Nat:=0
def PySem.W.Fast.tw11466660488006229046:Nat:=0
def PySem.W.Fast.tw1627549778963501689:Nat:=0
def PySem.W.Fast.tw6341479825676576145:Nat:=0
def PySem.W.Fast.tw581472605005528045:Nat:=0
def PySem.W.Fast.tw11574180398812923875:Nat:=0
def PySem.W.Fast.tw1280645610569998948:Nat:=0
def PySem.W.Fast.tw5701310395991293306:Nat:=0
def PySem.W.Fast.tw2934809716328856692:Nat:=0
def PySem.W.Fast.tw5694505695458390066:Nat:=0
def PySem.W.Fast.tw8589337452898042240:Nat:=0
def PySem.W.Fast.tw3259073869991676526:Nat:=0
def PySem.W.Fast.tw2954850250036444307:Nat:=0
def PySem.W.Fast.tw16117755859635648416:Nat:=0
def PySem.W.Fast.tw11315983138252227059:Nat:=0
def PySem.W.Fast.tw15320020562733140336:Nat:=0
def PySem.W.Fast.tw1099306096990452500:Nat:=0
def PySem.W.Fast.tw329374557783371700:Nat:=0
def PySem.W.Fast.tw3364085977089845505:Nat:=0
def PySem.W.Fast.tw563151652919347811:Nat:=0
def PySem.W.Fast.tw15079076315360877611:Nat:=0
def PySem.W.Fast.tw8640687094485382423:Nat:=0
def PySem.W.Fast.tw1349152274037215265:Nat:=0
def PySem.W.Fast.tw6877941425787184352:Nat:=0
def PySem.W.Fast.tw15127503350145817233:Nat:=0
def PySem.W.Fast.tw12735001862185572000:Nat:=0
def PySem.W.Fast.tw9344678578455290208:Nat:=0
def PySem.W.Fast.tw1030150205552565758:Nat:=0
def PySem.W.Fast.tw124111504746669152:Nat:=0
def PySem.W.Fast.tw6470700703576903096:Nat:=0
def PySem.W.Fast.tw10907050522743246310:Nat:=0
def PySem.W.Fast.tw17029119495478829088:Nat:=0
def PySem.W.Fast.tw8979802054700143588:Nat:=0
def PySem.W.Fast.tw7482492483152270954:Nat:=0
def PySem.W.Fast.tw5736480261842569176:Nat:=0
def PySem.W.Fast.tw982809794794466353:Nat:=0
def PySem.W.Fast.tw4957627716142263957:Nat:=0
def PySem.W.Fast.tw13347087510087344005:Nat:=0
def PySem.W.Fast.tw6325784426636156443:Nat:=0
def PySem.W.Fast.tw7556361574917460248:Nat:=0
def PySem.W.Fast.tw8256164883681599026:Nat:=0
def PySem.W.Fast.tw11161913476139475312:Nat:=0
def PySem.W.Fast.tw3816769656506391829:Nat:=0
def PySem.W.Fast.tw2793789850814668405:Nat:=0
def PySem.W.Fast.tw6143649342352272746:Nat:=0
def PySem.W.Fast.tw13498376039064259773:Nat:=0
def PySem.W.Fast.tw9790993619765472599:Nat:=0
open PySem PySem.W PyProof.Rows
set_option maxRecDepth 100000 in
set_option maxHeartbeats 0 in
theorem PySem.Challenge.cw_lockhouse_k39_whole_shown_and_read_holds : PySem.Challenge.rw_lockhouse_k39_whole_shown_and_read.Holds := by
 w_on;o_law;k_head;(case hw=>w_witness2)
 k_fill
 refine My.walk (l:=PySem.Challenge.rw_lockhouse_k39_whole_shown_and_read) rfl rfl (fun w h Y=>PySem.W.kIn_of Y) ?F
 case F =>
  intro w mg fa h KX G hmg
  refine' My.all_mk KX G hmg ?aC_P ?aC_B ?aC_U ?aC_R ?aC_N ?a0 ?i0 ?ac0 ?l0 ?c0 ?k0 ?a1 ?i1 ?l1 ?c1 ?k1 ?a2 ?i2 ?l2 ?c2 ?k2 ?a3 ?i3 ?l3 ?c3 ?k3 ?a4 ?l4 ?c4 ?k4 ?a5 ?l5 ?c5 ?k5 ?a6 ?l6 ?c6 ?k6 ?a7 ?l7 ?c7 ?k7 ?a8 ?l8 ?c8 ?k8 ?a9 ?l9 ?c9 ?k9 ?a10 ?i10 ?l10 ?c10 ?k10 ?a11 ?i11 ?l11 ?c11 ?k11 ?a12 ?i12 ?l12 ?c12 ?k12 ?a13 ?i13 ?l13 ?c13 ?k13 ?a14 ?i14 ?l14 ?c14 ?k14 ?a15 ?i15 ?l15 ?c15 ?k15 ?a16 ?i16 ?l16 ?c16 ?k16 ?lT16 ?dT16 ?a17 ?i17 ?l17 ?c17 ?k17 ?a18 ?i18 ?l18 ?c18 ?k18 ?a19 ?i19 ?l19 ?c19 ?k19 ?a20 ?i20 ?l20 ?c20 ?k20 ?a21 ?i21 ?l21 ?c21 ?k21 ?a22 ?l22 ?c22 ?k22 ?a23 ?l23 ?c23 ?k23 ?a24 ?l24 ?c24 ?k24 ?a25 ?l25 ?c25 ?k25 ?a26 ?l26 ?c26 ?k26 ?a27 ?l27 ?c27 ?k27 ?a28 ?l28 ?c28 ?k28 ?a29 ?l29 ?c29 ?k29 ?a30 ?l30 ?c30 ?k30 ?a31 ?l31 ?c31 ?k31 ?a32 ?l32 ?c32 ?k32 ?a33 ?l33 ?c33 ?k33 ?a34 ?l34 ?c34 ?k34 ?a35 ?l35 ?c35 ?k35 ?a36 ?l36 ?c36 ?k36 ?a37 ?l37 ?c37 ?k37 ?a38 ?l38 ?c38 ?k38 ?a39 ?l39 ?c39 ?k39 ?a40 ?l40 ?c40 ?k40 ?a41 ?l41 ?c41 ?k41 ?a42 ?l42 ?c42 ?k42 ?a43 ?l43 ?c43 ?k43 ?a44 ?l44 ?c44 ?k44 ?a45 ?l45 ?c45 ?k45 ?a46 ?l46 ?c46 ?k46 ?a47 ?l47 ?c47 ?k47 ?a48 ?l48 ?c48 ?k48 ?a49 ?l49 ?c49 ?k49 ?a50 ?l50 ?c50 ?k50 ?a51 ?l51 ?c51 ?k51 ?a52 ?l52 ?c52 ?k52 ?a53 ?l53 ?c53 ?k53 ?a54 ?l54 ?c54 ?k54 ?a55 ?l55 ?c55 ?k55 ?a56 ?l56 ?c56 ?k56 ?a57 ?l57 ?c57 ?k57 ?a58 ?l58 ?c58 ?k58 ?a59 ?l59 ?c59 ?k59 ?a60 ?l60 ?c60 ?k60 ?a61 ?l61 ?c61 ?k61 ?a62 ?l62 ?c62 ?k62 ?a63 ?l63 ?c63 ?k63 ?z_list ?z_tuple ?z_max ?z_range ?z_len ?z_str ?z_zip ?z_enumerate ?z_all ?z_int ?z_set ?z_isinstance ?z_bool ?z_min ?pg_P ?hdd_P ?po_P ?sa_P ?mk_P ?kc_P ?n_name_P ?n_high_P ?n_low_P ?n_room_P ?pg_B ?hdd_B ?po_B ?sa_B ?mk_B ?kc_B ?n_name_B ?n_high_B ?n_low_B ?n_room_B ?n_side_B ?pg_U ?hdd_U ?po_U ?sa_U ?mk_U ?kc_U ?n_name_U ?n_high_U ?n_low_U ?n_room_U ?n_lift_U ?g1 ?g2 ?pg_R ?hdd_R ?po_R ?sa_R ?mk_R ?kc_R ?nR_name ?nR_least ?nR_crest ?nR_berths ?nR_water ?nR_target ?pg_N ?hdd_N ?po_N ?sa_N ?mk_N ?kc_N ?nN_reaches ?nN_locks ?nN_nights ?ty2 ?ty3 ?ty1_R ?ty4_R ?ty1_N ?ty4_N ?ty1_P ?ty4_P ?ty1_B ?ty4_B ?ty1_U ?ty4_U ?kt_R ?kt_N ?kt_PP ?kt_PB ?kt_PU ?kt_BP ?kt_BB ?kt_BU ?kt_UP ?kt_UB ?kt_UU ?gSEA ?gLETTERS ?gFIGURES ?gMOST_SIGNS ?gMOST_REACHES ?gMOST_LOCKS ?gMOST_NIGHTS ?gMOST_BERTHS
  (case aC_P=>first|k_is|rfl)
  (case aC_B=>first|k_is|rfl)
  (case aC_U=>first|k_is|rfl)
  (case aC_R=>first|k_is|rfl)
  (case aC_N=>first|k_is|rfl)
  (case a0=>first|k_is|rfl)
  (case i0=>first|k_is|rfl)
  (case ac0=>first|k_is|rfl)
  (case l0=>first|k_is|rfl)
  (case c0=>first|k_is|rfl)
  (case k0=>first|k_is|rfl)
  (case a1=>first|k_is|rfl)
  (case i1=>first|k_is|rfl)
  (case l1=>first|k_is|rfl)
  (case c1=>first|k_is|rfl)
  (case k1=>first|k_is|rfl)
  (case a2=>first|k_is|rfl)
  (case i2=>first|k_is|rfl)
  (case l2=>first|k_is|rfl)
  (case c2=>first|k_is|rfl)
  (case k2=>first|k_is|rfl)
  (case a3=>first|k_is|rfl)
  (case i3=>first|k_is|rfl)
  (case l3=>first|k_is|rfl)
  (case c3=>first|k_is|rfl)
  (case k3=>first|k_is|rfl)
  (case a4=>first|k_is|rfl)
  (case l4=>first|k_is|rfl)
  (case c4=>first|k_is|rfl)
  (case k4=>first|k_is|rfl)
  (case a5=>first|k_is|rfl)
  (case l5=>first|k_is|rfl)
  (case c5=>first|k_is|rfl)
  (case k5=>first|k_is|rfl)
  (case a6=>first|k_is|rfl)
  (case l6=>first|k_is|rfl)
  (case c6=>first|k_is|rfl)
  (case k6=>first|k_is|rfl)
  (case a7=>first|k_is|rfl)
  (case l7=>first|k_is|rfl)
  (case c7=>first|k_is|rfl)
  (case k7=>first|k_is|rfl)
  (case a8=>first|k_is|rfl)
  (case l8=>first|k_is|rfl)
  (case c8=>first|k_is|rfl)
  (case k8=>first|k_is|rfl)
  (case a9=>first|k_is|rfl)
  (case l9=>first|k_is|rfl)
  (case c9=>first|k_is|rfl)
  (case k9=>first|k_is|rfl)
  (case a10=>first|k_is|rfl)
  (case i10=>first|k_is|rfl)
  (case l10=>first|k_is|rfl)
  (case c10=>first|k_is|rfl)
  (case k10=>first|k_is|rfl)
  (case a11=>first|k_is|rfl)
  (case i11=>first|k_is|rfl)
  (case l11=>first|k_is|rfl)
  (case c11=>first|k_is|rfl)
  (case k11=>first|k_is|rfl)
  (case a12=>first|k_is|rfl)
  (case i12=>first|k_is|rfl)
  (case l12=>first|k_is|rfl)
  (case c12=>first|k_is|rfl)
  (case k12=>first|k_is|rfl)
  (case a13=>first|k_is|rfl)
  (case i13=>first|k_is|rfl)
  (case l13=>first|k_is|rfl)
  (case c13=>first|k_is|rfl)
  (case k13=>first|k_is|rfl)
  (case a14=>first|k_is|rfl)
  (case i14=>first|k_is|rfl)
  (case l14=>first|k_is|rfl)
  (case c14=>first|k_is|rfl)
  (case k14=>first|k_is|rfl)
  (case a15=>first|k_is|rfl)
  (case i15=>first|k_is|rfl)
  (case l15=>first|k_is|rfl)
  (case c15=>first|k_is|rfl)
  (case k15=>first|k_is|rfl)
  (case a16=>first|k_is|rfl)
  (case i16=>first|k_is|rfl)
  (case l16=>first|k_is|rfl)
  (case c16=>first|k_is|rfl)
  (case k16=>first|k_is|rfl)
  (case lT16=>first|k_is|rfl)
  (case dT16=>first|k_is|rfl)
  (case a17=>first|k_is|rfl)
  (case i17=>first|k_is|rfl)
  (case l17=>first|k_is|rfl)
  (case c17=>first|k_is|rfl)
  (case k17=>first|k_is|rfl)
  (case a18=>first|k_is|rfl)
  (case i18=>first|k_is|rfl)
  (case l18=>first|k_is|rfl)
  (case c18=>first|k_is|rfl)
  (case k18=>first|k_is|rfl)
  (case a19=>first|k_is|rfl)
  (case i19=>first|k_is|rfl)
  (case l19=>first|k_is|rfl)
  (case c19=>first|k_is|rfl)
  (case k19=>first|k_is|rfl)
  (case a20=>first|k_is|rfl)
  (case i20=>first|k_is|rfl)
  (case l20=>first|k_is|rfl)
  (case c20=>first|k_is|rfl)
  (case k20=>first|k_is|rfl)
  (case a21=>first|k_is|rfl)
  (case i21=>first|k_is|rfl)
  (case l21=>first|k_is|rfl)
  (case c21=>first|k_is|rfl)
  (case k21=>first|k_is|rfl)
  (case a22=>first|k_is|rfl)
  (case l22=>first|k_is|rfl)
  (case c22=>first|k_is|rfl)
  (case k22=>first|k_is|rfl)
  (case a23=>first|k_is|rfl)
  (case l23=>first|k_is|rfl)
  (case c23=>first|k_is|rfl)
  (case k23=>first|k_is|rfl)
  (case a24=>first|k_is|rfl)
  (case l24=>first|k_is|rfl)
  (case c24=>first|k_is|rfl)
  (case k24=>first|k_is|rfl)
  (case a25=>first|k_is|rfl)
  (case l25=>first|k_is|rfl)
  (case c25=>first|k_is|rfl)
  (case k25=>first|k_is|rfl)
  (case a26=>first|k_is|rfl)
  (case l26=>first|k_is|rfl)
  (case c26=>first|k_is|rfl)
  (case k26=>first|k_is|rfl)
  (case a27=>first|k_is|rfl)
  (case l27=>first|k_is|rfl)
  (case c27=>first|k_is|rfl)
  (case k27=>first|k_is|rfl)
  (case a28=>first|k_is|rfl)
  (case l28=>first|k_is|rfl)
  (case c28=>first|k_is|rfl)
  (case k28=>first|k_is|rfl)
  (case a29=>first|k_is|rfl)
  (case l29=>first|k_is|rfl)
  (case c29=>first|k_is|rfl)
  (case k29=>first|k_is|rfl)
  (case a30=>first|k_is|rfl)
  (case l30=>first|k_is|rfl)
  (case c30=>first|k_is|rfl)
  (case k30=>first|k_is|rfl)
  (case a31=>first|k_is|rfl)
  (case l31=>first|k_is|rfl)
  (case c31=>first|k_is|rfl)
  (case k31=>first|k_is|rfl)
  (case a32=>first|k_is|rfl)
  (case l32=>first|k_is|rfl)
  (case c32=>first|k_is|rfl)
  (case k32=>first|k_is|rfl)
  (case a33=>first|k_is|rfl)
  (case l33=>first|k_is|rfl)
  (case c33=>first|k_is|rfl)
  (case k33=>first|k_is|rfl)
  (case a34=>first|k_is|rfl)
  (case l34=>first|k_is|rfl)
  (case c34=>first|k_is|rfl)
  (case k34=>first|k_is|rfl)
  (case a35=>first|k_is|rfl)
  (case l35=>first|k_is|rfl)
  (case c35=>first|k_is|rfl)
  (case k35=>first|k_is|rfl)
  (case a36=>first|k_is|rfl)
  (case l36=>first|k_is|rfl)
  (case c36=>first|k_is|rfl)
  (case k36=>first|k_is|rfl)
  (case a37=>first|k_is|rfl)
  (case l37=>first|k_is|rfl)
  (case c37=>first|k_is|rfl)
  (case k37=>first|k_is|rfl)
  (case a38=>first|k_is|rfl)
  (case l38=>first|k_is|rfl)
  (case c38=>first|k_is|rfl)
  (case k38=>first|k_is|rfl)
  (case a39=>first|k_is|rfl)
  (case l39=>first|k_is|rfl)
  (case c39=>first|k_is|rfl)
  (case k39=>first|k_is|rfl)
  (case a40=>first|k_is|rfl)
  (case l40=>first|k_is|rfl)
  (case c40=>first|k_is|rfl)
  (case k40=>first|k_is|rfl)
  (case a41=>first|k_is|rfl)
  (case l41=>first|k_is|rfl)
  (case c41=>first|k_is|rfl)
  (case k41=>first|k_is|rfl)
  (case a42=>first|k_is|rfl)
  (case l42=>first|k_is|rfl)
  (case c42=>first|k_is|rfl)
  (case k42=>first|k_is|rfl)
  (case a43=>first|k_is|rfl)
  (case l43=>first|k_is|rfl)
  (case c43=>first|k_is|rfl)
  (case k43=>first|k_is|rfl)
  (case a44=>first|k_is|rfl)
  (case l44=>first|k_is|rfl)
  (case c44=>first|k_is|rfl)
  (case k44=>first|k_is|rfl)
  (case a45=>first|k_is|rfl)
  (case l45=>first|k_is|rfl)
  (case c45=>first|k_is|rfl)
  (case k45=>first|k_is|rfl)
  (case a46=>first|k_is|rfl)
  (case l46=>first|k_is|rfl)
  (case c46=>first|k_is|rfl)
  (case k46=>first|k_is|rfl)
  (case a47=>first|k_is|rfl)
  (case l47=>first|k_is|rfl)
  (case c47=>first|k_is|rfl)
  (case k47=>first|k_is|rfl)
  (case a48=>first|k_is|rfl)
  (case l48=>first|k_is|rfl)
  (case c48=>first|k_is|rfl)
  (case k48=>first|k_is|rfl)
  (case a49=>first|k_is|rfl)
  (case l49=>first|k_is|rfl)
  (case c49=>first|k_is|rfl)
  (case k49=>first|k_is|rfl)
  (case a50=>first|k_is|rfl)
  (case l50=>first|k_is|rfl)
  (case c50=>first|k_is|rfl)
  (case k50=>first|k_is|rfl)
  (case a51=>first|k_is|rfl)
  (case l51=>first|k_is|rfl)
  (case c51=>first|k_is|rfl)
  (case k51=>first|k_is|rfl)
  (case a52=>first|k_is|rfl)
  (case l52=>first|k_is|rfl)
  (case c52=>first|k_is|rfl)
  (case k52=>first|k_is|rfl)
  (case a53=>first|k_is|rfl)
  (case l53=>first|k_is|rfl)
  (case c53=>first|k_is|rfl)
  (case k53=>first|k_is|rfl)
  (case a54=>first|k_is|rfl)
  (case l54=>first|k_is|rfl)
  (case c54=>first|k_is|rfl)
  (case k54=>first|k_is|rfl)
  (case a55=>first|k_is|rfl)
  (case l55=>first|k_is|rfl)
  (case c55=>first|k_is|rfl)
  (case k55=>first|k_is|rfl)
  (case a56=>first|k_is|rfl)
  (case l56=>first|k_is|rfl)
  (case c56=>first|k_is|rfl)
  (case k56=>first|k_is|rfl)
  (case a57=>first|k_is|rfl)
  (case l57=>first|k_is|rfl)
  (case c57=>first|k_is|rfl)
  (case k57=>first|k_is|rfl)
  (case a58=>first|k_is|rfl)
  (case l58=>first|k_is|rfl)
  (case c58=>first|k_is|rfl)
  (case k58=>first|k_is|rfl)
  (case a59=>first|k_is|rfl)
  (case l59=>first|k_is|rfl)
  (case c59=>first|k_is|rfl)
  (case k59=>first|k_is|rfl)
  (case a60=>first|k_is|rfl)
  (case l60=>first|k_is|rfl)
  (case c60=>first|k_is|rfl)
  (case k60=>first|k_is|rfl)
  (case a61=>first|k_is|rfl)
  (case l61=>first|k_is|rfl)
  (case c61=>first|k_is|rfl)
  (case k61=>first|k_is|rfl)
  (case a62=>first|k_is|rfl)
  (case l62=>first|k_is|rfl)
  (case c62=>first|k_is|rfl)
  (case k62=>first|k_is|rfl)
  (case a63=>first|k_is|rfl)
  (case l63=>first|k_is|rfl)
  (case c63=>first|k_is|rfl)
  (case k63=>first|k_is|rfl)
  (case z_list=>first|k_is|rfl)
  (case z_tuple=>first|k_is|rfl)
  (case z_max=>first|k_is|rfl)
  (case z_range=>first|k_is|rfl)
  (case z_len=>first|k_is|rfl)
  (case z_str=>first|k_is|rfl)
  (case z_zip=>first|k_is|rfl)
  (case z_enumerate=>first|k_is|rfl)
  (case z_all=>first|k_is|rfl)
  (case z_int=>first|k_is|rfl)
  (case z_set=>first|k_is|rfl)
  (case z_isinstance=>first|k_is|rfl)
  (case z_bool=>first|k_is|rfl)
  (case z_min=>first|k_is|rfl)
  (case pg_P=>first|k_is|rfl)
  (case hdd_P=>first|k_is|rfl)
  (case po_P=>first|k_is|rfl)
  (case sa_P=>first|k_is|rfl)
  (case mk_P=>first|k_is|rfl)
  (case kc_P=>first|k_is|rfl)
  (case n_name_P=>first|k_is|rfl)
  (case n_high_P=>first|k_is|rfl)
  (case n_low_P=>first|k_is|rfl)
  (case n_room_P=>first|k_is|rfl)
  (case pg_B=>first|k_is|rfl)
  (case hdd_B=>first|k_is|rfl)
  (case po_B=>first|k_is|rfl)
  (case sa_B=>first|k_is|rfl)
  (case mk_B=>first|k_is|rfl)
  (case kc_B=>first|k_is|rfl)
  (case n_name_B=>first|k_is|rfl)
  (case n_high_B=>first|k_is|rfl)
  (case n_low_B=>first|k_is|rfl)
  (case n_room_B=>first|k_is|rfl)
  (case n_side_B=>first|k_is|rfl)
  (case pg_U=>first|k_is|rfl)
  (case hdd_U=>first|k_is|rfl)
  (case po_U=>first|k_is|rfl)
  (case sa_U=>first|k_is|rfl)
  (case mk_U=>first|k_is|rfl)
  (case kc_U=>first|k_is|rfl)
  (case n_name_U=>first|k_is|rfl)
  (case n_high_U=>first|k_is|rfl)
  (case n_low_U=>first|k_is|rfl)
  (case n_room_U=>first|k_is|rfl)
  (case n_lift_U=>first|k_is|rfl)
  (case g1=>first|k_is|rfl)
  (case g2=>first|k_is|rfl)
  (case pg_R=>first|k_is|rfl)
  (case hdd_R=>first|k_is|rfl)
  (case po_R=>first|k_is|rfl)
  (case sa_R=>first|k_is|rfl)
  (case mk_R=>first|k_is|rfl)
  (case kc_R=>first|k_is|rfl)
  (case nR_name=>first|k_is|rfl)
  (case nR_least=>first|k_is|rfl)
  (case nR_crest=>first|k_is|rfl)
  (case nR_berths=>first|k_is|rfl)
  (case nR_water=>first|k_is|rfl)
  (case nR_target=>first|k_is|rfl)
  (case pg_N=>first|k_is|rfl)
  (case hdd_N=>first|k_is|rfl)
  (case po_N=>first|k_is|rfl)
  (case sa_N=>first|k_is|rfl)
  (case mk_N=>first|k_is|rfl)
  (case kc_N=>first|k_is|rfl)
  (case nN_reaches=>first|k_is|rfl)
  (case nN_locks=>first|k_is|rfl)
  (case nN_nights=>first|k_is|rfl)
  (case ty2=>first|k_is|rfl)
  (case ty3=>first|k_is|rfl)
  (case ty1_R=>first|k_is|rfl)
  (case ty4_R=>first|k_is|rfl)
  (case ty1_N=>first|k_is|rfl)
  (case ty4_N=>first|k_is|rfl)
  (case ty1_P=>first|k_is|rfl)
  (case ty4_P=>first|k_is|rfl)
  (case ty1_B=>first|k_is|rfl)
  (case ty4_B=>first|k_is|rfl)
  (case ty1_U=>first|k_is|rfl)
  (case ty4_U=>first|k_is|rfl)
  (case kt_R=>first|k_is|k_exc|kit_is|kts_exm|rfl)
  (case kt_N=>first|k_is|k_exc|kit_is|kts_exm|rfl)
  (case kt_PP=>first|k_is|k_exc|kit_is|kts_exm|rfl)
  (case kt_PB=>first|k_is|k_exc|kit_is|kts_exm|rfl)
  (case kt_PU=>first|k_is|k_exc|kit_is|kts_exm|rfl)
  (case kt_BP=>first|k_is|k_exc|kit_is|kts_exm|rfl)
  (case kt_BB=>first|k_is|k_exc|kit_is|kts_exm|rfl)
  (case kt_BU=>first|k_is|k_exc|kit_is|kts_exm|rfl)
  (case kt_UP=>first|k_is|k_exc|kit_is|kts_exm|rfl)
  (case kt_UB=>first|k_is|k_exc|kit_is|kts_exm|rfl)
  (case kt_UU=>first|k_is|k_exc|kit_is|kts_exm|rfl)
  (case gSEA=>first|k_is|rfl)
  (case gLETTERS=>first|k_is|rfl)
  (case gFIGURES=>first|k_is|rfl)
  (case gMOST_SIGNS=>first|k_is|rfl)
  (case gMOST_REACHES=>first|k_is|rfl)
  (case gMOST_LOCKS=>first|k_is|rfl)
  (case gMOST_NIGHTS=>first|k_is|rfl)
  (case gMOST_BERTHS=>first|k_is|rfl)
