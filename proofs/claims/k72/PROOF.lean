import PyProof.Rows.All
import Wide.All
import OpenK.AllK
import Wide.FinOn
import Lean
import PyProof.EqAt
import PyProof.EqKinds
import PyProof.TupleCall
import PyProof.NeKinds
import OpenK.KOwn
import KE.KTryMore
import KE.RegKTryMore
import PyProof.NsDelKeeps
import KE.KIntText
import PySem.Challenge.RW_lockhouse_k72_whole_read_back
set_option Elab.async false
set_option linter.all false
set_option maxRecDepth 100000
namespace L2
open PySem PySem.Spec PyProof.Rows
abbrev j3:=Sum Int Str
def eY:j3→Value→Bool
 |.inl k,v=>Value.isInt k v
 |.inr x,v=>Value.isStrOf x v
def p8 (w:World):j3→Int
 |.inl k=>hashInt k
 |.inr x=>hashStr w x
theorem vM:∀{k:j3} {v:Value},eY k v=true→(∃i t,k=Sum.inl i∧v=Value.int i t)∨(∃x t,k=Sum.inr x∧v=Value.str x t)
 |.inl i,v,h=>by
  obtain ⟨t,e⟩:=Value.isInt_shape (k:=i) (v:=v) h
  exact .inl ⟨i,t,rfl,e⟩
 |.inr x,v,h=>by
  obtain ⟨t,e⟩:=Value.isStrOf_shape (x:=x) (v:=v) h
  exact .inr ⟨x,t,rfl,e⟩
theorem oX (a b:Int):decide ((Sum.inl a:j3)=Sum.inl b)=(a == b):=by
 by_cases e:a=b
 ·subst e;simp
 ·have h:¬(Sum.inl a:j3)=Sum.inl b:=fun q=>e (Sum.inl.inj q)
  rw [decide_eq_false h]
  exact (beq_eq_false_iff_ne.mpr e).symm
theorem oS (a b:Str):decide ((Sum.inr a:j3)=Sum.inr b)=decide (a=b):=by
 by_cases e:a=b
 ·subst e;simp
 ·have h:¬(Sum.inr a:j3)=Sum.inr b:=fun q=>e (Sum.inr.inj q)
  rw [decide_eq_false h,decide_eq_false e]
theorem oV (a:Int) (b:Str):decide ((Sum.inl a:j3)=Sum.inr b)=false:=decide_eq_false (fun q=>nomatch q)
theorem oU (a:Str) (b:Int):decide ((Sum.inr a:j3)=Sum.inl b)=false:=decide_eq_false (fun q=>nomatch q)
def d9 (prog:Program) (w:World):PySem.KeyKind prog w j3 where
 is:=eY
 hash:=p8 w
 inj:=fun v a b ha hb=>by
  rcases vM ha with ⟨i,t,rfl,rfl⟩|⟨x,t,rfl,rfl⟩
  ·rcases vM hb with ⟨j,u,rfl,e⟩|⟨y,u,rfl,e⟩
   ·injection e with e1 _;rw [e1]
   ·exact nomatch e
  ·rcases vM hb with ⟨j,u,rfl,e⟩|⟨y,u,rfl,e⟩
   ·exact nomatch e
   ·injection e with e1 _;rw [e1]
 byValue:=fun k v h=>by
  rcases vM h with ⟨i,t,rfl,rfl⟩|⟨x,t,rfl,rfl⟩<;>rfl
 pyHash:=fun hv h=>by
  rcases vM hv with ⟨i,t,rfl,rfl⟩|⟨x,t,rfl,rfl⟩
  ·exact wpAny_pyHash_int h
  ·exact wpAny_pyHash_str h
 eqBool:=fun hu hv h=>by
  rcases vM hu with ⟨i,t,rfl,rfl⟩|⟨x,t,rfl,rfl⟩
  ·rcases vM hv with ⟨j,u,rfl,rfl⟩|⟨y,u,rfl,rfl⟩
   ·rw [oX] at h;exact wpAny_eqBool_int h
   ·rw [oV] at h;exact SeqAt.EqAt.int_str i t y u _ _ _ _ h
  ·rcases vM hv with ⟨j,u,rfl,rfl⟩|⟨y,u,rfl,rfl⟩
   ·rw [oU] at h;exact SeqAt.EqAt.str_int x t j u _ _ _ _ h
   ·rw [oS] at h;exact wpAny_eqBool_str h
 «strs»:=fun k x t v h=>by
  rcases vM h with ⟨i,u,rfl,e⟩|⟨y,u,rfl,e⟩
  ·exact nomatch e
  ·injection e with e1 _
   subst e1
   cases v<;>rfl
end L2
namespace L2
open PySem PySem.Spec PyProof.Rows
inductive V where
 |non|bl (b:Bool)|int (i:Int)|str (x:Str)|byt (b:Array UInt8)|flt (b:UInt64)|ref (a:Addr)|ty (n:String)
 deriving DecidableEq
def RelV:V→Value→Prop
 |.non,u=>u=Value.none
 |.bl b,u=>u=Value.bool b
 |.int i,u=>∃t,u=Value.int i t
 |.str x,u=>∃t,u=Value.str x t
 |.byt b,u=>∃t,u=Value.bytes b t
 |.flt b,u=>∃t,u=Value.float b t
 |.ref a,u=>u=Value.ref a
 |.ty n,u=>u=Value.type n
abbrev Vals:List V→List Value→Prop:=Paired RelV
theorem Vals.length {xs:List V} {us:List Value} (r:Vals xs us):xs.length=us.length:=Paired.length r
theorem Vals.get:∀{xs:List V} {us:List Value} {i:Nat} {x:V},Vals xs us→xs[i]?=some x→∃u,us[i]?=some u∧RelV x u
 |_,_,_,_,.nil,e=>by simp at e
 |_,_,0,_,.cons r _,e=>by simp at e;subst e;exact ⟨_,rfl,r⟩
 |_,_,i+1,x,.cons _ t,e=>by
  obtain ⟨u,h1,h2⟩:=Vals.get (i:=i) (x:=x) t (by simpa using e)
  exact ⟨u,by simpa using h1,h2⟩
theorem Vals.append:∀{xs ys:List V} {us ws:List Value},Vals xs us→Vals ys ws→Vals (xs++ys) (us++ws)
 |_,_,_,_,.nil,s=>s
 |_,_,_,_,.cons r t,s=>.cons r (Vals.append t s)
theorem Vals.take:∀{xs:List V} {us:List Value} (n:Nat),Vals xs us→Vals (xs.take n) (us.take n)
 |_,_,0,_=>.nil
 |_,_,_+1,.nil=>.nil
 |_,_,n+1,.cons r t=>.cons r (Vals.take n t)
theorem Vals.drop:∀{xs:List V} {us:List Value} (n:Nat),Vals xs us→Vals (xs.drop n) (us.drop n)
 |_,_,0,r=>r
 |_,_,_+1,.nil=>.nil
 |_,_,n+1,.cons _ t=>Vals.drop n t
def RelO:Option V→Option Value→Prop
 |some v,some u=>RelV v u
 |none,none=>True
 |_,_=>False
def KV {κ:Type}:List (κ×V)→List (κ×Value)→Prop:=Paired fun (p:κ×V) (q:κ×Value)=>p.1=q.1∧RelV p.2 q.2
def kV:j3→V
 |.inl i=>.int i
 |.inr x=>.str x
inductive HO where
 /-- a list -/
 |lst (xs:List V)
 /-- a tuple (never changes) -/
 |tup (xs:List V)
 /-- a dict whose keys are ints and texts;one whose keys are tuples of ints and texts (the empty one is both) -/
 |dK (kvs:List (j3×V))|dT (kvs:List (List j3×V))
 /-- a set of ints: its members,its size -/
 |set (S:Int→Bool) (n:Nat)
 /-- an instance of the class at C,its dict at dx,its attributes -/
 |ins (C dx:Addr) (fs:List (Str×V))
 /-- the dict of the instance at x -/
 |own (x:Addr)
 /-- the dict of an exception -/
 |xd (fs:List (Str×V))
 /-- a bound method,f of x -/
 |met (f x:Addr)
 /-- a range object lo,lo+1,.. below hi -/
 |rng (lo hi:Int)
 /-- a thing that is known to the object (the script;a dict while a loop walks it): read,never written while it is so -/
 |frz (o:Obj) (u:HO)
 /-- a code object's table -/
 |tbl (ps:Array Value)
 /-- any other thing,by what is true of its one object (a def of one's own: SetO a S n:=HO.ext fun h=>..) -/
 |ext (φ:Heap→Prop)
abbrev Hp:=Addr→Option HO
def upd (H:Hp) (a:Addr) (o:HO):Hp:=fun b=>if b=a then some o else H b
theorem jH {H:Hp} {a:Addr} {o:HO}:upd H a o a=some o:=by unfold upd;rw [if_pos rfl]
theorem j7 {H:Hp} {a b:Addr} {o:HO} (h:b≠a):upd H a o b=H b:=by unfold upd;rw [if_neg h]
theorem JI {H:Hp} {a b:Addr} {o u:HO} (h:H a=some o) (h':H b=some u) (d:o≠u):a≠b:=by
 intro e;subst e;rw [h] at h';exact d (Option.some.inj h')
theorem v0 {H:Hp} {a b:Addr} {o:HO} (h:H a=some o) (h':H b=none):a≠b:=by
 intro e;subst e;rw [h] at h';cases h'
section
variable (P:Program) (w:World)
def ObjOk (H:Hp) (h:Heap) (a:Addr):HO→Prop
 |.lst xs=>xs.length≤sizeLine∧∃(its:List Value) (n:Nat),Vals xs its∧h.get? a=some {cls:=.type "list",data:=.seq its.toArray n}
 |.tup xs=>xs.length≤sizeLine∧∃its:List Value,Vals xs its∧IsTup h a its.toArray
 |.dK kvs=>kvs.length≤sizeLine∧(a == sysModules)=false∧∃vs,KV kvs vs∧h.DictOf (d9 P w) a vs
 |.dT kvs=>kvs.length≤sizeLine∧(a == sysModules)=false∧∃xs:List (List j3×Addr×Value),
   Paired (fun (p:List j3×V) (q:List j3×Addr×Value)=>p.1=q.1∧H q.2.1=some (.tup (p.1.map kV))∧RelV p.2 q.2.2) kvs xs∧
   ∃o es ep,h.get? a=some o∧o.ExactDict∧o.data=.dict es ep∧es.toList=xs.map (entryOfKey (tupleKind (d9 P w)))∧(xs.map (·.1)).Nodup
 |.set S n=>h.SetOf (intKind P w) a S n
 |.ins C dx fs=>H dx=some (.own a)∧fs.length≤1000∧dx≠a∧h.get? a=some (PySem.W.instObj C dx)∧
   ∃mA,h.Ns1 dx mA∧(∀f,RelO (fs.lookup f) (mA f))∧PySem.Within mA (fs.map (·.1))
 |.own _=>∃o,h.get? a=some o
 |.xd fs=>∃mA,h.Ns1 a mA∧∀f,RelO (fs.lookup f) (mA f)
 |.rng lo hi=>∃t u v,h.get? a=some {cls:=.type "range",data:=.fields #[.int lo t,.int hi u,.int 1 v]}
 |.frz o u=>h.get? a=some o∧ObjOk H h a u
 |.tbl ps=>h.get? a=some {cls:=.none,data:=.fields ps}
 |.met f x=>h.get? a=some (PySem.W.methodObj (.ref f) (.ref x))
 |.ext φ=>φ h∧(∃o,h.get? a=some o)∧∀h1 h2:Heap,φ h1→(∀o,h1.get? a=some o→h2.get? a=some o)→φ h2
def HOk (H:Hp) (h:Heap):Prop:=∀a o,H a=some o→ObjOk P w H h a o
end
section
variable {P:Program} {w:World} {H H':Hp} {h h':Heap} {a:Addr} {o:HO}
theorem ObjOk.lt (x:ObjOk P w H h a o):a<h.objs.size:=by
 cases o with
 |lst xs=>obtain ⟨_,_,_,_,e⟩:=x;exact Heap.lt_size e
 |tup xs=>obtain ⟨_,_,_,p⟩:=x;exact p.lt
 |dK kvs=>obtain ⟨_,_,_,_,o,_,_,e,_⟩:=x;exact Heap.lt_size e
 |dT kvs=>obtain ⟨_,_,_,_,o,_,_,e,_⟩:=x;exact Heap.lt_size e
 |set S n=>obtain ⟨o,_,_,_,e,_⟩:=x;exact Heap.lt_size e
 |ins C dx fs=>obtain ⟨_,_,_,e,_⟩:=x;exact Heap.lt_size e
 |own y=>obtain ⟨_,e⟩:=x;exact Heap.lt_size e
 |xd fs=>obtain ⟨_,⟨_,_,_,e,_⟩,_⟩:=x;exact Heap.lt_size e
 |rng lo hi=>obtain ⟨_,_,_,e⟩:=x;exact Heap.lt_size e
 |frz ob u=>obtain ⟨e,_⟩:=x;exact Heap.lt_size e
 |tbl ps=>exact Heap.lt_size (show h.get? a=some _ from x)
 |met f y=>exact Heap.lt_size (show h.get? a=some _ from x)
 |ext φ=>obtain ⟨_,⟨_,e⟩,_⟩:=x;exact Heap.lt_size e
theorem Paired.mapP {α β:Type} {F G:α→β→Prop}:∀{l₁:List α} {l₂:List β},Paired F l₁ l₂→(∀a b,F a b→G a b)→Paired G l₁ l₂
 |_,_,.nil,_=>.nil
 |_,_,.cons r t,f=>.cons (f _ _ r) (Paired.mapP t f)
theorem ObjOk.stay (x:ObjOk P w H h a o) (k:∀b u,(b=a∨H b=some (.own a))→h.get? b=some u→h'.get? b=some u)
  (ho:∀b,H b=some (.own a)→H' b=some (.own a)) (ht:∀b xs,H b=some (.tup xs)→H' b=some (.tup xs)):ObjOk P w H' h' a o:=by
 induction o with
 |lst xs=>obtain ⟨z,its,n,r,e⟩:=x;exact ⟨z,its,n,r,k _ _ (.inl rfl) e⟩
 |tup xs=>obtain ⟨z,its,r,ob,e,c⟩:=x;exact ⟨z,its,r,ob,k _ _ (.inl rfl) e,c⟩
 |dK kvs=>obtain ⟨z,y,vs,r,ob,es,ep,e,c⟩:=x;exact ⟨z,y,vs,r,ob,es,ep,k _ _ (.inl rfl) e,c⟩
 |dT kvs =>
  obtain ⟨z,y,xs,r,ob,es,ep,e,c⟩:=x
  exact ⟨z,y,xs,Paired.mapP r fun p q z=>⟨z.1,ht _ _ z.2.1,z.2.2⟩,ob,es,ep,k _ _ (.inl rfl) e,c⟩
 |set S n=>obtain ⟨ob,es,ep,t,e,c⟩:=x;exact ⟨ob,es,ep,t,k _ _ (.inl rfl) e,c⟩
 |ins C dx fs =>
  obtain ⟨d,z,ne,e,mA,⟨od,es,ep,e2,c⟩,r⟩:=x
  exact ⟨ho _ d,z,ne,k _ _ (.inl rfl) e,mA,⟨od,es,ep,k _ _ (.inr d) e2,c⟩,r⟩
 |own y=>obtain ⟨ob,e⟩:=x;exact ⟨ob,k _ _ (.inl rfl) e⟩
 |xd fs=>obtain ⟨mA,⟨od,es,ep,e,c⟩,r⟩:=x;exact ⟨mA,⟨od,es,ep,k _ _ (.inl rfl) e,c⟩,r⟩
 |rng lo hi=>obtain ⟨t,u,v,e⟩:=x;exact ⟨t,u,v,k _ _ (.inl rfl) e⟩
 |frz ob u ih=>obtain ⟨e,q⟩:=x;exact ⟨k _ _ (.inl rfl) e,ih q⟩
 |tbl ps =>
  have e:h.get? a=some {cls:=.none,data:=.fields ps}:=x
  show h'.get? a=some {cls:=.none,data:=.fields ps}
  exact k a _ (.inl rfl) e
 |met f y =>
  have e:h.get? a=some (PySem.W.methodObj (.ref f) (.ref y)):=x
  show h'.get? a=some (PySem.W.methodObj (.ref f) (.ref y))
  exact k a _ (.inl rfl) e
 |ext φ=>obtain ⟨p,⟨o,e⟩,st⟩:=x;exact ⟨st _ _ p fun o q=>k _ _ (.inl rfl) q,⟨o,k _ _ (.inl rfl) e⟩,st⟩
theorem HOk.lt (x:HOk P w H h) (e:H a=some o):a<h.objs.size:=(x a o e).lt
theorem HOk.fresh (x:HOk P w H h) (e:h.objs.size≤a):H a=none:=by
 cases q:H a with
 |none=>rfl
 |some u=>exact absurd (Nat.lt_of_lt_of_le (x.lt q) e) (Nat.lt_irrefl _)
theorem HOk.kept (x:HOk P w H h) (k:∀b u,h.get? b=some u→h'.get? b=some u):HOk P w H h':=fun a o e =>
 (x a o e).stay (fun b u _ q=>k b u q) (fun _ q=>q) fun _ _ q=>q
theorem HOk.laid (x:HOk P w H h) (k:∀b u,h.get? b=some u→h'.get? b=some u) (hp:h.objs.size≤a) (new:ObjOk P w (upd H a o) h' a o):HOk P w (upd H a o) h':=fun b u e=>by
 have hn:=x.fresh hp
 by_cases hb:b=a
 ·subst hb;rw [jH] at e;cases e;exact new
 ·rw [j7 hb] at e
  exact (x b u e).stay (fun c v _ q=>k c v q) (fun c q=>by rw [j7 (v0 q hn)];exact q) fun c xs q=>by rw [j7 (v0 q hn)];exact q
end
def Rd (H:Hp) (a:Addr) (u:HO):Prop:=H a=some u∨∃o,H a=some (.frz o u)
theorem Rd.of {H:Hp} {a:Addr} {u:HO} (h:H a=some u):Rd H a u:=.inl h
theorem Rd.ok {P:Program} {w:World} {H:Hp} {h:Heap} {a:Addr} {u:HO} (r:Rd H a u) (x:HOk P w H h):ObjOk P w H h a u:=by
 rcases r with r|⟨o,r⟩
 ·exact x a u r
 ·obtain ⟨_,q⟩:=x a _ r
  exact q
def QW:Option HO→Prop
 |some (.lst _)=>True
 |some (.dK _)=>True
 |some (.dT _)=>True
 |some (.set _ _)=>True
 |some (.ins _ _ _)=>True
 |some (.ext _)=>True
 |_=>False
section
variable {P:Program} {w:World} {H:Hp} {h h':Heap} {x e:Addr} {o':HO}
theorem HOk.write (ok:HOk P w H h) (mu:QW (H x)) (he:e=x∨H e=some (.own x)) (k:∀b u,b≠e→h.get? b=some u→h'.get? b=some u) (heo:∃u,h'.get? e=some u)
  (new:ObjOk P w (upd H x o') h' x o'):HOk P w (upd H x o') h':=fun b u q=>by
 have nown:∀c y,H c=some (.own y)→c≠x:=fun c y r z=>by subst z;rw [r] at mu;exact mu
 have ntup:∀c xs,H c=some (.tup xs)→c≠x:=fun c xs r z=>by subst z;rw [r] at mu;exact mu
 by_cases hb:b=x
 ·subst hb;rw [jH] at q;cases q;exact new
 ·rw [j7 hb] at q
  by_cases hbe:b=e
  ·have q':H b=some (.own x):=by
    rcases he with z|z
    ·exact absurd (hbe.trans z) hb
    ·rw [hbe];exact z
   rw [q] at q';cases q'
   obtain ⟨v,hv⟩:=heo
   exact ⟨v,by rw [hbe];exact hv⟩
  ·refine (ok b u q).stay (fun c v hc r=>k c v ?_ r) (fun c r=>by rw [j7 (nown c b r)];exact r) fun c xs r=>by rw [j7 (ntup c xs r)];exact r
   rcases hc with rfl|hc
   ·exact hbe
   ·rintro rfl
    rcases he with z|z
    ·exact nown c b hc z
    ·rw [hc] at z;cases z;exact hb rfl
end
structure Un (fs ex:List Addr) (H H':Hp) (h h':Heap):Prop where
 keep:∀b o,h.get? b=some o→H b=none→b∉fs→b∉ex→h'.get? b=some o
 slot:∀b o,h.get? b=some o→H b=none→b∈fs→b∉ex→∃sl,h'.get? b=some {o with slots:=sl}
 free:∀b o,h.get? b=some o→H b=none→b∉ex→H' b=none
 there:∀b o,h.get? b=some o→b∉ex→∃o',h'.get? b=some o'
 tups:∀b xs,H b=some (.tup xs)→H' b=some (.tup xs)
 frzs:∀b o u,H b=some (.frz o u)→H' b=some (.frz o u)
 tbls:∀b ps,H b=some (.tbl ps)→∃more,H' b=some (.tbl (ps++more))
section
variable {fs fs' ex ex':List Addr} {H H1 H2:Hp} {h h1 h2 h':Heap} {a x e:Addr} {o:HO}
theorem Un.any (u:Un fs ex H H1 h h1) {b:Addr} {ob:Obj} (q:h.get? b=some ob) (n:H b=none) (hx:b∉ex):∃sl,h1.get? b=some {ob with slots:=sl}:=by
 by_cases hb:b∈fs
 ·exact u.slot b ob q n hb hx
 ·exact ⟨ob.slots,u.keep b ob q n hb hx⟩
theorem Un.trans (a:Un fs ex H H1 h h1) (b:Un fs ex H1 H2 h1 h2):Un fs ex H H2 h h2 where
 keep:=fun c ob q n hc hx=>b.keep c ob (a.keep c ob q n hc hx) (a.free c ob q n hx) hc hx
 slot:=fun c ob q n hc hx=>by
  obtain ⟨sl,e1⟩:=a.slot c ob q n hc hx
  obtain ⟨sl',e2⟩:=b.slot c _ e1 (a.free c ob q n hx) hc hx
  exact ⟨sl',e2⟩
 free:=fun c ob q n hx=>by
  obtain ⟨o',e1⟩:=a.there c ob q hx
  exact b.free c o' e1 (a.free c ob q n hx) hx
 there:=fun c ob q hx=>by
  obtain ⟨o',e1⟩:=a.there c ob q hx
  exact b.there c o' e1 hx
 tups:=fun c xs q=>b.tups c xs (a.tups c xs q)
 frzs:=fun c ob xs q=>b.frzs c ob xs (a.frzs c ob xs q)
 tbls:=fun c ps q=>by
  obtain ⟨m1,e1⟩:=a.tbls c ps q
  obtain ⟨m2,e2⟩:=b.tbls c _ e1
  exact ⟨m1++m2,by rw [e2,Array.append_assoc]⟩
theorem Un.kept (k:∀b u,h.get? b=some u→h'.get? b=some u):Un fs ex H H h h' :=
 ⟨fun b ob q _ _ _=>k b ob q,fun b ob q _ _ _=>⟨ob.slots,k b ob q⟩,fun _ _ _ n _=>n,fun b ob q _=>⟨ob,k b ob q⟩,fun _ _ q=>q,fun _ _ _ q=>q,fun _ ps q=>⟨#[],by rw [q];simp⟩⟩
theorem Un.refl:Un fs ex H H h h:=Un.kept fun _ _ q=>q
theorem Un.laid (k:∀b u,h.get? b=some u→h'.get? b=some u) (hp:h.objs.size≤a) (hn:H a=none):Un fs ex H (upd H a o) h h' where
 keep:=fun b u q _ _ _=>k b u q
 slot:=fun b u q _ _ _=>⟨u.slots,k b u q⟩
 free:=fun b u q n _=>by rw [j7 (Nat.ne_of_lt (Nat.lt_of_lt_of_le (Heap.lt_size q) hp))];exact n
 there:=fun b u q _=>⟨u,k b u q⟩
 tups:=fun b xs q=>by rw [j7 (v0 q hn)];exact q
 frzs:=fun b u xs q=>by rw [j7 (v0 q hn)];exact q
 tbls:=fun b ps q=>⟨#[],by rw [j7 (v0 q hn),q];simp⟩
theorem Un.write (mu:QW (H x)) (he:e=x∨H e=some (.own x)) (k:∀b u,b≠e→h.get? b=some u→h'.get? b=some u) (heo:∃u,h'.get? e=some u):Un fs ex H (upd H x o) h h':=by
 have hx:∀b,H b=none→b≠x:=fun b n z=>by subst z;rw [n] at mu;exact mu
 have hb:∀b,H b=none→b≠e:=fun b n z=>by
  subst z
  rcases he with r|r
  ·exact hx b n r
  ·rw [n] at r;cases r
 have hm:∀b u,H b=some u→¬QW (some u)→b≠x:=fun b u q nm z=>by subst z;rw [q] at mu;exact nm mu
 refine ⟨fun b u q n _ _=>k b u (hb b n) q,fun b u q n _ _=>⟨u.slots,k b u (hb b n) q⟩,fun b u q n _=>by rw [j7 (hx b n)];exact n,fun b u q _=>?_,
  fun b xs q=>by rw [j7 (hm b _ q fun z=>z)];exact q,fun b u xs q=>by rw [j7 (hm b _ q fun z=>z)];exact q,fun b ps q=>⟨#[],by rw [j7 (hm b _ q fun z=>z),q];simp⟩⟩
 by_cases hbe:b=e
 ·subst hbe;exact heo
 ·exact ⟨u,k b u hbe q⟩
end
def qK (h:Heap) (H:Hp):List Addr:=(List.range h.objs.size).filter fun a=>(H a).isSome
def vW (h:Heap) (H:Hp):Heap:=PySem.W.hideAll h (qK h H)
theorem lX (h:Heap) (H:Hp):(vW h H).objs.size=h.objs.size:=PySem.W.hideAll_size _ _
theorem m7 {h:Heap} {H:Hp} {b:Addr} {o:Obj} (e:h.get? b=some o) (n:H b=none):(vW h H).get? b=some o :=
 PySem.W.hideAll_get _ e fun hm=>by
  have q:(H b).isSome=true:=(List.mem_filter.mp hm).2
  rw [n] at q;simp at q
theorem n4 {h:Heap} {H:Hp} {b:Addr} {o:Obj} (e:(vW h H).get? b=some o):h.get? b=some o∧H b=none:=by
 have e':h.get? b=some o:=PySem.W.of_hideAll (qK h H) e
 refine ⟨e',?_⟩
 cases q:H b with
 |none=>rfl
 |some x =>
  have hm:b∈qK h H:=List.mem_filter.mpr ⟨List.mem_range.mpr (Heap.lt_size e'),by simp [q]⟩
  have z:(vW h H).get? b=none:=PySem.W.hideAll_none (qK h H) hm
  rw [z] at e;cases e
def oD (g h:Heap) (L:Addr):List (Addr×Obj):=(List.range h.objs.size).filterMap fun a=>if a=L∨(g.get? a).isSome=true then none else (h.get? a).map fun o=>(a,o)
def rest (g h:Heap) (L d:Addr):List (Addr×Obj):=(oD g h L).filter fun p=>decide (p.1≠d)
end L2
namespace L2
open PySem PySem.Spec PyProof.Rows
structure Mod (K:PySem.W.Frag) (mg:Str→Option Value) (base:Heap):Prop where
 kin:K.In base
 glob:base.Ns mainGlobals mg
 blt:∃mb,base.Ns builtinsNs mb∧∀x:Str,x≠"__name__"→mb x=bootBuiltins x
 nolimit:base.NoLimit
structure Cx where
 prog:Program
 w:World
 K:PySem.W.Frag
 mg:Str→Option Value
 base:Heap
 A:Around
 N:List Str
 s₀:Shared
 H₀:Hp
 env:Env
 outer:List Env
 stack:List Env
 ex:List Addr
 fn:Str→Bool
 calm:Bool
 pn:List (Addr×Obj)
 xe:Value→Shared→Prop
def jJ (l:List Env):List Addr:=l.filterMap (·.frame)
abbrev Cx.fs (X:Cx):List Addr:=jJ X.outer
def QV (sc:Scope) (x:Str):Prop:=sc.names.lookup x=some .local∨sc.names.lookup x=some .cell∨sc.names.lookup x=some .free
def JP (sc:Scope) (x:Str):Prop:=sc.names.lookup x=some .local∨sc.names.lookup x=some .cell
def rF (env:Env) (h:Heap) (m:Str→Option Value) (x:Str) (u:Value):Prop :=
 (env.kindOf x=some .local∧m x=some u)∨((env.kindOf x=some .cell∨env.kindOf x=some .free)∧∃c,env.cells.lookup x=some c∧h.IsCell c (some u))
structure Cx.Ok (X:Cx):Prop where
 mod:Mod X.K X.mg X.base
 kind:X.env.scope.kind=.function
 glob:X.env.globals=mainGlobals
 blt:X.env.builtins=builtinsNs
 above:X.s₀.heap.objs.size≤X.env.locals
 inj:∀x y c,X.env.cells.lookup x=some c→X.env.cells.lookup y=some c→x=y
 has:∀x,(X.env.kindOf x=some .cell∨X.env.kindOf x=some .free)→∃c,X.env.cells.lookup x=some c
 cab:∀x c,X.fn x=true→X.env.cells.lookup x=some c→X.s₀.heap.objs.size≤c
 hd:X.calm=true→X.A.handled=none
 frames:X.A.frames=some X.stack
 stk:X.stack=X.outer∨(X.stack=X.env::X.outer∧X.env.frame=some X.env.locals)
 exf:∀b∈X.ex,b≠X.env.locals∧∀x c,X.env.cells.lookup x=some c→c≠b
 bs:∀b o,X.base.get? b=some o→X.s₀.heap.get? b=some o∧X.H₀ b=none
 bsz:X.base.objs.size≤X.s₀.heap.objs.size
 noex:∀b o,X.base.get? b=some o→b∉X.ex
 exfs:∀b∈X.ex,b∉X.fs
 funs:X.s₀.heap.FunFrames X.base X.outer
 frf:∀b∈X.fs,X.H₀ b=none
structure Inv (X:Cx) (pins:List (Addr×Obj)) (σ:List (Option V)) (H:Hp) (s:Shared):Prop where
 ok:X.Ok
 os:s.os=X.s₀.os
 bare:AllBare s.gens
 base:Un X.fs X.ex X.H₀ H X.s₀.heap s.heap
 loc:∃m,s.heap.Ns X.env.locals m∧∀(i:Nat) (x:Str) (v:V),X.N[i]?=some x→σ[i]?=some (some v)→QV X.env.scope x→∃u,RelV v u∧rF X.env s.heap m x u
 cell:∀x c,X.env.cells.lookup x=some c→∃v,s.heap.IsCell c v
 free:H X.env.locals=none
 freeC:∀x c,X.env.cells.lookup x=some c→H c=none
 pin:∀p∈X.pn++pins,s.heap.get? p.1=some p.2∧H p.1=none∧p.1≠X.env.locals∧p.1∉X.fs∧∀v,p.2.data≠.cell v
 hok:HOk X.prog X.w H s.heap
 len:σ.length=X.N.length
section
variable {X:Cx} {pins:List (Addr×Obj)} {σ:List (Option V)} {H H':Hp} {s:Shared} {h':Heap}
theorem Cx.Ok.nofr (ok:X.Ok) {b:Addr} {o:Obj} (e:X.base.get? b=some o):b∉X.fs:=fun hb=>by
 have:=(ok.funs.mem hb).1
 rw [e] at this;cases this
theorem Inv.bs (I:Inv X pins σ H s):∀b o,X.base.get? b=some o→s.heap.get? b=some o∧H b=none:=fun b o e =>
 ⟨I.base.keep b o (I.ok.bs b o e).1 (I.ok.bs b o e).2 (I.ok.nofr e) (I.ok.noex b o e),I.base.free b o (I.ok.bs b o e).1 (I.ok.bs b o e).2 (I.ok.noex b o e)⟩
theorem Inv.bk (I:Inv X pins σ H s):∀b o,X.base.get? b=some o→s.heap.get? b=some o:=fun b o e=>(I.bs b o e).1
theorem Inv.mod (I:Inv X pins σ H s):Mod X.K X.mg X.base:=I.ok.mod
theorem Inv.kIn (I:Inv X pins σ H s):X.K.In s.heap:=I.ok.mod.kin.keeps I.bk
theorem Inv.lt (I:Inv X pins σ H s):X.env.locals<s.heap.objs.size:=let ⟨_,hn,_⟩:=I.loc;hn.lt
theorem Inv.sz (I:Inv X pins σ H s):X.s₀.heap.objs.size≤s.heap.objs.size:=Nat.le_trans I.ok.above (Nat.le_of_lt I.lt)
theorem Inv.nofs (I:Inv X pins σ H s) {a:Addr} (h:s.heap.objs.size≤a):a∉X.fs:=fun hb=>by
 obtain ⟨_,o,ho,_⟩:=I.ok.funs.mem hb
 exact absurd (Nat.lt_of_lt_of_le (Heap.lt_size ho) (Nat.le_trans I.sz h)) (Nat.lt_irrefl _)
theorem Inv.cne (I:Inv X pins σ H s):∀x c,X.env.cells.lookup x=some c→c≠X.env.locals:=fun x c e z=>by
 obtain ⟨v,o,ho,hd⟩:=I.cell x c e
 obtain ⟨m,⟨o',es,ep,ho',hd',_⟩,_⟩:=I.loc
 rw [z,ho'] at ho;cases ho;rw [hd'] at hd;cases hd
theorem Inv.funs (I:Inv X pins σ H s):s.heap.FunFrames X.base X.outer:=by
 have all:∀(l:List Env),(∀b∈jJ l,b∈X.fs)→X.s₀.heap.FunFrames X.base l→s.heap.FunFrames X.base l:=by
  intro l
  induction l with
  |nil=>intro _ _;trivial
  |cons env r ih =>
   intro hs hl
   obtain ⟨hk,⟨L,o,hf,hn,ho,hd⟩,hr⟩:=hl
   have hL:L∈X.fs:=hs L (by unfold jJ;rw [List.filterMap_cons,hf];exact List.mem_cons_self)
   obtain ⟨sl,e⟩:=I.base.slot L o ho (I.ok.frf L hL) hL fun z=>I.ok.exfs L z hL
   exact ⟨hk,⟨L,_,hf,hn,e,hd⟩,ih (fun b hb=>hs b (by unfold jJ;rw [List.filterMap_cons,hf];exact List.mem_cons_of_mem _ hb)) hr⟩
 exact all X.outer (fun _ hb=>hb) I.ok.funs
theorem Inv.stack (I:Inv X pins σ H s):s.heap.FunFrames X.base X.stack:=by
 rcases I.ok.stk with e|⟨e,hf⟩
 ·rw [e];exact I.funs
 ·rw [e]
  obtain ⟨m,hn,_⟩:=I.loc
  refine .cons (by rw [I.ok.kind];decide) hf hn ?_ I.funs
  exact Heap.get?_none_of_le (Nat.le_trans I.ok.bsz I.ok.above)
theorem Inv.stkSub (I:Inv X pins σ H s):∀b∈jJ X.stack,b∈X.env.locals::X.fs:=fun b hb=>by
 rcases I.ok.stk with e|⟨e,hf⟩
 ·rw [e] at hb;exact List.mem_cons_of_mem _ hb
 ·rw [e] at hb
  unfold jJ at hb
  rw [List.filterMap_cons,hf] at hb
  exact hb
theorem Inv.stkFree (I:Inv X pins σ H s):∀b∈jJ X.stack,H b=none:=fun b hb=>by
 rcases List.mem_cons.mp (I.stkSub b hb) with e|hb
 ·rw [e];exact I.free
 ·obtain ⟨_,o,ho,_⟩:=I.ok.funs.mem hb
  exact I.base.free b o ho (I.ok.frf b hb) fun z=>I.ok.exfs b z hb
theorem Inv.step {g':Array GenState} {t':Nat} {d':Drawn} {ch:List Addr} (I:Inv X pins σ H s)
  (hch:∀b∈ch,(b∈X.ex∨X.s₀.heap.objs.size≤b)∧b≠X.env.locals∧(∀x c,X.env.cells.lookup x=some c→c≠b)∧∀p∈X.pn++pins,p.1≠b)
  (keep:∀b o,b≠X.env.locals→b∉X.fs→b∉ch→s.heap.get? b=some o→H b=none→h'.get? b=some o)
  (slot:∀b o,b≠X.env.locals→b∈X.fs→b∉ch→s.heap.get? b=some o→H b=none→∃sl,h'.get? b=some {o with slots:=sl}) (free:∀b o,b∉ch→s.heap.get? b=some o→H b=none→H' b=none)
  (there:∀b o,b∉ch→s.heap.get? b=some o→∃o',h'.get? b=some o')
  (tups:∀b xs,H b=some (.tup xs)→H' b=some (.tup xs)) (frzs:∀b o u,H b=some (.frz o u)→H' b=some (.frz o u)) (tbls:∀b ps,H b=some (.tbl ps)→∃more,H' b=some (.tbl (ps++more)))
  (ns:∀m,s.heap.Ns X.env.locals m→h'.Ns X.env.locals m) (hok:HOk X.prog X.w H' h') (hg:AllBare g') :
  Inv X pins σ H' {s with heap:=h',gens:=g',drawn:=d',toks:=t'}:=by
 have neL:∀b o,X.s₀.heap.get? b=some o→b≠X.env.locals:=fun b o e=>Nat.ne_of_lt (Nat.lt_of_lt_of_le (Heap.lt_size e) I.ok.above)
 have neC:∀b o,X.s₀.heap.get? b=some o→b∉X.ex→b∉ch:=fun b o e hx hb=>by
  rcases (hch b hb).1 with z|z
  ·exact hx z
  ·exact absurd (Nat.lt_of_lt_of_le (Heap.lt_size e) z) (Nat.lt_irrefl _)
 have cellK:∀x c,X.env.cells.lookup x=some c→∀v,s.heap.IsCell c v→h'.IsCell c v:=fun x c e v ⟨o,ho,hd⟩=>by
  have nch:c∉ch:=fun z=>(hch c z).2.2.1 x c e rfl
  by_cases hc:c∈X.fs
  ·obtain ⟨sl,q⟩:=slot c o (I.cne x c e) hc nch ho (I.freeC x c e)
   exact ⟨_,q,hd⟩
  ·exact ⟨o,keep c o (I.cne x c e) hc nch ho (I.freeC x c e),hd⟩
 refine ⟨I.ok,I.os,hg,⟨fun b o e n hb hx=>?_,fun b o e n hb hx=>?_,fun b o e n hx=>?_,fun b o e hx=>?_,fun b xs e=>tups b xs (I.base.tups b xs e),fun b o xs e=>frzs b o xs (I.base.frzs b o xs e),fun b ps e=>?_⟩,?_,fun x c e=>?_,?_,fun x c e=>?_,fun p hp=>?_,hok,I.len⟩
 ·exact keep b o (neL b o e) hb (neC b o e hx) (I.base.keep b o e n hb hx) (I.base.free b o e n hx)
 ·obtain ⟨sl,e1⟩:=I.base.slot b o e n hb hx
  obtain ⟨sl',e2⟩:=slot b _ (neL b o e) hb (neC b o e hx) e1 (I.base.free b o e n hx)
  exact ⟨sl',e2⟩
 ·obtain ⟨o',e1⟩:=I.base.there b o e hx
  exact free b o' (neC b o e hx) e1 (I.base.free b o e n hx)
 ·obtain ⟨o',e1⟩:=I.base.there b o e hx
  exact there b o' (neC b o e hx) e1
 ·obtain ⟨m1,e1⟩:=I.base.tbls b ps e
  obtain ⟨m2,e2⟩:=tbls b _ e1
  exact ⟨m1++m2,by rw [e2,Array.append_assoc]⟩
 ·obtain ⟨m,hn,hl⟩:=I.loc
  refine ⟨m,ns m hn,fun i x v e1 e2 e3=>?_⟩
  obtain ⟨u,r,l⟩:=hl i x v e1 e2 e3
  refine ⟨u,r,?_⟩
  rcases l with l|⟨k,c,e,z⟩
  ·exact .inl l
  ·exact .inr ⟨k,c,e,cellK x c e _ z⟩
 ·obtain ⟨v,z⟩:=I.cell x c e
  exact ⟨v,cellK x c e v z⟩
 ·obtain ⟨m,⟨o,_,_,ho,_⟩,_⟩:=I.loc
  exact free _ o (fun z=>(hch _ z).2.1 rfl) ho I.free
 ·obtain ⟨v,o,ho,hd⟩:=I.cell x c e
  exact free c o (fun z=>(hch c z).2.2.1 x c e rfl) ho (I.freeC x c e)
 ·obtain ⟨e,n,ne,nf,d⟩:=I.pin p hp
  have nch:p.1∉ch:=fun z=>(hch p.1 z).2.2.2 p hp rfl
  exact ⟨keep p.1 p.2 ne nf nch e n,free p.1 p.2 nch e n,ne,nf,d⟩
theorem Inv.un {t':Nat} (I:Inv X pins σ H s) (u:Un X.fs [] H H' s.heap h') (hok:HOk X.prog X.w H' h'):Inv X pins σ H' {s with heap:=h',toks:=t'}:=by
  obtain ⟨m,⟨o,es,ep,ho,r⟩,_⟩:=id I.loc
  obtain ⟨sl,hL⟩:=u.any ho I.free (by simp)
  exact I.step (g':=s.gens) (d':=s.drawn) (ch:=[]) (fun _ z=>nomatch z) (fun b o _ hb _ e n=>u.keep b o e n hb (by simp)) (fun b o _ hb _ e n=>u.slot b o e n hb (by simp)) (fun b o _ e n=>u.free b o e n (by simp)) (fun b o _ e=>u.there b o e (by simp)) u.tups u.frzs u.tbls (fun m' hm=>by
    obtain ⟨o',es',ep',ho',r'⟩:=hm
    rw [ho] at ho';cases ho'
    exact ⟨_,es',ep',hL,r'⟩) hok I.bare
theorem Inv.call {g':Array GenState} {t':Nat} {d':Drawn} {ch:List Addr} (I:Inv X pins σ H s) (u:Un (jJ X.stack) ch H H' s.heap h') (hok:HOk X.prog X.w H' h') (hg:AllBare g')
  (hch:∀b∈ch,(b∈X.ex∨X.s₀.heap.objs.size≤b)∧b≠X.env.locals∧(∀x c,X.env.cells.lookup x=some c→c≠b)∧∀p∈X.pn++pins,p.1≠b) :
  Inv X pins σ H' {s with heap:=h',gens:=g',drawn:=d',toks:=t'}:=by
 obtain ⟨m,⟨o,es,ep,ho,r⟩,_⟩:=id I.loc
 obtain ⟨sl,hL⟩:=u.any ho I.free fun z=>(hch _ z).2.1 rfl
 exact I.step (ch:=ch) hch (fun b o hL hb hc e n=>u.keep b o e n (fun z=>(List.mem_cons.mp (I.stkSub b z)).elim hL hb) hc) (fun b o _ _ hc e n=>u.any e n hc) (fun b o hc e n=>u.free b o e n hc) (fun b o hc e=>u.there b o e hc) u.tups u.frzs u.tbls (fun m' hm=>by
  obtain ⟨o',es',ep',ho',r'⟩:=hm
  rw [ho] at ho';cases ho'
  exact ⟨_,es',ep',hL,r'⟩) hok hg
theorem Inv.turned {t':Nat} {it:Addr} (I:Inv X pins σ H s) (k:∀b o,b≠it→s.heap.get? b=some o→h'.get? b=some o) (hn:H it=none) (hL:it≠X.env.locals)
    (h1:it∈X.ex∨X.s₀.heap.objs.size≤it) (h2:∀x c,X.env.cells.lookup x=some c→c≠it) (h3:∀p∈X.pn++pins,p.1≠it):Inv X pins σ H {s with heap:=h',toks:=t'}:=by
  have nit:∀b u,H b=some u→b≠it:=fun b u e z=>by rw [z,hn] at e;cases e
  refine I.step (g':=s.gens) (d':=s.drawn) (ch:=[it]) (fun b hb=>?_) (fun b o _ _ hc e _=>k b o (fun z=>hc (by simp [z])) e) (fun b o _ _ hc e _=>⟨o.slots,k b o (fun z=>hc (by simp [z])) e⟩) (fun _ _ _ _ n=>n)
    (fun b o hc e=>⟨o,k b o (fun z=>hc (by simp [z])) e⟩) (fun _ _ e=>e) (fun _ _ _ e=>e) (fun b ps e=>⟨#[],by rw [e];simp⟩) (fun m hm=>?_) (fun b u e=>?_) I.bare
  · have e:b=it:=by simpa using hb
    subst e
    exact ⟨h1,hL,h2,h3⟩
  · obtain ⟨o,es,ep,ho,r⟩:=hm
    exact ⟨o,es,ep,k _ o (Ne.symm hL) ho,r⟩
  · refine (I.hok b u e).stay (fun c v hc q=>k c v ?_ q) (fun _ q=>q) fun _ _ q=>q
    rcases hc with z|z
    · rw [z];exact nit b u e
    · exact nit c _ z
theorem Inv.tok (I:Inv X pins σ H s) (t:Nat):Inv X pins σ H {s with toks:=t}:=I.un (h':=s.heap) (t':=t) Un.refl I.hok
theorem Inv.kept {t':Nat} (I:Inv X pins σ H s) (k:∀b u,s.heap.get? b=some u→h'.get? b=some u):Inv X pins σ H {s with heap:=h',toks:=t'}:=I.un (Un.kept k) (I.hok.kept k)
theorem Inv.laid {a:Addr} {o:HO} {t':Nat} (I:Inv X pins σ H s) (k:∀b u,s.heap.get? b=some u→h'.get? b=some u) (hp:s.heap.objs.size≤a) (new:ObjOk X.prog X.w (upd H a o) h' a o) :
  Inv X pins σ (upd H a o) {s with heap:=h',toks:=t'}:=I.un (Un.laid k hp (I.hok.fresh hp)) (I.hok.laid k hp new)
theorem Inv.write {x e:Addr} {o:HO} {t':Nat} (I:Inv X pins σ H s) (mu:QW (H x)) (he:e=x∨H e=some (.own x)) (k:∀b u,b≠e→s.heap.get? b=some u→h'.get? b=some u) (heo:∃u,h'.get? e=some u)
  (new:ObjOk X.prog X.w (upd H x o) h' x o):Inv X pins σ (upd H x o) {s with heap:=h',toks:=t'}:=I.un (Un.write mu he k heo) (I.hok.write mu he k heo new)
theorem Inv.pins_of {pins':List (Addr×Obj)} (I:Inv X pins σ H s) (h:∀p∈pins',s.heap.get? p.1=some p.2∧H p.1=none∧p.1≠X.env.locals∧p.1∉X.fs∧∀v,p.2.data≠.cell v):Inv X pins' σ H s :=
 ⟨I.ok,I.os,I.bare,I.base,I.loc,I.cell,I.free,I.freeC,fun p hp=>(List.mem_append.mp hp).elim (fun z=>I.pin p (List.mem_append_left _ z)) (h p),I.hok,I.len⟩
theorem dJ {N:List Str} (hN:N.Nodup) {i j:Nat} {x:Str} (a:N[i]?=some x) (b:N[j]?=some x):i=j:=by
 obtain ⟨h1,e1⟩:=List.getElem?_eq_some_iff.mp a
 obtain ⟨h2,e2⟩:=List.getElem?_eq_some_iff.mp b
 exact (List.getElem_inj hN).mp (e1.trans e2.symm)
theorem cE {M:Model} {A:Around} {E:Value→Shared→Prop} {i:Nat} {x:Str} {v:V} {u:Value} {Q:Unit→Shared→Prop} (I:Inv X pins σ H s) (hN:X.N.Nodup) (hi:X.N[i]?=some x) (hx:JP X.env.scope x) (r:RelV v u)
  (h:∀s',Inv X pins (σ.set i (some v)) H s'→(∃a,Heap.SameBut a s.heap s'.heap∧(a=X.env.locals∨X.env.cells.lookup x=some a))→Q () s') (hf:X.fn x=true∨X.env.scope.names.lookup x=some .local:=by first|exact .inl rfl|exact .inr rfl|assumption):wpAny M A (storeName X.env x u) Q E s:=by
 obtain ⟨m,hn,hl⟩:=id I.loc
 have hcls:(X.env.scope.kind == .class||(X.env.scope.kind == .module&&X.env.locals != X.env.globals))=false:=by rw [I.ok.kind];rfl
 have hiσ:i<σ.length:=by rw [I.len];exact (List.getElem?_eq_some_iff.mp hi).1
 have cne:=I.cne
 have tracked:∀{a:Addr} {h':Heap},(∃o,s.heap.get? a=some o∧H a=none)→Heap.SameBut a s.heap h'→HOk X.prog X.w H h':=fun {a h'} ha hs b ob e=>by
  obtain ⟨_,_,hfree⟩:=ha
  refine (I.hok b ob e).stay (fun c w' hc q=>(hs.2 c ?_).trans q) (fun _ q=>q) fun _ _ q=>q
  rintro rfl
  rcases hc with rfl|hc
  ·rw [hfree] at e;cases e
  ·rw [hfree] at hc;cases hc
 rcases hx with hk|hk
 ·refine wpAny_storeName_local hk hn (fun h' hn' hs=>?_) hcls
  obtain ⟨oL,_,_,hoL,_⟩:=id hn
  refine h _ ⟨I.ok,I.os,I.bare,⟨fun b o e n hb hx=>?_,fun b o e n hb hx=>?_,I.base.free,fun b o e hx=>?_,I.base.tups,I.base.frzs,I.base.tbls⟩,⟨_,hn',fun j y v' e1 e2 e3=>?_⟩,fun y c e=>?_,I.free,I.freeC,fun p hp=>?_,tracked ⟨oL,hoL,I.free⟩ hs,by simpa using I.len⟩ ⟨_,hs,.inl rfl⟩
  ·exact (hs.2 b (Nat.ne_of_lt (Nat.lt_of_lt_of_le (Heap.lt_size e) I.ok.above))).trans (I.base.keep b o e n hb hx)
  ·obtain ⟨sl,e1⟩:=I.base.slot b o e n hb hx
   exact ⟨sl,(hs.2 b (Nat.ne_of_lt (Nat.lt_of_lt_of_le (Heap.lt_size e) I.ok.above))).trans e1⟩
  ·obtain ⟨o',e1⟩:=I.base.there b o e hx
   exact ⟨o',(hs.2 b (Nat.ne_of_lt (Nat.lt_of_lt_of_le (Heap.lt_size e) I.ok.above))).trans e1⟩
  ·by_cases hj:j=i
   ·subst hj
    rw [hi] at e1;cases e1
    rw [List.getElem?_set_self hiσ] at e2
    cases e2
    exact ⟨u,r,.inl ⟨hk,by simp⟩⟩
   ·rw [List.getElem?_set_ne (Ne.symm hj)] at e2
    obtain ⟨u',r',q⟩:=hl j y v' e1 e2 e3
    refine ⟨u',r',?_⟩
    rcases q with ⟨k,e⟩|⟨k,c,e,z⟩
    ·refine .inl ⟨k,?_⟩
     have:y≠x:=fun e=>hj (dJ hN e1 (e▸hi))
     simp [this,e]
    ·exact .inr ⟨k,c,e,z.sameBut hs (cne y c e)⟩
  ·obtain ⟨w',z⟩:=I.cell y c e
   exact ⟨w',z.sameBut hs (cne y c e)⟩
  ·obtain ⟨e,n,ne,nf,d⟩:=I.pin p hp
   exact ⟨(hs.2 p.1 ne).trans e,n,ne,nf,d⟩
 ·have hfn:X.fn x=true:=by
   rcases hf with z|z
   ·exact z
   ·rw [z] at hk;cases hk
  obtain ⟨c,hc⟩:=I.ok.has x (.inl hk)
  obtain ⟨w',z⟩:=I.cell x c hc
  refine wpAny_storeName_cell I.ok.kind hk hc z (fun h' hc' hs=>?_)
  obtain ⟨oc,hoc,hocd⟩:=id z
  refine h {s with heap:=h'} ⟨I.ok,I.os,I.bare,⟨fun b o e n hb hx=>?_,fun b o e n hb hx=>?_,I.base.free,fun b o e hx=>?_,I.base.tups,I.base.frzs,I.base.tbls⟩,⟨m,hn.sameBut hs (Ne.symm (cne x c hc)),fun j y v' e1 e2 e3=>?_⟩,fun y c' e=>?_,I.free,I.freeC,fun p hp=>?_,tracked ⟨oc,hoc,I.freeC x c hc⟩ hs,by simpa using I.len⟩ ⟨c,hs,.inr hc⟩
  ·exact (hs.2 b (Nat.ne_of_lt (Nat.lt_of_lt_of_le (Heap.lt_size e) (I.ok.cab x c hfn hc)))).trans (I.base.keep b o e n hb hx)
  ·obtain ⟨sl,e1⟩:=I.base.slot b o e n hb hx
   exact ⟨sl,(hs.2 b (Nat.ne_of_lt (Nat.lt_of_lt_of_le (Heap.lt_size e) (I.ok.cab x c hfn hc)))).trans e1⟩
  ·obtain ⟨o',e1⟩:=I.base.there b o e hx
   exact ⟨o',(hs.2 b (Nat.ne_of_lt (Nat.lt_of_lt_of_le (Heap.lt_size e) (I.ok.cab x c hfn hc)))).trans e1⟩
  ·by_cases hj:j=i
   ·subst hj
    rw [hi] at e1;cases e1
    rw [List.getElem?_set_self hiσ] at e2
    cases e2
    exact ⟨u,r,.inr ⟨.inl hk,c,hc,hc'⟩⟩
   ·rw [List.getElem?_set_ne (Ne.symm hj)] at e2
    obtain ⟨u',r',q⟩:=hl j y v' e1 e2 e3
    refine ⟨u',r',?_⟩
    rcases q with q|⟨k,c',e,z'⟩
    ·exact .inl q
    ·refine .inr ⟨k,c',e,z'.sameBut hs ?_⟩
     rintro rfl
     exact hj (dJ hN e1 (I.ok.inj _ _ _ e hc▸hi))
  ·by_cases hcc:c'=c
   ·subst hcc;exact ⟨_,hc'⟩
   ·obtain ⟨w2,z2⟩:=I.cell y c' e
    exact ⟨w2,z2.sameBut hs hcc⟩
  ·obtain ⟨e,n,ne,nf,d⟩:=I.pin p hp
   refine ⟨(hs.2 p.1 ?_).trans e,n,ne,nf,d⟩
   intro q
   rw [q,hoc] at e
   have q':oc=p.2:=Option.some.inj e
   exact d w' (by rw [← q'];exact hocd)
theorem cV {M:Model} {A:Around} {E:Value→Shared→Prop} {i:Nat} {x:Str} {v:V} {u:Value} {Q:Unit→Shared→Prop} (I:Inv X pins σ H s) (hN:X.N.Nodup) (hi:X.N[i]?=some x) (hx:JP X.env.scope x) (r:RelV v u)
  (h:∀s',Inv X pins (σ.set i (some v)) H s'→Q () s') (hf:X.fn x=true∨X.env.scope.names.lookup x=some .local:=by first|exact .inl rfl|exact .inr rfl|assumption):wpAny M A (storeName X.env x u) Q E s :=
 cE I hN hi hx r (fun s' I' _=>h s' I') hf
theorem Inv.call' {s':Shared} {ch:List Addr} (I:Inv X pins σ H s) (ho:s'.os=s.os) (u:Un (jJ X.stack) ch H H' s.heap s'.heap) (hok:HOk X.prog X.w H' s'.heap) (hg:AllBare s'.gens)
  (hch:∀b∈ch,(b∈X.ex∨X.s₀.heap.objs.size≤b)∧b≠X.env.locals∧(∀x c,X.env.cells.lookup x=some c→c≠b)∧∀p∈X.pn++pins,p.1≠b):Inv X pins σ H' s':=by
 obtain ⟨h',g',d',t',o'⟩:=s'
 have e:o'=s.os:=ho
 subst e
 exact I.call (g':=g') (t':=t') (d':=d') u hok hg hch
end
abbrev XK:=Value→Option Addr→Hp→Prop
abbrev St:=List (Option V)
abbrev VK:=V→Hp→Prop
abbrev TE:=St→Hp→VK→Prop
abbrev TT:=St→Hp→(Bool→Hp→Prop)→Prop
abbrev TA:=St→Hp→(List V→Hp→Prop)→Prop
structure Ends where
 nx:St→Hp→Prop
 rt:VK
 bk:St→Hp→Prop:=fun _ _=>False
 ct:St→Hp→Prop:=fun _ _=>False
abbrev TS:=Ends→St→Hp→Prop
def EP (X:Cx) (pins:List (Addr×Obj)) (σ:St) (Q:VK) (u:Value) (s':Shared):Prop:=∃v H',Inv X pins σ H' s'∧RelV v u∧Q v H'
def TP (X:Cx) (pins:List (Addr×Obj)) (σ:St) (Q:Bool→Hp→Prop) (b:Bool) (s':Shared):Prop:=∃H',Inv X pins σ H' s'∧Q b H'
def AP (X:Cx) (pins:List (Addr×Obj)) (σ:St) (Q:List V→Hp→Prop) (us:List Value) (s':Shared):Prop:=∃vs H',Inv X pins σ H' s'∧Vals vs us∧Q vs H'
def SP (X:Cx) (pins:List (Addr×Obj)) (D:Ends) (f:Flow) (s':Shared):Prop :=
 match f with
 |.next=>∃σ' H',Inv X pins σ' H' s'∧D.nx σ' H'
 |.brk=>∃σ' H',Inv X pins σ' H' s'∧D.bk σ' H'
 |.cont=>∃σ' H',Inv X pins σ' H' s'∧D.ct σ' H'
 |.ret u=>∃v σ' H',Inv X pins σ' H' s'∧RelV v u∧D.rt v H'
def PE (X:Cx) (e:Expr) (t:TE):Prop :=
 ∀(pins:List (Addr×Obj)) (s:Shared) (σ:St) (H:Hp) (Q:VK),Inv X pins σ H s→t σ H Q→wpAny (model X.prog X.w) X.A (eval e X.env) (EP X pins σ Q) X.xe s
def PT (X:Cx) (e:Expr) (t:TT):Prop :=
 ∀(pins:List (Addr×Obj)) (s:Shared) (σ:St) (H:Hp) (Q:Bool→Hp→Prop),Inv X pins σ H s→t σ H Q→wpAny (model X.prog X.w) X.A (isTrue e X.env (eval e X.env)) (TP X pins σ Q) X.xe s
def PW (X:Cx) (e:Expr) (t:TT):Prop :=
 ∀(whole:Sem Value) (pins:List (Addr×Obj)) (s:Shared) (σ:St) (H:Hp) (Q:Bool→Hp→Prop),Inv X pins σ H s→t σ H Q→wpAny (model X.prog X.w) X.A (isTrue e X.env whole) (TP X pins σ Q) X.xe s
theorem PW.pt {X:Cx} {e:Expr} {t:TT} (h:PW X e t):PT X e t:=h _
def PA (X:Cx) (es:List Expr) (t:TA):Prop :=
 ∀(pos:Pos) (pins:List (Addr×Obj)) (s:Shared) (σ:St) (H:Hp) (Q:List V→Hp→Prop),Inv X pins σ H s→t σ H Q→wpAny (model X.prog X.w) X.A (spliced (backTo pos (starEach es X.env))) (AP X pins σ Q) X.xe s
def PS (X:Cx) (st:Stmt) (t:TS):Prop :=
 ∀(pins:List (Addr×Obj)) (s:Shared) (σ:St) (H:Hp) (D:Ends),Inv X pins σ H s→t D σ H→wpAny (model X.prog X.w) X.A (exec st X.env) (SP X pins D) X.xe s
def PSs (X:Cx) (st:List Stmt) (t:TS):Prop :=
 ∀(pins:List (Addr×Obj)) (s:Shared) (σ:St) (H:Hp) (D:Ends),Inv X pins σ H s→t D σ H→wpAny (model X.prog X.w) X.A (execs st X.env) (SP X pins D) X.xe s
theorem jD {α:Type} {t:Sem α} {Q Q':α→Shared→Prop} {M:Model} {A:Around} {E:Value→Shared→Prop} {s:Shared} (h:wpAny M A t Q E s) (hQ:∀a s,Q a s→Q' a s):wpAny M A t Q' E s:=wpAny_mono h hQ fun _ _ x=>x
end L2
namespace L2
open PySem PySem.Spec PyProof.Rows
section
variable {X:Cx}
def fD (i:Nat):TE:=fun σ H Q=>∃v,σ[i]?=some (some v)∧Q v H
def tC (v:V):TE:=fun _ H Q=>Q v H
theorem oP {i:Nat} {x:Str} {pos:Pos} (hN:X.N[i]?=some x) (hv:QV X.env.scope x) (hd:(x == ("__debug__":Str))=false:=by decide) (hcd:(x == ("__classdict__":Str))=false:=by decide):PE X (.Name x pos) (fD i):=by
 intro pins s σ H Q I h
 obtain ⟨v,e,h⟩:=h
 obtain ⟨m,hn,hl⟩:=I.loc
 obtain ⟨u,r,l⟩:=hl i x v hN e hv
 have fin:EP X pins σ Q u s:=⟨v,H,I,r,h⟩
 rcases l with ⟨hk,hm⟩|⟨hk,c,hc,hcell⟩
 ·exact wpAny_Name (wpAny_loadName_local I.ok.kind hk hn hm fin) hd
 ·rcases hk with hk|hk
  ·exact wpAny_Name (wpAny_loadName_cell I.ok.kind hk hc hcell fin) hd
  ·exact wpAny_Name (wpAny_loadName_free I.ok.kind hk hc hcell fin hcd) hd
theorem jC {i j pos}:PE X (.Constant (.int i) j pos) (tC (.int i)):=fun _ _ _ H _ I h=>wpAny_Constant_int ⟨.int i,H,I.tok _,⟨_,rfl⟩,h⟩
theorem zY {b j pos}:PE X (.Constant (.bool b) j pos) (tC (.bl b)):=fun _ _ _ H _ I h=>Constant_bool ⟨.bl b,H,I,rfl,h⟩
theorem jK {x j pos}:PE X (.Constant (.str x) j pos) (tC (.str x)):=fun _ _ _ H _ I h=>Calls.Constant_str ⟨.str x,H,I.tok _,⟨_,rfl⟩,h⟩
def Gl (X:Cx) (x:Str):Prop:=X.env.kindOf x=some .globalImplicit
theorem QC {E:Value→Shared→Prop} {pins:List (Addr×Obj)} {s:Shared} {σ:St} {H:Hp} {x:Str} {u:Value} {pos:Pos} {Q:Value→Shared→Prop} (I:Inv X pins σ H s) (hg:Gl X x) (hm:X.mg x=some u) (h:Q u s)
  (hd:(x == ("__debug__":Str))=false:=by decide):wpAny (model X.prog X.w) X.A (eval (.Name x pos) X.env) Q E s :=
 Calls.Name_function_global I.ok.kind hg (Calls.loadGlobal_global (by rw [I.ok.glob];exact I.mod.glob.keeps I.bk) hm h) hd
theorem zW {E:Value→Shared→Prop} {pins:List (Addr×Obj)} {s:Shared} {σ:St} {H:Hp} {x:Str} {u:Value} {pos:Pos} {Q:Value→Shared→Prop} (I:Inv X pins σ H s) (hg:Gl X x) (hm:X.mg x=none) (hv:bootBuiltins x=some u) (h:Q u s)
  (hn:x≠"__name__":=by decide) (hd:(x == ("__debug__":Str))=false:=by decide):wpAny (model X.prog X.w) X.A (eval (.Name x pos) X.env) Q E s:=by
 obtain ⟨mb,h1,h2⟩:=I.mod.blt
 exact Calls.Name_function_global I.ok.kind hg (Calls.loadGlobal_builtin (by rw [I.ok.glob];exact I.mod.glob.keeps I.bk) hm (by rw [I.ok.blt];exact h1.keeps I.bk) ((h2 x hn).trans hv) h) hd
theorem JC {x:Str} {v:V} {u:Value} {pos:Pos} (hg:Gl X x) (hm:X.mg x=some u) (r:RelV v u) (hd:(x == ("__debug__":Str))=false:=by decide):PE X (.Name x pos) (tC v) :=
 fun _ _ _ H _ I h=>QC I hg hm ⟨v,H,I,r,h⟩ hd
theorem qS {x:Str} {v:V} {u:Value} {pos:Pos} (hg:Gl X x) (hm:X.mg x=none) (hv:bootBuiltins x=some u) (r:RelV v u) (hn:x≠"__name__":=by decide) (hd:(x == ("__debug__":Str))=false:=by decide):PE X (.Name x pos) (tC v) :=
 fun _ _ _ H _ I h=>zW I hg hm hv ⟨v,H,I,r,h⟩ hn hd
variable {a b:Expr} {ta tb:TE} {pos:Pos}
def tB (t:TE):TT:=fun σ H Q=>t σ H fun x H1=>∃c,x=.bl c∧Q c H1
theorem vE {e:Expr} {t:TE} (h:PE X e t) (he:∀whole,isTrue e X.env whole=(do let v ← whole;standAt e.pos;holding [v] (truthy v)):=by intro _;rfl):PT X e (tB t):=by
 intro pins s σ H Q I hw
 refine isTrue_plain (jD (h pins s σ H _ I hw) fun v s1 ⟨x,H1,I1,r1,q1⟩=>?_) (he _)
 obtain ⟨d,rfl,q⟩:=q1
 cases r1
 exact wpAny_truthy_bool ⟨H1,I1,q⟩
variable {tA tB':TT} {rest:List Expr}
def rK (t u:TT):TT:=fun σ H Q=>t σ H fun c H1=>if c=true then Q true H1 else u σ H1 Q
def pS (t:TT):TT:=fun σ H Q=>t σ H fun c H1=>Q (!c) H1
theorem zR (ha:PT X a tA):PW X (.BoolOp .Or [a] pos) tA:=by
 intro wh pins s σ H Q I h
 refine isTrue_or (jD (ha pins s σ H Q I h) fun c s1 e=>?_)
 cases c with
 |false=>exact isTrue_or_nil e
 |true=>exact e
theorem zX (ha:PT X a tA) (hb:PW X (.BoolOp .Or (b::rest) pos) tB'):PW X (.BoolOp .Or (a::b::rest) pos) (rK tA tB'):=by
 intro wh pins s σ H Q I h
 refine isTrue_or (jD (ha pins s σ H _ I h) fun c s1 ⟨H1,I1,q1⟩=>?_)
 cases c with
 |true=>exact ⟨H1,I1,q1⟩
 |false=>exact hb wh pins s1 σ H1 Q I1 q1
theorem yO (ha:PT X a tA):PT X (.UnaryOp .Not a pos) (pS tA):=by
 intro pins s σ H Q I h
 exact isTrue_not (ha pins s σ H (fun c H1=>Q (!c) H1) I h)
def pD (ta tb:TE):TE:=fun σ H Q=>ta σ H fun x H1=>∃c,x=.bl c∧if c=true then tb σ H1 Q else Q (.bl false) H1
def pR (ta tb:TE):TE:=fun σ H Q=>ta σ H fun x H1=>∃c,x=.bl c∧if c=true then Q (.bl true) H1 else tb σ H1 Q
def o9 (ta:TE):TE:=fun σ H Q=>ta σ H fun x H1=>∃c,x=.bl c∧Q (.bl (!c)) H1
theorem zU {op} {t:TE} (h:PE X a t):PE X (.BoolOp op [a] pos) t:=fun pins s σ H Q I hw=>BoolOp_one (h pins s σ H Q I hw)
theorem zV (ha:PE X a ta) (hb:PE X (.BoolOp .And (b::rest) pos) tb):PE X (.BoolOp .And (a::b::rest) pos) (pD ta tb):=by
 intro pins s σ H Q I h
 refine BoolOp_and (jD (ha pins s σ H _ I h) fun v s1 ⟨x,H1,I1,r1,q1⟩=>?_)
 obtain ⟨c,rfl,q1⟩:=q1
 cases r1
 refine wpAny_truthy_bool ?_
 cases c with
 |true=>exact hb pins s1 σ H1 Q I1 q1
 |false=>exact ⟨.bl false,H1,I1,rfl,q1⟩
theorem pG (ha:PE X a ta) (hb:PE X (.BoolOp .Or (b::rest) pos) tb):PE X (.BoolOp .Or (a::b::rest) pos) (pR ta tb):=by
 intro pins s σ H Q I h
 refine BoolOp_or (jD (ha pins s σ H _ I h) fun v s1 ⟨x,H1,I1,r1,q1⟩=>?_)
 obtain ⟨c,rfl,q1⟩:=q1
 cases r1
 refine wpAny_truthy_bool ?_
 cases c with
 |false=>exact hb pins s1 σ H1 Q I1 q1
 |true=>exact ⟨.bl true,H1,I1,rfl,q1⟩
theorem oR (ha:PE X a ta):PE X (.UnaryOp .Not a pos) (o9 ta):=by
 intro pins s σ H Q I h
 refine UnaryOp_ (jD (ha pins s σ H _ I h) fun v s1 ⟨x,H1,I1,r1,q1⟩=>?_)
 obtain ⟨c,rfl,q1⟩:=q1
 cases r1
 exact not_of (wpAny_truthy_bool ⟨.bl (!c),H1,I1,rfl,q1⟩)
end
end L2
namespace L2
open PySem PySem.Spec PyProof.Rows
def SqL (K:PySem.W.Frag) (H:Hp) (a:Addr) (xs:List V):Prop :=
 Rd H a (.lst xs)∨
  ∃(o:Obj) (its:Array Value) (n:Nat),K.lookup a=some o∧o.cls=.type "list"∧o.dict=none∧o.data=.seq its n∧its.size≤sizeLine∧Vals xs its.toList
def SqT (K:PySem.W.Frag) (H:Hp) (a:Addr) (xs:List V):Prop :=
 Rd H a (.tup xs)∨
  ∃(o:Obj) (its:Array Value) (n:Nat),K.lookup a=some o∧o.cls=.type "tuple"∧o.data=.seq its n∧its.size≤sizeLine∧Vals xs its.toList
def rE:Value→Option V
 |.none=>some .non
 |.bool b=>some (.bl b)
 |.int i _=>some (.int i)
 |.str x _=>some (.str x)
 |.bytes b _=>some (.byt b)
 |.float b _=>some (.flt b)
 |.ref a=>some (.ref a)
 |.type n=>some (.ty n)
 |_=>none
theorem RelV.abs {x:V} {u:Value} (r:RelV x u):rE u=some x:=by
 cases x with
 |non=>cases r;rfl
 |bl _=>cases r;rfl
 |int _=>obtain ⟨t,rfl⟩:=r;rfl
 |str _=>obtain ⟨t,rfl⟩:=r;rfl
 |byt _=>obtain ⟨t,rfl⟩:=r;rfl
 |flt _=>obtain ⟨t,rfl⟩:=r;rfl
 |ref _=>cases r;rfl
 |ty _=>cases r;rfl
theorem RelV.inj {x y:V} {u:Value} (r:RelV x u) (q:RelV y u):x=y:=Option.some.inj (r.abs.symm.trans q.abs)
theorem Vals.inj:∀{xs ys:List V} {us:List Value},Vals xs us→Vals ys us→xs=ys
 |_,_,_,.nil,.nil=>rfl
 |_,_,_,.cons r t,.cons r' t'=>by rw [r.inj r',Vals.inj t t']
section
variable {X:Cx} {pins:List (Addr×Obj)} {σ:St} {H:Hp} {s:Shared} {a:Addr} {xs ys:List V}
theorem SqL.of {K:PySem.W.Frag} (h:H a=some (.lst xs)):SqL K H a xs:=.inl (.inl h)
theorem SqT.of {K:PySem.W.Frag} (h:H a=some (.tup xs)):SqT K H a xs:=.inl (.inl h)
theorem Inv.list (I:Inv X pins σ H s) (h:SqL X.K H a xs):∃its:List Value,Vals xs its∧PlainL s.heap a its.toArray∧xs.length≤sizeLine:=by
 rcases h with h|⟨o,its,n,hk,hc,hd,hs,hz,r⟩
 ·obtain ⟨z,its,n,r,e⟩:=h.ok I.hok
  exact ⟨its,r,⟨_,n,e,rfl,rfl,rfl⟩,z⟩
 ·refine ⟨its.toList,r,⟨o,n,I.kIn a o hk,hc,hd,by simpa using hs⟩,?_⟩
  have e:=r.length
  simp only [Array.length_toList] at e
  omega
theorem Inv.tuple (I:Inv X pins σ H s) (h:SqT X.K H a xs):∃its:List Value,Vals xs its∧IsTup s.heap a its.toArray∧xs.length≤sizeLine:=by
 rcases h with h|⟨o,its,n,hk,hc,hs,hz,r⟩
 ·obtain ⟨z,its,r,p⟩:=h.ok I.hok
  exact ⟨its,r,p,z⟩
 ·refine ⟨its.toList,r,⟨o,I.kIn a o hk,hc,n,by simpa using hs⟩,?_⟩
  have e:=r.length
  simp only [Array.length_toList] at e
  omega
theorem Inv.list_inj (I:Inv X pins σ H s) (h:SqL X.K H a xs) (h':SqL X.K H a ys):xs=ys:=by
 obtain ⟨its,r,⟨o,n,e,_,_,d⟩,_⟩:=I.list h
 obtain ⟨its',r',⟨o',n',e',_,_,d'⟩,_⟩:=I.list h'
 rw [e] at e';cases e'
 rw [d] at d'
 injection d' with d1 _
 have:its=its':=by simpa using congrArg Array.toList d1
 subst this
 exact r.inj r'
theorem Inv.tuple_inj (I:Inv X pins σ H s) (h:SqT X.K H a xs) (h':SqT X.K H a ys):xs=ys:=by
 obtain ⟨its,r,⟨o,e,_,n,d⟩,_⟩:=I.tuple h
 obtain ⟨its',r',⟨o',e',_,n',d'⟩,_⟩:=I.tuple h'
 rw [e] at e';cases e'
 rw [d] at d'
 injection d' with d1 _
 have:its=its':=by simpa using congrArg Array.toList d1
 subst this
 exact r.inj r'
end
abbrev Cx.wish (X:Cx) (E:Value→Shared→Prop):Cx:={X with xe:=E}
abbrev Cx.nox (X:Cx):Cx:=X.wish fun _ _=>False
theorem Cx.Ok.wish {X:Cx} (ok:X.Ok) (E:Value→Shared→Prop):(X.wish E).Ok :=
 ⟨ok.mod,ok.kind,ok.glob,ok.blt,ok.above,ok.inj,ok.has,ok.cab,ok.hd,ok.frames,ok.stk,ok.exf,ok.bs,ok.bsz,ok.noex,ok.exfs,ok.funs,ok.frf⟩
theorem Cx.Ok.unwish {X:Cx} {E:Value→Shared→Prop} (ok:(X.wish E).Ok):X.Ok :=
 ⟨ok.mod,ok.kind,ok.glob,ok.blt,ok.above,ok.inj,ok.has,ok.cab,ok.hd,ok.frames,ok.stk,ok.exf,ok.bs,ok.bsz,ok.noex,ok.exfs,ok.funs,ok.frf⟩
section
variable {X:Cx} {pins:List (Addr×Obj)} {σ:St} {H:Hp} {s:Shared} {E:Value→Shared→Prop}
theorem Inv.wish (I:Inv X pins σ H s) (E:Value→Shared→Prop):Inv (X.wish E) pins σ H s:=⟨I.ok.wish E,I.os,I.bare,I.base,I.loc,I.cell,I.free,I.freeC,I.pin,I.hok,I.len⟩
theorem Inv.unwish (I:Inv (X.wish E) pins σ H s):Inv X pins σ H s:=⟨I.ok.unwish,I.os,I.bare,I.base,I.loc,I.cell,I.free,I.freeC,I.pin,I.hok,I.len⟩
theorem SP.unwish {D:Ends} {f:Flow} {s':Shared} (h:SP (X.wish E) pins D f s'):SP X pins D f s':=by
 cases f with
 |next=>obtain ⟨σ',H',I,q⟩:=h;exact ⟨σ',H',I.unwish,q⟩
 |brk=>obtain ⟨σ',H',I,q⟩:=h;exact ⟨σ',H',I.unwish,q⟩
 |cont=>obtain ⟨σ',H',I,q⟩:=h;exact ⟨σ',H',I.unwish,q⟩
 |ret u=>obtain ⟨v,σ',H',I,r,q⟩:=h;exact ⟨v,σ',H',I.unwish,r,q⟩
theorem PSs.nox {st:List Stmt} {t:TS} (h:PSs X.nox st t):PSs X st t:=fun pins s σ H D I hw =>
 wpAny_mono (h pins s σ H D (I.wish _) hw) (fun _ _ q=>q.unwish) fun _ _ z=>False.elim z
end
section
variable {X:Cx} {st:Stmt} {rest:List Stmt} {t u:TS} {e:Expr} {te:TE} {pos:Pos}
def pA:TS:=fun D σ H=>D.nx σ H
def pP (t u:TS):TS:=fun D σ H=>t {D with nx:=u D} σ H
theorem kD:PSs X [] pA:=fun _ _ σ H _ I h=>wpAny_execs_nil ⟨σ,H,I,h⟩
theorem jI (h1:PS X st t) (h2:PSs X rest u):PSs X (st::rest) (pP t u):=by
 intro pins s σ H D I h
 refine wpAny_execs_cons (jD (h1 pins s σ H {D with nx:=u D} I h) fun f s1 q=>?_)
 cases f with
 |next =>
  obtain ⟨σ',H',I',q⟩:=q
  exact h2 pins s1 σ' H' D I' q
 |ret v=>exact q
 |brk=>exact q
 |cont=>exact q
theorem jG (h1:PS X st t):PSs X [st] t:=by
 intro pins s σ H D I h
 refine wpAny_execs_cons (jD (h1 pins s σ H D I h) fun f s1 q=>?_)
 cases f with
 |next=>exact wpAny_execs_nil q
 |ret v=>exact q
 |brk=>exact q
 |cont=>exact q
theorem Inv.quiet {pins:List (Addr×Obj)} {σ:St} {H:Hp} {s:Shared} (I:Inv X pins σ H s):interactive X.env=false:=by simp [interactive,I.ok.kind]
def pB (te:TE):TS:=fun D σ H=>te σ H fun _ H1=>D.nx σ H1
theorem qV (he:PE X e te) (hs:swapsWith e none pos.line X.env=pure false:=by rfl):PS X (.Expr e pos) (pB te):=by
 intro pins s σ H D I h
 exact wpAny_Expr_any (jD (he pins s σ H _ I h) fun v s1 ⟨x,H1,I1,r1,q1⟩=>⟨σ,H1,I1,q1⟩) I.quiet hs
def pQ (te:TE):TS:=fun D σ H=>te σ H D.rt
theorem jP (he:PE X e te):PS X (.Return (some e) pos) (pQ te):=by
 intro pins s σ H D I h
 exact wpAny_Return_some (jD (he pins s σ H _ I h) fun v s1 ⟨x,H1,I1,r1,q1⟩=>⟨x,σ,H1,I1,r1,q1⟩)
def pV (c:TT) (t u:TS):TS:=fun D σ H=>c σ H fun b H1=>if b=true then t D σ H1 else u D σ H1
theorem j9 {c:Expr} {a b:List Stmt} {tc:TT} (hc:PT X c tc) (ha:PSs X a t) (hb:PSs X b u):PS X (.If c a b pos) (pV tc t u):=by
 intro pins s σ H D I h
 refine wpAny_If (jD (hc pins s σ H _ I h) fun d s1 ⟨H1,I1,q1⟩=>?_)
 cases d with
 |true=>exact ha pins s1 σ H1 D I1 q1
 |false=>exact hb pins s1 σ H1 D I1 q1
end
abbrev TG:=V→St→Hp→(St→Hp→Prop)→Prop
abbrev v9:=List V→St→Hp→(St→Hp→Prop)→Prop
def PG (X:Cx) (target:Expr) (t:TG):Prop :=
 ∀(pins:List (Addr×Obj)) (s:Shared) (σ:St) (H:Hp) (v:V) (u:Value) (Q:St→Hp→Prop),Inv X pins σ H s→RelV v u→t v σ H Q→
  wpAny (model X.prog X.w) X.A (assign target X.env u) (fun _ s'=>∃σ' H',Inv X pins σ' H' s'∧Q σ' H') X.xe s
def JO (X:Cx) (ts:List Expr) (t:v9):Prop :=
 ∀(pins:List (Addr×Obj)) (s:Shared) (σ:St) (H:Hp) (vs:List V) (us:List Value) (Q:St→Hp→Prop),Inv X pins σ H s→Vals vs us→t vs σ H Q→
  wpAny (model X.prog X.w) X.A (assignInOrder ((assignEach ts X.env).map (·.2)) us) (fun _ s'=>∃σ' H',Inv X pins σ' H' s'∧Q σ' H') X.xe s
section
variable {X:Cx} {pos:Pos}
def JJ (i:Nat):TG:=fun v σ H Q=>Q (σ.set i (some v)) H
theorem j8 {i:Nat} {x:Str} (hN:X.N.Nodup) (hi:X.N[i]?=some x) (hx:JP X.env.scope x) (hf:X.fn x=true∨X.env.scope.names.lookup x=some .local:=by first|exact .inl rfl|exact .inr rfl|assumption):PG X (.Name x pos) (JJ i):=by
 intro pins s σ H v u Q I r h
 exact wpAny_assign_Name (cV I hN hi hx r (fun s' I'=>⟨_,H,I',h⟩) hf)
def rB:v9:=fun vs σ H Q=>vs=[]∧Q σ H
def pK (t:TG) (u:v9):v9:=fun vs σ H Q=>∃v r,vs=v::r∧t v σ H fun σ' H'=>u r σ' H' Q
theorem ZN:JO X [] rB:=by
 intro pins s σ H vs us Q I r h
 obtain ⟨e,h⟩:=h
 subst e
 cases r
 exact assignInOrder_nil ⟨σ,H,I,h⟩
theorem zN {e:Expr} {es:List Expr} {t:TG} {u:v9} (h1:PG X e t) (h2:JO X es u)
  (hs:(assignEach (e::es) X.env).map (·.2)=assign e X.env::(assignEach es X.env).map (·.2):=by rfl):JO X (e::es) (pK t u):=by
 intro pins s σ H vs us Q I r h
 obtain ⟨v,vr,e1,h⟩:=h
 subst e1
 cases r with
 |cons r rr =>
  rw [hs]
  refine assignInOrder_cons (jD (h1 pins s σ H _ _ _ I r h) fun _ s1 ⟨σ1,H1,I1,q1⟩=>?_)
  exact h2 pins s1 σ1 H1 _ _ Q I1 rr q1
def fK (K:PySem.W.Frag) (n:Nat) (t:v9):TG:=fun v σ H Q=>∃a xs,v=.ref a∧SqT K H a xs∧xs.length=n∧t xs σ H Q
theorem eL {es:List Expr} {k:Nat} {t:v9} {n:Nat} (hc:X.calm=true) (h:JO X es t)
  (hn:(assignEach es X.env).length=n:=by rfl) (hst:(assignEach es X.env).findIdx? (·.1)=none:=by rfl):PG X (.Tuple es k pos) (fK X.K n t):=by
 intro pins s σ H v u Q I r hw
 obtain ⟨a,xs,e1,hq,hl,hw⟩:=hw
 subst e1
 cases r
 obtain ⟨its,rv,ht,hz⟩:=I.tuple hq
 refine assign_Tuple_tuple (I.ok.hd hc) ht (by simp [hn,← hl,rv.length]) hst fun h' hx=>?_
 have I1:Inv X pins σ H {s with heap:=h'}:=I.kept (t':=s.toks) fun b o e=>hx b o (Nat.ne_of_lt (Heap.lt_size e)) e
 exact h pins _ σ H xs _ Q I1 (by simpa using rv) hw
def pY (te:TE) (g:TG):TS:=fun D σ H=>te σ H fun x H1=>g x σ H1 D.nx
theorem kJ {i:Nat} {x:Str} {e:Expr} {te:TE} {pos':Pos} (hN:X.N.Nodup) (hi:X.N[i]?=some x) (hx:JP X.env.scope x) (he:PE X e te) (hs:swapsWith e (some (.Name x pos')) pos.line X.env=pure false:=by rfl) (hf:X.fn x=true∨X.env.scope.names.lookup x=some .local:=by first|exact .inl rfl|exact .inr rfl|assumption) :
  PS X (.Assign [.Name x pos'] e pos) (pY te (JJ i)):=by
 intro pins s σ H D I h
 refine wpAny_Assign_Name (jD (he pins s σ H _ I h) fun v s1 ⟨y,H1,I1,r1,q1⟩=>?_) hs
 exact cV I1 hN hi hx r1 (fun s2 I2=>⟨_,H1,I2,q1⟩) hf
end
section
variable {X:Cx} {pos:Pos}
end
structure It where
 go:Nat→Hp→Prop
 yld:Nat→Hp→V→Hp→Prop
 stop:Nat→Hp→Prop
def qJ (X:Cx) (pins:List (Addr×Obj)) (H:Hp) (b:Addr):Prop :=
 H b=none∧b≠X.env.locals∧b∉X.fs∧(b∈X.ex∨X.s₀.heap.objs.size≤b)∧(∀x c,X.env.cells.lookup x=some c→c≠b)∧∀p∈X.pn++pins,p.1≠b
theorem Inv.fpOk {X:Cx} {pins:List (Addr×Obj)} {σ:St} {H H':Hp} {s:Shared} {b:Addr} (I:Inv X pins σ H s) (hb:s.heap.objs.size≤b) (hn:H' b=none):qJ X pins H' b:=by
 refine ⟨hn,Nat.ne_of_gt (Nat.lt_of_lt_of_le I.lt hb),I.nofs hb,.inr (Nat.le_trans I.sz hb),fun x c e z=>?_,fun p hp z=>?_⟩
 ·obtain ⟨v,q⟩:=I.cell x c e
  exact absurd (Nat.lt_of_lt_of_le q.lt (by rw [z];exact hb)) (Nat.lt_irrefl _)
 ·exact absurd (Nat.lt_of_lt_of_le (Heap.lt_size (I.pin p hp).1) (by rw [z];exact hb)) (Nat.lt_irrefl _)
structure Turn (P:Program) (w:World) (K:PySem.W.Frag) (tg:Expr) (J:It) (fp:List Addr) (it:Addr) (tn:Nat→Heap→Prop):Prop where
 mem:it∈fp
 obj:∀i h,tn i h→∀b∈fp,∃o,h.get? b=some o∧∀v,o.data≠.cell v
 keep:∀i h h',tn i h→(∀b∈fp,∀o,h.get? b=some o→h'.get? b=some o)→tn i h'
 item:∀(X:Cx),X.prog=P→X.w=w→X.K=K→X.calm=true→∀(i:Nat) (pins:List (Addr×Obj)) (s:Shared) (σ:St) (H:Hp) (E:Value→Shared→Prop),Inv X pins σ H s→(∀b∈fp,qJ X pins H b)→tn i s.heap→J.go i H→
  wpAny (model P w) X.A (pyNext (.ref it)) (fun r s1=>∃u,r=some u∧
   wpAny (model P w) X.A (letOwnedTupleGo tg (.ref it) u) (fun _ s2=>∃x H',Inv X pins σ H' s2∧RelV x u∧J.yld i H x H'∧tn (i+1) s2.heap∧∀b∈fp,H' b=none) E s1) E s
 done:∀(X:Cx),X.prog=P→X.w=w→X.K=K→X.calm=true→∀(i:Nat) (pins:List (Addr×Obj)) (s:Shared) (σ:St) (H:Hp) (E:Value→Shared→Prop),Inv X pins σ H s→(∀b∈fp,qJ X pins H b)→tn i s.heap→J.stop i H→
  wpAny (model P w) X.A (pyNext (.ref it)) (fun r s1=>r=none∧Inv X pins σ H s1) E s
 self:∀(A:Around) (i:Nat) (s:Shared) (Q:Value→Shared→Prop) (E:Value→Shared→Prop),tn i s.heap→Q (.ref it) s→wpAny (model P w) A (pyIter (.ref it)) Q E s
abbrev TI:=St→Hp→(It→Hp→Prop)→Prop
def bB (X:Cx) (pins:List (Addr×Obj)) (σ:St) (tg:Expr) (R:It→Hp→Prop) (itv:Value) (s2:Shared):Prop :=
 ∃(it:Addr) (fp:List Addr) (tn:Nat→Heap→Prop) (J:It) (H':Hp),itv=.ref it∧Inv X pins σ H' s2∧Turn X.prog X.w X.K tg J fp it tn∧tn 0 s2.heap∧(∀b∈fp,qJ X pins H' b)∧R J H'
def PI (X:Cx) (tg iter:Expr) (wi:TI):Prop :=
 ∀(pins:List (Addr×Obj)) (s:Shared) (σ:St) (H:Hp) (R:It→Hp→Prop),Inv X pins σ H s→wi σ H R→
  wpAny (model X.prog X.w) X.A (eval iter X.env) (fun v s1=>wpAny (model X.prog X.w) X.A (pyIter v) (bB X pins σ tg R) X.xe s1) X.xe s
theorem QM {M:Model} {A:Around} {E:Value→Shared→Prop} {s:Shared} {tg:Expr} {it:Addr} {u:Value} {o:Obj} {n:String} {vs:Array Value} {Q:Unit→Shared→Prop} (ho:s.heap.get? it=some o) (hc:o.cls=.type n) (hd:o.data=.fields vs)
    (hn:["enumerate","zip","dict_itemiterator","dict_reverseitemiterator","odict_iterator","itertools.zip_longest","itertools.pairwise"].contains n=false) (hQ:Q () s):wpAny M A (letOwnedTupleGo tg (.ref it) u) Q E s:=by
  unfold letOwnedTupleGo
  cases tg<;>first
    |exact wpAny_pure hQ
    | (cases u<;>first
        |exact wpAny_pure hQ
        | (refine wpAny_bind (wpAny_load ho ?_)
           rw [hc,hd]
           show wpAny M A (if (["enumerate","zip","dict_itemiterator","dict_reverseitemiterator","odict_iterator","itertools.zip_longest","itertools.pairwise"].contains n&&vs[0]? == some (rawInt _))=true then _ else _) Q E s
           rw [if_neg (by intro h;rw [hn,Bool.false_and] at h;cases h)]
           exact wpAny_pure hQ))
def QY (K:PySem.W.Frag) (a:Addr):It :=
 ⟨fun i H=>∃xs x,SqL K H a xs∧xs[i]?=some x,fun i H x H'=>H'=H∧∀xs,SqL K H a xs→xs[i]?=some x,fun i H=>∃xs,SqL K H a xs∧xs.length≤i⟩
def yW (K:PySem.W.Frag) (a:Addr):It :=
 ⟨fun i H=>∃xs x,SqT K H a xs∧xs[i]?=some x,fun i H x H'=>H'=H∧∀xs,SqT K H a xs→xs[i]?=some x,fun i H=>∃xs,SqT K H a xs∧xs.length≤i⟩
def z6 (lo:Int) (n:Nat):It:=⟨fun i _=>i<n,fun i H x H'=>H'=H∧x=.int (lo+i),fun i _=>n≤i⟩
theorem lE {P:Program} {w:World} {K:PySem.W.Frag} {tg:Expr} (a it:Addr):Turn P w K tg (QY K a) [it] it (fun i h=>h.IsListIter it a i) where
 mem:=by simp
 obj:=fun i h st b hb=>by
  have e:b=it:=by simpa using hb
  subst e
  obtain ⟨o,e,c,d⟩:=st
  exact ⟨o,e,fun v z=>by rw [d] at z;cases z⟩
 keep:=fun i h h' st k=>st.at fun o e=>k it (by simp) o e
 item:=by
  intro X hP hw hK hc i pins s σ H E I hf st hg
  subst hP hw hK
  obtain ⟨xs,x,hq,hx⟩:=hg
  obtain ⟨its,rv,p,hz⟩:=I.list hq
  obtain ⟨u,hu,ru⟩:=rv.get hx
  obtain ⟨f0,f1,f2,f3,f4,f5⟩:=hf it (by simp)
  refine wpAny_pyNext_list_item st p.isList (x:=u) (by simpa using hu) fun h' st' sb=>?_
  have I1:Inv X pins σ H {s with heap:=h'}:=I.turned (t':=s.toks) (fun b o hb e=>(sb.2 b hb).trans e) f0 f1 f3 f4 f5
  obtain ⟨o,e,c,d⟩:=id st'
  exact ⟨u,rfl,QM (s:={s with heap:=h'}) e c d (by decide) ⟨x,H,I1,ru,⟨rfl,fun ys hy=>by rw [I.list_inj hy hq];exact hx⟩,st',fun b hb=>(hf b hb).1⟩⟩
 done:=by
  intro X hP hw hK hc i pins s σ H E I hf st hg
  subst hP hw hK
  obtain ⟨xs,hq,hx⟩:=hg
  obtain ⟨its,rv,p,hz⟩:=I.list hq
  obtain ⟨f0,f1,f2,f3,f4,f5⟩:=hf it (by simp)
  have hl:=rv.length
  exact wpAny_pyNext_list_end (I.ok.hd hc) st p.isList (by simp;omega) fun h' eb=>⟨rfl,I.turned (t':=s.toks) (fun b o hb e=>eb b o hb e) f0 f1 f3 f4 f5⟩
 self:=fun _ _ _ _ _ st h=>wpAny_pyIter_listiter st h
theorem i1 {P:Program} {w:World} {K:PySem.W.Frag} {tg:Expr} (a it:Addr):Turn P w K tg (yW K a) [it] it (fun i h=>h.IsTupleIter it a i) where
 mem:=by simp
 obj:=fun i h st b hb=>by
  have e:b=it:=by simpa using hb
  subst e
  obtain ⟨o,e,c,d⟩:=st
  exact ⟨o,e,fun v z=>by rw [d] at z;cases z⟩
 keep:=fun i h h' st k=>st.at fun o e=>k it (by simp) o e
 item:=by
  intro X hP hw hK hc i pins s σ H E I hf st hg
  subst hP hw hK
  obtain ⟨xs,x,hq,hx⟩:=hg
  obtain ⟨its,rv,p,hz⟩:=I.tuple hq
  obtain ⟨u,hu,ru⟩:=rv.get hx
  obtain ⟨f0,f1,f2,f3,f4,f5⟩:=hf it (by simp)
  refine wpAny_pyNext_tuple_item st (show s.heap.IsTuple a its.toArray from p) (x:=u) (by simpa using hu) fun h' st' sb=>?_
  have I1:Inv X pins σ H {s with heap:=h'}:=I.turned (t':=s.toks) (fun b o hb e=>(sb.2 b hb).trans e) f0 f1 f3 f4 f5
  obtain ⟨o,e,c,d⟩:=id st'
  exact ⟨u,rfl,QM (s:={s with heap:=h'}) e c d (by decide) ⟨x,H,I1,ru,⟨rfl,fun ys hy=>by rw [I.tuple_inj hy hq];exact hx⟩,st',fun b hb=>(hf b hb).1⟩⟩
 done:=by
  intro X hP hw hK hc i pins s σ H E I hf st hg
  subst hP hw hK
  obtain ⟨xs,hq,hx⟩:=hg
  obtain ⟨its,rv,p,hz⟩:=I.tuple hq
  obtain ⟨f0,f1,f2,f3,f4,f5⟩:=hf it (by simp)
  have hl:=rv.length
  exact wpAny_pyNext_tuple_end (I.ok.hd hc) st (show s.heap.IsTuple a its.toArray from p) (by simp;omega) fun h' eb=>⟨rfl,I.turned (t':=s.toks) (fun b o hb e=>eb b o hb e) f0 f1 f3 f4 f5⟩
 self:=fun _ _ _ _ _ st h=>wpAny_pyIter_tupleiter st h
theorem i2 {P:Program} {w:World} {K:PySem.W.Frag} {tg:Expr} (it:Addr) (lo:Int) (n:Nat):Turn P w K tg (z6 lo n) [it] it (fun i h=>IsRangeIter h it (lo+(i:Nat)*1) ((n:Int) - (i:Nat)) 1) where
 mem:=by simp
 obj:=fun i h st b hb=>by
  have e:b=it:=by simpa using hb
  subst e
  exact ⟨_,st,fun v z=>by
   have z':Data.fields _=Data.cell v:=z
   cases z'⟩
 keep:=fun i h h' st k=>k it (by simp) _ st
 item:=by
  intro X hP hw hK hc i pins s σ H E I hf st hg
  subst hP hw hK
  obtain ⟨f0,f1,f2,f3,f4,f5⟩:=hf it (by simp)
  have W:=Walks.range (prog:=X.prog) (w:=X.w) (I.ok.hd hc) it lo 1 n
  refine W.item i s _ _ hg st fun v h' tk hv st' kk=>?_
  obtain ⟨t,rfl⟩:=hv
  have I1:Inv X pins σ H {s with heap:=h',toks:=tk}:=I.turned (fun b o hb e=>kk b o (by simpa using hb) e) f0 f1 f3 f4 f5
  refine ⟨_,rfl,QM (s:={s with heap:=h',toks:=tk}) (n:="range_iterator") st' rfl rfl (by decide) ⟨.int (lo+i),H,I1,⟨t,?_⟩,⟨rfl,rfl⟩,st',fun b hb=>(hf b hb).1⟩⟩
  rw [Int.mul_one]
 done:=by
  intro X hP hw hK hc i pins s σ H E I hf st hg
  subst hP hw hK
  obtain ⟨f0,f1,f2,f3,f4,f5⟩:=hf it (by simp)
  exact wpAny_pyNext_range_end (I.ok.hd hc) st (by have:n≤i:=hg;omega) fun h' eb=>⟨rfl,I.turned (t':=s.toks) (fun b o hb e=>eb b o hb e) f0 f1 f3 f4 f5⟩
 self:=fun _ _ _ _ _ st h=>wpAny_pyIter_rangeiter st h
end L2
namespace L2
open PySem PySem.Spec PyProof.Rows
section
variable {X:Cx} {tg:Expr}
def pJ (K:PySem.W.Frag) (tl:TE):TI:=fun σ H R=>tl σ H fun x H1=>∃a,x=.ref a∧(∃xs,SqL K H1 a xs)∧R (QY K a) H1
def p9 (K:PySem.W.Frag) (tl:TE):TI:=fun σ H R=>tl σ H fun x H1=>∃a,x=.ref a∧(∃xs,SqT K H1 a xs)∧R (yW K a) H1
theorem vK {l:Expr} {tl:TE} (hl:PE X l tl):PI X tg l (pJ X.K tl):=by
 intro pins s σ H R I h
 refine jD (hl pins s σ H _ I h) fun v s1 ⟨x,H1,I1,r1,q1⟩=>?_
 obtain ⟨a,e,⟨xs,hq⟩,q⟩:=q1
 subst e
 cases r1
 obtain ⟨its,rv,p,hz⟩:=I1.list hq
 refine wpAny_pyIter_list p.isList ?_
 refine ⟨s1.heap.objs.size,[s1.heap.objs.size],_,_,H1,rfl,I1.kept (t':=s1.toks) fun b o e=>Heap.get?_push_of_some _ e,lE a _,⟨_,Heap.get?_push_size _ rfl,rfl,rfl⟩,fun b hb=>?_,q⟩
 have e:b=s1.heap.objs.size:=by simpa using hb
 subst e
 exact I1.fpOk (Nat.le_refl _) (I1.hok.fresh (Nat.le_refl _))
theorem zT {l:Expr} {tl:TE} (hl:PE X l tl):PI X tg l (p9 X.K tl):=by
 intro pins s σ H R I h
 refine jD (hl pins s σ H _ I h) fun v s1 ⟨x,H1,I1,r1,q1⟩=>?_
 obtain ⟨a,e,⟨xs,hq⟩,q⟩:=q1
 subst e
 cases r1
 obtain ⟨its,rv,p,hz⟩:=I1.tuple hq
 refine wpAny_pyIter_tuple (show s1.heap.IsTuple a its.toArray from p) ?_
 refine ⟨s1.heap.objs.size,[s1.heap.objs.size],_,_,H1,rfl,I1.kept (t':=s1.toks) fun b o e=>Heap.get?_push_of_some _ e,i1 a _,⟨_,Heap.get?_push_size _ rfl,rfl,rfl⟩,fun b hb=>?_,q⟩
 have e:b=s1.heap.objs.size:=by simpa using hb
 subst e
 exact I1.fpOk (Nat.le_refl _) (I1.hok.fresh (Nat.le_refl _))
theorem mS {pins:List (Addr×Obj)} {σ:St} {H:Hp} {s:Shared} {R:It→Hp→Prop} {E:Value→Shared→Prop} {lo hi:Int} {t u v:Tok} {tk:Nat} (I:Inv X pins σ H s) (h1 : -(2 ^ 62)≤lo) (h2:lo<2 ^ 62) (h3 : -(2 ^ 62)≤hi) (h4:hi<2 ^ 62)
    (q:R (z6 lo (hi - lo).toNat) H):wpAny (model X.prog X.w) X.A (pyIter (.ref s.heap.objs.size)) (bB X pins σ tg R) E {s with heap:=s.heap.push {cls:=.type "range",data:=.fields #[.int lo t,.int hi u,.int 1 v]},toks:=tk}:=by
  refine wpAny_pyIter_range (IsRange.new ..) (small_one h1 h2 h3 h4) ?_
  have I1:Inv X pins σ H {s with heap:=s.heap.push {cls:=.type "range",data:=.fields #[.int lo t,.int hi u,.int 1 v]},toks:=tk}:=I.kept fun b o e=>Heap.get?_push_of_some _ e
  refine ⟨(s.heap.push {cls:=.type "range",data:=.fields #[.int lo t,.int hi u,.int 1 v]}).objs.size,[(s.heap.push {cls:=.type "range",data:=.fields #[.int lo t,.int hi u,.int 1 v]}).objs.size],_,_,H,rfl,
    I1.kept (t':=tk) fun b o e=>Heap.get?_push_of_some _ e,i2 _ lo (hi - lo).toNat,?_,fun b hb=>?_,q⟩
  · have e1:lo+((0:Nat):Int)*1=lo:=by simp
    have e2:(((hi - lo).toNat:Nat):Int) - ((0:Nat):Int)=Builtin.Range.rangeSize lo hi 1:=by rw [rangeSize_one];split<;>omega
    show IsRangeIter _ _ (lo+((0:Nat):Int)*1) ((((hi - lo).toNat:Nat):Int) - ((0:Nat):Int)) 1
    rw [e1,e2]
    exact Heap.get?_push_size _ rfl
  · have e:b=(s.heap.push {cls:=.type "range",data:=.fields #[.int lo t,.int hi u,.int 1 v]}).objs.size:=by simpa using hb
    subst e
    exact I1.fpOk (Nat.le_refl _) (I1.hok.fresh (Nat.le_refl _))
def pI (ta:TA):TI:=fun σ H R=>ta σ H fun vs H1=>∃j:Int,vs=[.int j]∧-(2 ^ 62)≤j∧j<2 ^ 62∧R (z6 0 j.toNat) H1
theorem zJ {a:Expr} {ta:TA} {p pos:Pos} (hg:Gl X "range") (hm:X.mg "range"=none) (ha:PA X [a] ta) (hs:starEach [a] X.env=[(false,eval a X.env)]:=by rfl):PI X tg (.Call (.Name "range" p) [a] [] pos) (pI ta):=by
 intro pins s σ H R I h
 refine Call_ (zW I hg hm boot_range (PyProof.Rows.callWith_type1 (jD (ha pos pins s σ H _ I h) fun us s1 ⟨vs,H1,I1,r1,q1⟩=>?_) hs rfl))
 obtain ⟨j,e,q1,q2,q⟩:=q1
 subst e
 cases r1 with
 |cons r rr =>
  cases rr
  obtain ⟨t,rfl⟩:=r
  exact call_range_1 (mS I1 (by omega) (by omega) q1 q2 (by simpa using q))
def pW (wi:TI) (g:TG) (tb:TS):TS:=fun D σ H=>wi σ H fun J H1=>∃W:Nat→Nat→St→Hp→Prop,(∃m,W 0 m σ H1)∧∀i m σ H,W i m σ H→
 (J.stop i H∧D.nx σ H)∨(J.go i H∧∃N:St→Hp→Prop,(∀σ' H',N σ' H'→∃m',m'<m∧W (i+1) m' σ' H')∧∀x H',J.yld i H x H'→g x σ H' fun σ2 H2=>tb {D with nx:=N,ct:=N,bk:=D.nx} σ2 H2)
def zS (fp:List Addr) (h:Heap):List (Addr×Obj):=fp.filterMap fun b=>(h.get? b).map fun o=>(b,o)
theorem zG {fp:List Addr} {h:Heap} {b:Addr} {o:Obj} (hb:b∈fp) (e:h.get? b=some o):(b,o)∈zS fp h:=List.mem_filterMap.mpr ⟨b,hb,by rw [e];rfl⟩
theorem lL {fp:List Addr} {h:Heap} {p:Addr×Obj} (hp:p∈zS fp h):p.1∈fp∧h.get? p.1=some p.2:=by
 obtain ⟨b,hb,e⟩:=List.mem_filterMap.mp hp
 cases q:h.get? b with
 |none=>rw [q] at e;cases e
 |some o =>
  rw [q] at e
  have e':(b,o)=p:=Option.some.inj e
  subst e'
  exact ⟨hb,q⟩
theorem Inv.pinned {pins:List (Addr×Obj)} {σ:St} {H:Hp} {s:Shared} {fp:List Addr} (I:Inv X pins σ H s) (hf:∀b∈fp,qJ X pins H b) (ho:∀b∈fp,∃o,s.heap.get? b=some o∧∀v,o.data≠.cell v):Inv X (pins++zS fp s.heap) σ H s :=
 I.pins_of fun p hp=>(List.mem_append.mp hp).elim (fun z=>I.pin p (List.mem_append_right _ z)) fun z=>by
  obtain ⟨hb,e⟩:=lL z
  obtain ⟨f0,f1,f2,_⟩:=hf p.1 hb
  obtain ⟨o,e',d⟩:=ho p.1 hb
  rw [e] at e';cases e'
  exact ⟨e,f0,f1,f2,d⟩
theorem Inv.unpinned {pins pl:List (Addr×Obj)} {σ:St} {H:Hp} {s:Shared} (I:Inv X (pins++pl) σ H s):Inv X pins σ H s:=I.pins_of fun p hp=>I.pin p (List.mem_append_right _ (List.mem_append_left _ hp))
theorem vR {iter:Expr} {body:List Stmt} {wi:TI} {g:TG} {tb:TS} {pos:Pos} (hp:PassesOwn (model X.prog X.w) X.A X.env X.xe) (hc:X.calm=true) (hi:PI X tg iter wi) (hg:PG X tg g) (hb:PSs X body tb)
  (hs:∀x,foldedSetIterable iter X.env x=pure x:=by intro _;rfl):PS X (.For tg iter body [] pos) (pW wi g tb):=by
 intro pins s σ H D I h
 refine wpAny_For (jD (hi pins s σ H _ I h) fun v s1 h1=>jD h1 fun itv s2 h2=>?_) hs
 obtain ⟨it,fp,tn,J,H2,e,I2,T,st2,f2,W,⟨m0,w0⟩,turn⟩:=h2
 subst e
 have stat:∀{H':Hp},(∀b∈fp,H' b=none)→∀b∈fp,qJ X pins H' b:=fun hn b hb=>⟨hn b hb,(f2 b hb).2⟩
 refine codeAny_forLoop_any (fun n s'=>∃i σ' H',Inv X pins σ' H' s'∧tn i s'.heap∧(∀b∈fp,H' b=none)∧W i n σ' H') ?_ m0 ⟨0,σ,H2,I2,st2,fun b hb=>(f2 b hb).1,w0⟩
 rintro n s3 ⟨i,σ3,H3,I3,st3,fr3,w3⟩
 rcases turn i n σ3 H3 w3 with ⟨stop,qn⟩|⟨go,N,hN,step⟩
 ·refine wpAny_passesOwn hp (jD (T.done X rfl rfl rfl hc i pins s3 σ3 H3 X.xe I3 (stat fr3) st3 stop) fun r s4 ⟨hr,I4⟩=>?_)
  subst hr
  exact wpAny_execs_nil ⟨σ3,H3,I4,qn⟩
 ·refine wpAny_passesOwn hp (jD (T.item X rfl rfl rfl hc i pins s3 σ3 H3 X.xe I3 (stat fr3) st3 go) fun r s4 ⟨u,hr,h4⟩=>?_)
  subst hr
  refine wpAny_passesOwn hp (jD h4 fun _ s5 ⟨x,H5,I5,r5,y5,st5,fr5⟩=>?_)
  have I5':=I5.pinned (stat fr5) (T.obj _ _ st5)
  refine wpAny_passesOwn hp (jD (hg _ s5 σ3 H5 x u _ I5' r5 (step x H5 y5)) fun _ s6 ⟨σ6,H6,I6,q6⟩=>?_)
  refine wpAny_passesOwn hp (jD (hb _ s6 σ6 H6 _ I6 q6) fun f s7 q7=>?_)
  have again:∀{σ7:St} {H7:Hp},Inv X (pins++zS fp s5.heap) σ7 H7 s7→N σ7 H7→∃m,m<n∧∃i σ' H',Inv X pins σ' H' s7∧tn i s7.heap∧(∀b∈fp,H' b=none)∧W i m σ' H':=fun {σ7 H7} I7 n7=>by
   obtain ⟨m',hm,w7⟩:=hN σ7 H7 n7
   refine ⟨m',hm,i+1,σ7,H7,I7.unpinned,T.keep _ _ _ st5 fun b hb o e=>(I7.pin (b,o) (List.mem_append_right _ (List.mem_append_right _ (zG hb e)))).1,fun b hb=>?_,w7⟩
   obtain ⟨o,e,d⟩:=T.obj _ _ st5 b hb
   exact (I7.pin (b,o) (List.mem_append_right _ (List.mem_append_right _ (zG hb e)))).2.1
  cases f with
  |next=>obtain ⟨σ7,H7,I7,n7⟩:=q7;exact again I7 n7
  |cont=>obtain ⟨σ7,H7,I7,n7⟩:=q7;exact again I7 n7
  |brk=>obtain ⟨σ7,H7,I7,q7⟩:=q7;exact ⟨σ7,H7,I7.unpinned,q7⟩
  |ret v=>obtain ⟨x7,σ7,H7,I7,r7,q7⟩:=q7;exact ⟨x7,σ7,H7,I7.unpinned,r7,q7⟩
end
theorem ZP {K:PySem.W.Frag} {a:Addr} {xs:List V} {g:TG} {tb:TS} {D:Ends} {σ:St} {H:Hp} (Pv:Nat→St→Hp→Prop) (h0:Pv 0 σ H) (hl:∀i σ H,i≤xs.length→Pv i σ H→SqT K H a xs)
    (hs:∀i x σ H,xs[i]?=some x→Pv i σ H→g x σ H fun σ2 H2=>tb {D with nx:=Pv (i+1),ct:=Pv (i+1),bk:=D.nx} σ2 H2) (hd:∀σ H,Pv xs.length σ H→D.nx σ H) :
    ∃W:Nat→Nat→St→Hp→Prop,(∃m,W 0 m σ H)∧∀i m σ H,W i m σ H→
      ((yW K a).stop i H∧D.nx σ H)∨((yW K a).go i H∧∃N:St→Hp→Prop,(∀σ' H',N σ' H'→∃m',m'<m∧W (i+1) m' σ' H')∧∀x H',(yW K a).yld i H x H'→g x σ H' fun σ2 H2=>tb {D with nx:=N,ct:=N,bk:=D.nx} σ2 H2):=by
  refine ⟨fun i m σ H=>m=xs.length - i∧i≤xs.length∧Pv i σ H,⟨xs.length,by simp,Nat.zero_le _,h0⟩,?_⟩
  rintro i m σ H ⟨rfl,hi,p⟩
  have q:=hl i σ H hi p
  by_cases hlt:i<xs.length
  · refine .inr ⟨⟨xs,xs[i],q,by simp [hlt]⟩,Pv (i+1),fun σ' H' p'=>⟨xs.length - (i+1),by omega,rfl,hlt,p'⟩,fun x H' y=>?_⟩
    obtain ⟨e,y⟩:=y
    subst e
    exact hs i x σ _ (y xs q) p
  · have e:i=xs.length:=by omega
    subst e
    exact .inl ⟨⟨xs,q,Nat.le_refl _⟩,hd σ H p⟩
theorem yK {lo:Int} {n:Nat} {g:TG} {tb:TS} {D:Ends} {σ:St} {H:Hp} (Pv:Nat→St→Hp→Prop) (h0:Pv 0 σ H)
  (hs:∀i σ H,i<n→Pv i σ H→g (.int (lo+i)) σ H fun σ2 H2=>tb {D with nx:=Pv (i+1),ct:=Pv (i+1),bk:=D.nx} σ2 H2) (hd:∀σ H,Pv n σ H→D.nx σ H) :
  ∃W:Nat→Nat→St→Hp→Prop,(∃m,W 0 m σ H)∧∀i m σ H,W i m σ H→
   ((z6 lo n).stop i H∧D.nx σ H)∨((z6 lo n).go i H∧∃N:St→Hp→Prop,(∀σ' H',N σ' H'→∃m',m'<m∧W (i+1) m' σ' H')∧∀x H',(z6 lo n).yld i H x H'→g x σ H' fun σ2 H2=>tb {D with nx:=N,ct:=N,bk:=D.nx} σ2 H2):=by
 refine ⟨fun i m σ H=>m=n - i∧i≤n∧Pv i σ H,⟨n,by simp,Nat.zero_le _,h0⟩,?_⟩
 rintro i m σ H ⟨rfl,hi,p⟩
 by_cases hlt:i<n
 ·refine .inr ⟨hlt,Pv (i+1),fun σ' H' p'=>⟨n - (i+1),by omega,rfl,hlt,p'⟩,fun x H' y=>?_⟩
  obtain ⟨e,y⟩:=y
  subst e y
  exact hs i σ _ hlt p
 ·have e:i=n:=by omega
  subst e
  exact .inl ⟨Nat.le_refl _,hd σ H p⟩
end L2
namespace L2
open PySem PySem.Spec PyProof.Rows
abbrev R2:=V→V→Hp→VK→Prop
def OpR (X:Cx) (f:Value→Value→Sem Value) (r:R2):Prop :=
 ∀(pins:List (Addr×Obj)) (s:Shared) (σ:St) (H:Hp) (x y:V) (v u:Value) (Q:VK),Inv X pins σ H s→RelV x v→RelV y u→r x y H Q→
  wpAny (model X.prog X.w) X.A (f v u) (EP X pins σ Q) X.xe s
def CallR (X:Cx) (f:Value) (r:List V→Hp→VK→Prop):Prop :=
 ∀(pins:List (Addr×Obj)) (s:Shared) (σ:St) (H:Hp) (xs:List V) (us:List Value) (Q:VK),Inv X pins σ H s→Vals xs us→r xs H Q→
  wpAny (model X.prog X.w) X.A (call f us) (EP X pins σ Q) X.xe s
def QS (r:R2) (ta tb:TE):TE:=fun σ H Q=>ta σ H fun x H1=>tb σ H1 fun y H2=>r x y H2 Q
def rI (C:Int→Int→Prop) (g:Int→Int→V):R2:=fun x y H Q=>∃i j,x=.int i∧y=.int j∧C i j∧Q (g i j) H
def z4 (g:Int→Int→V):R2:=fun x y H Q=>∃i j,x=.int i∧y=.int j∧Q (g i j) H
section
variable {X:Cx} {a b c:Expr} {ta tb tc:TE} {pos:Pos}
theorem Z7 (ha:PE X a ta) (hb:PE X b tb) {pins:List (Addr×Obj)} {s:Shared} {σ:St} {H:Hp} {R:V→V→Hp→Prop} (I:Inv X pins σ H s)
  (h:ta σ H fun x H1=>tb σ H1 fun y H2=>R x y H2) {Q:Value→Shared→Prop} {f:Value→Value→Sem Value}
  (hf:∀v u s2 x y H2,Inv X pins σ H2 s2→RelV x v→RelV y u→R x y H2→wpAny (model X.prog X.w) X.A (f v u) Q X.xe s2) :
  wpAny (model X.prog X.w) X.A (eval a X.env) (fun v s₁=>wpAny (model X.prog X.w) X.A (eval b X.env) (fun u s₂=>wpAny (model X.prog X.w) X.A (f v u) Q X.xe s₂) X.xe s₁) X.xe s:=by
 refine jD (ha pins s σ H _ I h) fun v s1 ⟨x,H1,I1,r1,q1⟩=>?_
 refine jD (hb pins s1 σ H1 _ I1 q1) fun u s2 ⟨y,H2,I2,r2,q2⟩=>?_
 exact hf v u s2 x y H2 I2 r1 r2 q2
theorem jF {op:Operator} {r:R2} (ho:OpR X (binaryOp op) r) (ha:PE X a ta) (hb:PE X b tb):PE X (.BinOp a op b pos) (QS r ta tb):=by
 intro pins s σ H Q I h
 exact wpAny_BinOp (Z7 ha hb I h fun v u s2 x y H2 I2 rx ry q=>ho pins s2 σ H2 x y v u Q I2 rx ry q)
theorem QT {f:Value→Value→Sem Value} {C:Int→Int→Prop} {g:Int→Int→Int}
  (rule:∀(i j:Int) (t u:Tok) (s:Shared) (Q:Value→Shared→Prop) (E:Value→Shared→Prop),C i j→Q (.int (g i j) s.toks) {s with toks:=s.toks+1}→wpAny (model X.prog X.w) X.A (f (.int i t) (.int j u)) Q E s) :
  OpR X f (rI C fun i j=>.int (g i j)):=by
 intro pins s σ H x y v u Q I rx ry h
 obtain ⟨i,j,rfl,rfl,hc,q⟩:=h
 obtain ⟨t,rfl⟩:=rx
 obtain ⟨t',rfl⟩:=ry
 exact rule i j t t' s _ _ hc ⟨.int (g i j),H,I.tok _,⟨_,rfl⟩,q⟩
theorem fI {f:Value→Value→Sem Value} {g:Int→Int→Int}
  (rule:∀(i j:Int) (t u:Tok) (s:Shared) (Q:Value→Shared→Prop) (E:Value→Shared→Prop),Q (.int (g i j) s.toks) {s with toks:=s.toks+1}→wpAny (model X.prog X.w) X.A (f (.int i t) (.int j u)) Q E s) :
  OpR X f (z4 fun i j=>.int (g i j)):=by
 intro pins s σ H x y v u Q I rx ry h
 obtain ⟨i,j,rfl,rfl,q⟩:=h
 obtain ⟨t,rfl⟩:=rx
 obtain ⟨t',rfl⟩:=ry
 exact rule i j t t' s _ _ ⟨.int (g i j),H,I.tok _,⟨_,rfl⟩,q⟩
theorem fJ {f:Value→Value→Sem Value} {g:Int→Int→Bool}
  (rule:∀(i j:Int) (t u:Tok) (s:Shared) (Q:Value→Shared→Prop) (E:Value→Shared→Prop),Q (.bool (g i j)) s→wpAny (model X.prog X.w) X.A (f (.int i t) (.int j u)) Q E s) :
  OpR X f (z4 fun i j=>.bl (g i j)):=by
 intro pins s σ H x y v u Q I rx ry h
 obtain ⟨i,j,rfl,rfl,q⟩:=h
 obtain ⟨t,rfl⟩:=rx
 obtain ⟨t',rfl⟩:=ry
 exact rule i j t t' s _ _ ⟨.bl (g i j),H,I,rfl,q⟩
def rH (i j:Int):Prop:=0<j∧j<1073741824
def rG (i j:Int):Prop:=0≤j∧j≤1000000∧i.natAbs<2 ^ 64
def CMul (i j:Int):Prop:=(-(2 ^ 64)<i∧i<2 ^ 64)∨(-(2 ^ 64)<j∧j<2 ^ 64)
theorem CMul.ok {i j:Int} (h:CMul i j):IntMulOk i j:=by
 rcases h with ⟨h1,h2⟩|⟨h1,h2⟩
 ·exact .of_left (intBits_le_64 h1 h2)
 ·exact .of_right (intBits_le_64 h1 h2)
theorem v4:OpR X (binaryOp .Add) (z4 fun i j=>.int (i+j)):=fI fun _ _ _ _ _ _ _ q=>add_int q
theorem eM:OpR X (binaryOp .Sub) (z4 fun i j=>.int (i - j)):=fI fun _ _ _ _ _ _ _ q=>sub_int q
theorem ZW:OpR X (binaryOp .Mult) (rI CMul fun i j=>.int (i*j)):=QT fun _ _ _ _ _ _ _ hc q=>mul_int q hc.ok
theorem q8:OpR X (binaryOp .FloorDiv) (rI rH fun i j=>.int (i / j)):=QT fun i j _ _ _ _ _ hc q=>by
 have h1:(0:Int)<j:=hc.1
 have h2:j<1073741824:=hc.2
 exact floordiv_int (by omega) (by rw [Int.fdiv_eq_ediv_of_nonneg i (by omega)];exact q) (.inl (PyProof.noPylong_small (by omega)))
theorem kA:OpR X (binaryOp .Mod) (rI (fun _ j=>0<j) fun i j=>.int (i%j)):=QT fun i j _ _ _ _ _ hc q=>by
 have h1:(0:Int)<j:=hc
 exact mod_int' (by omega) (by rw [Int.fmod_eq_emod_of_nonneg i (by omega)];exact q)
theorem ZV:OpR X (binaryOp .Pow) (rI rG fun i j=>.int (i ^ j.toNat)):=QT fun _ _ _ _ _ _ _ hc q=>pow_int_small hc.1 hc.2.1 hc.2.2 q
end
def fE:V→V→Bool
 |.non,.non=>true|.non,.int _=>true|.int _,.non=>true|.non,.bl _=>true|.bl _,.non=>true|.non,.str _=>true|.str _,.non=>true
 |.int _,.int _=>true|.bl _,.bl _=>true|.str _,.str _=>true|.byt _,.byt _=>true
 |.int _,.str _=>true|.str _,.int _=>true|.bl _,.str _=>true|.str _,.bl _=>true
 |_,_=>false
def rM:R2:=fun x y H Q=>fE x y=true∧Q (.bl (decide (x=y))) H
def rL:R2:=fun x y H Q=>fE x y=true∧Q (.bl (!decide (x=y))) H
theorem eF {i j:Int}:decide (V.int i=V.int j)=(i == j):=by
 rw [Bool.eq_iff_iff]
 simp
theorem eP {i j:Bool}:decide (V.bl i=V.bl j)=(i == j):=by
 rw [Bool.eq_iff_iff]
 simp
theorem eE {i j:Str}:decide (V.str i=V.str j)=(i == j):=by
 rw [Bool.eq_iff_iff]
 simp
theorem eG {i j:Array UInt8}:decide (V.byt i=V.byt j)=(i.toList == j.toList):=by
 rw [Bool.eq_iff_iff]
 cases i
 cases j
 simp
section
variable {X:Cx} {a b c:Expr} {ta tb tc:TE} {pos:Pos}
theorem jU {pins:List (Addr×Obj)} {σ:St} {H:Hp} {s:Shared} {Q:VK} {k k':Bool} (I:Inv X pins σ H s) (q:Q (.bl k) H) (e:k=k'):EP X pins σ Q (.bool k') s:=by
 subst e
 exact ⟨.bl k,H,I,rfl,q⟩
theorem kT:OpR X (compareOp .Eq) rM:=by
 intro pins s σ H x y v u Q I rx ry h
 obtain ⟨hs,q⟩:=h
 cases x with
 |non =>
  cases rx
  cases y with
  |non=>cases ry;exact PySem.EqNone.eq_none_none (jU I q (by simp))
  |bl j=>cases ry;exact PySem.EqNone.eq_none_bool (jU I q (by simp))
  |int j=>obtain ⟨t',rfl⟩:=ry;exact PySem.EqNone.eq_none_int (jU I q (by simp))
  |str j=>obtain ⟨t',rfl⟩:=ry;exact PySem.EqNone.eq_none_str (jU I q (by simp))
  |_=>exact absurd (show false=true from hs) Bool.false_ne_true
 |bl i =>
  cases rx
  cases y with
  |non=>cases ry;exact PySem.EqNone.eq_bool_none (jU I q (by simp))
  |bl j=>cases ry;exact eq_bool (jU I q eP)
  |str j=>obtain ⟨t',rfl⟩:=ry;exact PySem.EqMixed.eq_bool_str (jU I q (by simp))
  |_=>exact absurd (show false=true from hs) Bool.false_ne_true
 |int i =>
  obtain ⟨t,rfl⟩:=rx
  cases y with
  |non=>cases ry;exact PySem.EqNone.eq_int_none (jU I q (by simp))
  |int j=>obtain ⟨t',rfl⟩:=ry;exact eq_int (jU I q eF)
  |str j=>obtain ⟨t',rfl⟩:=ry;exact PySem.EqMixed.eq_int_str (jU I q (by simp))
  |_=>exact absurd (show false=true from hs) Bool.false_ne_true
 |str i =>
  obtain ⟨t,rfl⟩:=rx
  cases y with
  |non=>cases ry;exact PySem.EqNone.eq_str_none (jU I q (by simp))
  |bl j=>cases ry;exact PySem.EqMixed.eq_str_bool (jU I q (by simp))
  |int j=>obtain ⟨t',rfl⟩:=ry;exact PySem.EqMixed.eq_str_int (jU I q (by simp))
  |str j=>obtain ⟨t',rfl⟩:=ry;exact eq_str (jU I q eE)
  |_=>exact absurd (show false=true from hs) Bool.false_ne_true
 |byt i =>
  obtain ⟨t,rfl⟩:=rx
  cases y with
  |byt j=>obtain ⟨t',rfl⟩:=ry;exact PySem.W.eq_bytes (jU I q eG)
  |_=>exact absurd (show false=true from hs) Bool.false_ne_true
 |_=>cases y<;>exact absurd (show false=true from hs) Bool.false_ne_true
theorem yS:OpR X (compareOp .NotEq) rL:=by
 intro pins s σ H x y v u Q I rx ry h
 obtain ⟨hs,q⟩:=h
 cases x with
 |non =>
  cases rx
  cases y with
  |non=>cases ry;exact PySem.EqNone.ne_none_none (jU I q (by simp))
  |bl j=>cases ry;exact PySem.EqNone.ne_none_bool (jU I q (by simp))
  |int j=>obtain ⟨t',rfl⟩:=ry;exact PySem.EqNone.ne_none_int (jU I q (by simp))
  |str j=>obtain ⟨t',rfl⟩:=ry;exact PySem.EqNone.ne_none_str (jU I q (by simp))
  |_=>exact absurd (show false=true from hs) Bool.false_ne_true
 |bl i =>
  cases rx
  cases y with
  |non=>cases ry;exact PySem.EqNone.ne_bool_none (jU I q (by simp))
  |bl j=>cases ry;exact ne_bool (jU I q (congrArg not eP))
  |str j=>obtain ⟨t',rfl⟩:=ry;exact PySem.EqMixed.ne_bool_str (jU I q (by simp))
  |_=>exact absurd (show false=true from hs) Bool.false_ne_true
 |int i =>
  obtain ⟨t,rfl⟩:=rx
  cases y with
  |non=>cases ry;exact PySem.EqNone.ne_int_none (jU I q (by simp))
  |int j=>obtain ⟨t',rfl⟩:=ry;exact ne_int (jU I q (congrArg not eF))
  |str j=>obtain ⟨t',rfl⟩:=ry;exact PySem.EqMixed.ne_int_str (jU I q (by simp))
  |_=>exact absurd (show false=true from hs) Bool.false_ne_true
 |str i =>
  obtain ⟨t,rfl⟩:=rx
  cases y with
  |non=>cases ry;exact PySem.EqNone.ne_str_none (jU I q (by simp))
  |bl j=>cases ry;exact PySem.EqMixed.ne_str_bool (jU I q (by simp))
  |int j=>obtain ⟨t',rfl⟩:=ry;exact PySem.EqMixed.ne_str_int (jU I q (by simp))
  |str j=>obtain ⟨t',rfl⟩:=ry;exact ne_str (jU I q (congrArg not eE))
  |_=>exact absurd (show false=true from hs) Bool.false_ne_true
 |byt i =>
  obtain ⟨t,rfl⟩:=rx
  cases y with
  |byt j=>obtain ⟨t',rfl⟩:=ry;exact PySem.W.ne_bytes (jU I q (congrArg not eG))
  |_=>exact absurd (show false=true from hs) Bool.false_ne_true
 |_=>cases y<;>exact absurd (show false=true from hs) Bool.false_ne_true
theorem eX:OpR X (compareOp .Lt) (z4 fun i j=>.bl (decide (i<j))):=fJ fun _ _ _ _ _ _ _ q=>lt_int q
theorem QL:OpR X (compareOp .LtE) (z4 fun i j=>.bl (decide (i≤j))):=fJ fun _ _ _ _ _ _ _ q=>le_int q
theorem lJ:OpR X (compareOp .In) (fun x y H Q=>∃i j,x=.str i∧y=.str j∧Q (.bl (!(Builtin.Str.occurrences j i 0 j.length 1).isEmpty)) H):=by
 intro pins s σ H x y v u Q I rx ry h
 obtain ⟨i,j,rfl,rfl,q⟩:=h
 obtain ⟨t,rfl⟩:=rx
 obtain ⟨t',rfl⟩:=ry
 exact in_str (jU I q rfl)
theorem OpR.or {f:Value→Value→Sem Value} {r r':R2} (h:OpR X f r) (h':OpR X f r'):OpR X f (fun x y H Q=>r x y H Q∨r' x y H Q):=by
 intro pins s σ H x y v u Q I rx ry q
 rcases q with q|q
 ·exact h pins s σ H x y v u Q I rx ry q
 ·exact h' pins s σ H x y v u Q I rx ry q
theorem j6 (b:Expr) {op:CmpOp} (h:op≠.In:=by decide) (h2:op≠.NotIn:=by decide):behindInMarks op b=false:=by
 have e1:(op == CmpOp.In)=false:=by cases op<;>first|rfl|exact absurd rfl h
 have e2:(op == CmpOp.NotIn)=false:=by cases op<;>first|rfl|exact absurd rfl h2
 cases b<;>simp [behindInMarks,e1,e2]
theorem yN {op:CmpOp} {r:R2} (ho:OpR X (compareOp op) r) (ha:PE X a ta) (hb:PE X b tb) (hm:behindInMarks op b=false):PE X (.Compare a [op] [b] pos) (QS r ta tb):=by
 intro pins s σ H Q I h
 exact wpAny_Compare1 (Z7 ha hb I h fun v u s2 x y H2 I2 rx ry q=>ho pins s2 σ H2 x y v u Q I2 rx ry q) hm
def eS (t:TE):TT:=fun σ H Q=>t σ H fun x H'=>∃k,x=.bl k∧Q k H'
theorem kI {op:CmpOp} {r:R2} (ho:OpR X (compareOp op) r) (ha:PE X a ta) (hb:PE X b tb) (hm:behindInMarks op b=false):PT X (.Compare a [op] [b] pos) (eS (QS r ta tb)):=by
 intro pins s σ H Q I h
 refine wpAny_isTrue_Compare1 (jD (ha pins s σ H _ I h) fun v s1 ⟨x,H1,I1,r1,q1⟩=>jD (hb pins s1 σ H1 _ I1 q1) fun u s2 ⟨y,H2,I2,r2,q2⟩ =>
  jD (ho pins s2 σ H2 x y v u _ I2 r1 r2 q2) fun c s3 ⟨z,H3,I3,r3,k,e,q3⟩=>?_) hm
 subst e
 cases r3
 exact wpAny_truthy_bool ⟨H3,I3,q3⟩
def eI (r r':R2) (ta tb tc:TE):TE:=fun σ H Q=>ta σ H fun x H1=>tb σ H1 fun y H2=>r x y H2 fun z H3=>∃k,z=.bl k∧
 (if k=true then tc σ H3 fun w' H4=>r' y w' H4 Q else Q (.bl false) H3)
theorem mW {op op':CmpOp} {r r':R2} (ho:OpR X (compareOp op) r) (ho':OpR X (compareOp op') r') (ha:PE X a ta) (hb:PE X b tb) (hc:PE X c tc)
  (hm:lastMarks [op,op'] [b,c]=false:=by with_unfolding_all rfl):PE X (.Compare a [op,op'] [b,c] pos) (eI r r' ta tb tc):=by
 intro pins s σ H Q I h
 refine Compare_chain (jD (ha pins s σ H _ I h) fun v s1 ⟨x,H1,I1,r1,q1⟩=>chain_link (jD (hb pins s1 σ H1 _ I1 q1) fun u s2 ⟨y,H2,I2,r2,q2⟩ =>
  jD (ho pins s2 σ H2 x y v u _ I2 r1 r2 q2) fun d s3 ⟨z,H3,I3,r3,k,e,q3⟩=>?_)) hm
 subst e
 cases r3
 refine wpAny_truthy_bool ?_
 cases k with
 |false=>exact ite_ff ⟨.bl false,H3,I3,rfl,q3⟩
 |true=>exact ite_tt (chain_last (jD (hc pins s3 σ H3 _ I3 q3) fun w' s4 ⟨z',H4,I4,r4,q4⟩=>ho' pins s4 σ H4 y z' u w' Q I4 r2 r4 q4))
theorem mT {op op':CmpOp} {r r':R2} (ho:OpR X (compareOp op) r) (ho':OpR X (compareOp op') r') (ha:PE X a ta) (hb:PE X b tb) (hc:PE X c tc)
  (hm:lastMarks [op,op'] [b,c]=false:=by with_unfolding_all rfl):PT X (.Compare a [op,op'] [b,c] pos) (eS (eI r r' ta tb tc)):=by
 intro pins s σ H Q I h
 refine isTrue_chain (jD (ha pins s σ H _ I h) fun v s1 ⟨x,H1,I1,r1,q1⟩=>test_link (jD (hb pins s1 σ H1 _ I1 q1) fun u s2 ⟨y,H2,I2,r2,q2⟩ =>
  jD (ho pins s2 σ H2 x y v u _ I2 r1 r2 q2) fun d s3 ⟨z,H3,I3,r3,k,e,q3⟩=>?_)) hm
 subst e
 cases r3
 refine wpAny_truthy_bool ?_
 cases k with
 |false =>
  obtain ⟨k',e',q'⟩:=q3
  cases e'
  exact ite_ff ⟨H3,I3,q'⟩
 |true =>
  refine ite_tt (test_last (jD (hc pins s3 σ H3 _ I3 q3) fun w' s4 ⟨z',H4,I4,r4,q4⟩=>jD (ho' pins s4 σ H4 y z' u w' _ I4 r2 r4 q4) fun d' s5 ⟨z2,H5,I5,r5,k2,e2,q5⟩=>?_))
  subst e2
  cases r5
  exact wpAny_truthy_bool ⟨H5,I5,q5⟩
theorem JG:(sizeLine:Nat)<2 ^ 63:=by rw [sizeLine_eq];decide
theorem zF:OpR X (binaryOp .Add) (fun x y H Q=>∃i j,x=.str i∧y=.str j∧i.length+j.length≤sizeLine∧Q (.str (i++j)) H):=by
 intro pins s σ H x y v u Q I rx ry h
 obtain ⟨i,j,rfl,rfl,hz,q⟩:=h
 obtain ⟨t,rfl⟩:=rx
 obtain ⟨t',rfl⟩:=ry
 exact add_str (fun t' tk=>⟨.str (i++j),H,I.tok _,⟨_,rfl⟩,q⟩) hz
theorem yQ {x:V} {us:List Value} (r:Vals [x] us):∃u,us=[u]∧RelV x u:=by
 cases r with
 |cons r1 r2=>cases r2;exact ⟨_,rfl,r1⟩
theorem o7 {x y:V} {us:List Value} (r:Vals [x,y] us):∃u w',us=[u,w']∧RelV x u∧RelV y w':=by
 cases r with
 |cons r1 r2 =>
  cases r2 with
  |cons r3 r4=>cases r4;exact ⟨_,_,rfl,r1,r3⟩
end
end L2
namespace L2
open PySem PySem.Spec PyProof.Rows
structure ObjM (h:Heap) (x dx C:Addr) (mA:Str→Option Value):Prop where
 obj:h.get? x=some (PySem.W.instObj C dx)
 ns:h.Ns1 dx mA
 ne:dx≠x
theorem lR {h:Heap} {dx:Addr} {mA:Str→Option Value} (n:h.Ns1 dx mA):∃od,h.get? dx=some od∧∀name,PySem.W.lookIn name od=some (mA name):=by
 obtain ⟨o,es,ep,ho,hd,hk,_,hm⟩:=n
 refine ⟨o,ho,fun name=>?_⟩
 have e:=hm name
 unfold nsFind findBy at e
 rw [← Array.find?_toList] at e
 unfold PySem.W.lookIn
 rw [hd]
 dsimp only
 split
 ·rename_i y q
  rw [q] at e
  exact congrArg some e
 ·rename_i q
  rw [q] at e
  have a:es.toList.any (·.refKey)=false:=by
   rw [List.any_eq_false]
   intro y hy
   obtain ⟨z,t,hkey⟩:=hk y (Array.mem_toList_iff.mp hy)
   simp [DictEntry.refKey,hkey]
  have a':¬es.toList.any (·.refKey)=true:=by rw [a];exact Bool.false_ne_true
  rw [if_neg a']
  exact congrArg some e
theorem ObjM.look {h:Heap} {x dx C:Addr} {mA:Str→Option Value} (I:ObjM h x dx C mA):∃od,PySem.W.InstAt h x (PySem.W.instObj C dx) C (some od)∧∀name,PySem.W.lookIn name od=some (mA name) :=
 let ⟨od,ho,hl⟩:=lR I.ns
 ⟨od,⟨I.obj,rfl,rfl,ho⟩,hl⟩
section
variable {prog:Program} {w:World} {A:Around} {E:Value→Shared→Prop} {s:Shared} {K:PySem.W.Frag} {x dx C f:Addr} {mA:Str→Option Value} {name:Str} {v:Value}
end
section
variable {P:Program} {w:World} {H H':Hp} {h h':Heap} {a C dx:Addr} {fs fs':List (Str×V)}
theorem oA (hok:HOk P w H h) (e:H a=some (.ins C dx fs)):∃mA,ObjM h a dx C mA∧(∀f,RelO (fs.lookup f) (mA f))∧PySem.Within mA (fs.map (·.1))∧fs.length≤1000∧H dx=some (.own a):=by
 obtain ⟨d,z,ne,ob,mA,n,r,q⟩:=(show ObjOk P w H h a (.ins C dx fs) from hok a _ e)
 exact ⟨mA,⟨ob,n,ne⟩,r,q,z,d⟩
end
structure Cls (K:PySem.W.Frag) (C:Addr):Prop where
 pg:PySem.W.plainGet K C Str.empty=true
 hd:PySem.W.hasDictIn K C=true
 po:PySem.W.plainOver K C=true
 sa:PySem.W.findIn K (.ref C) "__setattr__"=some (some (.builtin "object.__setattr__"))
theorem Cls.get {K:PySem.W.Frag} {C:Addr} (c:Cls K C) (f:Str):PySem.W.plainGet K C f=true:=c.pg
section
variable {X:Cx} {pins:List (Addr×Obj)} {σ:St} {H:Hp} {s:Shared} {a C dx:Addr} {fs:List (Str×V)} {f:Str} {v:V} {A:Around} {E:Value→Shared→Prop}
end
section
variable {X:Cx} {o e value:Expr} {f:Str} {pos pos' tpos:Pos} {ta tv:TE}
end
section
variable {X:Cx} {pins:List (Addr×Obj)} {σ:St} {H:Hp} {s:Shared} {A:Around} {E:Value→Shared→Prop} {Q:Value→Shared→Prop} {c:Value} {b:Bool}
inductive TyOf (K:PySem.W.Frag) (H:Hp):V→Value→Prop where
 |non:TyOf K H .non (.type "NoneType")
 |bl (x:Bool):TyOf K H (.bl x) (.type "bool")
 |int (i:Int):TyOf K H (.int i) (.type "int")
 |str (x:Str):TyOf K H (.str x) (.type "str")
 |flt (x:UInt64):TyOf K H (.flt x) (.type "float")
 |lst {a:Addr} {xs:List V} (e:H a=some (.lst xs)):TyOf K H (.ref a) (.type "list")
 |frz {a:Addr} {o:Obj} {xs:List V} (e:H a=some (.frz o (.lst xs))):TyOf K H (.ref a) (.type "list")
 |tup {a:Addr} {xs:List V} (e:H a=some (.tup xs)):TyOf K H (.ref a) (.type "tuple")
 |dK {a:Addr} {kvs:List (j3×V)} (e:H a=some (.dK kvs)):TyOf K H (.ref a) (.type "dict")
 |dT {a:Addr} {kvs:List (List j3×V)} (e:H a=some (.dT kvs)):TyOf K H (.ref a) (.type "dict")
 |ins {a C dx:Addr} {fs:List (Str×V)} (e:H a=some (.ins C dx fs)) (cl:Cls K C) (ha:PySem.W.findIn K (.ref C) "__class__"=some (some (.builtin "object.__class__")))
   (hn:PySem.W.specialIn K (.builtin "object.__class__") "__get__"=some (some (.builtin "getset_descriptor.__get__"))) (htk:PySem.W.takesIn K (.builtin "object.__class__")=some true)
   (hm:PySem.W.mroIn K C (.type "object")=some true):TyOf K H (.ref a) (.ref C)
theorem lU {x:V} {u t:Value} (I:Inv X pins σ H s) (rx:RelV x u) (ty:TyOf X.K H x t) (e:PySem.W.kitOne X.K t c=some b) (h:∀tk,Q (.bool b) {s with toks:=tk}) :
  wpAny (model X.prog X.w) A (call (.builtin "isinstance") [u,c]) Q E s:=by
 cases ty with
 |non=>cases (show u=Value.none from rx);exact PySem.W.kia_one PySem.W.kitx_none I.kIn True.intro e (fun z=>nomatch z) h
 |bl y=>cases (show u=Value.bool y from rx);exact PySem.W.kia_one PySem.W.kitx_bool I.kIn True.intro e (fun z=>nomatch z) h
 |int i=>obtain ⟨t,q⟩:=(show ∃t,u=Value.int i t from rx);cases q;exact PySem.W.kia_one PySem.W.kitx_int I.kIn True.intro e (fun z=>nomatch z) h
 |str y=>obtain ⟨t,q⟩:=(show ∃t,u=Value.str y t from rx);cases q;exact PySem.W.kia_one PySem.W.kitx_str I.kIn True.intro e (fun z=>nomatch z) h
 |flt y=>obtain ⟨t,q⟩:=(show ∃t,u=Value.float y t from rx);cases q;exact PySem.W.kia_one PySem.W.kitx_float I.kIn True.intro e (fun z=>nomatch z) h
 |@lst a xs ea =>
  cases (show u=Value.ref a from rx)
  obtain ⟨_,_,n,_,h1⟩:=(show ObjOk X.prog X.w H s.heap a (.lst xs) from I.hok a _ ea)
  exact PySem.W.kia_one PySem.W.kitx_list I.kIn ⟨_,h1,rfl⟩ e (fun z=>nomatch z) h
 |@frz a ob xs ea =>
  cases (show u=Value.ref a from rx)
  obtain ⟨_,_,_,n,_,h1⟩:=(show ObjOk X.prog X.w H s.heap a (.frz ob (.lst xs)) from I.hok a _ ea)
  exact PySem.W.kia_one PySem.W.kitx_list I.kIn ⟨_,h1,rfl⟩ e (fun z=>nomatch z) h
 |@tup a xs ea =>
  cases (show u=Value.ref a from rx)
  obtain ⟨_,_,_,p⟩:=(show ObjOk X.prog X.w H s.heap a (.tup xs) from I.hok a _ ea)
  obtain ⟨o,h1,h2,_⟩:=p
  exact PySem.W.kia_one PySem.W.kitx_tuple I.kIn ⟨o,h1,h2⟩ e (fun z=>nomatch z) h
 |@dK a kvs ea =>
  cases (show u=Value.ref a from rx)
  obtain ⟨_,_,vs,_,p⟩:=(show ObjOk X.prog X.w H s.heap a (.dK kvs) from I.hok a _ ea)
  obtain ⟨o,es,ep,h1,h2,_⟩:=p
  exact PySem.W.kia_one PySem.W.kitx_dict I.kIn ⟨o,h1,h2.1⟩ e (fun z=>nomatch z) h
 |@dT a kvs ea =>
  cases (show u=Value.ref a from rx)
  obtain ⟨_,_,xs,_,o,es,ep,h1,h2,_⟩:=(show ObjOk X.prog X.w H s.heap a (.dT kvs) from I.hok a _ ea)
  exact PySem.W.kia_one PySem.W.kitx_dict I.kIn ⟨o,h1,h2.1⟩ e (fun z=>nomatch z) h
 |@ins a C dx fs ea cl ha hn htk hm =>
  cases (show u=Value.ref a from rx)
  obtain ⟨mA,O,_⟩:=oA I.hok ea
  obtain ⟨od,J,_⟩:=O.look
  exact PySem.W.kia_one (PySem.W.kitx_own (cl.get _) cl.hd ha hn htk hm) I.kIn J e (fun z=>nomatch z) h
end
end L2
namespace L2
open PySem PySem.Spec PyProof.Rows
structure Room (k:Nat) (A:Around):Prop where
 hd:A.handled=none
 dp:A.depth+3*k+5<recursionLimit
 un:A.units+16*k+200<cLine
theorem Room.mono {j k:Nat} {A:Around} (r:Room k A) (h:j≤k):Room j A:=⟨r.hd,by have:=r.dp;omega,by have:=r.un;omega⟩
theorem Room.deeper {k:Nat} {A:Around} (r:Room (k+1) A) (env:Env):Room k (A.deeper env) :=
 ⟨r.hd,by have:=r.dp;show A.depth+1+3*k+5<_;omega,by have:=r.un;show A.units+3+16*k+200<_;omega⟩
theorem Room.depth {k:Nat} {A:Around} (r:Room k A):A.depth<recursionLimit:=by have:=r.dp;omega
theorem Room.units {k:Nat} {A:Around} (r:Room k A):A.units+64<cLine:=by have:=r.un;omega
theorem Room.units0 {k:Nat} {A:Around} (r:Room k A):A.units<cLine:=by have:=r.un;omega
def pT:TA:=fun _ H Q=>Q [] H
def pC (ta:TE) (tr:TA):TA:=fun σ H Q=>ta σ H fun x H1=>tr σ H1 fun xs H2=>Q (x::xs) H2
section
variable {X:Cx} {e:Expr} {es:List Expr} {te:TE} {t:TA} {pos:Pos}
theorem jB:PA X [] pT:=fun _ _ _ _ H Q I h=>Calls.spliced_nil ⟨[],H,I,.nil,h⟩
theorem jA (ha:PE X e te) (hr:PA X es t) (hs:starEach (e::es) X.env=(false,eval e X.env)::starEach es X.env:=by rfl):PA X (e::es) (pC te t):=by
 intro pos pins s σ H Q I h
 rw [hs]
 show wpAny _ _ (spliced ((false,eval e X.env)::backTo pos (starEach es X.env))) _ _ s
 refine Calls.spliced_cons (jD (ha pins s σ H _ I h) fun u s1 ⟨x,H1,I1,r1,q1⟩=>?_)
 exact jD (hr pos pins s1 σ H1 _ I1 q1) fun us s2 ⟨xs,H2,I2,r2,q2⟩=>⟨x::xs,H2,I2,.cons r1 r2,q2⟩
def pN (t:TA):TE:=fun σ H Q=>t σ H fun xs H1=>xs.length≤sizeLine∧∀p,H1 p=none→Q (.ref p) (upd H1 p (.tup xs))
def pU (t:TA):TE:=fun σ H Q=>t σ H fun xs H1=>xs.length≤sizeLine∧∀p,H1 p=none→Q (.ref p) (upd H1 p (.lst xs))
theorem vF {x1} (h:PA X es t):PE X (.Tuple es x1 pos) (pN t):=by
 intro pins s σ H Q I hq
 refine wpAny_Tuple_spliced (jD (h pos pins s σ H _ I hq) fun us s1 ⟨xs,H1,I1,r,z,q⟩=>⟨by rw [← r.length];exact z,?_⟩)
 have hf:H1 s1.heap.objs.size=none:=I1.hok.fresh (Nat.le_refl _)
 refine ⟨.ref s1.heap.objs.size,upd H1 s1.heap.objs.size (.tup xs),I1.laid (t':=s1.toks) (fun b u e=>Heap.get?_push_of_some _ e) (Nat.le_refl _) ?_,rfl,q _ hf⟩
 exact ⟨z,us,r,⟨_,Heap.get?_push_size _ rfl,rfl,_,rfl⟩⟩
theorem vC (h:PA X es t):PE X (.List es pos) (pU t):=by
 intro pins s σ H Q I hq
 refine wpAny_List_spliced (jD (h pos pins s σ H _ I hq) fun us s1 ⟨xs,H1,I1,r,z,q⟩=>⟨by rw [← r.length];exact z,?_⟩)
 have hf:H1 s1.heap.objs.size=none:=I1.hok.fresh (Nat.le_refl _)
 refine ⟨.ref s1.heap.objs.size,upd H1 s1.heap.objs.size (.lst xs),I1.laid (t':=s1.toks) (fun b u e=>Heap.get?_push_of_some _ e) (Nat.le_refl _) ?_,rfl,q _ hf⟩
 exact ⟨z,us,0,r,Heap.get?_push_size _ rfl⟩
end
abbrev Sp:=List V→Hp→VK→XK→Prop
abbrev qL:=List Env→Hp→Shared→XK→Value→Shared→Prop
structure Env0 (P:Program) (w:World) (K:PySem.W.Frag) (mg:Str→Option Value) (base:Heap) (A:Around) (outer:List Env) (s:Shared) (H:Hp):Prop where
 frames:A.frames=some outer
 mod:Mod K mg base
 bs:∀b o,base.get? b=some o→s.heap.get? b=some o∧H b=none
 bsz:base.objs.size≤s.heap.objs.size
 funs:s.heap.FunFrames base outer
 frf:∀b∈jJ outer,H b=none
 hok:HOk P w H s.heap
 bare:AllBare s.gens
def CE (outer:List Env) (P:Program) (w:World) (H:Hp) (s:Shared) (Q:VK) (u:Value) (s':Shared):Prop :=
 ∃v H',s'.os=s.os∧AllBare s'.gens∧Un (jJ outer) [] H H' s.heap s'.heap∧HOk P w H' s'.heap∧RelV v u∧Q v H'
def CR (CX:qL) (outer:List Env) (P:Program) (w:World) (H:Hp) (s:Shared) (Q:VK) (E:XK) (r:Result) (s':Shared):Prop :=
 match r with
 |.ok (.ret u)=>CE outer P w H s Q u s'
 |.ok _=>False
 |.error e=>CX outer H s E e s'
structure FnOk (P:Program) (w:World) (K:PySem.W.Frag) (mg:Str→Option Value) (base:Heap) (CX:qL) (k:Nat) (f:Addr) (fd:FuncData) (ps:List Str) (sp:Sp):Prop where
 len:∀vs H Q E,sp vs H Q E→vs.length=ps.length
 run:∀(A:Around) (outer:List Env) (s:Shared) (H:Hp) (args:Args) (us:List Value) (vs:List V) (Q:VK) (E:XK),Room k A→Env0 P w K mg base A outer s H→BindsTo s fd args (ps.zip us)→Vals vs us→sp vs H Q E→
  codeAny (model P w) A (.call (.ref f) args) (CR CX outer P w H s Q E) s
section
variable {X:Cx} {pins:List (Addr×Obj)} {σ:St} {H:Hp} {s s':Shared}
theorem Inv.env0 (I:Inv X pins σ H s):Env0 X.prog X.w X.K X.mg X.base X.A X.stack s H :=
 ⟨I.ok.frames,I.ok.mod,I.bs,Nat.le_trans I.ok.bsz I.sz,I.stack,I.stkFree,I.hok,I.bare⟩
theorem Inv.after {Q:VK} {u:Value} (I:Inv X pins σ H s) (h:CE X.stack X.prog X.w H s Q u s'):EP X pins σ Q u s':=by
 obtain ⟨v,H',os,bare,un,hok,r,q⟩:=h
 obtain ⟨hh,g,d,t,os'⟩:=s'
 obtain rfl:os'=s.os:=os
 exact ⟨v,H',I.call (h':=hh) (g':=g) (d':=d) (t':=t) (ch:=[]) un hok bare (fun b z=>absurd z (by simp)),r,q⟩
end
def eV (sp:Sp) (dvs:List V) (E:XK) (t:TA):TE:=fun σ H Q=>t σ H fun vs H1=>sp (vs++dvs) H1 Q E
def Binds (K:PySem.W.Frag) (fd:FuncData) (ps:List Str) (ds:List Value):Prop :=
 ∀(s:Shared) (us:List Value),K.In s.heap→(us++ds).length=ps.length→BindsTo s fd ⟨us,[]⟩ (ps.zip (us++ds))
theorem Binds.all {K:PySem.W.Frag} {fd:FuncData} {ps:List Str} (h:∀us:List Value,us.length=ps.length→bindArgs fd ⟨us,[]⟩=pure (ps.zip us)):Binds K fd ps []:=fun s us _ hl=>by
 rw [List.append_nil] at hl ⊢
 exact .of_eq (h us hl)
def Z1 (CX:qL) (X:Cx) (E:XK):Prop:=∀(pins:List (Addr×Obj)) (σ:St) (H:Hp) (s:Shared) (e:Value) (s':Shared),Inv X pins σ H s→CX X.stack H s E e s'→X.xe e s'
section
variable {X:Cx} {CX:qL} {k:Nat} {f C:Addr} {fd:FuncData} {ps:List Str} {sp:Sp} {dvs:List V} {ds:List Value} {E:XK} {x m:Str} {p pos apos:Pos} {e o:Expr} {es:List Expr} {ta:TE} {t:TA}
theorem oK {pins:List (Addr×Obj)} {σ:St} {H:Hp} {s:Shared} {Q:VK} {us:List Value} {vs:List V} (F:FnOk X.prog X.w X.K X.mg X.base CX k f fd ps sp) (hr:Room k X.A) (hb:Binds X.K fd ps ds) (hd:Vals dvs ds) (hx:Z1 CX X E)
  (I:Inv X pins σ H s) (r:Vals vs us) (h:sp (vs++dvs) H Q E):wpAny (model X.prog X.w) X.A (call (.ref f) us) (EP X pins σ Q) X.xe s:=by
 have r2:Vals (vs++dvs) (us++ds):=r.append hd
 have hl:(us++ds).length=ps.length:=by rw [← r2.length];exact F.len _ _ _ _ h
 refine wpAny_call (codeAny_mono (F.run X.A X.stack s H ⟨us,[]⟩ (us++ds) (vs++dvs) Q E hr I.env0 (hb s us I.kIn hl) r2 h) fun r s' hq=>?_)
 cases r with
 |error e=>exact hx pins σ H s e s' I hq
 |ok fl =>
  cases fl with
  |ret u=>exact I.after hq
  |next=>exact False.elim hq
  |brk=>exact False.elim hq
  |cont=>exact False.elim hq
theorem nY (F:FnOk X.prog X.w X.K X.mg X.base CX k f fd ps sp) (hr:Room k X.A) (hg:Gl X x) (hm:X.mg x=some (.ref f)) (hk:PySem.W.keepIn X.K (.ref f)=true) (hb:Binds X.K fd ps ds) (hd:Vals dvs ds) (hx:Z1 CX X E)
  (ha:PA X (e::es) t) (hdb:(x == ("__debug__":Str))=false:=by decide) (he:starEach (e::es) X.env=(false,eval e X.env)::starEach es X.env:=by rfl) (hpl:(backTo pos (starEach es X.env)).any (·.1)=false:=by rfl) :
  PE X (.Call (.Name x p) (e::es) [] pos) (eV sp dvs E t):=by
 intro pins s σ H Q I h
 refine wpAny_Call_Name_kw (QC I hg hm ?_ hdb)
 refine PySem.W.callWith_K (h₀:=X.base) I.ok.mod.kin hk (jD (ha pos pins s σ H _ I h) fun us s1 ⟨vs,H1,I1,r,q⟩=>⟨I1.kIn,?_⟩) he hpl
 exact oK F hr hb hd hx I1 r q
end
section
variable {X:Cx} {CX:qL} {k:Nat} {f C:Addr} {fd:FuncData} {ps ks:List Str} {sp:Sp} {E:XK} {x m:Str} {p pos apos kpos:Pos} {e o:Expr} {es:List Expr} {kws:List Keyword} {te ta:TE} {t tk:TA} {nm:Option Str}
variable {g:List Value→List Value→List Value} {gV:List V→List V→List V}
end
structure FnScope (N P:List Str) (sc:Scope):Prop where
 kind:sc.kind=.function
 co:sc.isCoroutine=false
 gen:sc.isGenerator=false
 nd:N.Nodup
 pre:N.take P.length=P
 par:∀x∈P,sc.names.lookup x=some .local∨sc.names.lookup x=some .cell
 nofree:∀y∈sc.names,y.2≠.free
theorem cN {kindOf:Str→Option NameKind} {x:Str}:∀{binds:List (Str×Value)} {m:Str→Option Value},(∀v,(x,v)∉binds)→bindL kindOf binds m x=m x
 |[],_,_=>rfl
 | (n,v)::r,m,h=>by
  unfold bindL
  rw [cN fun w hw=>h w (List.mem_cons_of_mem _ hw)]
  split
  ·have:x≠n:=by rintro rfl;exact h v List.mem_cons_self
   simp [this]
  ·rfl
theorem cP {kindOf:Str→Option NameKind} {x:Str}:∀{binds:List (Str×Value)} {m:Str→Option Value},(∀v,(x,v)∉binds)→bindC kindOf binds m x=m x
 |[],_,_=>rfl
 | (n,v)::r,m,h=>by
  unfold bindC
  rw [cP fun w hw=>h w (List.mem_cons_of_mem _ hw)]
  split
  ·rfl
  ·have:x≠n:=by rintro rfl;exact h v List.mem_cons_self
   simp [this]
theorem cO {kindOf:Str→Option NameKind} {x:Str} {v:Value}:∀{P:List Str} {vs:List Value} {i:Nat} {m:Str→Option Value},P.Nodup→P[i]?=some x→vs[i]?=some v→kindOf x=some .local→
  bindL kindOf (P.zip vs) m x=some v
 |[],_,_,_,_,h,_,_=>by simp at h
 |_::_,[],_,_,_,_,h,_=>by simp at h
 |p::P,w::vs,0,m,nd,h1,h2,hk=>by
  simp at h1 h2;subst h1;subst h2
  show bindL kindOf ((p,w)::P.zip vs) m p=_
  unfold bindL
  rw [cN fun v hv=>(List.nodup_cons.mp nd).1 (List.of_mem_zip hv).1,if_pos hk]
  simp
 |p::P,w::vs,i+1,m,nd,h1,h2,hk=>by
  show bindL kindOf ((p,w)::P.zip vs) m x=_
  unfold bindL
  exact cO (i:=i) (List.nodup_cons.mp nd).2 (by simpa using h1) (by simpa using h2) hk
theorem cQ {kindOf:Str→Option NameKind} {x:Str} {v:Value}:∀{P:List Str} {vs:List Value} {i:Nat} {m:Str→Option Value},P.Nodup→P[i]?=some x→vs[i]?=some v→kindOf x≠some .local→
  bindC kindOf (P.zip vs) m x=some v
 |[],_,_,_,_,h,_,_=>by simp at h
 |_::_,[],_,_,_,_,h,_=>by simp at h
 |p::P,w::vs,0,m,nd,h1,h2,hk=>by
  simp at h1 h2;subst h1;subst h2
  show bindC kindOf ((p,w)::P.zip vs) m p=_
  unfold bindC
  rw [cP fun v hv=>(List.nodup_cons.mp nd).1 (List.of_mem_zip hv).1,if_neg hk]
  simp
 |p::P,w::vs,i+1,m,nd,h1,h2,hk=>by
  show bindC kindOf ((p,w)::P.zip vs) m x=_
  unfold bindC
  exact cQ (i:=i) (List.nodup_cons.mp nd).2 (by simpa using h1) (by simpa using h2) hk
def vS (N:List Str) (vs:List V):St:=vs.map some++List.replicate (N.length - vs.length) none
def j4 (CX:qL) (P:Program) (w:World) (K:PySem.W.Frag) (mg:Str→Option Value) (base:Heap) (N:List Str) (qual:Str) (scope:Scope) (f:Addr) (cd:Value) (A:Around) (outer:List Env) (s:Shared) (H:Hp) (E:XK):Cx where
 prog:=P
 w:=w
 K:=K
 mg:=mg
 base:=base
 A:=A.deeper (envOfC qual scope s.heap.objs.size f cd)
 N:=N
 s₀:=s
 H₀:=H
 env:=envOfC qual scope s.heap.objs.size f cd
 outer:=outer
 stack:=envOfC qual scope s.heap.objs.size f cd::outer
 ex:=[]
 calm:=true
 fn:=fun _=>true
 pn:=[]
 xe:=fun e s'=>wpAny (model P w) (A.deeper (envOfC qual scope s.heap.objs.size f cd)) (leaving (envOfC qual scope s.heap.objs.size f cd) e) (fun _ s''=>CX outer H s E e s'') (fun e' s''=>CX outer H s E e' s'') s'
theorem dU {sc:Scope} {n:Nat} {x:Str} (h:sc.names.lookup x=some .cell):∃c,(cellsFrom n sc.names []).lookup x=some c:=by
 have q:=PySem.W.cellsFrom_some sc.names n [] (.inl h)
 exact Option.isSome_iff_exists.mp q
theorem lV {CX:qL} {P:Program} {w:World} {K:PySem.W.Frag} {mg:Str→Option Value} {base:Heap} {N ps:List Str} {qual:Str} {scope:Scope} {f:Addr} {cd:Value} {A:Around} {outer:List Env} {s s1:Shared} {H:Hp} {E:XK} {us:List Value} {vs:List V}
  (S:FnScope N ps scope) (hd:A.handled=none) (e0:Env0 P w K mg base A outer s H) (hl:vs.length=ps.length) (r:Vals vs us)
  (x:InCallC s s.heap.objs.size (bindL (envOfC qual scope s.heap.objs.size f cd).kindOf (ps.zip us) fun _=>none) (cellsFrom (s.heap.objs.size+1) scope.names []) (bindC (envOfC qual scope s.heap.objs.size f cd).kindOf (ps.zip us) fun _=>none) s1) :
  Inv (j4 CX P w K mg base N qual scope f cd A outer s H E) [] (vS N vs) H s1:=by
 have hpl:ps.length≤N.length:=by have:=congrArg List.length S.pre;rw [List.length_take] at this;omega
 obtain ⟨h1,tk,rfl,hk⟩:=x.done
 have noA:∀b:Addr,b∉(j4 CX P w K mg base N qual scope f cd A outer s H E).ex:=fun b z=>absurd (show b∈([]:List Addr) from z) (by simp)
 refine ⟨⟨e0.mod,S.kind,rfl,rfl,Nat.le_refl _,fun y z c h1 h2=>?_,fun y hy=>?_,fun y c _ h=>?_,fun _=>hd,Around.frames_deeper e0.frames,.inr ⟨rfl,rfl⟩,fun b z=>absurd z (noA b),e0.bs,e0.bsz,fun b _ _=>noA b,fun b z=>absurd z (noA b),e0.funs,e0.frf⟩,
  rfl,e0.bare,Un.kept hk,⟨_,x.toInCall.ns,fun i y v h1 h2 h3=>?_⟩,fun y c h=>⟨_,x.cell y c h⟩,e0.hok.fresh (Nat.le_refl _),fun y c h=>?_,fun p hp=>absurd (show p∈([]:List (Addr×Obj)) from hp) (by simp),e0.hok.kept hk,?_⟩
 ·exact name_of_addr x.apart (PySem.mem_of_lookup h1) (PySem.mem_of_lookup h2)
 ·have hy:scope.names.lookup y=some .cell∨scope.names.lookup y=some .free:=hy
  rcases hy with hy|hy
  ·exact dU hy
  ·exact absurd rfl (S.nofree _ (PySem.mem_of_lookup hy))
 ·exact Nat.le_of_lt (x.above y c (PySem.mem_of_lookup h))
 ·have hi:i<vs.length:=by
   unfold vS at h2
   by_cases hi:i<vs.length
   ·exact hi
   ·rw [List.getElem?_append_right (by simpa using hi)] at h2
    rw [List.getElem?_replicate] at h2
    split at h2<;>cases h2
  have ha:vs[i]?=some v:=by
   unfold vS at h2
   rw [List.getElem?_append_left (by simpa using hi),List.getElem?_map] at h2
   cases e:vs[i]? with
   |none=>rw [e] at h2;cases h2
   |some a=>rw [e] at h2;cases h2;rfl
  obtain ⟨u,hu,rv⟩:=r.get ha
  have hp:ps[i]?=some y:=by
   rw [← S.pre,List.getElem?_take_of_lt (by omega)];exact h1
  have ndP:ps.Nodup:=by rw [← S.pre];exact S.nd.sublist (List.take_sublist _ _)
  refine ⟨u,rv,?_⟩
  rcases S.par y (List.mem_of_getElem? hp) with k|k
  ·exact .inl ⟨k,cO ndP hp hu k⟩
  ·obtain ⟨c,e⟩:=dU (n:=s.heap.objs.size+1) k
   refine .inr ⟨.inl k,c,e,?_⟩
   have q:=x.cell y c e
   rw [cQ ndP hp hu (by show scope.names.lookup y≠_;rw [k];decide)] at q
   exact q
 ·exact e0.hok.fresh (Nat.le_of_lt (x.above y c (PySem.mem_of_lookup h)))
 ·unfold vS
  show _=N.length
  rw [List.length_append,List.length_map,List.length_replicate]
  omega
theorem e9 {CX:qL} {P:Program} {w:World} {K:PySem.W.Frag} {mg:Str→Option Value} {base:Heap} {k:Nat} {f:Addr} {name qual:Str} {params:Arguments} {body:List Stmt} {scope:Scope} {dV kV doc pm cdv ct oc:Value} {an od:Option Addr}
  {osl:Array (Option Value)} {N ps:List Str} {sp:Sp} (lk:K.lookup f=some ⟨oc,od,.func (PySem.W.fnOf name qual params body scope dV kV doc pm an cdv ct),osl⟩) (hcd:PySem.W.codeIn K cdv qual=true) (S:FnScope N ps scope)
  (len:∀vs H Q E,sp vs H Q E→vs.length=ps.length)
  (hbody:∀(A:Around) (outer:List Env) (s:Shared) (H:Hp) (vs:List V) (Q:VK) (E:XK),Room k (A.deeper (envOfC qual scope s.heap.objs.size f cdv))→sp vs H Q E→
   ∃t,PSs (j4 CX P w K mg base N qual scope f cdv A outer s H E) body t∧t {nx:=fun _ H'=>Q .non H',rt:=Q} (vS N vs) H) :
  FnOk P w K mg base CX (k+1) f (PySem.W.fnOf name qual params body scope dV kV doc pm an cdv ct) ps sp:=by
 refine ⟨len,fun A outer s H args us vs Q E hr e0 hb r hsp=>?_⟩
 have hl:=len _ _ _ _ hsp
 have KX:K.In s.heap:=e0.mod.kin.keeps fun b o e=>(e0.bs b o e).1
 have lim:s.heap.NoLimit:=e0.mod.nolimit.keeps fun b o e=>(e0.bs b o e).1
 have hkind:∀y∈ps.zip us,scope.names.lookup y.1=some .local∨(scope.names.lookup y.1=some .cell∧((cellsFrom (s.heap.objs.size+1) scope.names []).lookup y.1).isSome=true):=fun ⟨n,v⟩ hy=>by
  rcases S.par n (List.of_mem_zip hy).1 with q|q
  ·exact .inl q
  ·exact .inr ⟨q,PySem.W.cellsFrom_some _ _ _ (.inl q)⟩
 refine codeAny_call_function hr.depth (KX _ _ lk) rfl S.co S.gen rfl (PySem.W.codeRec_of KX hcd) (hb _ _ _ _ ?_)
 refine wpAny_newFunctionEnv_cells S.kind hkind fun env he s1 x=>?_
 subst he
 refine ⟨lim.keeps x.toInCall.keep,codeAny_func ?_⟩
 obtain ⟨t,ht,hq⟩:=hbody A outer s H vs Q E (hr.deeper _) hsp
 have I:Inv (j4 CX P w K mg base N qual scope f cdv A outer s H E) [] (vS N vs) H s1:=lV S hr.hd e0 hl r x
 refine wpAny_mono (ht [] s1 (vS N vs) H _ I hq) (fun fl s' hs=>?_) fun e s' hs=>hs
 have fin:∀{σ':St} {H':Hp} {v:V} {u:Value},Inv (j4 CX P w K mg base N qual scope f cdv A outer s H E) [] σ' H' s'→RelV v u→Q v H'→CE outer P w H s Q u s' :=
  fun {σ' H' v u} J rv q=>⟨v,H',J.os,J.bare,J.base,J.hok,rv,q⟩
 cases fl with
 |ret u =>
  obtain ⟨v,σ',H',J,rv,q⟩:=hs
  exact fin J rv q
 |next =>
  obtain ⟨σ',H',J,q⟩:=hs
  exact fin (v:=V.non) (u:=Value.none) J rfl q
 |brk =>
  obtain ⟨_,_,_,q⟩:=hs
  exact False.elim q
 |cont =>
  obtain ⟨_,_,_,q⟩:=hs
  exact False.elim q
end L2
namespace L2
open PySem PySem.Spec PyProof.Rows
section
variable {X:Cx} {x:Str} {p pos:Pos} {e:Expr} {es:List Expr} {t:TA} {id T:String} {r:List V→Hp→VK→Prop}
def fP (r:List V→Hp→VK→Prop) (t:TA):TE:=fun σ H Q=>t σ H fun vs H1=>r vs H1 Q
theorem j5 (hc:CallR X (.builtin id) r) (hg:Gl X x) (hm:X.mg x=none) (hv:bootBuiltins x=some (.builtin id)) (ha:PA X (e::es) t) (hn:x≠"__name__":=by decide) (hdb:(x == ("__debug__":Str))=false:=by decide)
  (he:starEach (e::es) X.env=(false,eval e X.env)::starEach es X.env:=by rfl) (hpl:(backTo pos (starEach es X.env)).any (·.1)=false:=by rfl):PE X (.Call (.Name x p) (e::es) [] pos) (fP r t):=by
 intro pins s σ H Q I h
 refine wpAny_Call_Name_kw (zW I hg hm hv ?_ hn hdb)
 exact PyProof.Rows.callWith_builtin1 (jD (ha pos pins s σ H _ I h) fun us s1 ⟨vs,H1,I1,r1,q1⟩=>hc pins s1 σ H1 vs us Q I1 r1 q1) he hpl
theorem vI (hc:CallR X (.type T) r) (hg:Gl X x) (hm:X.mg x=none) (hv:bootBuiltins x=some (.type T)) (ha:PA X (e::es) t) (hn:x≠"__name__":=by decide) (hdb:(x == ("__debug__":Str))=false:=by decide)
  (he:starEach (e::es) X.env=(false,eval e X.env)::starEach es X.env:=by rfl) (hpl:(backTo pos (starEach es X.env)).any (·.1)=false:=by rfl):PE X (.Call (.Name x p) (e::es) [] pos) (fP r t):=by
 intro pins s σ H Q I h
 refine wpAny_Call_Name_kw (zW I hg hm hv ?_ hn hdb)
 exact PyProof.Rows.callWith_type1 (jD (ha pos pins s σ H _ I h) fun us s1 ⟨vs,H1,I1,r1,q1⟩=>hc pins s1 σ H1 vs us Q I1 r1 q1) he hpl
end
end L2
namespace HT
open PySem PyProof.Rows
section
open PySem.SeqAt
open PySem.AutoSeq1 (wpAny_loadPart')
open PySem.MeetsSeq PySem.MeetsSeq2 PySem.MeetsSeq3
end
section
variable {prog:Program} {w:World} {A:Around} {E:Value→Shared→Prop} {s:Shared}
def sIx (n d:Nat):Option Int→Nat
 |none=>d
 |some v=>if v<0 then (v+(n:Int)).toNat else min v.toNat n
theorem sIx_none (n d:Nat):sIx n d none=d:=rfl
theorem sIx_nat (n d k:Nat):sIx n d (some (k:Int))=min k n:=by
 show (if (k:Int)<0 then ((k:Int)+(n:Int)).toNat else min (k:Int).toNat n)=min k n
 rw [if_neg (by omega),Int.toNat_natCast]
end
end HT
namespace L2
open PySem PySem.Spec PyProof.Rows
abbrev TO:=St→Hp→(Option Int→Hp→Prop)→Prop
def PO (X:Cx) (e:Option Expr) (t:TO):Prop :=
 ∀(pins:List (Addr×Obj)) (s:Shared) (σ:St) (H:Hp) (Q:Option Int→Hp→Prop),Inv X pins σ H s→t σ H Q→
  wpAny (model X.prog X.w) X.A (evalPart e X.env) (fun u s'=>∃o H',Inv X pins σ H' s'∧IsPart u o∧Q o H') X.xe s
def nM:TO:=fun _ H Q=>Q none H
def o8 (t:TE):TO:=fun σ H Q=>t σ H fun x H1=>∃i,x=.int i∧Q (some i) H1
section
variable {X:Cx} {e:Expr} {te:TE} {lo hi:Option Expr} {tl th:TO} {pos p2:Pos}
theorem yM:PO X none nM:=by
 intro pins s σ H Q I h
 rw [evalPart_none]
 exact wpAny_pure ⟨none,H,I,.none,h⟩
theorem qW (h:PE X e te):PO X (some e) (o8 te):=by
 intro pins s σ H Q I hw
 rw [evalPart_some]
 refine jD (h pins s σ H _ I hw) fun u s1 ⟨x,H1,I1,r1,q1⟩=>?_
 obtain ⟨i,rfl,q⟩:=q1
 obtain ⟨t,rfl⟩:=r1
 exact ⟨some i,H1,I1,.int i t,q⟩
def SlR (X:Cx) (r:V→Option Int→Option Int→Hp→VK→Prop):Prop :=
 ∀(pins:List (Addr×Obj)) (s:Shared) (σ:St) (H:Hp) (x:V) (v vl vu:Value) (lo hi:Option Int) (sl:Addr) (Q:VK),Inv X pins σ H s→RelV x v→s.heap.IsSliceOf sl vl vu .none→IsPart vl lo→IsPart vu hi→r x lo hi H Q→
  ∃T id,typeLookup (.type T) "__getitem__"=pure (some (.builtin id))∧s.TypeIs v T∧wpAny (model X.prog X.w) X.A (getItem v (.ref sl)) (EP X pins σ Q) X.xe s
theorem SlR.or {r r':V→Option Int→Option Int→Hp→VK→Prop} (h:SlR X r) (h':SlR X r'):SlR X (fun x lo hi H Q=>r x lo hi H Q∨r' x lo hi H Q):=by
 intro pins s σ H x v vl vu lo hi sl Q I rx hs pl pu q
 rcases q with q|q
 ·exact h pins s σ H x v vl vu lo hi sl Q I rx hs pl pu q
 ·exact h' pins s σ H x v vl vu lo hi sl Q I rx hs pl pu q
def rJ (r:V→Option Int→Option Int→Hp→VK→Prop) (te:TE) (tl th:TO):TE:=fun σ H Q=>te σ H fun x H1=>tl σ H1 fun l H2=>th σ H2 fun u H3=>r x l u H3 Q
theorem zO {r:V→Option Int→Option Int→Hp→VK→Prop} (hr:SlR X r) (he:PE X e te) (hl:PO X lo tl) (hu:PO X hi th):PE X (.Subscript e (.Slice lo hi none p2) pos) (rJ r te tl th):=by
 intro pins s σ H Q I h
 refine Subscript_ (jD (he pins s σ H _ I h) fun v s1 ⟨x,H1,I1,r1,q1⟩=>?_)
 refine wpAny_Slice (jD (hl pins s1 σ H1 _ I1 q1) fun vl s2 ⟨l,H2,I2,pl,q2⟩=>jD (hu pins s2 σ H2 _ I2 q2) fun vu s3 ⟨u,H3,I3,pu,q3⟩=>?_)
 rw [evalPart_none]
 refine wpAny_pure ?_
 have I4:Inv X pins σ H3 {s3 with heap:=s3.heap.push {cls:=.type "slice",data:=.fields #[vl,vu,.none]}}:=I3.kept (t':=s3.toks) fun b ob q=>Heap.get?_push_of_some _ q
 obtain ⟨T,id,hT,ht,hg⟩:=hr pins {s3 with heap:=s3.heap.push {cls:=.type "slice",data:=.fields #[vl,vu,.none]}} σ H3 x v vl vu l u s3.heap.objs.size Q I4 r1 (Heap.IsSliceOf.new ..) pl pu q3
 show wpAny (model X.prog X.w) X.A (subscriptTail e (.Slice lo hi none p2) v (.ref s3.heap.objs.size)) (EP X pins σ Q) X.xe {s3 with heap:=s3.heap.push {cls:=.type "slice",data:=.fields #[vl,vu,.none]}}
 exact tail_any (ops:=[.ref s3.heap.objs.size,v]) ht hT hg (by with_unfolding_all rfl)
def qU (xs:List V) (lo hi:Option Int):List V:=(xs.drop (HT.sIx xs.length 0 lo)).take (HT.sIx xs.length xs.length hi - HT.sIx xs.length 0 lo)
theorem iS (xs:List V) (lo hi:Option Int):(qU xs lo hi).length≤xs.length:=by
 unfold qU
 rw [List.length_take,List.length_drop]
 omega
end
end L2
namespace L2
open PySem PySem.Spec PyProof.Rows
def z5 (n:Nat) (i:Int):Option Nat:=if 0≤i then (if i<n then some i.toNat else none) else if -(n:Int)≤i then some (i+n).toNat else none
def kM {α:Type} (xs:List α) (i:Int):Option α:=(z5 xs.length i).bind fun j=>xs[j]?
theorem n6 {n:Nat} {i:Int} {j:Nat} (h:z5 n i=some j):seqIndex? i n=some j∧j<n∧-(n:Int)≤i∧i<n:=by
 unfold z5 at h
 by_cases h0:0≤i
 ·rw [if_pos h0] at h
  by_cases h1:i<n
  ·rw [if_pos h1] at h
   have e:i.toNat=j:=Option.some.inj h
   exact ⟨by rw [seqIndex_of h0 h1,e],by omega,by omega,h1⟩
  ·rw [if_neg h1] at h;cases h
 ·rw [if_neg h0] at h
  by_cases h1 : -(n:Int)≤i
  ·rw [if_pos h1] at h
   have e:(i+n).toNat=j:=Option.some.inj h
   exact ⟨by rw [seqIndex_neg (by omega) h1,e],by omega,h1,by omega⟩
  ·rw [if_neg h1] at h;cases h
theorem ZQ {α:Type} {xs:List α} {i:Int} {v:α} (h:kM xs i=some v):∃j,seqIndex? i xs.length=some j∧xs[j]?=some v∧j<xs.length∧-(xs.length:Int)≤i∧i<xs.length:=by
 unfold kM at h
 cases e:z5 xs.length i with
 |none=>rw [e] at h;cases h
 |some j =>
  rw [e] at h
  obtain ⟨h1,h2,h3,h4⟩:=n6 e
  exact ⟨j,h1,h,h2,h3,h4⟩
theorem kL {α:Type} {xs:List α} {j:Nat} {v:α} (h:xs[j]?=some v):kM xs (j:Int)=some v:=by
 have hj:j<xs.length:=(List.getElem?_eq_some_iff.mp h).1
 have e:z5 xs.length (j:Int)=some j:=by
  unfold z5
  rw [if_pos (by omega),if_pos (by omega)];simp
 unfold kM;rw [e];exact h
def oE (b:Expr):Prop:=∀o i,subscripted b false o i=operate [o,i] (getItem o i)
def IxR (X:Cx) (r:R2):Prop :=
 ∀(value slice:Expr) (pins:List (Addr×Obj)) (s:Shared) (σ:St) (H:Hp) (x y:V) (v u:Value) (Q:VK),Inv X pins σ H s→RelV x v→RelV y u→r x y H Q→
  subscripted slice false v u=operate [v,u] (getItem v u)→wpAny (model X.prog X.w) X.A (subscriptTail value slice v u) (EP X pins σ Q) X.xe s
def MtR (X:Cx) (id:String) (r:V→List V→Hp→VK→Prop):Prop :=
 ∀(pins:List (Addr×Obj)) (s:Shared) (σ:St) (H:Hp) (x:V) (xs:List V) (v:Value) (us:List Value) (Q:VK),Inv X pins σ H s→RelV x v→Vals xs us→r x xs H Q→
  wpAny (model X.prog X.w) X.A (call (.builtin id) (v::us)) (EP X pins σ Q) X.xe s
section
variable {X:Cx} {a b:Expr} {ta tb:TE} {pos:Pos}
theorem IxR.or {r r':R2} (h:IxR X r) (h':IxR X r'):IxR X (fun x y H Q=>r x y H Q∨r' x y H Q):=by
 intro value slice pins s σ H x y v u Q I rx ry q hs
 rcases q with q|q
 ·exact h value slice pins s σ H x y v u Q I rx ry q hs
 ·exact h' value slice pins s σ H x y v u Q I rx ry q hs
theorem MtR.or {id:String} {r r':V→List V→Hp→VK→Prop} (h:MtR X id r) (h':MtR X id r'):MtR X id (fun x xs H Q=>r x xs H Q∨r' x xs H Q):=by
 intro pins s σ H x xs v us Q I rx rs q
 rcases q with q|q
 ·exact h pins s σ H x xs v us Q I rx rs q
 ·exact h' pins s σ H x xs v us Q I rx rs q
theorem jR {r:R2} (hr:IxR X r) (ha:PE X a ta) (hb:PE X b tb) (hs:oE b):PE X (.Subscript a b pos) (QS r ta tb):=by
 intro pins s σ H Q I h
 exact Subscript_ (Z7 ha hb I h fun v u s2 x y H2 I2 rx ry q=>hr a b pins s2 σ H2 x y v u Q I2 rx ry q (hs _ _))
def fH (K:PySem.W.Frag):R2:=fun x y H Q=>∃p xs i v,x=.ref p∧y=.int i∧SqL K H p xs∧kM xs i=some v∧Q v H
def fF (K:PySem.W.Frag):R2:=fun x y H Q=>∃p xs i v,x=.ref p∧y=.int i∧SqT K H p xs∧kM xs i=some v∧Q v H
def fG:R2:=fun x y H Q=>∃z i c,x=.str z∧y=.int i∧z.length≤sizeLine∧kM z.cps.toList i=some c∧Q (.str ⟨#[c]⟩) H
theorem kC:IxR X (fH X.K):=by
 intro value slice pins s σ H x y v u Q I rx ry h hs
 obtain ⟨p,xs,i,z,rfl,rfl,hq,he,q⟩:=h
 cases rx
 obtain ⟨t,rfl⟩:=ry
 obtain ⟨its,r,pl,hz⟩:=I.list hq
 obtain ⟨j,h1,h2,h3,h4,h5⟩:=ZQ he
 obtain ⟨w,ew,rw'⟩:=r.get h2
 have hl:=r.length
 have hn:=JG
 have fin:EP X pins σ Q w s:=⟨z,H,I,rw',q⟩
 by_cases h0:0≤i
 ·have hj:i.toNat=j:=by
   rw [seqIndex_of h0 h5] at h1
   exact Option.some.inj h1
  exact item_listR pl.isList h0 (by omega) (by rw [hj];simpa using ew) fin hs
 ·have hj:(i+(its.toArray.size:Int)).toNat=j:=by
   rw [seqIndex_neg (by omega) h4] at h1
   rw [List.size_toArray,← hl]
   exact Option.some.inj h1
  exact subscriptTail_builtinR (x:=w) pl.isList.typeIs slot_list_getitem.lookup
   (wpAny_getItem_list_neg (Q:=fun r s'=>r=w∧EP X pins σ Q r s') pl.isList (by omega) (by rw [List.size_toArray]<;>omega) (by omega) (by rw [hj];simpa using ew) ⟨rfl,fin⟩) hs
theorem ix_tup:IxR X (fF X.K):=by
 intro value slice pins s σ H x y v u Q I rx ry h hs
 obtain ⟨p,xs,i,z,rfl,rfl,hq,he,q⟩:=h
 cases rx
 obtain ⟨t,rfl⟩:=ry
 obtain ⟨its,r,pl,hz⟩:=I.tuple hq
 obtain ⟨j,h1,h2,h3,h4,h5⟩:=ZQ he
 obtain ⟨w,ew,rw'⟩:=r.get h2
 have hl:=r.length
 have hn:=JG
 have fin:EP X pins σ Q w s:=⟨z,H,I,rw',q⟩
 exact subscriptTail_builtinR (x:=w) pl.typeIs slot_tuple_getitem.lookup
  (getItem_tuple (j:=j) (Q:=fun r s'=>r=w∧EP X pins σ Q r s') pl (by omega) (by omega) (by rw [List.size_toArray,← hl];exact h1) (by simpa using ew) ⟨rfl,fin⟩) hs
theorem Z0:IxR X fG:=by
 intro value slice pins s σ H x y v u Q I rx ry h hs
 obtain ⟨z,i,c,rfl,rfl,hz,he,q⟩:=h
 obtain ⟨t,rfl⟩:=rx
 obtain ⟨t',rfl⟩:=ry
 obtain ⟨j,h1,h2,h3,h4,h5⟩:=ZQ he
 have hl:z.cps.toList.length=z.length:=by simp [Str.length]
 rw [hl] at h1 h4 h5
 have hn:=JG
 exact tail_any (typeIs_str s z t) slot_str_getitem.lookup (getItem_str (c:=c) (by
  have e1:decide (i < -(2 ^ 63:Int))=false:=decide_eq_false (by omega)
  have e2:decide (i≥2 ^ 63)=false:=decide_eq_false (by omega)
  rw [e1,e2,Bool.or_false]) (by rw [h1];simpa using h2) ⟨.str ⟨#[c]⟩,H,I.tok _,⟨_,rfl⟩,q⟩) hs
def fR (K:PySem.W.Frag):R2:=fun x y H Q=>fH K x y H Q∨fF K x y H Q∨fG x y H Q
theorem eN:IxR X (fR X.K):=kC.or (ix_tup.or Z0)
theorem Inv.lst {pins:List (Addr×Obj)} {σ:St} {H:Hp} {s:Shared} {p:Addr} {xs:List V} (I:Inv X pins σ H s) (h:H p=some (.lst xs)) :
  ∃(its:List Value) (n:Nat),Vals xs its∧s.heap.get? p=some {cls:=.type "list",data:=.seq its.toArray n}∧xs.length≤sizeLine:=by
 obtain ⟨z,its,n,r,e⟩:=I.hok p _ h
 exact ⟨its,n,r,e,z⟩
theorem iJ (lo hi:Option Int) (n:Nat):(sliceBounds lo hi none n).1=((HT.sIx n 0 lo:Nat):Int)∧(sliceBounds lo hi none n).2.1=((HT.sIx n n hi:Nat):Int)∧(sliceBounds lo hi none n).2.2=1:=by
 refine ⟨?_,?_,rfl⟩
 ·cases lo with
  |none=>simp [sliceBounds,HT.sIx]
  |some i =>
   simp only [sliceBounds,HT.sIx,Option.getD_none,show (1:Int)>0 by decide,if_true]
   by_cases h:i<0
   ·simp only [h,if_true]<;>omega
   ·simp only [h,if_false]<;>omega
 ·cases hi with
  |none=>simp [sliceBounds,HT.sIx]
  |some i =>
   simp only [sliceBounds,HT.sIx,Option.getD_none,show (1:Int)>0 by decide,if_true]
   by_cases h:i<0
   ·simp only [h,if_true]<;>omega
   ·simp only [h,if_false]<;>omega
theorem iH (its:List Value) (lo hi:Option Int):slicePick its.toArray lo hi none=((its.drop (HT.sIx its.length 0 lo)).take (HT.sIx its.length its.length hi - HT.sIx its.length 0 lo)).toArray:=by
 obtain ⟨h1,h2,h3⟩:=iJ lo hi its.toArray.size
 unfold slicePick
 rw [h1,h2,h3]
 simp only [sliceRange_one,pick_run,List.size_toArray]<;>rfl
def p0 (K:PySem.W.Frag):V→Option Int→Option Int→Hp→VK→Prop:=fun x lo hi H Q=>∃a xs,x=.ref a∧SqL K H a xs∧∀p,H p=none→Q (.ref p) (upd H p (.lst (qU xs lo hi)))
theorem JB:SlR X (p0 X.K):=by
 intro pins s σ H x v vl vu lo hi sl Q I rx hs pl pu h
 obtain ⟨a,xs,rfl,hx,q⟩:=h
 cases rx
 obtain ⟨its,r,ht,hz⟩:=I.list hx
 have hlen:=r.length
 refine ⟨"list",_,slot_list_getitem.lookup,ht.isList.typeIs,?_⟩
 refine wpAny_getItem_list_slice ht.isList hs pl pu .none (by simp) ?_ (by rw [List.size_toArray]<;>omega)
 rw [iH,← hlen]
 refine ⟨.ref s.heap.objs.size,_,I.laid (t':=s.toks) (o:=.lst (qU xs lo hi)) (fun b ob q=>Heap.get?_push_of_some _ q) (Nat.le_refl _) ?_,rfl,q _ (I.hok.fresh (Nat.le_refl _))⟩
 exact ⟨Nat.le_trans (iS xs lo hi) hz,_,0,(r.drop (HT.sIx xs.length 0 lo)).take (HT.sIx xs.length xs.length hi - HT.sIx xs.length 0 lo),Heap.get?_push_size _ rfl⟩
def kY:V→Bool
 |.non=>true
 |.bl _=>true
 |.int _=>true
 |.str _=>true
 |_=>false
def qE:V→V→Bool
 |.non,.non=>true
 |.bl a,.bl b=>a == b
 |.bl a,.int b=>(if a then 1 else 0) == b
 |.int a,.bl b=>a == (if b then 1 else 0)
 |.int a,.int b=>a == b
 |.str a,.str b=>a == b
 |_,_=>false
theorem QG {A:Around} {s:Shared} {y x:V} {u v:Value} (ry:RelV y u) (rx:RelV x v) (fy:kY y=true) (fx:kY x=true):SeqAt.EqAt A s u v (qE y x):=by
 cases y with
 |non =>
  cases ry
  cases x with
  |non=>cases rx;exact SeqAt.EqAt.same _
  |bl b=>cases rx;exact SeqAt.EqAt.none_bool b
  |int b=>obtain ⟨t,rfl⟩:=rx;exact SeqAt.EqAt.none_int b t
  |str b=>obtain ⟨t,rfl⟩:=rx;exact SeqAt.EqAt.none_str b t
  |_=>exact absurd (show false=true from fx) Bool.false_ne_true
 |bl a =>
  cases ry
  cases x with
  |non=>cases rx;exact SeqAt.EqAt.bool_none a
  |bl b=>cases rx;exact SeqAt.EqAt.bool_bool a b
  |int b=>obtain ⟨t,rfl⟩:=rx;exact SeqAt.EqAt.bool_int a b t
  |str b=>obtain ⟨t,rfl⟩:=rx;exact SeqAt.EqAt.bool_str a b t
  |_=>exact absurd (show false=true from fx) Bool.false_ne_true
 |int a =>
  obtain ⟨t',rfl⟩:=ry
  cases x with
  |non=>cases rx;exact SeqAt.EqAt.int_none a t'
  |bl b=>cases rx;exact SeqAt.EqAt.int_bool a t' b
  |int b=>obtain ⟨t,rfl⟩:=rx;exact SeqAt.EqAt.int_int a t' b t
  |str b=>obtain ⟨t,rfl⟩:=rx;exact SeqAt.EqAt.int_str a t' b t
  |_=>exact absurd (show false=true from fx) Bool.false_ne_true
 |str a =>
  obtain ⟨t',rfl⟩:=ry
  cases x with
  |non=>cases rx;exact SeqAt.EqAt.str_none a t'
  |bl b=>cases rx;exact SeqAt.EqAt.str_bool a t' b
  |int b=>obtain ⟨t,rfl⟩:=rx;exact SeqAt.EqAt.str_int a t' b t
  |str b=>obtain ⟨t,rfl⟩:=rx;exact SeqAt.EqAt.str_str a t' b t
  |_=>exact absurd (show false=true from fx) Bool.false_ne_true
 |_=>exact absurd (show false=true from fy) Bool.false_ne_true
def vZ (x:V) (u:Value):Bool:=match u with
 |.none=>qE .non x
 |.bool b=>qE (.bl b) x
 |.int i _=>qE (.int i) x
 |.str z _=>qE (.str z) x
 |_=>false
theorem eO {x y:V} {u:Value} (r:RelV y u) (f:kY y=true):vZ x u=qE y x:=by
 cases y with
 |non=>cases r;rfl
 |bl b=>cases r;rfl
 |int i=>obtain ⟨t,rfl⟩:=r;rfl
 |str z=>obtain ⟨t,rfl⟩:=r;rfl
 |_=>exact absurd (show false=true from f) Bool.false_ne_true
theorem ZR {x:V}:∀{xs:List V} {us:List Value},Vals xs us→xs.all kY=true→us.any (vZ x)=xs.any fun y=>qE y x
 |_,_,.nil,_=>rfl
 |y::xs,u::us,.cons r t,f=>by
  rw [List.all_cons,Bool.and_eq_true] at f
  rw [List.any_cons,List.any_cons,eO r f.1,ZR t f.2]
theorem ZJ {A:Around} {s:Shared} {x:V} {v:Value} (rx:RelV x v) (fx:kY x=true):∀{xs:List V} {us:List Value},Vals xs us→xs.all kY=true→∀u∈us,SeqAt.EqAt A s u v (vZ x u)
 |_,_,.nil,_=>fun u hu=>by cases hu
 |y::xs,u::us,.cons r t,f=>fun u' hu=>by
  rw [List.all_cons,Bool.and_eq_true] at f
  rcases List.mem_cons.mp hu with rfl|hu
  ·rw [eO r f.1];exact QG r rx f.1 fx
  ·exact ZJ rx fx t f.2 u' hu
def QU (x:V) (xs:List V):Bool:=xs.any fun y=>qE y x
def fS (K:PySem.W.Frag) (neg:Bool):R2:=fun x y H Q=>∃p xs,y=.ref p∧(SqL K H p xs∨SqT K H p xs)∧kY x=true∧xs.all kY=true∧Q (.bl (if neg then !QU x xs else QU x xs)) H
theorem lK:OpR X (compareOp .In) (fS X.K false):=by
 intro pins s σ H x y v u Q I rx ry h
 obtain ⟨p,xs,rfl,hq,fx,fs,q⟩:=h
 cases ry
 rcases hq with hq|hq
 ·obtain ⟨its,r,pl,hz⟩:=I.list hq
  refine SeqAt.in_listAt (vZ x) pl.isList (fun w hw=>ZJ rx fx r fs w (by simpa using hw)) ⟨.bl _,H,I,rfl,?_⟩
  rw [show its.toArray.any (vZ x)=its.any (vZ x) by simp,ZR r fs]
  exact q
 ·obtain ⟨its,r,pl,hz⟩:=I.tuple hq
  refine SeqAt.in_tupleAt (vZ x) pl (fun w hw=>ZJ rx fx r fs w (by simpa using hw)) ⟨.bl _,H,I,rfl,?_⟩
  rw [show its.toArray.any (vZ x)=its.any (vZ x) by simp,ZR r fs]
  exact q
theorem vL:CallR X (.builtin "len") (fun xs H Q=>∃p ys,xs=[.ref p]∧(SqL X.K H p ys∨SqT X.K H p ys)∧Q (.int ys.length) H):=by
 intro pins s σ H xs us Q I r h
 obtain ⟨p,ys,rfl,hq,q⟩:=h
 obtain ⟨u,rfl,rx⟩:=yQ r
 cases rx
 have hn:=JG
 rcases hq with hq|hq
 ·obtain ⟨its,r',pl,hz⟩:=I.list hq
  have hlen:=r'.length
  exact Calls.call_len_list pl.isList (by simp only [List.size_toArray]<;>omega) ⟨.int ys.length,H,I.tok _,⟨s.toks+1,by rw [List.size_toArray,hlen]⟩,q⟩
 ·obtain ⟨its,r',pl,hz⟩:=I.tuple hq
  have hlen:=r'.length
  exact len_tuple pl (by simp only [List.size_toArray]<;>omega) ⟨.int ys.length,H,I.tok _,⟨s.toks+1,by rw [List.size_toArray,hlen]⟩,q⟩
theorem bI:CallR X (.builtin "len") (fun xs H Q=>∃z,xs=[.str z]∧z.length≤sizeLine∧Q (.int z.length) H):=by
 intro pins s σ H xs us Q I r h
 obtain ⟨z,rfl,hz,q⟩:=h
 obtain ⟨u,rfl,t,rfl⟩:=yQ r
 have hn:=JG
 exact len_str (by omega) ⟨.int z.length,H,I.tok _,⟨_,rfl⟩,q⟩
theorem CallR.or {f:Value} {r r':List V→Hp→VK→Prop} (h:CallR X f r) (h':CallR X f r'):CallR X f (fun xs H Q=>r xs H Q∨r' xs H Q):=by
 intro pins s σ H xs us Q I rs q
 rcases q with q|q
 ·exact h pins s σ H xs us Q I rs q
 ·exact h' pins s σ H xs us Q I rs q
theorem bH:CallR X (.type "tuple") (fun xs H Q=>∃p ys,xs=[.ref p]∧((SqL X.K H p ys∧∀l,H l=none→Q (.ref l) (upd H l (.tup ys)))∨(SqT X.K H p ys∧Q (.ref p) H))):=by
 intro pins s σ H xs us Q I r h
 obtain ⟨p,ys,rfl,h⟩:=h
 obtain ⟨u,rfl,rx⟩:=yQ r
 cases rx
 rcases h with ⟨hq,q⟩|⟨hq,q⟩
 ·obtain ⟨its,r',pl,hz⟩:=I.list hq
  have hlen:=r'.length
  refine call_tuple_list pl.isList (fun h' kp=>?_) (by simp only [List.size_toArray]<;>omega)
  have I1:Inv X pins σ H {s with heap:=h'}:=I.kept (t':=s.toks) kp
  have I2:Inv X pins σ (upd H h'.objs.size (.tup ys)) {s with heap:=h'.push {cls:=.type "tuple",data:=.seq its.toArray}} :=
   I1.laid (t':=s.toks) (fun b o e=>Heap.get?_push_of_some _ e) (Nat.le_refl _) (show ObjOk X.prog X.w _ _ _ (.tup ys) from ⟨hz,its,r',IsTup.new _ _⟩)
  exact ⟨.ref h'.objs.size,_,I2,rfl,q _ (I1.hok.fresh (Nat.le_refl _))⟩
 ·obtain ⟨its,r',pl,hz⟩:=I.tuple hq
  exact call_tuple_same pl ⟨.ref p,H,I,rfl,q⟩
def fO (K:PySem.W.Frag) (T:String) (x:V) (H:Hp):Prop:=match x with
 |.str _=>T="str"
 |.int _=>T="int"
 |.ref p=>(T="list"∧∃xs,SqL K H p xs)∨(T="tuple"∧∃o,K.lookup p=some o∧o.cls=.type "tuple"∧o.dict=none)∨
   (T="dict"∧((∃kvs,H p=some (.dK kvs))∨∃kvs,H p=some (.dT kvs)))∨(T="set"∧∃S n,H p=some (.set S n))
 |_=>False
theorem oH {pins:List (Addr×Obj)} {σ:St} {H:Hp} {s:Shared} {T:String} {x:V} {v:Value} (I:Inv X pins σ H s) (r:RelV x v) (ty:fO X.K T x H) :
  s.TypeIs v T∧∀a,v=.ref a→∃ob,s.heap.get? a=some ob∧ob.dict=none:=by
 cases x with
 |str z =>
  obtain ⟨t,rfl⟩:=r
  cases (show T="str" from ty)
  exact ⟨typeIs_str s z t,fun _ e=>nomatch e⟩
 |int i =>
  obtain ⟨t,rfl⟩:=r
  cases (show T="int" from ty)
  exact ⟨typeIs_int s i t,fun _ e=>nomatch e⟩
 |ref p =>
  cases r
  rcases ty with ⟨rfl,xs,hq⟩|⟨rfl,o,hk,hc,hd⟩|⟨rfl,hk⟩|⟨rfl,S,n,hk⟩
  ·obtain ⟨its,_,pl,_⟩:=I.list hq
   refine ⟨pl.isList.typeIs,fun a e=>?_⟩
   cases e
   obtain ⟨o,n,e,c,hd,_⟩:=pl
   exact ⟨o,e,hd⟩
  ·refine ⟨⟨o,I.kIn p o hk,hc⟩,fun a e=>?_⟩
   cases e
   exact ⟨o,I.kIn _ o hk,hd⟩
  ·have z:∃o,s.heap.get? p=some o∧o.ExactDict:=by
    rcases hk with ⟨kvs,hk⟩|⟨kvs,hk⟩
    ·obtain ⟨_,_,_,_,o,_,_,e,ex,_⟩:=I.hok p _ hk
     exact ⟨o,e,ex⟩
    ·obtain ⟨_,_,_,_,o,_,_,e,ex,_⟩:=I.hok p _ hk
     exact ⟨o,e,ex⟩
   obtain ⟨o,e,ex⟩:=z
   refine ⟨⟨o,e,ex.1⟩,fun a e2=>?_⟩
   cases e2
   exact ⟨o,e,ex.2.1⟩
  ·obtain ⟨o,_,_,_,e,ex,_⟩:=I.hok p _ hk
   refine ⟨⟨o,e,ex.1⟩,fun a e2=>?_⟩
   cases e2
   exact ⟨o,e,ex.2.1⟩
 |_=>exact False.elim ty
def fQ (K:PySem.W.Frag) (T:String) (r:V→List V→Hp→VK→Prop) (to:TE) (t:TA):TE:=fun σ H Q=>to σ H fun x H1=>fO K T x H1∧t σ H1 fun xs H2=>r x xs H2 Q
variable {o e:Expr} {es:List Expr} {to:TE} {t:TA} {name:Str} {apos cpos:Pos} {T id:String} {r:V→List V→Hp→VK→Prop}
theorem qC (pa:PlainAttrs T) (slot:Slot T name id) (hty:typeOf (.builtin id)=pure (.type "method_descriptor")) (hm:MtR X id r) (ho:PE X o to) (ha:PA X (e::es) t)
  (hbase:attributeBase o name X.env (eval o X.env)=eval o X.env:=by rfl)
  (hfew:((backTo cpos (starEach (e::es) X.env)).all (fun x => !x.1)&&(backToKw cpos (keywordEach [] X.env)).all (fun x=>x.1.isSome)
   && decide ((e::es).length+([]:List Keyword).length+(if ([]:List Keyword).isEmpty then 0 else 1)<30))=true:=by rfl)
  (hline:(apos.endLine == cpos.line)=true:=by rfl) (hs:starEach (e::es) X.env=(false,eval e X.env)::starEach es X.env:=by rfl) (hplain:(backTo cpos (starEach es X.env)).any (·.1)=false:=by rfl) :
  PE X (.Call (.Attribute o name apos) (e::es) [] cpos) (fQ X.K T r to t):=by
 intro pins s σ H Q I h
 refine wpAny_Call_method_late hbase hfew hline rfl (jD (ho pins s σ H _ I h) fun v s1 ⟨x,H1,I1,r1,ty,q1⟩=>?_)
 obtain ⟨h1,h2⟩:=oH I1 r1 ty
 refine ⟨T,id,pa,slot,hty,h1,h2,?_⟩
 have hA:=ha cpos pins s1 σ H1 _ I1 q1
 rw [hs] at hA ⊢
 refine Calls.callWith_builtin (by show (false||(backTo cpos (starEach es X.env)).any (·.1))=false;rw [hplain]<;>rfl) (Calls.evalArgs_plain ?_)
 exact jD hA fun us s2 ⟨vs,H2,I2,r2,q2⟩=>hm pins s2 σ H2 x vs v us Q I2 r1 r2 q2
/- xs.append(e),list.index on a module's tuple .. are MtR facts of 06m -/
end
end L2
namespace L2
open PySem PySem.Spec PyProof.Rows
def QX (X:Cx) (id:String) (r:V→List V→Hp→VK→Prop):Prop :=
 ∀(pins:List (Addr×Obj)) (s:Shared) (σ:St) (H:Hp) (x:V) (xs:List V) (v:Value) (us:List Value) (Q:VK),Inv X pins σ H s→RelV x v→Vals xs us→r x xs H Q→
  wpAny (model X.prog X.w) X.A (call (.builtin id) (v::us)) (EP X pins σ Q) X.xe s
theorem Vals.one:∀{x:V} {us:List Value},Vals [x] us→∃u,us=[u]∧RelV x u
 |_,_,.cons r .nil=>⟨_,rfl,r⟩
theorem Vals.two:∀{x y:V} {us:List Value},Vals [x,y] us→∃u v,us=[u,v]∧RelV x u∧RelV y v
 |_,_,_,.cons r (.cons q .nil)=>⟨_,_,rfl,r,q⟩
section
variable {X:Cx} {pins:List (Addr×Obj)} {σ:St} {H:Hp} {s:Shared} {l b:Addr} {xs ys zs:List V}
theorem Inv.lset {its its':List Value} {n:Nat} {f:Array Value→Array Value} {t':Nat} (I:Inv X pins σ H s) (hH:H l=some (.lst xs))
  (e:s.heap.get? l=some {cls:=.type "list",data:=.seq its.toArray n}) (hf:f its.toArray=its'.toArray) (hv:Vals ys its') (hz:ys.length≤sizeLine) :
  Inv X pins σ (upd H l (.lst ys)) {s with heap:=s.heap.update l (Obj.mapSeq f),toks:=t'}:=by
 have q:=PySem.IsL.update e f
 rw [hf] at q
 refine I.write (x:=l) (e:=l) (by rw [hH];exact trivial) (.inl rfl) (fun b' u hb hu=>(Heap.get?_update_other s.heap (Obj.mapSeq f) (Ne.symm hb)).trans hu) ⟨_,q⟩ ?_
 exact ⟨hz,its',_,hv,q⟩
theorem Inv.lnew {its:List Value} {t':Nat} (I:Inv X pins σ H s) (hv:Vals ys its) (hz:ys.length≤sizeLine) :
  Inv X pins σ (upd H s.heap.objs.size (.lst ys)) {s with heap:=s.heap.push {cls:=.type "list",data:=.seq its.toArray},toks:=t'} :=
 I.laid (fun _ _ q=>Heap.get?_push_of_some _ q) (Nat.le_refl _) ⟨hz,its,0,hv,Heap.get?_push_size _ rfl⟩
theorem Inv.fresh (I:Inv X pins σ H s):H s.heap.objs.size=none:=I.hok.fresh (Nat.le_refl _)
theorem Inv.lstM (I:Inv X pins σ H s) (hH:H l=some (.lst xs)):xs.length≤sizeLine∧∃(its:List Value) (n:Nat),Vals xs its∧xs.length=its.length∧s.heap.get? l=some {cls:=.type "list",data:=.seq its.toArray n}:=by
 obtain ⟨z,its,n,r,e⟩:=I.hok l _ hH
 exact ⟨z,its,n,r,r.length,e⟩
theorem m4 {n:Nat} (h:n≤sizeLine):Builtin.List.listTooLong n=false:=by
 unfold Builtin.List.listTooLong
 exact decide_eq_false (by omega)
end
section
variable {X:Cx}
def nR:V→List V→Hp→VK→Prop:=fun x vs H Q=>∃l xs y,x=.ref l∧vs=[y]∧H l=some (.lst xs)∧xs.length<sizeLine∧Q .non (upd H l (.lst (xs++[y])))
theorem yJ:QX X "list.append" nR:=by
 intro pins s σ H x vs v us Q I rx rv h
 obtain ⟨l,xs,y,rfl,rfl,hH,hz,q⟩:=h
 cases rx
 obtain ⟨u,rfl,ru⟩:=rv.one
 obtain ⟨z,its,n,r,hl,e⟩:=I.lstM hH
 refine call_meets F.slot_list_append ⟨_,e,rfl⟩ F.entry_list_append (F.args_list_append_2 _ _) (PySem.list_append l its.toArray n u (by rw [List.size_toArray];omega)) ⟨e,?_⟩
 refine ⟨.non,_,I.lset (its':=its++[u]) hH e (by simp) (r.append (.cons ru .nil)) ?_,rfl,q⟩
 rw [List.length_append,List.length_singleton]
 omega
def nQ:V→List V→Hp→VK→Prop:=fun x vs H Q=>∃l b xs zs,x=.ref l∧vs=[.ref b]∧H l=some (.lst xs)∧H b=some (.lst zs)∧xs.length+zs.length≤sizeLine∧Q .non (upd H l (.lst (xs++zs)))
theorem lQ:QX X "list.extend" nQ:=by
 intro pins s σ H x vs v us Q I rx rv h
 obtain ⟨l,b,xs,zs,rfl,rfl,hH,hB,hz,q⟩:=h
 cases rx
 obtain ⟨u,rfl,ru⟩:=rv.one
 cases ru
 obtain ⟨z,its,n,r,hl,e⟩:=I.lstM hH
 obtain ⟨z2,its2,n2,r2,hl2,e2⟩:=I.lstM hB
 have hsz:its.toArray.size+its2.toArray.size≤sizeLine:=by rw [List.size_toArray,List.size_toArray];omega
 have hlong:¬(!its.toArray.isEmpty&&Builtin.List.listTooLong (its.toArray.size+its2.toArray.size))=true:=by
  rw [m4 hsz,Bool.and_false]
  exact Bool.false_ne_true
 refine call_meets F.slot_list_extend ⟨_,e,rfl⟩ F.entry_list_extend (F.args_list_extend_2 _ _)
  (AutoSeq1.list_extend_list_list_0 l its.toArray n b its2.toArray n2 hlong (by rw [List.size_toArray];omega) (by omega)) ⟨e,e2,?_⟩
 refine ⟨.non,_,I.lset (its':=its++its2) hH e (by simp) (r.append r2) ?_,rfl,q⟩
 rw [List.length_append]
 omega
def p6:R2:=fun x y H Q=>∃l b xs zs,x=.ref l∧y=.ref b∧H l=some (.lst xs)∧H b=some (.lst zs)∧xs.length+zs.length≤sizeLine∧∀p,H p=none→Q (.ref p) (upd H p (.lst (xs++zs)))
theorem ZX:OpR X (binaryOp .Add) p6:=by
 intro pins s σ H x y v u Q I rx ry h
 obtain ⟨l,b,xs,zs,rfl,rfl,hH,hB,hz,q⟩:=h
 cases rx
 cases ry
 obtain ⟨z,its,n,r,hl,e⟩:=I.lstM hH
 obtain ⟨z2,its2,n2,r2,hl2,e2⟩:=I.lstM hB
 refine PySem.P.add_list e e2 ?_ (by rw [List.size_toArray,List.size_toArray];omega)
 have ea:its.toArray++its2.toArray=(its++its2).toArray:=by simp
 rw [ea]
 exact ⟨.ref _,_,I.lnew (t':=s.toks) (r.append r2) (by rw [List.length_append];omega),rfl,q _ I.fresh⟩
theorem n5 {α:Type} (xs:List α) (k:Nat):(List.replicate k xs).flatten.length=k*xs.length:=by
 induction k with
 |zero=>simp
 |succ k ih=>rw [List.replicate_succ,List.flatten_cons,List.length_append,ih,Nat.succ_mul,Nat.add_comm]
end
section
variable {prog:Program} {w:World} {A:Around} {E:Value→Shared→Prop} {s:Shared}
end
section
variable {X:Cx}
end
end L2
namespace Att
open PySem PySem.W PySem.Calls PyProof.Rows
theorem iD {P:Params} {h:Heap}:∀(ns:List Int) (vs:List Value),WellAll P h vs (ns.map WData.int)→IntsAre vs ns:=by
 intro ns
 induction ns with
 |nil =>
  intro vs w
  rw [List.map_nil] at w
  cases w
  exact .nil
 |cons n ns ih =>
  intro vs w
  rw [List.map_cons] at w
  cases w with
  |cons a b =>
   cases a
   exact .cons _ _ (ih _ b)
theorem lG {l:OpenLaw} {n:Nat} (hn:l.most=some n) {P:Params} {h:Heap} {args:List WData} {vals:List Value}
  (hpre:l.row.toRowW.claim.pre args=true) (hwl:WellAll P h vals args) :
  ∃a vs ns,vals=[Value.ref a]∧args=[WData.list (ns.map WData.int)]∧h.get? a=some {cls:=.type "list",data:=.seq vs.toArray}∧IntsAre vs ns∧ns.length≤n:=by
 have hsh:WShape.hasAll [] args [.list .int]=true:=(pre_splitW hpre).1
 have hc:l.pre.holds [] {args:=args}=true:=(pre_splitW hpre).2
 obtain ⟨d,r,rfl,h1,h2⟩:=hasAllW_cons hsh
 obtain rfl:=hasAllW_nil h2
 obtain ⟨xs,rfl,h3⟩:=hasW_list h1
 obtain ⟨ns,rfl⟩:=items_int h3
 have hlen:ns.length≤n:=by
  unfold OpenLaw.pre at hc
  have h4:(WTm.not (.lt (.lit (.int (n:Int))) (.len (.arg 0)))).holds [] {args:=[.list (ns.map .int)]}=true:=by
   have h4:=(holds_andW hc).1
   rw [hn] at h4
   exact h4
  have h5:=condW_of h4 (w_not (w_lt w_lit (w_len_list (w_arg rfl))))
  rw [List.length_map] at h5
  refine Nat.le_of_not_lt fun q=>?_
  have q':(n:Int)<((ns.length:Nat):Int):=by omega
  first
   | (rw [decide_eq_true q'] at h5;exact absurd h5 (by decide))
   | (simp at h5;omega)
 cases hwl with
 |cons w1 w2 =>
  cases w2
  cases w1 with
  |list ho hall=>exact ⟨_,_,ns,rfl,rfl,ho,iD ns _ hall,hlen⟩
theorem lH (l:OpenLaw) (args:List WData):l.row.toRowW.claim.post args (.bool true) args=true :=
 postW_of (r:=l.row.toRowW) (X:=(true == true))
  (show WShape.has [] (.bool true) .bool=true by first|rfl|decide|simp [WShape.has,WShape.arms,WShape.armsAll])
  (show (WTm.eq .res (.lit (.bool true))).value [] {args:=args,res:=some (.bool true),after:=args}=some (.bool (true == true)) from w_eq_bool (w_res rfl) w_lit) rfl
theorem attach_call {l:OpenLaw} {n:Nat} {q:Program} {loose:List Str} {XP:(Str→Option Value)→Heap→Prop} {YP:World→Heap→Prop} {d:DefRec}
  (hn:l.most=some n) (hdf:d.params.defaults=[])
  (call:∀(w:World) (s₀ s₁:Shared) (mg mb:Str→Option Value) (fa:Addr) (o:Obj) (pm cd doc:Value) (a:Addr) (vs:List Value) (ns:List Int),
   Ground q loose [] XP w s₀ mg mb s₁.heap→YP w s₁.heap→
   s₁.heap.get? fa=some o→o.data=.func (docDef d.name d.params d.body d.scope pm cd doc)→s₁.heap.CodeRec cd d.name→mg d.name=some (.ref fa)→
   s₁.heap.get? a=some {cls:=.type "list",data:=.seq vs.toArray}→IntsAre vs ns→ns.length≤n→s₁.gens = #[]→
   codeAny (model l.prog w) callerA (.call (.ref fa) ⟨[.ref a],[]⟩) (fun r s'=>r=.ok (.ret (.bool true))∧OldK s₁.heap s'.heap∧s'.os=s₁.os∧AllBare s'.gens) s₁) :
  WalkO q loose XP YP l.row.toRowW d [] (fun f vs=>PySem.call f vs):=by
 intro w s₀ s₁ mg mb G Y fa o pm cd doc dV kV ho hd hcd hD hmg hg args vals as hpre hlay hrd hwl hlo
 obtain rfl:dV=.none:=Dflts.none hD hdf
 obtain rfl:kV=.none:=Dflts.noKw hD
 obtain ⟨a,vs,ns,rfl,rfl,hobj,hints,hlen⟩:=lG hn hpre hwl
 refine enter_call (codeAny_mono (call w s₀ s₁ mg mb fa o pm cd doc a vs ns G Y ho (fd_plain hd) hcd hmg hobj hints hlen hg) fun r s' hq=>?_)
 obtain ⟨rfl,h2,h3,h4⟩:=hq
 exact ⟨.inl ⟨.bool true,.bool true,[],rfl,fun _=>rfl,.bool true,lH l _,fun _=>⟨List.Pairwise.nil,fun _ hm=>(nomatch hm)⟩⟩,h2,h3,h4⟩
section
variable {prog:Program} {w:World} {A:Around} {E:Value→Shared→Prop} {s:Shared} {K:Frag}
def rO (h:Heap) (L d:Addr):List (Addr×Obj):=(List.range h.objs.size).filterMap fun a=>if a=L∨a=d then none else (h.get? a).map fun o=>(a,o)
end
end Att
namespace L2
open PySem PySem.Spec PyProof.Rows
theorem cB:∀{vs:List Value} {ns:List Int},IntsAre vs ns→Vals (ns.map V.int) vs
 |_,_,.nil=>.nil
 |_,_,.cons n t h=>.cons ⟨t,rfl⟩ (cB h)
def Z8 (H:Hp):Prop:=∀b,H b=none∨∃o xs,H b=some (.frz o (.lst xs))
theorem m5 {P:Program} {w:World} {K:PySem.W.Frag} {mg mb:Str→Option Value} {CX:qL} {k:Nat} {fa a:Addr} {fd:FuncData} {x:Str} {sp:Sp} {s₁:Shared} {vs:List Value} {ns:List Int}
  (KX:K.In s₁.heap) (hns:s₁.heap.Ns mainGlobals mg) (hb:s₁.heap.Ns builtinsNs mb) (hbb:∀x:Str,x≠"__name__"→mb x=bootBuiltins x) (hlim:s₁.heap.NoLimit) (hg:s₁.gens = #[])
  (ha:s₁.heap.get? a=some {cls:=.type "list",data:=.seq vs.toArray}) (hi:IntsAre vs ns) (hl:ns.length≤sizeLine) (hr:Room k callerA)
  (F:∀base:Heap,K.In base→base.Ns mainGlobals mg→FnOk P w K mg base CX k fa fd [x] sp) (hbind:∀(s:Shared) (u:Value),BindsTo s fd ⟨[u],[]⟩ [(x,u)])
  (hsp:∀H:Hp,Z8 H→SqL K H a (ns.map V.int)→sp [.ref a] H (fun v _=>v=.bl true) fun _ _ _=>False)
  (hCX:∀H e s',CX [] H s₁ (fun _ _ _=>False) e s'→False) :
  codeAny (model P w) callerA (.call (.ref fa) ⟨[.ref a],[]⟩) (fun r s'=>r=.ok (.ret (.bool true))∧OldK s₁.heap s'.heap∧s'.os=s₁.os∧AllBare s'.gens) s₁:=by
 have rv:=cB hi
 have lenV:=hi.length
 have core:∀H:Hp,Z8 H→SqL K H a (ns.map V.int)→HOk P w H s₁.heap→(∀b,H b≠none→b=a)→(H a≠none→K.lookup a=none)→
   codeAny (model P w) callerA (.call (.ref fa) ⟨[.ref a],[]⟩) (fun r s'=>r=.ok (.ret (.bool true))∧OldK s₁.heap s'.heap∧s'.os=s₁.os∧AllBare s'.gens) s₁:=by
  intro H hO hS hok hA hK
  have base_of:∀{b:Addr} {o:Obj},s₁.heap.get? b=some o→H b=none→(vW s₁.heap H).get? b=some o:=fun e n=>m7 e n
  have noA:∀{b:Addr} {o:Obj} {es:Array DictEntry} {ep:Nat},s₁.heap.get? b=some o→o.data=.dict es ep→H b=none:=fun {b o es ep} e d=>by
   cases q:H b with
   |none=>rfl
   |some u =>
    have e':b=a:=hA b (by rw [q];simp)
    subst e'
    rw [ha] at e;cases e
    have d':Data.seq vs.toArray _=Data.dict es ep:=d
    cases d'
  have nsK:∀{b:Addr} {m:Str→Option Value},s₁.heap.Ns b m→(vW s₁.heap H).Ns b m:=fun {b m} ⟨o,es,ep,e,d,r⟩=>⟨o,es,ep,base_of e (noA e d),d,r⟩
  have hKb:K.In (vW s₁.heap H):=fun b o e=>base_of (KX b o e) (by
   cases q:H b with
   |none=>rfl
   |some u =>
    have e':b=a:=hA b (by rw [q];simp)
    subst e'
    rw [hK (by rw [q];simp)] at e;cases e)
  have hM:Mod K mg (vW s₁.heap H):=⟨hKb,nsK hns,⟨mb,nsK hb,hbb⟩,let ⟨mc,h1,h2⟩:=hlim;⟨mc,nsK h1,h2⟩⟩
  have e0:Env0 P w K mg (vW s₁.heap H) callerA [] s₁ H:=⟨rfl,hM,fun b o e=>n4 e,Nat.le_of_eq (lX _ _),trivial,fun b hb=>absurd (show b∈([]:List Addr) from hb) (by simp),hok,.of_eq hg⟩
  refine codeAny_mono ((F _ hKb (nsK hns)).run callerA [] s₁ H ⟨[.ref a],[]⟩ [.ref a] [.ref a] _ _ hr e0 (hbind s₁ (.ref a)) (.cons rfl .nil) (hsp H hO hS)) fun r s' h=>?_
  cases r with
  |error e=>exact (hCX H e s' h).elim
  |ok fl =>
   cases fl with
   |next=>exact False.elim h
   |brk=>exact False.elim h
   |cont=>exact False.elim h
   |ret u =>
    obtain ⟨v,H',os,bare,un,hok',r',q⟩:=h
    have q':v=.bl true:=q
    subst q'
    obtain rfl:u=Value.bool true:=r'
    refine ⟨rfl,OldK.of_keep fun b o e=>?_,os,bare⟩
    cases q:H b with
    |none=>exact un.keep b o e q (by intro z;exact absurd (show b∈([]:List Addr) from z) (by simp)) (by simp)
    |some u =>
     rcases hO b with z|⟨ob,xs,z⟩
     ·rw [q] at z;cases z
     ·have z2:=un.frzs b ob _ z
      obtain ⟨e1,_⟩:=hok b _ z
      obtain ⟨e2,_⟩:=hok' b _ z2
      rw [e] at e1;cases e1
      exact e2
 cases hk:K.lookup a with
 |some o =>
  have e:=KX a o hk
  rw [ha] at e
  cases e
  refine core (fun _=>none) (fun _=>.inl rfl) (.inr ⟨_,vs.toArray,_,hk,rfl,rfl,rfl,by rw [List.size_toArray,lenV];exact hl,by simpa using rv⟩) (fun b u z=>by have z':(none:Option HO)=some u:=z;cases z') (fun b z=>absurd rfl z) fun z=>absurd rfl z
 |none =>
  refine core (fun b=>if b=a then some (.frz {cls:=.type "list",data:=.seq vs.toArray} (.lst (ns.map V.int))) else none) (fun b=>?_) (.inl (.inr ⟨{cls:=.type "list",data:=.seq vs.toArray},if_pos rfl⟩)) (fun b u z=>?_) (fun b z=>?_) fun _=>hk
  ·by_cases hb:b=a
   ·exact .inr ⟨_,_,if_pos hb⟩
   ·exact .inl (if_neg hb)
  ·by_cases hb:b=a
   ·have z':=(if_pos hb).symm.trans z
    cases z'
    subst hb
    exact ⟨ha,by rw [List.length_map];exact hl,vs,_,rv,ha⟩
   ·have z':=(if_neg hb).symm.trans z
    cases z'
  ·by_cases hb:b=a
   ·exact hb
   ·exact absurd (if_neg hb) z
end L2
namespace L2
open PySem PySem.Spec PyProof.Rows
abbrev KOf {K:PySem.W.Frag} {h:Heap} (_:K.In h):PySem.W.Frag:=K
theorem walk_of {l:PySem.W.OpenLaw} {n k:Nat} {q:Program} {loose:List Str} {XP:(Str→Option Value)→Heap→Prop} {YP:World→Heap→Prop} {d:DefRec} {K:Params→PySem.W.Frag} {CX:World→qL} {sp:World→Sp} {x:Str}
  (hn:l.most=some n) (hn2:n≤sizeLine) (hdf:d.params.defaults=[]) (hr:Room k callerA)
  (hY:∀(w:World) (h:Heap),YP w h→(K w.params).In h)
  (F:∀(w:World) (mg:Str→Option Value) (fa:Addr) (h:Heap),(K w.params).In h→h.Ns mainGlobals mg→mg d.name=some (.ref fa)→
   ∃fd:FuncData,(∀(s:Shared) (u:Value),BindsTo s fd ⟨[u],[]⟩ [(x,u)])∧
    ∀base:Heap,(K w.params).In base→base.Ns mainGlobals mg→FnOk l.prog w (K w.params) mg base (CX w) k fa fd [x] (sp w))
  (hsp:∀(w:World) (H:Hp) (a:Addr) (ns:List Int),ns.length≤n→Z8 H→SqL (K w.params) H a (ns.map V.int)→sp w [.ref a] H (fun v _=>v=.bl true) fun _ _ _=>False)
  (hCX:∀(w:World) (H:Hp) (s:Shared) (e:Value) (s':Shared),CX w [] H s (fun _ _ _=>False) e s'→False) :
  PySem.W.WalkO q loose XP YP l.row.toRowW d [] (fun f vs=>PySem.call f vs):=by
 refine Att.attach_call hn hdf fun w s₀ s₁ mg mb fa o pm cd doc a vs ns G Y ho hd hcd hmg hobj hints hlen hg=>?_
 have KX:=hY w _ Y
 obtain ⟨fd,hb,hF⟩:=F w mg fa _ KX G.T.g hmg
 exact m5 KX G.T.g G.T.b G.T.builtins G.T.nolimit hg hobj hints (Nat.le_trans hlen hn2) hr hF hb (fun H hO hS=>hsp w H a ns hlen hO hS) fun H e s'=>hCX w H s₁ e s'
end L2
/- THE LAST THEOREM (shape;LID,My.* are yours):
  My.Adr: a structure of the addresses that your layer names (classes,functions);My.Txt K t: a structure (Prop) of the equations over K;
  My.txt_mk:{K} {implicit addresses ..} (e1:nsIn K mainGlobals "law"=some (some (.ref f))) (e2:K.lookup f=some ⟨oc,od,.func (fnOf "law" "law" params body scope dV kV doc pm an cdv ct),sl⟩) (e3:codeIn K cdv "law"=true) .. : ∃t,My.Txt K t
set_option maxRecDepth 100000 in
set_option maxHeartbeats 0 in
theorem PySem.Challenge.cw_LID_holds : PySem.Challenge.rw_LID.Holds := by
 w_on;o_law;k_head;(case hw=>w_witness2)
 k_fill
 refine L2.walk_of (l:=PySem.Challenge.rw_LID) (n:=63) (k:=40) (x:="script") (CX:=fun w=>..) (sp:=fun _=>My.sp_law) rfl (by decide) rfl ⟨rfl,by decide,by decide⟩ (fun w h Y=>PySem.W.kIn_of Y) ?F ?S ?C
 case F =>
  intro w mg fa h KX G hmg
  have T:∃t,My.Txt (L2.KOf KX) t:=by
   dsimp only [L2.KOf] -- K must stand as «<heap const> w.params» for k_is
   refine' My.txt_mk ?e1 ?e2 ?e3 ..
   (case e1=>PySem.W.k_is) -- in the order: a name -> its address -> its object -> its parts
   (case e2=>PySem.W.k_is)
   ..
  obtain ⟨t,T⟩:=T
  have e0:=hmg.symm.trans (PySem.W.mg_of KX G T.law)
  cases e0 -- fa is the law's own address
  exact ⟨_,fun s u=>.of_eq rfl,fun base kb nb=>My.law_fn T kb nb⟩ -- if «.of_eq rfl» comes too early: refine' ⟨_,?b,fun base kb nb=>My.law_fn T kb nb⟩;exact fun s u=>.of_eq rfl
 case S=>exact fun w H a ns hl hO hS=>..
 case C=>exact ..
(the tactic k_is has no namespace: write k_is) -/
namespace L2
open PySem PySem.Spec PyProof.Rows
def j0 (s:Stmt):Arguments:=match s with
 |.FunctionDef _ a _ _ _ _ _ _ _ _=>a
 |_=>{posonlyargs:=[],args:=[],vararg:=none,kwonlyargs:=[],kw_defaults:=[],kwarg:=none,defaults:=[]}
def jV (s:Stmt):List Stmt:=match s with
 |.FunctionDef _ _ b _ _ _ _ _ _ _=>b
 |_=>[]
def jE (s:Stmt):Scope:=match s with
 |.FunctionDef _ _ _ _ _ _ sc _ _ _=>sc
 |_=>{kind:=.function,names:=[],isGenerator:=false,isCoroutine:=false}
abbrev kK:qL:=fun _ _ _ _ _ _=>False
abbrev E0:XK:=fun _ _ _=>False
theorem pH {X:Cx}:Z1 kK X E0:=fun _ _ _ _ _ _ _ h=>h.elim
structure Fun (K:PySem.W.Frag) (x qual:Str) (st:Stmt) (f:Addr) (fd:FuncData):Prop where
 ex:∃(oc:Value) (od:Option Addr) (kV doc pm:Value) (an:Option Addr) (cdv ct:Value) (osl:Array (Option Value)),
  fd=PySem.W.fnOf x qual (j0 st) (jV st) (jE st) .none kV doc pm an cdv ct∧K.lookup f=some ⟨oc,od,.func fd,osl⟩∧PySem.W.codeIn K cdv qual=true
 kp:PySem.W.keepIn K (.ref f)=true
section
variable {P:Program} {w:World} {K:PySem.W.Frag} {mg:Str→Option Value} {base:Heap}
theorem Fun.ok {x qual:Str} {st:Stmt} {f:Addr} {fd:FuncData} {N ps:List Str} {k:Nat} {sp:Sp} (F:Fun K x qual st f fd) (S:FnScope N ps (jE st)) (len:∀vs H Q E,sp vs H Q E→vs.length=ps.length)
  (hbody:∀(cdv:Value) (A:Around) (outer:List Env) (s:Shared) (H:Hp) (vs:List V) (Q:VK) (E:XK),Room k (A.deeper (envOfC qual (jE st) s.heap.objs.size f cdv))→sp vs H Q E→
   ∃t,PSs (j4 kK P w K mg base N qual (jE st) f cdv A outer s H E).nox (jV st) t∧t {nx:=fun _ H'=>Q .non H',rt:=Q} (vS N vs) H):FnOk P w K mg base kK (k+1) f fd ps sp:=by
 obtain ⟨oc,od,kV,doc,pm,an,cdv,ct,osl,rfl,lk,hcd⟩:=F.ex
 refine e9 lk hcd S len fun A outer s H vs Q E hr hsp=>?_
 obtain ⟨t,h,q⟩:=hbody cdv A outer s H vs Q E hr hsp
 exact ⟨t,h.nox,q⟩
theorem Fun.binds {x qual:Str} {st:Stmt} {f:Addr} {fd:FuncData} {ps:List Str} (F:Fun K x qual st f fd)
  (h:∀(kV doc pm:Value) (an:Option Addr) (cdv ct:Value) (us:List Value),us.length=ps.length→bindArgs (PySem.W.fnOf x qual (j0 st) (jV st) (jE st) .none kV doc pm an cdv ct) ⟨us,[]⟩=pure (ps.zip us)):Binds K fd ps []:=by
 obtain ⟨oc,od,kV,doc,pm,an,cdv,ct,osl,rfl,lk,hcd⟩:=F.ex
 exact .all (h kV doc pm an cdv ct)
theorem kE {x qual:Str} {st:Stmt} {f:Addr} {oc:Value} {od an:Option Addr} {osl:Array (Option Value)} {kV doc pm cdv ct:Value} (l:K.lookup f=some ⟨oc,od,.func (PySem.W.fnOf x qual (j0 st) (jV st) (jE st) .none kV doc pm an cdv ct),osl⟩)
  (c:PySem.W.codeIn K cdv qual=true) (k:PySem.W.keepIn K (.ref f)=true):Fun K x qual st f (PySem.W.fnOf x qual (j0 st) (jV st) (jE st) .none kV doc pm an cdv ct):=⟨⟨oc,od,kV,doc,pm,an,cdv,ct,osl,rfl,l,c⟩,k⟩
end
theorem kF {A:Around} {k:Nat} (hr:Room k A):A.units+1<cLine:=Nat.lt_of_le_of_lt (Nat.add_le_add_left (by decide:1≤64) _) hr.units
theorem vJ {n:Nat} (h:n≤1000):n<sizeLine:=Nat.lt_of_le_of_lt h (by decide)
section
variable {X:Cx}
theorem pv (i:Nat) {x:Str} {pos:Pos} (hN:X.N[i]?=some x:=by rfl) (hv:QV X.env.scope x:=by first|exact Or.inl rfl|exact Or.inr (Or.inl rfl)|exact Or.inr (Or.inr rfl)) (hd:(x == ("__debug__":Str))=false:=by decide)
  (hcd:(x == ("__classdict__":Str))=false:=by decide):PE X (.Name x pos) (fD i):=oP hN hv hd hcd
end
theorem kS {A B:Prop} (h:B):if false=true then A else B:=by
 rw [if_neg Bool.false_ne_true]
 exact h
theorem jS {A B:Prop} (h:A):if true=true then A else B:=by
 rw [if_pos rfl]
 exact h
theorem Z6 {c A B:Prop} [Decidable c] (h1:c→A) (h2:¬c→B):if c then A else B:=by
 by_cases h:c
 ·rw [if_pos h]
  exact h1 h
 ·rw [if_neg h]
  exact h2 h
theorem vV {c A B:Prop} [Decidable c] (hc:c) (h:B):if (!decide c)=true then A else B:=by
 rw [decide_eq_true hc]
 exact kS h
def Same (H H':Hp):Prop:=∀b o,H b=some o→H' b=some o
theorem Same.refl (H:Hp):Same H H:=fun _ _ h=>h
theorem Same.trans {H H1 H2:Hp} (a:Same H H1) (b:Same H1 H2):Same H H2:=fun c o h=>b c o (a c o h)
theorem Same.free {H H':Hp} (e:Same H H') {l:Addr} (h:H' l=Option.none):H l=Option.none:=by
 cases q:H l with
 |none=>rfl
 |some o =>
  rw [e l o q] at h
  cases h
theorem Same.seq {K:PySem.W.Frag} {H H':Hp} {a:Addr} {xs:List V} (e:Same H H') (h:SqL K H a xs):SqL K H' a xs:=by
 rcases h with (h|⟨o,h⟩)|h
 ·exact .inl (.inl (e _ _ h))
 ·exact .inl (.inr ⟨o,e _ _ h⟩)
 ·exact .inr h
end L2
namespace L2
open PySem PySem.Spec PyProof.Rows
def kN (cells:List (Str×Addr)):List (Str×NameKind)→List (Str×Addr)→List (Str×Addr)
 |[],cs=>cs
 | (n,k)::r,cs=>if (k == NameKind.free)=true then kN cells r ((n,(cells.lookup n).getD 0)::cs) else kN cells r cs
theorem Q0 {scope:Scope} {env:Env} (h:∀x∈scope.names,x.2=.free→∃c,env.cells.lookup x.1=some c):closureFor scope env=pure (kN env.cells scope.names []):=by
 simp only [closureFor]
 have go:∀(l:List (Str×NameKind)) (cs:List (Str×Addr)),(∀x∈l,x.2=.free→∃c,env.cells.lookup x.1=some c)→
   (forIn l cs fun x r=>match x with|(name,kind)=>if (kind == NameKind.free)=true then do let a ← cellOf env name;pure (ForInStep.yield ((name,a)::r)) else pure (ForInStep.yield r):Sem (List (Str×Addr)))=pure (kN env.cells l cs):=by
  intro l
  induction l with
  |nil=>intro cs _;rfl
  |cons p r ih =>
   intro cs hp
   obtain ⟨n,k⟩:=p
   rw [List.forIn_cons]
   have hr:=fun cs=>ih cs fun x hx=>hp x (List.mem_cons_of_mem _ hx)
   by_cases hk:(k == NameKind.free)=true
   ·have hk':k=NameKind.free:=by simpa using hk
    obtain ⟨c,hc⟩:=hp (n,k) List.mem_cons_self hk'
    have hc':env.cells.lookup n=some c:=hc
    simp only [hk,if_true,kN,cellOf,hc',Option.getD_some,pure_bind]
    exact hr _
   ·simp only [hk,if_false,kN,pure_bind]
    exact hr _
 rw [go scope.names [] h]
 rfl
theorem z9 {cells:List (Str×Addr)}:∀{l:List (Str×NameKind)} {cs:List (Str×Addr)} {x:Str} {c:Addr},(∀y∈l,y.2=.free→∃c,cells.lookup y.1=some c)→(∀y d,cs.lookup y=some d→cells.lookup y=some d)→
  (kN cells l cs).lookup x=some c→cells.lookup x=some c
 |[],cs,x,c,_,hc,e=>hc x c e
 | (n,k)::r,cs,x,c,hl,hc,e=>by
  unfold kN at e
  by_cases hk:(k == NameKind.free)=true
  ·rw [if_pos hk] at e
   obtain ⟨d,hd⟩:=hl (n,k) List.mem_cons_self (by simpa using hk)
   have hd':cells.lookup n=some d:=hd
   refine z9 (fun y hy=>hl y (List.mem_cons_of_mem _ hy)) (fun y d' q=>?_) e
   rw [List.lookup_cons] at q
   by_cases hy:(y == n)=true
   ·rw [hy] at q
    have hyn:y=n:=by simpa using hy
    subst hyn
    rw [hd'] at q ⊢
    exact q
   ·rw [Bool.not_eq_true] at hy
    rw [hy] at q
    exact hc y d' q
  ·rw [if_neg hk] at e
   exact z9 (fun y hy=>hl y (List.mem_cons_of_mem _ hy)) hc e
theorem Q5 {cells:List (Str×Addr)}:∀{l:List (Str×NameKind)} {cs:List (Str×Addr)} {x:Str},(∃c,cs.lookup x=some c)→∃c,(kN cells l cs).lookup x=some c
 |[],_,_,h=>h
 | (n,k)::r,cs,x,h=>by
  unfold kN
  by_cases hk:(k == NameKind.free)=true
  ·rw [if_pos hk]
   refine Q5 ?_
   rw [List.lookup_cons]
   by_cases hy:(x == n)=true
   ·rw [hy];exact ⟨_,rfl⟩
   ·rw [Bool.not_eq_true] at hy
    rw [hy];exact h
  ·rw [if_neg hk];exact Q5 h
theorem JZ {cells:List (Str×Addr)}:∀{l:List (Str×NameKind)} {cs:List (Str×Addr)} {x:Str},(x,NameKind.free)∈l→∃c,(kN cells l cs).lookup x=some c
 | (n,k)::r,cs,x,h=>by
  unfold kN
  rcases List.mem_cons.mp h with e|e
  ·cases e
   rw [if_pos (by rfl)]
   exact Q5 (by rw [List.lookup_cons,beq_self_eq_true];exact ⟨_,rfl⟩)
  ·by_cases hk:(k == NameKind.free)=true
   ·rw [if_pos hk];exact JZ e
   ·rw [if_neg hk];exact JZ e
theorem mG {prog:Program} {w:World} {A:Around} {elt target iter:Expr} {ifs:List Expr} {scope:Scope} {pos:Pos} {it acc:Value} {env:Env} {R:Result→Shared→Prop} {s:Shared} (I:Nat→Shared→Prop)
  (turn:∀n s,I n s→wpAny (model prog w) A (pyNext it) (fun r s₁=>match r with
   |none=>R (.ok .next) s₁
   |some v=>wpAny (model prog w) A (letOwnedTupleGo target it v) (fun _ s₁'=>wpAny (model prog w) A (assign target env v) (fun _ s₂ =>
     wpAny (model prog w) A (forIn ifs true fun c r=>if r=true then do let ok ← isTrue c env (eval c env);pure (ForInStep.yield ok) else pure (ForInStep.yield r)) (fun ok s₃ =>
      if ok=true then wpAny (model prog w) A (eval elt env) (fun x s₄ =>
       wpAny (model prog w) A (call (.builtin "list.append") [acc,x]) (fun _ s₅=>∃m,m<n∧I m s₅) (fun _ _=>False) s₄) (fun _ _=>False) s₃
      else ∃m,m<n∧I m s₃) (fun _ _=>False) s₂) (fun _ _=>False) s₁') (fun _ _=>False) s₁) (fun _ _=>False) s)
  (n:Nat) (h:I n s):codeAny (model prog w) A (.compLoop (.ListComp elt [⟨target,iter,ifs,0⟩] scope pos) 0 it acc env) R s:=by
 refine codeAny_loop rfl I (fun n s hI=>?_) n h
 show wpAny _ A ((compTurn (.ListComp elt [⟨target,iter,ifs,0⟩] scope pos) 0 it acc env).onRaise (fun x=>do noteFrame x env;theTreesLotGoes x)) _ _ s
 refine wpAny_noted ?_
 rw [compTurn_list]
 refine wpAny_bind (wpAny_standAt (wpAny_bind (wpAny_mono (turn n s hI) (fun r s₁ h₁=>?_) fun _ _ h'=>h'.elim)))
 cases r with
 |none=>exact wpAny_pure h₁
 |some v =>
  refine wpAny_bind (wpAny_mono h₁ (fun _ s₁' h₁'=>?_) fun _ _ h'=>h'.elim)
  refine wpAny_bind (wpAny_mono h₁' (fun _ s₂ h₂=>wpAny_bind (wpAny_mono h₂ (fun ok s₃ h₃=>?_) fun _ _ h'=>h'.elim)) fun _ _ h'=>h'.elim)
  cases ok with
  |false=>exact wpAny_pure ⟨rfl,h₃⟩
  |true =>
   exact wpAny_bind (wpAny_bind (wpAny_mono h₃ (fun x s₄ h₄=>wpAny_bind (wpAny_mono h₄ (fun _ s₅ h₅=>wpAny_pure (wpAny_pure ⟨rfl,h₅⟩)) fun _ _ h'=>h'.elim)) fun _ _ h'=>h'.elim))
def jQ (X:Cx) (N:List Str) (scope:Scope) (C:Addr) (s:Shared) (H:Hp) (pins:List (Addr×Obj)) (fp:List Addr):Cx where
 prog:=X.prog
 w:=X.w
 K:=X.K
 mg:=X.mg
 base:=X.base
 A:=X.A
 N:=N
 s₀:=s
 H₀:=H
 env:=compEnvC scope (kN X.env.cells scope.names []) C X.env
 outer:=X.stack
 stack:=X.stack
 ex:=fp
 fn:=fun _=>false
 calm:=X.calm
 pn:=X.pn++pins
 xe:=fun _ _=>False
structure CompScope (X:Cx) (scope:Scope):Prop where
 kind:scope.kind=.function
 nocell:∀y∈scope.names,y.2≠.cell
 names:∀y∈scope.names,y.2=.local→scope.names.lookup y.1=some .local
 free:∀y∈scope.names,y.2=.free→X.env.kindOf y.1=some .cell∨X.env.kindOf y.1=some .free
theorem QZ {env:Env} {x:Str}:∀{names:List (Str×NameKind)} {k:NameKind},(names.map fun (n,k)=>if (k == NameKind.free&&env.scope.kind == .function&&env.kindOf n == some .cell) then (n,NameKind.cell) else (n,k)).lookup x=some k→
  ∃k',names.lookup x=some k'∧(k'=k∨(k'=.free∧k=.cell∧env.kindOf x=some .cell))
 |[],k,h=>by simp at h
 | (n,k0)::r,k,h=>by
  have ih:=@QZ env x r k
  have h':List.lookup x ((if (k0 == NameKind.free&&env.scope.kind == .function&&env.kindOf n == some .cell)=true then (n,NameKind.cell) else (n,k0))::r.map fun (n,k)=>if (k == NameKind.free&&env.scope.kind == .function&&env.kindOf n == some .cell)=true then (n,NameKind.cell) else (n,k))=some k:=h
  by_cases hc:(k0 == NameKind.free&&env.scope.kind == .function&&env.kindOf n == some .cell)=true
  ·rw [if_pos hc] at h'
   rw [List.lookup_cons] at h'
   cases hx:x == n with
   |true =>
    rw [hx] at h'
    have hk:NameKind.cell=k:=Option.some.inj h'
    simp only [Bool.and_eq_true,beq_iff_eq] at hc
    have hxn:x=n:=by simpa using hx
    refine ⟨k0,by rw [List.lookup_cons,hx],.inr ⟨hc.1.1,hk.symm,by rw [hxn];exact hc.2⟩⟩
   |false =>
    rw [hx] at h'
    obtain ⟨k',e1,e2⟩:=ih h'
    exact ⟨k',by rw [List.lookup_cons,hx];exact e1,e2⟩
  ·rw [if_neg hc] at h'
   rw [List.lookup_cons] at h'
   cases hx:x == n with
   |true =>
    rw [hx] at h'
    exact ⟨k0,by rw [List.lookup_cons,hx],.inl (Option.some.inj h')⟩
   |false =>
    rw [hx] at h'
    obtain ⟨k',e1,e2⟩:=ih h'
    exact ⟨k',by rw [List.lookup_cons,hx];exact e1,e2⟩
theorem Q2 {α:Type}:∀{l:List (Str×α)} {x:Str} {k:α},l.lookup x=some k→(x,k)∈l
 |[],_,_,h=>by simp at h
 | (n,a)::r,x,k,h=>by
  rw [List.lookup_cons] at h
  cases hx:x == n with
  |true =>
   rw [hx] at h
   have e:a=k:=Option.some.inj h
   have hxn:x=n:=by simpa using hx
   subst e;subst hxn
   exact List.mem_cons_self
  |false =>
   rw [hx] at h
   exact List.mem_cons_of_mem _ (Q2 h)
def yV (X:Cx) (ifs:List Expr) (t:TT):Prop :=
 ∀(pins:List (Addr×Obj)) (s:Shared) (σ:St) (H:Hp) (Q:Bool→Hp→Prop),Inv X pins σ H s→t σ H Q→
  wpAny (model X.prog X.w) X.A (forIn ifs true fun c r=>if r=true then do let ok ← isTrue c X.env (eval c X.env);pure (ForInStep.yield ok) else pure (ForInStep.yield r)) (TP X pins σ Q) X.xe s
def fC:TT:=fun _ H Q=>Q true H
theorem qO {X:Cx}:yV X [] fC:=fun _ _ _ H _ I h=>wpAny_tests_nil ⟨H,I,h⟩
theorem nU {X:Cx} {c:Expr} {t:TT} (hc:PT X c t):yV X [c] t:=fun pins s σ H Q I h=>wpAny_tests_one (hc pins s σ H Q I h)
def vG (D:Addr) (J:It) (g:TG) (tc:TT) (te:TE) (σ₀:St) (H:Hp) (Q:Hp→Prop):Prop :=
 ∃W:Nat→Nat→St→Hp→Prop,(∃m,W 0 m σ₀ (upd H D (.lst [])))∧∀i m σ' H',W i m σ' H'→
  (J.stop i H'∧Q H')∨(J.go i H'∧∃N:St→Hp→Prop,(∀σ'' H'',N σ'' H''→∃m',m'<m∧W (i+1) m' σ'' H'')∧∀x H2,J.yld i H' x H2→g x σ' H2 fun σ2 H3=>tc σ2 H3 fun b H4 =>
   if b=true then te σ2 H4 fun v H5=>∃xs,H5 D=some (.lst xs)∧xs.length<sizeLine∧N σ2 (upd H5 D (.lst (xs++[v]))) else N σ2 H4)
def eU (wi:TI) (cap:St→St) (g:TG) (tc:TT) (te:TE):TE:=fun σ H Q=>wi σ H fun J H1=>∀D,H1 D=none→vG D J g tc te (cap σ) H1 fun H'=>Q (.ref D) H'
def mO (i:Nat) (wi:TI) (cap:St→St) (g:TG) (tc:TT) (te:TE):TS:=fun D σ H=>wi σ H fun J H1=>∀d,H1 d=none→vG d J g tc te (cap σ) H1 fun H'=>D.nx (σ.set i (some (.ref d))) H'
def v6 (X:Cx) (N:List Str) (scope:Scope) (cap:St→St):Prop :=
 ∀σ:St,σ.length=X.N.length→(cap σ).length=N.length∧∀(i:Nat) (x:Str) (v:V),N[i]?=some x→(cap σ)[i]?=some (some v)→scope.names.lookup x=some .free∧∃j:Nat,X.N[j]?=some x∧σ[j]?=some (some v)
def kU (n:Nat) (js:List Nat):St→St:=fun σ=>List.replicate n none++js.map fun j=>(σ[j]?).join
theorem qA {X:Cx} {N:List Str} {scope:Scope} (n:Nat) (js:List Nat) (h1:N.length=n+js.length) (h2:js.map (fun j=>X.N[j]?)=(N.drop n).map some) (h3:∀x∈N.drop n,scope.names.lookup x=some .free):v6 X N scope (kU n js):=by
 intro σ hσ
 refine ⟨by unfold kU;rw [List.length_append,List.length_replicate,List.length_map,h1],fun i x v e1 e2=>?_⟩
 unfold kU at e2
 by_cases hi:i<n
 ·rw [List.getElem?_append_left (by simpa using hi),List.getElem?_replicate,if_pos hi] at e2
  cases e2
 ·rw [List.getElem?_append_right (by simpa using hi),List.length_replicate,List.getElem?_map] at e2
  cases hj:js[i - n]? with
  |none=>rw [hj] at e2;cases e2
  |some j =>
   rw [hj] at e2
   have e3:(σ[j]?).join=some v:=Option.some.inj e2
   have e4:σ[j]?=some (some v):=by
    cases q:σ[j]? with
    |none=>rw [q] at e3;cases e3
    |some o =>
     rw [q] at e3
     have e5:o=some v:=e3
     rw [e5]
   have hd:(N.drop n)[i - n]?=some x:=by
    rw [List.getElem?_drop,show n+(i - n)=i by omega]
    exact e1
   have e5:=congrArg (fun l=>l[i - n]?) h2
   simp only [List.getElem?_map,hj,hd,Option.map_some] at e5
   exact ⟨h3 x (List.mem_of_getElem? hd),j,Option.some.inj e5,e4⟩
theorem qF {X:Cx} {scope:Scope} (sc:Scope) (hsc:X.env.scope=sc) (kind:scope.kind=.function) (nocell:∀y∈scope.names,y.2≠.cell) (names:∀y∈scope.names,y.2=.local→scope.names.lookup y.1=some .local)
  (free:∀y∈scope.names,y.2=.free→sc.names.lookup y.1=some .cell∨sc.names.lookup y.1=some .free):CompScope X scope:=⟨kind,nocell,names,fun y hy hf=>by
 subst hsc
 exact free y hy hf⟩
section
variable {X:Cx} {N:List Str} {scope:Scope} {pins:List (Addr×Obj)} {σ:St} {H:Hp} {s:Shared} {fp:List Addr}
theorem zH (S:CompScope X scope) (I:Inv X pins σ H s):∀y∈scope.names,y.2=.free→∃c,X.env.cells.lookup y.1=some c:=fun y hy hf=>I.ok.has y.1 (S.free y hy hf)
theorem dS {cap:St→St} {D C:Addr} {h₁:Heap} {t':Nat} {m:Str→Option Value} (S:CompScope X scope) (I:Inv X pins σ H s) (hcap:v6 X N scope cap) (hf:∀b∈fp,qJ X pins H b) (hfo:∀b∈fp,∃o,s.heap.get? b=some o)
  (hD:s.heap.objs.size≤D) (hC:s.heap.objs.size≤C) (hDC:D≠C) (old:∀b o,s.heap.get? b=some o→h₁.get? b=some o) (hns:h₁.Ns C m) (hl:h₁.get? D=some {cls:=.type "list",data:=.seq ([]:List Value).toArray}) :
  Inv (jQ X N scope C s H pins fp) [] (cap σ) (upd H D (.lst [])) {s with heap:=h₁,toks:=t'}:=by
 have cellsOk:=zH S I
 have look:∀x c,(kN X.env.cells scope.names []).lookup x=some c→X.env.cells.lookup x=some c:=fun x c e=>z9 cellsOk (fun y d q=>by simp at q) e
 have lt:∀{b:Addr} {o:Obj},s.heap.get? b=some o→b<s.heap.objs.size:=fun e=>Heap.lt_size e
 have cellLt:∀x c,X.env.cells.lookup x=some c→c<s.heap.objs.size:=fun x c e=>by
  obtain ⟨v,o,ho,_⟩:=I.cell x c e
  exact lt ho
 have nD:H D=none:=I.hok.fresh hD
 have nC:H C=none:=I.hok.fresh hC
 have stkNe:∀b:Addr,b≠X.env.locals→b∉X.fs→b∉jJ X.stack:=fun b h1 h2 z=>by
  rcases List.mem_cons.mp (I.stkSub b z) with e|e
  ·exact h1 e
  ·exact h2 e
 refine ⟨⟨I.ok.mod,S.kind,I.ok.glob,I.ok.blt,hC,fun x y c h1 h2=>I.ok.inj x y c (look x c h1) (look y c h2),fun x hx=>?_,fun x c hfn _=>(nomatch hfn),I.ok.hd,I.ok.frames,.inl rfl,fun b hb=>⟨?_,fun x c e=>(hf b hb).2.2.2.2.1 x c (look x c e)⟩,
   I.bs,Nat.le_trans I.ok.bsz I.sz,fun b o e hb=>?_,fun b hb=>stkNe b (hf b hb).2.1 (hf b hb).2.2.1,I.stack,I.stkFree⟩,
  rfl,I.bare,Un.laid old hD nD,⟨m,hns,fun i x v h1 h2 h3=>?_⟩,fun x c e=>?_,?_,fun x c e=>?_,fun p hp=>?_,?_,(hcap σ I.len).1⟩
 ·-- has
  have hx':∃k,(relabel scope X.env).names.lookup x=some k∧(k=.cell∨k=.free):=by
   rcases hx with e|e
   ·exact ⟨_,e,.inl rfl⟩
   ·exact ⟨_,e,.inr rfl⟩
  obtain ⟨k,e,hk⟩:=hx'
  obtain ⟨k',e1,e2⟩:=QZ e
  have hm:=Q2 e1
  have hfree:k'=.free:=by
   rcases e2 with e2|e2
   ·subst e2
    rcases hk with hk|hk
    ·subst hk
     exact absurd rfl (S.nocell _ hm)
    ·exact hk
   ·exact e2.1
  subst hfree
  exact JZ hm
 ·obtain ⟨o,ho⟩:=hfo b hb
  exact Nat.ne_of_lt (Nat.lt_of_lt_of_le (lt ho) hC)
 ·rcases (hf b hb).2.2.2.1 with z|z
  ·exact I.ok.noex b o e z
  ·exact absurd (Nat.lt_of_lt_of_le (Heap.lt_size e) (Nat.le_trans I.ok.bsz z)) (Nat.lt_irrefl _)
 ·-- names
  obtain ⟨hfr,j,hj,hv⟩:=(hcap σ I.len).2 i x v h1 h2
  have hm:=Q2 hfr
  have hk:=S.free _ hm rfl
  obtain ⟨m0,_,hl0⟩:=I.loc
  have vis:QV X.env.scope x:=by
   rcases hk with k|k
   ·exact .inr (.inl k)
   ·exact .inr (.inr k)
  obtain ⟨u,r,l⟩:=hl0 j x v hj hv vis
  refine ⟨u,r,.inr ⟨?_,?_⟩⟩
  ·have hvis:∃k,(relabel scope X.env).names.lookup x=some k:=by
    rcases h3 with e|e|e<;>exact ⟨_,e⟩
   obtain ⟨k,e⟩:=hvis
   obtain ⟨k',e1,e2⟩:=QZ e
   rw [hfr] at e1
   cases e1
   rcases e2 with e2|e2
   ·subst e2;exact .inr e
   ·rw [e2.2.1] at e;exact .inl e
  ·rcases l with ⟨k,_⟩|⟨_,c,hc,hcell⟩
   ·exfalso
    rcases hk with q|q
    ·have q':X.env.kindOf x=some .cell:=q
     rw [k] at q';cases q'
    ·have q':X.env.kindOf x=some .free:=q
     rw [k] at q';cases q'
   ·obtain ⟨c',e'⟩:=JZ (cells:=X.env.cells) (cs:=[]) hm
    have e2:=look x c' e'
    have e2':X.env.cells.lookup x=some c':=e2
    rw [hc] at e2'
    cases e2'
    obtain ⟨o,ho,hd⟩:=hcell
    exact ⟨c,e',o,old _ _ ho,hd⟩
 ·obtain ⟨v,o,ho,hd⟩:=I.cell x c (look x c e)
  exact ⟨v,o,old _ _ ho,hd⟩
 ·show upd H D (.lst []) C=none
  rw [j7 (Ne.symm hDC)]
  exact nC
 ·have hc:=look x c e
  rw [j7 (Nat.ne_of_lt (Nat.lt_of_lt_of_le (cellLt x c hc) hD))]
  exact I.freeC x c hc
 ·have hp':p∈X.pn++pins:=by
   rcases List.mem_append.mp hp with z|z
   ·exact z
   ·cases z
  obtain ⟨e,n,ne,nf,d⟩:=I.pin p hp'
  refine ⟨old _ _ e,?_,Nat.ne_of_lt (Nat.lt_of_lt_of_le (lt e) hC),stkNe p.1 ne nf,d⟩
  rw [j7 (Nat.ne_of_lt (Nat.lt_of_lt_of_le (lt e) hD))]
  exact n
 ·refine I.hok.laid old hD ?_
  exact ⟨Nat.zero_le _,[],0,.nil,hl⟩
theorem J4 {σ':St} {H':Hp} {s':Shared} {C:Addr} {σc:St} {Nc:List Str} (I:Inv X pins σ H s) (hf:∀b∈fp,qJ X pins H b) (J:Inv (jQ X Nc scope C s H pins fp) [] σc H' s'):Inv X pins σ H' s':=by
 refine I.call' (ch:=fp) J.os J.base J.hok J.bare fun b hb=>?_
 obtain ⟨_,h2,_,h4,h5,h6⟩:=hf b hb
 exact ⟨h4,h2,h5,h6⟩
theorem ZK {σ':St} {H':Hp} {s':Shared} {C:Addr} {h':Heap} (I:Inv X pins σ H s) (hC:s.heap.objs.size≤C) (J:Inv X pins σ' H' s') (hn:H' C=none) (sb:Heap.SameBut C s'.heap h'):Inv X pins σ' H' {s' with heap:=h'}:=by
 refine J.turned (t':=s'.toks) (it:=C) (fun b o hb e=>(sb.2 b hb).trans e) hn (Nat.ne_of_gt (Nat.lt_of_lt_of_le I.lt hC)) (.inr (Nat.le_trans I.sz hC)) (fun x c e z=>?_) fun p hp z=>?_
 ·obtain ⟨v,q⟩:=I.cell x c e
  exact absurd (Nat.lt_of_lt_of_le q.lt (by rw [z];exact hC)) (Nat.lt_irrefl _)
 ·exact absurd (Nat.lt_of_lt_of_le (Heap.lt_size (I.pin p hp).1) (by rw [z];exact hC)) (Nat.lt_irrefl _)
theorem dR {tg iter elt:Expr} {ifs:List Expr} {pos:Pos} {cap:St→St} {g:TG} {tc:TT} {te:TE} {J:It} {it:Addr} {tn:Nat→Heap→Prop} {Q:Addr→Hp→Prop} {RR:Value→Addr→Result→Shared→Prop}
  (hcalm:X.calm=true) (S:CompScope X scope) (hcap:v6 X N scope cap) (I:Inv X pins σ H s) (T:Turn X.prog X.w X.K tg J fp it tn) (st:tn 0 s.heap) (hf:∀b∈fp,qJ X pins H b)
  (hg:∀C,PG (jQ X N scope C s H pins fp) tg g) (hc:∀C,yV (jQ X N scope C s H pins fp) ifs tc) (he:∀C,PE (jQ X N scope C s H pins fp) elt te)
  (hq:∀D,H D=none→vG D J g tc te (cap σ) H (Q D))
  (hRR:∀D C σc H' s',s.heap.objs.size≤C→Inv (jQ X N scope C s H pins fp) [] σc H' s'→Q D H'→RR (.ref D) C (.ok .next) s') :
  wpAny (model X.prog X.w) X.A (newList []) (fun acc s₃=>wpAny (model X.prog X.w) X.A (newFunctionEnv scope X.env.globals (kN X.env.cells scope.names []) [] X.env.qual none .none (some X.env)) (fun cenv s₄ =>
   codeAny (model X.prog X.w) X.A (.compStart (.ListComp elt [⟨tg,iter,ifs,0⟩] scope pos) 0 (.ref it) acc {cenv with scope:=relabel scope X.env}) (RR acc cenv.locals) s₄) X.xe s₃) X.xe s:=by
 refine wpAny_newObj_type (wpAny_newFunctionEnv S.nocell (by intro y hy;simp at hy) (fun h₁ hns₁ hsb₁=>?_) S.kind)
 dsimp only at hns₁ hsb₁ ⊢
 generalize hH2:s.heap.push {cls:=.type "list",dict:=none,data:=.seq ([]:List Value).toArray}=H2 at hns₁ hsb₁ ⊢
 have hC:H2.objs.size=s.heap.objs.size+1:=by rw [← hH2,Heap.size_push]
 have hDC:s.heap.objs.size≠H2.objs.size:=by rw [hC];exact Nat.ne_of_lt (Nat.lt_succ_self _)
 have hCle:s.heap.objs.size≤H2.objs.size:=by rw [hC];exact Nat.le_succ _
 have below:∀b,b<s.heap.objs.size→b≠H2.objs.size:=fun b hb=>by rw [hC];exact Nat.ne_of_lt (Nat.lt_succ_of_lt hb)
 have old:∀b o,s.heap.get? b=some o→h₁.get? b=some o:=fun b o e=>hsb₁.extBut b o (below b (Heap.lt_size e)) (Heap.get?_push_of_some _ (hH2▸Heap.get?_push_of_some _ e))
 have hacc:h₁.get? s.heap.objs.size=some {cls:=.type "list",data:=.seq ([]:List Value).toArray}:=hsb₁.extBut _ _ hDC (Heap.get?_push_of_some _ (hH2▸Heap.get?_push_size _ rfl))
 have obj0:=T.obj 0 s.heap st
 have I1:∀t',Inv (jQ X N scope H2.objs.size s H pins fp) [] (cap σ) (upd H s.heap.objs.size (.lst [])) {s with heap:=h₁,toks:=t'}:=fun t' =>
  dS S I hcap hf (fun b hb=>let ⟨o,e,_⟩:=obj0 b hb;⟨o,e⟩) (Nat.le_refl _) hCle hDC old hns₁ hacc
 have st1:tn 0 h₁:=T.keep 0 s.heap h₁ st fun b _ o e=>old b o e
 have stat:∀{H':Hp},(∀b∈fp,H' b=none)→∀b∈fp,qJ (jQ X N scope H2.objs.size s H pins fp) [] H' b:=fun hn b hb=>by
  obtain ⟨_,h2,h3,h4,h5,h6⟩:=hf b hb
  obtain ⟨o,ho,_⟩:=obj0 b hb
  refine ⟨hn b hb,below b (Heap.lt_size ho),?_,.inl hb,fun x c e=>h5 x c (z9 (zH S I) (fun y d q=>by simp at q) e),fun p hp=>?_⟩
  ·intro z
   rcases List.mem_cons.mp (I.stkSub b z) with e|e
   ·exact h2 e
   ·exact h3 e
  ·rcases List.mem_append.mp hp with z|z
   ·exact h6 p z
   ·cases z
 have fr1:∀b∈fp,upd H s.heap.objs.size (.lst []) b=none:=fun b hb=>by
  obtain ⟨o,ho,_⟩:=obj0 b hb
  rw [j7 (Nat.ne_of_lt (Heap.lt_size ho))]
  exact (hf b hb).1
 obtain ⟨W,⟨m0,w0⟩,turn⟩:=hq s.heap.objs.size (I.hok.fresh (Nat.le_refl _))
 have loop:∀s₃:Shared,s₃={s with heap:=h₁,toks:=s.toks+([]:List (Str×Value)).length}→
   codeAny (model X.prog X.w) X.A (.compLoop (.ListComp elt [⟨tg,iter,ifs,0⟩] scope pos) 0 (.ref it) (.ref s.heap.objs.size) (compEnvC scope (kN X.env.cells scope.names []) H2.objs.size X.env))
    (RR (.ref s.heap.objs.size) H2.objs.size) s₃:=by
  rintro s₃ rfl
  refine mG (fun n s'=>∃i σ' H',Inv (jQ X N scope H2.objs.size s H pins fp) [] σ' H' s'∧tn i s'.heap∧(∀b∈fp,H' b=none)∧W i n σ' H') ?_ m0 ⟨0,cap σ,_,I1 _,st1,fr1,w0⟩
  rintro n s3 ⟨i,σ3,H3,I3,st3,fr3,w3⟩
  rcases turn i n σ3 H3 w3 with ⟨stop,qn⟩|⟨go,Nn,hN,step⟩
  ·refine jD (T.done (jQ X N scope H2.objs.size s H pins fp) rfl rfl rfl hcalm i [] s3 σ3 H3 (fun _ _=>False) I3 (stat fr3) st3 stop) fun r s4 ⟨hr,I4⟩=>?_
   subst hr
   exact hRR _ _ σ3 H3 s4 hCle I4 qn
  ·refine jD (T.item (jQ X N scope H2.objs.size s H pins fp) rfl rfl rfl hcalm i [] s3 σ3 H3 (fun _ _=>False) I3 (stat fr3) st3 go) fun r s4 ⟨u,hr,h4⟩=>?_
   subst hr
   refine jD h4 fun _ s5 ⟨x,H5,I5,r5,y5,st5,fr5⟩=>?_
   have I5':=I5.pinned (stat fr5) (T.obj _ _ st5)
   have again:∀{σ7:St} {H7:Hp} {s7:Shared},Inv (jQ X N scope H2.objs.size s H pins fp) ([]++zS fp s5.heap) σ7 H7 s7→Nn σ7 H7→
     ∃m,m<n∧∃i σ' H',Inv (jQ X N scope H2.objs.size s H pins fp) [] σ' H' s7∧tn i s7.heap∧(∀b∈fp,H' b=none)∧W i m σ' H':=fun {σ7 H7 s7} I7 n7=>by
    obtain ⟨m',hm,w7⟩:=hN σ7 H7 n7
    refine ⟨m',hm,i+1,σ7,H7,I7.unpinned,T.keep _ _ _ st5 fun b hb o e=>(I7.pin (b,o) (List.mem_append_right _ (List.mem_append_right _ (zG hb e)))).1,fun b hb=>?_,w7⟩
    obtain ⟨o,e,d⟩:=T.obj _ _ st5 b hb
    exact (I7.pin (b,o) (List.mem_append_right _ (List.mem_append_right _ (zG hb e)))).2.1
   refine jD (hg _ _ s5 σ3 H5 x u _ I5' r5 (step x H5 y5)) fun _ s6 ⟨σ6,H6,I6,q6⟩=>?_
   refine jD (hc _ _ s6 σ6 H6 _ I6 q6) fun ok s7 ⟨H7,I7,q7⟩=>?_
   cases ok with
   |false=>exact again I7 q7
   |true =>
    refine jD (he _ _ s7 σ6 H7 _ I7 q7) fun v s8 ⟨y,H8,I8,r8,xs,hD8,hz8,n8⟩=>?_
    refine jD (yJ _ s8 σ6 H8 (.ref s.heap.objs.size) [y] (.ref s.heap.objs.size) [v] (fun _ H9=>Nn σ6 H9) I8 rfl (.cons r8 .nil) ⟨_,_,_,rfl,rfl,hD8,hz8,n8⟩) fun _ s9 ⟨_,H9,I9,_,n9⟩=>?_
    exact again I9 n9
 exact codeAny_compStart_list (loop _ rfl) (wpAny_mono (T.self X.A 0 _ (fun v s'=>v=.ref it∧s'=_) (fun _ _=>False) st1 ⟨rfl,rfl⟩) (fun v s' ⟨e1,e2⟩=>by subst e1;subst e2;exact loop _ rfl) fun _ _ z=>z.elim)
theorem vQ {tg iter elt:Expr} {ifs:List Expr} {pos:Pos} {wi:TI} {g:TG} {tc:TT} {te:TE} (N:List Str) (cap:St→St) (hcalm:X.calm=true) (S:CompScope X scope) (hcap:v6 X N scope cap) (hi:PI X tg iter wi)
  (hg:∀C s H pins fp,PG (jQ X N scope C s H pins fp) tg g) (hc:∀C s H pins fp,yV (jQ X N scope C s H pins fp) ifs tc) (he:∀C s H pins fp,PE (jQ X N scope C s H pins fp) elt te)
  (hs:∀x,foldedSetIterable iter X.env x=pure x:=by intro _;rfl):PE X (.ListComp elt [⟨tg,iter,ifs,0⟩] scope pos) (eU wi cap g tc te):=by
 intro pins s σ H Q I h
 rw [eval_ListComp]
 refine wpAny_comprehension_free (use:=none) rfl hs (Q0 (zH S I)) S.kind S.names (jD (hi pins s σ H _ I h) fun v s1 h1=>jD h1 fun itv s2 h2=>?_)
 obtain ⟨it,fp,tn,J,H2,e,I2,T,st2,f2,q2⟩:=h2
 subst e
 refine dR (RR:=fun acc C=>compPost (model X.prog X.w) X.A X.xe none (EP X pins σ Q) acc C) (Q:=fun D H'=>Q (.ref D) H') hcalm S hcap I2 T st2 f2 (fun C=>hg C _ _ _ _) (fun C=>hc C _ _ _ _) (fun C=>he C _ _ _ _) q2 ?_
 intro D C σc H' s' hC Jc q
 obtain ⟨m,hn,_⟩:=Jc.loc
 refine ⟨m,hn,fun h' hs'=>?_⟩
 exact ⟨.ref D,H',ZK I2 hC (J4 (σ':=σ) I2 f2 Jc) Jc.free hs',rfl,q⟩
theorem bZ {tg iter elt:Expr} {ifs:List Expr} {pos spos py:Pos} {i:Nat} {y:Str} {wi:TI} {g:TG} {tc:TT} {te:TE} (N:List Str) (cap:St→St) (hN:X.N.Nodup) (hy:X.N[i]?=some y) (hloc:JP X.env.scope y) (hcalm:X.calm=true) (S:CompScope X scope) (hcap:v6 X N scope cap) (hi:PI X tg iter wi)
  (hg:∀C s H pins fp,PG (jQ X N scope C s H pins fp) tg g) (hc:∀C s H pins fp,yV (jQ X N scope C s H pins fp) ifs tc) (he:∀C s H pins fp,PE (jQ X N scope C s H pins fp) elt te)
  (hsw:swapsWith (.ListComp elt [⟨tg,iter,ifs,0⟩] scope pos) (some (.Name y py)) spos.line X.env=pure true:=by rfl)
  (hs:∀x,foldedSetIterable iter X.env x=pure x:=by intro _;rfl) (hfn:X.fn y=true∨X.env.scope.names.lookup y=some .local:=by first|exact .inl rfl|exact .inr rfl|assumption) :
  PS X (.Assign [.Name y py] (.ListComp elt [⟨tg,iter,ifs,0⟩] scope pos) spos) (mO i wi cap g tc te):=by
 intro pins s σ H D I h
 rw [exec_Assign_Name_used _ _ _ _ hsw]
 refine wpAny_bind (wpAny_standAt (wpAny_bind ?_))
 show wpAny _ X.A (do let _ ← comprehension (.ListComp elt [⟨tg,iter,ifs,0⟩] scope pos) scope X.env _ (newList []) false (eval iter X.env) (some (assign (.Name y py) X.env))) _ _ s
 refine wpAny_bind (wpAny_mono (wpAny_comprehension_free (use:=some (assign (.Name y py) X.env)) (Q:=fun _ s'=>SP X pins D .next s') rfl hs (Q0 (zH S I)) S.kind S.names
  (jD (hi pins s σ H _ I h) fun v s1 h1=>jD h1 fun itv s2 h2=>?_)) (fun _ s' hq=>wpAny_pure (wpAny_pure hq)) fun _ _ e=>e)
 obtain ⟨it,fp,tn,J,H2,e,I2,T,st2,f2,q2⟩:=h2
 subst e
 refine dR (RR:=fun acc C=>compPost (model X.prog X.w) X.A X.xe (some (assign (.Name y py) X.env)) (fun _ s'=>SP X pins D .next s') acc C) (Q:=fun d H'=>D.nx (σ.set i (some (.ref d))) H') hcalm S hcap I2 T st2 f2 (fun C=>hg C _ _ _ _) (fun C=>hc C _ _ _ _) (fun C=>he C _ _ _ _) q2 ?_
 intro d C σc H' s' hC Jc q
 obtain ⟨m,hn,_⟩:=Jc.loc
 have J1:Inv X pins σ H' s':=J4 (σ':=σ) I2 f2 Jc
 show wpAny _ X.A (assign (.Name y py) X.env (.ref d)) _ _ _
 refine wpAny_assign_Name (cE (v:=.ref d) J1 hN hy hloc rfl (fun s'' J2 hsb=>?_) hfn)
 obtain ⟨a,sb,ha⟩:=hsb
 have haC:C≠a:=by
  rcases ha with e|e
  ·rw [e];exact Nat.ne_of_gt (Nat.lt_of_lt_of_le I2.lt hC)
  ·obtain ⟨v,q'⟩:=I2.cell y a e
   exact Nat.ne_of_gt (Nat.lt_of_lt_of_le q'.lt hC)
 refine ⟨m,hn.sameBut sb haC,fun h' hs'=>?_⟩
 exact ⟨_,H',ZK I2 hC J2 Jc.free hs',q⟩
end
end L2
namespace L2
open PySem PySem.Spec PyProof.Rows
theorem qG {σ:St} {H:Hp} {Q:Bool→Hp→Prop} (h:Q true H):fC σ H Q:=h
theorem iZ {K:PySem.W.Frag} {a D:Addr} {xs:List V} {g:TG} {tc:TT} {te:TE} {σ₀:St} {H:Hp} {Q:Hp→Prop} (Pv:Nat→St→Hp→Prop) (h0:Pv 0 σ₀ (upd H D (.lst []))) (hl:∀i σ H,i≤xs.length→Pv i σ H→SqL K H a xs)
    (hs:∀i x σ H,xs[i]?=some x→Pv i σ H→g x σ H fun σ2 H3=>tc σ2 H3 fun b H4=>if b=true then te σ2 H4 fun v H5=>∃ys,H5 D=some (.lst ys)∧ys.length<sizeLine∧Pv (i+1) σ2 (upd H5 D (.lst (ys++[v]))) else Pv (i+1) σ2 H4)
    (hd:∀σ H,Pv xs.length σ H→Q H):vG D (QY K a) g tc te σ₀ H Q:=by
  refine ⟨fun i m σ H=>m=xs.length - i∧i≤xs.length∧Pv i σ H,⟨xs.length,by simp,Nat.zero_le _,h0⟩,?_⟩
  rintro i m σ H ⟨rfl,hi,p⟩
  have q:=hl i σ H hi p
  by_cases hlt:i<xs.length
  · refine .inr ⟨⟨xs,xs[i],q,by simp [hlt]⟩,Pv (i+1),fun σ' H' p'=>⟨xs.length - (i+1),by omega,rfl,hlt,p'⟩,fun x H' y=>?_⟩
    obtain ⟨e,y⟩:=y
    subst e
    exact hs i x σ _ (y xs q) p
  · have e:i=xs.length:=by omega
    subst e
    exact .inl ⟨⟨xs,q,Nat.le_refl _⟩,hd σ H p⟩
theorem qM {H H':Hp} {D:Addr} {o:HO} (hD:H D=none) (s:Same H H'):Same H (upd H' D o):=fun b u q=>by
 rw [j7 (v0 q hD)]
 exact s b u q
def q9 (H:Hp) (D:Addr) (caps:St) (R:Nat→List V→Hp→Prop) (i:Nat) (σ:St) (Hi:Hp):Prop:=∃ys c,σ=c::caps∧Same H Hi∧Hi D=some (.lst ys)∧ys.length≤i∧R i ys Hi
theorem qN {H Hi H5:Hp} {D:Addr} {caps:St} {R:Nat→List V→Hp→Prop} {i:Nat} {ys:List V} {c:Option V} {v:V} (hD:H D=none) (s:Same H Hi) (hY:Hi D=some (.lst ys)) (hl:ys.length≤i) (hi:i≤999) (s5:Same Hi H5)
  (r:R (i+1) (ys++[v]) (upd H5 D (.lst (ys++[v])))):∃zs,H5 D=some (.lst zs)∧zs.length<sizeLine∧q9 H D caps R (i+1) (c::caps) (upd H5 D (.lst (zs++[v]))):=by
 refine ⟨ys,s5 _ _ hY,vJ (by omega),ys++[v],c,rfl,qM hD (s.trans s5),jH,?_,r⟩
 rw [List.length_append,List.length_singleton];omega
theorem mE {H Hi H4:Hp} {D:Addr} {caps:St} {R:Nat→List V→Hp→Prop} {i:Nat} {ys:List V} {c:Option V} (s:Same H Hi) (hY:Hi D=some (.lst ys)) (hl:ys.length≤i) (s4:Same Hi H4) (r:R (i+1) ys H4) :
  q9 H D caps R (i+1) (c::caps) H4:=⟨ys,c,rfl,s.trans s4,s4 _ _ hY,by omega,r⟩
theorem vH {K:PySem.W.Frag} {a D:Addr} {xs:List V} {tc:TT} {te:TE} {caps:St} {H:Hp} {Q:Hp→Prop} (R:Nat→List V→Hp→Prop) (hD:H D=none) (hS:SqL K H a xs) (h0:R 0 [] (upd H D (.lst [])))
  (hs:∀i x ys Hi,xs[i]?=some x→i<xs.length→ys.length≤i→Same H Hi→Hi D=some (.lst ys)→R i ys Hi→tc (some x::caps) Hi fun b H4=>if b=true then te (some x::caps) H4 fun v H5=>∃zs,H5 D=some (.lst zs)∧zs.length<sizeLine∧q9 H D caps R (i+1) (some x::caps) (upd H5 D (.lst (zs++[v])))
   else q9 H D caps R (i+1) (some x::caps) H4)
  (hd:∀ys Hf,Same H Hf→Hf D=some (.lst ys)→ys.length≤xs.length→R xs.length ys Hf→Q Hf):vG D (QY K a) (JJ 0) tc te (none::caps) H Q:=by
 refine iZ (xs:=xs) (q9 H D caps R) ⟨[],none,rfl,qM hD (Same.refl H),jH,Nat.le_refl _,h0⟩ (fun i σ Hi _ ⟨_,_,_,s,_⟩=>s.seq hS) ?_ ?_
 ·rintro i x σ Hi hx ⟨ys,c,rfl,s,hY,hl,r⟩
  exact hs i x ys Hi hx (List.getElem?_eq_some_iff.mp hx).1 hl s hY r
 ·rintro σ Hf ⟨ys,c,rfl,s,hY,hl,r⟩
  exact hd ys Hf s hY hl r
def rC:V→Option Value
 |.ty n=>some (.type n)
 |.ref a=>some (.ref a)
 |_=>none
section
variable {X:Cx}
def p5 (K:PySem.W.Frag):List V→Hp→VK→Prop:=fun xs H Q=>∃(x c:V) (t u:Value) (b:Bool),xs=[x,c]∧rC c=some u∧TyOf K H x t∧PySem.W.kitOne K t u=some b∧Q (.bl b) H
theorem qR:CallR X (.builtin "isinstance") (p5 X.K):=by
 intro pins s σ H xs us Q I r h
 obtain ⟨x,c,t,u,b,rfl,hc,ty,e,q⟩:=h
 obtain ⟨u1,u2,rfl,r1,r2⟩:=o7 r
 have e2:u2=u:=by
  cases c with
  |ty n=>cases (show u2=Value.type n from r2);exact Option.some.inj hc
  |ref a=>cases (show u2=Value.ref a from r2);exact Option.some.inj hc
  |_=>cases hc
 subst e2
 exact lU I r1 ty e fun tk=>⟨.bl b,H,I.tok _,rfl,q⟩
end
theorem qZ {K:PySem.W.Frag} (n:String):PySem.W.kitOne K (.type n) (.type n)=some true:=by
 unfold PySem.W.kitOne
 rw [if_pos (beq_self_eq_true _)]
theorem iK {K:PySem.W.Frag}:PySem.W.kitOne K (.type "int") (.type "bool")=some false:=by kernel_rfl
def v7 (xs ys:List V):Bool:=(List.range (min xs.length ys.length)).all (fun j=>qE (xs.getD j .non) (ys.getD j .non))&&xs.length == ys.length
theorem JW {xs:List V} {us:List Value} (r:Vals xs us) {j:Nat} (h:j<us.toArray.size):RelV (xs.getD j .non) us.toArray[j]:=by
 have hj:j<us.length:=by simpa using h
 have hx:j<xs.length:=by rw [r.length];exact hj
 obtain ⟨u,e,q⟩:=r.get (List.getElem?_eq_getElem hx)
 rw [List.getElem?_eq_getElem hj] at e
 have e':=Option.some.inj e
 rw [List.getD_eq_getElem?_getD,List.getElem?_eq_getElem hx]
 show RelV xs[j] us.toArray[j]
 rw [List.getElem_toArray,e']
 exact q
theorem J3 {xs:List V} (h:xs.all kY=true) {j:Nat} (hj:j<xs.length):kY (xs.getD j .non)=true:=by
 rw [List.getD_eq_getElem?_getD,List.getElem?_eq_getElem hj]
 exact List.all_eq_true.mp h _ (List.getElem_mem hj)
section
variable {X:Cx}
end
end L2
namespace L2
open PySem PySem.Spec PyProof.Rows
section
variable {X:Cx}
end
end L2
namespace L2
open PySem PySem.Spec PyProof.Rows
section
variable {X:Cx} (K:PySem.W.Frag)
theorem d7 {es:List Expr} {k:Nat} {t:v9} {n:Nat} {pos:Pos} (hc:X.calm=true) (h:JO X es t) (hK:X.K=K:=by rfl)
  (hn:(assignEach es X.env).length=n:=by rfl) (hst:(assignEach es X.env).findIdx? (·.1)=none:=by rfl):PG X (.Tuple es k pos) (fK K n t):=by subst hK;exact eL hc h hn hst
end
end L2
namespace L2
open PySem PySem.Spec PyProof.Rows
section
variable {X:Cx}
end
end L2
namespace L2
open PySem PySem.Spec PyProof.Rows
section
variable {X:Cx}
def pX (t u:TS):TS:=fun D σ H=>∃P:St→Hp→Prop,t {D with nx:=P} σ H∧∀σ' H',P σ' H'→u D σ' H'
theorem nV {st:Stmt} {rest:List Stmt} {t u:TS} (h1:PS X st t) (h2:PSs X rest u):PSs X (st::rest) (pX t u):=by
 intro pins s σ H D I h
 obtain ⟨P,hP,hu⟩:=h
 refine wpAny_execs_cons (jD (h1 pins s σ H {D with nx:=P} I hP) fun f s1 q=>?_)
 cases f with
 |next =>
  obtain ⟨σ',H',I',q⟩:=q
  exact h2 pins s1 σ' H' D I' (hu σ' H' q)
 |ret v=>exact q
 |brk=>exact q
 |cont=>exact q
end
end L2
namespace L2
open PySem PySem.Spec PyProof.Rows
structure Def (P:Program) (w:World) (K:PySem.W.Frag) (mg:Str→Option Value) (base:Heap) (k:Nat) (x:Str) (ps:List Str) (dvs:List V) (sp:Sp):Prop where
 ex:∃(f:Addr) (fd:FuncData) (ds:List Value),FnOk P w K mg base kK k f fd ps sp∧mg x=some (.ref f)∧PySem.W.keepIn K (.ref f)=true∧Vals dvs ds∧Binds K fd ps ds
theorem kG {X:Cx} {k k':Nat} {x:Str} {ps:List Str} {dvs:List V} {sp:Sp} {p pos:Pos} {e:Expr} {es:List Expr} {t:TA} (F:Def X.prog X.w X.K X.mg X.base k x ps dvs sp) (hr:Room k' X.A) (hg:Gl X x) (ha:PA X (e::es) t)
  (hk:k≤k':=by decide) (hdb:(x == ("__debug__":Str))=false:=by decide) (he:starEach (e::es) X.env=(false,eval e X.env)::starEach es X.env:=by rfl) (hpl:(backTo pos (starEach es X.env)).any (·.1)=false:=by rfl) :
  PE X (.Call (.Name x p) (e::es) [] pos) (eV sp dvs E0 t):=by
 obtain ⟨f,fd,ds,G,m,kp,hv,b⟩:=F.ex
 exact nY G (hr.mono hk) hg m kp b hv pH ha hdb he hpl
section
variable {P:Program} {w:World} {K:PySem.W.Frag} {mg:Str→Option Value} {base:Heap}
end
section
variable {X:Cx}
end
end L2
namespace L2
open PySem
theorem Z3 {c A B:Prop} [Decidable c] (hc:¬c) (h:A):if (!decide c)=true then A else B:=by
 rw [decide_eq_false hc]
 exact jS h
theorem qD {c A B:Prop} [Decidable c] (hc:¬c) (h:B):if decide c=true then A else B:=by
 rw [decide_eq_false hc]
 exact kS h
theorem vB {c A B:Prop} [Decidable c] (hc:c) (h:A):if decide c=true then A else B:=by
 rw [decide_eq_true hc]
 exact jS h
end L2
namespace L2
open PySem PySem.Spec PyProof.Rows
end L2
namespace L2
open PySem PySem.Spec PyProof.Rows
section
variable {X:Cx} {k k':Nat} {x m:Str} {C:Addr} {ps:List Str} {sp:Sp} {p pos apos:Pos} {o e:Expr} {es:List Expr} {ta:TE} {t:TA}
end
end L2
namespace L2
open PySem PySem.Spec PyProof.Rows
end L2
namespace L2
open PySem PySem.Spec PyProof.Rows
section
variable {X:Cx}
theorem iY {bs:List Bool} {its:List Value} (rv:Vals (bs.map V.bl) its) {i:Nat} {v:Value} (h:its.toArray[i]?=some v):v=Value.bool (bs.getD i true):=by
 have h':its[i]?=some v:=by simpa using h
 have hi:i<its.length:=(List.getElem?_eq_some_iff.mp h').1
 have hn:i<bs.length:=by have:=rv.length;rw [List.length_map] at this;omega
 obtain ⟨u,e,q⟩:=rv.get (x:=V.bl (bs.getD i true)) (i:=i) (by rw [List.getElem?_map,List.getElem?_eq_getElem hn,List.getD_eq_getElem?_getD,List.getElem?_eq_getElem hn];rfl)
 rw [h'] at e
 cases e
 exact q
theorem iF (bs:List Bool):(List.range bs.length).all (fun i=>bs.getD i true)=bs.all id:=by
 rw [Bool.eq_iff_iff,List.all_eq_true,List.all_eq_true]
 constructor
 ·intro h x hx
  obtain ⟨i,hi,e⟩:=List.mem_iff_getElem.mp hx
  have:=h i (by simpa using hi)
  rw [List.getD_eq_getElem?_getD,List.getElem?_eq_getElem hi,e] at this
  exact this
 ·intro h i hi
  have hi':i<bs.length:=by simpa using hi
  rw [List.getD_eq_getElem?_getD,List.getElem?_eq_getElem hi']
  exact h _ (List.getElem_mem hi')
theorem ZE (hc:X.calm=true):CallR X (.builtin "all") (fun xs H Q=>∃(p:Addr) (bs:List Bool),xs=[.ref p]∧SqL X.K H p (bs.map V.bl)∧Q (.bl (bs.all id)) H):=by
 intro pins s σ H xs us Q I r h
 obtain ⟨p,bs,rfl,hq,q⟩:=h
 obtain ⟨u,rfl,rx⟩:=yQ r
 cases rx
 obtain ⟨its,rv,pl,hz⟩:=I.list hq
 have hlen:=rv.length
 rw [List.length_map] at hlen
 have hp:p<s.heap.objs.size:=by obtain ⟨o,n,e,_⟩:=pl;exact Heap.lt_size e
 refine call_all_walk (wpAny_pyIter_list pl.isList ?_)
 refine ⟨s.heap.objs.size,_,_,_,_,_,fun i=>bs.getD i true,rfl,Walks.list (A:=X.A.in1) (I.ok.hd hc) s.heap.objs.size p (Nat.ne_of_lt hp) its.toArray,⟨⟨_,Heap.get?_push_size _ rfl,rfl,rfl⟩,pl.isList.at fun o e=>Heap.get?_push_of_some _ e⟩,fun i v s' Q' E' h hQ=>?_,fun h' tk hk=>?_⟩
 ·rw [iY rv h]
  exact wpAny_truthy_bool hQ
 ·rw [List.size_toArray,← hlen,iF]
  refine ⟨.bl (bs.all id),H,I.kept (t':=tk) fun b o e=>hk b o (fun hb=>?_) (Heap.get?_push_of_some _ e),rfl,q⟩
  have e':b=s.heap.objs.size:=by simpa using hb
  exact absurd (Heap.lt_size e) (by rw [e'];exact Nat.lt_irrefl _)
end
end L2
namespace L2
open PySem PySem.Spec PyProof.Rows
section
variable {X:Cx}
end
end L2
namespace L2
open PySem PySem.Spec PyProof.Rows
end L2
namespace L2
open PySem PySem.Spec PyProof.Rows
section
variable {P:Program} {w:World} {H:Hp} {h h':Heap} {a:Addr} {o:HO}
theorem ObjOk.there (x:ObjOk P w H h a o):∃u,h.get? a=some u:=by
 cases o with
 |lst xs=>obtain ⟨_,_,_,_,e⟩:=x;exact ⟨_,e⟩
 |tup xs=>obtain ⟨_,_,_,o,e,_⟩:=x;exact ⟨_,e⟩
 |dK kvs=>obtain ⟨_,_,_,_,o,_,_,e,_⟩:=x;exact ⟨_,e⟩
 |dT kvs=>obtain ⟨_,_,_,_,o,_,_,e,_⟩:=x;exact ⟨_,e⟩
 |set S n=>obtain ⟨o,_,_,_,e,_⟩:=x;exact ⟨_,e⟩
 |ins C dx fs=>obtain ⟨_,_,_,e,_⟩:=x;exact ⟨_,e⟩
 |own y=>obtain ⟨_,e⟩:=x;exact ⟨_,e⟩
 |xd fs=>obtain ⟨_,⟨_,_,_,e,_⟩,_⟩:=x;exact ⟨_,e⟩
 |rng lo hi=>obtain ⟨_,_,_,e⟩:=x;exact ⟨_,e⟩
 |frz ob u=>obtain ⟨e,_⟩:=x;exact ⟨_,e⟩
 |tbl ps=>exact ⟨_,(show h.get? a=some _ from x)⟩
 |met f y=>exact ⟨_,(show h.get? a=some _ from x)⟩
 |ext φ=>obtain ⟨_,e,_⟩:=x;exact e
theorem HOk.there (x:HOk P w H h) (e:H a=some o):∃u,h.get? a=some u:=(x a o e).there
theorem HOk.keepT (x:HOk P w H h) (k:∀b u,H b≠none→h.get? b=some u→h'.get? b=some u):HOk P w H h':=fun a o e =>
 (x a o e).stay (fun b u hb q=>k b u (by
  rcases hb with rfl|hb
  ·rw [e];exact fun z=>nomatch z
  ·rw [hb];exact fun z=>nomatch z) q) (fun _ q=>q) fun _ _ q=>q
end
theorem Un.go {fs ex:List Addr} {H H1:Hp} {h0 h h':Heap} (u:Un fs ex H H1 h0 h) (k:∀b o,h.get? b=some o→b∉fs→b∉ex→(∃o',h0.get? b=some o')→h'.get? b=some o)
  (ks:∀b o,h.get? b=some o→b∈fs→(∃o',h0.get? b=some o')→∃sl,h'.get? b=some {o with slots:=sl}):Un fs ex H H1 h0 h' where
 keep:=fun b o q n hb hx=>k b o (u.keep b o q n hb hx) hb hx ⟨o,q⟩
 slot:=fun b o q n hb hx=>by
  obtain ⟨sl,e⟩:=u.slot b o q n hb hx
  obtain ⟨sl',e'⟩:=ks b _ e hb ⟨o,q⟩
  exact ⟨sl',e'⟩
 free:=u.free
 there:=fun b o q hx=>by
  obtain ⟨o',e⟩:=u.there b o q hx
  by_cases hb:b∈fs
  ·obtain ⟨sl,e'⟩:=ks b o' e hb ⟨o,q⟩
   exact ⟨_,e'⟩
  ·exact ⟨o',k b o' e hb hx ⟨o,q⟩⟩
 tups:=u.tups
 frzs:=u.frzs
 tbls:=u.tbls
def rN (fr:List Env) (Z:Addr→Prop) (h:Heap) (a C:Addr):Prop :=
 ∃(B:Heap) (a0:Value),Heap.FlyingW B fr a (.ref C) a0 h∧∀b o,h.get? b=some o→b∉jJ fr→Z b→B.get? b=some o
def jL (P:Program) (w:World):qL:=fun outer H s E e s'=>∃(a C:Addr) (H':Hp),e=.ref a∧s'.os=s.os∧AllBare s'.gens∧Un (jJ outer) [] H H' s.heap s'.heap∧HOk P w H' s'.heap∧
 rN outer (fun b=>H' b≠none∨∃o',s.heap.get? b=some o') s'.heap a C∧H' a=none∧s.heap.get? a=none∧E (.ref C) none H'
def eQ (X:Cx) (R:St→Value→Hp→Prop):Prop:=∀pins σ H s e h' C vs,Inv X pins σ H s→Heap.MadeExcOf s.heap h' e (.ref C) vs→R σ (.ref C) H→X.xe (.ref e) {s with heap:=h'}
def QN (X:Cx) (R:St→Value→Hp→Prop):Prop:=∀pins σ H s e s',Inv X pins σ H s→jL X.prog X.w X.stack H s (fun c _ H'=>R σ c H') e s'→X.xe e s'
theorem zI {P:Program} {w:World} {K:PySem.W.Frag} {mg:Str→Option Value} {base:Heap} {N:List Str} {qual:Str} {scope:Scope} {f:Addr} {cd:Value} {A:Around} {outer:List Env} {s:Shared} {H:Hp} {E:XK} :
  eQ (j4 (jL P w) P w K mg base N qual scope f cd A outer s H E) (fun _ c H'=>E c none H'):=by
 intro pins σ H1 s1 e h' C vs I hx q
 have hin:∀env∈(envOfC qual scope s.heap.objs.size f cd::outer),∀b,env.frame=some b→b∈jJ (envOfC qual scope s.heap.objs.size f cd::outer):=fun env he b hb=>List.mem_filterMap.mpr ⟨env,he,hb⟩
 have hst:s1.heap.FunFrames base (envOfC qual scope s.heap.objs.size f cd::outer):=I.stack
 have hfrees:∀b∈jJ (envOfC qual scope s.heap.objs.size f cd::outer),H1 b=none:=I.stkFree
 have hfs:jJ (envOfC qual scope s.heap.objs.size f cd::outer)=s.heap.objs.size::jJ outer:=rfl
 have ub:Un (jJ outer) [] H H1 s.heap s1.heap:=I.base
 have hno:s1.heap.get? e=none:=hx.new
 show wpAny (model P w) (A.deeper (envOfC qual scope s.heap.objs.size f cd)) (leaving (envOfC qual scope s.heap.objs.size f cd) (.ref e)) (fun _ s''=>jL P w outer H s E (.ref e) s'') (fun e' s''=>jL P w outer H s E e' s'') {s1 with heap:=h'}
 refine wpAny_leaves_madeW (base:=PySem.W.hideAll s1.heap (jJ (envOfC qual scope s.heap.objs.size f cd::outer))) I.ok.frames rfl (fun b o q=>PySem.W.of_hideAll _ q) (PySem.W.funFrames_hide hst hin) hx fun h2 t fl _ _ up=>?_
 dsimp only at up
 have keep:∀b o,s1.heap.get? b=some o→b∉jJ (envOfC qual scope s.heap.objs.size f cd::outer)→(PySem.W.hideAll s1.heap (jJ (envOfC qual scope s.heap.objs.size f cd::outer))).get? b=some o:=fun b o q n=>PySem.W.hideAll_get _ q n
 have old:∀b,(∃o',s.heap.get? b=some o')→b∉jJ outer→b∉jJ (envOfC qual scope s.heap.objs.size f cd::outer):=fun b ⟨o',q⟩ n z=>by
  rw [hfs] at z
  rcases List.mem_cons.mp z with z|z
  ·exact absurd (Heap.lt_size q) (by rw [z];exact Nat.lt_irrefl _)
  ·exact n z
 have qK:∀b,H1 b≠none→b∉jJ (envOfC qual scope s.heap.objs.size f cd::outer):=fun b hb z=>hb (hfrees b z)
 refine ⟨e,C,H1,rfl,I.os,I.bare,ub.go (fun b o q n _ z=>fl.1 b o (keep b o q (old b z n))) (fun b o q n _=>?_),I.hok.keepT fun b u hb q=>fl.1 b u (keep b u q (qK b hb)),?_,?_,?_,q⟩
 ·obtain ⟨_,o',ho',hd⟩:=hst.mem (show b∈jJ (envOfC qual scope s.heap.objs.size f cd::outer) from by rw [hfs];exact List.mem_cons_of_mem _ n)
  rw [q] at ho';cases ho'
  exact up b o (hx.keeps b o q) hd
 ·refine ⟨_,_,fl,fun b o q n z=>?_⟩
  have hn:b∉jJ (envOfC qual scope s.heap.objs.size f cd::outer):=by
   rcases z with z|z
   ·exact qK b z
   ·exact old b z n
  have h1:∃u,s1.heap.get? b=some u:=by
   rcases z with z|⟨o',z⟩
   ·cases r:H1 b with
    |none=>exact absurd r z
    |some v=>exact I.hok.there r
   ·exact ub.there b o' z (by simp)
  obtain ⟨u,hu⟩:=h1
  have hB:=keep b u hu hn
  have:=fl.1 b u hB
  have q':h2.get? b=some o:=q
  rw [q'] at this
  cases this
  exact hB
 ·cases r:H1 e with
  |none=>rfl
  |some v =>
   obtain ⟨u,hu⟩:=I.hok.there r
   rw [hno] at hu;cases hu
 ·cases r:s.heap.get? e with
  |none=>rfl
  |some v =>
   obtain ⟨u,hu⟩:=ub.there e v r (by simp)
   rw [hno] at hu;cases hu
theorem qQ {P:Program} {w:World} {K:PySem.W.Frag} {mg:Str→Option Value} {base:Heap} {N:List Str} {qual:Str} {scope:Scope} {f:Addr} {cd:Value} {A:Around} {outer:List Env} {s:Shared} {H:Hp} {E:XK} :
  QN (j4 (jL P w) P w K mg base N qual scope f cd A outer s H E) (fun _ c H'=>E c none H'):=by
 intro pins σ H1 s1 e s2 I hx
 obtain ⟨a,C,H2,rfl,os,bare,un,hok,⟨B,a0,fl,ground⟩,ha,hs,q⟩:=hx
 have fl':Heap.FlyingW B (envOfC qual scope s.heap.objs.size f cd::outer) a (.ref C) a0 s2.heap:=fl
 have J:Inv (j4 (jL P w) P w K mg base N qual scope f cd A outer s H E) pins σ H2 s2:=I.call' (ch:=[]) os un hok bare fun b z=>absurd z (by simp)
 have ub:Un (jJ outer) [] H H2 s.heap s2.heap:=J.base
 have hfs:jJ (envOfC qual scope s.heap.objs.size f cd::outer)=s.heap.objs.size::jJ outer:=rfl
 have old:∀b,(∃o',s.heap.get? b=some o')→b∉jJ outer→b∉jJ (envOfC qual scope s.heap.objs.size f cd::outer):=fun b ⟨o',q⟩ n z=>by
  rw [hfs] at z
  rcases List.mem_cons.mp z with z|z
  ·exact absurd (Heap.lt_size q) (by rw [z];exact Nat.lt_irrefl _)
  ·exact n z
 have qK:∀b,H2 b≠none→b∉jJ (envOfC qual scope s.heap.objs.size f cd::outer):=fun b hb z=>hb (J.stkFree b z)
 have u1:Un (jJ outer) [] H H1 s.heap s1.heap:=I.base
 have in1:∀b,(∃o',s.heap.get? b=some o')→∃o',s1.heap.get? b=some o':=fun b ⟨o',z⟩=>u1.there b o' z (by simp)
 have hst:s2.heap.FunFrames base (envOfC qual scope s.heap.objs.size f cd::outer):=J.stack
 show wpAny (model P w) (A.deeper (envOfC qual scope s.heap.objs.size f cd)) (leaving (envOfC qual scope s.heap.objs.size f cd) (.ref a)) (fun _ s''=>jL P w outer H s E (.ref a) s'') (fun e' s''=>jL P w outer H s E e' s'') s2
 refine wpAny_leaves_onW J.ok.frames rfl fl' fun h3 fl3 up=>?_
 refine ⟨a,C,H2,rfl,J.os,J.bare,ub.go (fun b o q n _ z=>fl3.1 b o (ground b o q (old b z n) (.inr (in1 b z)))) (fun b o q n _=>?_),J.hok.keepT fun b u hb q=>fl3.1 b u (ground b u q (qK b hb) (.inl hb)),?_,ha,?_,q⟩
 ·obtain ⟨_,o',ho',hd⟩:=hst.mem (show b∈jJ (envOfC qual scope s.heap.objs.size f cd::outer) from by rw [hfs];exact List.mem_cons_of_mem _ n)
  rw [q] at ho';cases ho'
  exact up b o q hd
 ·refine ⟨B,a0,fl3,fun b o q n z=>?_⟩
  have hn:b∉jJ (envOfC qual scope s.heap.objs.size f cd::outer):=by
   rcases z with z|z
   ·exact qK b z
   ·exact old b z n
  have h1:∃u,s2.heap.get? b=some u:=by
   rcases z with z|⟨o',z⟩
   ·cases r:H2 b with
    |none=>exact absurd r z
    |some v=>exact J.hok.there r
   ·exact ub.there b o' z (by simp)
  obtain ⟨u,hu⟩:=h1
  have hB:=ground b u hu hn (by
   rcases z with z|z
   ·exact .inl z
   ·exact .inr (in1 b z))
  have:=fl3.1 b u hB
  have q':h3.get? b=some o:=q
  rw [q'] at this
  cases this
  exact hB
 ·cases r:s.heap.get? a with
  |none=>rfl
  |some v =>
   obtain ⟨u,hu⟩:=in1 a ⟨v,r⟩
   rw [hs] at hu;cases hu
end L2
namespace L2
open PySem PySem.Spec PyProof.Rows
theorem oB {K:PySem.W.Frag} {h:Heap} {C:Addr} {bmB:List Value} {newId:String} (X:K.In h) (q:PySem.W.excIn K C bmB newId=true) :
  ∃bm N nm qn bs hdct sn sub ab col dd k0 k1 k2 k3 k5 mN,K.lookup C=some (excClassObj nm qn C N bs bm hdct sn sub ab col dd k0 k1 k2 k3 k5 newId)∧h.get? C=some (excClassObj nm qn C N bs bm hdct sn sub ab col dd k0 k1 k2 k3 k5 newId)∧h.Ns N mN∧mN "__init__"=none∧OwnTail h bmB bm:=by
 unfold PySem.W.excIn at q
 split at q
 ·rename_i dd cd sl ho
  split at q
  ·rename_i C' bm k0 k1 k2 k3 n k5 hm hs
   simp only [Bool.and_eq_true,beq_iff_eq,Bool.not_eq_true'] at q
   obtain ⟨⟨⟨⟨⟨rfl,rfl⟩,hdel⟩,ht⟩,hok⟩,hni⟩:=q
   obtain ⟨nm,bs,mro,ns,qn,hd,sn,sub,ab,col,del⟩:=cd
   dsimp only at hm hdel hok hni
   subst hm hdel
   have hsl:sl = #[k0,k1,k2,k3,some (.builtin n),k5]:=by
    obtain ⟨l⟩:=sl
    simp only at hs
    rw [hs]
   subst hsl
   exact ⟨bm,ns,nm,qn,bs,hd,sn,sub,ab,col,dd,k0,k1,k2,k3,k5,_,ho,X _ _ ho,.of_isNs (PySem.W.isNs_of_in X hok),PySem.W.nsMap_none_of_in X hok hni,PySem.W.tail_of_in X ht⟩
  ·cases q
 ·cases q
abbrev p7:List Value:=[.type "ValueError",.type "Exception",.type "BaseException",.type "object"]
def fN (K:PySem.W.Frag) (C:Addr):Prop:=PySem.W.excIn K C p7 "ValueError.__new__"=true
section
variable {X:Cx} {R:St→Value→Hp→Prop} {x:Str} {C:Addr} {np cpos pos p:Pos} {e:Expr} {es:List Expr} {t:TA}
theorem zM (hx:eQ X R) (hcalm:X.calm=true) (hg:Gl X x) (hm:X.mg x=some (.ref C)) (hc:fN X.K C) (ha:PA X (e::es) t) (hdb:(x == ("__debug__":Str))=false:=by decide)
  (he:starEach (e::es) X.env=(false,eval e X.env)::starEach es X.env:=by rfl) (hpl:(backTo cpos (starEach es X.env)).any (·.1)=false:=by rfl) :
  PS X (.Raise (some (.Call (.Name x np) (e::es) [] cpos)) none pos) (fun _ σ H=>t σ H fun vs H1=>vs.length≤sizeLine∧R σ (.ref C) H1):=by
 intro pins s σ H D I h
 obtain ⟨tl,N,nm,q,bs,hdct,sn,sub,ab,col,dd,k0,k1,k2,k3,k5,mN,_,hC,hN,hni,T⟩:=oB I.ok.mod.kin hc
 refine wpAny_Raise_call_subT (C:=C) (nm:=nm) (q:=q) (N:=N) (bs:=bs) (bm:=tl) (hdct:=hdct) (sn:=sn) (sub:=sub) (ab:=ab) (col:=col) (dd:=dd) (k0:=k0) (k1:=k1) (k2:=k2) (k3:=k3) (k5:=k5)
  PySem.F.excBase_ValueError (mN:=mN) (T.hasType PySem.F.excBase_ValueError.hasBase) (I.ok.hd hcalm) (by rw [he];show (false||(backTo cpos (starEach es X.env)).any (·.1))=false;rw [hpl];rfl) hni (QC I hg hm ⟨rfl,?_⟩ hdb)
 have h1:=ha cpos pins s σ H _ I h
 rw [he] at h1 ⊢
 refine Calls.evalArgs_plain (wpAny_mono h1 (fun us s2 ⟨vs,H2,I2,r2,hl,q2⟩=>⟨rfl,by rw [← r2.length];exact hl,I2.bk _ _ hC,hN.keeps I2.bk,T.keeps I2.bk,fun h' a hm=>hx pins σ H2 s2 a h' C us I2 hm q2⟩) fun _ _ y=>y)
def oI (sp:Sp) (dvs:List V) (R:St→Value→Hp→Prop) (t:TA):TE:=fun σ H Q=>t σ H fun vs H1=>sp (vs++dvs) H1 Q (fun c _ H'=>R σ c H')
theorem nO {k:Nat} {f:Addr} {fd:FuncData} {ps:List Str} {sp:Sp} {dvs:List V} {ds:List Value} {pins:List (Addr×Obj)} {σ:St} {H:Hp} {s:Shared} {Q:VK} {us:List Value} {vs:List V} (F:FnOk X.prog X.w X.K X.mg X.base (jL X.prog X.w) k f fd ps sp) (hr:Room k X.A) (hb:Binds X.K fd ps ds) (hd:Vals dvs ds) (hx:QN X R)
  (I:Inv X pins σ H s) (r:Vals vs us) (h:sp (vs++dvs) H Q (fun c _ H'=>R σ c H')):wpAny (model X.prog X.w) X.A (call (.ref f) us) (EP X pins σ Q) X.xe s:=by
 have r2:Vals (vs++dvs) (us++ds):=r.append hd
 have hl:(us++ds).length=ps.length:=by rw [← r2.length];exact F.len _ _ _ _ h
 refine wpAny_call (codeAny_mono (F.run X.A X.stack s H ⟨us,[]⟩ (us++ds) (vs++dvs) Q _ hr I.env0 (hb s us I.kIn hl) r2 h) fun r s' hq=>?_)
 cases r with
 |error e=>exact hx pins σ H s e s' I hq
 |ok fl =>
  cases fl with
  |ret u=>exact I.after hq
  |next=>exact False.elim hq
  |brk=>exact False.elim hq
  |cont=>exact False.elim hq
end
structure DefX (P:Program) (w:World) (K:PySem.W.Frag) (mg:Str→Option Value) (base:Heap) (k:Nat) (x:Str) (ps:List Str) (dvs:List V) (sp:Sp):Prop where
 ex:∃(f:Addr) (fd:FuncData) (ds:List Value),FnOk P w K mg base (jL P w) k f fd ps sp∧mg x=some (.ref f)∧PySem.W.keepIn K (.ref f)=true∧Vals dvs ds∧Binds K fd ps ds
theorem qB {X:Cx} {R:St→Value→Hp→Prop} {k k':Nat} {x:Str} {ps:List Str} {dvs:List V} {sp:Sp} {p pos:Pos} {e:Expr} {es:List Expr} {t:TA} (F:DefX X.prog X.w X.K X.mg X.base k x ps dvs sp) (hx:QN X R) (hr:Room k' X.A) (hg:Gl X x) (ha:PA X (e::es) t)
  (hk:k≤k':=by decide) (hdb:(x == ("__debug__":Str))=false:=by decide) (he:starEach (e::es) X.env=(false,eval e X.env)::starEach es X.env:=by rfl) (hpl:(backTo pos (starEach es X.env)).any (·.1)=false:=by rfl) :
  PE X (.Call (.Name x p) (e::es) [] pos) (oI sp dvs R t):=by
 obtain ⟨f,fd,ds,G,m,kp,hv,b⟩:=F.ex
 intro pins s σ H Q I h
 refine wpAny_Call_Name_kw (QC I hg m ?_ hdb)
 refine PySem.W.callWith_K (h₀:=X.base) I.ok.mod.kin kp (jD (ha pos pins s σ H _ I h) fun us s1 ⟨vs,H1,I1,r,q⟩=>⟨I1.kIn,?_⟩) he hpl
 exact nO G (hr.mono hk) b hv hx I1 r q
section
variable {X:Cx} {pins pins':List (Addr×Obj)} {σ:St} {H:Hp} {s:Shared} {R:St→Value→Hp→Prop}
end
section
variable {X:Cx} {pins:List (Addr×Obj)} {σ:St} {H:Hp} {s:Shared} {e:Value}
end
end L2
namespace L2
open PySem PySem.Spec PyProof.Rows
section
variable {P:Program} {w:World} {K:PySem.W.Frag} {mg:Str→Option Value} {base:Heap}
theorem Fun.okX {x qual:Str} {st:Stmt} {f:Addr} {fd:FuncData} {N ps:List Str} {k:Nat} {sp:Sp} (F:Fun K x qual st f fd) (S:FnScope N ps (jE st)) (len:∀vs H Q E,sp vs H Q E→vs.length=ps.length)
  (hbody:∀(cdv:Value) (A:Around) (outer:List Env) (s:Shared) (H:Hp) (vs:List V) (Q:VK) (E:XK),Room k (A.deeper (envOfC qual (jE st) s.heap.objs.size f cdv))→sp vs H Q E→
   ∃t,PSs (j4 (jL P w) P w K mg base N qual (jE st) f cdv A outer s H E) (jV st) t∧t {nx:=fun _ H'=>Q .non H',rt:=Q} (vS N vs) H):FnOk P w K mg base (jL P w) (k+1) f fd ps sp:=by
 obtain ⟨oc,od,kV,doc,pm,an,cdv,ct,osl,rfl,lk,hcd⟩:=F.ex
 exact e9 lk hcd S len fun A outer s H vs Q E hr hsp=>hbody cdv A outer s H vs Q E hr hsp
theorem FnOk.noX {k:Nat} {f:Addr} {fd:FuncData} {ps:List Str} {sp sp':Sp} (F:FnOk P w K mg base (jL P w) k f fd ps sp) (h:∀vs H Q E,sp' vs H Q E→sp vs H Q (fun _ _ _=>False)):FnOk P w K mg base kK k f fd ps sp' :=
 ⟨fun vs H Q E q=>F.len vs H Q _ (h _ _ _ _ q),fun A outer s H args us vs Q E hr he hb hv hs=>codeAny_mono (F.run A outer s H args us vs Q _ hr he hb hv (h _ _ _ _ hs)) fun r s' hq=>by
  cases r with
  |ok fl=>cases fl<;>exact hq
  |error e=>obtain ⟨_,_,_,_,_,_,_,_,_,_,_,z⟩:=hq;exact z⟩
end
section
variable {X:Cx}
end
end L2
namespace L2
open PySem PySem.Spec PyProof.Rows
section
variable {X:Cx} {pins:List (Addr×Obj)} {σ:St} {H:Hp} {s:Shared}
end
end L2
namespace L2
open PySem PySem.Spec PySem.Calls PyProof.Rows PySem.W
section
variable {prog:Program} {w:World} {A:Around} {E:Value→Shared→Prop} {h:Heap} {g:Array GenState} {d:Drawn} {t:Nat} {os:OsState} {a C:Addr} {o:Obj} {K:PySem.W.Frag}
end
section
variable {X:Cx}
end
end L2
namespace L2
open PySem PySem.Spec PyProof.Rows
end L2
namespace L2
open PySem PySem.Spec PyProof.Rows
section
variable {X:Cx} {x:Str} {C:Addr} {pos p:Pos} {e:Expr} {es:List Expr} {t:TA}
end
end L2
namespace L2
open PySem PySem.Spec PyProof.Rows
section
variable {X:Cx}
end
end L2
namespace L2
open PySem PySem.Spec PyProof.Rows
section
variable {X:Cx} {R:St→Value→Hp→Prop} {k k':Nat} {x m:Str} {C:Addr} {ps:List Str} {sp:Sp} {p pos apos:Pos} {o e:Expr} {es:List Expr} {ta:TE} {t:TA}
end
end L2
namespace L2
open PySem PySem.Spec PyProof.Rows
section
variable {κ:Type} [DecidableEq κ]
def QO (kvs:List (κ×V)) (k:κ):Option V:=(kvs.find? fun kv=>decide (kv.1=k)).map (·.2)
def QP (kvs:List (κ×V)) (k:κ) (v:V):List (κ×V) :=
 if (kvs.any fun kv=>decide (kv.1=k))=true then kvs.map (fun kv=>if kv.1=k then (kv.1,v) else kv) else kvs++[(k,v)]
def fA (kvs:List (κ×V)) (k:κ):List (κ×V):=kvs.filter fun kv=>decide (kv.1≠k)
theorem RelO.getD {o:Option V} {u:Option Value} {d:V} {d':Value} (r:RelO o u) (rd:RelV d d'):RelV (o.getD d) (u.getD d'):=by
 cases o with
 |none=>cases u with
  |none=>exact rd
  |some _=>exact (show False from r).elim
 |some _=>cases u with
  |none=>exact (show False from r).elim
  |some _=>exact r
theorem KV.any {kvs:List (κ×V)} {vs:List (κ×Value)} (r:KV kvs vs) (k:κ):(kvs.any fun kv=>decide (kv.1=k))=vs.any fun kv=>decide (kv.1=k):=by
 unfold KV at r
 induction r with
 |nil=>rfl
 |cons h t ih=>rw [List.any_cons,List.any_cons,ih,h.1]
theorem KV.drop {kvs:List (κ×V)} {vs:List (κ×Value)} (r:KV kvs vs) (k:κ):KV (fA kvs k) (without vs k):=by
  unfold KV at r ⊢
  unfold fA without
  induction r with
  |nil=>exact .nil
  |@cons p q ps qs h t ih =>
    obtain ⟨h1,h2⟩:=h
    rw [List.filter_cons,List.filter_cons]
    by_cases e:p.1=k
    · have a:¬decide (p.1≠k)=true:=by simp [e]
      have b:¬decide (q.1≠k)=true:=by simp [h1.symm.trans e]
      rw [if_neg a,if_neg b];exact ih
    · have e':¬q.1=k:=fun z=>e (h1.trans z)
      have a:decide (p.1≠k)=true:=by simp [e]
      have b:decide (q.1≠k)=true:=by simp [e']
      rw [if_pos a,if_pos b];exact .cons ⟨h1,h2⟩ ih
theorem KV.length {kvs:List (κ×V)} {vs:List (κ×Value)} (r:KV kvs vs):kvs.length=vs.length:=Paired.length r
end
section
variable {P:Program} {w:World} {H:Hp} {h:Heap} {a:Addr}
end
def DGet (H:Hp) (a:Addr) (y:V) (r:Option V):Prop :=
 (∃kvs k,Rd H a (.dK kvs)∧y=kV k∧r=QO kvs k)∨∃kvs k b,Rd H a (.dT kvs)∧y=.ref b∧H b=some (.tup (k.map kV))∧r=QO kvs k
def DPut (H:Hp) (a:Addr) (y v:V) (H':Hp):Prop :=
 (∃kvs k,H a=some (.dK kvs)∧y=kV k∧kvs.length<sizeLine∧H'=upd H a (.dK (QP kvs k v)))∨
 ∃kvs k b,H a=some (.dT kvs)∧y=.ref b∧H b=some (.tup (k.map kV))∧kvs.length<sizeLine∧H'=upd H a (.dT (QP kvs k v))
theorem DGet.k {H:Hp} {a:Addr} {kvs:List (j3×V)} {k:j3} (e:H a=some (.dK kvs)):DGet H a (kV k) (QO kvs k):=.inl ⟨kvs,k,.inl e,rfl,rfl⟩
theorem DGet.t {H:Hp} {a b:Addr} {kvs:List (List j3×V)} {k:List j3} (e:H a=some (.dT kvs)) (eb:H b=some (.tup (k.map kV))):DGet H a (.ref b) (QO kvs k):=.inr ⟨kvs,k,b,.inl e,rfl,eb,rfl⟩
theorem DPut.k {H:Hp} {a:Addr} {kvs:List (j3×V)} {k:j3} {v:V} (e:H a=some (.dK kvs)) (hl:kvs.length<sizeLine):DPut H a (kV k) v (upd H a (.dK (QP kvs k v))):=.inl ⟨kvs,k,e,rfl,hl,rfl⟩
theorem DPut.t {H:Hp} {a b:Addr} {kvs:List (List j3×V)} {k:List j3} {v:V} (e:H a=some (.dT kvs)) (eb:H b=some (.tup (k.map kV))) (hl:kvs.length<sizeLine) :
  DPut H a (.ref b) v (upd H a (.dT (QP kvs k v))):=.inr ⟨kvs,k,b,e,rfl,eb,hl,rfl⟩
section
variable {X:Cx} {pins:List (Addr×Obj)} {σ:St} {H:Hp} {s:Shared} {a:Addr} {y v:V} {u r:Value} {o:Option V} {A:Around} {E:Value→Shared→Prop}
end
section
variable {X:Cx} {pins:List (Addr×Obj)} {σ:St} {H:Hp} {s:Shared} {a:Addr} {kvs:List (j3×V)} {k:j3} {u:Value} {A:Around} {E:Value→Shared→Prop}
end
section
variable {X:Cx} {o i e value:Expr} {pos pos' tpos:Pos} {td ty tv:TE}
end
section
variable {X:Cx} {pos:Pos}
end
end L2
namespace L2
open PySem PySem.Spec PyProof.Rows
section
variable {X:Cx} {tg:Expr}
end
section
variable {X:Cx}
end
end L2
namespace L2
open PySem PySem.Spec PyProof.Rows
inductive Kd where
 |plain|basin|pump
section
variable {X:Cx} {k k':Nat} {x m:Str} {cs:Kd→Addr} {ps:List Str} {ss:Kd→Sp} {p pos apos:Pos} {o e:Expr} {es:List Expr} {ta:TE} {t:TA}
end
end L2
namespace L2
open PySem PySem.Spec PyProof.Rows
def JQ (z:Str):It:=⟨fun i _=>i<z.cps.size,fun i H v H'=>H'=H∧∃c,z.cps[i]?=some c∧v=.str ⟨#[c]⟩,fun i _=>i=z.cps.size⟩
theorem cC {P:Program} {w:World} {K:PySem.W.Frag} {tg:Expr} (it:Addr) (z:Str) (t:Tok) (T:String)
  (W:∀A:Around,A.handled=none→Walks P w A it [it] [it] z.cps.size (SignAt z) (fun i h=>h.IsStrIter it T z t i))
  (hn:["enumerate","zip","dict_itemiterator","dict_reverseitemiterator","odict_iterator","itertools.zip_longest","itertools.pairwise"].contains T=false)
  (hself:∀(A:Around) (i:Nat) (s:Shared) (Q:Value→Shared→Prop) (E:Value→Shared→Prop),s.heap.IsStrIter it T z t i→Q (.ref it) s→wpAny (model P w) A (pyIter (.ref it)) Q E s) :
  Turn P w K tg (JQ z) [it] it (fun i h=>h.IsStrIter it T z t i) where
 mem:=by simp
 obj:=fun i h st b hb=>by
  have e:b=it:=by simpa using hb
  subst e
  obtain ⟨o,ho,_,hd⟩:=st
  exact ⟨o,ho,fun v q=>by rw [hd] at q;cases q⟩
 keep:=fun i h h' st k=>by
  obtain ⟨o,ho,r⟩:=st
  exact ⟨o,k it (by simp) o ho,r⟩
 item:=by
  intro X hP hw hK hc i pins s σ H E I hf st hg
  subst hP hw hK
  obtain ⟨f0,f1,f2,f3,f4,f5⟩:=hf it (by simp)
  refine (W X.A (I.ok.hd hc)).item i s _ _ hg st fun v h' tk hv st' kk=>?_
  obtain ⟨c,u,hcx,rfl⟩:=hv
  have I1:Inv X pins σ H {s with heap:=h',toks:=tk}:=I.turned (fun b o hb e=>kk b o (by simpa using hb) e) f0 f1 f3 f4 f5
  have st2:=st'
  obtain ⟨o,ho,hcl,hd⟩:=st2
  exact ⟨_,rfl,QM (s:={s with heap:=h',toks:=tk}) (n:=T) ho hcl hd hn ⟨.str ⟨#[c]⟩,H,I1,⟨u,rfl⟩,⟨rfl,c,hcx,rfl⟩,st',fun b hb=>(hf b hb).1⟩⟩
 done:=by
  intro X hP hw hK hc i pins s σ H E I hf st hg
  subst hP hw hK
  obtain ⟨f0,f1,f2,f3,f4,f5⟩:=hf it (by simp)
  have e:i=z.cps.size:=hg
  subst e
  exact (W X.A (I.ok.hd hc)).done s _ _ st fun h' tk eb=>⟨rfl,I.turned (fun b o hb e=>eb b o (by simpa using hb) e) f0 f1 f3 f4 f5⟩
 self:=fun A i s Q E st h=>hself A i s Q E st h
section
variable {X:Cx} {tg:Expr}
def rA (tl:TE):TI:=fun σ H R=>tl σ H fun x H1=>∃z:Str,x=.str z∧R (JQ z) H1
theorem oO {l:Expr} {tl:TE} (hl:PE X l tl):PI X tg l (rA tl):=by
 intro pins s σ H R I h
 refine jD (hl pins s σ H _ I h) fun v s1 ⟨x,H1,I1,r1,q1⟩=>?_
 obtain ⟨z,e,q⟩:=q1
 subst e
 obtain ⟨t,rfl⟩:=r1
 have fin:∀(o:Obj) (T:String) (tn:Nat→Heap→Prop),Turn X.prog X.w X.K tg (JQ z) [s1.heap.objs.size] s1.heap.objs.size tn→tn 0 (s1.heap.push o)→bB X pins σ tg R (.ref s1.heap.objs.size) {s1 with heap:=s1.heap.push o}:=by
  intro o T tn tu h0
  refine ⟨s1.heap.objs.size,[s1.heap.objs.size],tn,_,H1,rfl,I1.kept (t':=s1.toks) fun b o e=>Heap.get?_push_of_some _ e,tu,h0,fun b hb=>?_,q⟩
  have e:b=s1.heap.objs.size:=by simpa using hb
  subst e
  exact I1.fpOk (Nat.le_refl _) (I1.hok.fresh (Nat.le_refl _))
 cases ha:z.cps.all (· < 128)
 ·exact wpAny_pyIter_wide ha (fin _ "str_iterator" _ (cC _ z t "str_iterator" (fun A hA=>Walks.strWide hA _ z t) (by decide) (fun A i s Q E st h=>wpAny_pyIter_striter_wide st h)) ⟨_,Heap.get?_push_size _ rfl,rfl,rfl⟩)
 ·exact wpAny_pyIter_ascii ha (fin _ "str_ascii_iterator" _ (cC _ z t "str_ascii_iterator" (fun A hA=>Walks.strAscii hA _ z t) (by decide) (fun A i s Q E st h=>wpAny_pyIter_striter_ascii st h)) ⟨_,Heap.get?_push_size _ rfl,rfl,rfl⟩)
end
theorem lD {z:Str} {D:Addr} {g:TG} {tc:TT} {te:TE} {σ₀:St} {H:Hp} {Q:Hp→Prop} (Pv:Nat→St→Hp→Prop) (h0:Pv 0 σ₀ (upd H D (.lst [])))
  (hs:∀i c σ H,z.cps[i]?=some c→Pv i σ H→g (.str ⟨#[c]⟩) σ H fun σ2 H3=>tc σ2 H3 fun b H4=>if b=true then te σ2 H4 fun v H5=>∃ys,H5 D=some (.lst ys)∧ys.length<sizeLine∧Pv (i+1) σ2 (upd H5 D (.lst (ys++[v]))) else Pv (i+1) σ2 H4)
  (hd:∀σ H,Pv z.cps.size σ H→Q H):vG D (JQ z) g tc te σ₀ H Q:=by
 refine ⟨fun i m σ H=>m=z.cps.size - i∧i≤z.cps.size∧Pv i σ H,⟨_,rfl,Nat.zero_le _,h0⟩,?_⟩
 rintro i m σ H ⟨rfl,hi,p⟩
 by_cases hlt:i<z.cps.size
 ·refine .inr ⟨hlt,Pv (i+1),fun σ' H' p'=>⟨z.cps.size - (i+1),by omega,rfl,hlt,p'⟩,fun x H' y=>?_⟩
  obtain ⟨e,c,hc,y⟩:=y
  subst e y
  exact hs i c σ _ hc p
 ·have e:i=z.cps.size:=by omega
  subst e
  exact .inl ⟨rfl,hd σ H p⟩
theorem mD {z:Str} {D:Addr} {tc:TT} {te:TE} {caps:St} {H:Hp} {Q:Hp→Prop} (R:Nat→List V→Hp→Prop) (hD:H D=none) (h0:R 0 [] (upd H D (.lst [])))
  (hs:∀i c ys Hi,z.cps[i]?=some c→ys.length≤i→Same H Hi→Hi D=some (.lst ys)→R i ys Hi→tc (some (.str ⟨#[c]⟩)::caps) Hi fun b H4=>if b=true then te (some (.str ⟨#[c]⟩)::caps) H4 fun v H5=>∃zs,H5 D=some (.lst zs)∧zs.length<sizeLine∧q9 H D caps R (i+1) (some (.str ⟨#[c]⟩)::caps) (upd H5 D (.lst (zs++[v])))
   else q9 H D caps R (i+1) (some (.str ⟨#[c]⟩)::caps) H4)
  (hd:∀ys Hf,Same H Hf→Hf D=some (.lst ys)→ys.length≤z.cps.size→R z.cps.size ys Hf→Q Hf):vG D (JQ z) (JJ 0) tc te (none::caps) H Q:=by
 refine lD (q9 H D caps R) ⟨[],none,rfl,qM hD (Same.refl H),jH,Nat.le_refl _,h0⟩ ?_ ?_
 ·rintro i c σ Hi hi ⟨ys,c',rfl,s,hY,hl,r⟩
  exact hs i c ys Hi hi hl s hY r
 ·rintro σ Hf ⟨ys,c,rfl,s,hY,hl,r⟩
  exact hd ys Hf s hY hl r
section
variable {X:Cx}
def pZ:V→Option Int→Option Int→Hp→VK→Prop:=fun x lo hi H Q=>∃z:Str,x=.str z∧z.length≤sizeLine∧Q (.str (Txt.slice z lo hi)) H
theorem oJ:SlR X pZ:=by
 intro pins s σ H x v vl vu lo hi sl Q I rx hs pl pu h
 obtain ⟨z,rfl,hz,q⟩:=h
 obtain ⟨t,rfl⟩:=rx
 refine ⟨"str",_,F.slot_str_getitem.lookup,typeIs_str _ _ _,?_⟩
 have fin:∀(l u:Option (Int×Tok)),l.map (·.1)=lo→u.map (·.1)=hi→s.heap.IsSlice sl l u none→wpAny (model X.prog X.w) X.A (getItem (.str z t) (.ref sl)) (EP X pins σ Q) X.xe s:=by
  intro l u e1 e2 hsl
  subst e1 e2
  exact wpAny_getItem_str_slice hsl rfl (post_val_or_str ⟨Nat.le_trans (Txt.slice_le z _ _) hz,fun t' k=>⟨.str (Txt.slice z (l.map (·.1)) (u.map (·.1))),H,I.tok _,⟨t',rfl⟩,q⟩⟩)
 obtain ⟨o,ho,hc,hd⟩:=hs
 cases pl with
 |none =>
  cases pu with
  |none=>exact fin none none rfl rfl ⟨o,ho,hc,hd⟩
  |int j tj=>exact fin none (some (j,tj)) rfl rfl ⟨o,ho,hc,hd⟩
 |int i ti =>
  cases pu with
  |none=>exact fin (some (i,ti)) none rfl rfl ⟨o,ho,hc,hd⟩
  |int j tj=>exact fin (some (i,ti)) (some (j,tj)) rfl rfl ⟨o,ho,hc,hd⟩
end
end L2
namespace L2
open PySem PySem.Spec PyProof.Rows
section
variable {X:Cx} {K:PySem.W.Frag} {w:World} {o i:Expr} {pos:Pos} {td ty:TE}
end
theorem nN {K:PySem.W.Frag} {H:Hp} {a:Addr} {o:Obj} {its:List Value} {n:Nat} {xs:List V} (l:K.lookup a=some o) (c:o.cls=.type "tuple") (d:o.data=.seq its.toArray n) (z:its.length≤sizeLine) (v:Vals xs its):SqT K H a xs :=
 .inr ⟨o,its.toArray,n,l,c,d,by rw [List.size_toArray];exact z,v⟩
end L2
namespace L2
open PySem PySem.Spec PyProof.Rows
inductive DEq (K:PySem.W.Frag) (H:Hp):V→V→Bool→Prop where
 |flat {x y:V} (hx:kY x=true) (hy:kY y=true):DEq K H x y (qE x y)
 |same (a:Addr):DEq K H (.ref a) (.ref a) true
 |tup {a b:Addr} {xs ys:List V} (ne:a≠b) (ha:SqT K H a xs) (hb:SqT K H b ys) (fx:xs.all kY=true) (fy:ys.all kY=true):DEq K H (.ref a) (.ref b) (v7 xs ys)
 |lst {a b:Addr} {xs ys:List V} (ne:a≠b) (ha:SqL K H a xs) (hb:SqL K H b ys) (fx:xs.all kY=true) (fy:ys.all kY=true):DEq K H (.ref a) (.ref b) (v7 xs ys)
section
variable {X:Cx} {pins:List (Addr×Obj)} {σ:St} {H:Hp} {s:Shared} {A:Around}
theorem DEq.at {x y:V} {u v:Value} {e:Bool} (I:Inv X pins σ H s) (d:DEq X.K H x y e) (rx:RelV x u) (ry:RelV y v) (hu:A.units<cLine):SeqAt.EqAt A s u v e:=by
 cases d with
 |flat hx hy=>exact QG rx ry hx hy
 |same a=>cases rx;cases ry;exact SeqAt.EqAt.same _
 |@tup a b xs ys ne ha hb fx fy =>
  cases rx;cases ry
  obtain ⟨its,r,pl,hz⟩:=I.tuple ha
  obtain ⟨its2,r2,pl2,hz2⟩:=I.tuple hb
  have hl:=r.length
  have hl2:=r2.length
  have h:=SeqAt.RcAt.tuples (A:=A) (e:=fun j=>qE (xs.getD j .non) (ys.getD j .non)) pl pl2 hu (fun j h1 h2=>QG (JW r h1) (JW r2 h2) (J3 fx (by rw [hl];simpa using h1)) (J3 fy (by rw [hl2];simpa using h2)))
  have e:((List.range (min its.toArray.size its2.toArray.size)).all (fun j=>qE (xs.getD j .non) (ys.getD j .non))&&its.toArray.size == its2.toArray.size)=v7 xs ys:=by
   unfold v7
   rw [List.size_toArray,List.size_toArray,← hl,← hl2]
  rw [e] at h
  exact SeqAt.EqAt.of_refs ne h
 |@lst a b xs ys ne ha hb fx fy =>
  cases rx;cases ry
  obtain ⟨its,r,pl,hz⟩:=I.list ha
  obtain ⟨its2,r2,pl2,hz2⟩:=I.list hb
  have hl:=r.length
  have hl2:=r2.length
  by_cases he:xs.length=ys.length
  ·have h:=SeqAt.RcAt.lists (A:=A) (e:=fun j=>qE (xs.getD j .non) (ys.getD j .non)) pl.isList pl2.isList (by rw [List.size_toArray,List.size_toArray,← hl,← hl2,he]) hu (fun j h1 h2=>QG (JW r h1) (JW r2 h2) (J3 fx (by rw [hl];simpa using h1)) (J3 fy (by rw [hl2];simpa using h2)))
   have e:((List.range its.toArray.size).all (fun j=>qE (xs.getD j .non) (ys.getD j .non)))=v7 xs ys:=by
    unfold v7
    rw [List.size_toArray,← hl,← he,Nat.min_self,beq_self_eq_true,Bool.and_true]
   rw [e] at h
   exact SeqAt.EqAt.of_refs ne h
  ·have hf:v7 xs ys=false:=by
    unfold v7
    rw [show (xs.length == ys.length)=false from beq_eq_false_iff_ne.mpr he,Bool.and_false]
   rw [hf]
   exact SeqAt.EqAt.of_refs ne (SeqAt.RcAt.lists_lengths pl.isList pl2.isList (by rw [List.size_toArray,List.size_toArray,← hl,← hl2];exact bne_iff_ne.mpr he) hu)
end
section
variable {X:Cx}
end
end L2
namespace L2
open PySem PySem.Spec PyProof.Rows
end L2
namespace L2
open PySem PySem.Spec PyProof.Rows
end L2
namespace L2
open PySem PySem.Spec PyProof.Rows
end L2
namespace L2
open PySem PySem.Spec PyProof.Rows
section
variable {X:Cx}
theorem mH:CallR X (.type "int") (fun xs H Q=>∃(z:Str) (n:Int),xs=[.str z]∧z.length≤640∧PySem.intText? z=some n∧Q (.int n) H):=by
 intro pins s σ H xs us Q I r h
 obtain ⟨z,n,rfl,hl,hn,q⟩:=h
 obtain ⟨u,rfl,t,rfl⟩:=yQ r
 exact PySem.W.KIN.call_text hn hl ⟨.int n,H,I.tok _,⟨_,rfl⟩,q⟩
theorem oY (c:Nat):(!(Builtin.Str.occurrences ("0123456789":Str) ⟨#[c]⟩ 0 ("0123456789":Str).length 1).isEmpty)=(decide (48≤c)&&decide (c≤57)):=by
 rw [PySem.StrLaws.found_one,show ("0123456789":Str).cps.toList=[48,49,50,51,52,53,54,55,56,57] by decide +kernel]
 rw [← Bool.decide_and]
 refine decide_eq_decide.mpr ⟨fun h=>?_,fun h=>?_⟩
 ·simp only [List.mem_cons,List.mem_nil_iff,or_false] at h
  omega
 ·simp only [List.mem_cons,List.mem_nil_iff,or_false]
  omega
end
end L2
namespace L2
open PySem PySem.Spec PyProof.Rows
end L2
namespace L2
open PySem PySem.Spec PyProof.Rows
section
variable {X:Cx}
theorem bU:∀{zs:List Str} {us:List Value},Vals (zs.map V.str) us→∃l:List (Str×Tok),us=strValues l∧l.map (·.1)=zs
 |[],us,r=>by rw [List.map_nil] at r;cases r;exact ⟨[],rfl,rfl⟩
 |z::r,us,h=>by
  rw [List.map_cons] at h
  cases h with
  |@cons a b as bs ha ht =>
   obtain ⟨l,rfl,hl⟩:=bU ht
   obtain ⟨t,rfl⟩:=(show ∃t,b=Value.str z t from ha)
   exact ⟨(z,t)::l,rfl,by rw [List.map_cons,hl]⟩
theorem bV:∀(l:List (Str×Tok)),Vals ((l.map (·.1)).map V.str) (strValues l)
 |[]=>.nil
 |p::r=>.cons ⟨p.2,rfl⟩ (bV r)
def v3 (zs:List Str):Nat:=(zs.map (·.length)).sum
def eW (K:PySem.W.Frag):V→List V→Hp→VK→Prop:=fun x vs H Q=>∃(z:Str) (l:Addr) (zs:List Str),x=.str z∧vs=[.ref l]∧SqL K H l (zs.map V.str)∧z.length≤16∧v3 zs+zs.length≤1048576∧Q (.str (Str.join z zs)) H
theorem zP:QX X "str.join" (eW X.K):=by
 intro pins s σ H x vs v us Q I rx rv h
 obtain ⟨z,l,zs,rfl,rfl,hl,hz,hw,q⟩:=h
 obtain ⟨t,rfl⟩:=rx
 obtain ⟨u,rfl,ru⟩:=rv.one
 cases ru
 obtain ⟨its,r,pl,_⟩:=I.list hl
 obtain ⟨l',rfl,hl'⟩:=bU r
 refine SC.join (l:=l') (texts:=zs) pl.isList hl' (joinOk_of_weight hw hz) fun t' k=>⟨.str (Str.join z zs),H,I.tok _,?_,q⟩
 exact ⟨t',by show Value.str (Txt.join z zs) t'=_;unfold Txt.join;rw [StrLaws.glued_eq_join]⟩
def oM:V→List V→Hp→VK→Prop:=fun x vs H Q=>∃(z y:Str),x=.str z∧vs=[.str y]∧(y.length == 0)=false∧z.length≤1000000∧∀l,H l=none→Q (.ref l) (upd H l (.lst ((Txt.split z y).map V.str)))
theorem lF (x y:Str) (hy:1≤y.length):(Txt.split x y).length≤x.length+1:=by
 have:=PyProof.Rows.split_weight x y hy
 omega
theorem dL:QX X "str.split" oM:=by
 intro pins s σ H x vs v us Q I rx rv h
 obtain ⟨z,y,rfl,rfl,hy,hz,q⟩:=h
 obtain ⟨t,rfl⟩:=rx
 obtain ⟨u,rfl,t',rfl⟩:=rv.one
 have hy1:1≤y.length:=by
  have:=beq_eq_false_iff_ne.mp hy
  omega
 have hsl:=lF z y hy1
 have hzs:z.length+1≤sizeLine:=by rw [sizeLine_eq];omega
 have fin:∀(l:List (Str×Tok)) (tk:Nat),l.map (·.1)=Txt.split z y→EP X pins σ Q (.ref s.heap.objs.size) {s with toks:=tk,heap:=s.heap.push {cls:=.type "list",data:=.seq (strValues l).toArray}}:=fun l tk e=>by
  have hv:=bV l
  rw [e] at hv
  exact ⟨.ref s.heap.objs.size,_,I.laid (t':=tk) (o:=.lst ((Txt.split z y).map V.str)) (fun _ _ q=>Heap.get?_push_of_some _ q) (Nat.le_refl _) ⟨by rw [List.length_map];omega,strValues l,0,hv,Heap.get?_push_size _ rfl⟩,rfl,q _ (I.hok.fresh (Nat.le_refl _))⟩
 cases h1:(decide (z.length<y.length)||decide (Builtin.Str.strKind z<Builtin.Str.strKind y))
 ·cases hf:(Builtin.Str.occurrences z y 0 z.length (z.length+1)).isEmpty
  ·have hsp:Txt.split z y=Builtin.Str.partsBetween z (Builtin.Str.occurrences z y 0 z.length (z.length+1)) y.length:=(if_neg (ne_true_of_eq_false h1)).trans (if_neg (ne_true_of_eq_false hf))
   refine call_meets F.slot_str_split (typeIs_str _ _ _) F.entry_str_split (F.args_str_split_2 _ _) (meets_str_split_sep z y t t' h1 hy hf (by omega) (by rw [← hsp];omega)) ?_
   show wants _ _ _ {s with toks:=_,heap:=s.heap.push {cls:=.type "list",data:=.seq (strsFrom s.toks (Builtin.Str.partsBetween z (Builtin.Str.occurrences z y 0 z.length (z.length+1)) y.length)).toArray}}
   rw [strsFrom_eq]
   exact fin (numbered s.toks _) _ ((numbered_texts _ _).trans hsp.symm)
  ·exact call_meets F.slot_str_split (typeIs_str _ _ _) F.entry_str_split (F.args_str_split_2 _ _) (meets_str_split_not_found z y t t' h1 hy hf)
    (fin [(z,t)] _ ((if_neg (ne_true_of_eq_false h1)).trans (if_pos hf)).symm)
 ·exact call_meets F.slot_str_split (typeIs_str _ _ _) F.entry_str_split (F.args_str_split_2 _ _) (meets_str_split_cannot_occur z y t t' h1)
   (fin [(z,t)] _ (if_pos h1).symm)
end
end L2
namespace L2
open PySem PySem.Spec PyProof.Rows
def vU (c:Nat):List (List Nat)→List Nat
 |[]=>[]
 |[x]=>x
 |x::y::r=>x++c::vU c (y::r)
theorem J9 (c:Nat):∀ps:List Str,(Str.join ⟨#[c]⟩ ps).cps.toList=vU c (ps.map fun p=>p.cps.toList)
 |[]=>rfl
 |[x]=>rfl
 |x::y::r=>by
  show ((x++(⟨#[c]⟩:Str))++Str.join ⟨#[c]⟩ (y::r)).cps.toList=x.cps.toList++c::vU c ((y::r).map fun p=>p.cps.toList)
  rw [← J9 c (y::r)]
  show ((x.cps++#[c])++(Str.join ⟨#[c]⟩ (y::r)).cps).toList=_
  simp
theorem eH {c:Nat}:∀{x y A B:List Nat},c∉x→c∉y→x++c::A=y++c::B→x=y∧A=B
 |[],[],A,B,_,_,h=>⟨rfl,(List.cons.inj h).2⟩
 |[],b::y,A,B,_,hy,h=>absurd (List.mem_cons.mpr (.inl (List.cons.inj h).1)) hy
 |a::x,[],A,B,hx,_,h=>absurd (List.mem_cons.mpr (.inl (List.cons.inj h).1.symm)) hx
 |a::x,b::y,A,B,hx,hy,h=>by
  obtain ⟨h1,h2⟩:=List.cons.inj h
  obtain ⟨h3,h4⟩:=eH (fun z=>hx (List.mem_cons_of_mem _ z)) (fun z=>hy (List.mem_cons_of_mem _ z)) h2
  exact ⟨by rw [h1,h3],h4⟩
theorem cK (c:Nat):∀(ps qs:List (List Nat)),ps≠[]→qs≠[]→(∀p∈ps,c∉p)→(∀q∈qs,c∉q)→vU c ps=vU c qs→ps=qs
 |[],_,h,_,_,_,_=>absurd rfl h
 |_::_,[],_,h,_,_,_=>absurd rfl h
 |[x],[y],_,_,_,_,h=>by rw [show x=y from h]
 |[x],y::y2::r,_,_,hp,_,h=>by
  have h:x=y++c::vU c (y2::r):=h
  exact absurd (by rw [h];exact List.mem_append_right _ List.mem_cons_self) (hp x List.mem_cons_self)
 |x::x2::r,[y],_,_,_,hq,h=>by
  have h:x++c::vU c (x2::r)=y:=h
  exact absurd (by rw [← h];exact List.mem_append_right _ List.mem_cons_self) (hq y List.mem_cons_self)
 |x::x2::r,y::y2::r',_,_,hp,hq,h=>by
  obtain ⟨h1,h2⟩:=eH (hp x List.mem_cons_self) (hq y List.mem_cons_self) h
  rw [h1,cK c (x2::r) (y2::r') (List.cons_ne_nil _ _) (List.cons_ne_nil _ _) (fun p h=>hp p (List.mem_cons_of_mem _ h)) (fun q h=>hq q (List.mem_cons_of_mem _ h)) h2]
theorem Q3:∀{ps qs:List Str},(ps.map fun p=>p.cps.toList)=(qs.map fun p=>p.cps.toList)→ps=qs
 |[],[],_=>rfl
 |[],_::_,h=>by cases h
 |_::_,[],h=>by cases h
 |p::ps,q::qs,h=>by
  obtain ⟨h1,h2⟩:=List.cons.inj h
  rw [Q3 h2]
  obtain ⟨a⟩:=p
  obtain ⟨b⟩:=q
  rw [show a=b from Array.toList_inj.mp h1]
theorem mQ (x y:Str) (hy:1≤y.length):Txt.split x y≠[]:=by
 intro h
 have hj:=StrLaws.join_split x y
 rw [h] at hj
 unfold Txt.split at h
 split at h
 ·cases h
 ·split at h
  ·cases h
  ·rename_i h2
   unfold Builtin.Str.partsBetween at h
   simp at h
theorem bW (c:Nat) {ps:List Str} (h0:ps≠[]) (hp:∀p∈ps,c∉p.cps.toList):Txt.split (Str.join ⟨#[c]⟩ ps) ⟨#[c]⟩=ps:=by
 refine Q3 (cK c _ _ ?_ ?_ ?_ ?_ ?_)
 ·intro h;exact mQ _ ⟨#[c]⟩ (Nat.le_refl 1) (List.map_eq_nil_iff.mp h)
 ·intro h;exact h0 (List.map_eq_nil_iff.mp h)
 ·intro p h
  obtain ⟨q,hq,rfl⟩:=List.mem_map.mp h
  exact StrLaws.split_free _ c q hq
 ·intro p h
  obtain ⟨q,hq,rfl⟩:=List.mem_map.mp h
  exact hp q hq
 ·rw [← J9,← J9,StrLaws.join_split]
end L2
namespace L2
open PySem PySem.Spec PyProof.Rows
section
variable {X:Cx} {tg:Expr}
end
theorem Q9 {K:PySem.W.Frag} {a D:Addr} {xs:List V} {g:TG} {tc:TT} {te:TE} {σ₀:St} {H:Hp} {Q:Hp→Prop} (Pv:Nat→St→Hp→Prop) (h0:Pv 0 σ₀ (upd H D (.lst []))) (hl:∀i σ H,i≤xs.length→Pv i σ H→SqT K H a xs)
    (hs:∀i x σ H,xs[i]?=some x→Pv i σ H→g x σ H fun σ2 H3=>tc σ2 H3 fun b H4=>if b=true then te σ2 H4 fun v H5=>∃ys,H5 D=some (.lst ys)∧ys.length<sizeLine∧Pv (i+1) σ2 (upd H5 D (.lst (ys++[v]))) else Pv (i+1) σ2 H4)
    (hd:∀σ H,Pv xs.length σ H→Q H):vG D (yW K a) g tc te σ₀ H Q:=by
  refine ⟨fun i m σ H=>m=xs.length - i∧i≤xs.length∧Pv i σ H,⟨xs.length,by simp,Nat.zero_le _,h0⟩,?_⟩
  rintro i m σ H ⟨rfl,hi,p⟩
  have q:=hl i σ H hi p
  by_cases hlt:i<xs.length
  · refine .inr ⟨⟨xs,xs[i],q,by simp [hlt]⟩,Pv (i+1),fun σ' H' p'=>⟨xs.length - (i+1),by omega,rfl,hlt,p'⟩,fun x H' y=>?_⟩
    obtain ⟨e,y⟩:=y
    subst e
    exact hs i x σ _ (y xs q) p
  · have e:i=xs.length:=by omega
    subst e
    exact .inl ⟨⟨xs,q,Nat.le_refl _⟩,hd σ H p⟩
theorem cM {K:PySem.W.Frag} {a D:Addr} {xs:List V} {tc:TT} {te:TE} {caps:St} {H:Hp} {Q:Hp→Prop} (R:Nat→List V→Hp→Prop) (hD:H D=none) (hS:H a=some (.tup xs)) (h0:R 0 [] (upd H D (.lst [])))
  (hs:∀i x ys Hi,xs[i]?=some x→i<xs.length→ys.length≤i→Same H Hi→Hi D=some (.lst ys)→R i ys Hi→tc (some x::caps) Hi fun b H4=>if b=true then te (some x::caps) H4 fun v H5=>∃zs,H5 D=some (.lst zs)∧zs.length<sizeLine∧q9 H D caps R (i+1) (some x::caps) (upd H5 D (.lst (zs++[v])))
   else q9 H D caps R (i+1) (some x::caps) H4)
  (hd:∀ys Hf,Same H Hf→Hf D=some (.lst ys)→ys.length≤xs.length→R xs.length ys Hf→Q Hf):vG D (yW K a) (JJ 0) tc te (none::caps) H Q:=by
 refine Q9 (xs:=xs) (q9 H D caps R) ⟨[],none,rfl,qM hD (Same.refl H),jH,Nat.le_refl _,h0⟩ (fun i σ Hi _ ⟨_,_,_,s,_⟩=>SqT.of (s _ _ hS)) ?_ ?_
 ·rintro i x σ Hi hx ⟨ys,c,rfl,s,hY,hl,r⟩
  exact hs i x ys Hi hx (List.getElem?_eq_some_iff.mp hx).1 hl s hY r
 ·rintro σ Hf ⟨ys,c,rfl,s,hY,hl,r⟩
  exact hd ys Hf s hY hl r
end L2
namespace L2
open PySem PySem.Spec PyProof.Rows
def kR (m:Nat):List Nat:=(Nat.toDigits 10 m).map Char.toNat
theorem QB {n:Int} (h0:0≤n):(Str.ofString (toString n)).cps.toList=kR n.toNat:=by
 obtain ⟨m,rfl⟩:=Int.eq_ofNat_of_zero_le h0
 exact PySem.W.KIN.signs_num m
theorem ZC {m:Nat} (h:¬m<10):kR m=kR (m / 10)++[(Nat.digitChar (m%10)).toNat]:=by
 have hm:m%10<10:=Nat.mod_lt m (by decide)
 have t:Nat.toDigits 10 (m / 10)++Nat.toDigits 10 (m%10)=Nat.toDigits 10 (10*(m / 10)+m%10):=Nat.toDigits_append_toDigits (by decide) (by omega) hm
 rw [Nat.div_add_mod] at t
 unfold kR
 rw [← t,List.map_append,Nat.toDigits_of_lt_base hm]
 rfl
theorem dQ:∀d:Nat,d<10→(Nat.digitChar d).toNat=48+d:=by decide
theorem Q6 {m:Nat} (h:m<10):kR m=[48+m]:=by
 unfold kR
 rw [Nat.toDigits_of_lt_base h]
 show [(Nat.digitChar m).toNat]=_
 rw [dQ m h]
theorem dI (m:Nat):∀c∈kR m,48≤c∧c≤57:=by
 induction m using Nat.strongRecOn with
 |_ m ih =>
  intro c hc
  by_cases h:m<10
  ·rw [Q6 h] at hc
   have:=List.mem_singleton.mp hc
   omega
  ·rw [ZC h] at hc
   rcases List.mem_append.mp hc with hc|hc
   ·exact ih (m / 10) (by omega) c hc
   ·have:=List.mem_singleton.mp hc
    have:=dQ (m%10) (Nat.mod_lt m (by decide))
    have:=Nat.mod_lt m (show 0<10 by decide)
    omega
theorem d8 (m:Nat):kR m≠[]:=by
 by_cases h:m<10
 ·rw [Q6 h];exact List.cons_ne_nil _ _
 ·rw [ZC h];simp
theorem lN (m:Nat) (h0:0<m):(kR m)[0]?≠some 48:=by
 induction m using Nat.strongRecOn with
 |_ m ih =>
  by_cases h:m<10
  ·rw [Q6 h]
   intro e
   have:=Option.some.inj e
   omega
  ·rw [ZC h,List.getElem?_append_left (List.length_pos_iff.mpr (d8 _))]
   exact ih (m / 10) (by omega) (by omega)
theorem mY (m:Nat):PySem.NumText.digitsVal (kR m)=m:=PySem.W.KIN.val_back m
theorem dH {m:Nat} (h:m<1000000000000):1≤(kR m).length∧(kR m).length≤12:=by
 refine ⟨List.length_pos_iff.mpr (d8 m),?_⟩
 unfold kR
 rw [List.length_map]
 exact PyProof.Rows.digits10_le (k:=12) (by decide) (by simpa using h)
end L2
namespace L2
open PySem PySem.Spec PyProof.Rows
section
variable {X:Cx} {pins:List (Addr×Obj)} {σ:List (Option V)} {H:Hp} {s:Shared} {h':Heap}
end
section
variable {X:Cx} {elts:List Expr} {x1:Nat} {tpos:Pos}
end
end L2
namespace L2
open PySem PySem.Spec PyProof.Rows
end L2
namespace L2
open PySem PySem.Spec PyProof.Rows
section
variable {X:Cx}
end
end L2
namespace L2
open PySem PySem.Spec PyProof.Rows
section
variable {prog:Program} {w:World} {A:Around} {s:Shared} {E:Value→Shared→Prop}
end
section
variable {X:Cx} {elts:List Expr} {x1:Nat} {tpos:Pos}
end
end L2
namespace L2
open PySem PySem.Spec PyProof.Rows
set_option maxRecDepth 100000
section
variable {X:Cx}
end
end L2
namespace L2
open PySem PySem.Spec PyProof.Rows
section
variable {prog:Program} {w:World} {A:Around} {s:Shared} {E:Value→Shared→Prop}
theorem o5 {a:Addr} {o:Obj} {Q:Option Obj→Shared→Prop} (h:s.heap.get? a=some o) (q:Q (some o) s):wpAny (model prog w) A (loadIfAlive a) Q E s:=fun Γ p _=>by
 show Sem.wp _ Γ (.loadIfAlive a .pure) _ _ p s
 rw [Sem.wp_loadIfAlive,h]
 exact q
abbrev z0 (h:Heap) (z P1 P2:Addr) (f0:Value) (f1:Bool):Prop:=h.get? z=some {cls:=.type "zip",dict:=none,data:=.fields #[f0,.bool f1,.bool false,.ref P1,.ref P2],slots := #[]}
theorem bG {z P1 P2 T:Addr} {f1:Bool} {o:Obj} {Q:Bool→Shared→Prop} (hz:z0 s.heap z P1 P2 (rawInt T) f1) (hT:s.heap.get? T=some o) (q:∀h',z0 h' z P1 P2 (rawInt T) true→Heap.SameBut z s.heap h'→Q false {s with heap:=h'}):wpAny (model prog w) A (Builtin.SmallTypes.ownedTupleIsFree (.ref z)) Q E s:=by
 unfold Builtin.SmallTypes.ownedTupleIsFree
 refine wpAny_bind (wpAny_field hz rfl (x:=rawInt T) rfl ?_)
 show wpAny _ _ (loadIfAlive (Int.toNat (T:Int)) >>= _) _ _ _
 refine wpAny_bind (o5 (by rw [Int.toNat_natCast];exact hT) ?_)
 simp only [Option.isNone_some,Bool.false_eq_true,if_false]
 refine wpAny_bind (wpAny_field hz rfl (x:=.bool f1) rfl ?_)
 cases f1 with
 |true =>
  rw [if_neg (by decide)]
  refine wpAny_pure ?_
  exact q s.heap hz ⟨rfl,fun _ _=>rfl⟩
 |false =>
  rw [if_pos (by decide)]
  refine wpAny_bind (wpAny_setField_rec hz (by simp) fun m1 z1 d1=>wpAny_pure ?_)
  exact q m1 z1 d1
theorem lB {z P1 P2 j1 j2 a b T:Addr} {k:Nat} {us vs:Array Value} {u v:Value} {f1:Bool} {o:Obj} {Q:Value→Shared→Prop} (D:ZipApart z P1 P2 j1 j2 a b)
  (hz:z0 s.heap z P1 P2 (rawInt T) f1) (hT:s.heap.get? T=some o) (hP1:IsPair s.heap P1 (.ref j1) (.ref j2)) (n1:s.heap.IsListIter j1 a k) (n2:s.heap.IsListIter j2 b k) (la:s.heap.IsList a us) (lb:s.heap.IsList b vs) (hu:us[k]?=some u) (hv:vs[k]?=some v)
  (q:∀h',z0 h' z P1 P2 (rawInt T) true→h'.IsListIter j1 a (k+1)→h'.IsListIter j2 b (k+1)→IsPair h' s.heap.objs.size u v→h'.objs.size=s.heap.objs.size+1→(∀c o,c≠z→c≠j1→c≠j2→s.heap.get? c=some o→h'.get? c=some o)→Q (.ref s.heap.objs.size) {s with heap:=h'}):wpAny (model prog w) A (Builtin.«zip.__next__» ⟨[.ref z],[]⟩) (fun fin s'=>∃v,fin=.done (.ret v)∧Q v s') E s:=by
 show wpAny _ _ (field (.ref z) 2 >>= _) _ _ _;refine wpAny_bind (wpAny_field hz rfl (x:=.bool false) rfl ?_);show wpAny _ _ (field (.ref z) 3 >>= _) _ _ _
 refine wpAny_bind (wpAny_field hz rfl (x:=.ref P1) rfl ?_);refine wpAny_bind (wpAny_seqItems hP1 rfl ?_)
 show wpAny _ _ (Builtin.SmallTypes.ownedTupleIsFree (.ref z) >>= _) _ _ _;refine wpAny_bind (bG hz hT fun m1 z1 d1=>?_)
 simp only [Bool.false_eq_true,if_false]
 refine wpAny_bind ?_;simp only [← Array.forIn_toList,List.forIn_cons,List.forIn_nil]
 refine wpAny_bind (wpAny_bind (wpAny_holding ?_));show wpAny _ _ (Builtin.SmallTypes.nextOf (.ref j1) >>= _) _ _ _
 refine wpAny_bind (wpAny_nextOf_list_item (n1.extBut d1.extBut D.i1z) (la.extBut d1.extBut D.l1z) hu fun m2 n12 d2=>wpAny_pure (wpAny_pure ?_))
 refine wpAny_bind (wpAny_bind (wpAny_holding ?_));show wpAny _ _ (Builtin.SmallTypes.nextOf (.ref j2) >>= _) _ _ _
 refine wpAny_bind (wpAny_nextOf_list_item ((n2.extBut d1.extBut D.i2z).extBut d2.extBut D.i12.symm) ((lb.extBut d1.extBut D.l2z).extBut d2.extBut D.l2i1) hv fun m3 n23 d3=>wpAny_pure (wpAny_pure (wpAny_pure ?_)))
 show wpAny _ _ (newTuple [u,v] >>= _) _ _ _
 refine wpAny_bind (wpAny_newTuple (wpAny_pure ⟨_,rfl,?_⟩))
 have sz:m3.objs.size=s.heap.objs.size:=by rw [d3.1,d2.1,d1.1]
 have up:∀c o,c≠z→c≠j1→c≠j2→s.heap.get? c=some o→(m3.push {cls:=.type "tuple",data:=.seq #[u,v]}).get? c=some o:=fun c o e1 e3 e4 e=>Heap.get?_push_of_some _ (d3.extBut _ _ e4 (d2.extBut _ _ e3 (d1.extBut _ _ e1 e)))
 have t8:IsPair (m3.push {cls:=.type "tuple",data:=.seq #[u,v]}) m3.objs.size u v:=Heap.get?_push_size _ rfl
 show Q (.ref m3.objs.size) _
 rw [sz] at t8 ⊢
 exact q _ (Heap.get?_push_of_some _ (d3.extBut _ _ D.i2z.symm (d2.extBut _ _ D.i1z.symm z1))) ((n12.extBut d3.extBut D.i12).at fun o e=>Heap.get?_push_of_some _ e) (n23.at fun o e=>Heap.get?_push_of_some _ e) t8 (by rw [Heap.size_push,sz]) up
theorem mL {z P1 P2 j1 j2 a b T:Addr} {k:Nat} {us vs:Array Value} {f1:Bool} {o:Obj} {Q:Fin→Shared→Prop} (hh:A.handled=none) (D:ZipApart z P1 P2 j1 j2 a b)
  (hz:z0 s.heap z P1 P2 (rawInt T) f1) (hT:s.heap.get? T=some o) (hP1:IsPair s.heap P1 (.ref j1) (.ref j2)) (n1:s.heap.IsListIter j1 a k) (n2:s.heap.IsListIter j2 b k) (la:s.heap.IsList a us) (lb:s.heap.IsList b vs) (he:us[k]?=none∨vs[k]?=none)
  (q:∀h' e,(∀c o,c≠z→c≠j1→c≠j2→s.heap.get? c=some o→h'.get? c=some o)→(∃o,h'.get? e=some o∧o.cls=.type "StopIteration")→E (.ref e) {s with heap:=h'}):wpAny (model prog w) A (Builtin.«zip.__next__» ⟨[.ref z],[]⟩) Q E s:=by
 show wpAny _ _ (field (.ref z) 2 >>= _) _ _ _;refine wpAny_bind (wpAny_field hz rfl (x:=.bool false) rfl ?_);show wpAny _ _ (field (.ref z) 3 >>= _) _ _ _
 refine wpAny_bind (wpAny_field hz rfl (x:=.ref P1) rfl ?_);refine wpAny_bind (wpAny_seqItems hP1 rfl ?_)
 show wpAny _ _ (Builtin.SmallTypes.ownedTupleIsFree (.ref z) >>= _) _ _ _;refine wpAny_bind (bG hz hT fun m1 z1 d1=>?_)
 simp only [Bool.false_eq_true,if_false]
 refine wpAny_bind ?_;simp only [← Array.forIn_toList,List.forIn_cons,List.forIn_nil]
 refine wpAny_bind (wpAny_bind (wpAny_holding ?_));show wpAny _ _ (Builtin.SmallTypes.nextOf (.ref j1) >>= _) _ _ _
 cases hu:us[k]? with
 |none =>
  refine wpAny_bind (wpAny_nextOf_list_end hh (n1.extBut d1.extBut D.i1z) (la.extBut d1.extBut D.l1z) hu fun m2 e d2 st=>?_)
  exact q m2 e (fun c o e1 e3 e4 x=>d2 _ _ e3 (d1.extBut _ _ e1 x)) st
 |some u =>
  have hv:vs[k]?=none:=by rcases he with h|h;rw [hu] at h;cases h;exact h
  refine wpAny_bind (wpAny_nextOf_list_item (n1.extBut d1.extBut D.i1z) (la.extBut d1.extBut D.l1z) hu fun m2 n12 d2=>wpAny_pure (wpAny_pure ?_))
  refine wpAny_bind (wpAny_bind (wpAny_holding ?_));show wpAny _ _ (Builtin.SmallTypes.nextOf (.ref j2) >>= _) _ _ _
  refine wpAny_bind (wpAny_nextOf_list_end hh ((n2.extBut d1.extBut D.i2z).extBut d2.extBut D.i12.symm) ((lb.extBut d1.extBut D.l2z).extBut d2.extBut D.l2i1) hv fun m3 e d3 st=>?_)
  exact q m3 e (fun c o e1 e3 e4 x=>d3 _ _ e4 (d2.extBut _ _ e3 (d1.extBut _ _ e1 x))) st
def ZStands (h:Heap) (N z P1 P2 j1 j2 a b:Addr) (us vs:Array Value) (k:Nat):Prop :=
 ((IsZip h z P1 P2 .none∧∃g g',IsPair h P2 g g')∨∃(T:Addr) (f1:Bool) (o:Obj),z0 h z P1 P2 (rawInt T) f1∧N≤T∧h.get? T=some o)∧IsPair h P1 (.ref j1) (.ref j2)∧h.IsListIter j1 a k∧h.IsListIter j2 b k∧h.IsList a us∧h.IsList b vs
theorem nK {N z P1 P2 j1 j2 a b:Addr} {k:Nat} {us vs:Array Value} {u v:Value} {Q:Option Value→Shared→Prop} (D:ZipApart z P1 P2 j1 j2 a b) (b1:z<N) (b2:j1<N) (b3:j2<N) (bN:N≤s.heap.objs.size) (hs:ZStands s.heap N z P1 P2 j1 j2 a b us vs k) (hu:us[k]?=some u) (hv:vs[k]?=some v)
  (q:∀h',ZStands h' N z P1 P2 j1 j2 a b us vs (k+1)→IsPair h' s.heap.objs.size u v→h'.objs.size=s.heap.objs.size+1→(∀c o,c≠z→c≠P2→c≠j1→c≠j2→s.heap.get? c=some o→h'.get? c=some o)→Q (some (.ref s.heap.objs.size)) {s with heap:=h'}):wpAny (model prog w) A (pyNext (.ref z)) Q E s:=by
 obtain ⟨hz,hP1,n1,n2,la,lb⟩:=hs
 rcases hz with ⟨hz,g,g',hP2⟩|⟨T,f1,o,hz,t0,hT⟩
 ·refine wpAny_pyNext_zip_item D hz hP1 hP2 n1 n2 la lb hu hv fun h' hz' hP2' n1' n2' hT' hsz hk=>q h' ⟨.inr ⟨_,false,_,hz',bN,hT'⟩,hk _ _ D.TIz D.TITO D.TIi1 D.TIi2 hP1,n1',n2',la.at fun o e=>hk _ _ D.l1z D.l1TO D.l1i1 D.l1i2 e,lb.at fun o e=>hk _ _ D.l2z D.l2TO D.l2i1 D.l2i2 e⟩ hT' hsz hk
 ·have hTz:s.TypeIs (.ref z) "zip":=⟨_,hz,rfl⟩
  unfold pyNext
  refine wpAny_bind (wpAny_attempt (wpAny_callSpecial?_slot (name:=Str.ofString "__next__") hTz F.slot_zip_next (wpAny_call_entry F.slot_zip_next hTz F.entry_zip_next (lB D hz hT hP1 n1 n2 la lb hu hv fun h' hz' n1' n2' hT' hsz hk=>wpAny_pure ?_) (F.args_zip_next_1 _))))
  exact q h' ⟨.inr ⟨T,true,o,hz',t0,hk _ _ (Nat.ne_of_gt (Nat.lt_of_lt_of_le b1 t0)) (Nat.ne_of_gt (Nat.lt_of_lt_of_le b2 t0)) (Nat.ne_of_gt (Nat.lt_of_lt_of_le b3 t0)) hT⟩,hk _ _ D.TIz D.TIi1 D.TIi2 hP1,n1',n2',la.at fun o e=>hk _ _ D.l1z D.l1i1 D.l1i2 e,lb.at fun o e=>hk _ _ D.l2z D.l2i1 D.l2i2 e⟩ hT' hsz fun c o e1 _ e3 e4 e=>hk c o e1 e3 e4 e
theorem oF {N z P1 P2 j1 j2 a b:Addr} {k:Nat} {us vs:Array Value} {Q:Option Value→Shared→Prop} (hh:A.handled=none) (D:ZipApart z P1 P2 j1 j2 a b) (hs:ZStands s.heap N z P1 P2 j1 j2 a b us vs k) (he:us[k]?=none∨vs[k]?=none)
  (q:∀h',(∀c o,c≠z→c≠P2→c≠j1→c≠j2→s.heap.get? c=some o→h'.get? c=some o)→Q none {s with heap:=h'}):wpAny (model prog w) A (pyNext (.ref z)) Q E s:=by
 obtain ⟨hz,hP1,n1,n2,la,lb⟩:=hs
 rcases hz with ⟨hz,g,g',hP2⟩|⟨T,f1,o,hz,t0,hT⟩
 ·exact wpAny_pyNext_zip_end hh D hz hP1 hP2 n1 n2 la lb he q
 ·have hTz:s.TypeIs (.ref z) "zip":=⟨_,hz,rfl⟩
  unfold pyNext
  refine wpAny_bind (wpAny_attempt (wpAny_callSpecial?_slot (name:=Str.ofString "__next__") hTz F.slot_zip_next (wpAny_call_entry F.slot_zip_next hTz F.entry_zip_next (mL hh D hz hT hP1 n1 n2 la lb he fun h' e hk st=>?_) (F.args_zip_next_1 _))))
  obtain ⟨oe,ee,ce⟩:=st
  refine wpAny_bind (wpAny_isInstance (T:="StopIteration") (b:=true) ⟨oe,ee,ce⟩ isSubtype_stop ?_)
  exact wpAny_pure (q _ fun c o e1 _ e3 e4 e=>hk c o e1 e3 e4 e)
theorem ZStands.keep {h h':Heap} {N z P1 P2 j1 j2 a b S:Addr} {us vs:Array Value} {k:Nat} (hs:ZStands h N z P1 P2 j1 j2 a b us vs k) (bS:S<N) (nS:∀c∈[z,P1,P2,j1,j2,a,b],c≠S) (kp:∀c o,c≠S→h.get? c=some o→h'.get? c=some o):ZStands h' N z P1 P2 j1 j2 a b us vs k:=by
 obtain ⟨hz,hP1,n1,n2,la,lb⟩:=hs
 have nS':∀c,c∈[z,P1,P2,j1,j2,a,b]→∀o,h.get? c=some o→h'.get? c=some o:=fun c hc o e=>kp c o (nS c hc) e
 refine ⟨?_,nS' _ (by simp) _ hP1,n1.at fun o e=>nS' _ (by simp) o e,n2.at fun o e=>nS' _ (by simp) o e,la.at fun o e=>nS' _ (by simp) o e,lb.at fun o e=>nS' _ (by simp) o e⟩
 rcases hz with ⟨hz,g,g',hP2⟩|⟨T,f1,o,hz,t0,hT⟩
 ·exact .inl ⟨nS' _ (by simp) _ hz,g,g',nS' _ (by simp) _ hP2⟩
 ·exact .inr ⟨T,f1,o,nS' _ (by simp) _ hz,t0,kp _ _ (Nat.ne_of_gt (Nat.lt_of_lt_of_le bS t0)) hT⟩
def Pairs (h:Heap) (N:Addr) (us vs acc:Array Value) (k:Nat):Prop:=acc.size=k∧(∀(j:Nat) (v:Value),acc[j]?=some v→∃(T:Addr) (x y:Value),v=.ref T∧N≤T∧T<h.objs.size∧IsPair h T x y∧us[j]?=some x∧vs[j]?=some y)∧∀(i j:Nat) (v:Value),acc[i]?=some v→acc[j]?=some v→i=j
theorem Pairs.keep {h h':Heap} {N:Addr} {us vs acc:Array Value} {k:Nat} (p:Pairs h N us vs acc k) (kp:∀c o,N≤c→h.get? c=some o→h'.get? c=some o) (sz:h.objs.size≤h'.objs.size):Pairs h' N us vs acc k:=⟨p.1,fun j v hv=>by
 obtain ⟨T,x,y,e1,e2,e3,e4,e5⟩:=p.2.1 j v hv
 exact ⟨T,x,y,e1,e2,Nat.lt_of_lt_of_le e3 sz,kp _ _ e2 e4,e5⟩,p.2.2⟩
theorem Pairs.push {h:Heap} {N T:Addr} {us vs acc:Array Value} {k:Nat} {x y:Value} (p:Pairs h N us vs acc k) (tn:∀(j:Nat),acc[j]?≠some (.ref T)) (t0:N≤T) (t1:T<h.objs.size) (t2:IsPair h T x y) (hx:us[k]?=some x) (hy:vs[k]?=some y):Pairs h N us vs (acc.push (.ref T)) (k+1):=by
 refine ⟨by rw [Array.size_push,p.1],fun j v hj=>?_,fun i j v hi hj=>?_⟩
 ·rw [Array.getElem?_push] at hj
  split at hj
  ·rename_i e;rw [p.1] at e;cases hj;rw [e];exact ⟨T,x,y,rfl,t0,t1,t2,hx,hy⟩
  ·exact p.2.1 j v hj
 ·rw [Array.getElem?_push] at hi hj
  split at hi<;>split at hj
  ·omega
  ·cases hi;exact absurd hj (tn j)
  ·cases hj;exact absurd hi (tn i)
  ·exact p.2.2 i j v hi hj
theorem mK {R:Result→Shared→Prop} (hh:A.handled=none) {N z P1 P2 j1 j2 a b S:Addr} {us vs:Array Value} (D:ZipApart z P1 P2 j1 j2 a b) (bz:∀c∈[z,P2,j1,j2,S],c<N) (nS:∀c∈[z,P1,P2,j1,j2,a,b],c≠S) (hn:min us.size vs.size≤sizeLine) (res:Value) :
  ∀(m k:Nat) (s:Shared) (acc:Array Value) (c:Nat),min us.size vs.size - k=m→k≤min us.size vs.size→N≤s.heap.objs.size→ZStands s.heap N z P1 P2 j1 j2 a b us vs k→s.heap.get? S=some {cls:=.type "list",dict:=none,data:=.seq acc c,slots := #[]}→Pairs s.heap N us vs acc k→
  (∀h' acc' c',(∀d o,d∉[z,P2,j1,j2,S]→s.heap.get? d=some o→h'.get? d=some o)→h'.get? S=some {cls:=.type "list",dict:=none,data:=.seq acc' c',slots := #[]}→Pairs h' N us vs acc' (min us.size vs.size)→R (.ok (.ret res)) {s with heap:=h'})→
  codeAny (model prog w) A (.builtin "list.extend.loop" ⟨[.ref S,.ref z,res],[]⟩) R s:=by
 have nz:S≠z:=(nS z (by simp)).symm
 have nP:S≠P2:=(nS P2 (by simp)).symm
 have n1:S≠j1:=(nS j1 (by simp)).symm
 have n2:S≠j2:=(nS j2 (by simp)).symm
 have big:∀c,N≤c→c∉[z,P2,j1,j2,S]:=fun c hc hm=>Nat.lt_irrefl _ (Nat.lt_of_lt_of_le (bz c hm) hc)
 intro m
 induction m with
 |zero =>
  intro k s acc c hm hk bN hs hS hp q
  obtain rfl:k=min us.size vs.size:=by omega
  refine codeAny_builtin F.entry_extend_loop ?_
  rw [Around.under_plainId F.plain_extend_loop _]
  show wpAny _ A.in1 (pyNext (.ref z) >>= _) _ _ s
  refine wpAny_bind (oF (by simp [hh]) D hs (by rcases Nat.le_total us.size vs.size with e|e;exact .inl (by rw [Nat.min_eq_left e];simp);exact .inr (by rw [Nat.min_eq_right e];simp)) fun h' kp=>wpAny_pure ?_)
  have kp':∀d o,d∉[z,P2,j1,j2,S]→s.heap.get? d=some o→h'.get? d=some o:=fun d o hd e=>by
   simp only [List.mem_cons,List.mem_nil_iff,or_false,not_or] at hd
   exact kp d o hd.1 hd.2.1 hd.2.2.1 hd.2.2.2.1 e
  refine q h' acc c kp' (kp S _ nz nP n1 n2 hS) ⟨hp.1,fun j v hv=>?_,hp.2.2⟩
  obtain ⟨T,x,y,e1,e2,e3,e4,e5⟩:=hp.2.1 j v hv
  have e4':=kp' _ _ (big T e2) e4
  exact ⟨T,x,y,e1,e2,Heap.lt_size e4',e4',e5⟩
 |succ m ih =>
  intro k s acc c hm hk bN hs hS hp q
  have l1:k<us.size:=by omega
  have l2:k<vs.size:=by omega
  refine codeAny_builtin F.entry_extend_loop ?_
  rw [Around.under_plainId F.plain_extend_loop _]
  show wpAny _ A.in1 (pyNext (.ref z) >>= _) _ _ s
  refine wpAny_bind (nK D (bz _ (by simp)) (bz _ (by simp)) (bz _ (by simp)) bN hs (Array.getElem?_eq_getElem l1) (Array.getElem?_eq_getElem l2) fun h' hs' hT hsz kp=>?_)
  have kp':∀d o,d∉[z,P2,j1,j2,S]→s.heap.get? d=some o→h'.get? d=some o:=fun d o hd e=>by
   simp only [List.mem_cons,List.mem_nil_iff,or_false,not_or] at hd
   exact kp d o hd.1 hd.2.1 hd.2.2.1 hd.2.2.2.1 e
  have hS':=kp S _ nz nP n1 n2 hS
  show wpAny _ A.in1 (updateSeq S (·.push (.ref s.heap.objs.size)) >>= _) _ _ _
  refine wpAny_bind ?_
  have kq:∀d o,d≠S→h'.get? d=some o→(h'.update S (Obj.mapSeq (·.push (.ref s.heap.objs.size)))).get? d=some o:=fun d o hd e=>(Heap.get?_update_other _ _ (Ne.symm hd)).trans e
  have bS:S<N:=bz S (by simp)
  refine wpAny_updateSeq hS' rfl (wpAny_pure ⟨plainId_quiet F.plain_extend_loop _,ih (k+1) _ (acc.push (.ref s.heap.objs.size)) _ (by omega) (by omega) ?_ (hs'.keep bS nS kq) (Heap.get?_update_self _ hS' rfl) ?_ fun h2 acc' c' kp2 hS2 hp2=>?_⟩) (by rw [hp.1];omega) (by show (acc.push _).size≤sizeLine+1;rw [Array.size_push,hp.1];omega)
  ·show N≤(h'.update S _).objs.size
   rw [Heap.size_update,hsz];exact Nat.le_succ_of_le bN
  ·refine (((hp.keep (h':=h') (fun c o hc e=>kp' c o (big c hc) e) (by rw [hsz];exact Nat.le_succ _)).push (fun j hj=>by obtain ⟨T,_,_,e1,_,e3,_⟩:=hp.2.1 j _ hj;cases e1;exact Nat.lt_irrefl _ e3) bN (by rw [hsz];exact Nat.lt_succ_self _) hT (Array.getElem?_eq_getElem l1) (Array.getElem?_eq_getElem l2))).keep (fun c o hc e=>kq c o (Nat.ne_of_gt (Nat.lt_of_lt_of_le bS hc)) e) ?_
   show h'.objs.size≤(h'.update S _).objs.size
   rw [Heap.size_update];exact Nat.le_refl _
  ·refine q h2 acc' c' (fun d o hd e=>kp2 d o hd (kq d o (fun x=>hd (by rw [x];simp)) (kp' d o hd e))) hS2 hp2
theorem iV:typeLookup (.type "zip") "__len__"=pure none:=by rw [typeLookup_type,builtinLookup_eq_fast];kernel_rfl
theorem iL:typeLookup (.type "zip") "__length_hint__"=pure none:=by rw [typeLookup_type,builtinLookup_eq_fast];kernel_rfl
theorem iW {R:Result→Shared→Prop} (hh:A.handled=none) {N z P1 P2 j1 j2 a b S:Addr} {us vs:Array Value} (D:ZipApart z P1 P2 j1 j2 a b) (bz:∀c∈[z,P2,j1,j2,S],c<N) (nS:∀c∈[z,P1,P2,j1,j2,a,b],c≠S) (hn:min us.size vs.size≤sizeLine) (res:Value) (c₀:Nat) (bN:N≤s.heap.objs.size) (hz:IsZip s.heap z P1 P2 .none)
  (hs:ZStands s.heap N z P1 P2 j1 j2 a b us vs 0) (hS:s.heap.get? S=some {cls:=.type "list",data:=.seq #[] c₀})
  (q:∀h' acc' c',(∀d o,d∉[z,P2,j1,j2,S]→s.heap.get? d=some o→h'.get? d=some o)→h'.get? S=some {cls:=.type "list",dict:=none,data:=.seq acc' c',slots := #[]}→Pairs h' N us vs acc' (min us.size vs.size)→R (.ok (.ret res)) {s with heap:=h'}) :
  wpAny (model prog w) A.in1 (Builtin.List.listExtendWith (.ref S) (.ref z) res)
   (fun fin s'=>match fin with|.done f=>R (.ok f) s'|.again c'=>c'.quiet=true∧codeAny (model prog w) A c' R s') (fun e s'=>R (.error e) s') s:=by
 have hT:s.TypeIs (.ref z) "zip":=⟨_,hz,rfl⟩
 have nz:S≠z:=(nS z (by simp)).symm
 unfold Builtin.List.listExtendWith
 refine wpAny_bind (wpAny_typeOf hT ?_)
 have e1:Builtin.List.listSameRef (.ref S) (.ref z)=false:=by simp [Builtin.List.listSameRef,nz]
 have e2:(Value.type "zip" == Value.type "list")=false:=by decide
 have e3:(Value.type "zip" == Value.type "tuple")=false:=by decide
 simp only [e1,e2,e3,Bool.or_false,Bool.false_eq_true,if_false]
 refine wpAny_bind (wpAny_pyIter_zip hz ?_);refine wpAny_bind (wpAny_holding ?_)
 unfold Builtin.List.listLengthHint
 refine wpAny_bind (wpAny_specialOf hT iV ?_)
 show wpAny _ _ (specialOf (Value.ref z) (Str.ofString "__length_hint__") >>= _) _ _ _
 refine wpAny_bind (wpAny_specialOf hT iL ?_);refine wpAny_pure ?_
 show wpAny _ _ (rule "list.extend.makes-room" >>= fun _=>Builtin.List.listTouch (.ref S) >>= fun _=>again (.builtin "list.extend.loop" ⟨[.ref S,.ref z,res],[]⟩)) _ _ _
 refine wpAny_bind (wpAny_rule ?_);refine wpAny_bind ?_
 show wpAny _ _ (updateSeq S (·.push .none) >>= fun _=>updateSeq S (·.pop)) _ _ _
 refine wpAny_bind (wpAny_updateSeq hS rfl ?_)
 have g2:=Heap.get?_update_self (Obj.mapSeq (·.push Value.none)) hS rfl
 refine wpAny_updateSeq (hz:=by seq_fits) g2 rfl ?_
 have g3:=Heap.get?_update_self (Obj.mapSeq (·.pop)) g2 rfl
 have kq:∀d o,d≠S→s.heap.get? d=some o→((s.heap.update S (Obj.mapSeq (·.push Value.none))).update S (Obj.mapSeq (·.pop))).get? d=some o:=fun d o hd e=>(Heap.get?_update_other _ _ (Ne.symm hd)).trans ((Heap.get?_update_other _ _ (Ne.symm hd)).trans e)
 refine wpAny_pure ⟨plainId_quiet F.plain_extend_loop _,mK hh D bz nS hn res _ 0 _ #[] _ rfl (Nat.zero_le _) ?_ (hs.keep (bz S (by simp)) nS kq) g3 ⟨rfl,fun j v hv=>by simp at hv,fun i j v hi=>by simp at hi⟩ fun h' acc' c' kp hS' hp=>?_⟩
 ·show N≤((s.heap.update S _).update S _).objs.size
  rw [Heap.size_update,Heap.size_update];exact bN
 ·exact q h' acc' c' (fun d o hd e=>kp d o hd (kq d o (fun x=>hd (by rw [x];simp)) e)) hS' hp
end
end L2
namespace L2
open PySem PySem.Spec PyProof.Rows
section
variable {X:Cx} {pins:List (Addr×Obj)} {σ:List (Option V)} {H:Hp} {s:Shared} {h':Heap}
theorem Inv.laidAll {t':Nat} {H':Hp} (I:Inv X pins σ H s) (k:∀b u,s.heap.get? b=some u→h'.get? b=some u) (hold:Same H H') (hnew:∀b u,H' b=some u→H b=some u∨(s.heap.objs.size≤b∧ObjOk X.prog X.w H' h' b u)):Inv X pins σ H' {s with heap:=h',toks:=t'}:=by
  refine I.step (g':=s.gens) (d':=s.drawn) (ch:=[]) (fun b hb=>by cases hb) (fun b o _ _ _ e _=>k b o e) (fun b o _ _ _ e _=>⟨o.slots,k b o e⟩) (fun b o _ e n=>?_)
    (fun b o _ e=>⟨o,k b o e⟩) (fun b xs e=>hold _ _ e) (fun b u v e=>hold _ _ e) (fun b ps e=>⟨#[],by rw [hold _ _ e];simp⟩) (fun m hm=>?_) (fun b u e=>?_) I.bare
  · cases hb:H' b with
    |none=>rfl
    |some u =>
      rcases hnew b u hb with z|⟨z,_⟩
      · rw [n] at z;cases z
      · exact absurd (Heap.lt_size e) (Nat.not_lt_of_le z)
  · obtain ⟨o,es,ep,ho,r⟩:=hm
    exact ⟨o,es,ep,k _ o ho,r⟩
  · rcases hnew b u e with z|⟨_,z⟩
    · exact (I.hok b u z).stay (fun c v _ q=>k c v q) (fun c q=>hold _ _ q) fun c xs q=>hold _ _ q
    · exact z
end
section
variable {X:Cx}
end
end L2
namespace L2
open PySem PySem.Spec PyProof.Rows
section
variable {prog:Program} {w:World} {A:Around} {s:Shared} {E:Value→Shared→Prop}
end
end L2
namespace L2
open PySem PySem.Spec PyProof.Rows
def yR (xs:List V) (lo hi st:Option Int):List V:=(sliceRange (sliceBounds lo hi st xs.length).1 (sliceBounds lo hi st xs.length).2.1 (sliceBounds lo hi st xs.length).2.2).filterMap (xs[·]?)
theorem lC {xs:List V} {us:List Value} (r:Vals xs us) (js:List Nat):Vals (js.filterMap (xs[·]?)) (js.filterMap (us[·]?)):=by
 induction js with
 |nil=>exact .nil
 |cons j js ih =>
  cases hx:xs[j]? with
  |some x =>
   obtain ⟨u,hu,ru⟩:=r.get hx
   rw [List.filterMap_cons_some hx,List.filterMap_cons_some hu]
   exact .cons ru ih
  |none =>
   have hu:us[j]?=none:=by rw [List.getElem?_eq_none_iff] at hx ⊢;rw [← r.length];exact hx
   rw [List.filterMap_cons_none hx,List.filterMap_cons_none hu]
   exact ih
section
variable {X:Cx} {e se:Expr} {te:TE} {lo hi:Option Expr} {tl th tk:TO} {pos p2:Pos}
def p4 (K:PySem.W.Frag) (x:V) (l u k:Option Int) (H:Hp) (Q:VK):Prop:=∃a xs,x=.ref a∧SqL K H a xs∧k≠some 0∧∀p,H p=none→Q (.ref p) (upd H p (.lst (yR xs l u k)))
def pO (K:PySem.W.Frag) (te:TE) (tl th tk:TO):TE:=fun σ H Q=>te σ H fun x H1=>tl σ H1 fun l H2=>th σ H2 fun u H3=>tk σ H3 fun k H4=>p4 K x l u k H4 Q
theorem cI (he:PE X e te) (hl:PO X lo tl) (hu:PO X hi th) (hk:PO X (some se) tk):PE X (.Subscript e (.Slice lo hi (some se) p2) pos) (pO X.K te tl th tk):=by
 intro pins s σ H Q I h
 refine Subscript_ (jD (he pins s σ H _ I h) fun v s1 ⟨x,H1,I1,r1,q1⟩=>?_)
 refine wpAny_Slice (jD (hl pins s1 σ H1 _ I1 q1) fun vl s2 ⟨l,H2,I2,pl,q2⟩=>jD (hu pins s2 σ H2 _ I2 q2) fun vu s3 ⟨u,H3,I3,pu,q3⟩=>jD (hk pins s3 σ H3 _ I3 q3) fun vk s4 ⟨k,H4,I4,pk,q4⟩=>?_)
 obtain ⟨a,xs,rfl,hx,h0,q⟩:=q4
 cases r1
 have I5:Inv X pins σ H4 {s4 with heap:=s4.heap.push {cls:=.type "slice",data:=.fields #[vl,vu,vk]}}:=I4.kept (t':=s4.toks) fun b ob q=>Heap.get?_push_of_some _ q
 obtain ⟨its,r,ht,hz⟩:=I5.list hx
 have hlen:=r.length
 show wpAny (model X.prog X.w) X.A (subscriptTail e (.Slice lo hi (some se) p2) (.ref a) (.ref s4.heap.objs.size)) (EP X pins σ Q) X.xe {s4 with heap:=s4.heap.push {cls:=.type "slice",data:=.fields #[vl,vu,vk]}}
 refine tail_any (ops:=[.ref a,.ref s4.heap.objs.size]) ht.isList.typeIs slot_list_getitem.lookup (wpAny_getItem_list_slice ht.isList (Heap.IsSliceOf.new ..) pl pu pk h0 ?_ (by rw [List.size_toArray];omega)) (by with_unfolding_all rfl)
 have hp:Vals (yR xs l u k) (slicePick its.toArray l u k).toList:=by
  have e:(slicePick its.toArray l u k).toList=(sliceRange (sliceBounds l u k xs.length).1 (sliceBounds l u k xs.length).2.1 (sliceBounds l u k xs.length).2.2).filterMap (its[·]?):=by simp [slicePick,hlen]
  rw [e]
  exact lC r _
 have hs:=slicePick_size_le its.toArray l u k
 refine ⟨.ref _,_,I5.laid (t':=s4.toks) (o:=.lst (yR xs l u k)) (fun b ob q=>Heap.get?_push_of_some _ q) (Nat.le_refl _) ?_,rfl,q _ (I5.hok.fresh (Nat.le_refl _))⟩
 refine ⟨?_,_,0,hp,Heap.get?_push_size _ rfl⟩
 rw [hp.length,Array.length_toList]
 rw [show its.toArray.size=its.length from List.size_toArray] at hs
 omega
end
theorem iE {α:Type} (xs:List α) (f:Nat→Nat):∀n:Nat,(∀k,k<n→f k<xs.length)→((List.range n).map f).filterMap (xs[·]?)=(List.range n).filterMap fun k=>xs[f k]?:=fun n _=>by rw [List.filterMap_map];rfl
section
variable {X:Cx}
end
end L2
namespace L2
open PySem PySem.Spec PyProof.Rows
section
end
end L2
namespace L2
open PySem PySem.Spec PyProof.Rows
section
variable {prog:Program} {w:World} {A:Around} {s:Shared} {E:Value→Shared→Prop}
end
section
variable {X:Cx} {elts:List Expr} {x1:Nat} {tpos:Pos}
end
end L2
namespace L2
open PySem PySem.Spec PyProof.Rows
section
variable {X:Cx}
end
end L2
namespace L2
open PySem PySem.Spec PyProof.Rows
end L2
namespace L2
open PySem PySem.Spec PyProof.Rows
section
variable {X:Cx}
end
end L2
namespace L2
end L2
namespace L2
theorem an3 {A0 A1 A2:Prop} (h0:A0) (h1:A1) (h2:A2):A0∧A1∧A2:=⟨h0,h1,h2⟩
theorem an4 {A0 A1 A2 A3:Prop} (h0:A0) (h1:A1) (h2:A2) (h3:A3):A0∧A1∧A2∧A3:=⟨h0,h1,h2,h3⟩
theorem an5 {A0 A1 A2 A3 A4:Prop} (h0:A0) (h1:A1) (h2:A2) (h3:A3) (h4:A4):A0∧A1∧A2∧A3∧A4:=⟨h0,h1,h2,h3,h4⟩
theorem an6 {A0 A1 A2 A3 A4 A5:Prop} (h0:A0) (h1:A1) (h2:A2) (h3:A3) (h4:A4) (h5:A5):A0∧A1∧A2∧A3∧A4∧A5:=⟨h0,h1,h2,h3,h4,h5⟩
theorem an7 {A0 A1 A2 A3 A4 A5 A6:Prop} (h0:A0) (h1:A1) (h2:A2) (h3:A3) (h4:A4) (h5:A5) (h6:A6):A0∧A1∧A2∧A3∧A4∧A5∧A6:=⟨h0,h1,h2,h3,h4,h5,h6⟩
theorem an8 {A0 A1 A2 A3 A4 A5 A6 A7:Prop} (h0:A0) (h1:A1) (h2:A2) (h3:A3) (h4:A4) (h5:A5) (h6:A6) (h7:A7):A0∧A1∧A2∧A3∧A4∧A5∧A6∧A7:=⟨h0,h1,h2,h3,h4,h5,h6,h7⟩
theorem an9 {A0 A1 A2 A3 A4 A5 A6 A7 A8:Prop} (h0:A0) (h1:A1) (h2:A2) (h3:A3) (h4:A4) (h5:A5) (h6:A6) (h7:A7) (h8:A8):A0∧A1∧A2∧A3∧A4∧A5∧A6∧A7∧A8:=⟨h0,h1,h2,h3,h4,h5,h6,h7,h8⟩
theorem an10 {A0 A1 A2 A3 A4 A5 A6 A7 A8 A9:Prop} (h0:A0) (h1:A1) (h2:A2) (h3:A3) (h4:A4) (h5:A5) (h6:A6) (h7:A7) (h8:A8) (h9:A9):A0∧A1∧A2∧A3∧A4∧A5∧A6∧A7∧A8∧A9:=⟨h0,h1,h2,h3,h4,h5,h6,h7,h8,h9⟩
theorem an11 {A0 A1 A2 A3 A4 A5 A6 A7 A8 A9 A10:Prop} (h0:A0) (h1:A1) (h2:A2) (h3:A3) (h4:A4) (h5:A5) (h6:A6) (h7:A7) (h8:A8) (h9:A9) (h10:A10):A0∧A1∧A2∧A3∧A4∧A5∧A6∧A7∧A8∧A9∧A10:=⟨h0,h1,h2,h3,h4,h5,h6,h7,h8,h9,h10⟩
theorem an12 {A0 A1 A2 A3 A4 A5 A6 A7 A8 A9 A10 A11:Prop} (h0:A0) (h1:A1) (h2:A2) (h3:A3) (h4:A4) (h5:A5) (h6:A6) (h7:A7) (h8:A8) (h9:A9) (h10:A10) (h11:A11):A0∧A1∧A2∧A3∧A4∧A5∧A6∧A7∧A8∧A9∧A10∧A11:=⟨h0,h1,h2,h3,h4,h5,h6,h7,h8,h9,h10,h11⟩
theorem an13 {A0 A1 A2 A3 A4 A5 A6 A7 A8 A9 A10 A11 A12:Prop} (h0:A0) (h1:A1) (h2:A2) (h3:A3) (h4:A4) (h5:A5) (h6:A6) (h7:A7) (h8:A8) (h9:A9) (h10:A10) (h11:A11) (h12:A12):A0∧A1∧A2∧A3∧A4∧A5∧A6∧A7∧A8∧A9∧A10∧A11∧A12:=⟨h0,h1,h2,h3,h4,h5,h6,h7,h8,h9,h10,h11,h12⟩
theorem an14 {A0 A1 A2 A3 A4 A5 A6 A7 A8 A9 A10 A11 A12 A13:Prop} (h0:A0) (h1:A1) (h2:A2) (h3:A3) (h4:A4) (h5:A5) (h6:A6) (h7:A7) (h8:A8) (h9:A9) (h10:A10) (h11:A11) (h12:A12) (h13:A13):A0∧A1∧A2∧A3∧A4∧A5∧A6∧A7∧A8∧A9∧A10∧A11∧A12∧A13:=⟨h0,h1,h2,h3,h4,h5,h6,h7,h8,h9,h10,h11,h12,h13⟩
theorem an15 {A0 A1 A2 A3 A4 A5 A6 A7 A8 A9 A10 A11 A12 A13 A14:Prop} (h0:A0) (h1:A1) (h2:A2) (h3:A3) (h4:A4) (h5:A5) (h6:A6) (h7:A7) (h8:A8) (h9:A9) (h10:A10) (h11:A11) (h12:A12) (h13:A13) (h14:A14):A0∧A1∧A2∧A3∧A4∧A5∧A6∧A7∧A8∧A9∧A10∧A11∧A12∧A13∧A14:=⟨h0,h1,h2,h3,h4,h5,h6,h7,h8,h9,h10,h11,h12,h13,h14⟩
end L2
namespace L2
open PySem PySem.Spec PyProof.Rows
section
variable {X:Cx}
end
end L2
namespace L2
open PySem PySem.Spec PyProof.Rows
def fB (v:V) (z:Str):Prop:=v=.str z∨∃n:Int,v=.int n∧n.natAbs.log2<1920∧z=Str.ofString (toString n)
theorem zK {X:Cx}:CallR X (.type "str") (fun xs H Q=>∃(v:V) (z:Str),xs=[v]∧fB v z∧Q (.str z) H):=by
 intro pins s σ H xs us Q I r h
 obtain ⟨v,z,rfl,hv,q⟩:=h
 rcases hv with rfl|⟨n,rfl,hl,rfl⟩
 ·obtain ⟨u,rfl,t,rfl⟩:=yQ r
  exact P.str_of_str ⟨.str z,H,I,⟨_,rfl⟩,q⟩
 ·obtain ⟨u,rfl,t,rfl⟩:=yQ r
  exact P.str_of_int hl ⟨.str (Str.ofString (toString n)),H,I.tok _,⟨_,rfl⟩,q⟩
end L2
namespace L2
open PySem PySem.Spec PyProof.Rows
end L2
namespace L2
open PySem PySem.Spec PyProof.Rows
section
variable {prog:Program} {w:World} {A:Around} {E:Value→Shared→Prop} {s:Shared}
theorem iC {R:Result→Shared→Prop} (hh:A.handled=none) {z P1 P2 j1 j2 a b:Addr} {us vs:Array Value} (D:ZipApart z P1 P2 j1 j2 a b) (hn:min us.size vs.size≤sizeLine) (hz:IsZip s.heap z P1 P2 .none)
  (hs:∀N,ZStands s.heap N z P1 P2 j1 j2 a b us vs 0) (q:∀h' acc' c',(∀d o,d∉[z,P2,j1,j2]→s.heap.get? d=some o→h'.get? d=some o)→h'.get? s.heap.objs.size=some {cls:=.type "list",dict:=none,data:=.seq acc' c',slots := #[]}→Pairs h' (s.heap.objs.size+1) us vs acc' (min us.size vs.size)→R (.ok (.ret (.ref s.heap.objs.size))) {s with heap:=h'}) :
  codeAny (model prog w) A (.builtin "proto.collect" ⟨[.ref z],[]⟩) R s:=by
 have lt:∀{c:Addr} {o:Obj},s.heap.get? c=some o→c<s.heap.objs.size:=fun e=>Heap.lt_size e
 obtain ⟨h2,hP1,n1,n2,la,lb⟩:=hs (s.heap.objs.size+1)
 have bz:∀c∈[z,P1,P2,j1,j2,a,b],c<s.heap.objs.size:=by
  have hP2:P2<s.heap.objs.size:=by
   rcases h2 with ⟨_,g,g',h⟩|⟨T,f1,o,h,_⟩
   ·exact lt h
   ·have y:=hz.symm.trans h;cases y
  intro c hc
  simp only [List.mem_cons,List.mem_nil_iff,or_false] at hc
  obtain ⟨_,w1,_⟩:=id n1;obtain ⟨_,w2,_⟩:=id n2;obtain ⟨_,w3,_⟩:=id la;obtain ⟨_,w4,_⟩:=id lb
  rcases hc with rfl|rfl|rfl|rfl|rfl|rfl|rfl
  ·exact lt hz
  ·exact lt hP1
  ·exact hP2
  ·exact lt w1
  ·exact lt w2
  ·exact lt w3
  ·exact lt w4
 refine codeAny_builtin F.entry_proto_collect ?_
 rw [Around.under_plainId F.plain_proto_collect _]
 show wpAny _ A.in1 (newList [] >>= fun l=>again (.builtin "list.__iadd__" ⟨[l,.ref z],[]⟩)) _ _ s
 refine wpAny_bind (wpAny_newObj_type ?_)
 refine wpAny_pure ⟨plainId_quiet F.plain_list_iadd _,codeAny_builtin F.entry_list_iadd ?_⟩
 rw [Around.under_plainId F.plain_list_iadd _]
 have g1:(s.heap.push {cls:=.type "list",data:=.seq ([]:List Value).toArray}).get? s.heap.objs.size=some {cls:=.type "list",data:=.seq #[]}:=Heap.get?_push_size _ rfl
 have kp0:∀d o,s.heap.get? d=some o→(s.heap.push {cls:=.type "list",data:=.seq ([]:List Value).toArray}).get? d=some o:=fun d o e=>Heap.get?_push_of_some _ e
 have nS:∀c∈[z,P1,P2,j1,j2,a,b],c≠s.heap.objs.size:=fun c hc=>Nat.ne_of_lt (bz c hc)
 show wpAny _ A.in1 (Builtin.List.listExtendWith (.ref s.heap.objs.size) (.ref z) (.ref s.heap.objs.size)) _ _ _
 refine iW (R:=R) (A:=A) (s:={s with heap:=s.heap.push {cls:=.type "list",data:=.seq ([]:List Value).toArray}}) (N:=s.heap.objs.size+1) hh D (fun c hc=>?_) nS hn _ _ ?_ (kp0 _ _ hz) ((hs (s.heap.objs.size+1)).keep (Nat.lt_succ_self _) nS fun d o _ e=>kp0 d o e) g1 fun h' acc' c' kp hS' hp=>?_
 ·simp only [List.mem_cons,List.mem_nil_iff,or_false] at hc
  rcases hc with rfl|rfl|rfl|rfl|rfl
  ·exact Nat.lt_succ_of_lt (bz _ (by simp))
  ·exact Nat.lt_succ_of_lt (bz _ (by simp))
  ·exact Nat.lt_succ_of_lt (bz _ (by simp))
  ·exact Nat.lt_succ_of_lt (bz _ (by simp))
  ·exact Nat.lt_succ_self _
 ·show s.heap.objs.size+1≤(s.heap.push _).objs.size
  rw [Heap.size_push];exact Nat.le_refl _
 ·refine q h' acc' c' (fun d o hd e=>kp d o ?_ (kp0 d o e)) hS' hp
  have:=lt e
  simp only [List.mem_cons,List.mem_nil_iff,or_false,not_or] at hd ⊢
  exact ⟨hd.1,hd.2.1,hd.2.2.1,hd.2.2.2,Nat.ne_of_lt this⟩
theorem iT {Q:List Value→Shared→Prop} (hh:A.handled=none) {z P1 P2 j1 j2 a b:Addr} {us vs:Array Value} (D:ZipApart z P1 P2 j1 j2 a b) (hn:min us.size vs.size≤sizeLine) (hz:IsZip s.heap z P1 P2 .none)
  (hs:∀N,ZStands s.heap N z P1 P2 j1 j2 a b us vs 0) (q:∀h' acc',(∀d o,d∉[z,P2,j1,j2]→s.heap.get? d=some o→h'.get? d=some o)→Pairs h' (s.heap.objs.size+1) us vs acc' (min us.size vs.size)→s.heap.objs.size<h'.objs.size→Q acc'.toList {s with heap:=h'}) :
  wpAny (model prog w) A (collect (.ref z)) Q E s:=by
 unfold collect
 refine wpAny_bind (wpAny_runValue (iC hh D hn hz hs fun h' acc' c' kp hS' hp=>?_))
 show wpAny _ A (load s.heap.objs.size >>= _) _ _ _
 refine wpAny_bind (wpAny_load hS' ?_)
 exact wpAny_pure (q h' acc' kp hp (Heap.lt_size hS'))
theorem iG {Q:Value→Shared→Prop} (hh:A.handled=none) {z P1 P2 j1 j2 a b:Addr} {us vs:Array Value} (D:ZipApart z P1 P2 j1 j2 a b) (hn:min us.size vs.size≤sizeLine) (hz:IsZip s.heap z P1 P2 .none)
  (hs:∀N,ZStands s.heap N z P1 P2 j1 j2 a b us vs 0) (q:∀h' acc',(∀d o,d∉[z,P2,j1,j2]→s.heap.get? d=some o→h'.get? d=some o)→Pairs h' (s.heap.objs.size+1) us vs acc' (min us.size vs.size)→s.heap.objs.size<h'.objs.size→Q (.ref h'.objs.size) {s with heap:=h'.push {cls:=.type "tuple",data:=.seq acc'}}) :
  wpAny (model prog w) A (call (.type "tuple") [.ref z]) Q E s:=by
 have hTI:s.TypeIs (.ref z) "zip":=⟨_,hz,rfl⟩
 refine callType_codes (Q₁:=fun obj s₁=>s₁.TypeIs obj "tuple"∧Q obj s₁) F.called_tuple (F.typeCall_tuple_1 _) F.entry_object_init ?_ fun obj s₁ h₁=>⟨h₁.1,F.args_object_init_2 obj _,object_init_meets F.called_tuple.init.lookup F.called_tuple.made (by decide) prog w A.in1 _ s₁ ⟨h₁.1,rfl,h₁.2⟩⟩
 refine codeAny_of_tree ?_
 show wpAny _ A.in1.in1 (do checkBuiltinCall "tuple.__new__" ⟨[.type "tuple",.ref z],[]⟩;again (.builtin "tuple.__new__" ⟨[.type "tuple",.ref z],[]⟩)) _ _ s
 refine wpAny_bind (wpAny_of_eq (F.newCall_tuple_1 _) (wpAny_pure ⟨plainId_quiet F.plain_tuple_new _,codeAny_builtin F.entry_tuple_new ?_⟩))
 rw [Around.under_plainId F.plain_tuple_new _]
 have hsub:=sub_tuple_self
 have hinit:=init_tuple_lookup
 have hmh:=madeHere_tuple
 wp_walk using wpAny_typeOf hTI,iT (by simp [hh]) D hn hz hs
 intro h' acc kp hp hlt
 show wpAny _ _ (Builtin.Tuple.tupleExact acc.toList.toArray >>= fun v=>ret v) _ _ _
 unfold Builtin.Tuple.tupleExact
 refine wpAny_bind (wpAny_newObj_type ?_ (by show acc.toList.toArray.size≤sizeLine;simp only [Array.toArray_toList];rw [hp.1];exact hn))
 refine wpAny_pure ?_
 have e:acc.toList.toArray=acc:=by simp
 rw [e]
 exact ⟨⟨_,Heap.get?_push_size _ rfl,rfl⟩,q h' acc kp hp hlt⟩
end
section
variable {X:Cx}
def nL (K:PySem.W.Frag) (ta:TA):TE:=fun σ H Q=>ta σ H fun vs H1=>∃(a1 a2:Addr) (xs ys:List V),vs=[.ref a1,.ref a2]∧SqL K H1 a1 xs∧SqL K H1 a2 ys∧
 ∀(l:Addr) (ts:List V) (H':Hp),Same H1 H'→H1 l=none→H' l=some (.tup ts)→ts.length=min xs.length ys.length→(∀(i:Nat) (v:V),ts[i]?=some v→∃(T:Addr) (x y:V),v=.ref T∧H' T=some (.tup [x,y])∧xs[i]?=some x∧ys[i]?=some y)→Q (.ref l) H'
open Classical in
theorem lI {a b:Expr} {ta:TA} {p p1 pos pos1:Pos} (hc:X.calm=true) (hgl:Gl X "tuple") (hml:X.mg "tuple"=none) (hg:Gl X "zip") (hm:X.mg "zip"=none) (ha:PA X [a,b] ta) (hs:starEach [a,b] X.env=[(false,eval a X.env),(false,eval b X.env)]:=by rfl) (hs2:starEach [b] X.env=[(false,eval b X.env)]:=by rfl)
  (hs3:starEach [.Call (.Name "zip" p1) [a,b] [] pos1] X.env=[(false,eval (.Call (.Name "zip" p1) [a,b] [] pos1) X.env)]:=by rfl) :
  PE X (.Call (.Name "tuple" p) [.Call (.Name "zip" p1) [a,b] [] pos1] [] pos) (nL X.K ta):=by
 intro pins s σ H Q I h
 refine wpAny_Call_Name_kw (zW I hgl hml PyProof.Rows.boot_tuple ?_)
 refine PyProof.Rows.callWith_type1 ?_ hs3 rfl
 rw [hs3]
 show wpAny _ _ (spliced [(false,eval (.Call (.Name "zip" p1) [a,b] [] pos1) X.env)]) _ _ s
 refine Calls.spliced_cons ?_
 refine Call_ (zW I hg hm boot_zip (PyProof.Rows.callWith_type1 (jD (ha pos1 pins s σ H _ I h) fun us s1 ⟨vs,H1,I1,r1,q1⟩=>?_) (by rw [hs,hs2]) (by rw [hs2];rfl)))
 obtain ⟨a1,a2,xs,ys,e,hq1,hq2,q⟩:=q1
 subst e
 cases r1 with
 |cons r rr =>
  cases rr with
  |cons r' rr =>
   cases rr
   cases r
   cases r'
   obtain ⟨its1,rv1,p1,z1⟩:=I1.list hq1
   obtain ⟨its2,rv2,p2,z2⟩:=I1.list hq2
   have lt1:a1<s1.heap.objs.size:=by obtain ⟨o,e,_⟩:=p1.isList;exact Heap.lt_size e
   have lt2:a2<s1.heap.objs.size:=by obtain ⟨o,e,_⟩:=p2.isList;exact Heap.lt_size e
   refine call_zip_2 p1.isList p2.isList fun h1 hz hTI hTO n1 n2 hsz hk=>?_
   refine Calls.spliced_nil ?_
   have D:ZipApart (s1.heap.objs.size+4) (s1.heap.objs.size+2) (s1.heap.objs.size+3) s1.heap.objs.size (s1.heap.objs.size+1) a1 a2:=by
    constructor<;>(intro e;simp only [Addr] at *;omega)
   have ll1:=rv1.length
   have ll2:=rv2.length
   refine iG (us:=its1.toArray) (vs:=its2.toArray) (I.ok.hd hc) D (by rw [List.size_toArray,List.size_toArray];omega) hz (fun N=>⟨.inl ⟨hz,_,_,hTO⟩,hTI,n1,n2,p1.isList.at fun o e=>hk _ o e,p2.isList.at fun o e=>hk _ o e⟩) fun h2 acc kp hp hlt=>?_
   show EP X pins σ Q (.ref h2.objs.size) {s1 with heap:=h2.push {cls:=.type "tuple",data:=.seq acc}}
   have kall:∀b u,s1.heap.get? b=some u→h2.get? b=some u:=fun b u e=>by
    have hb:b<s1.heap.objs.size:=Heap.lt_size e
    refine kp b u ?_ (hk b u e)
    simp only [List.mem_cons,List.mem_nil_iff,or_false,not_or]
    simp only [Addr] at *
    omega
   have kall3:∀b u,s1.heap.get? b=some u→(h2.push {cls:=.type "tuple",data:=.seq acc}).get? b=some u:=fun b u e=>Heap.get?_push_of_some _ (kall b u e)
   have hmin:min its1.toArray.size its2.toArray.size=min xs.length ys.length:=by rw [List.size_toArray,List.size_toArray,← ll1,← ll2]
   rw [hmin] at hp
   have getV:∀(j:Nat),j<min xs.length ys.length→∃(T:Addr) (u v:Value) (x y:V),acc[j]?=some (.ref T)∧h1.objs.size+1≤T∧T<h2.objs.size∧IsPair h2 T u v∧xs[j]?=some x∧ys[j]?=some y∧RelV x u∧RelV y v:=fun j hj=>by
    have hja:j<acc.size:=by rw [hp.1];exact hj
    obtain ⟨T,u,v,e1,e2,e3,e4,e5,e6⟩:=hp.2.1 j _ (Array.getElem?_eq_getElem hja)
    have hx:xs[j]?=some xs[j]:=List.getElem?_eq_getElem (by omega)
    have hy:ys[j]?=some ys[j]:=List.getElem?_eq_getElem (by omega)
    obtain ⟨u',hu',ru⟩:=rv1.get hx
    obtain ⟨v',hv',rv⟩:=rv2.get hy
    have e5':its1[j]?=some u:=by simpa using e5
    have e6':its2[j]?=some v:=by simpa using e6
    obtain rfl:u'=u:=Option.some.inj (hu'.symm.trans e5')
    obtain rfl:v'=v:=Option.some.inj (hv'.symm.trans e6')
    exact ⟨T,u',v',_,_,by rw [Array.getElem?_eq_getElem hja,e1],e2,e3,e4,hx,hy,ru,rv⟩
   let cell:Nat→HO:=fun j=>.tup [xs.getD j .non,ys.getD j .non]
   let ts:List V:=acc.toList.map fun v=>match v with|.ref T=>.ref T|_=>.non
   let H2:Hp:=fun c=>if c=h2.objs.size then some (.tup ts) else if e:∃j:Nat,acc[j]?=some (.ref c) then some (cell (Classical.choose e)) else H1 c
   have hS2:H2 h2.objs.size=some (.tup ts):=if_pos rfl
   have hT2:∀(j:Nat) (T:Addr),acc[j]?=some (.ref T)→T<h2.objs.size→H2 T=some (cell j):=fun j T e hT=>by
    have hx:∃j:Nat,acc[j]?=some (.ref T):=⟨j,e⟩
    show (if T=h2.objs.size then _ else if e:∃j:Nat,acc[j]?=some (.ref T) then some (cell (Classical.choose e)) else H1 T)=_
    rw [if_neg (Nat.ne_of_lt hT),dif_pos hx,hp.2.2 _ _ _ (Classical.choose_spec hx) e]
   have hle:s1.heap.objs.size≤h1.objs.size:=by rw [hsz];exact Nat.le_add_right _ _
   have hle2:s1.heap.objs.size≤h2.objs.size:=Nat.le_trans hle (Nat.le_of_lt hlt)
   have hsame:Same H1 H2:=fun c o e=>by
    have n1':c≠h2.objs.size:=v0 e (I1.hok.fresh hle2)
    have n2':¬∃j:Nat,acc[j]?=some (.ref c):=fun ⟨j,ej⟩=>by
     obtain ⟨T,_,_,e1,e2,_⟩:=hp.2.1 j _ ej
     cases e1
     have:H1 c=none:=I1.hok.fresh (Nat.le_trans hle (Nat.le_of_succ_le e2))
     rw [this] at e;cases e
    show (if c=h2.objs.size then _ else if e:∃j:Nat,acc[j]?=some (.ref c) then some (cell (Classical.choose e)) else H1 c)=_
    rw [if_neg n1',dif_neg n2'];exact e
   have hts:ts.length=min xs.length ys.length:=by show (acc.toList.map _).length=_;rw [List.length_map,Array.length_toList,hp.1]
   have hvals:Vals ts acc.toList:=by
    have key:∀l:List Value,(∀v∈l,∃T,v=.ref T)→Vals (l.map fun v=>match v with|.ref T=>V.ref T|_=>.non) l:=fun l=>by
     induction l with
     |nil=>intro _;exact .nil
     |cons v l ih =>
      intro hl
      obtain ⟨T,rfl⟩:=hl v List.mem_cons_self
      exact .cons rfl (ih fun u hu=>hl u (List.mem_cons_of_mem _ hu))
    refine key _ fun v hv=>?_
    obtain ⟨j,hj⟩:=List.mem_iff_getElem?.mp hv
    rw [Array.getElem?_toList] at hj
    obtain ⟨T,_,_,e1,_⟩:=hp.2.1 j v hj
    exact ⟨T,e1⟩
   have hzl:min xs.length ys.length≤sizeLine:=by omega
   refine ⟨.ref h2.objs.size,H2,I1.laidAll (t':=s1.toks) kall3 hsame fun d o e=>?_,rfl,?_⟩
   ·by_cases c1:d=h2.objs.size
    ·subst c1
     rw [hS2] at e
     cases e
     exact .inr ⟨hle2,by rw [hts];exact hzl,acc.toList,hvals,⟨_,Heap.get?_push_size _ rfl,rfl,0,by rw [Array.toArray_toList]⟩⟩
    ·by_cases c2:∃j:Nat,acc[j]?=some (.ref d)
     ·obtain ⟨j,ej⟩:=c2
      have hj:j<min xs.length ys.length:=by rw [← hp.1];exact (Array.getElem?_eq_some_iff.mp ej).1
      obtain ⟨T,u,v,x,y,e1,e2,e0,e3,e4,e5,ru,rv⟩:=getV j hj
      obtain rfl:d=T:=by have:=ej.symm.trans e1;cases this;rfl
      rw [hT2 j d ej e0] at e
      cases e
      refine .inr ⟨Nat.le_trans hle (Nat.le_of_succ_le e2),(by show 2≤sizeLine;decide),[u,v],?_,⟨_,Heap.get?_push_of_some _ e3,rfl,_,rfl⟩⟩
      rw [show xs.getD j .non=x by rw [List.getD_eq_getElem?_getD,e4];rfl,show ys.getD j .non=y by rw [List.getD_eq_getElem?_getD,e5];rfl]
      exact .cons ru (.cons rv .nil)
     ·refine .inl ?_
      have e':(if d=h2.objs.size then some (HO.tup ts) else if e:∃j:Nat,acc[j]?=some (.ref d) then some (cell (Classical.choose e)) else H1 d)=some o:=e
      rw [if_neg c1,dif_neg c2] at e'
      exact e'
   ·refine q _ ts H2 hsame (I1.hok.fresh hle2) hS2 hts fun i v hv=>?_
    have hi:i<min xs.length ys.length:=by rw [← hts];exact (List.getElem?_eq_some_iff.mp hv).1
    obtain ⟨T,u,w',x,y,e1,e2,e0,e3,e4,e5,_⟩:=getV i hi
    have hv':(acc.toList.map fun v=>match v with|.ref T=>V.ref T|_=>.non)[i]?=some v:=hv
    rw [List.getElem?_map,Array.getElem?_toList,e1] at hv'
    cases hv'
    refine ⟨T,x,y,rfl,?_,e4,e5⟩
    rw [hT2 i T e1 e0]
    show some (HO.tup [xs.getD i .non,ys.getD i .non])=_
    rw [List.getD_eq_getElem?_getD,e4,List.getD_eq_getElem?_getD,e5]
    rfl
end
end L2
namespace L2
open PySem PySem.Spec PyProof.Rows
section
variable {X:Cx} {pins:List (Addr×Obj)} {σ:St} {H:Hp} {s:Shared} {a:Addr} {y d:V} {u r:Value} {o:Option V} {A:Around} {E:Value→Shared→Prop}
end
section
variable {X:Cx} {o e f:Expr} {apos cpos:Pos} {td ty tx:TE}
end
end L2
namespace L2
open PySem PySem.Spec PyProof.Rows
end L2
namespace L2
open PySem PySem.Spec PyProof.Rows
section
variable {M:Model} {A:Around} {E:Value→Shared→Prop} {s:Shared}
theorem mZ {B:Heap} {env:Env} {outer:List Env} {L e:Addr} {cls a0 fl:Value} {Q:Unit→Shared→Prop} (hfr:A.frames=some (env::outer)) (hl:s.heap.FunFrames B (env::outer)) (hf:env.frame=some L) (ht:s.heap.TracedAtW B e cls a0 fl) (hn:fl≠rawInt L) (hb:B.StaysIn s.heap) (he0:B.get? e=none)
  (q:∀h',Heap.NotedW B (env::outer) e cls a0 (rawInt L) s.heap h'→Q () {s with heap:=h'}):wpAny M A (noteFrame (.ref e) env) Q E s:=by
 obtain ⟨oe,vs,T,oT,ts,he,⟨rfl,h0⟩,hd,h1,nT,nTe,hT,dT,h3⟩:=ht
 unfold noteFrame
 simp only [hf]
 refine wpAny_bind (wpAny_field he hd h1 ?_)
 rw [if_pos (show (Value.ref T != Value.none)=true from by simp)]
 refine wpAny_bind (wpAny_field hT dT h3 ?_)
 rw [if_neg (show ¬((fl == rawInt L)=true) from fun z=>hn (eq_of_beq z))]
 refine wpAny_bind (wpAny_setField hT dT (Array.getElem?_eq_some_iff.mp h3).1 ?_)
 have oth:∀b,b≠T→(s.heap.update T (Obj.mapFields (·.setIfInBounds 3 Value.none))).get? b=s.heap.get? b:=fun b nb=>Heap.get?_update_other _ _ (Ne.symm nb)
 have nrec:∀b o,s.heap.get? b=some o→(∀vs,o.data≠.fields vs)→b≠T:=fun b o hbo nf z=>by rw [z,hT] at hbo;cases hbo;exact nf ts dT
 refine wpAny_entryW hfr (hl.of_keeps fun b o hbo nf=>⟨o,(oth b (nrec b o hbo nf)).trans hbo,rfl⟩) hf ((oth e (Ne.symm nTe)).trans he) (fun b o hbo=>(oth b fun z=>by rw [z,nT] at hbo;cases hbo).trans (hb b o hbo)) he0 hd (Array.getElem?_eq_some_iff.mp h1).1 h0 fun h' y=>?_
 obtain ⟨y1,y2,y3,y4⟩:=y
 exact q h' ⟨y1,y2,y3,fun b o hbo nf=>y4 b o ((oth b (nrec b o hbo nf)).trans hbo) nf⟩
theorem i6 {B:Heap} {env:Env} {outer:List Env} {L e:Addr} {cls a0 fl:Value} {Q:Unit→Shared→Prop} (hfr:A.frames=some (env::outer)) (hl:s.heap.FunFrames B (env::outer)) (hf:env.frame=some L) (ht:s.heap.TracedAtW B e cls a0 fl) (hb:B.StaysIn s.heap) (he0:B.get? e=none)
  (q:∀h',Heap.FlyingW B outer e cls a0 h'→s.heap.UpToSlots h'→Q () {s with heap:=h'}):wpAny M A (leaving env (.ref e)) Q E s:=by
 have fin:∀h2,Heap.HeldW B (env::outer) e cls a0 L h2→s.heap.UpToSlots h2→wpAny M A (setFlight (.ref e) none) Q E {s with heap:=h2}:=fun h2 hh up=>by
  refine wpAny_landsW (s:={s with heap:=h2}) hh fun h' fly up'=>q h' ?_ (up.trans up')
  obtain ⟨k1,k2,⟨_,_,k3⟩,k4⟩:=fly
  exact ⟨k1,k2,k3,k4⟩
 unfold leaving
 by_cases hn:fl=rawInt L
 ·subst hn
  exact wpAny_bind (wpAny_noteFrame_againW hf ht (fin s.heap ⟨hb,he0,hl,ht⟩ (Heap.UpToSlots.refl _)))
 ·refine wpAny_bind (mZ hfr hl hf ht hn hb he0 fun h2 y=>?_)
  obtain ⟨y1,y2,y3,y4⟩:=y
  exact fin h2 ⟨y1,he0,y2,y3⟩ y4
end
theorem lO {B B':Heap} (k:∀b o,B'.get? b=some o→B.get? b=some o) {b:Addr} (hn:B.get? b=none):B'.get? b=none:=by
 cases r:B'.get? b with
 |none=>rfl
 |some v=>rw [k b v r] at hn;cases hn
theorem bP {h B B':Heap} (k:∀b o,B'.get? b=some o→B.get? b=some o):∀{l:List Env},h.FunFrames B l→h.FunFrames B' l
 |[],_=>trivial
 |_::_,⟨hk,⟨L,o,hf,hn,ho,hd⟩,hr⟩=>⟨hk,⟨L,o,hf,lO k hn,ho,hd⟩,bP k hr⟩
def JK (X:Cx) (N:List Str) (scope:Scope) (C:Addr) (s:Shared) (H:Hp) (pins:List (Addr×Obj)) (fp:List Addr) (RX:Value→Hp→Prop):Value→Shared→Prop:=fun e s'=>∃pins₁ σ₁ H₁ s₁,Inv (jQ X N scope C s H pins fp) pins₁ σ₁ H₁ s₁∧jL X.prog X.w X.stack H₁ s₁ (fun c _ H'=>RX c H') e s'
theorem cA {X:Cx} {N:List Str} {scope:Scope} {C:Addr} {s:Shared} {H:Hp} {pins:List (Addr×Obj)} {fp:List Addr} {RX:Value→Hp→Prop}:QN ((jQ X N scope C s H pins fp).wish (JK X N scope C s H pins fp RX)) (fun _ c H'=>RX c H') :=
 fun pins₁ σ₁ H₁ s₁ _ _ I hx=>⟨pins₁,σ₁,H₁,s₁,I.unwish,hx⟩
section
variable {P:Program} {w:World} {K:PySem.W.Frag} {mg:Str→Option Value} {base:Heap} {N:List Str} {qual:Str} {scope:Scope} {f:Addr} {cd:Value} {A:Around} {outer:List Env} {s:Shared} {H:Hp} {E:XK}
theorem nH {Nc:List Str} {sc:Scope} {pins:List (Addr×Obj)} {σ:St} {H2:Hp} {s2:Shared} {fp:List Addr} {C:Addr} {e acc:Value} {s':Shared} {use:Option (Value→Sem Unit)} {Q:Value→Shared→Prop} {E':Value→Shared→Prop}
  (I2:Inv (j4 (jL P w) P w K mg base N qual scope f cd A outer s H E) pins σ H2 s2) (f2:∀b∈fp,qJ (j4 (jL P w) P w K mg base N qual scope f cd A outer s H E) pins H2 b) (hC:s2.heap.objs.size≤C)
  (hx:JK (j4 (jL P w) P w K mg base N qual scope f cd A outer s H E) Nc sc C s2 H2 pins fp (fun c H'=>E c none H') e s') (cells:List (Str×Addr)) :
  wpAny (model P w) (A.deeper (envOfC qual scope s.heap.objs.size f cd)) (noteFrame e (compEnvC sc cells C (envOfC qual scope s.heap.objs.size f cd)))
   (fun _ s''=>compPost (model P w) (A.deeper (envOfC qual scope s.heap.objs.size f cd)) (j4 (jL P w) P w K mg base N qual scope f cd A outer s H E).xe use Q acc C (.error e) s'') E' s':=by
 obtain ⟨pins₁,σ₁,H₁,s₁,Ic,a,Cc,H3,rfl,os,bare,un,hok,⟨B,a0,fl,ground⟩,ha,hs1,q⟩:=hx
 have J1:Inv (jQ (j4 (jL P w) P w K mg base N qual scope f cd A outer s H E) Nc sc C s2 H2 pins fp) pins₁ σ₁ H3 s':=Ic.call' (ch:=[]) os un hok bare fun b z=>absurd z (by simp)
 have J0:=J1.pins_of (pins':=[]) fun p hp=>nomatch hp
 have JX:Inv (j4 (jL P w) P w K mg base N qual scope f cd A outer s H E) pins σ H3 s':=J4 (σ':=σ) I2 f2 J0
 have fl':Heap.FlyingW B (envOfC qual scope s.heap.objs.size f cd::outer) a (.ref Cc) a0 s'.heap:=fl
 have hfs:jJ (envOfC qual scope s.heap.objs.size f cd::outer)=s.heap.objs.size::jJ outer:=rfl
 have hst2:s2.heap.FunFrames base (envOfC qual scope s.heap.objs.size f cd::outer):=I2.stack
 have hst:s'.heap.FunFrames base (envOfC qual scope s.heap.objs.size f cd::outer):=JX.stack
 have ub:Un (jJ outer) [] H H3 s.heap s'.heap:=JX.base
 have u2:Un (jJ outer) [] H H2 s.heap s2.heap:=I2.base
 have uc:Un (jJ (envOfC qual scope s.heap.objs.size f cd::outer)) fp H2 H₁ s2.heap s₁.heap:=Ic.base
 have nfC:C∉jJ (envOfC qual scope s.heap.objs.size f cd::outer):=fun z=>by
  obtain ⟨_,o,ho,_⟩:=hst2.mem z
  exact absurd (Heap.lt_size ho) (Nat.not_lt_of_le hC)
 have old:∀b,(∃o',s.heap.get? b=some o')→b∉jJ outer→b∉jJ (envOfC qual scope s.heap.objs.size f cd::outer):=fun b ⟨o',z⟩ n y=>by
  rw [hfs] at y
  rcases List.mem_cons.mp y with y|y
  ·exact absurd (Heap.lt_size z) (by rw [y];exact Nat.lt_irrefl _)
  ·exact n y
 have qK:∀b,H3 b≠none→b∉jJ (envOfC qual scope s.heap.objs.size f cd::outer):=fun b hb z=>hb (JX.stkFree b z)
 have nfp:∀b,(∃o',s.heap.get? b=some o')→b∉fp:=fun b ⟨o',z⟩ y=>by
  obtain ⟨_,_,_,h4,_⟩:=f2 b y
  rcases h4 with h4|h4
  ·cases h4
  ·exact absurd (Heap.lt_size z) (Nat.not_lt_of_le h4)
 have in1:∀b,(∃o',s.heap.get? b=some o')→∃o',s₁.heap.get? b=some o':=fun b z=>by
  obtain ⟨o',z'⟩:=z
  obtain ⟨o2,h2⟩:=u2.there b o' z' (by simp)
  exact uc.there b o2 h2 (nfp b ⟨o',z'⟩)
 have ltC:∀b,(∃o',s.heap.get? b=some o')→b≠C:=fun b z y=>by
  obtain ⟨o',z'⟩:=z
  obtain ⟨o2,h2⟩:=u2.there b o' z' (by simp)
  exact absurd (Heap.lt_size h2) (Nat.not_lt_of_le (by rw [y];exact hC))
 obtain ⟨m,hns,_⟩:=J0.loc
 have hns':s'.heap.Ns C m:=hns
 have hBC:∃o,B.get? C=some o:=by
  obtain ⟨m1,hn1,_⟩:=Ic.loc
  obtain ⟨o1,_,_,ho1,_⟩:=(show s₁.heap.Ns C m1 from hn1)
  obtain ⟨o2,_,_,ho2,_⟩:=hns'
  exact ⟨o2,ground C o2 ho2 nfC (.inr ⟨o1,ho1⟩)⟩
 obtain ⟨oC,hBC⟩:=hBC
 have h3C:H3 C=none:=J1.free
 have leB:∀b o,(PySem.W.hideAll B [C]).get? b=some o→B.get? b=some o:=fun b o z=>PySem.W.of_hideAll _ z
 have inB:∀b o,b≠C→B.get? b=some o→(PySem.W.hideAll B [C]).get? b=some o:=fun b o n z=>PySem.W.hideAll_get _ z fun y=>n (List.mem_singleton.mp y)
 have noB:∀b,B.get? b=none→(PySem.W.hideAll B [C]).get? b=none:=fun b z=>by
  cases r:(PySem.W.hideAll B [C]).get? b with
  |none=>rfl
  |some v=>rw [leB b v r] at z;cases z
 show wpAny (model P w) (A.deeper (envOfC qual scope s.heap.objs.size f cd)) (noteFrame (.ref a) (envOfC qual scope s.heap.objs.size f cd)) _ _ s'
 refine wpAny_looks_onW J1.ok.frames rfl fl' fun h4 held up=>?_
 obtain ⟨k1,k2,k3,oe,vs,T,oT,ts,he,hcl,hd,h1,nT,nTe,hT,dT,h3⟩:=held
 refine ⟨m,up.ns hns',fun h5 sb cenv _=>?_⟩
 have naC:a≠C:=fun z=>by rw [z,hBC] at k2;cases k2
 have nTC:T≠C:=fun z=>by rw [z,hBC] at nT;cases nT
 have he5:h5.get? a=some oe:=(sb.2 a naC).trans he
 have hT5:h5.get? T=some oT:=(sb.2 T nTC).trans hT
 unfold PySem.passOn
 refine wpAny_bind (wpAny_field he5 hd h1 ?_)
 rw [if_neg (by simp)]
 unfold setFlight
 refine wpAny_bind (wpAny_bind (wpAny_field he5 hd h1 ?_))
 rw [if_pos (by simp)]
 have hz3:3<ts.size:=(Array.getElem?_eq_some_iff.mp h3).1
 refine wpAny_setField hT5 dT hz3 (wpAny_throw ?_)
 generalize hfv:(cenv.frame.elim Value.none fun f=>rawInt f)=fv
 have oth:∀b,b≠T→(h5.update T (Obj.mapFields (·.setIfInBounds 3 fv))).get? b=h5.get? b:=fun b nb=>Heap.get?_update_other _ _ (Ne.symm nb)
 have hT6:=Heap.get?_update_self (Obj.mapFields (·.setIfInBounds 3 fv)) hT5 (Obj.isFreed_of_fields (Obj.data_mapFields dT _))
 have tr6:(h5.update T (Obj.mapFields (·.setIfInBounds 3 fv))).TracedAtW (PySem.W.hideAll B [C]) a (.ref Cc) a0 fv:=⟨oe,vs,T,_,_,(oth a (Ne.symm nTe)).trans he5,hcl,hd,h1,noB T nT,nTe,hT6,Obj.data_mapFields dT _,by simp [hz3]⟩
 have keepB:(PySem.W.hideAll B [C]).StaysIn (h5.update T (Obj.mapFields (·.setIfInBounds 3 fv))):=fun b o z=>by
  have zb:=leB b o z
  have nb:b≠C:=fun y=>by rw [y,PySem.W.hideAll_none [C] List.mem_cons_self] at z;cases z
  have nt:b≠T:=fun y=>by rw [y,nT] at zb;cases zb
  rw [oth b nt,sb.2 b nb]
  exact k1 b o zb
 have upto:∀b o,b≠C→h4.get? b=some o→(∀vs,o.data≠.fields vs)→(h5.update T (Obj.mapFields (·.setIfInBounds 3 fv))).get? b=some o:=fun b o nb z nf=>by
  have nt:b≠T:=fun y=>by rw [y,hT] at z;cases z;exact nf ts dT
  rw [oth b nt,sb.2 b nb];exact z
 have fr6:(h5.update T (Obj.mapFields (·.setIfInBounds 3 fv))).FunFrames (PySem.W.hideAll B [C]) (envOfC qual scope s.heap.objs.size f cd::outer):=by
  have hk3:=bP leB k3
  clear tr6 keepB
  revert hk3
  generalize envOfC qual scope s.heap.objs.size f cd::outer=l at nfC
  intro hk3
  induction l with
  |nil=>trivial
  |cons env rest ih =>
   obtain ⟨g1,⟨L,o,g2,g3,g4,g5⟩,g6⟩:=hk3
   have hm:L∈jJ (env::rest):=List.mem_filterMap.mpr ⟨env,List.mem_cons_self,g2⟩
   refine ⟨g1,⟨L,o,g2,g3,upto L o (fun y=>nfC (by rw [← y];exact hm)) g4 g5,g5⟩,ih (fun z=>nfC ?_) g6⟩
   obtain ⟨en,hen,hf⟩:=List.mem_filterMap.mp z
   exact List.mem_filterMap.mpr ⟨en,List.mem_cons_of_mem _ hen,hf⟩
 show wpAny (model P w) (A.deeper (envOfC qual scope s.heap.objs.size f cd)) (leaving (envOfC qual scope s.heap.objs.size f cd) (.ref a)) (fun _ s''=>jL P w outer H s E (.ref a) s'') (fun e' s''=>jL P w outer H s E e' s'') _
 refine i6 (B:=PySem.W.hideAll B [C]) JX.ok.frames fr6 rfl tr6 keepB (noB a k2) fun h7 fly up7=>?_
 have g7:∀b o,s'.heap.get? b=some o→b∉jJ (envOfC qual scope s.heap.objs.size f cd::outer)→b≠C→(H3 b≠none∨∃o',s₁.heap.get? b=some o')→(PySem.W.hideAll B [C]).get? b=some o:=fun b o z n nb y=>inB b o nb (ground b o z n y)
 refine ⟨a,Cc,H3,rfl,JX.os,JX.bare,ub.go (fun b o z n _ y=>fly.1 b o (g7 b o z (old b y n) (ltC b y) (.inr (in1 b y)))) (fun b o z n _=>?_),JX.hok.keepT fun b u hb z=>fly.1 b u (g7 b u z (qK b hb) (fun y=>hb (by rw [y];exact h3C)) (.inl hb)),?_,ha,?_,q⟩
 ·have hm:b∈jJ (envOfC qual scope s.heap.objs.size f cd::outer):=by rw [hfs];exact List.mem_cons_of_mem _ n
  obtain ⟨_,o',ho',hdd⟩:=hst.mem hm
  rw [z] at ho';cases ho'
  obtain ⟨sl,e4⟩:=up b o z hdd
  have e6:=upto b _ (fun y=>nfC (by rw [← y];exact hm)) e4 hdd
  obtain ⟨sl2,e7⟩:=up7 b _ e6 hdd
  exact ⟨sl2,e7⟩
 ·refine ⟨_,a0,fly,fun b o z n y=>?_⟩
  have hn:b∉jJ (envOfC qual scope s.heap.objs.size f cd::outer):=by
   rcases y with y|y
   ·exact qK b y
   ·exact old b y n
  have nb:b≠C:=by
   rcases y with y|y
   ·exact fun v=>y (by rw [v];exact h3C)
   ·exact ltC b y
  have h1':∃u,s'.heap.get? b=some u:=by
   rcases y with y|⟨o',y⟩
   ·cases r:H3 b with
    |none=>exact absurd r y
    |some v=>exact JX.hok.there r
   ·exact ub.there b o' y (by simp)
  obtain ⟨u,hu⟩:=h1'
  have hB:=g7 b u hu hn nb (by
   rcases y with y|y
   ·exact .inl y
   ·exact .inr (in1 b y))
  have:=fly.1 b u hB
  have z':h7.get? b=some o:=z
  rw [z'] at this
  cases this
  exact hB
 ·cases r:s.heap.get? a with
  |none=>rfl
  |some v =>
   obtain ⟨u,hu⟩:=in1 a ⟨v,r⟩
   rw [hs1] at hu;cases hu
end
theorem i9 {prog:Program} {w:World} {A:Around} {elt target iter:Expr} {ifs:List Expr} {scope:Scope} {pos:Pos} {it acc:Value} {env:Env} {R:Result→Shared→Prop} {s:Shared} (I:Nat→Shared→Prop)
  (turn:∀n s,I n s→wpAny (model prog w) A (pyNext it) (fun r s₁=>match r with
   |none=>R (.ok .next) s₁
   |some v=>wpAny (model prog w) A (letOwnedTupleGo target it v) (fun _ s₁'=>wpAny (model prog w) A (assign target env v) (fun _ s₂ =>
     wpAny (model prog w) A (forIn ifs true fun c r=>if r=true then do let ok ← isTrue c env (eval c env);pure (ForInStep.yield ok) else pure (ForInStep.yield r)) (fun ok s₃ =>
      if ok=true then wpAny (model prog w) A (eval elt env) (fun x s₄ =>
       wpAny (model prog w) A (call (.builtin "list.append") [acc,x]) (fun _ s₅=>∃m,m<n∧I m s₅) (fun _ _=>False) s₄) (notedBy (model prog w) A env fun e s'=>R (.error e) s') s₃
      else ∃m,m<n∧I m s₃) (fun _ _=>False) s₂) (fun _ _=>False) s₁') (fun _ _=>False) s₁) (fun _ _=>False) s)
  (n:Nat) (h:I n s):codeAny (model prog w) A (.compLoop (.ListComp elt [⟨target,iter,ifs,0⟩] scope pos) 0 it acc env) R s:=by
 refine codeAny_loop rfl I (fun n s hI=>?_) n h
 show wpAny _ A ((compTurn (.ListComp elt [⟨target,iter,ifs,0⟩] scope pos) 0 it acc env).onRaise (fun x=>do noteFrame x env;theTreesLotGoes x)) _ _ s
 refine wpAny_noted ?_
 rw [compTurn_list]
 refine wpAny_bind (wpAny_standAt (wpAny_bind (wpAny_mono (turn n s hI) (fun r s₁ h₁=>?_) fun _ _ h'=>h'.elim)))
 cases r with
 |none=>exact wpAny_pure h₁
 |some v =>
  refine wpAny_bind (wpAny_mono h₁ (fun _ s₁' h₁'=>?_) fun _ _ h'=>h'.elim)
  refine wpAny_bind (wpAny_mono h₁' (fun _ s₂ h₂=>wpAny_bind (wpAny_mono h₂ (fun ok s₃ h₃=>?_) fun _ _ h'=>h'.elim)) fun _ _ h'=>h'.elim)
  cases ok with
  |false=>exact wpAny_pure ⟨rfl,h₃⟩
  |true =>
   exact wpAny_bind (wpAny_bind (wpAny_mono h₃ (fun x s₄ h₄=>wpAny_bind (wpAny_mono h₄ (fun _ s₅ h₅=>wpAny_pure (wpAny_pure ⟨rfl,h₅⟩)) fun _ _ h'=>h'.elim)) fun _ _ h'=>h'))
section
variable {X:Cx} {N:List Str} {scope:Scope} {pins:List (Addr×Obj)} {σ:St} {H:Hp} {s:Shared} {fp:List Addr}
theorem mF {tg iter elt:Expr} {ifs:List Expr} {pos:Pos} {cap:St→St} {g:TG} {tc:TT} {te:TE} {J:It} {it:Addr} {tn:Nat→Heap→Prop} {Q:Addr→Hp→Prop} {RR:Value→Addr→Result→Shared→Prop} {RX:Value→Hp→Prop}
  (hcalm:X.calm=true) (S:CompScope X scope) (hcap:v6 X N scope cap) (I:Inv X pins σ H s) (T:Turn X.prog X.w X.K tg J fp it tn) (st:tn 0 s.heap) (hf:∀b∈fp,qJ X pins H b)
  (hg:∀C,PG (jQ X N scope C s H pins fp) tg g) (hc:∀C,yV (jQ X N scope C s H pins fp) ifs tc) (he:∀C,PE ((jQ X N scope C s H pins fp).wish (JK X N scope C s H pins fp RX)) elt te)
  (hq:∀D,H D=none→vG D J g tc te (cap σ) H (Q D))
  (hRR:∀D C σc H' s',s.heap.objs.size≤C→Inv (jQ X N scope C s H pins fp) [] σc H' s'→Q D H'→RR (.ref D) C (.ok .next) s')
  (hRE:∀D C e s',s.heap.objs.size≤C→JK X N scope C s H pins fp RX e s'→wpAny (model X.prog X.w) X.A (noteFrame e (compEnvC scope (kN X.env.cells scope.names []) C X.env)) (fun _ s''=>RR (.ref D) C (.error e) s'') (fun e' s''=>RR (.ref D) C (.error e') s'') s') :
  wpAny (model X.prog X.w) X.A (newList []) (fun acc s₃=>wpAny (model X.prog X.w) X.A (newFunctionEnv scope X.env.globals (kN X.env.cells scope.names []) [] X.env.qual none .none (some X.env)) (fun cenv s₄ =>
   codeAny (model X.prog X.w) X.A (.compStart (.ListComp elt [⟨tg,iter,ifs,0⟩] scope pos) 0 (.ref it) acc {cenv with scope:=relabel scope X.env}) (RR acc cenv.locals) s₄) X.xe s₃) X.xe s:=by
 refine wpAny_newObj_type (wpAny_newFunctionEnv S.nocell (by intro y hy;simp at hy) (fun h₁ hns₁ hsb₁=>?_) S.kind)
 dsimp only at hns₁ hsb₁ ⊢
 generalize hH2:s.heap.push {cls:=.type "list",dict:=none,data:=.seq ([]:List Value).toArray}=H2 at hns₁ hsb₁ ⊢
 have hC:H2.objs.size=s.heap.objs.size+1:=by rw [← hH2,Heap.size_push]
 have hDC:s.heap.objs.size≠H2.objs.size:=by rw [hC];exact Nat.ne_of_lt (Nat.lt_succ_self _)
 have hCle:s.heap.objs.size≤H2.objs.size:=by rw [hC];exact Nat.le_succ _
 have below:∀b,b<s.heap.objs.size→b≠H2.objs.size:=fun b hb=>by rw [hC];exact Nat.ne_of_lt (Nat.lt_succ_of_lt hb)
 have old:∀b o,s.heap.get? b=some o→h₁.get? b=some o:=fun b o e=>hsb₁.extBut b o (below b (Heap.lt_size e)) (Heap.get?_push_of_some _ (hH2▸Heap.get?_push_of_some _ e))
 have hacc:h₁.get? s.heap.objs.size=some {cls:=.type "list",data:=.seq ([]:List Value).toArray}:=hsb₁.extBut _ _ hDC (Heap.get?_push_of_some _ (hH2▸Heap.get?_push_size _ rfl))
 have obj0:=T.obj 0 s.heap st
 have I1:∀t',Inv (jQ X N scope H2.objs.size s H pins fp) [] (cap σ) (upd H s.heap.objs.size (.lst [])) {s with heap:=h₁,toks:=t'}:=fun t' =>
  dS S I hcap hf (fun b hb=>let ⟨o,e,_⟩:=obj0 b hb;⟨o,e⟩) (Nat.le_refl _) hCle hDC old hns₁ hacc
 have st1:tn 0 h₁:=T.keep 0 s.heap h₁ st fun b _ o e=>old b o e
 have stat:∀{H':Hp},(∀b∈fp,H' b=none)→∀b∈fp,qJ (jQ X N scope H2.objs.size s H pins fp) [] H' b:=fun hn b hb=>by
  obtain ⟨_,h2,h3,h4,h5,h6⟩:=hf b hb
  obtain ⟨o,ho,_⟩:=obj0 b hb
  refine ⟨hn b hb,below b (Heap.lt_size ho),?_,.inl hb,fun x c e=>h5 x c (z9 (zH S I) (fun y d q=>by simp at q) e),fun p hp=>?_⟩
  ·intro z
   rcases List.mem_cons.mp (I.stkSub b z) with e|e
   ·exact h2 e
   ·exact h3 e
  ·rcases List.mem_append.mp hp with z|z
   ·exact h6 p z
   ·cases z
 have fr1:∀b∈fp,upd H s.heap.objs.size (.lst []) b=none:=fun b hb=>by
  obtain ⟨o,ho,_⟩:=obj0 b hb
  rw [j7 (Nat.ne_of_lt (Heap.lt_size ho))]
  exact (hf b hb).1
 obtain ⟨W,⟨m0,w0⟩,turn⟩:=hq s.heap.objs.size (I.hok.fresh (Nat.le_refl _))
 have loop:∀s₃:Shared,s₃={s with heap:=h₁,toks:=s.toks+([]:List (Str×Value)).length}→
   codeAny (model X.prog X.w) X.A (.compLoop (.ListComp elt [⟨tg,iter,ifs,0⟩] scope pos) 0 (.ref it) (.ref s.heap.objs.size) (compEnvC scope (kN X.env.cells scope.names []) H2.objs.size X.env))
    (RR (.ref s.heap.objs.size) H2.objs.size) s₃:=by
  rintro s₃ rfl
  refine i9 (fun n s'=>∃i σ' H',Inv (jQ X N scope H2.objs.size s H pins fp) [] σ' H' s'∧tn i s'.heap∧(∀b∈fp,H' b=none)∧W i n σ' H') ?_ m0 ⟨0,cap σ,_,I1 _,st1,fr1,w0⟩
  rintro n s3 ⟨i,σ3,H3,I3,st3,fr3,w3⟩
  rcases turn i n σ3 H3 w3 with ⟨stop,qn⟩|⟨go,Nn,hN,step⟩
  ·refine jD (T.done (jQ X N scope H2.objs.size s H pins fp) rfl rfl rfl hcalm i [] s3 σ3 H3 (fun _ _=>False) I3 (stat fr3) st3 stop) fun r s4 ⟨hr,I4⟩=>?_
   subst hr
   exact hRR _ _ σ3 H3 s4 hCle I4 qn
  ·refine jD (T.item (jQ X N scope H2.objs.size s H pins fp) rfl rfl rfl hcalm i [] s3 σ3 H3 (fun _ _=>False) I3 (stat fr3) st3 go) fun r s4 ⟨u,hr,h4⟩=>?_
   subst hr
   refine jD h4 fun _ s5 ⟨x,H5,I5,r5,y5,st5,fr5⟩=>?_
   have I5':=I5.pinned (stat fr5) (T.obj _ _ st5)
   have again:∀{σ7:St} {H7:Hp} {s7:Shared},Inv (jQ X N scope H2.objs.size s H pins fp) ([]++zS fp s5.heap) σ7 H7 s7→Nn σ7 H7→
     ∃m,m<n∧∃i σ' H',Inv (jQ X N scope H2.objs.size s H pins fp) [] σ' H' s7∧tn i s7.heap∧(∀b∈fp,H' b=none)∧W i m σ' H':=fun {σ7 H7 s7} I7 n7=>by
    obtain ⟨m',hm,w7⟩:=hN σ7 H7 n7
    refine ⟨m',hm,i+1,σ7,H7,I7.unpinned,T.keep _ _ _ st5 fun b hb o e=>(I7.pin (b,o) (List.mem_append_right _ (List.mem_append_right _ (zG hb e)))).1,fun b hb=>?_,w7⟩
    obtain ⟨o,e,d⟩:=T.obj _ _ st5 b hb
    exact (I7.pin (b,o) (List.mem_append_right _ (List.mem_append_right _ (zG hb e)))).2.1
   refine jD (hg _ _ s5 σ3 H5 x u _ I5' r5 (step x H5 y5)) fun _ s6 ⟨σ6,H6,I6,q6⟩=>?_
   refine jD (hc _ _ s6 σ6 H6 _ I6 q6) fun ok s7 ⟨H7,I7,q7⟩=>?_
   cases ok with
   |false=>exact again I7 q7
   |true =>
    refine wpAny_mono (he _ _ s7 σ6 H7 _ (I7.wish _) q7) (fun v s8 ⟨y,H8,I8,r8,xs,hD8,hz8,n8⟩=>?_) fun e se hx=>hRE _ _ e se hCle hx
    have I8:=I8.unwish
    refine jD (yJ _ s8 σ6 H8 (.ref s.heap.objs.size) [y] (.ref s.heap.objs.size) [v] (fun _ H9=>Nn σ6 H9) I8 rfl (.cons r8 .nil) ⟨_,_,_,rfl,rfl,hD8,hz8,n8⟩) fun _ s9 ⟨_,H9,I9,_,n9⟩=>?_
    exact again I9 n9
 exact codeAny_compStart_list (loop _ rfl) (wpAny_mono (T.self X.A 0 _ (fun v s'=>v=.ref it∧s'=_) (fun _ _=>False) st1 ⟨rfl,rfl⟩) (fun v s' ⟨e1,e2⟩=>by subst e1;subst e2;exact loop _ rfl) fun _ _ z=>z.elim)
end
section
variable {P:Program} {w:World} {K:PySem.W.Frag} {mg:Str→Option Value} {base:Heap} {Nf:List Str} {qual:Str} {scf:Scope} {f:Addr} {cd:Value} {A:Around} {outer:List Env} {s₀:Shared} {H₀:Hp} {E:XK}
theorem dE {tg iter elt:Expr} {ifs:List Expr} {scope:Scope} {pos:Pos} {wi:TI} {g:TG} {tc:TT} {te:TE} (N:List Str) (cap:St→St) (S:CompScope (j4 (jL P w) P w K mg base Nf qual scf f cd A outer s₀ H₀ E) scope) (hcap:v6 (j4 (jL P w) P w K mg base Nf qual scf f cd A outer s₀ H₀ E) N scope cap) (hi:PI (j4 (jL P w) P w K mg base Nf qual scf f cd A outer s₀ H₀ E) tg iter wi)
  (hg:∀C s H pins fp,PG (jQ (j4 (jL P w) P w K mg base Nf qual scf f cd A outer s₀ H₀ E) N scope C s H pins fp) tg g) (hc:∀C s H pins fp,yV (jQ (j4 (jL P w) P w K mg base Nf qual scf f cd A outer s₀ H₀ E) N scope C s H pins fp) ifs tc)
  (he:∀C s H pins fp,PE ((jQ (j4 (jL P w) P w K mg base Nf qual scf f cd A outer s₀ H₀ E) N scope C s H pins fp).wish (JK (j4 (jL P w) P w K mg base Nf qual scf f cd A outer s₀ H₀ E) N scope C s H pins fp fun c H'=>E c none H')) elt te)
  (hs:∀x,foldedSetIterable iter (j4 (jL P w) P w K mg base Nf qual scf f cd A outer s₀ H₀ E).env x=pure x:=by intro _;rfl):PE (j4 (jL P w) P w K mg base Nf qual scf f cd A outer s₀ H₀ E) (.ListComp elt [⟨tg,iter,ifs,0⟩] scope pos) (eU wi cap g tc te):=by
 intro pins s σ H Q I h
 rw [eval_ListComp]
 refine wpAny_comprehension_free (use:=none) rfl hs (Q0 (zH S I)) S.kind S.names (jD (hi pins s σ H _ I h) fun v s1 h1=>jD h1 fun itv s2 h2=>?_)
 obtain ⟨it,fp,tn,J,H2,e,I2,T,st2,f2,q2⟩:=h2
 subst e
 refine mF (RR:=fun acc C=>compPost (model P w) (A.deeper (envOfC qual scf s₀.heap.objs.size f cd)) (j4 (jL P w) P w K mg base Nf qual scf f cd A outer s₀ H₀ E).xe none (EP (j4 (jL P w) P w K mg base Nf qual scf f cd A outer s₀ H₀ E) pins σ Q) acc C) (Q:=fun D H'=>Q (.ref D) H') rfl S hcap I2 T st2 f2 (fun C=>hg C _ _ _ _) (fun C=>hc C _ _ _ _) (fun C=>he C _ _ _ _) q2 ?_ ?_
 ·intro D C σc H' s' hC Jc q
  obtain ⟨m,hn,_⟩:=Jc.loc
  refine ⟨m,hn,fun h' hs'=>?_⟩
  exact ⟨.ref D,H',ZK I2 hC (J4 (σ':=σ) I2 f2 Jc) Jc.free hs',rfl,q⟩
 ·intro D C e s' hC hx
  exact nH I2 f2 hC hx _
end
end L2
namespace L2
open PySem PySem.Spec PyProof.Rows
section
variable {X:Cx}
def qI (z:Str) (k:Nat):Str:=⟨(List.replicate k z.cps).foldl (·++·) #[]⟩
theorem dO (a:Array Nat):∀(k:Nat) (acc:Array Nat),((List.replicate k a).foldl (·++·) acc).toList=acc.toList++(List.replicate k a.toList).flatten
 |0,acc=>by simp
 |k+1,acc=>by rw [List.replicate_succ,List.foldl_cons,dO a k,List.replicate_succ,List.flatten_cons,Array.toList_append,List.append_assoc]
theorem ZH (z:Str) (k:Nat):(qI z k).cps.toList=(List.replicate k z.cps.toList).flatten:=by
 unfold qI
 rw [dO]
 rfl
theorem J8 (z:Str) (k:Nat):(qI z k).length=k*z.length:=by
 show (qI z k).cps.size=k*z.cps.size
 rw [← Array.length_toList,ZH,n5,Array.length_toList]
def pF:R2:=fun x y H Q=>∃(z:Str) (k:Int),x=.str z∧y=.int k∧0≤k∧k≤100∧z.length≤100∧Q (.str (qI z k.toNat)) H
theorem nZ:OpR X (binaryOp .Mult) pF:=by
 intro pins s σ H x y v u Q I rx ry h
 obtain ⟨z,k,rfl,rfl,h0,h1,hz,q⟩:=h
 obtain ⟨t,rfl⟩:=rx
 obtain ⟨t',rfl⟩:=ry
 have hm:z.length*k.toNat≤10000:=Nat.le_trans (Nat.mul_le_mul hz (show k.toNat≤100 by omega)) (Nat.le_refl _)
 refine P.mul_str ?_ (fun h2 _=>?_) (fun _ _=>?_) ?_
 ·rw [decide_eq_false (by omega),decide_eq_false (by omega)];rfl
 ·have:(100:Int)≤(2 ^ 63 - 1) / k:=by
   rw [Int.le_ediv_iff_mul_le (by omega)]
   omega
  omega
 ·exact decide_eq_false (Nat.not_lt.mpr (Nat.le_trans hm (by decide)))
 ·by_cases h2:k<1
  ·rw [if_pos h2]
   have e:k.toNat=0:=by omega
   rw [e] at q
   exact ⟨by decide,.str (qI z 0),H,I.tok _,⟨_,rfl⟩,q⟩
  ·rw [if_neg h2]
   by_cases h3:(k == 1||z.length == 0)=true
   ·rw [if_pos h3]
    have e:qI z k.toNat=z:=by
     have:(qI z k.toNat).cps.toList=z.cps.toList:=by
      rw [ZH]
      rcases Bool.or_eq_true_iff.mp h3 with h|h
      ·rw [show k.toNat=1 by have:=eq_of_beq h;omega];simp
      ·have h:z.cps.size=0:=eq_of_beq h
       rw [Array.eq_empty_of_size_eq_zero h]
       simp
     cases hr:qI z k.toNat with
     |mk a=>rw [hr] at this;obtain ⟨b⟩:=z;exact congrArg Str.mk (Array.toList_inj.mp this)
    rw [e] at q
    exact ⟨.str z,H,I,⟨_,rfl⟩,q⟩
   ·rw [if_neg h3]
    exact ⟨by show (qI z k.toNat).length≤sizeLine;rw [J8,Nat.mul_comm];exact Nat.le_trans hm (by decide),.str (qI z k.toNat),H,I.tok _,⟨_,rfl⟩,q⟩
theorem i5 {X:Cx} (K:PySem.W.Frag) (h:X.K=K:=by rfl):OpR X (compareOp .In) (fS K false):=by subst h;exact lK
theorem oQ {X:Cx} {e:Expr} (t:PySem.W.Frag→TE) (K:PySem.W.Frag) (h:PE X e (t X.K)) (hK:X.K=K:=by rfl):PE X e (t K):=by subst hK;exact h
end
end L2
namespace L2
open PySem PySem.Spec PyProof.Rows
section
variable {P:Program} {w:World} {K:PySem.W.Frag} {mg:Str→Option Value} {base:Heap}
end
section
variable {X:Cx} {a b:Expr} {ta tb:TE} {r:R2} {pos:Pos}
end
theorem so {K:PySem.W.Frag} {H:Hp} {a:Addr} {xs:List V} (h:H a=some (.lst xs)):SqL K H a xs:=SqL.of h
end L2
namespace L2
open PySem PySem.Spec PyProof.Rows
section
variable {X:Cx} {N:List Str} {scope:Scope} {pins:List (Addr×Obj)} {σ:St} {H:Hp} {s:Shared} {fp:List Addr}
end
theorem cps {X:Cx} {N:List Str} {scope:Scope} (n:Nat) (js:List Nat) (a:N.length=n+js.length:=by rfl) (b:js.map (fun j=>X.N[j]?)=(N.drop n).map some:=by rfl) (c:∀x∈N.drop n,scope.names.lookup x=some .free:=by decide +kernel):v6 X N scope (kU n js):=qA n js a b c
end L2
namespace My
open PySem L2
theorem zz1:1≤sizeLine:=by decide
theorem zz2:2≤sizeLine:=by decide
theorem zz3:3≤sizeLine:=by decide
theorem zz4:4≤sizeLine:=by decide
def top (i:Nat):Stmt:=PySem.Challenge.pw_lockhouse_k72_whole_read_back.main.body.getD i (.Pass ⟨0,0,0,0⟩)
abbrev yI:Stmt:=top 7
abbrev y8:Stmt:=top 8
abbrev y9:Stmt:=top 9
abbrev zB:Stmt:=top 10
abbrev yC:Stmt:=top 11
abbrev yD:Stmt:=top 12
abbrev yF:Stmt:=top 13
abbrev yG:Stmt:=top 14
abbrev zE:Stmt:=top 20
abbrev yE:Stmt:=top 19
abbrev yH:Stmt:=top 18
abbrev zD:Stmt:=top 26
abbrev zC:Stmt:=top 27
abbrev v1:Stmt:=top 23
abbrev zA:Stmt:=top 24
abbrev y6:Stmt:=top 25
abbrev y7:Stmt:=top 22
abbrev yB:Stmt:=top 21
abbrev yY:Stmt:=top 29
abbrev yX:Stmt:=top 30
abbrev y0:Stmt:=top 31
abbrev yZ:Stmt:=top 32
abbrev qP:Stmt:=top 33
theorem pE {K:W.Frag} {H H':Hp} {a:Addr} {xs:List V} (e:Same H H') (h:SqT K H a xs):SqT K H' a xs:=by
 rcases h with (h|⟨o,h⟩)|h
 ·exact .inl (.inl (e _ _ h))
 ·exact .inl (.inr ⟨o,e _ _ h⟩)
 ·exact .inr h
theorem jO {H:Hp} {p:Addr} (h:H p=none) (o:HO):Same H (upd H p o):=fun b u q=>by rw [j7 (v0 q h)];exact q
theorem vT {n:Nat} (h:n≤1000):n≤sizeLine:=Nat.le_of_lt (vJ h)
def Ints (K:W.Frag) (H:Hp) (a:Addr) (ws:List Int):Prop:=SqL K H a (ws.map V.int)∨SqT K H a (ws.map V.int)
theorem Ints.same {K:W.Frag} {H H':Hp} {a:Addr} {ws:List Int} (e:Same H H') (h:Ints K H a ws):Ints K H' a ws:=by
 rcases h with h|h
 ·exact .inl (e.seq h)
 ·exact .inr (pE e h)
theorem nJ {ws:List Int} {s:Nat} (h:s<ws.length):kM (ws.map V.int) (s:Int)=some (.int (ws.getD s 0)):=by
 refine kL ?_
 rw [List.getElem?_map,List.getElem?_eq_getElem h,List.getD_eq_getElem?_getD,List.getElem?_eq_getElem h]
 rfl
theorem nA {ms:List Int} {i:Nat} {x:V} (h:(ms.map V.int)[i]?=some x):∃z,x=V.int z∧ms[i]?=some z:=by
 rw [List.getElem?_map] at h
 cases e:ms[i]? with
 |none=>rw [e] at h;cases h
 |some z=>rw [e] at h;exact ⟨z,(Option.some.inj h).symm,rfl⟩
theorem vN {a b:Int} (h:0<b):∃k:Nat,a%b=(k:Int)∧(k:Int)<b:=by
 have h1:=Int.emod_nonneg a (by omega:b≠0)
 have h2:=Int.emod_lt_of_pos a h
 exact ⟨(a%b).toNat,by omega,by omega⟩
def QI (K:W.Frag):Sp:=fun vs H Q _=>∃(a:Addr) (ns:List Int),vs=[.ref a]∧SqL K H a (ns.map V.int)∧ns.length≤63∧∀H',Q (.bl true) H'
def Keep (d:Addr) (H H':Hp):Prop:=∀b o,b≠d→H b=some o→H' b=some o
theorem Keep.of {d:Addr} {H H':Hp} (s:Same H H'):Keep d H H':=fun b o _ q=>s b o q
theorem Keep.trans {d:Addr} {H H1 H2:Hp} (a:Keep d H H1) (b:Keep d H1 H2):Keep d H H2:=fun c o n q=>b c o n (a c o n q)
theorem Keep.upd {d:Addr} {H H':Hp} (k:Keep d H H') (o:HO):Keep d H (upd H' d o):=fun b u n q=>by rw [j7 n];exact k b u n q
def lettersS:Str:="abcdefghijklmnopqrstuvwxyz"
theorem iM:lettersS.cps.toList.length=26:=by decide +kernel
theorem iI:lettersS.length≤sizeLine:=by decide +kernel
def vD (z:Nat):Nat:=lettersS.cps.toList.getD z 0
theorem lA {z:Int} (h0:0≤z) (h1:z<26):kM lettersS.cps.toList z=some (vD z.toNat):=by
 have h:=kL (xs:=lettersS.cps.toList) (j:=z.toNat) (v:=vD z.toNat) (by
  unfold vD
  rw [List.getD_eq_getElem?_getD,List.getElem?_eq_getElem (by rw [iM];omega)]
  rfl)
 have e:((z.toNat:Nat):Int)=z:=by omega
 rwa [e] at h
def PartsAt (H:Hp) (rs:List V) (ps:List (Str×Int)):Prop:=rs.length=ps.length∧∀(i:Nat) (r:V),rs[i]?=some r→∃(a:Addr) (s:Str) (n:Int),r=.ref a∧ps[i]?=some (s,n)∧H a=some (.tup [.str s,.int n])
theorem PartsAt.nil {H:Hp}:PartsAt H [] []:=⟨rfl,fun i r hi=>by cases hi⟩
theorem PartsAt.keep {H H':Hp} {d:Addr} {ys rs:List V} {ps:List (Str×Int)} (k:Keep d H H') (hd:H d=some (.lst ys)) (h:PartsAt H rs ps):PartsAt H' rs ps:=by
 refine ⟨h.1,fun i r hi=>?_⟩
 obtain ⟨a,s,n,h1,h2,h3⟩:=h.2 i r hi
 exact ⟨a,s,n,h1,h2,k _ _ (JI h3 hd (fun z=>nomatch z)) h3⟩
theorem PartsAt.same {H H':Hp} {rs:List V} {ps:List (Str×Int)} (e:Same H H') (h:PartsAt H rs ps):PartsAt H' rs ps:=by
 refine ⟨h.1,fun i r hi=>?_⟩
 obtain ⟨a,s,n,h1,h2,h3⟩:=h.2 i r hi
 exact ⟨a,s,n,h1,h2,e _ _ h3⟩
def strL (l:List Nat):Str:=⟨l.toArray⟩
theorem J5 (l:List Nat):(strL l).length=l.length:=List.size_toArray
theorem mP (a b:List Nat):strL a++strL b=strL (a++b):=by
 show (⟨a.toArray++b.toArray⟩:Str)=⟨(a++b).toArray⟩
 rw [List.append_toArray]
theorem kP {a b:List Nat} (h:strL a=strL b):a=b:=congrArg (fun z:Str=>z.cps.toList) h
theorem mX (c:Nat):(⟨#[c]⟩:Str)=strL [c]:=rfl
theorem nE:("":Str)=strL []:=by decide +kernel
theorem QD {B:Nat}:∀(zs:List Str),(∀z∈zs,z.length≤B)→v3 zs≤zs.length*B
 |[],_=>Nat.zero_le _
 |z::r,h=>by
  have h1:=QD r (fun y hy=>h y (List.mem_cons_of_mem _ hy))
  have h2:=h z List.mem_cons_self
  show z.length+v3 r≤(r.length+1)*B
  rw [Nat.add_mul]
  omega
def feedS:Str:=⟨#[10]⟩
theorem eA:("\n":Str)=feedS:=by decide +kernel
def kX:Str:=⟨#[32]⟩
theorem vO:("\n":Str).length=1:=by decide +kernel
theorem yL {ws:List Str} {i:Nat} {v:V} (h:(ws.map V.str)[i]?=some v):∃w,ws[i]?=some w∧v=.str w:=by
 rw [List.getElem?_map] at h
 cases hw:ws[i]? with
 |none=>rw [hw] at h;cases h
 |some w=>rw [hw] at h;cases h;exact ⟨w,rfl,rfl⟩
theorem mI (n:Int):kM lettersS.cps.toList (n%26)=some (vD (n%26).toNat):=lA (Int.emod_nonneg n (by decide)) (Int.emod_lt_of_pos n (by decide))
theorem lS (n:Int):97≤vD (n%26).toNat∧vD (n%26).toNat≤122:=by
 have h1:=Int.emod_nonneg n (by decide:(26:Int)≠0)
 have h2:=Int.emod_lt_of_pos n (by decide:(0:Int)<26)
 generalize hz:(n%26).toNat=z
 have hz26:z<26:=by omega
 have key:∀z,z<26→97≤vD z∧vD z≤122:=by decide +kernel
 exact key z hz26
def qT (z:Str):Bool := !decide (z="")
def vA (z:Str):List Str:=(Txt.split z feedS).filter qT
def jM (zs:List Str):Str:=Str.join "" (zs.map (·++feedS))
def cZ:Sp:=fun vs H Q _=>∃z:Str,vs=[.str z]∧z.length≤1000000∧(Txt.split z feedS).length≤999∧∀(l:Addr) (H':Hp),Same H H'→H l=none→H' l=some (.lst ((vA z).map V.str))→Q (.ref l) H'
def cY (K:W.Frag):Sp:=fun vs H Q _=>∃(a:Addr) (zs:List Str),vs=[.ref a]∧SqL K H a (zs.map V.str)∧zs.length≤999∧(∀z∈zs,z.length≤900)∧∀H',Same H H'→Q (.str (jM zs)) H'
theorem bQ {zs:List Str} {i:Nat} {z:Str} (h:zs[i]?=some z) (f:Str→Bool):(zs.take (i+1)).filter f=(zs.take i).filter f++(if f z=true then [z] else []):=by
 rw [List.take_add_one,h,List.filter_append]
 show _++List.filter f [z]=_
 rw [List.filter_cons]
 rfl
theorem nG {rows:List Str} {k:Nat} (h:k≤rows.length):qU (rows.map V.str) (some (k:Int)) none=(rows.drop k).map V.str:=by
 unfold qU
 rw [HT.sIx_none,HT.sIx_nat,List.length_map,Nat.min_eq_left h,List.map_drop,List.take_of_length_le (by rw [List.length_drop,List.length_map];exact Nat.le_refl _)]
theorem e8 {d:Bool} {A B:Prop} (e:d=false) (h:B):if d=true then A else B:=by rw [e];exact kS h
theorem eZ {d:Bool} {A B:Prop} (e:d=true) (h:A):if d=true then A else B:=by rw [e];exact jS h
theorem zQ {n:Nat} (h:n≤1000000):n≤sizeLine:=by rw [sizeLine_eq];omega
def dZ:Sp:=fun vs H Q _=>∃c:Int,vs=[.int c]∧∀l:List Nat,1≤l.length→l.length≤12→(∀c∈l,97≤c∧c≤122)→Q (.str (strL l)) H
def AllAt {α:Type} (P:V→α→Prop) (vs:List V) (xs:List α):Prop:=vs.length=xs.length∧∀(i:Nat) (v:V),vs[i]?=some v→∃x,xs[i]?=some x∧P v x
theorem AllAt.nil {α:Type} {P:V→α→Prop}:AllAt P [] ([]:List α):=⟨rfl,fun i v h=>by cases h⟩
theorem AllAt.mono {α:Type} {P P':V→α→Prop} {vs:List V} {xs:List α} (m:∀v x,P v x→P' v x) (h:AllAt P vs xs):AllAt P' vs xs:=⟨h.1,fun i v hv=>by obtain ⟨x,h1,h2⟩:=h.2 i v hv;exact ⟨x,h1,m v x h2⟩⟩
theorem AllAt.snoc {α:Type} {P:V→α→Prop} {vs:List V} {xs:List α} {v:V} {x:α} (h:AllAt P vs xs) (hv:P v x):AllAt P (vs++[v]) (xs++[x]):=by
 refine ⟨by rw [List.length_append,List.length_append,h.1];rfl,fun i w hw=>?_⟩
 by_cases hl:i<vs.length
 ·rw [List.getElem?_append_left hl] at hw
  rw [List.getElem?_append_left (by rw [← h.1];exact hl)]
  exact h.2 i w hw
 ·rw [List.getElem?_append_right (by omega)] at hw
  have e:i=vs.length:=by
   by_cases z:i - vs.length=0
   ·omega
   ·rw [List.getElem?_eq_none (by show 1≤i - vs.length;omega)] at hw;cases hw
  rw [e,Nat.sub_self] at hw
  cases hw
  refine ⟨x,?_,hv⟩
  rw [e,h.1,List.getElem?_append_right (Nat.le_refl _),Nat.sub_self]
  rfl
theorem AllAt.get {α:Type} {P:V→α→Prop} {vs:List V} {xs:List α} (h:AllAt P vs xs) {i:Nat} {x:α} (hx:xs[i]?=some x):∃v,vs[i]?=some v∧P v x:=by
 have hi:i<vs.length:=by rw [h.1];exact (List.getElem?_eq_some_iff.mp hx).1
 obtain ⟨y,h1,h2⟩:=h.2 i _ (List.getElem?_eq_getElem hi)
 rw [hx] at h1
 cases h1
 exact ⟨_,List.getElem?_eq_getElem hi,h2⟩
theorem rD {α:Type} {P:V→α→Prop} {a:V} {x:α} (h1:P a x):AllAt P [a] [x]:=AllAt.snoc AllAt.nil h1
theorem QR {α:Type} {P:V→α→Prop} {a b:V} {x y:α} (h1:P a x) (h2:P b y):AllAt P [a,b] [x,y]:=AllAt.snoc (rD h1) h2
theorem fM {α:Type} {P:V→α→Prop} {a b c:V} {x y z:α} (h1:P a x) (h2:P b y) (h3:P c z):AllAt P [a,b,c] [x,y,z]:=AllAt.snoc (QR h1 h2) h3
theorem fL {α:Type} {P:V→α→Prop} {a b c d:V} {x y z u:α} (h1:P a x) (h2:P b y) (h3:P c z) (h4:P d u):AllAt P [a,b,c,d] [x,y,z,u]:=AllAt.snoc (fM h1 h2 h3) h4
inductive Pt where
 |s (z:List Nat)
 |n (i:Nat)
def Pt.v:Pt→V
 |.s z=>.str (strL z)
 |.n i=>.int (i:Int)
def Pt.t:Pt→Str
 |.s z=>strL z
 |.n i=>Str.ofString (toString (i:Int))
def Pt.ok:Pt→Prop
 |.s z=>z.length≤12
 |.n i=>i<1000000000000
inductive Ep where
 |p (x:Pt)
 |l (ps:List (Pt×Pt))
def Ep.ok:Ep→Prop
 |.p x=>x.ok
 |.l ps=>ps.length≤8∧∀q∈ps,q.1.ok∧q.2.ok
def PrAt (H:Hp) (v:V) (q:Pt×Pt):Prop:=∃t,v=.ref t∧H t=some (.tup [q.1.v,q.2.v])
theorem PrAt.same {H H':Hp} (e:Same H H') (v:V) (q:Pt×Pt):PrAt H v q→PrAt H' v q:=fun ⟨t,h1,h2⟩=>⟨t,h1,e _ _ h2⟩
def EpAt (H:Hp) (v:V):Ep→Prop
 |.p x=>v=x.v
 |.l ps=>∃t us,v=.ref t∧H t=some (.tup us)∧AllAt (PrAt H) us ps
theorem EpAt.same {H H':Hp} (e:Same H H') (v:V):∀x:Ep,EpAt H v x→EpAt H' v x
 |.p _,h=>h
 |.l _,⟨t,us,h1,h2,h3⟩=>⟨t,us,h1,e _ _ h2,h3.mono fun v x=>PrAt.same e v x⟩
def EnAt (H:Hp) (v:V) (e:List Ep):Prop:=∃a vs,v=.ref a∧H a=some (.tup vs)∧AllAt (EpAt H) vs e
theorem EnAt.same {H H':Hp} (e:Same H H') (v:V) (x:List Ep):EnAt H v x→EnAt H' v x:=fun ⟨a,vs,h1,h2,h3⟩=>⟨a,vs,h1,e _ _ h2,h3.mono fun v x=>EpAt.same e v x⟩
theorem EnAt.put {H:Hp} {d:Addr} {ys:List V} {o:HO} (hd:H d=some (.lst ys)) {v:V} {x:List Ep} (h:EnAt H v x):EnAt (upd H d o) v x:=by
 have kp:∀(b:Addr) (vs:List V),H b=some (.tup vs)→upd H d o b=some (.tup vs):=fun b vs hb=>by
  rw [j7 (JI hb hd (fun z=>nomatch z))]
  exact hb
 obtain ⟨a,vs,h1,h2,h3⟩:=h
 refine ⟨a,vs,h1,kp _ _ h2,h3.mono fun v x hx=>?_⟩
 cases x with
 |p y=>exact hx
 |l ps =>
  obtain ⟨t,us,e1,e2,e3⟩:=hx
  exact ⟨t,us,e1,kp _ _ e2,e3.mono fun v x ⟨t',f1,f2⟩=>⟨t',f1,kp _ _ f2⟩⟩
def comeL:List Nat:=[99,111,109,101]
def nightL:List Nat:=[110,105,103,104,116]
def QK:List Nat:=[112,97,115,115]
def QQ:List Nat:=[108,101,116]
def QH:List Nat:=[116,97,107,101]
def QJ:List Nat:=[114,97,105,110]
def Z9:List Nat:=[117,112]
def Z4:List Nat:=[100,111,119,110]
theorem come_eq:("come":Str)=strL comeL:=by decide +kernel
theorem night_eq:("night":Str)=strL nightL:=by decide +kernel
theorem ZO:("pass":Str)=strL QK:=by decide +kernel
theorem ZZ:("let":Str)=strL QQ:=by decide +kernel
theorem dX:("take":Str)=strL QH:=by decide +kernel
theorem d5:("rain":Str)=strL QJ:=by decide +kernel
theorem eR:("up":Str)=strL Z9:=by decide +kernel
theorem eD:("down":Str)=strL Z4:=by decide +kernel
def yA (l:List Nat):Prop:=1≤l.length∧l.length≤12∧∀c∈l,97≤c∧c≤122
def JN (l:List Nat):Prop:=l=Z9∨l=Z4
inductive En where
 |come (nm st:List Nat) (steps:List (List Nat×List Nat))
 |night (ws:List (Nat×Nat))
 |named (w nm:List Nat)
 |amount (w nm:List Nat) (i:Nat)
def En.ps:En→List Ep
 |.come nm st steps=>[.p (.s comeL),.p (.s nm),.p (.s st),.l (steps.map fun q=>(.s q.1,.s q.2))]
 |.night ws=>[.p (.s nightL),.l (ws.map fun q=>(.n q.1,.n q.2))]
 |.named w nm=>[.p (.s w),.p (.s nm)]
 |.amount w nm i=>[.p (.s w),.p (.s nm),.p (.n i)]
def En.good:En→Prop
 |.come nm st steps=>yA nm∧yA st∧1≤steps.length∧steps.length≤8∧∀q∈steps,yA q.1∧JN q.2
 |.night ws=>1≤ws.length∧ws.length≤8∧∀q∈ws,q.1<1000000000000∧q.2<1000000000000
 |.named w nm=>(w=QK∨w=QQ)∧yA nm
 |.amount w nm i=>(w=QH∨w=QJ)∧yA nm∧i<1000000000000
def jN (ps:List (Pt×Pt)):List Str:=ps.flatMap fun q=>[q.1.t,q.2.t]
def Ep.ws:Ep→List Str
 |.p x=>[x.t]
 |.l ps=>jN ps
def jT (e:List Ep):List Str:=e.flatMap Ep.ws
def kQ (e:En):Str:=Str.join kX (jT e.ps)
theorem oG {l:List Nat} (h:JN l):l.length≤12:=by rcases h with rfl|rfl<;>decide
theorem JU:∀{e:En},e.good→e.ps.length≤4∧∀x∈e.ps,x.ok
 |.come nm st steps,h=>by
  obtain ⟨h1,h2,h3,h4,h5⟩:=h
  refine ⟨Nat.le_refl 4,fun x hx=>?_⟩
  simp only [En.ps,List.mem_cons,List.not_mem_nil,or_false] at hx
  rcases hx with rfl|rfl|rfl|rfl
  ·show (4:Nat)≤12;decide
  ·exact h1.2.1
  ·exact h2.2.1
  ·refine ⟨by rw [List.length_map];exact h4,fun q hq=>?_⟩
   obtain ⟨p,hp,rfl⟩:=List.mem_map.mp hq
   exact ⟨(h5 p hp).1.2.1,oG (h5 p hp).2⟩
 |.night ws,h=>by
  obtain ⟨h1,h2,h3⟩:=h
  refine ⟨(show 2≤4 by decide),fun x hx=>?_⟩
  simp only [En.ps,List.mem_cons,List.not_mem_nil,or_false] at hx
  rcases hx with rfl|rfl
  ·show (5:Nat)≤12;decide
  ·refine ⟨by rw [List.length_map];exact h2,fun q hq=>?_⟩
   obtain ⟨p,hp,rfl⟩:=List.mem_map.mp hq
   exact h3 p hp
 |.named w nm,h=>by
  obtain ⟨h1,h2⟩:=h
  refine ⟨(show 2≤4 by decide),fun x hx=>?_⟩
  simp only [En.ps,List.mem_cons,List.not_mem_nil,or_false] at hx
  rcases hx with rfl|rfl
  ·rcases h1 with rfl|rfl<;>(show (_:Nat)≤12;decide)
  ·exact h2.2.1
 |.amount w nm i,h=>by
  obtain ⟨h1,h2,h3⟩:=h
  refine ⟨(show 3≤4 by decide),fun x hx=>?_⟩
  simp only [En.ps,List.mem_cons,List.not_mem_nil,or_false] at hx
  rcases hx with rfl|rfl|rfl
  ·rcases h1 with rfl|rfl<;>(show (_:Nat)≤12;decide)
  ·exact h2.2.1
  ·exact h3
theorem cJ {n:Nat} (h1:n<1000000000000):(n:Int).natAbs.log2<1920∧(Str.ofString (toString (n:Int))).length≤12:=by
 refine ⟨?_,?_⟩
 ·have h2:(n:Int).natAbs<2 ^ 1920:=by
   rw [Int.natAbs_natCast]
   exact Nat.lt_trans h1 (by decide +kernel)
  by_cases hz:(n:Int).natAbs=0
  ·rw [hz];decide
  ·exact (Nat.log2_lt hz).mpr h2
 ·have:=(dH (m:=n) h1).2
  rw [show kR n=kR (n:Int).toNat from rfl,← QB (Int.natCast_nonneg n),Array.length_toList] at this
  exact this
theorem Pt.show:∀{x:Pt},x.ok→fB x.v x.t
 |.s z,_=>.inl rfl
 |.n i,h=>.inr ⟨_,rfl,(cJ h).1,rfl⟩
theorem Pt.len:∀{x:Pt},x.ok→x.t.length≤12
 |.s z,h=>by
  show (strL z).length≤12
  rw [J5]
  exact h
 |.n i,h=>(cJ h).2
theorem JV {ps:List (Pt×Pt)} (h:∀q∈ps,q.1.ok∧q.2.ok):(jN ps).length=2*ps.length∧∀z∈jN ps,z.length≤12:=by
 induction ps with
 |nil=>exact ⟨rfl,fun z hz=>by cases hz⟩
 |cons q r ih =>
  obtain ⟨h1,h2⟩:=ih fun p hp=>h p (List.mem_cons_of_mem _ hp)
  obtain ⟨o1,o2⟩:=h q List.mem_cons_self
  refine ⟨by show (q.1.t::q.2.t::jN r).length=_;rw [List.length_cons,List.length_cons,List.length_cons,h1];omega,fun z hz=>?_⟩
  have hz:z∈q.1.t::q.2.t::jN r:=hz
  rcases List.mem_cons.mp hz with rfl|hz
  ·exact Pt.len o1
  ·rcases List.mem_cons.mp hz with rfl|hz
   ·exact Pt.len o2
   ·exact h2 z hz
theorem pL:∀{x:Ep},x.ok→x.ws.length≤16∧∀z∈x.ws,z.length≤12
 |.p x,h=>⟨(show 1≤16 by decide),fun z hz=>by rw [List.mem_singleton.mp hz];exact Pt.len h⟩
 |.l ps,h=>by
  obtain ⟨h1,h2⟩:=JV h.2
  have:=h.1
  exact ⟨by show (jN ps).length≤16;omega,h2⟩
theorem Q8:∀{e:List Ep},(∀x∈e,x.ok)→(jT e).length≤16*e.length∧∀z∈jT e,z.length≤12
 |[],_=>⟨Nat.le_refl _,fun z hz=>by cases hz⟩
 |x::r,h=>by
  obtain ⟨h1,h2⟩:=Q8 fun y hy=>h y (List.mem_cons_of_mem _ hy)
  obtain ⟨h3,h4⟩:=pL (h x List.mem_cons_self)
  refine ⟨by show (x.ws++jT r).length≤_;rw [List.length_append,List.length_cons];omega,fun z hz=>?_⟩
  have hz:z∈x.ws++jT r:=hz
  rcases List.mem_append.mp hz with hz|hz
  ·exact h4 z hz
  ·exact h2 z hz
theorem Q7 {zs:List Str} (h1:zs.length≤64) (h2:∀z∈zs,z.length≤12):v3 zs+zs.length≤832:=by
 have h3:=QD (B:=12) zs h2
 have:zs.length*12≤64*12:=Nat.mul_le_mul_right _ h1
 omega
theorem lT (b:Str) (hb:b.length=1) (zs:List Str):(Str.join b zs).length≤v3 zs+zs.length:=by
 induction zs with
 |nil=>exact Nat.zero_le _
 |cons z r ih =>
  cases r with
  |nil=>show z.length≤(z.length+0)+1;omega
  |cons y r =>
   show ((z++b)++Str.join b (y::r)).length≤(z.length+v3 (y::r))+((y::r).length+1)
   rw [Str.length_append,Str.length_append]
   omega
theorem QA {e:En} (h:e.good):(jT e.ps).length≤64∧∀z∈jT e.ps,z.length≤12:=by
 obtain ⟨h1,h2⟩:=JU h
 obtain ⟨h3,h4⟩:=Q8 h2
 exact ⟨by omega,h4⟩
theorem ZM {e:En} (h:e.good):(kQ e).length≤832:=by
 obtain ⟨h1,h2⟩:=QA h
 exact Nat.le_trans (lT kX rfl _) (Q7 h1 h2)
theorem bJ {ps:List (Pt×Pt)} {i:Nat} {q:Pt×Pt} (h:ps[i]?=some q):jN (ps.take (i+1))=jN (ps.take i)++[q.1.t,q.2.t]:=by
 unfold jN
 rw [List.take_add_one,h,List.flatMap_append]
 rfl
theorem JT {e:List Ep} {i:Nat} {x:Ep} (h:e[i]?=some x):jT (e.take (i+1))=jT (e.take i)++x.ws:=by
 unfold jT
 rw [List.take_add_one,h,List.flatMap_append]
 show _++List.flatMap Ep.ws [x]=_
 rw [List.flatMap_cons,List.flatMap_nil,List.append_nil]
theorem bT {ps:List (Pt×Pt)} (h8:ps.length≤8) (h:∀q∈ps,q.1.ok∧q.2.ok) (i:Nat):(jN (ps.take i)).length≤16:=by
 have:=(JV (ps:=ps.take i) fun q hq=>h q (List.mem_of_mem_take hq)).1
 rw [this,List.length_take]
 omega
def cW (K:W.Frag):Sp:=fun vs H Q _=>∃(t:Addr) (us:List V) (ps:List (Pt×Pt)),vs=[.ref t]∧H t=some (.tup us)∧AllAt (PrAt H) us ps∧ps.length≤8∧(∀q∈ps,q.1.ok∧q.2.ok)∧∀(l:Addr) (H':Hp),Same H H'→H l=none→H' l=some (.lst ((jN ps).map V.str))→Q (.ref l) H'
def eJ:Sp:=fun vs H Q _=>∃(v:V) (e:En),vs=[v]∧EnAt H v e.ps∧e.good∧∀H',Same H H'→Q (.str (kQ e)) H'
def bX (K:W.Frag):Sp:=fun vs H Q _=>∃(a:Addr) (us:List V) (es:List En),vs=[.ref a]∧SqL K H a us∧AllAt (fun v (e:En)=>EnAt H v e.ps) us es∧(∀e∈es,e.good)∧es.length≤999∧∀H',Same H H'→Q (.str (jM (es.map kQ))) H'
def dB:Sp:=fun vs H Q _=>∃c:Int,vs=[.int c]∧∀(v:V) (e:En) (H':Hp),Same H H'→EnAt H' v e.ps→e.good→Q v H'
def cX (K:W.Frag):Sp:=fun vs H Q _=>∃(v:V) (e:List Ep),vs=[v]∧EnAt H v e∧(∀x∈e,x.ok)∧e.length≤4∧∀(l:Addr) (H':Hp),Same H H'→H l=none→H' l=some (.lst ((jT e).map V.str))→Q (.ref l) H'
theorem bL {K:W.Frag}:W.kitOne K (.type "str") (.type "tuple")=some false:=by kernel_rfl
theorem bM {K:W.Frag}:W.kitOne K (.type "int") (.type "tuple")=some false:=by kernel_rfl
theorem oN {K:W.Frag} {H:Hp} (x:Pt):∃t,TyOf K H x.v t∧W.kitOne K t (.type "tuple")=some false:=by
 cases x with
 |s z=>exact ⟨_,TyOf.str _,bL⟩
 |n i=>exact ⟨_,TyOf.int _,bM⟩
def vX:Str:="0123456789"
def zZ (S:Str) (c:Nat):Bool := !(Builtin.Str.occurrences S ⟨#[c]⟩ 0 S.length 1).isEmpty
def yT (S w:Str) (i:Nat):Bool:=(w.cps.toList.take i).all (zZ S)
theorem mJ {S w:Str} {i c:Nat} (h:w.cps[i]?=some c):yT S w (i+1)=(yT S w i&&zZ S c):=by
 unfold yT
 rw [List.take_add_one,show w.cps.toList[i]?=some c by rw [Array.getElem?_toList];exact h,List.all_append]
 simp
def kH (S w:Str):Bool:=decide (0<w.length)&&decide (w.length<13)&&yT S w w.cps.size
theorem dN {S w:Str} (h0:0<w.length) (h1:w.length<13) (h:∀c∈w.cps.toList,zZ S c=true):kH S w=true:=by
 unfold kH yT
 rw [decide_eq_true h0,decide_eq_true h1,List.take_of_length_le (by rw [Array.length_toList];exact Nat.le_refl _),List.all_eq_true.mpr h]
 rfl
def pM (w:Str):Prop:=kH lettersS w=true
theorem cL (c:Nat):zZ vX c=(decide (48≤c)&&decide (c≤57)):=oY c
theorem lY:∀k:Nat,k<26→zZ lettersS (97+k)=true:=by decide +kernel
theorem lP {l:List Nat} (h1:1≤l.length) (h2:l.length≤12) (h:∀c∈l,97≤c∧c≤122):pM (strL l):=by
 refine dN (by rw [J5];omega) (by rw [J5];omega) fun c hc=>?_
 have:=h c hc
 have k:=lY (c - 97) (by omega)
 rw [show 97+(c - 97)=c by omega] at k
 exact k
theorem nI {z:Str} {i:Int} (h0:0≤i) (h1:i<(z.length:Int)):∃c,kM z.cps.toList i=some c∧z.cps[i.toNat]?=some c:=by
 have hl:i.toNat<z.cps.toList.length:=by
  rw [Array.length_toList]
  show i.toNat<z.length
  omega
 have h:=kL (List.getElem?_eq_getElem hl)
 have e:((i.toNat:Nat):Int)=i:=by omega
 rw [e] at h
 exact ⟨_,h,by rw [← Array.getElem?_toList];exact List.getElem?_eq_getElem hl⟩
theorem JA:("0":Str)=⟨#[48]⟩:=by decide +kernel
theorem nF (c:Nat):decide (V.str ⟨#[c]⟩=V.str "0")=decide (c=48):=by
 refine decide_eq_decide.mpr ⟨fun h=>?_,fun h=>by rw [h,JA]⟩
 have h:=V.str.inj h
 rw [JA] at h
 have h:=congrArg (fun z:Str=>z.cps.toList) h
 exact (List.cons.inj h).1
def kW (w:Str):Bool:=decide (w="0")||(kH vX w && !decide (w.cps[0]?=some 48))
def kB (w:Str):Int:=((PySem.NumText.digitsVal w.cps.toList:Nat):Int)
theorem bO {w:Str} (h:kH vX w=true):0<w.length∧w.length<13∧∀c∈w.cps.toList,48≤c∧c≤57:=by
 unfold kH at h
 rw [Bool.and_eq_true,Bool.and_eq_true] at h
 refine ⟨of_decide_eq_true h.1.1,of_decide_eq_true h.1.2,fun c hc=>?_⟩
 have ha:=h.2
 unfold yT at ha
 rw [List.take_of_length_le (by rw [Array.length_toList];exact Nat.le_refl _),List.all_eq_true] at ha
 have:=ha c hc
 rw [cL,Bool.and_eq_true] at this
 exact ⟨of_decide_eq_true this.1,of_decide_eq_true this.2⟩
theorem lM {w:Str} (hw:w.length≤100) (h:kW w=true):PySem.intText? w=some (kB w):=by
 unfold kW at h
 rw [Bool.or_eq_true] at h
 rcases h with h|h
 ·rw [of_decide_eq_true h]
  refine PySem.intText_digits ?_ ?_ ?_
  ·rw [JA];intro c hc;cases List.mem_singleton.mp hc;exact ⟨by decide,by decide⟩
  ·rw [JA];exact List.cons_ne_nil _ _
  ·rw [JA];decide
 ·rw [Bool.and_eq_true] at h
  obtain ⟨h1,h2,h3⟩:=bO h.1
  refine PySem.intText_digits h3 ?_ (by omega)
  intro e
  have:w.length=0:=by show w.cps.size=0;rw [← Array.length_toList,e];rfl
  omega
def ZS:Sp:=fun vs H Q _=>∃w S:Str,vs=[.str w,.str S]∧w.length≤100∧∀H',Same H H'→Q (.bl (kH S w)) H'
def dA:Sp:=fun vs H Q _=>∃w:Str,vs=[.str w]∧w.length≤100∧∀H',Same H H'→Q (.bl (kH lettersS w)) H'
def d4:Sp:=fun vs H Q _=>∃w:Str,vs=[.str w]∧w.length≤100∧∀H',Same H H'→Q (.bl (kW w)) H'
def Z5 (ws:List Str):Prop:=ws.length≤100∧∀w∈ws,w.length≤100
def ZT (eB:Addr):Sp:=fun vs H Q E=>∃w:Str,vs=[.str w]∧w.length≤100∧(kW w=true→∀H',Same H H'→Q (.int (kB w)) H')∧(kW w=false→∀H',Same H H'→E (.ref eB) none H')
def dY (eB:Addr):Sp:=fun vs H Q E=>∃(l:Addr) (ws:List Str),vs=[.ref l]∧H l=some (.lst (ws.map V.str))∧Z5 ws∧(ws.all kW=true→∀(l':Addr) (H':Hp),Same H H'→H l'=none→H' l'=some (.lst ((ws.map kB).map V.int))→Q (.ref l') H')∧(ws.all kW=false→∀H',Same H H'→E (.ref eB) none H')
def J6 (eB:Addr):Sp:=fun vs H Q E=>∃(l:Addr) (ws:List Str),vs=[.ref l]∧H l=some (.lst (ws.map V.str))∧Z5 ws∧(ws.all (kH lettersS)=true→∀H',Same H H'→Q .non H')∧(ws.all (kH lettersS)=false→∀H',Same H H'→E (.ref eB) none H')
theorem ZD {rows:List Str} (k:Nat):qU (rows.map V.str) (some (k:Int)) none=(rows.drop k).map V.str:=by
 by_cases h:k≤rows.length
 ·exact nG h
 ·unfold qU
  rw [HT.sIx_none,HT.sIx_nat,List.length_map,Nat.min_eq_right (by omega),List.drop_eq_nil_of_le (by rw [List.length_map];exact Nat.le_refl _),List.drop_eq_nil_of_le (by omega),List.take_nil]
  rfl
theorem o0 {rows:List Str} (h:3≤rows.length):qU (rows.map V.str) (some 1) (some 3)=((rows.drop 1).take 2).map V.str:=by
 unfold qU
 rw [show (some (1:Int))=some ((1:Nat):Int) from rfl,show (some (3:Int))=some ((3:Nat):Int) from rfl,HT.sIx_nat,HT.sIx_nat,List.length_map,Nat.min_eq_left h,Nat.min_eq_left (by omega),← List.map_drop,← List.map_take]
theorem o3 {rows:List Str} (h:2≤rows.length):qU (rows.map V.str) (some 1) (some 2)=((rows.drop 1).take 1).map V.str:=by
 unfold qU
 rw [show (some (1:Int))=some ((1:Nat):Int) from rfl,show (some (2:Int))=some ((2:Nat):Int) from rfl,HT.sIx_nat,HT.sIx_nat,List.length_map,Nat.min_eq_left h,Nat.min_eq_left (by omega),← List.map_drop,← List.map_take]
theorem dC (xs:List V) (n a:Nat) (h1:a≤1) (hn:xs.length=2*n) (h0:1≤n) (lo:Option Int) (hlo:(lo=none∧a=0)∨lo=some (a:Int)):yR xs lo none (some 2)=(List.range n).filterMap fun k=>xs[a+2*k]?:=by
 unfold yR
 have hb:sliceBounds lo none (some 2) xs.length=((a:Int),(xs.length:Int),2):=by
  rcases hlo with ⟨rfl,rfl⟩|rfl
  ·simp only [sliceBounds,Option.getD_some,show (2:Int)>0 by decide,if_true]
   rfl
  ·simp only [sliceBounds,Option.getD_some,show (2:Int)>0 by decide,if_true,show ¬((a:Int)<0) by omega,if_false]
   rw [show max 0 (min (a:Int) (xs.length:Int))=(a:Int) by omega]
 rw [hb]
 show (sliceRange (a:Int) (xs.length:Int) 2).filterMap _=_
 rw [hn]
 have hc:sliceRange (a:Int) ((2*n:Nat):Int) 2=(List.range n).map fun k=>a+2*k:=by
  unfold sliceRange
  have e1:(if (2:Int)>0 then (if (a:Int)<((2*n:Nat):Int) then (((2*n:Nat):Int) - (a:Int)+2 - 1) / 2 else 0) else (if (a:Int)>((2*n:Nat):Int) then ((a:Int) - ((2*n:Nat):Int) - 2 - 1) / (-2) else 0))=(n:Int):=by
   rw [if_pos (by decide),if_pos (by omega)]
   omega
  simp only [e1,Int.toNat_natCast]
  refine List.map_congr_left fun k _=>?_
  omega
 rw [hc]
 exact iE xs _ n fun k hk=>by omega
theorem bF {α β:Type} (f:α→Option β) (g:α→β):∀l:List α,(∀a∈l,f a=some (g a))→l.filterMap f=l.map g
 |[],_=>rfl
 |a::l,h=>by
  rw [List.filterMap_cons,h a List.mem_cons_self]
  show g a::l.filterMap f=g a::l.map g
  rw [bF f g l fun b hb=>h b (List.mem_cons_of_mem _ hb)]
theorem dD (xs:List V) (n a:Nat) (hn:xs.length=2*n) (ha:a≤1):((List.range n).filterMap fun k=>xs[a+2*k]?).length=n∧∀i,i<n→((List.range n).filterMap fun k=>xs[a+2*k]?)[i]?=xs[a+2*i]?:=by
 have e:(List.range n).filterMap (fun k=>xs[a+2*k]?)=(List.range n).map fun k=>xs.getD (a+2*k) .non:=by
  refine bF _ _ _ fun k hk=>?_
  have:=List.mem_range.mp hk
  rw [List.getD_eq_getElem?_getD,List.getElem?_eq_getElem (by omega)]
  rfl
 rw [e]
 refine ⟨by rw [List.length_map,List.length_range],fun i hi=>?_⟩
 rw [List.getElem?_map,List.getElem?_range hi,List.getElem?_eq_getElem (by omega)]
 show some (xs.getD (a+2*i) .non)=_
 rw [List.getD_eq_getElem?_getD,List.getElem?_eq_getElem (by omega)]
 rfl
def qH (n:Nat):Bool:=decide (n%2=0)&&decide (1≤n / 2)&&decide (n / 2≤8)
theorem dG {n:Nat} (h:qH n=true):∃m,n=2*m∧1≤m∧m≤8:=by
 unfold qH at h
 rw [Bool.and_eq_true,Bool.and_eq_true] at h
 have h1:=of_decide_eq_true h.1.1
 have h2:=of_decide_eq_true h.1.2
 have h3:=of_decide_eq_true h.2
 exact ⟨n / 2,by omega,h2,h3⟩
def ZF (eB:Addr):Sp:=fun vs H Q E=>∃(l:Addr) (xs:List V),vs=[.ref l]∧H l=some (.lst xs)∧xs.length≤200∧
 (qH xs.length=true→∀(t:Addr) (ts:List V) (H':Hp),Same H H'→H t=none→H' t=some (.tup ts)→ts.length=xs.length / 2→(∀(i:Nat) (v:V),ts[i]?=some v→∃(T:Addr) (x y:V),v=.ref T∧H' T=some (.tup [x,y])∧xs[2*i]?=some x∧xs[2*i+1]?=some y)→Q (.ref t) H')∧
 (qH xs.length=false→∀H',Same H H'→E (.ref eB) none H')
def ZU (eB:Addr):Sp:=fun vs H Q E=>∃(l:Addr) (xs:List V) (n:Nat),vs=[.ref l,.int (n:Int)]∧H l=some (.lst xs)∧(xs.length=n→Q .non H)∧(xs.length≠n→E (.ref eB) none H)
def cp (z:Str):List Nat:=z.cps.toList
theorem v2 (z:Str):strL (cp z)=z:=by
 obtain ⟨a⟩:=z
 rfl
def yU (w:Str):Bool:=kH lettersS w
def vY (w:Str):Bool:=decide (w="up")||decide (w="down")
def kO (xs:List Str):List (Str×Str):=(List.range (xs.length / 2)).map fun i=>(xs.getD (2*i) "",xs.getD (2*i+1) "")
def JL (ws:List Str):Option En :=
 if qH (ws.drop 3).length=false then none else if ((ws.drop 1).take 2++(kO (ws.drop 3)).map (·.1)).all yU=false then none else if ((kO (ws.drop 3)).map (·.2)).all vY=false then none
 else some (.come (cp (ws.getD 1 "")) (cp (ws.getD 2 "")) ((kO (ws.drop 3)).map fun q=>(cp q.1,cp q.2)))
def ZY (ws:List Str):Option En :=
 if (ws.drop 1).all kW=false then none else if qH (ws.drop 1).length=false then none
 else some (.night ((kO (ws.drop 1)).map fun q=>((kB q.1).toNat,(kB q.2).toNat)))
def JF (ws:List Str):Option En:=if ws.length≠2 then none else if (ws.drop 1).all yU=false then none else some (.named (cp (ws.getD 0 "")) (cp (ws.getD 1 "")))
def JD (ws:List Str):Option En:=if ws.length≠3 then none else if ((ws.drop 1).take 1).all yU=false then none else if kW (ws.getD 2 "")=false then none else some (.amount (cp (ws.getD 0 "")) (cp (ws.getD 1 "")) (kB (ws.getD 2 "")).toNat)
def yP (ws:List Str):Option En :=
 if ws.getD 0 ""="come" then JL ws else if ws.getD 0 ""="night" then ZY ws else if ws.getD 0 ""="pass"∨ws.getD 0 ""="let" then JF ws else if ws.getD 0 ""="take"∨ws.getD 0 ""="rain" then JD ws else none
def ShortW (ws:List Str):Prop:=1≤ws.length∧ws.length≤100∧∀w∈ws.drop 1,w.length≤100
theorem ShortW.sub {ws:List Str} (h:ShortW ws) {zs:List Str} (hl:zs.length≤100) (hz:∀w∈zs,w∈ws.drop 1):Z5 zs:=⟨hl,fun w hw=>h.2.2 w (hz w hw)⟩
def zL (eB:Addr) (J:List Str→Option En):Sp:=fun vs H Q E=>∃(l:Addr) (ws:List Str),vs=[.ref l]∧H l=some (.lst (ws.map V.str))∧ShortW ws∧(∀e,J ws=some e→∀(v:V) (H':Hp),Same H H'→EnAt H' v e.ps→Q v H')∧(J ws=none→∀H',Same H H'→E (.ref eB) none H')
def kZ (row:Str):Option En:=yP (Txt.split row kX)
def z3 (row:Str):Prop:=row.length≤1000000∧ShortW (Txt.split row kX)
def ZG (eB:Addr):Sp:=fun vs H Q E=>∃row:Str,vs=[.str row]∧z3 row∧(∀e,kZ row=some e→∀(v:V) (H':Hp),Same H H'→EnAt H' v e.ps→Q v H')∧(kZ row=none→∀H',Same H H'→E (.ref eB) none H')
def bY (eB:Addr):Sp:=fun vs H Q E=>∃z:Str,vs=[.str z]∧z.length≤1000000∧(∀r∈vA z,z3 r)∧(Txt.split z feedS).length≤999∧
 (∀es:List En,(vA z).map kZ=es.map some→∀(l:Addr) (us:List V) (H':Hp),Same H H'→H l=none→H' l=some (.lst us)→AllAt (fun v (e:En)=>EnAt H' v e.ps) us es→Q (.ref l) H')∧
 ((∃r∈vA z,kZ r=none)→∀H',Same H H'→E (.ref eB) none H')
theorem v8 {ws:List Str} (h:1≤ws.length):kM (ws.map V.str) 0=some (.str (ws.getD 0 "")):=by
 refine kL (j:=0) ?_
 rw [List.getElem?_map,List.getD_eq_getElem?_getD,List.getElem?_eq_getElem (by omega)]
 rfl
theorem JM {ws:List Str} {k:Nat} (h:k<ws.length):kM (ws.map V.str) (k:Int)=some (.str (ws.getD k "")):=by
 refine kL ?_
 rw [List.getElem?_map,List.getD_eq_getElem?_getD,List.getElem?_eq_getElem h]
 rfl
theorem ZL (w:Str):((kB w).toNat:Int)=kB w:=by unfold kB;rw [Int.toNat_natCast]
theorem d6 (xs:List Str):(kO xs).length=xs.length / 2:=by unfold kO;rw [List.length_map,List.length_range]
theorem eK {xs:List Str} {i:Nat} (h:i<xs.length / 2):(kO xs)[i]?=some (xs.getD (2*i) "",xs.getD (2*i+1) ""):=by unfold kO;rw [List.getElem?_map,List.getElem?_range h];rfl
theorem nX {xs:List Str} {q:Str×Str} (h:q∈kO xs):q.1∈xs∧q.2∈xs:=by
 unfold kO at h
 obtain ⟨i,hi,rfl⟩:=List.mem_map.mp h
 have:=List.mem_range.mp hi
 refine ⟨?_,?_⟩
 ·show xs.getD (2*i) ""∈xs
  rw [List.getD_eq_getElem?_getD,List.getElem?_eq_getElem (by omega)]
  exact List.getElem_mem _
 ·show xs.getD (2*i+1) ""∈xs
  rw [List.getD_eq_getElem?_getD,List.getElem?_eq_getElem (by omega)]
  exact List.getElem_mem _
theorem oZ {ws:List Str} {w:Str} (h:w∈ws.drop 3):w∈ws.drop 1:=by
 rw [show ws.drop 3=(ws.drop 1).drop 2 by rw [List.drop_drop]] at h
 exact List.mem_of_mem_drop h
theorem cU {xs:List Str} {k:Nat} {x:V} (h:(xs.map V.str)[k]?=some x):x=.str (xs.getD k ""):=by
 obtain ⟨w,h1,rfl⟩:=yL h
 rw [List.getD_eq_getElem?_getD,h1]
 rfl
theorem dM {xs:List Str} {k:Nat} {x:V} (h:((xs.map kB).map V.int)[k]?=some x):x=.int (kB (xs.getD k "")):=by
 rw [List.getElem?_map,List.getElem?_map] at h
 cases hw:xs[k]? with
 |none=>rw [hw] at h;cases h
 |some w =>
  rw [hw] at h
  rw [List.getD_eq_getElem?_getD,hw]
  exact (Option.some.inj h).symm
theorem m6 (w:Str):QU (.str w) [V.str "up",V.str "down"]=vY w:=by
 show (("up":Str) == w||(("down":Str) == w||false))=vY w
 unfold vY
 by_cases h1:w="up"
 ·subst h1;decide +kernel
 ·by_cases h2:w="down"
  ·subst h2;decide +kernel
  ·rw [decide_eq_false h1,decide_eq_false h2,beq_eq_false_iff_ne.mpr (fun e=>h1 e.symm),beq_eq_false_iff_ne.mpr (fun e=>h2 e.symm)]
   rfl
theorem lZ {P:Program} {w:World} {K:W.Frag} {mg:Str→Option Value} {base:Heap} {CX:qL} {k:Nat} {f:Addr} {fd:FuncData} {ps:List Str} {sp:Sp} (h:∀vs H Q E,sp vs H Q E→False):FnOk P w K mg base CX k f fd ps sp:=⟨fun vs H Q E q=>(h _ _ _ _ q).elim,fun _ _ _ _ _ _ _ _ _ _ _ _ _ q=>(h _ _ _ _ q).elim⟩
def Alike:Nat→Hp→V→V→Prop
 |0,_,f,d=>(∃z:Str,f=.str z∧d=.str z)∨∃i:Int,f=.int i∧d=.int i
 |n+1,H,f,d=>((∃z:Str,f=.str z∧d=.str z)∨∃i:Int,f=.int i∧d=.int i)∨∃(a b:Addr) (xs ys:List V) (l:Bool),f=.ref a∧d=.ref b∧H a=some (if l=true then .lst xs else .tup xs)∧H b=some (if l=true then .lst ys else .tup ys)∧xs.length=ys.length∧xs.length≤1000∧∀(i:Nat) (x y:V),xs[i]?=some x→ys[i]?=some y→Alike n H x y
theorem Alike.atom {n:Nat} {H:Hp} {f d:V} (h:(∃z:Str,f=.str z∧d=.str z)∨∃i:Int,f=.int i∧d=.int i):Alike n H f d:=by
 cases n with
 |zero=>exact h
 |succ n=>exact .inl h
theorem iU {n:Nat} {H:Hp} {f d:V} (h:Alike n H f d):((∃z:Str,f=.str z∧d=.str z)∨∃i:Int,f=.int i∧d=.int i)∨∃m,n=m+1∧∃(a b:Addr) (xs ys:List V) (l:Bool),f=.ref a∧d=.ref b∧H a=some (if l=true then .lst xs else .tup xs)∧H b=some (if l=true then .lst ys else .tup ys)∧xs.length=ys.length∧xs.length≤1000∧∀(i:Nat) (x y:V),xs[i]?=some x→ys[i]?=some y→Alike m H x y:=by
 cases n with
 |zero=>exact .inl h
 |succ n =>
  rcases h with h|h
  ·exact .inl h
  ·exact .inr ⟨n,rfl,h⟩
def vP:Nat→Sp
 |0=>fun _ _ _ _=>False
 |n+1=>fun vs H Q _=>∃f d:V,vs=[f,d]∧Alike n H f d∧Q (.bl true) H
theorem iN {K:W.Frag}:W.kitOne K (.type "str") (.type "list")=some false:=by kernel_rfl
theorem iP {K:W.Frag}:W.kitOne K (.type "int") (.type "list")=some false:=by kernel_rfl
theorem iO {K:W.Frag}:W.kitOne K (.type "int") (.type "str")=some false:=by kernel_rfl
theorem Q4 {K:W.Frag}:W.kitOne K (.type "list") (.type "tuple")=some false:=by kernel_rfl
theorem bK {K:W.Frag}:W.kitOne K (.type "tuple") (.type "list")=some false:=by kernel_rfl
theorem QE {K:W.Frag} {H:Hp} {a:Addr} {xs:List V} (l:Bool) (h:H a=some (if l=true then .lst xs else .tup xs)):SqL K H a xs∨SqT K H a xs:=by
 cases l with
 |true=>exact .inl (SqL.of h)
 |false=>exact .inr (SqT.of h)
theorem QF {K:W.Frag} {H:Hp} {a:Addr} {xs:List V} {i:Nat} {x:V} {Q:VK} (h:SqL K H a xs∨SqT K H a xs) (hx:xs[i]?=some x) (q:Q x H):fR K (.ref a) (.int (i:Int)) H Q:=by
 rcases h with h|h
 ·exact .inl ⟨a,_,(i:Int),_,rfl,rfl,h,kL hx,q⟩
 ·exact .inr (.inl ⟨a,_,(i:Int),_,rfl,rfl,h,kL hx,q⟩)
theorem ZI {n:Nat} {H:Hp} (x:Pt):Alike n H x.v x.v:=by
 cases x with
 |s z=>exact Alike.atom (.inl ⟨_,rfl,rfl⟩)
 |n i=>exact Alike.atom (.inr ⟨_,rfl,rfl⟩)
theorem mV {n:Nat} {H:Hp} {v u:V} {q:Pt×Pt} (h1:PrAt H v q) (h2:PrAt H u q):Alike (n+1) H v u:=by
 obtain ⟨t,rfl,ht⟩:=h1
 obtain ⟨s,rfl,hs⟩:=h2
 refine .inr ⟨t,s,_,_,false,rfl,rfl,ht,hs,rfl,(by show 2≤1000;decide),fun i x y hx hy=>?_⟩
 rcases i with _|_|i
 ·cases hx;cases hy;exact ZI _
 ·cases hx;cases hy;exact ZI _
 ·cases hx
theorem nB {n:Nat} {H:Hp} {v u:V}:∀{x:Ep},x.ok→EpAt H v x→EpAt H u x→Alike (n+2) H v u
 |.p x,_,h1,h2=>by
  have h1:v=x.v:=h1
  have h2:u=x.v:=h2
  rw [h1,h2];exact ZI x
 |.l ps,ho,⟨t,us,h1,h2,h3⟩,⟨s,ws,g1,g2,g3⟩=>by
  refine .inr ⟨t,s,us,ws,false,h1,g1,h2,g2,by rw [h3.1,g3.1],by have:=ho.1;rw [h3.1];omega,fun i x y hx hy=>?_⟩
  obtain ⟨q,hq,hxq⟩:=h3.2 i x hx
  obtain ⟨q',hq',hyq⟩:=g3.2 i y hy
  rw [hq] at hq'
  cases hq'
  exact mV hxq hyq
theorem dP {n:Nat} {H:Hp} {v u:V} {e:En} (he:e.good) (h1:EnAt H v e.ps) (h2:EnAt H u e.ps):Alike (n+3) H v u:=by
 obtain ⟨a,vs,h1,h3,h4⟩:=h1
 obtain ⟨b,us,g1,g3,g4⟩:=h2
 obtain ⟨o1,o2⟩:=JU he
 refine .inr ⟨a,b,vs,us,false,h1,g1,h3,g3,by rw [h4.1,g4.1],by rw [h4.1];omega,fun i x y hx hy=>?_⟩
 obtain ⟨q,hq,hxq⟩:=h4.2 i x hx
 obtain ⟨q',hq',hyq⟩:=g4.2 i y hy
 rw [hq] at hq'
 cases hq'
 exact nB (o2 _ (List.mem_of_getElem? hq)) hxq hyq
theorem mC {H:Hp} {a b:Addr} {vs us:List V} {es:List En} (hg:∀e∈es,e.good) (hl:es.length≤1000) (ha:H a=some (.lst vs)) (hb:H b=some (.lst us)) (h1:AllAt (fun v (e:En)=>EnAt H v e.ps) vs es) (h2:AllAt (fun v (e:En)=>EnAt H v e.ps) us es):Alike 4 H (.ref a) (.ref b):=by
 refine .inr ⟨a,b,vs,us,true,rfl,rfl,ha,hb,by rw [h1.1,h2.1],by rw [h1.1];exact hl,fun i x y hx hy=>?_⟩
 obtain ⟨q,hq,hxq⟩:=h1.2 i x hx
 obtain ⟨q',hq',hyq⟩:=h2.2 i y hy
 rw [hq] at hq'
 cases hq'
 exact dP (hg _ (List.mem_of_getElem? hq)) hxq hyq
theorem m9 {m:Nat} (h:m<1000000000000):kH vX (Str.ofString (toString (m:Int)))=true:=by
 have hc:(Str.ofString (toString (m:Int))).cps.toList=kR m:=QB (Int.natCast_nonneg m)
 have hl:=dH h
 have hsz:(Str.ofString (toString (m:Int))).length=(kR m).length:=by rw [← hc,Array.length_toList];rfl
 refine dN (by omega) (by omega) fun c hm=>?_
 rw [hc] at hm
 rw [cL,Bool.and_eq_true]
 have:=dI m c hm
 exact ⟨decide_eq_true this.1,decide_eq_true this.2⟩
theorem JE {m:Nat} (h:m<1000000000000):kW (Str.ofString (toString (m:Int)))=true∧kB (Str.ofString (toString (m:Int)))=(m:Int):=by
 have hc:(Str.ofString (toString (m:Int))).cps.toList=kR m:=QB (Int.natCast_nonneg m)
 refine ⟨?_,by unfold kB;rw [hc,mY]⟩
 unfold kW
 by_cases h0:m=0
 ·subst h0
  rw [decide_eq_true (by decide +kernel),Bool.true_or]
 ·rw [m9 h,Bool.true_and,Bool.or_eq_true]
  refine .inr ?_
  rw [Bool.not_eq_true',decide_eq_false_iff_not,← Array.getElem?_toList,hc]
  exact lN m (by omega)
theorem JH {l:List Nat} (h:yA l):yU (strL l)=true:=lP h.1 h.2.1 h.2.2
theorem o6 {l:List Nat} (h:JN l):vY (strL l)=true:=by
 rcases h with rfl|rfl
 ·rw [← eR];decide +kernel
 ·rw [← eD];decide +kernel
theorem mU (a b:Str) (xs:List Str):kO (a::b::xs)=(a,b)::kO xs:=by
 unfold kO
 rw [show (a::b::xs).length / 2=xs.length / 2+1 by rw [List.length_cons,List.length_cons];omega,List.range_succ_eq_map,List.map_cons,List.map_map]
 congr 1
theorem ZB:∀ps:List (Pt×Pt),kO (jN ps)=ps.map fun q=>(q.1.t,q.2.t)
 |[]=>rfl
 |q::r=>by
  show kO (q.1.t::q.2.t::jN r)=_
  rw [mU,ZB r]
  rfl
theorem dF {n:Nat} (h1:1≤n) (h8:n≤8):qH (2*n)=true:=by
 unfold qH
 rw [decide_eq_true (by omega),decide_eq_true (by omega),decide_eq_true (by omega)]
 rfl
theorem bR (ps:List (Pt×Pt)):(jN ps).length=2*ps.length:=by
 induction ps with
 |nil=>rfl
 |cons q r ih=>show (q.1.t::q.2.t::jN r).length=_;rw [List.length_cons,List.length_cons,List.length_cons,ih];omega
theorem iX {p:Str→Bool} {ps:List (Pt×Pt)} (h:∀q∈ps,p q.1.t=true∧p q.2.t=true):(jN ps).all p=true:=by
 induction ps with
 |nil=>rfl
 |cons q r ih =>
  show (q.1.t::q.2.t::jN r).all p=true
  rw [List.all_cons,List.all_cons,(h q List.mem_cons_self).1,(h q List.mem_cons_self).2,ih fun x hx=>h x (List.mem_cons_of_mem _ hx)]
  rfl
theorem iQ:∀{e:En},e.good→yP (jT e.ps)=some e
 |.come nm st steps,h=>by
  obtain ⟨h1,h2,h3,h4,h5⟩:=h
  have ew:jT (En.come nm st steps).ps=strL comeL::strL nm::strL st::jN (steps.map fun q=>(Pt.s q.1,Pt.s q.2)):=by
   show strL comeL::strL nm::strL st::(jN (steps.map fun q=>(Pt.s q.1,Pt.s q.2))++[])=_
   rw [List.append_nil]
  rw [ew]
  unfold yP
  rw [List.getD_cons_zero,if_pos (show strL comeL="come" from come_eq.symm)]
  unfold JL
  have ed:(strL comeL::strL nm::strL st::jN (steps.map fun q=>(Pt.s q.1,Pt.s q.2))).drop 3=jN (steps.map fun q=>(Pt.s q.1,Pt.s q.2)):=rfl
  have em:kO (jN (steps.map fun q=>(Pt.s q.1,Pt.s q.2)))=steps.map fun q=>(strL q.1,strL q.2):=by rw [ZB,List.map_map];rfl
  have em2:(steps.map fun q:List Nat×List Nat=>(strL q.1,strL q.2)).map (fun q=>(cp q.1,cp q.2))=steps:=by
   rw [List.map_map,show ((fun q:Str×Str=>(cp q.1,cp q.2))∘fun q:List Nat×List Nat=>(strL q.1,strL q.2))=id from funext fun q=>rfl,List.map_id]
  rw [ed,bR,List.length_map,dF h3 h4,if_neg (by decide),em,em2,List.map_map,List.map_map]
  have e1:((strL comeL::strL nm::strL st::jN (steps.map fun q=>(Pt.s q.1,Pt.s q.2))).drop 1).take 2=[strL nm,strL st]:=rfl
  rw [e1,if_neg (fun x=>?_),if_neg (fun x=>?_)]
  ·rfl
  ·rw [List.all_map,Bool.eq_false_iff] at x
   exact x (List.all_eq_true.mpr fun q hq=>o6 (h5 q hq).2)
  ·rw [List.all_append,List.all_map,Bool.eq_false_iff] at x
   refine x ?_
   rw [Bool.and_eq_true]
   refine ⟨by rw [List.all_cons,List.all_cons,JH h1,JH h2];rfl,List.all_eq_true.mpr fun q hq=>JH (h5 q hq).1⟩
 |.night ws,h=>by
  obtain ⟨h1,h2,h3⟩:=h
  have ew:jT (En.night ws).ps=strL nightL::jN (ws.map fun q=>(Pt.n q.1,Pt.n q.2)):=by
   show strL nightL::(jN (ws.map fun q=>(Pt.n q.1,Pt.n q.2))++[])=_
   rw [List.append_nil]
  rw [ew]
  unfold yP
  rw [List.getD_cons_zero,if_neg (show ¬strL nightL="come" by rw [come_eq];intro e;exact absurd (kP e) (by decide)),if_pos (show strL nightL="night" from night_eq.symm)]
  unfold ZY
  have ed:(strL nightL::jN (ws.map fun q=>(Pt.n q.1,Pt.n q.2))).drop 1=jN (ws.map fun q=>(Pt.n q.1,Pt.n q.2)):=rfl
  have hal:(jN (ws.map fun q=>(Pt.n q.1,Pt.n q.2))).all kW=true:=iX fun q hq=>by
   obtain ⟨p,hp,rfl⟩:=List.mem_map.mp hq
   exact ⟨(JE (h3 p hp).1).1,(JE (h3 p hp).2).1⟩
  rw [ed,hal,if_neg (by decide),bR,List.length_map,dF h1 h2,if_neg (by decide),ZB,List.map_map,List.map_map]
  have em:ws.map (((fun q:Str×Str=>((kB q.1).toNat,(kB q.2).toNat))∘fun q:Pt×Pt=>(q.1.t,q.2.t))∘fun q=>(Pt.n q.1,Pt.n q.2))=ws:=by
   have:∀q∈ws,(((fun q:Str×Str=>((kB q.1).toNat,(kB q.2).toNat))∘fun q:Pt×Pt=>(q.1.t,q.2.t))∘fun q:Nat×Nat=>(Pt.n q.1,Pt.n q.2)) q=id q:=fun q hq=>by
    show ((kB (Str.ofString (toString (q.1:Int)))).toNat,(kB (Str.ofString (toString (q.2:Int)))).toNat)=q
    rw [(JE (h3 q hq).1).2,(JE (h3 q hq).2).2,Int.toNat_natCast,Int.toNat_natCast]
   rw [List.map_congr_left this,List.map_id]
  rw [em]
 |.named w nm,h=>by
  obtain ⟨h1,h2⟩:=h
  have ew:jT (En.named w nm).ps=[strL w,strL nm]:=rfl
  rw [ew]
  have hno:¬strL w="come"∧¬strL w="night"∧(strL w="pass"∨strL w="let"):=by
   rw [come_eq,night_eq,ZO,ZZ]
   rcases h1 with rfl|rfl
   ·exact ⟨fun e=>absurd (kP e) (by decide),fun e=>absurd (kP e) (by decide),.inl rfl⟩
   ·exact ⟨fun e=>absurd (kP e) (by decide),fun e=>absurd (kP e) (by decide),.inr rfl⟩
  unfold yP
  rw [if_neg (show ¬[strL w,strL nm].getD 0 ""="come" from hno.1),if_neg (show ¬[strL w,strL nm].getD 0 ""="night" from hno.2.1),if_pos (show [strL w,strL nm].getD 0 ""="pass"∨[strL w,strL nm].getD 0 ""="let" from hno.2.2)]
  unfold JF
  rw [if_neg (fun x=>x rfl),if_neg (fun x=>?_)]
  ·rfl
  ·rw [show [strL w,strL nm].drop 1=[strL nm] from rfl,List.all_cons,JH h2] at x
   cases x
 |.amount w nm i,h=>by
  obtain ⟨h1,h2,h3⟩:=h
  have ew:jT (En.amount w nm i).ps=[strL w,strL nm,Str.ofString (toString (i:Int))]:=rfl
  rw [ew]
  have hno:¬strL w="come"∧¬strL w="night"∧¬(strL w="pass"∨strL w="let")∧(strL w="take"∨strL w="rain"):=by
   rw [come_eq,night_eq,ZO,ZZ,dX,d5]
   rcases h1 with rfl|rfl
   ·exact ⟨fun e=>absurd (kP e) (by decide),fun e=>absurd (kP e) (by decide),fun e=>e.elim (fun e=>absurd (kP e) (by decide)) fun e=>absurd (kP e) (by decide),.inl rfl⟩
   ·exact ⟨fun e=>absurd (kP e) (by decide),fun e=>absurd (kP e) (by decide),fun e=>e.elim (fun e=>absurd (kP e) (by decide)) fun e=>absurd (kP e) (by decide),.inr rfl⟩
  unfold yP
  rw [if_neg (show ¬[strL w,strL nm,Str.ofString (toString (i:Int))].getD 0 ""="come" from hno.1),if_neg (show ¬[strL w,strL nm,Str.ofString (toString (i:Int))].getD 0 ""="night" from hno.2.1),if_neg (show ¬([strL w,strL nm,Str.ofString (toString (i:Int))].getD 0 ""="pass"∨[strL w,strL nm,Str.ofString (toString (i:Int))].getD 0 ""="let") from hno.2.2.1),if_pos (show [strL w,strL nm,Str.ofString (toString (i:Int))].getD 0 ""="take"∨[strL w,strL nm,Str.ofString (toString (i:Int))].getD 0 ""="rain" from hno.2.2.2)]
  unfold JD
  obtain ⟨n1,n2⟩:=JE h3
  have e2:[strL w,strL nm,Str.ofString (toString (i:Int))].getD 2 ""=Str.ofString (toString (i:Int)):=rfl
  rw [if_neg (fun x=>x rfl),e2,n1,n2,if_neg (fun x=>?_),if_neg (by decide),Int.toNat_natCast]
  ·rfl
  ·rw [show ([strL w,strL nm,Str.ofString (toString (i:Int))].drop 1).take 1=[strL nm] from rfl,List.all_cons,JH h2] at x
   cases x
def bA (w:Str):Prop:=∀c∈w.cps.toList,48≤c∧c≤122
def Pt.sg:Pt→Prop
 |.s z=>∀c∈z,48≤c∧c≤122
 |.n i=>True
theorem Z2:∀{x:Pt},x.sg→bA x.t
 |.s z,h=>h
 |.n i,_=>fun c hc=>by
  have hc:c∈(Str.ofString (toString (i:Int))).cps.toList:=hc
  rw [QB (Int.natCast_nonneg i)] at hc
  have:=dI _ c hc
  omega
theorem cR:∀{e:En},e.good→∀w∈jT e.ps,bA w:=by
 have nm:∀{l:List Nat},yA l→(Pt.s l).sg:=fun h c hc=>by have:=h.2.2 c hc;omega
 have key:∀(e:List Ep),(∀x∈e,match x with|.p y=>y.sg|.l ps=>∀q∈ps,q.1.sg∧q.2.sg)→∀w∈jT e,bA w:=fun e h w hw=>by
  unfold jT at hw
  obtain ⟨x,hx,hw⟩:=List.mem_flatMap.mp hw
  have hx:=h x hx
  cases x with
  |p y=>rw [List.mem_singleton.mp hw];exact Z2 hx
  |l ps =>
   obtain ⟨q,hq,hw⟩:=List.mem_flatMap.mp hw
   rcases List.mem_cons.mp hw with rfl|hw
   ·exact Z2 (hx q hq).1
   ·rw [List.mem_singleton.mp hw];exact Z2 (hx q hq).2
 intro e h
 refine key _ fun x hx=>?_
 cases e with
 |come n st steps =>
  obtain ⟨h1,h2,h3,h4,h5⟩:=h
  simp only [En.ps,List.mem_cons,List.not_mem_nil,or_false] at hx
  rcases hx with rfl|rfl|rfl|rfl
  ·show ∀c∈comeL,_;decide
  ·exact nm h1
  ·exact nm h2
  ·intro q hq
   obtain ⟨p,hp,rfl⟩:=List.mem_map.mp hq
   refine ⟨nm (h5 p hp).1,?_⟩
   show ∀c∈p.2,_
   rcases (h5 p hp).2 with e|e<;>(rw [e];decide)
 |night ws =>
  simp only [En.ps,List.mem_cons,List.not_mem_nil,or_false] at hx
  rcases hx with rfl|rfl
  ·show ∀c∈nightL,_;decide
  ·intro q hq
   obtain ⟨p,hp,rfl⟩:=List.mem_map.mp hq
   exact ⟨trivial,trivial⟩
 |named w n =>
  obtain ⟨h1,h2⟩:=h
  simp only [En.ps,List.mem_cons,List.not_mem_nil,or_false] at hx
  rcases hx with rfl|rfl
  ·show ∀c∈w,_
   rcases h1 with rfl|rfl<;>decide
  ·exact nm h2
 |amount w n i =>
  obtain ⟨h1,h2,h3⟩:=h
  simp only [En.ps,List.mem_cons,List.not_mem_nil,or_false] at hx
  rcases hx with rfl|rfl|rfl
  ·show ∀c∈w,_
   rcases h1 with rfl|rfl<;>decide
  ·exact nm h2
  ·exact trivial
theorem cS {e:En}:jT e.ps≠[]:=by cases e<;>exact List.cons_ne_nil _ _
theorem cG {e:En} (h:e.good):Txt.split (kQ e) kX=jT e.ps:=bW 32 cS fun w hw hm=>by
 have:=cR h w hw 32 hm
 omega
theorem J7 {e:En} (h:e.good):kZ (kQ e)=some e∧z3 (kQ e):=by
 obtain ⟨w1,w2⟩:=QA h
 refine ⟨by unfold kZ;rw [cG h];exact iQ h,by have:=ZM h;omega,?_⟩
 rw [cG h]
 exact ⟨List.length_pos_iff.mpr cS,by omega,fun w hw=>Nat.le_trans (w2 w (List.mem_of_mem_drop hw)) (by decide)⟩
theorem i7 {b:Nat} {ps:List Str} {c:Nat} (h:c∈(Str.join ⟨#[b]⟩ ps).cps.toList):c=b∨∃p∈ps,c∈p.cps.toList:=by
 rw [J9] at h
 have key:∀qs:List (List Nat),c∈vU b qs→c=b∨∃q∈qs,c∈q:=by
  intro qs
  induction qs with
  |nil=>intro h;cases h
  |cons x r ih =>
   intro h
   cases r with
   |nil=>exact .inr ⟨x,List.mem_cons_self,h⟩
   |cons y r =>
    have h:c∈x++b::vU b (y::r):=h
    rcases List.mem_append.mp h with h|h
    ·exact .inr ⟨x,List.mem_cons_self,h⟩
    ·rcases List.mem_cons.mp h with h|h
     ·exact .inl h
     ·rcases ih h with h|⟨q,hq,h⟩
      ·exact .inl h
      ·exact .inr ⟨q,List.mem_cons_of_mem _ hq,h⟩
 rcases key _ h with h|⟨q,hq,h⟩
 ·exact .inl h
 ·obtain ⟨p,hp,rfl⟩:=List.mem_map.mp hq
  exact .inr ⟨p,hp,h⟩
theorem cH {e:En} (h:e.good):10∉(kQ e).cps.toList∧kQ e≠"":=by
 refine ⟨fun hm=>?_,fun e0=>?_⟩
 ·rcases i7 hm with h1|⟨p,hp,h1⟩
  ·omega
  ·have:=cR h p hp 10 h1
   omega
 ·have h1:=(J7 h).1
  rw [e0,show kZ ""=none by decide +kernel] at h1
  cases h1
theorem cF:∀{xs ys:List En},xs.map some=ys.map some→xs=ys
 |[],[],_=>rfl
 |[],_::_,h=>by cases h
 |_::_,[],h=>by cases h
 |x::xs,y::ys,h=>by
  obtain ⟨h1,h2⟩:=List.cons.inj h
  cases h1
  rw [cF h2]
def Q1:Sp:=fun vs H Q _=>∃(z:Str) (es:List En),vs=[.str z]∧z.length≤1000000∧(∀r∈vA z,z3 r)∧(Txt.split z feedS).length≤999∧(vA z).map kZ=es.map some∧
 ∀(l:Addr) (us:List V) (H':Hp),Same H H'→H l=none→H' l=some (.lst us)→AllAt (fun v (e:En)=>EnAt H' v e.ps) us es→Q (.ref l) H'
theorem iR {eB:Addr} (vs:List V) (H:Hp) (Q:VK) (E:XK) (h:Q1 vs H Q E):bY eB vs H Q (fun _ _ _=>False):=by
 obtain ⟨z,es,rfl,h1,h2,h3,h4,q⟩:=h
 refine ⟨z,rfl,h1,h2,h3,fun es' he=>?_,fun ⟨r,hr,hn⟩=>?_⟩
 ·rw [h4] at he
  rw [← cF he]
  exact q
 ·obtain ⟨i,hi,e⟩:=List.mem_iff_getElem.mp hr
  have h5:((vA z).map kZ)[i]?=some none:=by rw [List.getElem?_map,List.getElem?_eq_getElem hi,e];show some (kZ r)=_;rw [hn]
  rw [h4,List.getElem?_map] at h5
  cases hx:es[i]? with
  |none=>rw [hx] at h5;cases h5
  |some x=>rw [hx] at h5;cases h5
def ZA:Sp:=fun vs H Q _=>∃(row:Str) (e:En),vs=[.str row]∧z3 row∧kZ row=some e∧∀(v:V) (H':Hp),Same H H'→EnAt H' v e.ps→Q v H'
theorem mB {eB:Addr} (vs:List V) (H:Hp) (Q:VK) (E:XK) (h:ZA vs H Q E):ZG eB vs H Q (fun _ _ _=>False):=by
 obtain ⟨row,e,rfl,h1,h2,q⟩:=h
 exact ⟨row,rfl,h1,fun e' he=>by rw [h2] at he;cases he;exact q,fun hn=>by rw [h2] at hn;cases hn⟩
theorem i8 (z:Str):∀(zs:List Str),Str.join "" (z::zs)=z++Str.join "" zs
 |[]=>(Str.append_empty z).symm
 |y::r=>by
  show (z++("":Str))++Str.join "" (y::r)=_
  rw [show z++("":Str)=z from Str.append_empty z]
theorem JY (z:Str) (zs:List Str):jM (z::zs)=(z++feedS)++jM zs:=i8 _ _
theorem cT (xs ys:List Str):jM (xs++ys)=jM xs++jM ys:=by
 induction xs with
 |nil=>exact (Str.empty_append _).symm
 |cons x r ih=>rw [List.cons_append,JY,JY,ih,Str.append_assoc (x++feedS)]
theorem mM (z:Str):jM [z]=z++feedS:=rfl
theorem cD (z:Str):∀ls:List Str,Str.join feedS (ls++[z])=jM ls++z
 |[]=>(Str.empty_append z).symm
 |[x]=>rfl
 |x::y::r=>by
  show (x++feedS)++Str.join feedS ((y::r)++[z])=jM (x::y::r)++z
  rw [cD z (y::r),JY x (y::r),Str.append_assoc (x++feedS)]
def v5 (z:Str):Prop:=10∉z.cps.toList
theorem i3 {ls:List Str} {z:Str} (h:∀l∈ls,v5 l) (hz:v5 z):Txt.split (jM ls++z) feedS=ls++[z]:=by
 rw [← cD]
 refine bW 10 (by simp) fun p hp=>?_
 rcases List.mem_append.mp hp with hp|hp
 ·exact h p hp
 ·rw [List.mem_singleton.mp hp];exact hz
theorem mR (m:Nat):qI feedS m=jM (List.replicate m ""):=by
 refine Q3 (ps:=[_]) (qs:=[_]) ?_ |> List.cons.inj |>.1
 rw [List.map_cons,List.map_cons,ZH]
 congr 1
 induction m with
 |zero=>rfl
 |succ m ih =>
  rw [List.replicate_succ,List.flatten_cons,ih,List.replicate_succ,JY]
  show _=(((("":Str)++feedS)++jM (List.replicate m "")).cps).toList
  rw [show (("":Str)++feedS)=feedS by decide +kernel,Str.cps_append,Array.toList_append]
theorem i4 (x:Str) (c:Nat):Txt.slice (x++⟨#[c]⟩) none (some ((((x++⟨#[c]⟩:Str).length:Nat):Int) - 1))=x:=by
 have hl:(x++⟨#[c]⟩:Str).length=x.length+1:=by rw [Str.length_append];rfl
 rw [hl]
 have e:=eq_of_beq (PyProof.Rows.slice_closes_to (x:=x++⟨#[c]⟩) (j:=(((x.length+1:Nat):Int) - 1)) ⟨by omega,by rw [Array.length_toList];show _≤(((x++⟨#[c]⟩:Str).length:Nat):Int);rw [hl];omega⟩)
 rw [e]
 have e2:(((x++⟨#[c]⟩:Str).cps.toList.drop (0:Int).toNat).take ((((x.length+1:Nat):Int) - 1) - 0).toNat)=x.cps.toList:=by
  rw [show (0:Int).toNat=0 from rfl,List.drop_zero,Str.cps_append,Array.toList_append,show ((((x.length+1:Nat):Int) - 1) - 0).toNat=x.cps.toList.length by rw [Array.length_toList];show _=x.length;omega,List.take_left']
  rfl
 rw [e2]
structure Txt (K:W.Frag) (mg:Str→Option Value) (jX jW jZ jY:Tok) (eC eB tW:Addr):Prop where
 z_all:mg "all"=none
 z_len:mg "len"=none
 z_int:mg "int"=none
 z_str:mg "str"=none
 z_tuple:mg "tuple"=none
 z_zip:mg "zip"=none
 z_range:mg "range"=none
 z_isinstance:mg "isinstance"=none
 z_list:mg "list"=none
 z_bool:mg "bool"=none
 g_LETTERS:mg "LETTERS"=some (.str lettersS jX)
 g_FIGURES:mg "FIGURES"=some (.str vX jW)
 g_MOST_SIGNS:mg "MOST_SIGNS"=some (.int 12 jZ)
 g_MOST_PAIRS:mg "MOST_PAIRS"=some (.int 8 jY)
 c_CanalError:mg "CanalError"=some (.ref eC)
 c_BadRow:mg "BadRow"=some (.ref eB)
 x_BadRow:fN K eB
 g_WAYS:mg "WAYS"=some (.ref tW)
 ways:∀H:Hp,SqT K H tW [.str "up",.str "down"]
set_option maxHeartbeats 4000000
section
variable {P:Program} {w:World} {K:W.Frag} {mg:Str→Option Value} {base:Heap} {jX jW jZ jY:Tok} {eC eB tW:Addr}
theorem iB:FnScope ["word","signs"] ["word","signs"] (jE yI):=⟨rfl,rfl,rfl,by decide +kernel,rfl,by decide +kernel,by decide +kernel⟩
theorem gO {f:Addr} {fd:FuncData} (F:Fun K "written_with" "written_with" yI f fd) (T:Txt K mg jX jW jZ jY eC eB tW) : FnOk P w K mg base kK 1 f fd ["word","signs"] (ZS):=by
 refine F.ok iB (fun vs H Q E h=>?_) (fun cdv A outer s H vs Q E hr h=>?_)
 ·obtain ⟨w,S,rfl,hw,q⟩:=h
  rfl
 obtain ⟨w,S,rfl,hw,q⟩:=h
 have hu:_<cLine:=hr.units0
 have hu1:=kF hr
 refine ⟨_,(jG (jP (zV (mW QL QL jC (j5 bI (by rfl) T.z_len PySem.boot_len (jA (pv 0) jB)) (JC (v:=.int 12) rfl T.g_MOST_SIGNS ⟨_,rfl⟩)) (zU (j5 (ZE rfl) (by rfl) T.z_all PyProof.Rows.boot_all (jA (vQ ["sign","signs"] (kU 1 [1]) rfl (qF (jE yI) rfl rfl (by decide +kernel) (by decide +kernel) (by decide +kernel)) (qA 1 [1] rfl rfl (by decide +kernel)) (oO (pv 0)) (fun _ _ _ _ _=>(j8 (i:=0) (show List.Nodup (["sign","signs"]:List Str) from by decide +kernel) rfl (by first|exact Or.inl rfl|exact Or.inr rfl))) (fun _ _ _ _ _=>qO) (fun _ _ _ _ _=>(yN lJ (pv 0) (pv 1) (by with_unfolding_all rfl)))) jB)))))),?_⟩
 have hws:w.length≤sizeLine:=vT (by omega)
 refine ⟨_,rfl,w,rfl,hws,_,_,rfl,rfl,_,rfl,?_⟩
 have bad:∀H':Hp,Same H H'→kH S w=false→Q (.bl false) H':=fun H' s e=>by
  have:=q H' s
  rw [e] at this
  exact this
 by_cases h1:(1:Int)≤((w.length:Nat):Int)
 ·refine vB h1 ⟨_,_,rfl,rfl,_,rfl,?_⟩
  by_cases h2:((w.length:Nat):Int)≤12
  ·refine vB h2 ⟨_,rfl,w,rfl,fun D hD=>?_⟩
   refine mD (z:=w) (caps:=[some (.str S)]) (fun i ys Hi=>∃bs:List Bool,ys=bs.map V.bl∧bs.length=i∧bs.all id=yT S w i) hD ⟨[],rfl,rfl,rfl⟩ ?_ ?_
   ·rintro i c ys Hi hc hle sm hY ⟨bs,rfl,hbl,hba⟩
    have hi:i<w.length:=(Array.getElem?_eq_some_iff.mp hc).1
    refine qG (jS ⟨_,rfl,_,rfl,_,_,rfl,rfl,?_⟩)
    refine qN hD sm hY hle (by omega) (Same.refl _) ⟨bs++[zZ S c],by rw [List.map_append];rfl,by rw [List.length_append,hbl];rfl,?_⟩
    rw [mJ hc,List.all_append,hba]
    simp
   ·rintro ys Hf sm hY hle ⟨bs,rfl,hbl,hba⟩
    refine ⟨D,bs,rfl,SqL.of hY,?_⟩
    have e:bs.all id=kH S w:=by
     unfold kH
     rw [hba,decide_eq_true (show 0<w.length by omega),decide_eq_true (show w.length<13 by omega)]
     rfl
    rw [e]
    exact q Hf sm
  ·refine qD h2 (bad H (Same.refl _) ?_)
   unfold kH
   rw [decide_eq_false (show ¬w.length<13 by omega),Bool.and_false]
   rfl
 ·refine qD h1 ⟨_,rfl,kS (bad H (Same.refl _) ?_)⟩
  unfold kH
  rw [decide_eq_false (show ¬0<w.length by omega)]
  rfl
theorem gR:FnScope ["word"] ["word"] (jE y8):=⟨rfl,rfl,rfl,by decide +kernel,rfl,by decide +kernel,by decide +kernel⟩
theorem gA {f:Addr} {fd:FuncData} (F:Fun K "is_name" "is_name" y8 f fd) (T:Txt K mg jX jW jZ jY eC eB tW) (D_written_with:Def P w K mg base 1 "written_with" ["word","signs"] [] (ZS)):FnOk P w K mg base kK 2 f fd ["word"] (dA):=by
 refine F.ok gR (fun vs H Q E h=>?_) (fun cdv A outer s H vs Q E hr h=>?_)
 ·obtain ⟨w,rfl,hw,q⟩:=h
  rfl
 obtain ⟨w,rfl,hw,q⟩:=h
 have hu:_<cLine:=hr.units0
 have hu1:=kF hr
 refine ⟨_,(jG (jP (kG D_written_with hr rfl (jA (pv 0) (jA (JC (v:=.str lettersS) rfl T.g_LETTERS ⟨_,rfl⟩) jB))))),?_⟩
 exact ⟨_,rfl,w,lettersS,rfl,hw,q⟩
theorem gS:FnScope ["word"] ["word"] (jE y9):=⟨rfl,rfl,rfl,by decide +kernel,rfl,by decide +kernel,by decide +kernel⟩
theorem gB {f:Addr} {fd:FuncData} (F:Fun K "is_number" "is_number" y9 f fd) (T:Txt K mg jX jW jZ jY eC eB tW) (D_written_with:Def P w K mg base 1 "written_with" ["word","signs"] [] (ZS)):FnOk P w K mg base kK 2 f fd ["word"] (d4):=by
 refine F.ok gS (fun vs H Q E h=>?_) (fun cdv A outer s H vs Q E hr h=>?_)
 ·obtain ⟨w,rfl,hw,q⟩:=h
  rfl
 obtain ⟨w,rfl,hw,q⟩:=h
 have hu:_<cLine:=hr.units0
 have hu1:=kF hr
 refine ⟨_,(jG (jP (pG (yN kT (pv 0) jK (j6 _)) (zU (zV (kG D_written_with hr rfl (jA (pv 0) (jA (JC (v:=.str vX) rfl T.g_FIGURES ⟨_,rfl⟩) jB))) (zU (yN yS (jR Z0 (pv 0) jC (fun _ _=>rfl)) jK (j6 _)))))))),?_⟩
 refine ⟨_,rfl,rfl,_,rfl,?_⟩
 unfold kW at q
 by_cases h0:w="0"
 ·rw [decide_eq_true h0] at q
  exact vB (congrArg V.str h0) (q H (Same.refl _))
 rw [decide_eq_false h0,Bool.false_or] at q
 refine qD (fun z=>h0 (V.str.inj z)) ⟨_,rfl,w,vX,rfl,hw,fun H1 s1=>⟨_,rfl,?_⟩⟩
 by_cases hg:kH vX w=true
 ·obtain ⟨h1,h2,h3⟩:=bO hg
  rw [hg] at q ⊢
  rw [Bool.true_and] at q
  obtain ⟨c,hc,hc2⟩:=nI (z:=w) (i:=0) (Int.le_refl _) (by omega)
  refine jS ⟨_,rfl,w,_,c,rfl,rfl,vT (by omega),hc,rfl,?_⟩
  rw [nF]
  have q:=q H1 s1
  rw [show w.cps[0]?=some c from hc2,show decide (some c=some 48)=decide (c=48) from decide_eq_decide.mpr ⟨fun e=>Option.some.inj e,fun e=>by rw [e]⟩] at q
  exact q
 ·rw [Bool.eq_false_iff.mpr hg] at q ⊢
  exact kS (q H1 s1)
theorem gU:FnScope ["word"] ["word"] (jE zB):=⟨rfl,rfl,rfl,by decide +kernel,rfl,by decide +kernel,by decide +kernel⟩
theorem gE {f:Addr} {fd:FuncData} (F:Fun K "number_of" "number_of" zB f fd) (T:Txt K mg jX jW jZ jY eC eB tW) (D_is_number:Def P w K mg base 2 "is_number" ["word"] [] (d4)):FnOk P w K mg base (jL P w) 3 f fd ["word"] (ZT eB):=by
 refine F.okX gU (fun vs H Q E h=>?_) (fun cdv A outer s H vs Q E hr h=>?_)
 ·obtain ⟨w,rfl,hw,qv,qe⟩:=h
  rfl
 obtain ⟨w,rfl,hw,qv,qe⟩:=h
 have hu:_<cLine:=hr.units0
 have hu1:=kF hr
 refine ⟨_,(jI (j9 (yO (vE (kG D_is_number hr rfl (jA (pv 0) jB)))) (jG (zM zI rfl rfl T.c_BadRow T.x_BadRow (jA jK jB))) kD)
   (jG (jP (vI mH (by rfl) T.z_int PyProof.Rows.boot_int (jA (pv 0) jB))))),?_⟩
 refine ⟨_,rfl,w,rfl,hw,fun H1 s1=>⟨_,rfl,?_⟩⟩
 by_cases h:kW w=true
 ·rw [h]
  exact kS ⟨_,rfl,w,_,rfl,by omega,lM hw h,qv h H1 s1⟩
 ·rw [Bool.eq_false_iff.mpr h]
  exact jS ⟨by show 1≤sizeLine;decide,qe (Bool.eq_false_iff.mpr h) H1 s1⟩
theorem gW:FnScope ["words"] ["words"] (jE yC):=⟨rfl,rfl,rfl,by decide +kernel,rfl,by decide +kernel,by decide +kernel⟩
theorem gF {f:Addr} {fd:FuncData} (F:Fun K "numbers_of" "numbers_of" yC f fd) (T:Txt K mg jX jW jZ jY eC eB tW) (DX_number_of:DefX P w K mg base 3 "number_of" ["word"] [] (ZT eB)):FnOk P w K mg base (jL P w) 4 f fd ["words"] (dY eB):=by
 refine F.okX gW (fun vs H Q E h=>?_) (fun cdv A outer s H vs Q E hr h=>?_)
 ·obtain ⟨l,ws,rfl,hl,⟨h100,hsh⟩,qv,qe⟩:=h
  rfl
 obtain ⟨l,ws,rfl,hl,⟨h100,hsh⟩,qv,qe⟩:=h
 have hu:_<cLine:=hr.units0
 have hu1:=kF hr
 refine ⟨_,(jG (jP (dE ["word"] (kU 1 []) (qF (jE yC) rfl rfl (by decide +kernel) (by decide +kernel) (by decide +kernel)) (qA 1 [] rfl rfl (by decide +kernel)) (vK (pv 0)) (fun _ _ _ _ _=>(j8 (i:=0) (show List.Nodup (["word"]:List Str) from by decide +kernel) rfl (by first|exact Or.inl rfl|exact Or.inr rfl))) (fun _ _ _ _ _=>qO) (fun _ _ _ _ _=>(qB DX_number_of cA hr rfl (jA (pv 0) jB)))))),?_⟩
 refine ⟨_,rfl,l,rfl,⟨_,SqL.of hl⟩,fun D hD=>?_⟩
 refine vH (K:=K) (a:=l) (xs:=ws.map V.str) (caps:=[]) (fun i ys Hi=>ys=((ws.take i).map kB).map V.int∧(ws.take i).all kW=true) hD (SqL.of hl) ⟨rfl,rfl⟩ ?_ ?_
 ·rintro i v ys Hi hv hi hle sm hY ⟨rfl,hall⟩
  obtain ⟨w,hw,rfl⟩:=yL hv
  have hi1:i<100:=by rw [List.length_map] at hi;omega
  have hm:=List.mem_of_getElem? hw
  refine qG (jS ⟨_,rfl,w,rfl,hsh w hm,fun hn H1 s1=>?_,fun hn H1 s1=>?_⟩)
  ·refine qN hD sm hY hle (by omega) s1 ⟨?_,?_⟩
   ·rw [List.take_add_one,hw,List.map_append,List.map_append]
    rfl
   ·rw [List.take_add_one,hw,List.all_append,hall]
    show (true&&([w].all kW))=true
    rw [List.all_cons,hn];rfl
  ·refine qe ?_ _ (sm.trans s1)
   rw [Bool.eq_false_iff]
   intro e
   rw [List.all_eq_true.mp e w hm] at hn
   cases hn
 rintro ys Hf sm hY hle ⟨rfl,hall⟩
 rw [List.length_map,List.take_length] at hY hall
 exact qv hall D Hf sm hD hY
theorem gY:FnScope ["words"] ["words"] (jE yD):=⟨rfl,rfl,rfl,by decide +kernel,rfl,by decide +kernel,by decide +kernel⟩
theorem gH {f:Addr} {fd:FuncData} (F:Fun K "refuse_no_names" "refuse_no_names" yD f fd) (T:Txt K mg jX jW jZ jY eC eB tW) (D_is_name:Def P w K mg base 2 "is_name" ["word"] [] (dA)):FnOk P w K mg base (jL P w) 3 f fd ["words"] (J6 eB):=by
 refine F.okX gY (fun vs H Q E h=>?_) (fun cdv A outer s H vs Q E hr h=>?_)
 ·obtain ⟨l,ws,rfl,hl,⟨h100,hsh⟩,qv,qe⟩:=h
  rfl
 obtain ⟨l,ws,rfl,hl,⟨h100,hsh⟩,qv,qe⟩:=h
 have hu:_<cLine:=hr.units0
 have hu1:=kF hr
 refine ⟨_,(jG (j9 (yO (vE (j5 (ZE rfl) (by rfl) T.z_all PyProof.Rows.boot_all (jA (vQ ["word"] (kU 1 []) rfl (qF (jE yD) rfl rfl (by decide +kernel) (by decide +kernel) (by decide +kernel)) (qA 1 [] rfl rfl (by decide +kernel)) (vK (pv 0)) (fun _ _ _ _ _=>(j8 (i:=0) (show List.Nodup (["word"]:List Str) from by decide +kernel) rfl (by first|exact Or.inl rfl|exact Or.inr rfl))) (fun _ _ _ _ _=>qO) (fun _ _ _ _ _=>(kG D_is_name hr rfl (jA (pv 0) jB)))) jB)))) (jG (zM zI rfl rfl T.c_BadRow T.x_BadRow (jA jK jB))) kD)),?_⟩
 refine ⟨_,rfl,l,rfl,⟨_,SqL.of hl⟩,fun D hD=>?_⟩
 refine vH (K:=K) (a:=l) (xs:=ws.map V.str) (caps:=[]) (fun i ys Hi=>ys=((ws.take i).map (kH lettersS)).map V.bl) hD (SqL.of hl) rfl ?_ ?_
 ·rintro i v ys Hi hv hi hle sm hY rfl
  obtain ⟨w,hw,rfl⟩:=yL hv
  have hi1:i<100:=by rw [List.length_map] at hi;omega
  refine qG (jS ⟨_,rfl,w,rfl,hsh w (List.mem_of_getElem? hw),fun H1 s1=>?_⟩)
  refine qN hD sm hY hle (by omega) s1 ?_
  rw [List.take_add_one,hw,List.map_append,List.map_append]
  rfl
 rintro ys Hf sm hY hle rfl
 rw [List.length_map,List.take_length] at hY
 refine ⟨D,_,rfl,SqL.of hY,_,rfl,?_⟩
 rw [show (ws.map (kH lettersS)).all id=ws.all (kH lettersS) by rw [List.all_map];rfl]
 cases h:ws.all (kH lettersS) with
 |true=>exact kS (qv h Hf sm)
 |false=>exact jS ⟨by show 1≤sizeLine;decide,qe h Hf sm⟩
theorem g8:FnScope ["text"] ["text"] (jE yF):=⟨rfl,rfl,rfl,by decide +kernel,rfl,by decide +kernel,by decide +kernel⟩
theorem gK {f:Addr} {fd:FuncData} (F:Fun K "rows_of" "rows_of" yF f fd) (T:Txt K mg jX jW jZ jY eC eB tW) : FnOk P w K mg base kK 1 f fd ["text"] (cZ):=by
 refine F.ok g8 (fun vs H Q E h=>?_) (fun cdv A outer s H vs Q E hr h=>?_)
 ·obtain ⟨z,rfl,hz,hn,q⟩:=h
  rfl
 obtain ⟨z,rfl,hz,hn,q⟩:=h
 have hu:_<cLine:=hr.units0
 have hu1:=kF hr
 refine ⟨_,(jG (jP (vQ ["row"] (kU 1 []) rfl (qF (jE yF) rfl rfl (by decide +kernel) (by decide +kernel) (by decide +kernel)) (qA 1 [] rfl rfl (by decide +kernel)) (vK (qC PySem.F.plainAttrs_str PySem.F.slot_str_split PySem.F.type_str_split dL (pv 0) (jA jK jB))) (fun _ _ _ _ _=>(j8 (i:=0) (show List.Nodup (["row"]:List Str) from by decide +kernel) rfl (by first|exact Or.inl rfl|exact Or.inr rfl))) (fun _ _ _ _ _=>(nU (kI yS (pv 0) jK (j6 _)))) (fun _ _ _ _ _=>(pv 0))))),?_⟩
 refine ⟨_,rfl,rfl,z,feedS,rfl,rfl,rfl,hz,fun sl hsl0=>?_⟩
 have s0:=jO hsl0 (.lst ((Txt.split z feedS).map V.str))
 have hsl:upd H sl (.lst ((Txt.split z feedS).map V.str)) sl=some (.lst ((Txt.split z feedS).map V.str)):=jH
 generalize upd H sl (.lst ((Txt.split z feedS).map V.str))=H1 at s0 hsl ⊢
 refine ⟨sl,rfl,⟨_,SqL.of hsl⟩,fun l hl=>?_⟩
 refine vH (K:=K) (a:=sl) (xs:=(Txt.split z feedS).map V.str) (caps:=[]) (fun i ys Hi=>ys=(((Txt.split z feedS).take i).filter qT).map V.str) hl (SqL.of hsl) rfl ?_ ?_
 ·rintro i v ys Hi hv hi hle sm hY rfl
  obtain ⟨row,hrow,rfl⟩:=yL hv
  have hi9:i<999:=by rw [List.length_map] at hi;omega
  refine ⟨_,rfl,rfl,_,rfl,?_⟩
  by_cases e:row=""
  ·refine vV (congrArg V.str e) (mE sm hY hle (Same.refl _) ?_)
   rw [bQ hrow,if_neg (by rw [e];decide),List.append_nil]
  ·refine Z3 (fun x=>e (V.str.inj x)) ⟨_,rfl,qN hl sm hY hle (by omega) (Same.refl _) ?_⟩
   rw [bQ hrow,if_pos (by unfold qT;rw [decide_eq_false e];rfl),List.map_append]
   rfl
 ·rintro ys Hf sm hY hle rfl
  rw [List.length_map,List.take_length] at hY
  exact q l Hf (s0.trans sm) (s0.free hl) hY
theorem g9:FnScope ["rows"] ["rows"] (jE yG):=⟨rfl,rfl,rfl,by decide +kernel,rfl,by decide +kernel,by decide +kernel⟩
theorem gL {f:Addr} {fd:FuncData} (F:Fun K "text_of" "text_of" yG f fd) (T:Txt K mg jX jW jZ jY eC eB tW) : FnOk P w K mg base kK 1 f fd ["rows"] (cY K):=by
 refine F.ok g9 (fun vs H Q E h=>?_) (fun cdv A outer s H vs Q E hr h=>?_)
 ·obtain ⟨a,zs,rfl,hS,hn,hl9,q⟩:=h
  rfl
 obtain ⟨a,zs,rfl,hS,hn,hl9,q⟩:=h
 have hu:_<cLine:=hr.units0
 have hu1:=kF hr
 refine ⟨_,(jG (jP (qC PySem.F.plainAttrs_str PySem.F.slot_str_join PySem.F.type_str_join zP jK (jA (vQ ["row"] (kU 1 []) rfl (qF (jE yG) rfl rfl (by decide +kernel) (by decide +kernel) (by decide +kernel)) (qA 1 [] rfl rfl (by decide +kernel)) (vK (pv 0)) (fun _ _ _ _ _=>(j8 (i:=0) (show List.Nodup (["row"]:List Str) from by decide +kernel) rfl (by first|exact Or.inl rfl|exact Or.inr rfl))) (fun _ _ _ _ _=>qO) (fun _ _ _ _ _=>(jF zF (pv 0) jK))) jB)))),?_⟩
 refine ⟨rfl,_,rfl,a,rfl,⟨_,hS⟩,fun w6 hw60=>?_⟩
 refine vH (K:=K) (a:=a) (xs:=zs.map V.str) (caps:=[]) (fun i ys Hi=>ys=((zs.take i).map (·++feedS)).map V.str) hw60 hS rfl ?_ ?_
 ·rintro i v ys Hi hv hi hle sm hY rfl
  obtain ⟨z,hz,rfl⟩:=yL hv
  have hzl:=hl9 z (List.mem_of_getElem? hz)
  have hi9:i<999:=by have:=(List.getElem?_eq_some_iff.mp hz).1;omega
  refine qG (jS ⟨_,rfl,_,_,rfl,rfl,vT (by rw [vO];omega),qN hw60 sm hY hle (by omega) (Same.refl _) ?_⟩)
  rw [List.take_add_one,hz,List.map_append,List.map_append]
  rfl
 ·rintro ys Hf sm hY hle rfl
  rw [List.length_map,List.take_length] at hY
  have hsum:v3 (zs.map (·++feedS))+(zs.map (·++feedS)).length≤1048576:=by
   have h3:=QD (B:=901) (zs.map (·++feedS)) (fun y hy=>by
    obtain ⟨x,hx,rfl⟩:=List.mem_map.mp hy
    have:=hl9 x hx
    rw [Str.length_append]
    have:feedS.length=1:=rfl
    omega)
   rw [List.length_map] at h3 ⊢
   have:zs.length*901≤999*901:=Nat.mul_le_mul_right _ hn
   omega
  exact ⟨"",w6,_,rfl,rfl,SqL.of hY,by decide,hsum,q Hf sm⟩
theorem JS:FnScope ["pairs","words","first","second"] ["pairs"] (jE zE):=⟨rfl,rfl,rfl,by decide +kernel,rfl,by decide +kernel,by decide +kernel⟩
theorem gM {f:Addr} {fd:FuncData} (F:Fun K "words_of_pairs" "words_of_pairs" zE f fd) (T:Txt K mg jX jW jZ jY eC eB tW) : FnOk P w K mg base kK 1 f fd ["pairs"] (cW K):=by
 refine F.ok JS (fun vs H Q E h=>?_) (fun cdv A outer s H vs Q E hr h=>?_)
 ·obtain ⟨t,us,ps,rfl,ht,hA,h8,hok,q⟩:=h
  rfl
 obtain ⟨t,us,ps,rfl,ht,hA,h8,hok,q⟩:=h
 have hu:_<cLine:=hr.units0
 have hu1:=kF hr
 refine ⟨_,(jI (kJ (i:=1) JS.nd rfl (by first|exact Or.inl rfl|exact Or.inr rfl) (vC jB))
   (jI (vR PassesOwn.never rfl (zT (pv 0)) (eL rfl (zN (j8 (i:=2) JS.nd rfl (by first|exact Or.inl rfl|exact Or.inr rfl)) (zN (j8 (i:=3) JS.nd rfl (by first|exact Or.inl rfl|exact Or.inr rfl)) ZN)))
    (jG (qV (qC PySem.F.plainAttrs_list PySem.F.slot_list_extend PySem.F.type_list_extend lQ (pv 1) (jA (vC (jA (vI zK (by rfl) T.z_str PyProof.Rows.boot_str (jA (pv 2) jB)) (jA (vI zK (by rfl) T.z_str PyProof.Rows.boot_str (jA (pv 3) jB)) jB))) jB)))))
   (jG (jP (pv 1))))),?_⟩
 refine ⟨Nat.zero_le _,fun l hl0=>?_⟩
 have s0:=jO hl0 (.lst [])
 refine ⟨_,rfl,t,rfl,⟨_,SqT.of (s0 _ _ ht)⟩,ZP (K:=K) (a:=t) (xs:=us) (fun i σ Hi=>∃c2 c3:Option V,σ=[some (.ref t),some (.ref l),c2,c3]∧Hi l=some (.lst ((jN (ps.take i)).map V.str))∧Same H Hi) ⟨none,none,rfl,jH,s0⟩ (fun i σ Hi _ ⟨_,_,_,_,s⟩=>SqT.of (s _ _ ht)) ?_ ?_⟩
 ·rintro i v σ Hi hv ⟨c2,c3,rfl,hY,sm⟩
  obtain ⟨q0,hq0,tq,rfl,htq⟩:=hA.2 i v hv
  obtain ⟨o1,o2⟩:=hok q0 (List.mem_of_getElem? hq0)
  have h16:=bT h8 hok i
  refine ⟨tq,_,rfl,SqT.of (sm _ _ htq),rfl,_,_,rfl,_,_,rfl,rfl,?_⟩
  refine ⟨_,rfl,.inl ⟨rfl,_,SqL.of hY⟩,_,rfl,_,_,rfl,Pt.show o1,_,rfl,_,_,rfl,Pt.show o2,zz2,fun l2 hl2=>?_⟩
  have s2:=jO hl2 (.lst [V.str q0.1.t,V.str q0.2.t])
  refine ⟨l,l2,_,_,rfl,rfl,s2 _ _ hY,jH,vT (by rw [List.length_map];show _+2≤_;omega),?_⟩
  refine ⟨_,_,rfl,?_,qM hl0 (sm.trans s2)⟩
  rw [jH,bJ hq0,List.map_append]
  rfl
 ·rintro σ Hi ⟨c2,c3,rfl,hY,sm⟩
  rw [hA.1,List.take_length] at hY
  exact ⟨_,rfl,q l Hi sm hl0 hY⟩
theorem g0:FnScope ["entry"] ["entry"] (jE yE):=⟨rfl,rfl,rfl,by decide +kernel,rfl,by decide +kernel,by decide +kernel⟩
theorem gJ {f:Addr} {fd:FuncData} (F:Fun K "row_of_entry" "row_of_entry" yE f fd) (T:Txt K mg jX jW jZ jY eC eB tW) (D_words_of_pairs:Def P w K mg base 1 "words_of_pairs" ["pairs"] [] (cW K)):FnOk P w K mg base kK 2 f fd ["entry"] (eJ):=by
 refine F.ok g0 (fun vs H Q E h=>?_) (fun cdv A outer s H vs Q E hr h=>?_)
 ·obtain ⟨v,e,rfl,⟨a,vs,rfl,ha,hA⟩,he,q⟩:=h
  rfl
 obtain ⟨v,e,rfl,⟨a,vs,rfl,ha,hA⟩,he,q⟩:=h
 have hu:_<cLine:=hr.units0
 have hu1:=kF hr
 refine ⟨_,(jI (j9 (kI kT (jR ix_tup (pv 0) jC (fun _ _=>rfl)) jK (j6 _)) (jG (jP (qC PySem.F.plainAttrs_str PySem.F.slot_str_join PySem.F.type_str_join zP jK (jA (jF ZX (vC (jA jK (jA (jR ix_tup (pv 0) jC (fun _ _=>rfl)) (jA (jR ix_tup (pv 0) jC (fun _ _=>rfl)) jB)))) (kG D_words_of_pairs hr rfl (jA (jR ix_tup (pv 0) jC (fun _ _=>rfl)) jB))) jB)))) kD)
   (jI (j9 (kI kT (jR ix_tup (pv 0) jC (fun _ _=>rfl)) jK (j6 _)) (jG (jP (qC PySem.F.plainAttrs_str PySem.F.slot_str_join PySem.F.type_str_join zP jK (jA (jF ZX (vC (jA jK jB)) (kG D_words_of_pairs hr rfl (jA (jR ix_tup (pv 0) jC (fun _ _=>rfl)) jB))) jB)))) kD)
   (jG (jP (qC PySem.F.plainAttrs_str PySem.F.slot_str_join PySem.F.type_str_join zP jK (jA (vQ ["part"] (kU 1 []) rfl (qF (jE yE) rfl rfl (by decide +kernel) (by decide +kernel) (by decide +kernel)) (qA 1 [] rfl rfl (by decide +kernel)) (zT (pv 0)) (fun _ _ _ _ _=>(j8 (i:=0) (show List.Nodup (["part"]:List Str) from by decide +kernel) rfl (by first|exact Or.inl rfl|exact Or.inr rfl))) (fun _ _ _ _ _=>qO) (fun _ _ _ _ _=>(vI zK (by rfl) T.z_str PyProof.Rows.boot_str (jA (pv 0) jB)))) jB)))))),?_⟩
 obtain ⟨g1,g2⟩:=JU he
 obtain ⟨w1,w2⟩:=QA he
 have hsum:=Q7 w1 w2
 have hat:∀(i:Nat) (x:Ep),e.ps[i]?=some x→∃v,kM vs (i:Int)=some v∧EpAt H v x:=fun i x hx=>by
  obtain ⟨v,h1,h2⟩:=hA.get hx
  exact ⟨v,kL h1,h2⟩
 cases e with
 |come nm st steps =>
  obtain ⟨_,a0,rfl⟩:=hat 0 _ rfl
  obtain ⟨_,a1,rfl⟩:=hat 1 _ rfl
  obtain ⟨_,a2,rfl⟩:=hat 2 _ rfl
  obtain ⟨_,a3,t,us,rfl,ht,hus⟩:=hat 3 _ rfl
  refine ⟨_,rfl,a,_,_,_,rfl,rfl,SqT.of ha,a0,rfl,_,rfl,vB (congrArg V.str come_eq.symm) ?_⟩
  refine ⟨rfl,_,rfl,a,_,_,_,rfl,rfl,SqT.of ha,a1,_,rfl,a,_,_,_,rfl,rfl,SqT.of ha,a2,zz3,fun l1 hl1=>?_⟩
  have s1:=jO hl1 (.lst [V.str "come",V.str (strL nm),V.str (strL st)])
  have o4:=g2 (.l (steps.map fun q=>(.s q.1,.s q.2))) (by simp [En.ps])
  refine ⟨_,rfl,a,_,_,_,rfl,rfl,SqT.of (s1 _ _ ha),a3,t,us,_,rfl,s1 _ _ ht,hus.mono (fun v x=>PrAt.same s1 v x),o4.1,o4.2,fun l2 H2 s2 _ hl2=>?_⟩
  have s12:=s1.trans s2
  have hw:(jN (steps.map fun q=>(Pt.s q.1,Pt.s q.2))).length≤16:=by have:=JV o4.2;have:=o4.1;omega
  refine ⟨l1,l2,_,_,rfl,rfl,s2 _ _ jH,hl2,vT (by rw [List.length_map];show 3+_≤_;omega),fun l3 hl3=>?_⟩
  have s3:=jO hl3 (.lst ([V.str "come",V.str (strL nm),V.str (strL st)]++(jN (steps.map fun q=>(Pt.s q.1,Pt.s q.2))).map V.str))
  refine ⟨kX,l3,jT (En.come nm st steps).ps,rfl,rfl,SqL.of ?_,by decide,by omega,q _ (s12.trans s3)⟩
  rw [jH]
  show _=some (HO.lst ((strL comeL::strL nm::strL st::(jN (steps.map fun q=>(Pt.s q.1,Pt.s q.2))++[])).map V.str))
  rw [List.append_nil,← come_eq]
  rfl
 |night ws =>
  obtain ⟨_,a0,rfl⟩:=hat 0 _ rfl
  obtain ⟨_,a1,t,us,rfl,ht,hus⟩:=hat 1 _ rfl
  refine ⟨_,rfl,a,_,_,_,rfl,rfl,SqT.of ha,a0,rfl,_,rfl,qD (fun x=>absurd (kP ((V.str.inj x).trans come_eq)) (by decide)) ?_⟩
  refine ⟨_,rfl,a,_,_,_,rfl,rfl,SqT.of ha,a0,rfl,_,rfl,vB (congrArg V.str night_eq.symm) ?_⟩
  refine ⟨rfl,zz1,fun l1 hl1=>?_⟩
  have s1:=jO hl1 (.lst [V.str "night"])
  have o4:=g2 (.l (ws.map fun q=>(.n q.1,.n q.2))) (by simp [En.ps])
  refine ⟨_,rfl,a,_,_,_,rfl,rfl,SqT.of (s1 _ _ ha),a1,t,us,_,rfl,s1 _ _ ht,hus.mono (fun v x=>PrAt.same s1 v x),o4.1,o4.2,fun l2 H2 s2 _ hl2=>?_⟩
  have s12:=s1.trans s2
  have hw:(jN (ws.map fun q=>(Pt.n q.1,Pt.n q.2))).length≤16:=by have:=JV o4.2;have:=o4.1;omega
  refine ⟨l1,l2,_,_,rfl,rfl,s2 _ _ jH,hl2,vT (by rw [List.length_map];show 1+_≤_;omega),fun l3 hl3=>?_⟩
  have s3:=jO hl3 (.lst ([V.str "night"]++(jN (ws.map fun q=>(Pt.n q.1,Pt.n q.2))).map V.str))
  refine ⟨kX,l3,jT (En.night ws).ps,rfl,rfl,SqL.of ?_,by decide,by omega,q _ (s12.trans s3)⟩
  rw [jH]
  show _=some (HO.lst ((strL nightL::(jN (ws.map fun q=>(Pt.n q.1,Pt.n q.2))++[])).map V.str))
  rw [List.append_nil,← night_eq]
  rfl
 |named w nm =>
  have hw:w≠comeL∧w≠nightL:=by rcases he.1 with rfl|rfl<;>decide
  obtain ⟨_,a0,rfl⟩:=hat 0 _ rfl
  refine ⟨_,rfl,a,_,_,_,rfl,rfl,SqT.of ha,a0,rfl,_,rfl,qD (fun x=>hw.1 (kP ((V.str.inj x).trans come_eq))) ?_⟩
  refine ⟨_,rfl,a,_,_,_,rfl,rfl,SqT.of ha,a0,rfl,_,rfl,qD (fun x=>hw.2 (kP ((V.str.inj x).trans night_eq))) ?_⟩
  refine ⟨rfl,_,rfl,a,rfl,⟨_,SqT.of ha⟩,fun D hD=>?_⟩
  refine cM (K:=K) (a:=a) (xs:=vs) (caps:=[]) (fun i ys Hi=>ys=(jT ((En.named w nm).ps.take i)).map V.str) hD ha rfl ?_ ?_
  ·rintro i v ys Hi hv hi hle sm hY rfl
   obtain ⟨x,hx,hvx⟩:=hA.2 i v hv
   have hx4:i<4:=Nat.lt_of_lt_of_le (List.getElem?_eq_some_iff.mp hx).1 g1
   obtain ⟨y,rfl⟩:∃y,x=Ep.p y:=by
    have hm:=List.mem_of_getElem? hx
    simp only [En.ps,List.mem_cons,List.not_mem_nil,or_false] at hm
    rcases hm with rfl|rfl<;>exact ⟨_,rfl⟩
   have hvx:v=y.v:=hvx
   subst hvx
   refine qG (jS ⟨_,rfl,_,_,rfl,Pt.show (g2 _ (List.mem_of_getElem? hx)),qN hD sm hY hle (by omega) (Same.refl _) ?_⟩)
   rw [JT hx,List.map_append]
   rfl
  ·rintro ys Hf sm hY hle rfl
   rw [hA.1,List.take_length] at hY
   exact ⟨kX,D,_,rfl,rfl,SqL.of hY,by decide,by omega,q _ sm⟩
 |amount w nm i0 =>
  have hw:w≠comeL∧w≠nightL:=by rcases he.1 with rfl|rfl<;>decide
  obtain ⟨_,a0,rfl⟩:=hat 0 _ rfl
  refine ⟨_,rfl,a,_,_,_,rfl,rfl,SqT.of ha,a0,rfl,_,rfl,qD (fun x=>hw.1 (kP ((V.str.inj x).trans come_eq))) ?_⟩
  refine ⟨_,rfl,a,_,_,_,rfl,rfl,SqT.of ha,a0,rfl,_,rfl,qD (fun x=>hw.2 (kP ((V.str.inj x).trans night_eq))) ?_⟩
  refine ⟨rfl,_,rfl,a,rfl,⟨_,SqT.of ha⟩,fun D hD=>?_⟩
  refine cM (K:=K) (a:=a) (xs:=vs) (caps:=[]) (fun i ys Hi=>ys=(jT ((En.amount w nm i0).ps.take i)).map V.str) hD ha rfl ?_ ?_
  ·rintro i v ys Hi hv hi hle sm hY rfl
   obtain ⟨x,hx,hvx⟩:=hA.2 i v hv
   have hx4:i<4:=Nat.lt_of_lt_of_le (List.getElem?_eq_some_iff.mp hx).1 g1
   obtain ⟨y,rfl⟩:∃y,x=Ep.p y:=by
    have hm:=List.mem_of_getElem? hx
    simp only [En.ps,List.mem_cons,List.not_mem_nil,or_false] at hm
    rcases hm with rfl|rfl|rfl<;>exact ⟨_,rfl⟩
   have hvx:v=y.v:=hvx
   subst hvx
   refine qG (jS ⟨_,rfl,_,_,rfl,Pt.show (g2 _ (List.mem_of_getElem? hx)),qN hD sm hY hle (by omega) (Same.refl _) ?_⟩)
   rw [JT hx,List.map_append]
   rfl
  ·rintro ys Hf sm hY hle rfl
   rw [hA.1,List.take_length] at hY
   exact ⟨kX,D,_,rfl,rfl,SqL.of hY,by decide,by omega,q _ sm⟩
theorem iA:FnScope ["entries"] ["entries"] (jE yH):=⟨rfl,rfl,rfl,by decide +kernel,rfl,by decide +kernel,by decide +kernel⟩
theorem gN {f:Addr} {fd:FuncData} (F:Fun K "written" "written" yH f fd) (T:Txt K mg jX jW jZ jY eC eB tW) (D_text_of:Def P w K mg base 1 "text_of" ["rows"] [] (cY K)) (D_row_of_entry:Def P w K mg base 2 "row_of_entry" ["entry"] [] (eJ)):FnOk P w K mg base kK 3 f fd ["entries"] (bX K):=by
 refine F.ok iA (fun vs H Q E h=>?_) (fun cdv A outer s H vs Q E hr h=>?_)
 ·obtain ⟨a,us,es,rfl,hS,hA,hg,hn,q⟩:=h
  rfl
 obtain ⟨a,us,es,rfl,hS,hA,hg,hn,q⟩:=h
 have hu:_<cLine:=hr.units0
 have hu1:=kF hr
 refine ⟨_,(jG (jP (kG D_text_of hr rfl (jA (vQ ["entry"] (kU 1 []) rfl (qF (jE yH) rfl rfl (by decide +kernel) (by decide +kernel) (by decide +kernel)) (qA 1 [] rfl rfl (by decide +kernel)) (vK (pv 0)) (fun _ _ _ _ _=>(j8 (i:=0) (show List.Nodup (["entry"]:List Str) from by decide +kernel) rfl (by first|exact Or.inl rfl|exact Or.inr rfl))) (fun _ _ _ _ _=>qO) (fun _ _ _ _ _=>(kG D_row_of_entry hr rfl (jA (pv 0) jB)))) jB)))),?_⟩
 refine ⟨_,rfl,a,rfl,⟨_,hS⟩,fun D hD=>?_⟩
 refine vH (K:=K) (a:=a) (xs:=us) (caps:=[]) (fun i ys Hi=>ys=((es.take i).map kQ).map V.str) hD hS rfl ?_ ?_
 ·rintro i v ys Hi hv hi hle sm hY rfl
  obtain ⟨e,he,hv2⟩:=hA.2 i v hv
  have hi9:i<999:=by have:=(List.getElem?_eq_some_iff.mp he).1;omega
  refine qG (jS ⟨_,rfl,v,e,rfl,EnAt.same sm v _ hv2,hg e (List.mem_of_getElem? he),fun H' s'=>qN hD sm hY hle (by omega) s' ?_⟩)
  rw [List.take_add_one,he,List.map_append,List.map_append]
  rfl
 ·rintro ys Hf sm hY hle rfl
  rw [hA.1,List.take_length] at hY
  refine ⟨D,es.map kQ,rfl,SqL.of hY,by rw [List.length_map];exact hn,fun z hz=>?_,fun H' s'=>q H' (sm.trans s')⟩
  obtain ⟨e,he,rfl⟩:=List.mem_map.mp hz
  have:=ZM (hg e he)
  omega
theorem gZ:FnScope ["words","many"] ["words","many"] (jE zD):=⟨rfl,rfl,rfl,by decide +kernel,rfl,by decide +kernel,by decide +kernel⟩
theorem gI {f:Addr} {fd:FuncData} (F:Fun K "refuse_other_length" "refuse_other_length" zD f fd) (T:Txt K mg jX jW jZ jY eC eB tW) : FnOk P w K mg base (jL P w) 1 f fd ["words","many"] (ZU eB):=by
 refine F.okX gZ (fun vs H Q E h=>?_) (fun cdv A outer s H vs Q E hr h=>?_)
 ·obtain ⟨l,xs,n,rfl,hl,qv,qe⟩:=h
  rfl
 obtain ⟨l,xs,n,rfl,hl,qv,qe⟩:=h
 have hu:_<cLine:=hr.units0
 have hu1:=kF hr
 refine ⟨_,(jG (j9 (kI yS (j5 vL (by rfl) T.z_len PySem.boot_len (jA (pv 0) jB)) (pv 1) (j6 _)) (jG (zM zI rfl rfl T.c_BadRow T.x_BadRow (jA jK jB))) kD)),?_⟩
 refine ⟨_,rfl,l,_,rfl,.inl (SqL.of hl),_,rfl,rfl,_,rfl,?_⟩
 by_cases h:xs.length=n
 ·exact vV (by rw [h]) (qv h)
 ·exact Z3 (fun z=>h (by have:=V.int.inj z;omega)) ⟨by show 1≤sizeLine;decide,qe h⟩
theorem gX:FnScope ["parts"] ["parts"] (jE zC):=⟨rfl,rfl,rfl,by decide +kernel,rfl,by decide +kernel,by decide +kernel⟩
theorem gG {f:Addr} {fd:FuncData} (F:Fun K "paired" "paired" zC f fd) (T:Txt K mg jX jW jZ jY eC eB tW) : FnOk P w K mg base (jL P w) 1 f fd ["parts"] (ZF eB):=by
 refine F.okX gX (fun vs H Q E h=>?_) (fun cdv A outer s H vs Q E hr h=>?_)
 ·obtain ⟨l,xs,rfl,hl,hn,qv,qe⟩:=h
  rfl
 obtain ⟨l,xs,rfl,hl,hn,qv,qe⟩:=h
 have hu:_<cLine:=hr.units0
 have hu1:=kF hr
 refine ⟨_,(jI (j9 (PW.pt (zX (kI yS (jF kA (j5 vL (by rfl) T.z_len PySem.boot_len (jA (pv 0) jB)) jC) jC (j6 _)) (zR (yO (mT QL QL jC (jF q8 (j5 vL (by rfl) T.z_len PySem.boot_len (jA (pv 0) jB)) jC) (JC (v:=.int 8) rfl T.g_MOST_PAIRS ⟨_,rfl⟩)))))) (jG (zM zI rfl rfl T.c_BadRow T.x_BadRow (jA jK jB))) kD)
   (jG (jP (lI rfl (by rfl) T.z_tuple (by rfl) T.z_zip (jA (cI (pv 0) yM yM (qW jC)) (jA (cI (pv 0) (qW jC) yM (qW jC)) jB)))))),?_⟩
 refine ⟨_,rfl,l,_,rfl,.inl (SqL.of hl),_,_,rfl,rfl,(by show (0:Int)<2;decide),rfl,_,rfl,?_⟩
 have s0:=Same.refl H
 by_cases h2:xs.length%2=0
 case neg=>exact Z3 (fun z=>h2 (by have:=V.int.inj z;omega)) (jS ⟨by show 1≤sizeLine;decide,qe (by unfold qH;rw [decide_eq_false h2];rfl) H s0⟩)
 refine vV (by show V.int _=V.int _;congr 1;omega) ⟨_,rfl,l,_,rfl,.inl (SqL.of hl),_,_,rfl,rfl,⟨by decide,by decide⟩,_,_,rfl,rfl,_,rfl,?_⟩
 by_cases h1:1≤xs.length / 2
 case neg=>exact qD (by omega) ⟨_,rfl,jS ⟨by show 1≤sizeLine;decide,qe (by unfold qH;rw [decide_eq_false h1,Bool.and_false];rfl) H s0⟩⟩
 refine vB (by omega) ⟨_,_,rfl,rfl,_,rfl,?_⟩
 by_cases h8:xs.length / 2≤8
 case neg=>exact eZ (by rw [decide_eq_false (by omega)];rfl) ⟨by show 1≤sizeLine;decide,qe (by unfold qH;rw [decide_eq_false h8,Bool.and_false]) H s0⟩
 have hP:qH xs.length=true:=by unfold qH;rw [decide_eq_true h2,decide_eq_true h1,decide_eq_true h8];rfl
 obtain ⟨m,hm,m1,m8⟩:=dG hP
 refine e8 (by rw [decide_eq_true (by omega)];rfl) ⟨_,rfl,_,rfl,l,_,rfl,SqL.of hl,(fun z=>nomatch z),fun p1 hp1=>?_⟩
 have s1:=jO hp1 (.lst (yR xs none none (some 2)))
 refine ⟨_,rfl,_,rfl,_,rfl,l,_,rfl,SqL.of (s1 _ _ hl),(fun z=>nomatch z),fun p2 hp2=>?_⟩
 have s2:=jO hp2 (.lst (yR xs (some 1) none (some 2)))
 have e1:=dC xs m 0 (by decide) hm m1 none (.inl ⟨rfl,rfl⟩)
 have e2:=dC xs m 1 (Nat.le_refl _) hm m1 (some 1) (.inr rfl)
 obtain ⟨g1,g2⟩:=dD xs m 0 hm (by decide)
 obtain ⟨g3,g4⟩:=dD xs m 1 hm (Nat.le_refl _)
 refine ⟨p1,p2,_,_,rfl,SqL.of (s2 _ _ jH),SqL.of jH,fun t ts H' s' ht0 ht hlen hts=>?_⟩
 rw [e1,e2,g1,g3,Nat.min_self] at hlen
 refine qv hP t ts H' ((s1.trans s2).trans s') ((s1.trans s2).free ht0) ht (by omega) fun i v hv=>?_
 have hi:i<m:=by have:=(List.getElem?_eq_some_iff.mp hv).1;omega
 obtain ⟨T,x,y,h3,h4,h5,h6⟩:=hts i v hv
 rw [e1,g2 i hi,Nat.zero_add] at h5
 rw [e2,g4 i hi,Nat.add_comm] at h6
 exact ⟨T,x,y,h3,h4,h5,h6⟩
theorem bD:FnScope ["words","steps"] ["words"] (jE v1):=⟨rfl,rfl,rfl,by decide +kernel,rfl,by decide +kernel,by decide +kernel⟩
theorem fX {f:Addr} {fd:FuncData} (F:Fun K "come_read" "come_read" v1 f fd) (T:Txt K mg jX jW jZ jY eC eB tW) (DX_paired:DefX P w K mg base 1 "paired" ["parts"] [] (ZF eB)) (DX_refuse_no_names:DefX P w K mg base 3 "refuse_no_names" ["words"] [] (J6 eB)):FnOk P w K mg base (jL P w) 4 f fd ["words"] (zL eB JL):=by
 refine F.okX bD (fun vs H Q E h=>?_) (fun cdv A outer s H vs Q E hr h=>?_)
 ·obtain ⟨l,ws,rfl,hl,hsh,qv,qe⟩:=h
  rfl
 obtain ⟨l,ws,rfl,hl,hsh,qv,qe⟩:=h
 have hu:_<cLine:=hr.units0
 have hu1:=kF hr
 refine ⟨_,(jI (kJ (i:=1) bD.nd rfl (by first|exact Or.inl rfl|exact Or.inr rfl) (qB DX_paired qQ hr rfl (jA (zO JB (pv 0) (qW jC) yM) jB)))
   (jI (qV (qB DX_refuse_no_names qQ hr rfl (jA (jF ZX (zO JB (pv 0) (qW jC) (qW jC)) (vQ ["name","way"] (kU 2 []) rfl (qF (jE v1) rfl rfl (by decide +kernel) (by decide +kernel) (by decide +kernel)) (qA 2 [] rfl rfl (by decide +kernel)) (zT (pv 1)) (fun _ _ _ _ _=>(d7 (n:=2) K rfl (zN (j8 (i:=0) (show List.Nodup (["name","way"]:List Str) from by decide +kernel) rfl (by first|exact Or.inl rfl|exact Or.inr rfl)) (zN (j8 (i:=1) (show List.Nodup (["name","way"]:List Str) from by decide +kernel) rfl (by first|exact Or.inl rfl|exact Or.inr rfl)) ZN)))) (fun _ _ _ _ _=>qO) (fun _ _ _ _ _=>(pv 0)))) jB)))
   (jI (j9 (yO (vE (j5 (ZE rfl) (by rfl) T.z_all PyProof.Rows.boot_all (jA (vQ ["name","way"] (kU 2 []) rfl (qF (jE v1) rfl rfl (by decide +kernel) (by decide +kernel) (by decide +kernel)) (qA 2 [] rfl rfl (by decide +kernel)) (zT (pv 1)) (fun _ _ _ _ _=>(d7 (n:=2) K rfl (zN (j8 (i:=0) (show List.Nodup (["name","way"]:List Str) from by decide +kernel) rfl (by first|exact Or.inl rfl|exact Or.inr rfl)) (zN (j8 (i:=1) (show List.Nodup (["name","way"]:List Str) from by decide +kernel) rfl (by first|exact Or.inl rfl|exact Or.inr rfl)) ZN)))) (fun _ _ _ _ _=>qO) (fun _ _ _ _ _=>(yN (i5 K) (pv 1) (JC (v:=.ref tW) rfl T.g_WAYS rfl) (by with_unfolding_all rfl)))) jB)))) (jG (zM zI rfl rfl T.c_BadRow T.x_BadRow (jA jK jB))) kD)
   (jG (jP (vF (jA jK (jA (jR kC (pv 0) jC (fun _ _=>rfl)) (jA (jR kC (pv 0) jC (fun _ _=>rfl)) (jA (pv 1) jB)))))))))),?_⟩
 unfold JL at qv qe
 have s0:=Same.refl H
 have h100:=hsh.2.1
 refine ⟨_,rfl,_,rfl,l,_,rfl,SqL.of hl,fun p hp=>?_⟩
 rw [show (some (3:Int))=some ((3:Nat):Int) from rfl,ZD]
 have s1:=jO hp (.lst ((ws.drop 3).map V.str))
 refine ⟨p,_,rfl,jH,by rw [List.length_map,List.length_drop];omega,fun hP t ts H2 s2 ht0 ht hlen hts=>?_,fun hP H2 s2=>qe (if_pos (by rw [List.length_map] at hP;exact hP)) H2 (s1.trans s2)⟩
 rw [List.length_map] at hP hlen
 rw [if_neg (fun x=>by rw [hP] at x;cases x)] at qv qe
 obtain ⟨m,hm,m1,m8⟩:=dG hP
 have hm3:=hm
 rw [List.length_drop] at hm3
 have s12:=s1.trans s2
 have hl2:=s12 _ _ hl
 have hpl:=d6 (ws.drop 3)
 have pat:∀(i:Nat) (v:V),ts[i]?=some v→∃(T:Addr) (q:Str×Str),v=.ref T∧H2 T=some (.tup [.str q.1,.str q.2])∧(kO (ws.drop 3))[i]?=some q:=fun i v hv=>by
  obtain ⟨T,x,y,h3,h4,h5,h6⟩:=hts i v hv
  have hi:i<(ws.drop 3).length / 2:=by have:=(List.getElem?_eq_some_iff.mp hv).1;omega
  rw [cU h5,cU h6] at h4
  exact ⟨T,_,h3,h4,eK hi⟩
 have hmem:∀w∈(kO (ws.drop 3)).map (·.1),w∈ws.drop 1:=fun w hw=>by
  obtain ⟨q,hq,rfl⟩:=List.mem_map.mp hw
  exact oZ (nX hq).1
 generalize kO (ws.drop 3)=ps at qv qe pat hpl hmem
 refine ⟨_,rfl,_,rfl,_,rfl,l,_,rfl,SqL.of hl2,fun p2 hp2=>?_⟩
 rw [o0 (by omega)]
 have s3:=jO hp2 (.lst (((ws.drop 1).take 2).map V.str))
 have hp2b:upd H2 p2 (.lst (((ws.drop 1).take 2).map V.str)) p2=some (.lst (((ws.drop 1).take 2).map V.str)):=jH
 generalize upd H2 p2 (.lst (((ws.drop 1).take 2).map V.str))=H3 at s3 hp2b ⊢
 refine ⟨_,rfl,t,rfl,⟨_,SqT.of (s3 _ _ ht)⟩,fun D hD=>?_⟩
 refine Q9 (K:=K) (a:=t) (xs:=ts) (fun i σ Hi=>∃c1 c2:Option V,σ=[c1,c2]∧Hi D=some (.lst (((ps.take i).map (·.1)).map V.str))∧Same H3 Hi) ⟨none,none,rfl,jH,jO hD _⟩ (fun i σ Hi _ ⟨_,_,_,_,s⟩=>SqT.of (s _ _ (s3 _ _ ht))) ?_ ?_
 ·rintro i v σ Hi hv ⟨c1,c2,rfl,hY,sm⟩
  obtain ⟨T,q,rfl,hT,hq⟩:=pat i v hv
  have hi:i<m:=by have:=(List.getElem?_eq_some_iff.mp hv).1;omega
  refine ⟨T,_,rfl,SqT.of (sm _ _ (s3 _ _ hT)),rfl,_,_,rfl,_,_,rfl,rfl,qG (jS ⟨_,rfl,_,hY,vJ (by rw [List.length_map,List.length_map,List.length_take];omega),some (.str q.1),some (.str q.2),rfl,?_,qM hD sm⟩)⟩
  rw [jH,List.take_add_one,hq,List.map_append,List.map_append]
  rfl
 rintro σ H4 ⟨c1,c2,rfl,hD4,s4⟩
 have hps:ps.length=ts.length:=by omega
 rw [← hps,List.take_length] at hD4
 have nsh:((ws.drop 1).take 2).length=2:=by rw [List.length_take,List.length_drop];omega
 refine ⟨p2,D,_,_,rfl,rfl,s4 _ _ hp2b,hD4,vT (by rw [List.length_map,List.length_map,List.length_map];omega),fun p3 hp3=>?_⟩
 have s5:=jO hp3 (.lst (((ws.drop 1).take 2).map V.str++(ps.map (·.1)).map V.str))
 have s35:=(s3.trans s4).trans s5
 refine ⟨p3,(ws.drop 1).take 2++ps.map (·.1),rfl,by rw [jH,List.map_append],hsh.sub (by rw [List.length_append,List.length_map];omega) (fun w hw=>?_),fun hg H6 s6=>?_,fun hg H6 s6=>qe (if_pos hg) H6 (s12.trans (s35.trans s6))⟩
 ·rcases List.mem_append.mp hw with hw|hw
  ·exact List.mem_of_mem_take hw
  ·exact hmem w hw
 rw [if_neg (fun x=>by rw [show ((ws.drop 1).take 2++ps.map (·.1)).all yU=true from hg] at x;cases x)] at qv qe
 have s36:=s35.trans s6
 refine ⟨_,rfl,t,rfl,⟨_,SqT.of (s36 _ _ ht)⟩,fun D2 hD2=>?_⟩
 refine Q9 (K:=K) (a:=t) (xs:=ts) (fun i σ Hi=>∃c1 c2:Option V,σ=[c1,c2]∧Hi D2=some (.lst (((ps.take i).map fun q=>vY q.2).map V.bl))∧Same H6 Hi) ⟨none,none,rfl,jH,jO hD2 _⟩ (fun i σ Hi _ ⟨_,_,_,_,s⟩=>SqT.of (s _ _ (s36 _ _ ht))) ?_ ?_
 ·rintro i v σ Hi hv ⟨c1,c2,rfl,hY,sm⟩
  obtain ⟨T1,q,rfl,hT,hq⟩:=pat i v hv
  have hi:i<m:=by have:=(List.getElem?_eq_some_iff.mp hv).1;omega
  refine ⟨T1,_,rfl,SqT.of (sm _ _ (s36 _ _ hT)),rfl,_,_,rfl,_,_,rfl,rfl,qG (jS ⟨_,rfl,tW,_,rfl,.inr (T.ways Hi),rfl,rfl,?_⟩)⟩
  show ∃zs,Hi D2=some (.lst zs)∧zs.length<sizeLine∧_
  refine ⟨_,hY,vJ (by rw [List.length_map,List.length_map,List.length_take];omega),some (.str q.1),some (.str q.2),rfl,?_,qM hD2 sm⟩
  rw [jH,List.take_add_one,hq,List.map_append,List.map_append]
  show some (HO.lst (_++[V.bl (QU (.str q.2) [V.str "up",V.str "down"])]))=_
  rw [m6]
  rfl
 rintro σ H7 ⟨c1,c2,rfl,hD7,s7⟩
 rw [← hps,List.take_length] at hD7
 refine ⟨D2,_,rfl,SqL.of hD7,_,rfl,?_⟩
 have s27:=s36.trans s7
 have eall:(ps.map fun q=>vY q.2).all id=(ps.map (·.2)).all vY:=by rw [List.all_map,List.all_map];rfl
 rw [eall]
 cases hw:(ps.map (·.2)).all vY with
 |false=>exact eZ rfl ⟨by show 1≤sizeLine;decide,qe (by rw [hw];rfl) H7 (s12.trans s27)⟩
 |true =>
  rw [hw] at qv
  refine e8 rfl ⟨_,rfl,l,_,_,_,rfl,rfl,SqL.of (s27 _ _ hl2),JM (k:=1) (by omega),_,rfl,l,_,_,_,rfl,rfl,SqL.of (s27 _ _ hl2),JM (k:=2) (by omega),_,rfl,zz4,fun e he0=>?_⟩
  have s8:=jO he0 (.tup [V.str "come",.str (ws.getD 1 ""),.str (ws.getD 2 ""),.ref t])
  have s28:=s27.trans s8
  refine qv _ rfl _ _ (s12.trans s28) ⟨e,_,rfl,jH,fL (congrArg V.str come_eq) ?_ ?_ ⟨t,ts,rfl,s28 _ _ ht,?_⟩⟩
  ·show V.str (ws.getD 1 "")=V.str (strL (cp (ws.getD 1 "")));rw [v2]
  ·show V.str (ws.getD 2 "")=V.str (strL (cp (ws.getD 2 "")));rw [v2]
  ·refine ⟨by rw [List.length_map,List.length_map];exact hps.symm,fun i v hv=>?_⟩
   obtain ⟨T1,q,h1,hT,hq⟩:=pat i v hv
   refine ⟨(Pt.s (cp q.1),Pt.s (cp q.2)),by rw [List.getElem?_map,List.getElem?_map,hq];rfl,T1,h1,?_⟩
   show _=some (HO.tup [V.str (strL (cp q.1)),V.str (strL (cp q.2))])
   rw [v2,v2]
   exact s28 _ _ hT
theorem gT:FnScope ["words"] ["words"] (jE zA):=⟨rfl,rfl,rfl,by decide +kernel,rfl,by decide +kernel,by decide +kernel⟩
theorem gD {f:Addr} {fd:FuncData} (F:Fun K "named_read" "named_read" zA f fd) (T:Txt K mg jX jW jZ jY eC eB tW) (DX_refuse_other_length:DefX P w K mg base 1 "refuse_other_length" ["words","many"] [] (ZU eB)) (DX_refuse_no_names:DefX P w K mg base 3 "refuse_no_names" ["words"] [] (J6 eB)):FnOk P w K mg base (jL P w) 4 f fd ["words"] (zL eB JF):=by
 refine F.okX gT (fun vs H Q E h=>?_) (fun cdv A outer s H vs Q E hr h=>?_)
 ·obtain ⟨l,ws,rfl,hl,hsh,qv,qe⟩:=h
  rfl
 obtain ⟨l,ws,rfl,hl,hsh,qv,qe⟩:=h
 have hu:_<cLine:=hr.units0
 have hu1:=kF hr
 refine ⟨_,(jI (qV (qB DX_refuse_other_length qQ hr rfl (jA (pv 0) (jA jC jB))))
   (jI (qV (qB DX_refuse_no_names qQ hr rfl (jA (zO JB (pv 0) (qW jC) yM) jB)))
   (jG (jP (vF (jA (jR kC (pv 0) jC (fun _ _=>rfl)) (jA (jR kC (pv 0) jC (fun _ _=>rfl)) jB))))))),?_⟩
 unfold JF at qv qe
 have s0:=Same.refl H
 refine ⟨_,rfl,l,_,2,rfl,hl,fun h2=>?_,fun h2=>qe (by rw [if_pos (by rw [List.length_map] at h2;exact h2)]) H s0⟩
 rw [List.length_map] at h2
 rw [if_neg (fun x=>x h2)] at qv qe
 refine ⟨_,rfl,_,rfl,l,_,rfl,SqL.of hl,fun p hp=>?_⟩
 rw [show (some (1:Int))=some ((1:Nat):Int) from rfl,ZD]
 have s1:=jO hp (.lst ((ws.drop 1).map V.str))
 refine ⟨p,ws.drop 1,rfl,jH,hsh.sub (by rw [List.length_drop];omega) (fun w hw=>hw),fun hg H2 s2=>?_,fun hg H2 s2=>qe (if_pos hg) H2 (s1.trans s2)⟩
 rw [if_neg (fun x=>by rw [show (ws.drop 1).all yU=true from hg] at x;cases x)] at qv
 have s12:=s1.trans s2
 refine ⟨_,rfl,l,_,_,_,rfl,rfl,SqL.of (s12 _ _ hl),v8 (by omega),_,rfl,l,_,_,_,rfl,rfl,SqL.of (s12 _ _ hl),JM (k:=1) (by omega),zz2,fun t ht0=>?_⟩
 have s3:=jO ht0 (.tup [V.str (ws.getD 0 ""),.str (ws.getD 1 "")])
 refine qv _ rfl _ _ (s12.trans s3) ⟨t,_,rfl,jH,QR ?_ ?_⟩
 ·show V.str (ws.getD 0 "")=V.str (strL (cp (ws.getD 0 "")));rw [v2]
 ·show V.str (ws.getD 1 "")=V.str (strL (cp (ws.getD 1 "")));rw [v2]
theorem gP:FnScope ["words"] ["words"] (jE y6):=⟨rfl,rfl,rfl,by decide +kernel,rfl,by decide +kernel,by decide +kernel⟩
theorem fW {f:Addr} {fd:FuncData} (F:Fun K "amount_read" "amount_read" y6 f fd) (T:Txt K mg jX jW jZ jY eC eB tW) (DX_refuse_other_length:DefX P w K mg base 1 "refuse_other_length" ["words","many"] [] (ZU eB)) (DX_refuse_no_names:DefX P w K mg base 3 "refuse_no_names" ["words"] [] (J6 eB)) (DX_number_of:DefX P w K mg base 3 "number_of" ["word"] [] (ZT eB)):FnOk P w K mg base (jL P w) 4 f fd ["words"] (zL eB JD):=by
 refine F.okX gP (fun vs H Q E h=>?_) (fun cdv A outer s H vs Q E hr h=>?_)
 ·obtain ⟨l,ws,rfl,hl,hsh,qv,qe⟩:=h
  rfl
 obtain ⟨l,ws,rfl,hl,hsh,qv,qe⟩:=h
 have hu:_<cLine:=hr.units0
 have hu1:=kF hr
 refine ⟨_,(jI (qV (qB DX_refuse_other_length qQ hr rfl (jA (pv 0) (jA jC jB))))
   (jI (qV (qB DX_refuse_no_names qQ hr rfl (jA (zO JB (pv 0) (qW jC) (qW jC)) jB)))
   (jG (jP (vF (jA (jR kC (pv 0) jC (fun _ _=>rfl)) (jA (jR kC (pv 0) jC (fun _ _=>rfl)) (jA (qB DX_number_of qQ hr rfl (jA (jR kC (pv 0) jC (fun _ _=>rfl)) jB)) jB)))))))),?_⟩
 unfold JD at qv qe
 have s0:=Same.refl H
 refine ⟨_,rfl,l,_,3,rfl,hl,fun h2=>?_,fun h2=>qe (by rw [if_pos (by rw [List.length_map] at h2;exact h2)]) H s0⟩
 rw [List.length_map] at h2
 rw [if_neg (fun x=>x h2)] at qv qe
 refine ⟨_,rfl,_,rfl,_,rfl,l,_,rfl,SqL.of hl,fun p hp=>?_⟩
 rw [o3 (by omega)]
 have s1:=jO hp (.lst (((ws.drop 1).take 1).map V.str))
 refine ⟨p,(ws.drop 1).take 1,rfl,jH,hsh.sub (by rw [List.length_take,List.length_drop];omega) (fun w hw=>List.mem_of_mem_take hw),fun hg H2 s2=>?_,fun hg H2 s2=>qe (if_pos hg) H2 (s1.trans s2)⟩
 rw [if_neg (fun x=>by rw [show ((ws.drop 1).take 1).all yU=true from hg] at x;cases x)] at qv qe
 have s12:=s1.trans s2
 have hm2:ws.getD 2 ""∈ws.drop 1:=by
  rw [List.getD_eq_getElem?_getD,List.getElem?_eq_getElem (by omega)]
  exact List.mem_of_getElem? (i:=1) (by rw [List.getElem?_drop,List.getElem?_eq_getElem (by omega)];rfl)
 refine ⟨_,rfl,l,_,_,_,rfl,rfl,SqL.of (s12 _ _ hl),v8 (by omega),_,rfl,l,_,_,_,rfl,rfl,SqL.of (s12 _ _ hl),JM (k:=1) (by omega),_,rfl,l,_,_,_,rfl,rfl,SqL.of (s12 _ _ hl),JM (k:=2) (by omega),_,rfl,hsh.2.2 _ hm2,fun hn H3 s3=>⟨zz3,fun t ht0=>?_⟩,fun hn H3 s3=>qe (if_pos hn) H3 (s12.trans s3)⟩
 rw [if_neg (fun x=>by rw [hn] at x;cases x)] at qv
 have s4:=jO ht0 (.tup [V.str (ws.getD 0 ""),.str (ws.getD 1 ""),.int (kB (ws.getD 2 ""))])
 refine qv _ rfl _ _ ((s12.trans s3).trans s4) ⟨t,_,rfl,jH,fM ?_ ?_ ?_⟩
 ·show V.str (ws.getD 0 "")=V.str (strL (cp (ws.getD 0 "")));rw [v2]
 ·show V.str (ws.getD 1 "")=V.str (strL (cp (ws.getD 1 "")));rw [v2]
 ·show V.int (kB (ws.getD 2 ""))=V.int ((kB (ws.getD 2 "")).toNat:Int);rw [ZL]
theorem bE:FnScope ["row","words"] ["row"] (jE y7):=⟨rfl,rfl,rfl,by decide +kernel,rfl,by decide +kernel,by decide +kernel⟩
theorem fZ {f:Addr} {fd:FuncData} (F:Fun K "entry_of" "entry_of" y7 f fd) (T:Txt K mg jX jW jZ jY eC eB tW) (DX_come_read:DefX P w K mg base 4 "come_read" ["words"] [] (zL eB JL)) (DX_paired:DefX P w K mg base 1 "paired" ["parts"] [] (ZF eB)) (DX_numbers_of:DefX P w K mg base 4 "numbers_of" ["words"] [] (dY eB)) (DX_named_read:DefX P w K mg base 4 "named_read" ["words"] [] (zL eB JF)) (DX_amount_read:DefX P w K mg base 4 "amount_read" ["words"] [] (zL eB JD)):FnOk P w K mg base (jL P w) 5 f fd ["row"] (ZG eB):=by
 refine F.okX bE (fun vs H Q E h=>?_) (fun cdv A outer s H vs Q E hr h=>?_)
 ·obtain ⟨row,rfl,⟨hz,hsh⟩,qv,qe⟩:=h
  rfl
 obtain ⟨row,rfl,⟨hz,hsh⟩,qv,qe⟩:=h
 have hu:_<cLine:=hr.units0
 have hu1:=kF hr
 refine ⟨_,(jI (kJ (i:=1) bE.nd rfl (by first|exact Or.inl rfl|exact Or.inr rfl) (qC PySem.F.plainAttrs_str PySem.F.slot_str_split PySem.F.type_str_split dL (pv 0) (jA jK jB)))
   (jI (j9 (kI kT (jR kC (pv 1) jC (fun _ _=>rfl)) jK (j6 _)) (jG (jP (qB DX_come_read qQ hr rfl (jA (pv 1) jB)))) kD)
   (jI (j9 (kI kT (jR kC (pv 1) jC (fun _ _=>rfl)) jK (j6 _)) (jG (jP (vF (jA jK (jA (qB DX_paired qQ hr rfl (jA (qB DX_numbers_of qQ hr rfl (jA (zO JB (pv 1) (qW jC) yM) jB)) jB)) jB))))) kD)
   (jI (j9 (PW.pt (zX (kI kT (jR kC (pv 1) jC (fun _ _=>rfl)) jK (j6 _)) (zR (kI kT (jR kC (pv 1) jC (fun _ _=>rfl)) jK (j6 _))))) (jG (jP (qB DX_named_read qQ hr rfl (jA (pv 1) jB)))) kD)
   (jI (j9 (PW.pt (zX (kI kT (jR kC (pv 1) jC (fun _ _=>rfl)) jK (j6 _)) (zR (kI kT (jR kC (pv 1) jC (fun _ _=>rfl)) jK (j6 _))))) (jG (jP (qB DX_amount_read qQ hr rfl (jA (pv 1) jB)))) kD)
   (jG (zM zI rfl rfl T.c_BadRow T.x_BadRow (jA jK jB)))))))),?_⟩
 unfold kZ at qv qe
 refine ⟨_,rfl,rfl,row,kX,rfl,rfl,rfl,hz,fun l hl0=>?_⟩
 have s0:=jO hl0 (.lst ((Txt.split row kX).map V.str))
 have hl:upd H l (.lst ((Txt.split row kX).map V.str)) l=some (.lst ((Txt.split row kX).map V.str)):=jH
 generalize upd H l (.lst ((Txt.split row kX).map V.str))=H1 at s0 hl ⊢
 generalize Txt.split row kX=ws at hl hsh qv qe
 have h1:=hsh.1
 have h100:=hsh.2.1
 unfold yP at qv qe
 have w0:∀(z:Str) (A B:Prop),(ws.getD 0 ""=z→A)→(¬ws.getD 0 ""=z→B)→(if decide (V.str (ws.getD 0 "")=V.str z)=true then A else B):=fun z A B ha hb=>by
  by_cases h:ws.getD 0 ""=z
  ·exact vB (congrArg V.str h) (ha h)
  ·exact qD (fun x=>h (V.str.inj x)) (hb h)
 refine ⟨_,rfl,l,_,_,_,rfl,rfl,SqL.of hl,v8 h1,rfl,_,rfl,w0 _ _ _ (fun hc=>?_) (fun hc=>?_)⟩
 ·rw [if_pos hc] at qv qe
  exact ⟨_,rfl,l,ws,rfl,hl,hsh,fun e he v H' s' hv=>qv e he v H' (s0.trans s') hv,fun he H' s'=>qe he H' (s0.trans s')⟩
 rw [if_neg hc] at qv qe
 refine ⟨_,rfl,l,_,_,_,rfl,rfl,SqL.of hl,v8 h1,rfl,_,rfl,w0 _ _ _ (fun hn=>?_) (fun hn=>?_)⟩
 ·rw [if_pos hn] at qv qe
  unfold ZY at qv qe
  refine ⟨_,rfl,_,rfl,l,_,rfl,SqL.of hl,fun p hp=>?_⟩
  rw [show (some (1:Int))=some ((1:Nat):Int) from rfl,ZD]
  have s1:=jO hp (.lst ((ws.drop 1).map V.str))
  refine ⟨p,ws.drop 1,rfl,jH,hsh.sub (by rw [List.length_drop];omega) (fun w hw=>hw),fun hg p2 H2 s2 hp20 hp2=>?_,fun hg H2 s2=>qe (if_pos hg) H2 (s0.trans (s1.trans s2))⟩
  rw [if_neg (fun x=>by rw [hg] at x;cases x)] at qv qe
  have s12:=s1.trans s2
  refine ⟨p2,_,rfl,hp2,by rw [List.length_map,List.length_map,List.length_drop];omega,fun hP t ts H3 s3 ht0 ht hlen hts=>?_,fun hP H3 s3=>qe (if_pos (by rw [List.length_map,List.length_map] at hP;exact hP)) H3 (s0.trans (s12.trans s3))⟩
  rw [List.length_map,List.length_map] at hP hlen
  rw [if_neg (fun x=>by rw [hP] at x;cases x)] at qv
  refine ⟨zz2,fun e he0=>?_⟩
  have s4:=jO he0 (.tup [V.str "night",.ref t])
  refine qv _ rfl _ _ (s0.trans ((s12.trans s3).trans s4)) ⟨e,_,rfl,jH,QR (congrArg V.str night_eq) ⟨t,ts,rfl,s4 _ _ ht,?_⟩⟩
  refine ⟨by rw [List.length_map,List.length_map,d6];exact hlen,fun i v hv=>?_⟩
  obtain ⟨T1,x,y,h3,h4,h5,h6⟩:=hts i v hv
  have hi:i<(ws.drop 1).length / 2:=by have:=(List.getElem?_eq_some_iff.mp hv).1;omega
  refine ⟨_,by rw [List.getElem?_map,List.getElem?_map,eK hi];rfl,T1,h3,?_⟩
  show _=some (HO.tup [V.int ((kB ((ws.drop 1).getD (2*i) "")).toNat:Int),V.int ((kB ((ws.drop 1).getD (2*i+1) "")).toNat:Int)])
  rw [ZL,ZL,← dM h5,← dM h6]
  exact s4 _ _ h4
 rw [if_neg hn] at qv qe
 have orb:∀(z1 z2:Str) (A B:Prop),((ws.getD 0 ""=z1∨ws.getD 0 ""=z2)→A)→(¬(ws.getD 0 ""=z1∨ws.getD 0 ""=z2)→B)→True:=fun _ _ _ _ _ _=>trivial
 clear orb
 refine ⟨_,rfl,l,_,_,_,rfl,rfl,SqL.of hl,v8 h1,rfl,_,rfl,w0 _ _ _ (fun hp=>jS ?_) (fun hp=>⟨_,rfl,l,_,_,_,rfl,rfl,SqL.of hl,v8 h1,rfl,_,rfl,w0 _ _ _ (fun hl2=>?_) (fun hl2=>?_)⟩)⟩
 ·rw [if_pos (.inl hp)] at qv qe
  exact ⟨_,rfl,l,ws,rfl,hl,hsh,fun e he v H' s' hv=>qv e he v H' (s0.trans s') hv,fun he H' s'=>qe he H' (s0.trans s')⟩
 ·rw [if_pos (.inr hl2)] at qv qe
  exact ⟨_,rfl,l,ws,rfl,hl,hsh,fun e he v H' s' hv=>qv e he v H' (s0.trans s') hv,fun he H' s'=>qe he H' (s0.trans s')⟩
 rw [if_neg (fun x=>x.elim hp hl2)] at qv qe
 refine ⟨_,rfl,l,_,_,_,rfl,rfl,SqL.of hl,v8 h1,rfl,_,rfl,w0 _ _ _ (fun ht=>jS ?_) (fun ht=>⟨_,rfl,l,_,_,_,rfl,rfl,SqL.of hl,v8 h1,rfl,_,rfl,w0 _ _ _ (fun hr2=>?_) (fun hr2=>?_)⟩)⟩
 ·rw [if_pos (.inl ht)] at qv qe
  exact ⟨_,rfl,l,ws,rfl,hl,hsh,fun e he v H' s' hv=>qv e he v H' (s0.trans s') hv,fun he H' s'=>qe he H' (s0.trans s')⟩
 ·rw [if_pos (.inr hr2)] at qv qe
  exact ⟨_,rfl,l,ws,rfl,hl,hsh,fun e he v H' s' hv=>qv e he v H' (s0.trans s') hv,fun he H' s'=>qe he H' (s0.trans s')⟩
 rw [if_neg (fun x=>x.elim ht hr2)] at qe
 exact ⟨by show 1≤sizeLine;decide,qe rfl H1 s0⟩
theorem gQ:FnScope ["text"] ["text"] (jE yB):=⟨rfl,rfl,rfl,by decide +kernel,rfl,by decide +kernel,by decide +kernel⟩
theorem fY {f:Addr} {fd:FuncData} (F:Fun K "entries_of" "entries_of" yB f fd) (T:Txt K mg jX jW jZ jY eC eB tW) (D_rows_of:Def P w K mg base 1 "rows_of" ["text"] [] (cZ)) (DX_entry_of:DefX P w K mg base 5 "entry_of" ["row"] [] (ZG eB)):FnOk P w K mg base (jL P w) 6 f fd ["text"] (bY eB):=by
 refine F.okX gQ (fun vs H Q E h=>?_) (fun cdv A outer s H vs Q E hr h=>?_)
 ·obtain ⟨z,rfl,hz,hrs,hn9,qv,qe⟩:=h
  rfl
 obtain ⟨z,rfl,hz,hrs,hn9,qv,qe⟩:=h
 have hu:_<cLine:=hr.units0
 have hu1:=kF hr
 refine ⟨_,(jG (jP (dE ["row"] (kU 1 []) (qF (jE yB) rfl rfl (by decide +kernel) (by decide +kernel) (by decide +kernel)) (qA 1 [] rfl rfl (by decide +kernel)) (vK (kG D_rows_of hr rfl (jA (pv 0) jB))) (fun _ _ _ _ _=>(j8 (i:=0) (show List.Nodup (["row"]:List Str) from by decide +kernel) rfl (by first|exact Or.inl rfl|exact Or.inr rfl))) (fun _ _ _ _ _=>qO) (fun _ _ _ _ _=>(qB DX_entry_of cA hr rfl (jA (pv 0) jB)))))),?_⟩
 refine ⟨_,rfl,z,rfl,hz,hn9,fun rl H1 s1 hrl0 hrl=>?_⟩
 have hrn:(vA z).length≤999:=Nat.le_trans (List.length_filter_le _ _) hn9
 generalize vA z=R at hrl hrn hrs qv qe
 refine ⟨rl,rfl,⟨_,SqL.of hrl⟩,fun D hD=>?_⟩
 refine vH (K:=K) (a:=rl) (xs:=R.map V.str) (caps:=[]) (fun i ys Hi=>∃es:List En,(R.take i).map kZ=es.map some∧AllAt (fun v (e:En)=>EnAt Hi v e.ps) ys es) hD (SqL.of hrl) ⟨[],rfl,AllAt.nil⟩ ?_ ?_
 ·rintro i v ys Hi hv hi hle sm hY ⟨es,hes,hA⟩
  obtain ⟨row,hrow,rfl⟩:=yL hv
  have hi9:i<999:=by rw [List.length_map] at hi;omega
  have hm:=List.mem_of_getElem? hrow
  refine qG (jS ⟨_,rfl,row,rfl,hrs row hm,fun e he v H' s' hv=>qN hD sm hY hle (by omega) s' ⟨es++[e],?_,?_⟩,fun he H' s'=>qe ⟨row,hm,he⟩ _ ((s1.trans sm).trans s')⟩)
  ·rw [List.take_add_one,hrow,List.map_append,List.map_append,hes]
   show _++[kZ row]=_
   rw [he]
   rfl
  ·exact AllAt.snoc (hA.mono fun v x h=>EnAt.put (s' _ _ hY) (EnAt.same s' v _ h)) (EnAt.put (s' _ _ hY) hv)
 rintro ys Hf sm hY hle ⟨es,hes,hA⟩
 rw [List.length_map,List.take_length] at hes
 exact qv es hes D ys Hf (s1.trans sm) (s1.free hD) hY hA
theorem z8:FnScope ["seed","name","k"] ["seed"] (jE yY):=⟨rfl,rfl,rfl,by decide +kernel,rfl,by decide +kernel,by decide +kernel⟩
theorem fU {f:Addr} {fd:FuncData} (F:Fun K "_law_name" "_law_name" yY f fd) (T:Txt K mg jX jW jZ jY eC eB tW) : FnOk P w K mg base kK 1 f fd ["seed"] (dZ):=by
 refine F.ok z8 (fun vs H Q E h=>?_) (fun cdv A outer s H vs Q E hr h=>?_)
 ·obtain ⟨c,rfl,q⟩:=h
  rfl
 obtain ⟨c,rfl,q⟩:=h
 have hu:_<cLine:=hr.units0
 have hu1:=kF hr
 refine ⟨_,(jI (kJ (i:=1) z8.nd rfl (by first|exact Or.inl rfl|exact Or.inr rfl) jK)
   (jI (vR PassesOwn.never rfl (zJ (by rfl) T.z_range (jA (jF v4 jC (jF kA (pv 0) jC)) jB)) (j8 (i:=2) z8.nd rfl (by first|exact Or.inl rfl|exact Or.inr rfl))
    (jI (kJ (i:=0) z8.nd rfl (by first|exact Or.inl rfl|exact Or.inr rfl) (jF kA (jF ZW (jF v4 (pv 0) jC) jC) jC))
   (jG (kJ (i:=1) z8.nd rfl (by first|exact Or.inl rfl|exact Or.inr rfl) (jF zF (pv 1) (jR Z0 jK (jF kA (pv 0) jC) (fun _ _=>rfl)))))))
   (jG (jP (pv 1))))),?_⟩
 have m0:=Int.emod_nonneg c (by decide:(12:Int)≠0)
 have m1:=Int.emod_lt_of_pos c (by decide:(0:Int)<12)
 refine ⟨_,rfl,_,_,rfl,rfl,(by show (0:Int)<12;decide),_,_,rfl,rfl,_,rfl,by omega,by omega,yK (n:=(1+c%12).toNat) (fun i σ Hi=>∃(s:Int) (l:List Nat) (k:Option V),σ=[some (.int s),some (.str (strL l)),k]∧l.length=i∧(∀c∈l,97≤c∧c≤122)∧H=Hi) ⟨c,[],none,by rw [← nE];rfl,rfl,(fun _ h=>nomatch h),rfl⟩ ?_ ?_⟩
 ·rintro i σ Hi hi ⟨s,l,k,rfl,hl,ha,rfl⟩
  refine ⟨_,rfl,_,_,rfl,rfl,_,_,rfl,rfl,.inr ⟨by decide,by decide⟩,_,_,rfl,rfl,(by show (0:Int)<2147483647;decide),?_⟩
  try dsimp only
  generalize (s+1)*48271%2147483647=s2
  refine ⟨_,rfl,_,rfl,_,_,rfl,rfl,(by show (0:Int)<26;decide),_,_,_,rfl,rfl,iI,mI s2,_,_,rfl,rfl,vT (by rw [J5,show (⟨#[vD (s2%26).toNat]⟩:Str).length=1 from rfl];omega),?_⟩
  refine ⟨s2,l++[vD (s2%26).toNat],some (.int (0+(i:Int))),?_,by rw [List.length_append,hl];rfl,fun c hc=>?_,rfl⟩
  ·rw [mX,mP];rfl
  ·rcases List.mem_append.mp hc with hc|hc
   ·exact ha c hc
   ·rw [List.mem_singleton.mp hc];exact lS s2
 ·rintro σ Hi ⟨s,l,k,rfl,hl,ha,rfl⟩
  exact ⟨_,rfl,q l (by omega) (by omega) ha⟩
theorem qX:FnScope ["cell","seed","amount","steps","k","rest","weather"] ["cell"] (jE yX):=⟨rfl,rfl,rfl,by decide +kernel,rfl,by decide +kernel,by decide +kernel⟩
theorem fT {f:Addr} {fd:FuncData} (F:Fun K "_law_entry" "_law_entry" yX f fd) (T:Txt K mg jX jW jZ jY eC eB tW) (D__law_name:Def P w K mg base 1 "_law_name" ["seed"] [] (dZ)):FnOk P w K mg base kK 2 f fd ["cell"] (dB):=by
 refine F.ok qX (fun vs H Q E h=>?_) (fun cdv A outer s H vs Q E hr h=>?_)
 ·obtain ⟨c,rfl,q⟩:=h
  rfl
 obtain ⟨c,rfl,q⟩:=h
 have hu:_<cLine:=hr.units0
 have hu1:=kF hr
 refine ⟨_,(jI (kJ (i:=1) qX.nd rfl (by first|exact Or.inl rfl|exact Or.inr rfl) (jF kA (jF q8 (pv 0) jC) jC))
   (jI (kJ (i:=2) qX.nd rfl (by first|exact Or.inl rfl|exact Or.inr rfl) (jF kA (jF q8 (pv 0) jC) jC))
   (nV (j9 (kI kT (jF kA (pv 1) jC) jC (j6 _)) (jG (kJ (i:=2) qX.nd rfl (by first|exact Or.inl rfl|exact Or.inr rfl) jC)) kD)
   (jI (j9 (kI kT (jF kA (pv 0) jC) jC (j6 _)) (jI (kJ (i:=3) qX.nd rfl (by first|exact Or.inl rfl|exact Or.inr rfl) (vC jB))
   (jI (vR PassesOwn.never rfl (zJ (by rfl) T.z_range (jA (jF v4 jC (jF kA (pv 1) jC)) jB)) (j8 (i:=4) qX.nd rfl (by first|exact Or.inl rfl|exact Or.inr rfl))
    (jI (kJ (i:=1) qX.nd rfl (by first|exact Or.inl rfl|exact Or.inr rfl) (jF kA (jF ZW (jF v4 (pv 1) jC) jC) jC))
   (jG (qV (qC PySem.F.plainAttrs_list PySem.F.slot_list_append PySem.F.type_list_append yJ (pv 3) (jA (vF (jA (kG D__law_name hr rfl (jA (pv 1) jB)) (jA (jR kC (vC (jA jK (jA jK jB))) (jF kA (jF q8 (pv 1) jC) jC) (fun _ _=>rfl)) jB))) jB))))))
   (jG (jP (vF (jA jK (jA (kG D__law_name hr rfl (jA (jF kA (jF q8 (pv 0) jC) jC) jB)) (jA (kG D__law_name hr rfl (jA (jF kA (jF q8 (pv 0) jC) jC) jB)) (jA (vI bH (by rfl) T.z_tuple PyProof.Rows.boot_tuple (jA (pv 3) jB)) jB))))))))) kD)
   (jI (j9 (kI kT (jF kA (pv 0) jC) jC (j6 _)) (jI (kJ (i:=5) qX.nd rfl (by first|exact Or.inl rfl|exact Or.inr rfl) (jF kA (jF q8 (pv 0) jC) (jF ZV jC jC)))
   (jI (kJ (i:=6) qX.nd rfl (by first|exact Or.inl rfl|exact Or.inr rfl) (vC jB))
   (jI (vR PassesOwn.never rfl (zJ (by rfl) T.z_range (jA (jF v4 jC (jF kA (pv 1) jC)) jB)) (j8 (i:=4) qX.nd rfl (by first|exact Or.inl rfl|exact Or.inr rfl))
    (jI (qV (qC PySem.F.plainAttrs_list PySem.F.slot_list_append PySem.F.type_list_append yJ (pv 6) (jA (vF (jA (jF kA (pv 5) (jF ZV jC jC)) (jA (jF kA (jF q8 (pv 5) jC) (jF ZV jC jC)) jB))) jB)))
   (jG (kJ (i:=5) qX.nd rfl (by first|exact Or.inl rfl|exact Or.inr rfl) (jF v4 (jF q8 (pv 5) jC) (jF ZW (jF v4 (pv 4) jC) (pv 2)))))))
   (jG (jP (vF (jA jK (jA (vI bH (by rfl) T.z_tuple PyProof.Rows.boot_tuple (jA (pv 6) jB)) jB)))))))) kD)
   (jI (j9 (kI eX (jF kA (pv 0) jC) jC (j6 _)) (jG (jP (vF (jA (jR kC (vC (jA jK (jA jK (jA jK jB)))) (jF kA (pv 0) jC) (fun _ _=>rfl)) (jA (kG D__law_name hr rfl (jA (pv 1) jB)) jB))))) kD)
   (jG (jP (vF (jA (jR kC (vC (jA jK (jA jK jB))) (jF eM (jF kA (pv 0) jC) jC) (fun _ _=>rfl)) (jA (kG D__law_name hr rfl (jA (jF kA (jF q8 (pv 0) jC) jC) jB)) (jA (pv 2) jB)))))))))))),?_⟩
 refine ⟨_,rfl,_,_,rfl,rfl,⟨by decide,by decide⟩,_,_,rfl,rfl,(by show (0:Int)<2147483629;decide),_,rfl,_,_,rfl,rfl,⟨by decide,by decide⟩,_,_,rfl,rfl,(by show (0:Int)<1000000000000;decide),?_⟩
 obtain ⟨am0,ea,la⟩:=vN (a:=c / 42) (b:=1000000000000) (by decide)
 try dsimp only
 rw [ea]
 obtain ⟨sd,es,ls⟩:=vN (a:=c / 6) (b:=2147483629) (by decide)
 rw [es]
 refine ⟨fun σ' H'=>∃am:Nat,σ'=[some (.int c),some (.int (sd:Int)),some (.int (am:Int)),none,none,none,none]∧am<1000000000000∧H=H',?_,?_⟩
 ·refine ⟨_,rfl,_,_,rfl,rfl,(by show (0:Int)<7;decide),rfl,_,rfl,Z6 (fun _=>⟨999999999999,rfl,by decide,rfl⟩) (fun _=>⟨am0,rfl,by omega,rfl⟩)⟩
 rintro σ' H' ⟨am,rfl,ha12,rfl⟩
 have m0:=Int.emod_nonneg c (by decide:(6:Int)≠0)
 have m1:=Int.emod_lt_of_pos c (by decide:(0:Int)<6)
 have d0:0≤(sd:Int)%8∧(sd:Int)%8<8:=⟨Int.emod_nonneg _ (by decide),Int.emod_lt_of_pos _ (by decide)⟩
 refine ⟨_,rfl,_,_,rfl,rfl,(by show (0:Int)<6;decide),rfl,_,rfl,?_⟩
 by_cases h0:c%6=0
 ·refine vB (congrArg V.int h0) ⟨Nat.zero_le _,fun l hl0=>?_⟩
  have s0:=jO hl0 (.lst [])
  refine ⟨_,rfl,_,_,rfl,rfl,(by show (0:Int)<8;decide),_,_,rfl,rfl,_,rfl,by omega,by omega,yK (n:=(1+(sd:Int)%8).toNat) (fun i σ Hi=>∃(s:Int) (k:Option V) (us:List V) (ps:List (List Nat×List Nat)),σ=[some (.int c),some (.int s),some (.int (am:Int)),some (.ref l),k,none,none]∧Hi l=some (.lst us)∧AllAt (PrAt Hi) us (ps.map fun q=>(Pt.s q.1,Pt.s q.2))∧ps.length=i∧(∀q∈ps,yA q.1∧JN q.2)∧Same H Hi) ⟨(sd:Int),none,[],[],rfl,jH,AllAt.nil,rfl,(fun _ h=>nomatch h),s0⟩ ?_ ?_⟩
  ·rintro i σ Hi hi ⟨s,k,us,ps,rfl,hY,hA,hpl,hps,sm⟩
   refine ⟨_,rfl,_,_,rfl,rfl,_,_,rfl,rfl,.inr ⟨by decide,by decide⟩,_,_,rfl,rfl,(by show (0:Int)<2147483647;decide),?_⟩
   try dsimp only
   generalize (s+1)*69621%2147483647=s2
   refine ⟨_,rfl,.inl ⟨rfl,_,SqL.of hY⟩,_,rfl,_,rfl,fun nm n1 n2 n3=>⟨zz2,fun l2 hl2=>?_⟩⟩
   have t2:=jO hl2 (.lst [V.str "up",V.str "down"])
   obtain ⟨wy,hwy,hat⟩:∃wy,JN wy∧kM [V.str "up",V.str "down"] (s2 / 12%2)=some (.str (strL wy)):=by
    obtain ⟨z,ez,lz⟩:=vN (a:=s2 / 12) (b:=2) (by decide)
    rw [ez]
    rcases z with _|_|z
    ·exact ⟨Z9,.inl rfl,by rw [← eR];exact kL (j:=0) rfl⟩
    ·exact ⟨Z4,.inr rfl,by rw [← eD];exact kL (j:=1) rfl⟩
    ·omega
   refine ⟨_,rfl,_,_,rfl,rfl,⟨by decide,by decide⟩,_,_,rfl,rfl,(by show (0:Int)<2;decide),l2,_,_,_,rfl,rfl,SqL.of jH,hat,zz2,fun t ht0=>?_⟩
   have t3:=jO ht0 (.tup [V.str (strL nm),.str (strL wy)])
   have t23:=t2.trans t3
   have hul:us.length≤8:=by have:=hA.1;rw [List.length_map] at this;omega
   refine ⟨l,_,_,rfl,rfl,t23 _ _ hY,vJ (by omega),?_⟩
   have smf:=qM hl0 (sm.trans t23) (o:=.lst (us++[V.ref t]))
   have kp:∀(b:Addr) (vs:List V),upd (upd Hi l2 (.lst [V.str "up",V.str "down"])) t (.tup [V.str (strL nm),.str (strL wy)]) b=some (.tup vs)→upd (upd (upd Hi l2 (.lst [V.str "up",V.str "down"])) t (.tup [V.str (strL nm),.str (strL wy)])) l (.lst (us++[V.ref t])) b=some (.tup vs):=fun b vs hb=>by
    rw [j7 (JI hb (t23 _ _ hY) (fun z=>nomatch z))]
    exact hb
   refine ⟨s2,_,us++[.ref t],ps++[(nm,wy)],rfl,jH,?_,by rw [List.length_append,hpl];rfl,fun q hq=>?_,smf⟩
   ·rw [List.map_append]
    refine AllAt.snoc (hA.mono fun v x ⟨t',e1,e2⟩=>⟨t',e1,kp _ _ (t23 _ _ e2)⟩) ⟨t,rfl,kp _ _ jH⟩
   ·rcases List.mem_append.mp hq with hq|hq
    ·exact hps q hq
    ·rw [List.mem_singleton.mp hq];exact ⟨⟨n1,n2,n3⟩,hwy⟩
  ·rintro σ Hi ⟨s,k,us,ps,rfl,hY,hA,hpl,hps,sm⟩
   refine ⟨_,rfl,_,_,rfl,rfl,⟨by decide,by decide⟩,_,_,rfl,rfl,(by show (0:Int)<2147483629;decide),_,rfl,fun nm n1 n2 n3=>⟨_,rfl,_,_,rfl,rfl,⟨by decide,by decide⟩,_,_,rfl,rfl,(by show (0:Int)<1000003;decide),_,rfl,fun st m1 m2 m3=>?_⟩⟩
   refine ⟨_,rfl,l,us,rfl,.inl ⟨SqL.of hY,fun t ht0=>⟨zz4,fun e he0=>?_⟩⟩⟩
   have t1:=jO ht0 (.tup us)
   have t2:=jO he0 (.tup [V.str "come",.str (strL nm),.str (strL st),.ref t])
   have t12:=t1.trans t2
   refine q _ (.come nm st ps) _ (sm.trans t12) ⟨e,_,rfl,jH,?_⟩ ⟨⟨n1,n2,n3⟩,⟨m1,m2,m3⟩,by omega,by omega,hps⟩
   exact fL (congrArg V.str come_eq) rfl rfl ⟨t,us,rfl,t2 _ _ jH,hA.mono fun v x=>PrAt.same t12 v x⟩
 refine qD (fun x=>h0 (V.int.inj x)) ⟨_,rfl,_,_,rfl,rfl,(by show (0:Int)<6;decide),rfl,_,rfl,?_⟩
 by_cases h3:c%6=3
 ·refine vB (congrArg V.int h3) ⟨_,rfl,_,_,rfl,rfl,⟨by decide,by decide⟩,_,_,rfl,rfl,⟨by decide,by decide,by decide⟩,_,_,rfl,rfl,(show (0:Int)<10 ^ Int.toNat 24 from by decide +kernel),?_⟩
  have e12:(10:Int) ^ Int.toNat 12=1000000000000:=by decide +kernel
  obtain ⟨rs,er,lr⟩:=vN (a:=c / 48) (b:=10 ^ Int.toNat 24) (by decide +kernel)
  try dsimp only
  rw [er]
  refine ⟨Nat.zero_le _,fun l hl0=>?_⟩
  have s0:=jO hl0 (.lst [])
  refine ⟨_,rfl,_,_,rfl,rfl,(by show (0:Int)<8;decide),_,_,rfl,rfl,_,rfl,by omega,by omega,yK (n:=(1+(sd:Int)%8).toNat) (fun i σ Hi=>∃(s:Nat) (k:Option V) (us:List V) (ps:List (Nat×Nat)),σ=[some (.int c),some (.int (sd:Int)),some (.int (am:Int)),none,k,some (.int (s:Int)),some (.ref l)]∧Hi l=some (.lst us)∧AllAt (PrAt Hi) us (ps.map fun q=>(Pt.n q.1,Pt.n q.2))∧ps.length=i∧(∀q∈ps,q.1<1000000000000∧q.2<1000000000000)∧Same H Hi) ⟨rs,none,[],[],rfl,jH,AllAt.nil,rfl,(fun _ h=>nomatch h),s0⟩ ?_ ?_⟩
  ·rintro i σ Hi hi ⟨s,k,us,ps,rfl,hY,hA,hpl,hps,sm⟩
   rw [Int.zero_add]
   have hi8:i<8:=by omega
   refine ⟨_,rfl,.inl ⟨rfl,_,SqL.of hY⟩,_,rfl,_,_,rfl,rfl,⟨by decide,by decide,by decide⟩,_,_,rfl,rfl,(show (0:Int)<10 ^ Int.toNat 12 from by decide +kernel),_,rfl,_,_,rfl,rfl,⟨by decide,by decide⟩,_,_,rfl,rfl,⟨by decide,by decide,by decide⟩,_,_,rfl,rfl,(show (0:Int)<10 ^ Int.toNat 12 from by decide +kernel),?_⟩
   obtain ⟨x,ex,lx⟩:=vN (a:=(s:Int)) (b:=10 ^ Int.toNat 12) (by decide +kernel)
   obtain ⟨y,ey,ly⟩:=vN (a:=(s:Int) / 1000) (b:=10 ^ Int.toNat 12) (by decide +kernel)
   try dsimp only
   rw [ex,ey]
   rw [e12] at lx ly
   refine ⟨zz2,fun t ht0=>?_⟩
   have t3:=jO ht0 (.tup [V.int (x:Int),.int (y:Int)])
   have hul:us.length≤8:=by have:=hA.1;rw [List.length_map] at this;omega
   refine ⟨l,_,_,rfl,rfl,t3 _ _ hY,vJ (by omega),?_⟩
   have smf:=qM hl0 (sm.trans t3) (o:=.lst (us++[V.ref t]))
   have kp:∀(b:Addr) (vs:List V),upd Hi t (.tup [V.int (x:Int),.int (y:Int)]) b=some (.tup vs)→upd (upd Hi t (.tup [V.int (x:Int),.int (y:Int)])) l (.lst (us++[V.ref t])) b=some (.tup vs):=fun b vs hb=>by
    rw [j7 (JI hb (t3 _ _ hY) (fun z=>nomatch z))]
    exact hb
   refine ⟨_,rfl,_,_,rfl,rfl,⟨by decide,by decide⟩,_,rfl,_,_,rfl,rfl,_,rfl,_,_,rfl,rfl,.inl ⟨by omega,by omega⟩,_,_,rfl,rfl,?_⟩
   have hnn:(0:Int)≤(s:Int) / 100000+((i:Int)+1)*(am:Int):=Int.add_nonneg (Int.ediv_nonneg (Int.natCast_nonneg _) (by decide)) (Int.mul_nonneg (by omega) (Int.natCast_nonneg _))
   obtain ⟨r2,hr2⟩:=Int.eq_ofNat_of_zero_le hnn
   try dsimp only
   rw [hr2]
   refine ⟨r2,_,us++[.ref t],ps++[(x,y)],rfl,jH,?_,by rw [List.length_append,hpl];rfl,fun q hq=>?_,smf⟩
   ·rw [List.map_append]
    refine AllAt.snoc (hA.mono fun v x ⟨t',e1,e2⟩=>⟨t',e1,kp _ _ (t3 _ _ e2)⟩) ⟨t,rfl,kp _ _ jH⟩
   ·rcases List.mem_append.mp hq with hq|hq
    ·exact hps q hq
    ·rw [List.mem_singleton.mp hq];exact ⟨by omega,by omega⟩
  ·rintro σ Hi ⟨s,k,us,ps,rfl,hY,hA,hpl,hps,sm⟩
   refine ⟨_,rfl,l,us,rfl,.inl ⟨SqL.of hY,fun t ht0=>⟨zz2,fun e he0=>?_⟩⟩⟩
   have t1:=jO ht0 (.tup us)
   have t2:=jO he0 (.tup [V.str "night",.ref t])
   have t12:=t1.trans t2
   refine q _ (.night ps) _ (sm.trans t12) ⟨e,_,rfl,jH,?_⟩ ⟨by omega,by omega,hps⟩
   exact QR (congrArg V.str night_eq) ⟨t,us,rfl,t2 _ _ jH,hA.mono fun v x=>PrAt.same t12 v x⟩
 refine qD (fun x=>h3 (V.int.inj x)) ⟨_,rfl,_,_,rfl,rfl,(by show (0:Int)<6;decide),_,_,rfl,rfl,_,rfl,?_⟩
 by_cases h2:c%6<3
 ·refine vB h2 ⟨zz3,fun l hl0=>?_⟩
  have t1:=jO hl0 (.lst [V.str "",V.str "pass",V.str "let"])
  obtain ⟨w,hw,hat⟩:∃w,(w=QK∨w=QQ)∧kM [V.str "",V.str "pass",V.str "let"] (c%6)=some (.str (strL w)):=by
   obtain ⟨z,ez,lz⟩:=vN (a:=c) (b:=6) (by decide)
   rw [ez] at h0 h2 ⊢
   rcases z with _|_|_|z
   ·exact absurd rfl h0
   ·exact ⟨QK,.inl rfl,by rw [← ZO];exact kL (j:=1) rfl⟩
   ·exact ⟨QQ,.inr rfl,by rw [← ZZ];exact kL (j:=2) rfl⟩
   ·omega
  refine ⟨_,rfl,_,_,rfl,rfl,(by show (0:Int)<6;decide),l,_,_,_,rfl,rfl,SqL.of jH,hat,_,rfl,_,rfl,fun nm n1 n2 n3=>⟨zz2,fun e he0=>?_⟩⟩
  have t2:=jO he0 (.tup [V.str (strL w),.str (strL nm)])
  exact q _ (.named w nm) _ (t1.trans t2) ⟨e,_,rfl,jH,AllAt.snoc (AllAt.snoc AllAt.nil (x:=Ep.p (.s w)) rfl) (x:=Ep.p (.s nm)) rfl⟩ ⟨hw,⟨n1,n2,n3⟩⟩
 refine qD h2 ⟨zz2,fun l hl0=>?_⟩
 have t1:=jO hl0 (.lst [V.str "take",V.str "rain"])
 obtain ⟨w,hw,hat⟩:∃w,(w=QH∨w=QJ)∧kM [V.str "take",V.str "rain"] (c%6 - 4)=some (.str (strL w)):=by
  obtain ⟨z,ez,lz⟩:=vN (a:=c) (b:=6) (by decide)
  rw [ez] at h3 h2 ⊢
  rcases z with _|_|_|_|_|_|z
  ·exact absurd (by decide) h2
  ·exact absurd (by decide) h2
  ·exact absurd (by decide) h2
  ·exact absurd rfl h3
  ·exact ⟨QH,.inl rfl,by rw [← dX];exact kL (j:=0) rfl⟩
  ·exact ⟨QJ,.inr rfl,by rw [← d5];exact kL (j:=1) rfl⟩
  ·omega
 refine ⟨_,rfl,_,_,rfl,rfl,(by show (0:Int)<6;decide),_,_,rfl,rfl,l,_,_,_,rfl,rfl,SqL.of jH,hat,_,rfl,_,_,rfl,rfl,⟨by decide,by decide⟩,_,_,rfl,rfl,(by show (0:Int)<2147483629;decide),_,rfl,fun nm n1 n2 n3=>⟨_,rfl,zz3,fun e he0=>?_⟩⟩
 have t2:=jO he0 (.tup [V.str (strL w),.str (strL nm),.int (am:Int)])
 exact q _ (.amount w nm am) _ (t1.trans t2) ⟨e,_,rfl,jH,AllAt.snoc (AllAt.snoc (AllAt.snoc AllAt.nil (x:=Ep.p (.s w)) rfl) (x:=Ep.p (.s nm)) rfl) (x:=Ep.p (.n am)) rfl⟩ ⟨hw,⟨n1,n2,n3⟩,ha12⟩
theorem JR:FnScope ["entry","words","part","pair"] ["entry"] (jE y0):=⟨rfl,rfl,rfl,by decide +kernel,rfl,by decide +kernel,by decide +kernel⟩
theorem fV {f:Addr} {fd:FuncData} (F:Fun K "_law_words" "_law_words" y0 f fd) (T:Txt K mg jX jW jZ jY eC eB tW) : FnOk P w K mg base kK 1 f fd ["entry"] (cX K):=by
 refine F.ok JR (fun vs H Q E h=>?_) (fun cdv A outer s H vs Q E hr h=>?_)
 ·obtain ⟨v,e,rfl,⟨a,vs,rfl,ha,hA⟩,hok,he4,q⟩:=h
  rfl
 obtain ⟨v,e,rfl,⟨a,vs,rfl,ha,hA⟩,hok,he4,q⟩:=h
 have hu:_<cLine:=hr.units0
 have hu1:=kF hr
 refine ⟨_,(jI (kJ (i:=1) JR.nd rfl (by first|exact Or.inl rfl|exact Or.inr rfl) (vC jB))
   (jI (vR PassesOwn.never rfl (zT (pv 0)) (j8 (i:=2) JR.nd rfl (by first|exact Or.inl rfl|exact Or.inr rfl))
    (jG (j9 (vE (j5 qR (by rfl) T.z_isinstance PyProof.Rows.boot_isinstance (jA (pv 2) (jA (qS (v:=.ty "tuple") rfl T.z_tuple PyProof.Rows.boot_tuple rfl) jB)))) (jG (vR PassesOwn.never rfl (zT (pv 2)) (j8 (i:=3) JR.nd rfl (by first|exact Or.inl rfl|exact Or.inr rfl))
    (jI (qV (qC PySem.F.plainAttrs_list PySem.F.slot_list_append PySem.F.type_list_append yJ (pv 1) (jA (vI zK (by rfl) T.z_str PyProof.Rows.boot_str (jA (jR ix_tup (pv 3) jC (fun _ _=>rfl)) jB)) jB)))
   (jG (qV (qC PySem.F.plainAttrs_list PySem.F.slot_list_append PySem.F.type_list_append yJ (pv 1) (jA (vI zK (by rfl) T.z_str PyProof.Rows.boot_str (jA (jR ix_tup (pv 3) jC (fun _ _=>rfl)) jB)) jB))))))) (jG (qV (qC PySem.F.plainAttrs_list PySem.F.slot_list_append PySem.F.type_list_append yJ (pv 1) (jA (vI zK (by rfl) T.z_str PyProof.Rows.boot_str (jA (pv 2) jB)) jB)))))))
   (jG (jP (pv 1))))),?_⟩
 have lens:∀i,(jT (e.take i)).length≤64:=fun i=>by
  have:=(Q8 (e:=e.take i) fun x hx=>hok x (List.mem_of_mem_take hx)).1
  rw [List.length_take] at this
  omega
 refine ⟨Nat.zero_le _,fun l hl0=>?_⟩
 have s0:=jO hl0 (.lst [])
 refine ⟨_,rfl,a,rfl,⟨_,SqT.of (s0 _ _ ha)⟩,ZP (K:=K) (a:=a) (xs:=vs) (fun i σ Hi=>∃c2 c3:Option V,σ=[some (.ref a),some (.ref l),c2,c3]∧Hi l=some (.lst ((jT (e.take i)).map V.str))∧Same H Hi) ⟨none,none,rfl,jH,s0⟩ (fun i σ Hi _ ⟨_,_,_,_,s⟩=>SqT.of (s _ _ ha)) ?_ ?_⟩
 ·rintro i v σ Hi hv ⟨c2,c3,rfl,hY,sm⟩
  obtain ⟨x,hx,hvx⟩:=hA.2 i v hv
  have hokx:=hok x (List.mem_of_getElem? hx)
  have h64:=lens i
  cases x with
  |p y =>
   have hvx:v=y.v:=hvx
   subst hvx
   obtain ⟨ty,hty,hkit⟩:=oN (K:=K) (H:=Hi) y
   refine ⟨_,rfl,_,_,_,_,_,rfl,rfl,hty,hkit,_,rfl,kS ⟨_,rfl,.inl ⟨rfl,_,SqL.of hY⟩,_,rfl,_,_,rfl,Pt.show hokx,l,_,_,rfl,rfl,hY,vJ (by rw [List.length_map];omega),?_⟩⟩
   refine ⟨_,_,rfl,?_,qM hl0 sm⟩
   rw [jH,JT hx,List.map_append]
   rfl
  |l ps =>
   obtain ⟨t,us,rfl,ht,hus⟩:=hvx
   refine ⟨_,rfl,_,_,_,_,_,rfl,rfl,TyOf.tup (sm _ _ ht),qZ "tuple",_,rfl,jS ?_⟩
   refine ⟨_,rfl,t,rfl,⟨_,SqT.of (sm _ _ ht)⟩,ZP (K:=K) (a:=t) (xs:=us) (fun j σ Hj=>∃c3:Option V,σ=[some (.ref a),some (.ref l),some (.ref t),c3]∧Hj l=some (.lst ((jT (e.take i)++jN (ps.take j)).map V.str))∧Same H Hj) ⟨_,rfl,by rw [hY];show _=some (HO.lst ((jT (e.take i)++[]).map V.str));rw [List.append_nil],sm⟩ (fun i σ Hi _ ⟨_,_,_,s⟩=>SqT.of (s _ _ ht)) ?_ ?_⟩
   ·rintro j u σ Hj hu ⟨c3,rfl,hYj,smj⟩
    obtain ⟨q0,hq0,tq,rfl,htq⟩:=hus.2 j u hu
    obtain ⟨o1,o2⟩:=hokx.2 q0 (List.mem_of_getElem? hq0)
    have h16:=bT hokx.1 hokx.2 j
    have htq2:=smj _ _ htq
    have hlt:tq≠l:=JI htq2 hYj (fun z=>nomatch z)
    refine ⟨_,rfl,.inl ⟨rfl,_,SqL.of hYj⟩,_,rfl,tq,_,_,_,rfl,rfl,SqT.of htq2,kL (j:=0) rfl,_,_,rfl,Pt.show o1,l,_,_,rfl,rfl,hYj,vJ (by rw [List.length_map,List.length_append];omega),?_⟩
    have htq3:upd Hj l (.lst ((jT (e.take i)++jN (ps.take j)).map V.str++[V.str q0.1.t])) tq=some (.tup [q0.1.v,q0.2.v]):=by rw [j7 hlt];exact htq2
    refine ⟨_,rfl,.inl ⟨rfl,_,SqL.of jH⟩,_,rfl,tq,_,_,_,rfl,rfl,SqT.of htq3,kL (j:=1) rfl,_,_,rfl,Pt.show o2,l,_,_,rfl,rfl,jH,vJ (by rw [List.length_append,List.length_map,List.length_append];show _+1≤_;omega),?_⟩
    refine ⟨_,rfl,?_,qM hl0 (qM hl0 smj)⟩
    rw [jH,bJ hq0,← List.append_assoc,List.map_append (l₁:=jT (e.take i)++jN (ps.take j)),List.append_assoc]
    rfl
   ·rintro σ Hj ⟨c3,rfl,hYj,smj⟩
    rw [hus.1,List.take_length] at hYj
    refine ⟨_,_,rfl,?_,smj⟩
    rw [hYj,JT hx]
    rfl
 ·rintro σ Hi ⟨c2,c3,rfl,hY,sm⟩
  rw [hA.1,List.take_length] at hY
  exact ⟨_,rfl,q l Hi sm hl0 hY⟩
theorem bC:FnScope ["found","due","k"] ["found","due"] (jE yZ):=⟨rfl,rfl,rfl,by decide +kernel,rfl,by decide +kernel,by decide +kernel⟩
theorem z7 {f:Addr} {fd:FuncData} {k0 n0:Nat} (F:Fun K "_law_same" "_law_same" yZ f fd) (T:Txt K mg jX jW jZ jY eC eB tW) (D__law_same:Def P w K mg base k0 "_law_same" ["found","due"] [] (vP n0)):FnOk P w K mg base kK (k0+1) f fd ["found","due"] (vP (n0+1)):=by
 refine F.ok bC (fun vs H Q E h=>?_) (fun cdv A outer s H vs Q E hr h=>?_)
 ·obtain ⟨f1,d1,rfl,hal,q⟩:=h
  rfl
 obtain ⟨f1,d1,rfl,hal,q⟩:=h
 have hu:_<cLine:=hr.units0
 have hu1:=kF hr
 refine ⟨_,(jI (j9 (PW.pt (zX (vE (j5 qR (by rfl) T.z_isinstance PyProof.Rows.boot_isinstance (jA (pv 1) (jA (qS (v:=.ty "tuple") rfl T.z_tuple PyProof.Rows.boot_tuple rfl) jB)))) (zR (vE (j5 qR (by rfl) T.z_isinstance PyProof.Rows.boot_isinstance (jA (pv 1) (jA (qS (v:=.ty "list") rfl T.z_list PyProof.Rows.boot_list rfl) jB))))))) (jI (j9 (PW.pt (zX (kI yS (j5 qR (by rfl) T.z_isinstance PyProof.Rows.boot_isinstance (jA (pv 0) (jA (qS (v:=.ty "tuple") rfl T.z_tuple PyProof.Rows.boot_tuple rfl) jB))) (j5 qR (by rfl) T.z_isinstance PyProof.Rows.boot_isinstance (jA (pv 1) (jA (qS (v:=.ty "tuple") rfl T.z_tuple PyProof.Rows.boot_tuple rfl) jB))) (j6 _)) (zR (kI yS (j5 qR (by rfl) T.z_isinstance PyProof.Rows.boot_isinstance (jA (pv 0) (jA (qS (v:=.ty "list") rfl T.z_list PyProof.Rows.boot_list rfl) jB))) (j5 qR (by rfl) T.z_isinstance PyProof.Rows.boot_isinstance (jA (pv 1) (jA (qS (v:=.ty "list") rfl T.z_list PyProof.Rows.boot_list rfl) jB))) (j6 _))))) (jG (jP zY)) kD)
   (jI (j9 (kI yS (j5 vL (by rfl) T.z_len PySem.boot_len (jA (pv 0) jB)) (j5 vL (by rfl) T.z_len PySem.boot_len (jA (pv 1) jB)) (j6 _)) (jG (jP zY)) kD)
   (jI (vR PassesOwn.never rfl (zJ (by rfl) T.z_range (jA (j5 vL (by rfl) T.z_len PySem.boot_len (jA (pv 1) jB)) jB)) (j8 (i:=2) bC.nd rfl (by first|exact Or.inl rfl|exact Or.inr rfl))
    (jG (j9 (yO (vE (kG D__law_same hr rfl (jA (jR eN (pv 0) (pv 2) (fun _ _=>rfl)) (jA (jR eN (pv 1) (pv 2) (fun _ _=>rfl)) jB)) (hk:=Nat.le_refl _)))) (jG (jP zY)) kD)))
   (jG (jP zY))))) kD)
   (jI (j9 (vE (j5 qR (by rfl) T.z_isinstance PyProof.Rows.boot_isinstance (jA (pv 1) (jA (qS (v:=.ty "str") rfl T.z_str PyProof.Rows.boot_str rfl) jB)))) (jG (jP (zV (j5 qR (by rfl) T.z_isinstance PyProof.Rows.boot_isinstance (jA (pv 0) (jA (qS (v:=.ty "str") rfl T.z_str PyProof.Rows.boot_str rfl) jB))) (zU (yN kT (pv 0) (pv 1) (j6 _)))))) kD)
   (jG (jP (zV (j5 qR (by rfl) T.z_isinstance PyProof.Rows.boot_isinstance (jA (pv 0) (jA (qS (v:=.ty "int") rfl T.z_int PyProof.Rows.boot_int rfl) jB))) (zV (oR (j5 qR (by rfl) T.z_isinstance PyProof.Rows.boot_isinstance (jA (pv 0) (jA (qS (v:=.ty "bool") rfl T.z_bool PyProof.Rows.boot_bool rfl) jB)))) (zU (yN kT (pv 0) (pv 1) (j6 _))))))))),?_⟩
 rcases iU hal with (⟨z,rfl,rfl⟩|⟨n,rfl,rfl⟩)|⟨m,rfl,a,b,xs,ys,l,rfl,rfl,ha,hb,hlen,h1000,hall⟩
 ·refine ⟨_,rfl,_,_,_,_,_,rfl,rfl,TyOf.str _,bL,_,rfl,kS ⟨_,rfl,_,_,_,_,_,rfl,rfl,TyOf.str _,iN,_,rfl,kS ?_⟩⟩
  refine ⟨_,rfl,_,_,_,_,_,rfl,rfl,TyOf.str _,qZ "str",_,rfl,jS ⟨_,rfl,_,_,_,_,_,rfl,rfl,TyOf.str _,qZ "str",_,rfl,jS ⟨_,rfl,_,rfl,rfl,?_⟩⟩⟩
  rw [decide_eq_true rfl]
  exact q
 ·refine ⟨_,rfl,_,_,_,_,_,rfl,rfl,TyOf.int _,bM,_,rfl,kS ⟨_,rfl,_,_,_,_,_,rfl,rfl,TyOf.int _,iP,_,rfl,kS ?_⟩⟩
  refine ⟨_,rfl,_,_,_,_,_,rfl,rfl,TyOf.int _,iO,_,rfl,kS ⟨_,rfl,_,_,_,_,_,rfl,rfl,TyOf.int _,qZ "int",_,rfl,jS ⟨_,rfl,_,_,_,_,_,rfl,rfl,TyOf.int _,iK,_,rfl,_,rfl,jS ⟨_,rfl,_,rfl,rfl,?_⟩⟩⟩⟩
  rw [decide_eq_true rfl]
  exact q
 cases l with
 |true =>
  have hA:SqL K H a xs∨SqT K H a xs:=QE true ha
  have hB:SqL K H b ys∨SqT K H b ys:=QE true hb
  have ha:H a=some (.lst xs):=ha
  have hb:H b=some (.lst ys):=hb
  refine ⟨_,rfl,_,_,_,_,_,rfl,rfl,TyOf.lst hb,Q4,_,rfl,kS ⟨_,rfl,_,_,_,_,_,rfl,rfl,TyOf.lst hb,qZ "list",_,rfl,jS ?_⟩⟩
  refine ⟨_,rfl,_,_,_,_,_,rfl,rfl,TyOf.lst ha,Q4,_,rfl,_,_,_,_,_,rfl,rfl,TyOf.lst hb,Q4,rfl,_,rfl,vV rfl ?_⟩
  refine ⟨_,rfl,_,_,_,_,_,rfl,rfl,TyOf.lst ha,qZ "list",_,rfl,_,_,_,_,_,rfl,rfl,TyOf.lst hb,qZ "list",rfl,_,rfl,vV rfl ?_⟩
  refine ⟨_,rfl,a,_,rfl,hA,_,rfl,b,_,rfl,hB,rfl,_,rfl,vV (by rw [hlen]) ?_⟩
  refine ⟨_,rfl,b,_,rfl,hB,_,rfl,by omega,by omega,yK (n:=((ys.length:Nat):Int).toNat) (fun i σ Hi=>∃c:Option V,σ=[some (.ref a),some (.ref b),c]∧H=Hi) ⟨none,rfl,rfl⟩ ?_ ?_⟩
  ·rintro i σ Hi hi ⟨c,rfl,rfl⟩
   rw [Int.toNat_natCast] at hi
   rw [Int.zero_add]
   have hx:xs[i]?=some xs[i]:=List.getElem?_eq_getElem (by omega)
   have hy:ys[i]?=some ys[i]:=List.getElem?_eq_getElem hi
   exact ⟨_,rfl,_,rfl,QF hA hx ⟨_,rfl,_,rfl,QF hB hy ⟨_,_,rfl,hall i _ _ hx hy,_,rfl,kS ⟨_,rfl,rfl⟩⟩⟩⟩
  ·rintro σ Hi ⟨c,rfl,rfl⟩
   exact q
 |false =>
  have hA:SqL K H a xs∨SqT K H a xs:=QE false ha
  have hB:SqL K H b ys∨SqT K H b ys:=QE false hb
  have ha:H a=some (.tup xs):=ha
  have hb:H b=some (.tup ys):=hb
  refine ⟨_,rfl,_,_,_,_,_,rfl,rfl,TyOf.tup hb,qZ "tuple",_,rfl,jS (jS ?_)⟩
  refine ⟨_,rfl,_,_,_,_,_,rfl,rfl,TyOf.tup ha,qZ "tuple",_,rfl,_,_,_,_,_,rfl,rfl,TyOf.tup hb,qZ "tuple",rfl,_,rfl,vV rfl ?_⟩
  refine ⟨_,rfl,_,_,_,_,_,rfl,rfl,TyOf.tup ha,bK,_,rfl,_,_,_,_,_,rfl,rfl,TyOf.tup hb,bK,rfl,_,rfl,vV rfl ?_⟩
  refine ⟨_,rfl,a,_,rfl,hA,_,rfl,b,_,rfl,hB,rfl,_,rfl,vV (by rw [hlen]) ?_⟩
  refine ⟨_,rfl,b,_,rfl,hB,_,rfl,by omega,by omega,yK (n:=((ys.length:Nat):Int).toNat) (fun i σ Hi=>∃c:Option V,σ=[some (.ref a),some (.ref b),c]∧H=Hi) ⟨none,rfl,rfl⟩ ?_ ?_⟩
  ·rintro i σ Hi hi ⟨c,rfl,rfl⟩
   rw [Int.toNat_natCast] at hi
   rw [Int.zero_add]
   have hx:xs[i]?=some xs[i]:=List.getElem?_eq_getElem (by omega)
   have hy:ys[i]?=some ys[i]:=List.getElem?_eq_getElem hi
   exact ⟨_,rfl,_,rfl,QF hA hx ⟨_,rfl,_,rfl,QF hB hy ⟨_,_,rfl,hall i _ _ hx hy,_,rfl,kS ⟨_,rfl,rfl⟩⟩⟩⟩
  ·rintro σ Hi ⟨c,rfl,rfl⟩
   exact q
theorem qY:FnScope ["script","entries","rows","text","k","found","again"] ["script"] (jE qP):=⟨rfl,rfl,rfl,by decide +kernel,rfl,by decide +kernel,by decide +kernel⟩
theorem gC {f:Addr} {fd:FuncData} (F:Fun K "law" "law" qP f fd) (T:Txt K mg jX jW jZ jY eC eB tW) (D__law_entry:Def P w K mg base 2 "_law_entry" ["cell"] [] (dB)) (D__law_words:Def P w K mg base 1 "_law_words" ["entry"] [] (cX K)) (D_entries_of:Def P w K mg base 6 "entries_of" ["text"] [] (Q1)) (D__law_same:Def P w K mg base 5 "_law_same" ["found","due"] [] (vP 5)) (D_entry_of:Def P w K mg base 5 "entry_of" ["row"] [] (ZA)) (D_written:Def P w K mg base 3 "written" ["entries"] [] (bX K)):FnOk P w K mg base kK 8 f fd ["script"] (QI K):=by
 refine F.ok qY (fun vs H Q E h=>?_) (fun cdv A outer s H vs Q E hr h=>?_)
 ·obtain ⟨a,ns,rfl,hS,h63,q⟩:=h
  rfl
 obtain ⟨a,ns,rfl,hS,h63,q⟩:=h
 have hu:_<cLine:=hr.units0
 have hu1:=kF hr
 refine ⟨_,(jI (bZ (i:=1) ["cell"] (kU 1 []) qY.nd rfl (by first|exact Or.inl rfl|exact Or.inr rfl) rfl (qF (jE qP) rfl rfl (by decide +kernel) (by decide +kernel) (by decide +kernel)) (qA 1 [] rfl rfl (by decide +kernel)) (vK (pv 0)) (fun _ _ _ _ _=>(j8 (i:=0) (show List.Nodup (["cell"]:List Str) from by decide +kernel) rfl (by first|exact Or.inl rfl|exact Or.inr rfl))) (fun _ _ _ _ _=>qO) (fun _ _ _ _ _=>(kG D__law_entry hr rfl (jA (pv 0) jB))))
   (jI (bZ (i:=2) ["entry"] (kU 1 []) qY.nd rfl (by first|exact Or.inl rfl|exact Or.inr rfl) rfl (qF (jE qP) rfl rfl (by decide +kernel) (by decide +kernel) (by decide +kernel)) (qA 1 [] rfl rfl (by decide +kernel)) (vK (pv 1)) (fun _ _ _ _ _=>(j8 (i:=0) (show List.Nodup (["entry"]:List Str) from by decide +kernel) rfl (by first|exact Or.inl rfl|exact Or.inr rfl))) (fun _ _ _ _ _=>qO) (fun _ _ _ _ _=>(oQ (fun K=>fQ K "str" (eW K) _ _) K (qC PySem.F.plainAttrs_str PySem.F.slot_str_join PySem.F.type_str_join zP jK (jA (kG D__law_words hr rfl (jA (pv 0) jB)) jB)))))
   (jI (kJ (i:=3) qY.nd rfl (by first|exact Or.inl rfl|exact Or.inr rfl) jK)
   (jI (vR PassesOwn.never rfl (zJ (by rfl) T.z_range (jA (j5 vL (by rfl) T.z_len PySem.boot_len (jA (pv 2) jB)) jB)) (j8 (i:=4) qY.nd rfl (by first|exact Or.inl rfl|exact Or.inr rfl))
    (jI (kJ (i:=3) qY.nd rfl (by first|exact Or.inl rfl|exact Or.inr rfl) (jF zF (jF zF (pv 3) (jR kC (pv 2) (pv 4) (fun _ _=>rfl))) jK))
   (jG (j9 (PW.pt (zX (kI eX (jF v4 (pv 4) jC) (j5 vL (by rfl) T.z_len PySem.boot_len (jA (pv 2) jB)) (j6 _)) (zR (kI kT (jF kA (jR kC (pv 0) jC (fun _ _=>rfl)) jC) jC (j6 _))))) (jG (kJ (i:=3) qY.nd rfl (by first|exact Or.inl rfl|exact Or.inr rfl) (jF zF (pv 3) (jF nZ jK (jF kA (jF q8 (jR kC (pv 0) (pv 4) (fun _ _=>rfl)) jC) jC))))) (jG (j9 (kI kT (jF kA (jR kC (pv 0) jC (fun _ _=>rfl)) jC) jC (j6 _)) (jG (kJ (i:=3) qY.nd rfl (by first|exact Or.inl rfl|exact Or.inr rfl) (zO oJ (pv 3) yM (qW (jF eM (j5 bI (by rfl) T.z_len PySem.boot_len (jA (pv 3) jB)) jC))))) kD))))))
   (jI (kJ (i:=5) qY.nd rfl (by first|exact Or.inl rfl|exact Or.inr rfl) (kG D_entries_of hr rfl (jA (pv 3) jB)))
   (jI (j9 (yO (vE (kG D__law_same hr rfl (jA (pv 5) (jA (pv 1) jB))))) (jG (jP zY)) kD)
   (jI (vR PassesOwn.never rfl (zJ (by rfl) T.z_range (jA (j5 vL (by rfl) T.z_len PySem.boot_len (jA (pv 2) jB)) jB)) (j8 (i:=4) qY.nd rfl (by first|exact Or.inl rfl|exact Or.inr rfl))
    (jG (j9 (yO (vE (kG D__law_same hr rfl (jA (kG D_entry_of hr rfl (jA (jR kC (pv 2) (pv 4) (fun _ _=>rfl)) jB)) (jA (jR kC (pv 1) (pv 4) (fun _ _=>rfl)) jB))))) (jG (jP zY)) kD)))
   (jI (kJ (i:=6) qY.nd rfl (by first|exact Or.inl rfl|exact Or.inr rfl) (kG D_written hr rfl (jA (pv 5) jB)))
   (jG (jP (zV (j5 qR (by rfl) T.z_isinstance PyProof.Rows.boot_isinstance (jA (pv 6) (jA (qS (v:=.ty "str") rfl T.z_str PyProof.Rows.boot_str rfl) jB))) (zU (yN kT (pv 6) (qC PySem.F.plainAttrs_str PySem.F.slot_str_join PySem.F.type_str_join zP jK (jA (vQ ["row"] (kU 1 []) rfl (qF (jE qP) rfl rfl (by decide +kernel) (by decide +kernel) (by decide +kernel)) (qA 1 [] rfl rfl (by decide +kernel)) (vK (pv 2)) (fun _ _ _ _ _=>(j8 (i:=0) (show List.Nodup (["row"]:List Str) from by decide +kernel) rfl (by first|exact Or.inl rfl|exact Or.inr rfl))) (fun _ _ _ _ _=>qO) (fun _ _ _ _ _=>(jF zF (pv 0) jK))) jB)) (j6 _)))))))))))))),?_⟩
 refine ⟨_,rfl,a,rfl,⟨_,hS⟩,fun el hel0=>?_⟩
 refine vH (K:=K) (a:=a) (xs:=ns.map V.int) (caps:=[]) (fun i ys Hi=>∃es:List En,AllAt (fun v (e:En)=>EnAt Hi v e.ps) ys es∧(∀e∈es,e.good)∧es.length=i) hel0 hS ⟨[],AllAt.nil,(fun _ h=>nomatch h),rfl⟩ ?_ ?_
 ·rintro i v ys Hi hv hi hle sm hY ⟨es,hA,hg,hl⟩
  obtain ⟨c,rfl,hc⟩:=nA hv
  rw [List.length_map] at hi
  refine qG (jS ⟨_,rfl,c,rfl,fun v e H' s' hv he=>qN hel0 sm hY hle (by omega) s' ⟨es++[e],?_,fun x hx=>?_,by rw [List.length_append,hl];rfl⟩⟩)
  ·exact AllAt.snoc (hA.mono fun v x h=>EnAt.put (s' _ _ hY) (EnAt.same s' v _ h)) (EnAt.put (s' _ _ hY) hv)
  ·rcases List.mem_append.mp hx with hx|hx
   ·exact hg x hx
   ·rw [List.mem_singleton.mp hx];exact he
 rintro ys H1 s1 hel hle ⟨es,hA,hg,hl⟩
 rw [List.length_map] at hl
 have hyl:ys.length=es.length:=hA.1
 refine ⟨_,rfl,el,rfl,⟨_,SqL.of hel⟩,fun rl hrl0=>?_⟩
 refine vH (K:=K) (a:=el) (xs:=ys) (caps:=[]) (fun i zs Hi=>zs=((es.take i).map kQ).map V.str) hrl0 (SqL.of hel) rfl ?_ ?_
 ·rintro i v zs Hi hv hi hle sm hY rfl
  obtain ⟨e,he,hve⟩:=hA.2 i v hv
  have hge:=hg e (List.mem_of_getElem? he)
  obtain ⟨g1,g2⟩:=JU hge
  obtain ⟨w1,w2⟩:=QA hge
  refine qG (jS ⟨rfl,_,rfl,v,e.ps,rfl,EnAt.same sm v _ hve,g2,g1,fun l H' s' hl0 hl=>?_⟩)
  refine ⟨kX,l,jT e.ps,rfl,rfl,SqL.of hl,by decide,by have:=Q7 w1 w2;omega,qN hrl0 sm hY hle (by omega) s' ?_⟩
  rw [List.take_add_one,he,List.map_append,List.map_append]
  rfl
 rintro zs H2 s2 hrl hle2 rfl
 rw [hyl,List.take_length] at hrl
 have hS2:=s2.seq (s1.seq hS)
 have hel2:=s2 _ _ hel
 have hA2:AllAt (fun v (e:En)=>EnAt H2 v e.ps) ys es:=hA.mono fun v x h=>EnAt.same s2 v _ h
 have hRl:(es.map kQ).length=es.length:=List.length_map _
 have hro:∀r∈es.map kQ,r.length≤832∧v5 r∧r≠"":=fun r hr=>by
  obtain ⟨e,he,rfl⟩:=List.mem_map.mp hr
  exact ⟨ZM (hg e he),(cH (hg e he)).1,(cH (hg e he)).2⟩
 have hJ:(es.map kQ).map kZ=es.map some:=by
  rw [List.map_map]
  exact List.map_congr_left fun e he=>(J7 (hg e he)).1
 have hRS:∀r∈es.map kQ,z3 r:=fun r hr=>by
  obtain ⟨e,he,rfl⟩:=List.mem_map.mp hr
  exact (J7 (hg e he)).2
 generalize hRdef:es.map kQ=R at hrl hRl hro hJ hRS
 refine ⟨_,rfl,rl,_,rfl,.inl (SqL.of hrl),_,rfl,by omega,by rw [List.length_map];omega,yK (n:=(((R.map V.str).length:Nat):Int).toNat) (fun i σ Hi=>∃(c4:Option V) (ls:List Str) (z:Str),σ=[some (.ref a),some (.ref el),some (.ref rl),some (.str (jM ls++z)),c4,none,none]∧(∀l∈ls,v5 l)∧v5 z∧(ls++[z]).filter qT=R.take i∧(i<R.length→z="")∧ls.length≤3*i∧(jM ls++z).length≤835*i∧H2=Hi) ⟨none,[],"",rfl,(fun _ h=>nomatch h),(by show 10∉([]:List Nat);simp),by rw [List.take_zero];decide +kernel,(fun _=>rfl),Nat.le_refl _,(by decide +kernel),rfl⟩ ?_ ?_⟩
 ·rintro i σ Hi hi ⟨c4,ls,z,rfl,hpl,hpz,hfl,hz0,hlsl,hlen,rfl⟩
  rw [Int.toNat_natCast,List.length_map] at hi
  rw [Int.zero_add]
  have hz:=hz0 hi
  subst hz
  have hri:R[i]?=some R[i]:=List.getElem?_eq_getElem hi
  obtain ⟨r1,r2,r3⟩:=hro R[i] (List.getElem_mem hi)
  have hT:jM ls++("":Str)=jM ls:=Str.append_empty _
  rw [hT] at hlen ⊢
  have hTl:(jM ls).length≤835*63:=Nat.le_trans hlen (Nat.mul_le_mul_left _ (by omega))
  have hat:kM (R.map V.str) (i:Int)=some (.str R[i]):=kL (by rw [List.getElem?_map,hri];rfl)
  refine ⟨_,rfl,_,rfl,_,rfl,rl,_,_,_,rfl,rfl,SqL.of hrl,hat,_,_,rfl,rfl,zQ (by omega),_,_,rfl,rfl,zQ (by rw [Str.length_append,vO];omega),?_⟩
  have eT:(jM ls++R[i])++("\n":Str)=jM (ls++[R[i]]):=by rw [cT,mM,Str.append_assoc];rfl
  try dsimp only
  rw [eT]
  have hTl2:(jM (ls++[R[i]])).length≤835*i+833:=by rw [← eT,Str.length_append,Str.length_append,vO];omega
  have hpl2:∀l∈ls++[R[i]],v5 l:=fun l hl=>by
   rcases List.mem_append.mp hl with hl|hl
   ·exact hpl l hl
   ·rw [List.mem_singleton.mp hl];exact r2
  have hpe:v5 "":=by show 10∉([]:List Nat);simp
  have hfe:∀m:Nat,(List.replicate m ("":Str)).filter qT=[]:=fun m=>by
   rw [List.filter_eq_nil_iff]
   intro x hx
   rw [(List.mem_replicate.mp hx).2]
   decide
  have hf1:(ls++[R[i]]).filter qT=R.take (i+1):=by
   rw [List.filter_append,show [("":Str)].filter qT=[] by decide +kernel,List.append_nil] at hfl
   rw [List.filter_append,hfl,List.take_add_one,hri]
   congr 1
   show [R[i]].filter qT=_
   rw [List.filter_cons,if_pos (by unfold qT;rw [decide_eq_false r3];rfl)]
   rfl
  obtain ⟨c0,cs,hns⟩:∃c0 cs,ns=c0::cs:=by
   cases ns with
   |nil=>rw [show ([]:List Int).length=0 from rfl] at hl;omega
   |cons c0 cs=>exact ⟨c0,cs,rfl⟩
  have hat0:kM (ns.map V.int) 0=some (.int c0):=by rw [hns];exact kL (j:=0) rfl
  obtain ⟨ci,hci⟩:∃ci,kM (ns.map V.int) (i:Int)=some (.int ci):=⟨_,nJ (by omega)⟩
  obtain ⟨m,em,lm⟩:=vN (a:=ci / 5) (b:=3) (by decide)
  have hX:jM (ls++[R[i]])++qI ("\n":Str) ((m:Int)).toNat=jM ((ls++[R[i]])++List.replicate m ("":Str))++("":Str):=by
   rw [Int.toNat_natCast,eA,mR,cT (ls++[R[i]]) (List.replicate m ("":Str)),show jM (ls++[R[i]])++jM (List.replicate m ("":Str))++("":Str)=jM (ls++[R[i]])++jM (List.replicate m ("":Str)) from Str.append_empty _]
  have hXl:(jM ((ls++[R[i]])++List.replicate m ("":Str))++("":Str)).length≤835*(i+1):=by
   rw [← hX,Str.length_append,J8,vO]
   omega
  have hf2:(((ls++[R[i]])++List.replicate m ("":Str))++[("":Str)]).filter qT=R.take (i+1):=by
   rw [List.filter_append,List.filter_append,hfe,hf1,show [("":Str)].filter qT=[] by decide +kernel,List.append_nil,List.append_nil]
  have hp3:∀l∈(ls++[R[i]])++List.replicate m ("":Str),v5 l:=fun l hl=>by
   rcases List.mem_append.mp hl with hl|hl
   ·exact hpl2 l hl
   ·rw [(List.mem_replicate.mp hl).2];exact hpe
  have hl3:((ls++[R[i]])++List.replicate m ("":Str)).length≤3*(i+1):=by rw [List.length_append,List.length_append,List.length_replicate,List.length_singleton];omega
  refine ⟨_,rfl,_,_,rfl,rfl,_,rfl,rl,_,rfl,.inl (SqL.of hrl),_,_,rfl,rfl,_,rfl,?_⟩
  rw [List.length_map]
  by_cases hk:(i:Int)+1<((R.length:Nat):Int)
  ·exact vB hk (jS ⟨_,rfl,_,rfl,_,rfl,a,_,_,_,rfl,rfl,hS2,hci,_,_,rfl,rfl,⟨by decide,by decide⟩,_,_,rfl,rfl,(by show (0:Int)<3;decide),_,_,rfl,rfl,(by rw [em];omega),(by rw [em];omega),(by rw [vO];decide),_,_,rfl,rfl,zQ (by rw [J8,vO,em,Int.toNat_natCast];omega),some (.int (i:Int)),(ls++[R[i]])++List.replicate m ("":Str),"",(by rw [em,hX];rfl),hp3,hpe,hf2,(fun _=>rfl),hl3,hXl,rfl⟩)
  refine qD hk ⟨_,rfl,a,_,_,_,rfl,rfl,hS2,hat0,_,_,rfl,rfl,(by show (0:Int)<2;decide),rfl,_,rfl,Z6 (fun _=>⟨_,rfl,_,rfl,_,rfl,a,_,_,_,rfl,rfl,hS2,hci,_,_,rfl,rfl,⟨by decide,by decide⟩,_,_,rfl,rfl,(by show (0:Int)<3;decide),_,_,rfl,rfl,(by rw [em];omega),(by rw [em];omega),(by rw [vO];decide),_,_,rfl,rfl,zQ (by rw [J8,vO,em,Int.toNat_natCast];omega),some (.int (i:Int)),(ls++[R[i]])++List.replicate m ("":Str),"",(by rw [em,hX];rfl),hp3,hpe,hf2,(fun _=>rfl),hl3,hXl,rfl⟩) (fun _=>?_)⟩
  refine ⟨_,rfl,a,_,_,_,rfl,rfl,hS2,hat0,_,_,rfl,rfl,(by show (0:Int)<2;decide),rfl,_,rfl,Z6 (fun _=>?_) (fun _=>?_)⟩
  ·refine ⟨_,rfl,_,rfl,_,rfl,zQ (by omega),_,_,rfl,rfl,_,rfl,_,rfl,zQ (by omega),some (.int (i:Int)),ls,R[i],?_,hpl,r2,hf1,(fun x=>absurd x (by omega)),by omega,by rw [Str.length_append];omega,rfl⟩
   have hsl:Txt.slice (jM (ls++[R[i]])) none (some (((jM (ls++[R[i]])).length:Int) - 1))=jM ls++R[i]:=by
    rw [← eT,eA]
    exact i4 (jM ls++R[i]) 10
   rw [hsl]
   rfl
  ·refine ⟨some (.int (i:Int)),ls++[R[i]],"",?_,hpl2,hpe,?_,(fun _=>rfl),by rw [List.length_append,List.length_singleton];omega,?_,rfl⟩
   ·rw [show jM (ls++[R[i]])++("":Str)=jM (ls++[R[i]]) from Str.append_empty _];rfl
   ·rw [List.filter_append,hf1,show [("":Str)].filter qT=[] by decide +kernel,List.append_nil]
   ·rw [show jM (ls++[R[i]])++("":Str)=jM (ls++[R[i]]) from Str.append_empty _];omega
 rintro σ Hi ⟨c4,ls,z,rfl,hpl,hpz,hfl,hz0,hlsl,hlen,rfl⟩
 rw [List.length_map,Int.toNat_natCast] at hfl hlsl hlen
 rw [List.take_length] at hfl
 have hsp:=i3 hpl hpz
 have hrz:vA (jM ls++z)=R:=by unfold vA;rw [hsp];exact hfl
 have hTl:(jM ls++z).length≤835*63:=Nat.le_trans hlen (Nat.mul_le_mul_left _ (by omega))
 refine ⟨_,rfl,_,es,rfl,by omega,by rw [hrz];exact hRS,by rw [hsp,List.length_append,List.length_singleton];omega,by rw [hrz];exact hJ,fun fl us H3 s3 hfl0 hfl3 hU=>?_⟩
 have hel3:=s3 _ _ hel2
 have hA3:AllAt (fun v (e:En)=>EnAt H3 v e.ps) ys es:=hA2.mono fun v x h=>EnAt.same s3 v _ h
 refine ⟨_,rfl,_,rfl,_,_,rfl,mC hg (by omega) hfl3 hel3 hU hA3,_,rfl,kS ?_⟩
 have hrl3:=s3 _ _ hrl
 refine ⟨_,rfl,rl,_,rfl,.inl (SqL.of hrl3),_,rfl,by omega,by rw [List.length_map];omega,yK (n:=(((R.map V.str).length:Nat):Int).toNat) (fun i σ Hi=>∃(c4:Option V),σ=[some (.ref a),some (.ref el),some (.ref rl),some (.str (jM ls++z)),c4,some (.ref fl),none]∧Same H3 Hi) ⟨_,rfl,Same.refl _⟩ ?_ ?_⟩
 ·rintro i σ Hi hi ⟨c4,rfl,sm⟩
  rw [Int.toNat_natCast,List.length_map] at hi
  rw [Int.zero_add]
  have hi2:i<es.length:=by omega
  have hri:R[i]?=some (kQ es[i]):=by rw [← hRdef,List.getElem?_map,List.getElem?_eq_getElem hi2];rfl
  obtain ⟨v,hv,hve⟩:=hA3.get (List.getElem?_eq_getElem hi2)
  have hge:=hg _ (List.getElem_mem hi2)
  obtain ⟨b1,b2⟩:=J7 hge
  refine ⟨_,rfl,_,rfl,rl,_,_,_,rfl,rfl,SqL.of (sm _ _ hrl3),kL (v:=.str (kQ es[i])) (by rw [List.getElem?_map,hri];rfl),_,es[i],rfl,b2,b1,fun u H4 s4 hu=>?_⟩
  have sm4:=sm.trans s4
  refine ⟨_,rfl,_,rfl,el,_,_,_,rfl,rfl,SqL.of (sm4 _ _ hel3),kL hv,u,v,rfl,dP (n:=1) hge hu (EnAt.same sm4 v _ hve),_,rfl,kS ⟨_,rfl,sm4⟩⟩
 rintro σ H4 ⟨c4,rfl,s4⟩
 refine ⟨_,rfl,fl,us,es,rfl,SqL.of (s4 _ _ hfl3),hU.mono (fun v x h=>EnAt.same s4 v _ h),hg,by omega,fun H5 s5=>?_⟩
 refine ⟨_,rfl,_,_,_,_,_,rfl,rfl,TyOf.str _,qZ "str",_,rfl,jS ?_⟩
 have hrl5:=s5 _ _ (s4 _ _ hrl3)
 refine ⟨_,rfl,rfl,_,rfl,rl,rfl,⟨_,SqL.of hrl5⟩,fun D hD=>?_⟩
 refine vH (K:=K) (a:=rl) (xs:=R.map V.str) (caps:=[]) (fun i ys Hi=>ys=((R.take i).map (·++feedS)).map V.str) hD (SqL.of hrl5) rfl ?_ ?_
 ·rintro i v ys Hi hv hi hle sm hY rfl
  obtain ⟨w,hw,rfl⟩:=yL hv
  have hwl:=(hro w (List.mem_of_getElem? hw)).1
  have hi9:i<999:=by have:=(List.getElem?_eq_some_iff.mp hw).1;omega
  refine qG (jS ⟨_,rfl,_,_,rfl,rfl,vT (by rw [vO];omega),qN hD sm hY hle (by omega) (Same.refl _) ?_⟩)
  rw [List.take_add_one,hw,List.map_append,List.map_append]
  rfl
 rintro ys2 H6 s6 hY hle6 rfl
 rw [List.length_map,List.take_length] at hY
 have hsum:v3 (R.map (·++feedS))+(R.map (·++feedS)).length≤1048576:=by
  have h3:=QD (B:=833) (R.map (·++feedS)) (fun y hy=>by
   obtain ⟨x,hx,rfl⟩:=List.mem_map.mp hy
   have:=(hro x hx).1
   rw [Str.length_append]
   have:feedS.length=1:=rfl
   omega)
  rw [List.length_map] at h3 ⊢
  have:R.length*833≤63*833:=Nat.mul_le_mul_right _ (by omega)
  omega
 refine ⟨"",D,_,rfl,rfl,SqL.of hY,by decide,hsum,rfl,?_⟩
 rw [hRdef,show decide (V.str (jM R)=V.str (Str.join "" (R.map (·++feedS))))=true from decide_eq_true rfl]
 exact q _
end
theorem all_mk {l:W.OpenLaw} {w:World} {K:W.Frag} {h:Heap} {mg:Str→Option Value} {fa f0 f1 f2 f3 f4 f5 f6 f7 f8 f9 f10 f11 f12 f13 f14 f15 f16 f17 f18 f19 f20 f21 f22:Addr} {jX jW jZ jY tu1 tu2:Tok} {eC eB tW:Addr} {oW:Obj} {nW:Nat} (X:K.In h) (G:h.Ns mainGlobals mg) (hfa:mg "law"=some (.ref fa))
 {od0 an0 od1 an1 od2 an2 od3 an3 od4 an4 od5 an5 od6 an6 od7 an7 od8 an8 od9 an9 od10 an10 od11 an11 od12 an12 od13 an13 od14 an14 od15 an15 od16 an16 od17 an17 od18 an18 od19 an19 od20 an20 od21 an21 od22 an22:Option Addr} {sl0 sl1 sl2 sl3 sl4 sl5 sl6 sl7 sl8 sl9 sl10 sl11 sl12 sl13 sl14 sl15 sl16 sl17 sl18 sl19 sl20 sl21 sl22:Array (Option Value)} {oc0 kV0 dc0 pm0 cd0 ct0 oc1 kV1 dc1 pm1 cd1 ct1 oc2 kV2 dc2 pm2 cd2 ct2 oc3 kV3 dc3 pm3 cd3 ct3 oc4 kV4 dc4 pm4 cd4 ct4 oc5 kV5 dc5 pm5 cd5 ct5 oc6 kV6 dc6 pm6 cd6 ct6 oc7 kV7 dc7 pm7 cd7 ct7 oc8 kV8 dc8 pm8 cd8 ct8 oc9 kV9 dc9 pm9 cd9 ct9 oc10 kV10 dc10 pm10 cd10 ct10 oc11 kV11 dc11 pm11 cd11 ct11 oc12 kV12 dc12 pm12 cd12 ct12 oc13 kV13 dc13 pm13 cd13 ct13 oc14 kV14 dc14 pm14 cd14 ct14 oc15 kV15 dc15 pm15 cd15 ct15 oc16 kV16 dc16 pm16 cd16 ct16 oc17 kV17 dc17 pm17 cd17 ct17 oc18 kV18 dc18 pm18 cd18 ct18 oc19 kV19 dc19 pm19 cd19 ct19 oc20 kV20 dc20 pm20 cd20 ct20 oc21 kV21 dc21 pm21 cd21 ct21 oc22 kV22 dc22 pm22 cd22 ct22:Value}
  (aX_CanalError:W.nsIn K mainGlobals "CanalError"=some (some (.ref eC)))
  (aX_BadRow:W.nsIn K mainGlobals "BadRow"=some (some (.ref eB)))
  (a0:W.nsIn K mainGlobals "written_with"=some (some (.ref f0)))
  (l0:K.lookup f0=some ⟨oc0,od0,.func (W.fnOf "written_with" "written_with" (j0 yI) (jV yI) (jE yI) .none kV0 dc0 pm0 an0 cd0 ct0),sl0⟩)
  (c0:W.codeIn K cd0 "written_with"=true)
  (k0:W.keepIn K (.ref f0)=true)
  (a1:W.nsIn K mainGlobals "is_name"=some (some (.ref f1)))
  (l1:K.lookup f1=some ⟨oc1,od1,.func (W.fnOf "is_name" "is_name" (j0 y8) (jV y8) (jE y8) .none kV1 dc1 pm1 an1 cd1 ct1),sl1⟩)
  (c1:W.codeIn K cd1 "is_name"=true)
  (k1:W.keepIn K (.ref f1)=true)
  (a2:W.nsIn K mainGlobals "is_number"=some (some (.ref f2)))
  (l2:K.lookup f2=some ⟨oc2,od2,.func (W.fnOf "is_number" "is_number" (j0 y9) (jV y9) (jE y9) .none kV2 dc2 pm2 an2 cd2 ct2),sl2⟩)
  (c2:W.codeIn K cd2 "is_number"=true)
  (k2:W.keepIn K (.ref f2)=true)
  (a3:W.nsIn K mainGlobals "number_of"=some (some (.ref f3)))
  (l3:K.lookup f3=some ⟨oc3,od3,.func (W.fnOf "number_of" "number_of" (j0 zB) (jV zB) (jE zB) .none kV3 dc3 pm3 an3 cd3 ct3),sl3⟩)
  (c3:W.codeIn K cd3 "number_of"=true)
  (k3:W.keepIn K (.ref f3)=true)
  (a4:W.nsIn K mainGlobals "numbers_of"=some (some (.ref f4)))
  (l4:K.lookup f4=some ⟨oc4,od4,.func (W.fnOf "numbers_of" "numbers_of" (j0 yC) (jV yC) (jE yC) .none kV4 dc4 pm4 an4 cd4 ct4),sl4⟩)
  (c4:W.codeIn K cd4 "numbers_of"=true)
  (k4:W.keepIn K (.ref f4)=true)
  (a5:W.nsIn K mainGlobals "refuse_no_names"=some (some (.ref f5)))
  (l5:K.lookup f5=some ⟨oc5,od5,.func (W.fnOf "refuse_no_names" "refuse_no_names" (j0 yD) (jV yD) (jE yD) .none kV5 dc5 pm5 an5 cd5 ct5),sl5⟩)
  (c5:W.codeIn K cd5 "refuse_no_names"=true)
  (k5:W.keepIn K (.ref f5)=true)
  (a6:W.nsIn K mainGlobals "rows_of"=some (some (.ref f6)))
  (l6:K.lookup f6=some ⟨oc6,od6,.func (W.fnOf "rows_of" "rows_of" (j0 yF) (jV yF) (jE yF) .none kV6 dc6 pm6 an6 cd6 ct6),sl6⟩)
  (c6:W.codeIn K cd6 "rows_of"=true)
  (k6:W.keepIn K (.ref f6)=true)
  (a7:W.nsIn K mainGlobals "text_of"=some (some (.ref f7)))
  (l7:K.lookup f7=some ⟨oc7,od7,.func (W.fnOf "text_of" "text_of" (j0 yG) (jV yG) (jE yG) .none kV7 dc7 pm7 an7 cd7 ct7),sl7⟩)
  (c7:W.codeIn K cd7 "text_of"=true)
  (k7:W.keepIn K (.ref f7)=true)
  (a8:W.nsIn K mainGlobals "words_of_pairs"=some (some (.ref f8)))
  (l8:K.lookup f8=some ⟨oc8,od8,.func (W.fnOf "words_of_pairs" "words_of_pairs" (j0 zE) (jV zE) (jE zE) .none kV8 dc8 pm8 an8 cd8 ct8),sl8⟩)
  (c8:W.codeIn K cd8 "words_of_pairs"=true)
  (k8:W.keepIn K (.ref f8)=true)
  (a9:W.nsIn K mainGlobals "row_of_entry"=some (some (.ref f9)))
  (l9:K.lookup f9=some ⟨oc9,od9,.func (W.fnOf "row_of_entry" "row_of_entry" (j0 yE) (jV yE) (jE yE) .none kV9 dc9 pm9 an9 cd9 ct9),sl9⟩)
  (c9:W.codeIn K cd9 "row_of_entry"=true)
  (k9:W.keepIn K (.ref f9)=true)
  (a10:W.nsIn K mainGlobals "written"=some (some (.ref f10)))
  (l10:K.lookup f10=some ⟨oc10,od10,.func (W.fnOf "written" "written" (j0 yH) (jV yH) (jE yH) .none kV10 dc10 pm10 an10 cd10 ct10),sl10⟩)
  (c10:W.codeIn K cd10 "written"=true)
  (k10:W.keepIn K (.ref f10)=true)
  (a11:W.nsIn K mainGlobals "refuse_other_length"=some (some (.ref f11)))
  (l11:K.lookup f11=some ⟨oc11,od11,.func (W.fnOf "refuse_other_length" "refuse_other_length" (j0 zD) (jV zD) (jE zD) .none kV11 dc11 pm11 an11 cd11 ct11),sl11⟩)
  (c11:W.codeIn K cd11 "refuse_other_length"=true)
  (k11:W.keepIn K (.ref f11)=true)
  (a12:W.nsIn K mainGlobals "paired"=some (some (.ref f12)))
  (l12:K.lookup f12=some ⟨oc12,od12,.func (W.fnOf "paired" "paired" (j0 zC) (jV zC) (jE zC) .none kV12 dc12 pm12 an12 cd12 ct12),sl12⟩)
  (c12:W.codeIn K cd12 "paired"=true)
  (k12:W.keepIn K (.ref f12)=true)
  (a13:W.nsIn K mainGlobals "come_read"=some (some (.ref f13)))
  (l13:K.lookup f13=some ⟨oc13,od13,.func (W.fnOf "come_read" "come_read" (j0 v1) (jV v1) (jE v1) .none kV13 dc13 pm13 an13 cd13 ct13),sl13⟩)
  (c13:W.codeIn K cd13 "come_read"=true)
  (k13:W.keepIn K (.ref f13)=true)
  (a14:W.nsIn K mainGlobals "named_read"=some (some (.ref f14)))
  (l14:K.lookup f14=some ⟨oc14,od14,.func (W.fnOf "named_read" "named_read" (j0 zA) (jV zA) (jE zA) .none kV14 dc14 pm14 an14 cd14 ct14),sl14⟩)
  (c14:W.codeIn K cd14 "named_read"=true)
  (k14:W.keepIn K (.ref f14)=true)
  (a15:W.nsIn K mainGlobals "amount_read"=some (some (.ref f15)))
  (l15:K.lookup f15=some ⟨oc15,od15,.func (W.fnOf "amount_read" "amount_read" (j0 y6) (jV y6) (jE y6) .none kV15 dc15 pm15 an15 cd15 ct15),sl15⟩)
  (c15:W.codeIn K cd15 "amount_read"=true)
  (k15:W.keepIn K (.ref f15)=true)
  (a16:W.nsIn K mainGlobals "entry_of"=some (some (.ref f16)))
  (l16:K.lookup f16=some ⟨oc16,od16,.func (W.fnOf "entry_of" "entry_of" (j0 y7) (jV y7) (jE y7) .none kV16 dc16 pm16 an16 cd16 ct16),sl16⟩)
  (c16:W.codeIn K cd16 "entry_of"=true)
  (k16:W.keepIn K (.ref f16)=true)
  (a17:W.nsIn K mainGlobals "entries_of"=some (some (.ref f17)))
  (l17:K.lookup f17=some ⟨oc17,od17,.func (W.fnOf "entries_of" "entries_of" (j0 yB) (jV yB) (jE yB) .none kV17 dc17 pm17 an17 cd17 ct17),sl17⟩)
  (c17:W.codeIn K cd17 "entries_of"=true)
  (k17:W.keepIn K (.ref f17)=true)
  (a18:W.nsIn K mainGlobals "_law_name"=some (some (.ref f18)))
  (l18:K.lookup f18=some ⟨oc18,od18,.func (W.fnOf "_law_name" "_law_name" (j0 yY) (jV yY) (jE yY) .none kV18 dc18 pm18 an18 cd18 ct18),sl18⟩)
  (c18:W.codeIn K cd18 "_law_name"=true)
  (k18:W.keepIn K (.ref f18)=true)
  (a19:W.nsIn K mainGlobals "_law_entry"=some (some (.ref f19)))
  (l19:K.lookup f19=some ⟨oc19,od19,.func (W.fnOf "_law_entry" "_law_entry" (j0 yX) (jV yX) (jE yX) .none kV19 dc19 pm19 an19 cd19 ct19),sl19⟩)
  (c19:W.codeIn K cd19 "_law_entry"=true)
  (k19:W.keepIn K (.ref f19)=true)
  (a20:W.nsIn K mainGlobals "_law_words"=some (some (.ref f20)))
  (l20:K.lookup f20=some ⟨oc20,od20,.func (W.fnOf "_law_words" "_law_words" (j0 y0) (jV y0) (jE y0) .none kV20 dc20 pm20 an20 cd20 ct20),sl20⟩)
  (c20:W.codeIn K cd20 "_law_words"=true)
  (k20:W.keepIn K (.ref f20)=true)
  (a21:W.nsIn K mainGlobals "_law_same"=some (some (.ref f21)))
  (l21:K.lookup f21=some ⟨oc21,od21,.func (W.fnOf "_law_same" "_law_same" (j0 yZ) (jV yZ) (jE yZ) .none kV21 dc21 pm21 an21 cd21 ct21),sl21⟩)
  (c21:W.codeIn K cd21 "_law_same"=true)
  (k21:W.keepIn K (.ref f21)=true)
  (a22:W.nsIn K mainGlobals "law"=some (some (.ref f22)))
  (l22:K.lookup f22=some ⟨oc22,od22,.func (W.fnOf "law" "law" (j0 qP) (jV qP) (jE qP) .none kV22 dc22 pm22 an22 cd22 ct22),sl22⟩)
  (c22:W.codeIn K cd22 "law"=true)
  (k22:W.keepIn K (.ref f22)=true)
  (z_all:W.nsIn K mainGlobals "all"=some none)
  (z_len:W.nsIn K mainGlobals "len"=some none)
  (z_int:W.nsIn K mainGlobals "int"=some none)
  (z_str:W.nsIn K mainGlobals "str"=some none)
  (z_tuple:W.nsIn K mainGlobals "tuple"=some none)
  (z_zip:W.nsIn K mainGlobals "zip"=some none)
  (z_range:W.nsIn K mainGlobals "range"=some none)
  (z_isinstance:W.nsIn K mainGlobals "isinstance"=some none)
  (z_list:W.nsIn K mainGlobals "list"=some none)
  (z_bool:W.nsIn K mainGlobals "bool"=some none)
  (gLETTERS:W.nsIn K mainGlobals "LETTERS"=some (some (.str lettersS jX)))
  (gFIGURES:W.nsIn K mainGlobals "FIGURES"=some (some (.str vX jW)))
  (gMOST_SIGNS:W.nsIn K mainGlobals "MOST_SIGNS"=some (some (.int 12 jZ)))
  (gMOST_PAIRS:W.nsIn K mainGlobals "MOST_PAIRS"=some (some (.int 8 jY)))
  (xX_BadRow:W.excIn K eB [.type "ValueError",.type "Exception",.type "BaseException",.type "object"] "ValueError.__new__"=true)
  (gWAYS:W.nsIn K mainGlobals "WAYS"=some (some (.ref tW)))
  (lW:K.lookup tW=some oW)
  (clW:oW.cls=.type "tuple")
  (dW:oW.data=.seq ([.str "up" tu1,.str "down" tu2]:List Value).toArray nW) :
  ∃fd:FuncData,(∀(s:Shared) (v:Value),BindsTo s fd ⟨[v],[]⟩ [("script",v)])∧∀base:Heap,K.In base→base.Ns mainGlobals mg→FnOk l.prog w K mg base kK 8 fa fd ["script"] (QI K):=by
 have e:=hfa.symm.trans (W.mg_of X G a22)
 cases e
 have F0:=kE (st:=yI) l0 c0 k0
 have b0:=F0.binds (ps:=["word","signs"]) fun _ _ _ _ _ _ us hl=>match us,hl with|[_,_],_=>rfl
 have F1:=kE (st:=y8) l1 c1 k1
 have b1:=F1.binds (ps:=["word"]) fun _ _ _ _ _ _ us hl=>match us,hl with|[_],_=>rfl
 have F2:=kE (st:=y9) l2 c2 k2
 have b2:=F2.binds (ps:=["word"]) fun _ _ _ _ _ _ us hl=>match us,hl with|[_],_=>rfl
 have F3:=kE (st:=zB) l3 c3 k3
 have b3:=F3.binds (ps:=["word"]) fun _ _ _ _ _ _ us hl=>match us,hl with|[_],_=>rfl
 have F4:=kE (st:=yC) l4 c4 k4
 have b4:=F4.binds (ps:=["words"]) fun _ _ _ _ _ _ us hl=>match us,hl with|[_],_=>rfl
 have F5:=kE (st:=yD) l5 c5 k5
 have b5:=F5.binds (ps:=["words"]) fun _ _ _ _ _ _ us hl=>match us,hl with|[_],_=>rfl
 have F6:=kE (st:=yF) l6 c6 k6
 have b6:=F6.binds (ps:=["text"]) fun _ _ _ _ _ _ us hl=>match us,hl with|[_],_=>rfl
 have F7:=kE (st:=yG) l7 c7 k7
 have b7:=F7.binds (ps:=["rows"]) fun _ _ _ _ _ _ us hl=>match us,hl with|[_],_=>rfl
 have F8:=kE (st:=zE) l8 c8 k8
 have b8:=F8.binds (ps:=["pairs"]) fun _ _ _ _ _ _ us hl=>match us,hl with|[_],_=>rfl
 have F9:=kE (st:=yE) l9 c9 k9
 have b9:=F9.binds (ps:=["entry"]) fun _ _ _ _ _ _ us hl=>match us,hl with|[_],_=>rfl
 have F10:=kE (st:=yH) l10 c10 k10
 have b10:=F10.binds (ps:=["entries"]) fun _ _ _ _ _ _ us hl=>match us,hl with|[_],_=>rfl
 have F11:=kE (st:=zD) l11 c11 k11
 have b11:=F11.binds (ps:=["words","many"]) fun _ _ _ _ _ _ us hl=>match us,hl with|[_,_],_=>rfl
 have F12:=kE (st:=zC) l12 c12 k12
 have b12:=F12.binds (ps:=["parts"]) fun _ _ _ _ _ _ us hl=>match us,hl with|[_],_=>rfl
 have F13:=kE (st:=v1) l13 c13 k13
 have b13:=F13.binds (ps:=["words"]) fun _ _ _ _ _ _ us hl=>match us,hl with|[_],_=>rfl
 have F14:=kE (st:=zA) l14 c14 k14
 have b14:=F14.binds (ps:=["words"]) fun _ _ _ _ _ _ us hl=>match us,hl with|[_],_=>rfl
 have F15:=kE (st:=y6) l15 c15 k15
 have b15:=F15.binds (ps:=["words"]) fun _ _ _ _ _ _ us hl=>match us,hl with|[_],_=>rfl
 have F16:=kE (st:=y7) l16 c16 k16
 have b16:=F16.binds (ps:=["row"]) fun _ _ _ _ _ _ us hl=>match us,hl with|[_],_=>rfl
 have F17:=kE (st:=yB) l17 c17 k17
 have b17:=F17.binds (ps:=["text"]) fun _ _ _ _ _ _ us hl=>match us,hl with|[_],_=>rfl
 have F18:=kE (st:=yY) l18 c18 k18
 have b18:=F18.binds (ps:=["seed"]) fun _ _ _ _ _ _ us hl=>match us,hl with|[_],_=>rfl
 have F19:=kE (st:=yX) l19 c19 k19
 have b19:=F19.binds (ps:=["cell"]) fun _ _ _ _ _ _ us hl=>match us,hl with|[_],_=>rfl
 have F20:=kE (st:=y0) l20 c20 k20
 have b20:=F20.binds (ps:=["entry"]) fun _ _ _ _ _ _ us hl=>match us,hl with|[_],_=>rfl
 have F21:=kE (st:=yZ) l21 c21 k21
 have b21:=F21.binds (ps:=["found","due"]) fun _ _ _ _ _ _ us hl=>match us,hl with|[_,_],_=>rfl
 have F22:=kE (st:=qP) l22 c22 k22
 have b22:=F22.binds (ps:=["script"]) fun _ _ _ _ _ _ us hl=>match us,hl with|[_],_=>rfl
 have T:Txt K mg jX jW jZ jY eC eB tW:={z_all:=W.mg_none_of X G z_all,z_len:=W.mg_none_of X G z_len,z_int:=W.mg_none_of X G z_int,z_str:=W.mg_none_of X G z_str,z_tuple:=W.mg_none_of X G z_tuple,z_zip:=W.mg_none_of X G z_zip,z_range:=W.mg_none_of X G z_range,z_isinstance:=W.mg_none_of X G z_isinstance,z_list:=W.mg_none_of X G z_list,z_bool:=W.mg_none_of X G z_bool,g_LETTERS:=W.mg_of X G gLETTERS,g_FIGURES:=W.mg_of X G gFIGURES,g_MOST_SIGNS:=W.mg_of X G gMOST_SIGNS,g_MOST_PAIRS:=W.mg_of X G gMOST_PAIRS,c_CanalError:=W.mg_of X G aX_CanalError,c_BadRow:=W.mg_of X G aX_BadRow,x_BadRow:=xX_BadRow,g_WAYS:=W.mg_of X G gWAYS,ways:=fun H=>nN (its:=[.str "up" tu1,.str "down" tu2]) lW clW dW zz2 (.cons ⟨_,rfl⟩ (.cons ⟨_,rfl⟩ .nil))}
 refine ⟨W.fnOf "law" "law" (j0 qP) (jV qP) (jE qP) .none kV22 dc22 pm22 an22 cd22 ct22,fun s v=>.of_eq rfl,fun base _ _=>?_⟩
 have D0:Def l.prog w K mg base 1 "written_with" _ [] _:=⟨_,_,[],gO F0 T,W.mg_of X G a0,k0,.nil,b0⟩
 have D1:Def l.prog w K mg base 2 "is_name" _ [] _:=⟨_,_,[],gA F1 T D0,W.mg_of X G a1,k1,.nil,b1⟩
 have D2:Def l.prog w K mg base 2 "is_number" _ [] _:=⟨_,_,[],gB F2 T D0,W.mg_of X G a2,k2,.nil,b2⟩
 have G3:=gE (P:=l.prog) (w:=w) (base:=base) F3 T D2
 have GX3:=G3
 have DX3:DefX l.prog w K mg base 3 "number_of" _ [] _:=⟨_,_,[],GX3,W.mg_of X G a3,k3,.nil,b3⟩
 have G4:=gF (P:=l.prog) (w:=w) (base:=base) F4 T DX3
 have GX4:=G4
 have DX4:DefX l.prog w K mg base 4 "numbers_of" _ [] _:=⟨_,_,[],GX4,W.mg_of X G a4,k4,.nil,b4⟩
 have G5:=gH (P:=l.prog) (w:=w) (base:=base) F5 T D1
 have GX5:=G5
 have DX5:DefX l.prog w K mg base 3 "refuse_no_names" _ [] _:=⟨_,_,[],GX5,W.mg_of X G a5,k5,.nil,b5⟩
 have D6:Def l.prog w K mg base 1 "rows_of" _ [] _:=⟨_,_,[],gK F6 T,W.mg_of X G a6,k6,.nil,b6⟩
 have D7:Def l.prog w K mg base 1 "text_of" _ [] _:=⟨_,_,[],gL F7 T,W.mg_of X G a7,k7,.nil,b7⟩
 have D8:Def l.prog w K mg base 1 "words_of_pairs" _ [] _:=⟨_,_,[],gM F8 T,W.mg_of X G a8,k8,.nil,b8⟩
 have D9:Def l.prog w K mg base 2 "row_of_entry" _ [] _:=⟨_,_,[],gJ F9 T D8,W.mg_of X G a9,k9,.nil,b9⟩
 have D10:Def l.prog w K mg base 3 "written" _ [] _:=⟨_,_,[],gN F10 T D7 D9,W.mg_of X G a10,k10,.nil,b10⟩
 have G11:=gI (P:=l.prog) (w:=w) (base:=base) F11 T
 have GX11:=G11
 have DX11:DefX l.prog w K mg base 1 "refuse_other_length" _ [] _:=⟨_,_,[],GX11,W.mg_of X G a11,k11,.nil,b11⟩
 have G12:=gG (P:=l.prog) (w:=w) (base:=base) F12 T
 have GX12:=G12
 have DX12:DefX l.prog w K mg base 1 "paired" _ [] _:=⟨_,_,[],GX12,W.mg_of X G a12,k12,.nil,b12⟩
 have G13:=fX (P:=l.prog) (w:=w) (base:=base) F13 T DX12 DX5
 have GX13:=G13
 have DX13:DefX l.prog w K mg base 4 "come_read" _ [] _:=⟨_,_,[],GX13,W.mg_of X G a13,k13,.nil,b13⟩
 have G14:=gD (P:=l.prog) (w:=w) (base:=base) F14 T DX11 DX5
 have GX14:=G14
 have DX14:DefX l.prog w K mg base 4 "named_read" _ [] _:=⟨_,_,[],GX14,W.mg_of X G a14,k14,.nil,b14⟩
 have G15:=fW (P:=l.prog) (w:=w) (base:=base) F15 T DX11 DX5 DX3
 have GX15:=G15
 have DX15:DefX l.prog w K mg base 4 "amount_read" _ [] _:=⟨_,_,[],GX15,W.mg_of X G a15,k15,.nil,b15⟩
 have G16:=fZ (P:=l.prog) (w:=w) (base:=base) F16 T DX13 DX12 DX4 DX14 DX15
 have GX16:=G16
 have DX16:DefX l.prog w K mg base 5 "entry_of" _ [] _:=⟨_,_,[],GX16,W.mg_of X G a16,k16,.nil,b16⟩
 have G16:=GX16.noX (sp':=ZA) mB
 have D16:Def l.prog w K mg base 5 "entry_of" _ [] _:=⟨_,_,[],G16,W.mg_of X G a16,k16,.nil,b16⟩
 have G17:=fY (P:=l.prog) (w:=w) (base:=base) F17 T D6 DX16
 have GX17:=G17
 have DX17:DefX l.prog w K mg base 6 "entries_of" _ [] _:=⟨_,_,[],GX17,W.mg_of X G a17,k17,.nil,b17⟩
 have G17:=GX17.noX (sp':=Q1) iR
 have D17:Def l.prog w K mg base 6 "entries_of" _ [] _:=⟨_,_,[],G17,W.mg_of X G a17,k17,.nil,b17⟩
 have D18:Def l.prog w K mg base 1 "_law_name" _ [] _:=⟨_,_,[],fU F18 T,W.mg_of X G a18,k18,.nil,b18⟩
 have D19:Def l.prog w K mg base 2 "_law_entry" _ [] _:=⟨_,_,[],fT F19 T D18,W.mg_of X G a19,k19,.nil,b19⟩
 have D20:Def l.prog w K mg base 1 "_law_words" _ [] _:=⟨_,_,[],fV F20 T,W.mg_of X G a20,k20,.nil,b20⟩
 have D21r0:Def l.prog w K mg base 0 "_law_same" ["found","due"] [] (vP 0):=⟨_,_,[],lZ (fun _ _ _ _ h=>h),W.mg_of X G a21,k21,.nil,b21⟩
 have D21r1:Def l.prog w K mg base 1 "_law_same" ["found","due"] [] (vP 1):=⟨_,_,[],z7 (P:=l.prog) (w:=w) (base:=base) F21 T D21r0,W.mg_of X G a21,k21,.nil,b21⟩
 have D21r2:Def l.prog w K mg base 2 "_law_same" ["found","due"] [] (vP 2):=⟨_,_,[],z7 (P:=l.prog) (w:=w) (base:=base) F21 T D21r1,W.mg_of X G a21,k21,.nil,b21⟩
 have D21r3:Def l.prog w K mg base 3 "_law_same" ["found","due"] [] (vP 3):=⟨_,_,[],z7 (P:=l.prog) (w:=w) (base:=base) F21 T D21r2,W.mg_of X G a21,k21,.nil,b21⟩
 have D21r4:Def l.prog w K mg base 4 "_law_same" ["found","due"] [] (vP 4):=⟨_,_,[],z7 (P:=l.prog) (w:=w) (base:=base) F21 T D21r3,W.mg_of X G a21,k21,.nil,b21⟩
 have D21r5:Def l.prog w K mg base 5 "_law_same" ["found","due"] [] (vP 5):=⟨_,_,[],z7 (P:=l.prog) (w:=w) (base:=base) F21 T D21r4,W.mg_of X G a21,k21,.nil,b21⟩
 have D21:=D21r5
 have G22:=gC (P:=l.prog) (w:=w) (base:=base) F22 T D19 D20 D17 D21 D16 D10
 exact G22
theorem walk {l:W.OpenLaw} {q:Program} {loose:List Str} {XP:(Str→Option Value)→Heap→Prop} {YP:World→Heap→Prop} {d:DefRec} {K:Params→W.Frag} (hn:l.most=some 63) (hdf:d.params.defaults=[])
  (hY:∀(w:World) (h:Heap),YP w h→(K w.params).In h)
  (F:∀(w:World) (mg:Str→Option Value) (fa:Addr) (h:Heap),(K w.params).In h→h.Ns mainGlobals mg→mg d.name=some (.ref fa)→
   ∃fd:FuncData,(∀(s:Shared) (u:Value),BindsTo s fd ⟨[u],[]⟩ [("script",u)])∧∀base:Heap,(K w.params).In base→base.Ns mainGlobals mg→FnOk l.prog w (K w.params) mg base kK 8 fa fd ["script"] (QI (K w.params))) :
  W.WalkO q loose XP YP l.row.toRowW d [] (fun f vs=>PySem.call f vs) :=
 L2.walk_of (n:=63) (k:=8) (x:="script") (CX:=fun _=>kK) (sp:=fun w=>QI (K w.params)) hn (by decide) hdf ⟨rfl,by decide,by decide⟩ hY F (fun _ _ a ns hl _ hS=>⟨a,ns,rfl,hS,hl,fun _=>rfl⟩) fun _ _ _ _ _ z=>z
end My
open PySem PySem.W PyProof.Rows
set_option maxRecDepth 100000 in
set_option maxHeartbeats 0 in
theorem PySem.Challenge.cw_lockhouse_k72_whole_read_back_holds : PySem.Challenge.rw_lockhouse_k72_whole_read_back.Holds := by
 w_on;o_law;k_head;(case hw=>w_witness2)
 k_fill
 refine My.walk (l:=PySem.Challenge.rw_lockhouse_k72_whole_read_back) rfl rfl (fun w h Y=>PySem.W.kIn_of Y) ?F
 case F =>
  intro w mg fa h KX G hmg
  refine' My.all_mk KX G hmg ?aX_CanalError ?aX_BadRow ?a0 ?l0 ?c0 ?k0 ?a1 ?l1 ?c1 ?k1 ?a2 ?l2 ?c2 ?k2 ?a3 ?l3 ?c3 ?k3 ?a4 ?l4 ?c4 ?k4 ?a5 ?l5 ?c5 ?k5 ?a6 ?l6 ?c6 ?k6 ?a7 ?l7 ?c7 ?k7 ?a8 ?l8 ?c8 ?k8 ?a9 ?l9 ?c9 ?k9 ?a10 ?l10 ?c10 ?k10 ?a11 ?l11 ?c11 ?k11 ?a12 ?l12 ?c12 ?k12 ?a13 ?l13 ?c13 ?k13 ?a14 ?l14 ?c14 ?k14 ?a15 ?l15 ?c15 ?k15 ?a16 ?l16 ?c16 ?k16 ?a17 ?l17 ?c17 ?k17 ?a18 ?l18 ?c18 ?k18 ?a19 ?l19 ?c19 ?k19 ?a20 ?l20 ?c20 ?k20 ?a21 ?l21 ?c21 ?k21 ?a22 ?l22 ?c22 ?k22 ?z_all ?z_len ?z_int ?z_str ?z_tuple ?z_zip ?z_range ?z_isinstance ?z_list ?z_bool ?gLETTERS ?gFIGURES ?gMOST_SIGNS ?gMOST_PAIRS ?xX_BadRow ?gWAYS ?lW ?clW ?dW
  (case aX_CanalError=>first|k_is|rfl)
  (case aX_BadRow=>first|k_is|rfl)
  (case a0=>first|k_is|rfl)
  (case l0=>first|k_is|rfl)
  (case c0=>first|k_is|rfl)
  (case k0=>first|k_is|rfl)
  (case a1=>first|k_is|rfl)
  (case l1=>first|k_is|rfl)
  (case c1=>first|k_is|rfl)
  (case k1=>first|k_is|rfl)
  (case a2=>first|k_is|rfl)
  (case l2=>first|k_is|rfl)
  (case c2=>first|k_is|rfl)
  (case k2=>first|k_is|rfl)
  (case a3=>first|k_is|rfl)
  (case l3=>first|k_is|rfl)
  (case c3=>first|k_is|rfl)
  (case k3=>first|k_is|rfl)
  (case a4=>first|k_is|rfl)
  (case l4=>first|k_is|rfl)
  (case c4=>first|k_is|rfl)
  (case k4=>first|k_is|rfl)
  (case a5=>first|k_is|rfl)
  (case l5=>first|k_is|rfl)
  (case c5=>first|k_is|rfl)
  (case k5=>first|k_is|rfl)
  (case a6=>first|k_is|rfl)
  (case l6=>first|k_is|rfl)
  (case c6=>first|k_is|rfl)
  (case k6=>first|k_is|rfl)
  (case a7=>first|k_is|rfl)
  (case l7=>first|k_is|rfl)
  (case c7=>first|k_is|rfl)
  (case k7=>first|k_is|rfl)
  (case a8=>first|k_is|rfl)
  (case l8=>first|k_is|rfl)
  (case c8=>first|k_is|rfl)
  (case k8=>first|k_is|rfl)
  (case a9=>first|k_is|rfl)
  (case l9=>first|k_is|rfl)
  (case c9=>first|k_is|rfl)
  (case k9=>first|k_is|rfl)
  (case a10=>first|k_is|rfl)
  (case l10=>first|k_is|rfl)
  (case c10=>first|k_is|rfl)
  (case k10=>first|k_is|rfl)
  (case a11=>first|k_is|rfl)
  (case l11=>first|k_is|rfl)
  (case c11=>first|k_is|rfl)
  (case k11=>first|k_is|rfl)
  (case a12=>first|k_is|rfl)
  (case l12=>first|k_is|rfl)
  (case c12=>first|k_is|rfl)
  (case k12=>first|k_is|rfl)
  (case a13=>first|k_is|rfl)
  (case l13=>first|k_is|rfl)
  (case c13=>first|k_is|rfl)
  (case k13=>first|k_is|rfl)
  (case a14=>first|k_is|rfl)
  (case l14=>first|k_is|rfl)
  (case c14=>first|k_is|rfl)
  (case k14=>first|k_is|rfl)
  (case a15=>first|k_is|rfl)
  (case l15=>first|k_is|rfl)
  (case c15=>first|k_is|rfl)
  (case k15=>first|k_is|rfl)
  (case a16=>first|k_is|rfl)
  (case l16=>first|k_is|rfl)
  (case c16=>first|k_is|rfl)
  (case k16=>first|k_is|rfl)
  (case a17=>first|k_is|rfl)
  (case l17=>first|k_is|rfl)
  (case c17=>first|k_is|rfl)
  (case k17=>first|k_is|rfl)
  (case a18=>first|k_is|rfl)
  (case l18=>first|k_is|rfl)
  (case c18=>first|k_is|rfl)
  (case k18=>first|k_is|rfl)
  (case a19=>first|k_is|rfl)
  (case l19=>first|k_is|rfl)
  (case c19=>first|k_is|rfl)
  (case k19=>first|k_is|rfl)
  (case a20=>first|k_is|rfl)
  (case l20=>first|k_is|rfl)
  (case c20=>first|k_is|rfl)
  (case k20=>first|k_is|rfl)
  (case a21=>first|k_is|rfl)
  (case l21=>first|k_is|rfl)
  (case c21=>first|k_is|rfl)
  (case k21=>first|k_is|rfl)
  (case a22=>first|k_is|rfl)
  (case l22=>first|k_is|rfl)
  (case c22=>first|k_is|rfl)
  (case k22=>first|k_is|rfl)
  (case z_all=>first|k_is|rfl)
  (case z_len=>first|k_is|rfl)
  (case z_int=>first|k_is|rfl)
  (case z_str=>first|k_is|rfl)
  (case z_tuple=>first|k_is|rfl)
  (case z_zip=>first|k_is|rfl)
  (case z_range=>first|k_is|rfl)
  (case z_isinstance=>first|k_is|rfl)
  (case z_list=>first|k_is|rfl)
  (case z_bool=>first|k_is|rfl)
  (case gLETTERS=>first|k_is|rfl)
  (case gFIGURES=>first|k_is|rfl)
  (case gMOST_SIGNS=>first|k_is|rfl)
  (case gMOST_PAIRS=>first|k_is|rfl)
  (case xX_BadRow=>first|k_is|k_exc|kit_is|kts_exm|rfl)
  (case gWAYS=>first|k_is|rfl)
  (case lW=>first|k_is|rfl)
  (case clW=>first|k_is|rfl)
  (case dW=>first|k_is|rfl)
