import PyProof.Rows.All
import Wide.All
import OpenK.AllK
import Wide.FinOn
import Lean
import PyProof.EqAt
import PyProof.EqKinds
import PyProof.TupleCall
import PyProof.NeKinds
import OpenK.KOwn
import KE.KTryMore
import KE.RegKTryMore
import PyProof.NsDelKeeps
import KE.KIntText
import PySem.Challenge.RW_lockhouse_k73_no_entries_refused
set_option Elab.async false
set_option linter.all false
set_option maxRecDepth 100000
namespace L2
open PySem PySem.Spec PyProof.Rows
abbrev jK:=Sum Int Str
def z7:jK→Value→Bool
 |.inl k,v=>Value.isInt k v
 |.inr x,v=>Value.isStrOf x v
def uQ (w:World):jK→Int
 |.inl k=>hashInt k
 |.inr x=>hashStr w x
theorem vU:∀{k:jK} {v:Value},z7 k v=true→(∃i t,k=Sum.inl i∧v=Value.int i t)∨(∃x t,k=Sum.inr x∧v=Value.str x t)
 |.inl i,v,h=>by
  obtain ⟨t,e⟩:=Value.isInt_shape (k:=i) (v:=v) h
  exact .inl ⟨i,t,rfl,e⟩
 |.inr x,v,h=>by
  obtain ⟨t,e⟩:=Value.isStrOf_shape (x:=x) (v:=v) h
  exact .inr ⟨x,t,rfl,e⟩
theorem oI (i:Int) (t:Tok):z7 (.inl i) (.int i t)=true:=by simp [z7,Value.isInt]
theorem oH (x:Str) (t:Tok):z7 (.inr x) (.str x t)=true:=by simp [z7,Value.isStrOf]
theorem sR (a b:Int):decide ((Sum.inl a:jK)=Sum.inl b)=(a == b):=by
 by_cases e:a=b
 ·subst e;simp
 ·have h:¬(Sum.inl a:jK)=Sum.inl b:=fun q=>e (Sum.inl.inj q)
  rw [decide_eq_false h]
  exact (beq_eq_false_iff_ne.mpr e).symm
theorem sO (a b:Str):decide ((Sum.inr a:jK)=Sum.inr b)=decide (a=b):=by
 by_cases e:a=b
 ·subst e;simp
 ·have h:¬(Sum.inr a:jK)=Sum.inr b:=fun q=>e (Sum.inr.inj q)
  rw [decide_eq_false h,decide_eq_false e]
theorem sQ (a:Int) (b:Str):decide ((Sum.inl a:jK)=Sum.inr b)=false:=decide_eq_false (fun q=>nomatch q)
theorem sP (a:Str) (b:Int):decide ((Sum.inr a:jK)=Sum.inl b)=false:=decide_eq_false (fun q=>nomatch q)
def qC (prog:Program) (w:World):PySem.KeyKind prog w jK where
 is:=z7
 hash:=uQ w
 inj:=fun v a b ha hb=>by
  rcases vU ha with ⟨i,t,rfl,rfl⟩|⟨x,t,rfl,rfl⟩
  ·rcases vU hb with ⟨j,u,rfl,e⟩|⟨y,u,rfl,e⟩
   ·injection e with e1 _;rw [e1]
   ·exact nomatch e
  ·rcases vU hb with ⟨j,u,rfl,e⟩|⟨y,u,rfl,e⟩
   ·exact nomatch e
   ·injection e with e1 _;rw [e1]
 byValue:=fun k v h=>by
  rcases vU h with ⟨i,t,rfl,rfl⟩|⟨x,t,rfl,rfl⟩<;>rfl
 pyHash:=fun hv h=>by
  rcases vU hv with ⟨i,t,rfl,rfl⟩|⟨x,t,rfl,rfl⟩
  ·exact wpAny_pyHash_int h
  ·exact wpAny_pyHash_str h
 eqBool:=fun hu hv h=>by
  rcases vU hu with ⟨i,t,rfl,rfl⟩|⟨x,t,rfl,rfl⟩
  ·rcases vU hv with ⟨j,u,rfl,rfl⟩|⟨y,u,rfl,rfl⟩
   ·rw [sR] at h;exact wpAny_eqBool_int h
   ·rw [sQ] at h;exact SeqAt.EqAt.int_str i t y u _ _ _ _ h
  ·rcases vU hv with ⟨j,u,rfl,rfl⟩|⟨y,u,rfl,rfl⟩
   ·rw [sP] at h;exact SeqAt.EqAt.str_int x t j u _ _ _ _ h
   ·rw [sO] at h;exact wpAny_eqBool_str h
 «strs»:=fun k x t v h=>by
  rcases vU h with ⟨i,u,rfl,e⟩|⟨y,u,rfl,e⟩
  ·exact nomatch e
  ·injection e with e1 _
   subst e1
   cases v<;>rfl
theorem mQ (prog:Program) (w:World) (i:Int) (t:Tok):(qC prog w).is (.inl i) (.int i t)=true:=oI i t
theorem mP (prog:Program) (w:World) (x:Str) (t:Tok):(qC prog w).is (.inr x) (.str x t)=true:=oH x t
end L2
namespace L2
open PySem PySem.Spec PyProof.Rows
inductive V where
 |non|bl (b:Bool)|int (i:Int)|str (x:Str)|byt (b:Array UInt8)|flt (b:UInt64)|ref (a:Addr)|ty (n:String)
 deriving DecidableEq
def RelV:V→Value→Prop
 |.non,u=>u=Value.none
 |.bl b,u=>u=Value.bool b
 |.int i,u=>∃t,u=Value.int i t
 |.str x,u=>∃t,u=Value.str x t
 |.byt b,u=>∃t,u=Value.bytes b t
 |.flt b,u=>∃t,u=Value.float b t
 |.ref a,u=>u=Value.ref a
 |.ty n,u=>u=Value.type n
abbrev Vals:List V→List Value→Prop:=Paired RelV
theorem Vals.length {xs:List V} {us:List Value} (r:Vals xs us):xs.length=us.length:=Paired.length r
theorem Vals.get:∀{xs:List V} {us:List Value} {i:Nat} {x:V},Vals xs us→xs[i]?=some x→∃u,us[i]?=some u∧RelV x u
 |_,_,_,_,.nil,e=>by simp at e
 |_,_,0,_,.cons r _,e=>by simp at e;subst e;exact ⟨_,rfl,r⟩
 |_,_,i+1,x,.cons _ t,e=>by
  obtain ⟨u,h1,h2⟩:=Vals.get (i:=i) (x:=x) t (by simpa using e)
  exact ⟨u,by simpa using h1,h2⟩
theorem Vals.append:∀{xs ys:List V} {us ws:List Value},Vals xs us→Vals ys ws→Vals (xs++ys) (us++ws)
 |_,_,_,_,.nil,s=>s
 |_,_,_,_,.cons r t,s=>.cons r (Vals.append t s)
theorem Vals.take:∀{xs:List V} {us:List Value} (n:Nat),Vals xs us→Vals (xs.take n) (us.take n)
 |_,_,0,_=>.nil
 |_,_,_+1,.nil=>.nil
 |_,_,n+1,.cons r t=>.cons r (Vals.take n t)
theorem Vals.drop:∀{xs:List V} {us:List Value} (n:Nat),Vals xs us→Vals (xs.drop n) (us.drop n)
 |_,_,0,r=>r
 |_,_,_+1,.nil=>.nil
 |_,_,n+1,.cons _ t=>Vals.drop n t
def RelO:Option V→Option Value→Prop
 |some v,some u=>RelV v u
 |none,none=>True
 |_,_=>False
def KV {κ:Type}:List (κ×V)→List (κ×Value)→Prop:=Paired fun (p:κ×V) (q:κ×Value)=>p.1=q.1∧RelV p.2 q.2
def kV:jK→V
 |.inl i=>.int i
 |.inr x=>.str x
inductive HO where
 /-- a list -/
 |lst (xs:List V)
 /-- a tuple (never changes) -/
 |tup (xs:List V)
 /-- a dict whose keys are ints and texts;one whose keys are tuples of ints and texts (the empty one is both) -/
 |dK (kvs:List (jK×V))|dT (kvs:List (List jK×V))
 /-- a set of ints: its members,its size -/
 |set (S:Int→Bool) (n:Nat)
 /-- an instance of the class at C,its dict at dx,its attributes -/
 |ins (C dx:Addr) (fs:List (Str×V))
 /-- the dict of the instance at x -/
 |own (x:Addr)
 /-- the dict of an exception -/
 |xd (fs:List (Str×V))
 /-- a bound method,f of x -/
 |met (f x:Addr)
 /-- a range object lo,lo+1,.. below hi -/
 |rng (lo hi:Int)
 /-- a thing that is known to the object (the script;a dict while a loop walks it): read,never written while it is so -/
 |frz (o:Obj) (u:HO)
 /-- a code object's table -/
 |tbl (ps:Array Value)
 /-- any other thing,by what is true of its one object (a def of one's own: SetO a S n:=HO.ext fun h=>..) -/
 |ext (φ:Heap→Prop)
abbrev Hp:=Addr→Option HO
def upd (H:Hp) (a:Addr) (o:HO):Hp:=fun b=>if b=a then some o else H b
theorem jE {H:Hp} {a:Addr} {o:HO}:upd H a o a=some o:=by unfold upd;rw [if_pos rfl]
theorem jP {H:Hp} {a b:Addr} {o:HO} (h:b≠a):upd H a o b=H b:=by unfold upd;rw [if_neg h]
theorem J9 {H:Hp} {a b:Addr} {o u:HO} (h:H a=some o) (h':H b=some u) (d:o≠u):a≠b:=by
 intro e;subst e;rw [h] at h';exact d (Option.some.inj h')
theorem qP {H:Hp} {a b:Addr} {o:HO} (h:H a=some o) (h':H b=none):a≠b:=by
 intro e;subst e;rw [h] at h';cases h'
section
variable (P:Program) (w:World)
def ObjOk (H:Hp) (h:Heap) (a:Addr):HO→Prop
 |.lst xs=>xs.length≤sizeLine∧∃(its:List Value) (n:Nat),Vals xs its∧h.get? a=some {cls:=.type "list",data:=.seq its.toArray n}
 |.tup xs=>xs.length≤sizeLine∧∃its:List Value,Vals xs its∧IsTup h a its.toArray
 |.dK kvs=>kvs.length≤sizeLine∧(a == sysModules)=false∧∃vs,KV kvs vs∧h.DictOf (qC P w) a vs
 |.dT kvs=>kvs.length≤sizeLine∧(a == sysModules)=false∧∃xs:List (List jK×Addr×Value),
   Paired (fun (p:List jK×V) (q:List jK×Addr×Value)=>p.1=q.1∧H q.2.1=some (.tup (p.1.map kV))∧RelV p.2 q.2.2) kvs xs∧
   ∃o es ep,h.get? a=some o∧o.ExactDict∧o.data=.dict es ep∧es.toList=xs.map (entryOfKey (tupleKind (qC P w)))∧(xs.map (·.1)).Nodup
 |.set S n=>h.SetOf (intKind P w) a S n
 |.ins C dx fs=>H dx=some (.own a)∧fs.length≤1000∧dx≠a∧h.get? a=some (PySem.W.instObj C dx)∧
   ∃mA,h.Ns1 dx mA∧(∀f,RelO (fs.lookup f) (mA f))∧PySem.Within mA (fs.map (·.1))
 |.own _=>∃o,h.get? a=some o
 |.xd fs=>∃mA,h.Ns1 a mA∧∀f,RelO (fs.lookup f) (mA f)
 |.rng lo hi=>∃t u v,h.get? a=some {cls:=.type "range",data:=.fields #[.int lo t,.int hi u,.int 1 v]}
 |.frz o u=>h.get? a=some o∧ObjOk H h a u
 |.tbl ps=>h.get? a=some {cls:=.none,data:=.fields ps}
 |.met f x=>h.get? a=some (PySem.W.methodObj (.ref f) (.ref x))
 |.ext φ=>φ h∧(∃o,h.get? a=some o)∧∀h1 h2:Heap,φ h1→(∀o,h1.get? a=some o→h2.get? a=some o)→φ h2
def HOk (H:Hp) (h:Heap):Prop:=∀a o,H a=some o→ObjOk P w H h a o
end
section
variable {P:Program} {w:World} {H H':Hp} {h h':Heap} {a:Addr} {o:HO}
theorem ObjOk.lt (x:ObjOk P w H h a o):a<h.objs.size:=by
 cases o with
 |lst xs=>obtain ⟨_,_,_,_,e⟩:=x;exact Heap.lt_size e
 |tup xs=>obtain ⟨_,_,_,p⟩:=x;exact p.lt
 |dK kvs=>obtain ⟨_,_,_,_,o,_,_,e,_⟩:=x;exact Heap.lt_size e
 |dT kvs=>obtain ⟨_,_,_,_,o,_,_,e,_⟩:=x;exact Heap.lt_size e
 |set S n=>obtain ⟨o,_,_,_,e,_⟩:=x;exact Heap.lt_size e
 |ins C dx fs=>obtain ⟨_,_,_,e,_⟩:=x;exact Heap.lt_size e
 |own y=>obtain ⟨_,e⟩:=x;exact Heap.lt_size e
 |xd fs=>obtain ⟨_,⟨_,_,_,e,_⟩,_⟩:=x;exact Heap.lt_size e
 |rng lo hi=>obtain ⟨_,_,_,e⟩:=x;exact Heap.lt_size e
 |frz ob u=>obtain ⟨e,_⟩:=x;exact Heap.lt_size e
 |tbl ps=>exact Heap.lt_size (show h.get? a=some _ from x)
 |met f y=>exact Heap.lt_size (show h.get? a=some _ from x)
 |ext φ=>obtain ⟨_,⟨_,e⟩,_⟩:=x;exact Heap.lt_size e
theorem Paired.mapP {α β:Type} {F G:α→β→Prop}:∀{l₁:List α} {l₂:List β},Paired F l₁ l₂→(∀a b,F a b→G a b)→Paired G l₁ l₂
 |_,_,.nil,_=>.nil
 |_,_,.cons r t,f=>.cons (f _ _ r) (Paired.mapP t f)
theorem ObjOk.stay (x:ObjOk P w H h a o) (k:∀b u,(b=a∨H b=some (.own a))→h.get? b=some u→h'.get? b=some u)
  (ho:∀b,H b=some (.own a)→H' b=some (.own a)) (ht:∀b xs,H b=some (.tup xs)→H' b=some (.tup xs)):ObjOk P w H' h' a o:=by
 induction o with
 |lst xs=>obtain ⟨z,its,n,r,e⟩:=x;exact ⟨z,its,n,r,k _ _ (.inl rfl) e⟩
 |tup xs=>obtain ⟨z,its,r,ob,e,c⟩:=x;exact ⟨z,its,r,ob,k _ _ (.inl rfl) e,c⟩
 |dK kvs=>obtain ⟨z,y,vs,r,ob,es,ep,e,c⟩:=x;exact ⟨z,y,vs,r,ob,es,ep,k _ _ (.inl rfl) e,c⟩
 |dT kvs =>
  obtain ⟨z,y,xs,r,ob,es,ep,e,c⟩:=x
  exact ⟨z,y,xs,Paired.mapP r fun p q z=>⟨z.1,ht _ _ z.2.1,z.2.2⟩,ob,es,ep,k _ _ (.inl rfl) e,c⟩
 |set S n=>obtain ⟨ob,es,ep,t,e,c⟩:=x;exact ⟨ob,es,ep,t,k _ _ (.inl rfl) e,c⟩
 |ins C dx fs =>
  obtain ⟨d,z,ne,e,mA,⟨od,es,ep,e2,c⟩,r⟩:=x
  exact ⟨ho _ d,z,ne,k _ _ (.inl rfl) e,mA,⟨od,es,ep,k _ _ (.inr d) e2,c⟩,r⟩
 |own y=>obtain ⟨ob,e⟩:=x;exact ⟨ob,k _ _ (.inl rfl) e⟩
 |xd fs=>obtain ⟨mA,⟨od,es,ep,e,c⟩,r⟩:=x;exact ⟨mA,⟨od,es,ep,k _ _ (.inl rfl) e,c⟩,r⟩
 |rng lo hi=>obtain ⟨t,u,v,e⟩:=x;exact ⟨t,u,v,k _ _ (.inl rfl) e⟩
 |frz ob u ih=>obtain ⟨e,q⟩:=x;exact ⟨k _ _ (.inl rfl) e,ih q⟩
 |tbl ps =>
  have e:h.get? a=some {cls:=.none,data:=.fields ps}:=x
  show h'.get? a=some {cls:=.none,data:=.fields ps}
  exact k a _ (.inl rfl) e
 |met f y =>
  have e:h.get? a=some (PySem.W.methodObj (.ref f) (.ref y)):=x
  show h'.get? a=some (PySem.W.methodObj (.ref f) (.ref y))
  exact k a _ (.inl rfl) e
 |ext φ=>obtain ⟨p,⟨o,e⟩,st⟩:=x;exact ⟨st _ _ p fun o q=>k _ _ (.inl rfl) q,⟨o,k _ _ (.inl rfl) e⟩,st⟩
theorem HOk.lt (x:HOk P w H h) (e:H a=some o):a<h.objs.size:=(x a o e).lt
theorem HOk.fresh (x:HOk P w H h) (e:h.objs.size≤a):H a=none:=by
 cases q:H a with
 |none=>rfl
 |some u=>exact absurd (Nat.lt_of_lt_of_le (x.lt q) e) (Nat.lt_irrefl _)
theorem HOk.kept (x:HOk P w H h) (k:∀b u,h.get? b=some u→h'.get? b=some u):HOk P w H h':=fun a o e =>
 (x a o e).stay (fun b u _ q=>k b u q) (fun _ q=>q) fun _ _ q=>q
theorem HOk.laid (x:HOk P w H h) (k:∀b u,h.get? b=some u→h'.get? b=some u) (hp:h.objs.size≤a) (new:ObjOk P w (upd H a o) h' a o):HOk P w (upd H a o) h':=fun b u e=>by
 have hn:=x.fresh hp
 by_cases hb:b=a
 ·subst hb;rw [jE] at e;cases e;exact new
 ·rw [jP hb] at e
  exact (x b u e).stay (fun c v _ q=>k c v q) (fun c q=>by rw [jP (qP q hn)];exact q) fun c xs q=>by rw [jP (qP q hn)];exact q
end
def Rd (H:Hp) (a:Addr) (u:HO):Prop:=H a=some u∨∃o,H a=some (.frz o u)
theorem Rd.of {H:Hp} {a:Addr} {u:HO} (h:H a=some u):Rd H a u:=.inl h
theorem Rd.ok {P:Program} {w:World} {H:Hp} {h:Heap} {a:Addr} {u:HO} (r:Rd H a u) (x:HOk P w H h):ObjOk P w H h a u:=by
 rcases r with r|⟨o,r⟩
 ·exact x a u r
 ·obtain ⟨_,q⟩:=x a _ r
  exact q
def QD:Option HO→Prop
 |some (.lst _)=>True
 |some (.dK _)=>True
 |some (.dT _)=>True
 |some (.set _ _)=>True
 |some (.ins _ _ _)=>True
 |some (.ext _)=>True
 |_=>False
section
variable {P:Program} {w:World} {H:Hp} {h h':Heap} {x e:Addr} {o':HO}
theorem HOk.write (ok:HOk P w H h) (mu:QD (H x)) (he:e=x∨H e=some (.own x)) (k:∀b u,b≠e→h.get? b=some u→h'.get? b=some u) (heo:∃u,h'.get? e=some u)
  (new:ObjOk P w (upd H x o') h' x o'):HOk P w (upd H x o') h':=fun b u q=>by
 have nown:∀c y,H c=some (.own y)→c≠x:=fun c y r z=>by subst z;rw [r] at mu;exact mu
 have ntup:∀c xs,H c=some (.tup xs)→c≠x:=fun c xs r z=>by subst z;rw [r] at mu;exact mu
 by_cases hb:b=x
 ·subst hb;rw [jE] at q;cases q;exact new
 ·rw [jP hb] at q
  by_cases hbe:b=e
  ·have q':H b=some (.own x):=by
    rcases he with z|z
    ·exact absurd (hbe.trans z) hb
    ·rw [hbe];exact z
   rw [q] at q';cases q'
   obtain ⟨v,hv⟩:=heo
   exact ⟨v,by rw [hbe];exact hv⟩
  ·refine (ok b u q).stay (fun c v hc r=>k c v ?_ r) (fun c r=>by rw [jP (nown c b r)];exact r) fun c xs r=>by rw [jP (ntup c xs r)];exact r
   rcases hc with rfl|hc
   ·exact hbe
   ·rintro rfl
    rcases he with z|z
    ·exact nown c b hc z
    ·rw [hc] at z;cases z;exact hb rfl
end
structure Un (fs ex:List Addr) (H H':Hp) (h h':Heap):Prop where
 keep:∀b o,h.get? b=some o→H b=none→b∉fs→b∉ex→h'.get? b=some o
 slot:∀b o,h.get? b=some o→H b=none→b∈fs→b∉ex→∃sl,h'.get? b=some {o with slots:=sl}
 free:∀b o,h.get? b=some o→H b=none→b∉ex→H' b=none
 there:∀b o,h.get? b=some o→b∉ex→∃o',h'.get? b=some o'
 tups:∀b xs,H b=some (.tup xs)→H' b=some (.tup xs)
 frzs:∀b o u,H b=some (.frz o u)→H' b=some (.frz o u)
 tbls:∀b ps,H b=some (.tbl ps)→∃more,H' b=some (.tbl (ps++more))
section
variable {fs fs' ex ex':List Addr} {H H1 H2:Hp} {h h1 h2 h':Heap} {a x e:Addr} {o:HO}
theorem Un.any (u:Un fs ex H H1 h h1) {b:Addr} {ob:Obj} (q:h.get? b=some ob) (n:H b=none) (hx:b∉ex):∃sl,h1.get? b=some {ob with slots:=sl}:=by
 by_cases hb:b∈fs
 ·exact u.slot b ob q n hb hx
 ·exact ⟨ob.slots,u.keep b ob q n hb hx⟩
theorem Un.trans (a:Un fs ex H H1 h h1) (b:Un fs ex H1 H2 h1 h2):Un fs ex H H2 h h2 where
 keep:=fun c ob q n hc hx=>b.keep c ob (a.keep c ob q n hc hx) (a.free c ob q n hx) hc hx
 slot:=fun c ob q n hc hx=>by
  obtain ⟨sl,e1⟩:=a.slot c ob q n hc hx
  obtain ⟨sl',e2⟩:=b.slot c _ e1 (a.free c ob q n hx) hc hx
  exact ⟨sl',e2⟩
 free:=fun c ob q n hx=>by
  obtain ⟨o',e1⟩:=a.there c ob q hx
  exact b.free c o' e1 (a.free c ob q n hx) hx
 there:=fun c ob q hx=>by
  obtain ⟨o',e1⟩:=a.there c ob q hx
  exact b.there c o' e1 hx
 tups:=fun c xs q=>b.tups c xs (a.tups c xs q)
 frzs:=fun c ob xs q=>b.frzs c ob xs (a.frzs c ob xs q)
 tbls:=fun c ps q=>by
  obtain ⟨m1,e1⟩:=a.tbls c ps q
  obtain ⟨m2,e2⟩:=b.tbls c _ e1
  exact ⟨m1++m2,by rw [e2,Array.append_assoc]⟩
theorem Un.kept (k:∀b u,h.get? b=some u→h'.get? b=some u):Un fs ex H H h h' :=
 ⟨fun b ob q _ _ _=>k b ob q,fun b ob q _ _ _=>⟨ob.slots,k b ob q⟩,fun _ _ _ n _=>n,fun b ob q _=>⟨ob,k b ob q⟩,fun _ _ q=>q,fun _ _ _ q=>q,fun _ ps q=>⟨#[],by rw [q];simp⟩⟩
theorem Un.refl:Un fs ex H H h h:=Un.kept fun _ _ q=>q
theorem Un.laid (k:∀b u,h.get? b=some u→h'.get? b=some u) (hp:h.objs.size≤a) (hn:H a=none):Un fs ex H (upd H a o) h h' where
 keep:=fun b u q _ _ _=>k b u q
 slot:=fun b u q _ _ _=>⟨u.slots,k b u q⟩
 free:=fun b u q n _=>by rw [jP (Nat.ne_of_lt (Nat.lt_of_lt_of_le (Heap.lt_size q) hp))];exact n
 there:=fun b u q _=>⟨u,k b u q⟩
 tups:=fun b xs q=>by rw [jP (qP q hn)];exact q
 frzs:=fun b u xs q=>by rw [jP (qP q hn)];exact q
 tbls:=fun b ps q=>⟨#[],by rw [jP (qP q hn),q];simp⟩
theorem Un.write (mu:QD (H x)) (he:e=x∨H e=some (.own x)) (k:∀b u,b≠e→h.get? b=some u→h'.get? b=some u) (heo:∃u,h'.get? e=some u):Un fs ex H (upd H x o) h h':=by
 have hx:∀b,H b=none→b≠x:=fun b n z=>by subst z;rw [n] at mu;exact mu
 have hb:∀b,H b=none→b≠e:=fun b n z=>by
  subst z
  rcases he with r|r
  ·exact hx b n r
  ·rw [n] at r;cases r
 have hm:∀b u,H b=some u→¬QD (some u)→b≠x:=fun b u q nm z=>by subst z;rw [q] at mu;exact nm mu
 refine ⟨fun b u q n _ _=>k b u (hb b n) q,fun b u q n _ _=>⟨u.slots,k b u (hb b n) q⟩,fun b u q n _=>by rw [jP (hx b n)];exact n,fun b u q _=>?_,
  fun b xs q=>by rw [jP (hm b _ q fun z=>z)];exact q,fun b u xs q=>by rw [jP (hm b _ q fun z=>z)];exact q,fun b ps q=>⟨#[],by rw [jP (hm b _ q fun z=>z),q];simp⟩⟩
 by_cases hbe:b=e
 ·subst hbe;exact heo
 ·exact ⟨u,k b u hbe q⟩
end
def qL (h:Heap) (H:Hp):List Addr:=(List.range h.objs.size).filter fun a=>(H a).isSome
def v1 (h:Heap) (H:Hp):Heap:=PySem.W.hideAll h (qL h H)
theorem oM (h:Heap) (H:Hp):(v1 h H).objs.size=h.objs.size:=PySem.W.hideAll_size _ _
theorem pP {h:Heap} {H:Hp} {b:Addr} {o:Obj} (e:h.get? b=some o) (n:H b=none):(v1 h H).get? b=some o :=
 PySem.W.hideAll_get _ e fun hm=>by
  have q:(H b).isSome=true:=(List.mem_filter.mp hm).2
  rw [n] at q;simp at q
theorem rH {h:Heap} {H:Hp} {b:Addr} {o:Obj} (e:(v1 h H).get? b=some o):h.get? b=some o∧H b=none:=by
 have e':h.get? b=some o:=PySem.W.of_hideAll (qL h H) e
 refine ⟨e',?_⟩
 cases q:H b with
 |none=>rfl
 |some x =>
  have hm:b∈qL h H:=List.mem_filter.mpr ⟨List.mem_range.mpr (Heap.lt_size e'),by simp [q]⟩
  have z:(v1 h H).get? b=none:=PySem.W.hideAll_none (qL h H) hm
  rw [z] at e;cases e
def rW (g h:Heap) (L:Addr):List (Addr×Obj):=(List.range h.objs.size).filterMap fun a=>if a=L∨(g.get? a).isSome=true then none else (h.get? a).map fun o=>(a,o)
def rest (g h:Heap) (L d:Addr):List (Addr×Obj):=(rW g h L).filter fun p=>decide (p.1≠d)
end L2
namespace L2
open PySem PySem.Spec PyProof.Rows
structure Mod (K:PySem.W.Frag) (mg:Str→Option Value) (base:Heap):Prop where
 kin:K.In base
 glob:base.Ns mainGlobals mg
 blt:∃mb,base.Ns builtinsNs mb∧∀x:Str,x≠"__name__"→mb x=bootBuiltins x
 nolimit:base.NoLimit
structure Cx where
 prog:Program
 w:World
 K:PySem.W.Frag
 mg:Str→Option Value
 base:Heap
 A:Around
 N:List Str
 s₀:Shared
 H₀:Hp
 env:Env
 outer:List Env
 stack:List Env
 ex:List Addr
 fn:Str→Bool
 calm:Bool
 pn:List (Addr×Obj)
 xe:Value→Shared→Prop
def jM (l:List Env):List Addr:=l.filterMap (·.frame)
abbrev Cx.fs (X:Cx):List Addr:=jM X.outer
def ZM (sc:Scope) (x:Str):Prop:=sc.names.lookup x=some .local∨sc.names.lookup x=some .cell∨sc.names.lookup x=some .free
def QF (sc:Scope) (x:Str):Prop:=sc.names.lookup x=some .local∨sc.names.lookup x=some .cell
def uW (env:Env) (h:Heap) (m:Str→Option Value) (x:Str) (u:Value):Prop :=
 (env.kindOf x=some .local∧m x=some u)∨((env.kindOf x=some .cell∨env.kindOf x=some .free)∧∃c,env.cells.lookup x=some c∧h.IsCell c (some u))
structure Cx.Ok (X:Cx):Prop where
 mod:Mod X.K X.mg X.base
 kind:X.env.scope.kind=.function
 glob:X.env.globals=mainGlobals
 blt:X.env.builtins=builtinsNs
 above:X.s₀.heap.objs.size≤X.env.locals
 inj:∀x y c,X.env.cells.lookup x=some c→X.env.cells.lookup y=some c→x=y
 has:∀x,(X.env.kindOf x=some .cell∨X.env.kindOf x=some .free)→∃c,X.env.cells.lookup x=some c
 cab:∀x c,X.fn x=true→X.env.cells.lookup x=some c→X.s₀.heap.objs.size≤c
 hd:X.calm=true→X.A.handled=none
 frames:X.A.frames=some X.stack
 stk:X.stack=X.outer∨(X.stack=X.env::X.outer∧X.env.frame=some X.env.locals)
 exf:∀b∈X.ex,b≠X.env.locals∧∀x c,X.env.cells.lookup x=some c→c≠b
 bs:∀b o,X.base.get? b=some o→X.s₀.heap.get? b=some o∧X.H₀ b=none
 bsz:X.base.objs.size≤X.s₀.heap.objs.size
 noex:∀b o,X.base.get? b=some o→b∉X.ex
 exfs:∀b∈X.ex,b∉X.fs
 funs:X.s₀.heap.FunFrames X.base X.outer
 frf:∀b∈X.fs,X.H₀ b=none
structure Inv (X:Cx) (pins:List (Addr×Obj)) (σ:List (Option V)) (H:Hp) (s:Shared):Prop where
 ok:X.Ok
 os:s.os=X.s₀.os
 bare:AllBare s.gens
 base:Un X.fs X.ex X.H₀ H X.s₀.heap s.heap
 loc:∃m,s.heap.Ns X.env.locals m∧∀(i:Nat) (x:Str) (v:V),X.N[i]?=some x→σ[i]?=some (some v)→ZM X.env.scope x→∃u,RelV v u∧uW X.env s.heap m x u
 cell:∀x c,X.env.cells.lookup x=some c→∃v,s.heap.IsCell c v
 free:H X.env.locals=none
 freeC:∀x c,X.env.cells.lookup x=some c→H c=none
 pin:∀p∈X.pn++pins,s.heap.get? p.1=some p.2∧H p.1=none∧p.1≠X.env.locals∧p.1∉X.fs∧∀v,p.2.data≠.cell v
 hok:HOk X.prog X.w H s.heap
 len:σ.length=X.N.length
section
variable {X:Cx} {pins:List (Addr×Obj)} {σ:List (Option V)} {H H':Hp} {s:Shared} {h':Heap}
theorem Cx.Ok.nofr (ok:X.Ok) {b:Addr} {o:Obj} (e:X.base.get? b=some o):b∉X.fs:=fun hb=>by
 have:=(ok.funs.mem hb).1
 rw [e] at this;cases this
theorem Inv.bs (I:Inv X pins σ H s):∀b o,X.base.get? b=some o→s.heap.get? b=some o∧H b=none:=fun b o e =>
 ⟨I.base.keep b o (I.ok.bs b o e).1 (I.ok.bs b o e).2 (I.ok.nofr e) (I.ok.noex b o e),I.base.free b o (I.ok.bs b o e).1 (I.ok.bs b o e).2 (I.ok.noex b o e)⟩
theorem Inv.bk (I:Inv X pins σ H s):∀b o,X.base.get? b=some o→s.heap.get? b=some o:=fun b o e=>(I.bs b o e).1
theorem Inv.mod (I:Inv X pins σ H s):Mod X.K X.mg X.base:=I.ok.mod
theorem Inv.kIn (I:Inv X pins σ H s):X.K.In s.heap:=I.ok.mod.kin.keeps I.bk
theorem Inv.lt (I:Inv X pins σ H s):X.env.locals<s.heap.objs.size:=let ⟨_,hn,_⟩:=I.loc;hn.lt
theorem Inv.sz (I:Inv X pins σ H s):X.s₀.heap.objs.size≤s.heap.objs.size:=Nat.le_trans I.ok.above (Nat.le_of_lt I.lt)
theorem Inv.nofs (I:Inv X pins σ H s) {a:Addr} (h:s.heap.objs.size≤a):a∉X.fs:=fun hb=>by
 obtain ⟨_,o,ho,_⟩:=I.ok.funs.mem hb
 exact absurd (Nat.lt_of_lt_of_le (Heap.lt_size ho) (Nat.le_trans I.sz h)) (Nat.lt_irrefl _)
theorem Inv.cne (I:Inv X pins σ H s):∀x c,X.env.cells.lookup x=some c→c≠X.env.locals:=fun x c e z=>by
 obtain ⟨v,o,ho,hd⟩:=I.cell x c e
 obtain ⟨m,⟨o',es,ep,ho',hd',_⟩,_⟩:=I.loc
 rw [z,ho'] at ho;cases ho;rw [hd'] at hd;cases hd
theorem Inv.funs (I:Inv X pins σ H s):s.heap.FunFrames X.base X.outer:=by
 have all:∀(l:List Env),(∀b∈jM l,b∈X.fs)→X.s₀.heap.FunFrames X.base l→s.heap.FunFrames X.base l:=by
  intro l
  induction l with
  |nil=>intro _ _;trivial
  |cons env r ih =>
   intro hs hl
   obtain ⟨hk,⟨L,o,hf,hn,ho,hd⟩,hr⟩:=hl
   have hL:L∈X.fs:=hs L (by unfold jM;rw [List.filterMap_cons,hf];exact List.mem_cons_self)
   obtain ⟨sl,e⟩:=I.base.slot L o ho (I.ok.frf L hL) hL fun z=>I.ok.exfs L z hL
   exact ⟨hk,⟨L,_,hf,hn,e,hd⟩,ih (fun b hb=>hs b (by unfold jM;rw [List.filterMap_cons,hf];exact List.mem_cons_of_mem _ hb)) hr⟩
 exact all X.outer (fun _ hb=>hb) I.ok.funs
theorem Inv.stack (I:Inv X pins σ H s):s.heap.FunFrames X.base X.stack:=by
 rcases I.ok.stk with e|⟨e,hf⟩
 ·rw [e];exact I.funs
 ·rw [e]
  obtain ⟨m,hn,_⟩:=I.loc
  refine .cons (by rw [I.ok.kind];decide) hf hn ?_ I.funs
  exact Heap.get?_none_of_le (Nat.le_trans I.ok.bsz I.ok.above)
theorem Inv.stkSub (I:Inv X pins σ H s):∀b∈jM X.stack,b∈X.env.locals::X.fs:=fun b hb=>by
 rcases I.ok.stk with e|⟨e,hf⟩
 ·rw [e] at hb;exact List.mem_cons_of_mem _ hb
 ·rw [e] at hb
  unfold jM at hb
  rw [List.filterMap_cons,hf] at hb
  exact hb
theorem Inv.stkFree (I:Inv X pins σ H s):∀b∈jM X.stack,H b=none:=fun b hb=>by
 rcases List.mem_cons.mp (I.stkSub b hb) with e|hb
 ·rw [e];exact I.free
 ·obtain ⟨_,o,ho,_⟩:=I.ok.funs.mem hb
  exact I.base.free b o ho (I.ok.frf b hb) fun z=>I.ok.exfs b z hb
theorem Inv.step {g':Array GenState} {t':Nat} {d':Drawn} {ch:List Addr} (I:Inv X pins σ H s)
  (hch:∀b∈ch,(b∈X.ex∨X.s₀.heap.objs.size≤b)∧b≠X.env.locals∧(∀x c,X.env.cells.lookup x=some c→c≠b)∧∀p∈X.pn++pins,p.1≠b)
  (keep:∀b o,b≠X.env.locals→b∉X.fs→b∉ch→s.heap.get? b=some o→H b=none→h'.get? b=some o)
  (slot:∀b o,b≠X.env.locals→b∈X.fs→b∉ch→s.heap.get? b=some o→H b=none→∃sl,h'.get? b=some {o with slots:=sl}) (free:∀b o,b∉ch→s.heap.get? b=some o→H b=none→H' b=none)
  (there:∀b o,b∉ch→s.heap.get? b=some o→∃o',h'.get? b=some o')
  (tups:∀b xs,H b=some (.tup xs)→H' b=some (.tup xs)) (frzs:∀b o u,H b=some (.frz o u)→H' b=some (.frz o u)) (tbls:∀b ps,H b=some (.tbl ps)→∃more,H' b=some (.tbl (ps++more)))
  (ns:∀m,s.heap.Ns X.env.locals m→h'.Ns X.env.locals m) (hok:HOk X.prog X.w H' h') (hg:AllBare g') :
  Inv X pins σ H' {s with heap:=h',gens:=g',drawn:=d',toks:=t'}:=by
 have neL:∀b o,X.s₀.heap.get? b=some o→b≠X.env.locals:=fun b o e=>Nat.ne_of_lt (Nat.lt_of_lt_of_le (Heap.lt_size e) I.ok.above)
 have neC:∀b o,X.s₀.heap.get? b=some o→b∉X.ex→b∉ch:=fun b o e hx hb=>by
  rcases (hch b hb).1 with z|z
  ·exact hx z
  ·exact absurd (Nat.lt_of_lt_of_le (Heap.lt_size e) z) (Nat.lt_irrefl _)
 have cellK:∀x c,X.env.cells.lookup x=some c→∀v,s.heap.IsCell c v→h'.IsCell c v:=fun x c e v ⟨o,ho,hd⟩=>by
  have nch:c∉ch:=fun z=>(hch c z).2.2.1 x c e rfl
  by_cases hc:c∈X.fs
  ·obtain ⟨sl,q⟩:=slot c o (I.cne x c e) hc nch ho (I.freeC x c e)
   exact ⟨_,q,hd⟩
  ·exact ⟨o,keep c o (I.cne x c e) hc nch ho (I.freeC x c e),hd⟩
 refine ⟨I.ok,I.os,hg,⟨fun b o e n hb hx=>?_,fun b o e n hb hx=>?_,fun b o e n hx=>?_,fun b o e hx=>?_,fun b xs e=>tups b xs (I.base.tups b xs e),fun b o xs e=>frzs b o xs (I.base.frzs b o xs e),fun b ps e=>?_⟩,?_,fun x c e=>?_,?_,fun x c e=>?_,fun p hp=>?_,hok,I.len⟩
 ·exact keep b o (neL b o e) hb (neC b o e hx) (I.base.keep b o e n hb hx) (I.base.free b o e n hx)
 ·obtain ⟨sl,e1⟩:=I.base.slot b o e n hb hx
  obtain ⟨sl',e2⟩:=slot b _ (neL b o e) hb (neC b o e hx) e1 (I.base.free b o e n hx)
  exact ⟨sl',e2⟩
 ·obtain ⟨o',e1⟩:=I.base.there b o e hx
  exact free b o' (neC b o e hx) e1 (I.base.free b o e n hx)
 ·obtain ⟨o',e1⟩:=I.base.there b o e hx
  exact there b o' (neC b o e hx) e1
 ·obtain ⟨m1,e1⟩:=I.base.tbls b ps e
  obtain ⟨m2,e2⟩:=tbls b _ e1
  exact ⟨m1++m2,by rw [e2,Array.append_assoc]⟩
 ·obtain ⟨m,hn,hl⟩:=I.loc
  refine ⟨m,ns m hn,fun i x v e1 e2 e3=>?_⟩
  obtain ⟨u,r,l⟩:=hl i x v e1 e2 e3
  refine ⟨u,r,?_⟩
  rcases l with l|⟨k,c,e,z⟩
  ·exact .inl l
  ·exact .inr ⟨k,c,e,cellK x c e _ z⟩
 ·obtain ⟨v,z⟩:=I.cell x c e
  exact ⟨v,cellK x c e v z⟩
 ·obtain ⟨m,⟨o,_,_,ho,_⟩,_⟩:=I.loc
  exact free _ o (fun z=>(hch _ z).2.1 rfl) ho I.free
 ·obtain ⟨v,o,ho,hd⟩:=I.cell x c e
  exact free c o (fun z=>(hch c z).2.2.1 x c e rfl) ho (I.freeC x c e)
 ·obtain ⟨e,n,ne,nf,d⟩:=I.pin p hp
  have nch:p.1∉ch:=fun z=>(hch p.1 z).2.2.2 p hp rfl
  exact ⟨keep p.1 p.2 ne nf nch e n,free p.1 p.2 nch e n,ne,nf,d⟩
theorem Inv.un {t':Nat} (I:Inv X pins σ H s) (u:Un X.fs [] H H' s.heap h') (hok:HOk X.prog X.w H' h'):Inv X pins σ H' {s with heap:=h',toks:=t'}:=by
  obtain ⟨m,⟨o,es,ep,ho,r⟩,_⟩:=id I.loc
  obtain ⟨sl,hL⟩:=u.any ho I.free (by simp)
  exact I.step (g':=s.gens) (d':=s.drawn) (ch:=[]) (fun _ z=>nomatch z) (fun b o _ hb _ e n=>u.keep b o e n hb (by simp)) (fun b o _ hb _ e n=>u.slot b o e n hb (by simp)) (fun b o _ e n=>u.free b o e n (by simp)) (fun b o _ e=>u.there b o e (by simp)) u.tups u.frzs u.tbls (fun m' hm=>by
    obtain ⟨o',es',ep',ho',r'⟩:=hm
    rw [ho] at ho';cases ho'
    exact ⟨_,es',ep',hL,r'⟩) hok I.bare
theorem Inv.call {g':Array GenState} {t':Nat} {d':Drawn} {ch:List Addr} (I:Inv X pins σ H s) (u:Un (jM X.stack) ch H H' s.heap h') (hok:HOk X.prog X.w H' h') (hg:AllBare g')
  (hch:∀b∈ch,(b∈X.ex∨X.s₀.heap.objs.size≤b)∧b≠X.env.locals∧(∀x c,X.env.cells.lookup x=some c→c≠b)∧∀p∈X.pn++pins,p.1≠b) :
  Inv X pins σ H' {s with heap:=h',gens:=g',drawn:=d',toks:=t'}:=by
 obtain ⟨m,⟨o,es,ep,ho,r⟩,_⟩:=id I.loc
 obtain ⟨sl,hL⟩:=u.any ho I.free fun z=>(hch _ z).2.1 rfl
 exact I.step (ch:=ch) hch (fun b o hL hb hc e n=>u.keep b o e n (fun z=>(List.mem_cons.mp (I.stkSub b z)).elim hL hb) hc) (fun b o _ _ hc e n=>u.any e n hc) (fun b o hc e n=>u.free b o e n hc) (fun b o hc e=>u.there b o e hc) u.tups u.frzs u.tbls (fun m' hm=>by
  obtain ⟨o',es',ep',ho',r'⟩:=hm
  rw [ho] at ho';cases ho'
  exact ⟨_,es',ep',hL,r'⟩) hok hg
theorem Inv.turned {t':Nat} {it:Addr} (I:Inv X pins σ H s) (k:∀b o,b≠it→s.heap.get? b=some o→h'.get? b=some o) (hn:H it=none) (hL:it≠X.env.locals)
    (h1:it∈X.ex∨X.s₀.heap.objs.size≤it) (h2:∀x c,X.env.cells.lookup x=some c→c≠it) (h3:∀p∈X.pn++pins,p.1≠it):Inv X pins σ H {s with heap:=h',toks:=t'}:=by
  have nit:∀b u,H b=some u→b≠it:=fun b u e z=>by rw [z,hn] at e;cases e
  refine I.step (g':=s.gens) (d':=s.drawn) (ch:=[it]) (fun b hb=>?_) (fun b o _ _ hc e _=>k b o (fun z=>hc (by simp [z])) e) (fun b o _ _ hc e _=>⟨o.slots,k b o (fun z=>hc (by simp [z])) e⟩) (fun _ _ _ _ n=>n)
    (fun b o hc e=>⟨o,k b o (fun z=>hc (by simp [z])) e⟩) (fun _ _ e=>e) (fun _ _ _ e=>e) (fun b ps e=>⟨#[],by rw [e];simp⟩) (fun m hm=>?_) (fun b u e=>?_) I.bare
  · have e:b=it:=by simpa using hb
    subst e
    exact ⟨h1,hL,h2,h3⟩
  · obtain ⟨o,es,ep,ho,r⟩:=hm
    exact ⟨o,es,ep,k _ o (Ne.symm hL) ho,r⟩
  · refine (I.hok b u e).stay (fun c v hc q=>k c v ?_ q) (fun _ q=>q) fun _ _ q=>q
    rcases hc with z|z
    · rw [z];exact nit b u e
    · exact nit c _ z
theorem Inv.tok (I:Inv X pins σ H s) (t:Nat):Inv X pins σ H {s with toks:=t}:=I.un (h':=s.heap) (t':=t) Un.refl I.hok
theorem Inv.kept {t':Nat} (I:Inv X pins σ H s) (k:∀b u,s.heap.get? b=some u→h'.get? b=some u):Inv X pins σ H {s with heap:=h',toks:=t'}:=I.un (Un.kept k) (I.hok.kept k)
theorem Inv.laid {a:Addr} {o:HO} {t':Nat} (I:Inv X pins σ H s) (k:∀b u,s.heap.get? b=some u→h'.get? b=some u) (hp:s.heap.objs.size≤a) (new:ObjOk X.prog X.w (upd H a o) h' a o) :
  Inv X pins σ (upd H a o) {s with heap:=h',toks:=t'}:=I.un (Un.laid k hp (I.hok.fresh hp)) (I.hok.laid k hp new)
theorem Inv.write {x e:Addr} {o:HO} {t':Nat} (I:Inv X pins σ H s) (mu:QD (H x)) (he:e=x∨H e=some (.own x)) (k:∀b u,b≠e→s.heap.get? b=some u→h'.get? b=some u) (heo:∃u,h'.get? e=some u)
  (new:ObjOk X.prog X.w (upd H x o) h' x o):Inv X pins σ (upd H x o) {s with heap:=h',toks:=t'}:=I.un (Un.write mu he k heo) (I.hok.write mu he k heo new)
theorem Inv.pins_of {pins':List (Addr×Obj)} (I:Inv X pins σ H s) (h:∀p∈pins',s.heap.get? p.1=some p.2∧H p.1=none∧p.1≠X.env.locals∧p.1∉X.fs∧∀v,p.2.data≠.cell v):Inv X pins' σ H s :=
 ⟨I.ok,I.os,I.bare,I.base,I.loc,I.cell,I.free,I.freeC,fun p hp=>(List.mem_append.mp hp).elim (fun z=>I.pin p (List.mem_append_left _ z)) (h p),I.hok,I.len⟩
theorem bG {N:List Str} (hN:N.Nodup) {i j:Nat} {x:Str} (a:N[i]?=some x) (b:N[j]?=some x):i=j:=by
 obtain ⟨h1,e1⟩:=List.getElem?_eq_some_iff.mp a
 obtain ⟨h2,e2⟩:=List.getElem?_eq_some_iff.mp b
 exact (List.getElem_inj hN).mp (e1.trans e2.symm)
theorem dU {M:Model} {A:Around} {E:Value→Shared→Prop} {i:Nat} {x:Str} {v:V} {u:Value} {Q:Unit→Shared→Prop} (I:Inv X pins σ H s) (hN:X.N.Nodup) (hi:X.N[i]?=some x) (hx:QF X.env.scope x) (r:RelV v u)
  (h:∀s',Inv X pins (σ.set i (some v)) H s'→(∃a,Heap.SameBut a s.heap s'.heap∧(a=X.env.locals∨X.env.cells.lookup x=some a))→Q () s') (hf:X.fn x=true∨X.env.scope.names.lookup x=some .local:=by first|exact .inl rfl|exact .inr rfl|assumption):wpAny M A (storeName X.env x u) Q E s:=by
 obtain ⟨m,hn,hl⟩:=id I.loc
 have hcls:(X.env.scope.kind == .class||(X.env.scope.kind == .module&&X.env.locals != X.env.globals))=false:=by rw [I.ok.kind];rfl
 have hiσ:i<σ.length:=by rw [I.len];exact (List.getElem?_eq_some_iff.mp hi).1
 have cne:=I.cne
 have tracked:∀{a:Addr} {h':Heap},(∃o,s.heap.get? a=some o∧H a=none)→Heap.SameBut a s.heap h'→HOk X.prog X.w H h':=fun {a h'} ha hs b ob e=>by
  obtain ⟨_,_,hfree⟩:=ha
  refine (I.hok b ob e).stay (fun c w' hc q=>(hs.2 c ?_).trans q) (fun _ q=>q) fun _ _ q=>q
  rintro rfl
  rcases hc with rfl|hc
  ·rw [hfree] at e;cases e
  ·rw [hfree] at hc;cases hc
 rcases hx with hk|hk
 ·refine wpAny_storeName_local hk hn (fun h' hn' hs=>?_) hcls
  obtain ⟨oL,_,_,hoL,_⟩:=id hn
  refine h _ ⟨I.ok,I.os,I.bare,⟨fun b o e n hb hx=>?_,fun b o e n hb hx=>?_,I.base.free,fun b o e hx=>?_,I.base.tups,I.base.frzs,I.base.tbls⟩,⟨_,hn',fun j y v' e1 e2 e3=>?_⟩,fun y c e=>?_,I.free,I.freeC,fun p hp=>?_,tracked ⟨oL,hoL,I.free⟩ hs,by simpa using I.len⟩ ⟨_,hs,.inl rfl⟩
  ·exact (hs.2 b (Nat.ne_of_lt (Nat.lt_of_lt_of_le (Heap.lt_size e) I.ok.above))).trans (I.base.keep b o e n hb hx)
  ·obtain ⟨sl,e1⟩:=I.base.slot b o e n hb hx
   exact ⟨sl,(hs.2 b (Nat.ne_of_lt (Nat.lt_of_lt_of_le (Heap.lt_size e) I.ok.above))).trans e1⟩
  ·obtain ⟨o',e1⟩:=I.base.there b o e hx
   exact ⟨o',(hs.2 b (Nat.ne_of_lt (Nat.lt_of_lt_of_le (Heap.lt_size e) I.ok.above))).trans e1⟩
  ·by_cases hj:j=i
   ·subst hj
    rw [hi] at e1;cases e1
    rw [List.getElem?_set_self hiσ] at e2
    cases e2
    exact ⟨u,r,.inl ⟨hk,by simp⟩⟩
   ·rw [List.getElem?_set_ne (Ne.symm hj)] at e2
    obtain ⟨u',r',q⟩:=hl j y v' e1 e2 e3
    refine ⟨u',r',?_⟩
    rcases q with ⟨k,e⟩|⟨k,c,e,z⟩
    ·refine .inl ⟨k,?_⟩
     have:y≠x:=fun e=>hj (bG hN e1 (e▸hi))
     simp [this,e]
    ·exact .inr ⟨k,c,e,z.sameBut hs (cne y c e)⟩
  ·obtain ⟨w',z⟩:=I.cell y c e
   exact ⟨w',z.sameBut hs (cne y c e)⟩
  ·obtain ⟨e,n,ne,nf,d⟩:=I.pin p hp
   exact ⟨(hs.2 p.1 ne).trans e,n,ne,nf,d⟩
 ·have hfn:X.fn x=true:=by
   rcases hf with z|z
   ·exact z
   ·rw [z] at hk;cases hk
  obtain ⟨c,hc⟩:=I.ok.has x (.inl hk)
  obtain ⟨w',z⟩:=I.cell x c hc
  refine wpAny_storeName_cell I.ok.kind hk hc z (fun h' hc' hs=>?_)
  obtain ⟨oc,hoc,hocd⟩:=id z
  refine h {s with heap:=h'} ⟨I.ok,I.os,I.bare,⟨fun b o e n hb hx=>?_,fun b o e n hb hx=>?_,I.base.free,fun b o e hx=>?_,I.base.tups,I.base.frzs,I.base.tbls⟩,⟨m,hn.sameBut hs (Ne.symm (cne x c hc)),fun j y v' e1 e2 e3=>?_⟩,fun y c' e=>?_,I.free,I.freeC,fun p hp=>?_,tracked ⟨oc,hoc,I.freeC x c hc⟩ hs,by simpa using I.len⟩ ⟨c,hs,.inr hc⟩
  ·exact (hs.2 b (Nat.ne_of_lt (Nat.lt_of_lt_of_le (Heap.lt_size e) (I.ok.cab x c hfn hc)))).trans (I.base.keep b o e n hb hx)
  ·obtain ⟨sl,e1⟩:=I.base.slot b o e n hb hx
   exact ⟨sl,(hs.2 b (Nat.ne_of_lt (Nat.lt_of_lt_of_le (Heap.lt_size e) (I.ok.cab x c hfn hc)))).trans e1⟩
  ·obtain ⟨o',e1⟩:=I.base.there b o e hx
   exact ⟨o',(hs.2 b (Nat.ne_of_lt (Nat.lt_of_lt_of_le (Heap.lt_size e) (I.ok.cab x c hfn hc)))).trans e1⟩
  ·by_cases hj:j=i
   ·subst hj
    rw [hi] at e1;cases e1
    rw [List.getElem?_set_self hiσ] at e2
    cases e2
    exact ⟨u,r,.inr ⟨.inl hk,c,hc,hc'⟩⟩
   ·rw [List.getElem?_set_ne (Ne.symm hj)] at e2
    obtain ⟨u',r',q⟩:=hl j y v' e1 e2 e3
    refine ⟨u',r',?_⟩
    rcases q with q|⟨k,c',e,z'⟩
    ·exact .inl q
    ·refine .inr ⟨k,c',e,z'.sameBut hs ?_⟩
     rintro rfl
     exact hj (bG hN e1 (I.ok.inj _ _ _ e hc▸hi))
  ·by_cases hcc:c'=c
   ·subst hcc;exact ⟨_,hc'⟩
   ·obtain ⟨w2,z2⟩:=I.cell y c' e
    exact ⟨w2,z2.sameBut hs hcc⟩
  ·obtain ⟨e,n,ne,nf,d⟩:=I.pin p hp
   refine ⟨(hs.2 p.1 ?_).trans e,n,ne,nf,d⟩
   intro q
   rw [q,hoc] at e
   have q':oc=p.2:=Option.some.inj e
   exact d w' (by rw [← q'];exact hocd)
theorem bC {M:Model} {A:Around} {E:Value→Shared→Prop} {i:Nat} {x:Str} {v:V} {u:Value} {Q:Unit→Shared→Prop} (I:Inv X pins σ H s) (hN:X.N.Nodup) (hi:X.N[i]?=some x) (hx:QF X.env.scope x) (r:RelV v u)
  (h:∀s',Inv X pins (σ.set i (some v)) H s'→Q () s') (hf:X.fn x=true∨X.env.scope.names.lookup x=some .local:=by first|exact .inl rfl|exact .inr rfl|assumption):wpAny M A (storeName X.env x u) Q E s :=
 dU I hN hi hx r (fun s' I' _=>h s' I') hf
theorem Inv.call' {s':Shared} {ch:List Addr} (I:Inv X pins σ H s) (ho:s'.os=s.os) (u:Un (jM X.stack) ch H H' s.heap s'.heap) (hok:HOk X.prog X.w H' s'.heap) (hg:AllBare s'.gens)
  (hch:∀b∈ch,(b∈X.ex∨X.s₀.heap.objs.size≤b)∧b≠X.env.locals∧(∀x c,X.env.cells.lookup x=some c→c≠b)∧∀p∈X.pn++pins,p.1≠b):Inv X pins σ H' s':=by
 obtain ⟨h',g',d',t',o'⟩:=s'
 have e:o'=s.os:=ho
 subst e
 exact I.call (g':=g') (t':=t') (d':=d') u hok hg hch
end
abbrev XK:=Value→Option Addr→Hp→Prop
abbrev St:=List (Option V)
abbrev VK:=V→Hp→Prop
abbrev TE:=St→Hp→VK→Prop
abbrev TT:=St→Hp→(Bool→Hp→Prop)→Prop
abbrev TA:=St→Hp→(List V→Hp→Prop)→Prop
structure Ends where
 nx:St→Hp→Prop
 rt:VK
 bk:St→Hp→Prop:=fun _ _=>False
 ct:St→Hp→Prop:=fun _ _=>False
abbrev TS:=Ends→St→Hp→Prop
def EP (X:Cx) (pins:List (Addr×Obj)) (σ:St) (Q:VK) (u:Value) (s':Shared):Prop:=∃v H',Inv X pins σ H' s'∧RelV v u∧Q v H'
def TP (X:Cx) (pins:List (Addr×Obj)) (σ:St) (Q:Bool→Hp→Prop) (b:Bool) (s':Shared):Prop:=∃H',Inv X pins σ H' s'∧Q b H'
def AP (X:Cx) (pins:List (Addr×Obj)) (σ:St) (Q:List V→Hp→Prop) (us:List Value) (s':Shared):Prop:=∃vs H',Inv X pins σ H' s'∧Vals vs us∧Q vs H'
def SP (X:Cx) (pins:List (Addr×Obj)) (D:Ends) (f:Flow) (s':Shared):Prop :=
 match f with
 |.next=>∃σ' H',Inv X pins σ' H' s'∧D.nx σ' H'
 |.brk=>∃σ' H',Inv X pins σ' H' s'∧D.bk σ' H'
 |.cont=>∃σ' H',Inv X pins σ' H' s'∧D.ct σ' H'
 |.ret u=>∃v σ' H',Inv X pins σ' H' s'∧RelV v u∧D.rt v H'
def PE (X:Cx) (e:Expr) (t:TE):Prop :=
 ∀(pins:List (Addr×Obj)) (s:Shared) (σ:St) (H:Hp) (Q:VK),Inv X pins σ H s→t σ H Q→wpAny (model X.prog X.w) X.A (eval e X.env) (EP X pins σ Q) X.xe s
def PT (X:Cx) (e:Expr) (t:TT):Prop :=
 ∀(pins:List (Addr×Obj)) (s:Shared) (σ:St) (H:Hp) (Q:Bool→Hp→Prop),Inv X pins σ H s→t σ H Q→wpAny (model X.prog X.w) X.A (isTrue e X.env (eval e X.env)) (TP X pins σ Q) X.xe s
def PW (X:Cx) (e:Expr) (t:TT):Prop :=
 ∀(whole:Sem Value) (pins:List (Addr×Obj)) (s:Shared) (σ:St) (H:Hp) (Q:Bool→Hp→Prop),Inv X pins σ H s→t σ H Q→wpAny (model X.prog X.w) X.A (isTrue e X.env whole) (TP X pins σ Q) X.xe s
theorem PW.pt {X:Cx} {e:Expr} {t:TT} (h:PW X e t):PT X e t:=h _
def PA (X:Cx) (es:List Expr) (t:TA):Prop :=
 ∀(pos:Pos) (pins:List (Addr×Obj)) (s:Shared) (σ:St) (H:Hp) (Q:List V→Hp→Prop),Inv X pins σ H s→t σ H Q→wpAny (model X.prog X.w) X.A (spliced (backTo pos (starEach es X.env))) (AP X pins σ Q) X.xe s
def PS (X:Cx) (st:Stmt) (t:TS):Prop :=
 ∀(pins:List (Addr×Obj)) (s:Shared) (σ:St) (H:Hp) (D:Ends),Inv X pins σ H s→t D σ H→wpAny (model X.prog X.w) X.A (exec st X.env) (SP X pins D) X.xe s
def PSs (X:Cx) (st:List Stmt) (t:TS):Prop :=
 ∀(pins:List (Addr×Obj)) (s:Shared) (σ:St) (H:Hp) (D:Ends),Inv X pins σ H s→t D σ H→wpAny (model X.prog X.w) X.A (execs st X.env) (SP X pins D) X.xe s
theorem jD {α:Type} {t:Sem α} {Q Q':α→Shared→Prop} {M:Model} {A:Around} {E:Value→Shared→Prop} {s:Shared} (h:wpAny M A t Q E s) (hQ:∀a s,Q a s→Q' a s):wpAny M A t Q' E s:=wpAny_mono h hQ fun _ _ x=>x
end L2
namespace L2
open PySem PySem.Spec PyProof.Rows
section
variable {X:Cx}
def iN (i:Nat):TE:=fun σ H Q=>∃v,σ[i]?=some (some v)∧Q v H
def tC (v:V):TE:=fun _ H Q=>Q v H
theorem sK {i:Nat} {x:Str} {pos:Pos} (hN:X.N[i]?=some x) (hv:ZM X.env.scope x) (hd:(x == ("__debug__":Str))=false:=by decide) (hcd:(x == ("__classdict__":Str))=false:=by decide):PE X (.Name x pos) (iN i):=by
 intro pins s σ H Q I h
 obtain ⟨v,e,h⟩:=h
 obtain ⟨m,hn,hl⟩:=I.loc
 obtain ⟨u,r,l⟩:=hl i x v hN e hv
 have fin:EP X pins σ Q u s:=⟨v,H,I,r,h⟩
 rcases l with ⟨hk,hm⟩|⟨hk,c,hc,hcell⟩
 ·exact wpAny_Name (wpAny_loadName_local I.ok.kind hk hn hm fin) hd
 ·rcases hk with hk|hk
  ·exact wpAny_Name (wpAny_loadName_cell I.ok.kind hk hc hcell fin) hd
  ·exact wpAny_Name (wpAny_loadName_free I.ok.kind hk hc hcell fin hcd) hd
theorem jB {i j pos}:PE X (.Constant (.int i) j pos) (tC (.int i)):=fun _ _ _ H _ I h=>wpAny_Constant_int ⟨.int i,H,I.tok _,⟨_,rfl⟩,h⟩
theorem y0 {b j pos}:PE X (.Constant (.bool b) j pos) (tC (.bl b)):=fun _ _ _ H _ I h=>Constant_bool ⟨.bl b,H,I,rfl,h⟩
theorem jJ {x j pos}:PE X (.Constant (.str x) j pos) (tC (.str x)):=fun _ _ _ H _ I h=>Calls.Constant_str ⟨.str x,H,I.tok _,⟨_,rfl⟩,h⟩
def Gl (X:Cx) (x:Str):Prop:=X.env.kindOf x=some .globalImplicit
theorem JT {E:Value→Shared→Prop} {pins:List (Addr×Obj)} {s:Shared} {σ:St} {H:Hp} {x:Str} {u:Value} {pos:Pos} {Q:Value→Shared→Prop} (I:Inv X pins σ H s) (hg:Gl X x) (hm:X.mg x=some u) (h:Q u s)
  (hd:(x == ("__debug__":Str))=false:=by decide):wpAny (model X.prog X.w) X.A (eval (.Name x pos) X.env) Q E s :=
 Calls.Name_function_global I.ok.kind hg (Calls.loadGlobal_global (by rw [I.ok.glob];exact I.mod.glob.keeps I.bk) hm h) hd
theorem z5 {E:Value→Shared→Prop} {pins:List (Addr×Obj)} {s:Shared} {σ:St} {H:Hp} {x:Str} {u:Value} {pos:Pos} {Q:Value→Shared→Prop} (I:Inv X pins σ H s) (hg:Gl X x) (hm:X.mg x=none) (hv:bootBuiltins x=some u) (h:Q u s)
  (hn:x≠"__name__":=by decide) (hd:(x == ("__debug__":Str))=false:=by decide):wpAny (model X.prog X.w) X.A (eval (.Name x pos) X.env) Q E s:=by
 obtain ⟨mb,h1,h2⟩:=I.mod.blt
 exact Calls.Name_function_global I.ok.kind hg (Calls.loadGlobal_builtin (by rw [I.ok.glob];exact I.mod.glob.keeps I.bk) hm (by rw [I.ok.blt];exact h1.keeps I.bk) ((h2 x hn).trans hv) h) hd
theorem vV {x:Str} {v:V} {u:Value} {pos:Pos} (hg:Gl X x) (hm:X.mg x=some u) (r:RelV v u) (hd:(x == ("__debug__":Str))=false:=by decide):PE X (.Name x pos) (tC v) :=
 fun _ _ _ H _ I h=>JT I hg hm ⟨v,H,I,r,h⟩ hd
theorem bM {x:Str} {v:V} {u:Value} {pos:Pos} (hg:Gl X x) (hm:X.mg x=none) (hv:bootBuiltins x=some u) (r:RelV v u) (hn:x≠"__name__":=by decide) (hd:(x == ("__debug__":Str))=false:=by decide):PE X (.Name x pos) (tC v) :=
 fun _ _ _ H _ I h=>z5 I hg hm hv ⟨v,H,I,r,h⟩ hn hd
variable {a b:Expr} {ta tb:TE} {pos:Pos}
def tB (t:TE):TT:=fun σ H Q=>t σ H fun x H1=>∃c,x=.bl c∧Q c H1
theorem vF {e:Expr} {t:TE} (h:PE X e t) (he:∀whole,isTrue e X.env whole=(do let v ← whole;standAt e.pos;holding [v] (truthy v)):=by intro _;rfl):PT X e (tB t):=by
 intro pins s σ H Q I hw
 refine isTrue_plain (jD (h pins s σ H _ I hw) fun v s1 ⟨x,H1,I1,r1,q1⟩=>?_) (he _)
 obtain ⟨d,rfl,q⟩:=q1
 cases r1
 exact wpAny_truthy_bool ⟨H1,I1,q⟩
variable {tA tB':TT} {rest:List Expr}
def u4 (t u:TT):TT:=fun σ H Q=>t σ H fun c H1=>if c=true then Q true H1 else u σ H1 Q
def uA (t:TT):TT:=fun σ H Q=>t σ H fun c H1=>Q (!c) H1
theorem zZ (ha:PT X a tA):PW X (.BoolOp .Or [a] pos) tA:=by
 intro wh pins s σ H Q I h
 refine isTrue_or (jD (ha pins s σ H Q I h) fun c s1 e=>?_)
 cases c with
 |false=>exact isTrue_or_nil e
 |true=>exact e
theorem yY (ha:PT X a tA) (hb:PW X (.BoolOp .Or (b::rest) pos) tB'):PW X (.BoolOp .Or (a::b::rest) pos) (u4 tA tB'):=by
 intro wh pins s σ H Q I h
 refine isTrue_or (jD (ha pins s σ H _ I h) fun c s1 ⟨H1,I1,q1⟩=>?_)
 cases c with
 |true=>exact ⟨H1,I1,q1⟩
 |false=>exact hb wh pins s1 σ H1 Q I1 q1
theorem yU (ha:PT X a tA):PT X (.UnaryOp .Not a pos) (uA tA):=by
 intro pins s σ H Q I h
 exact isTrue_not (ha pins s σ H (fun c H1=>Q (!c) H1) I h)
def tM (ta tb:TE):TE:=fun σ H Q=>ta σ H fun x H1=>∃c,x=.bl c∧if c=true then tb σ H1 Q else Q (.bl false) H1
def t9 (ta tb:TE):TE:=fun σ H Q=>ta σ H fun x H1=>∃c,x=.bl c∧if c=true then Q (.bl true) H1 else tb σ H1 Q
theorem Q5 {op} {t:TE} (h:PE X a t):PE X (.BoolOp op [a] pos) t:=fun pins s σ H Q I hw=>BoolOp_one (h pins s σ H Q I hw)
theorem bX (ha:PE X a ta) (hb:PE X (.BoolOp .And (b::rest) pos) tb):PE X (.BoolOp .And (a::b::rest) pos) (tM ta tb):=by
 intro pins s σ H Q I h
 refine BoolOp_and (jD (ha pins s σ H _ I h) fun v s1 ⟨x,H1,I1,r1,q1⟩=>?_)
 obtain ⟨c,rfl,q1⟩:=q1
 cases r1
 refine wpAny_truthy_bool ?_
 cases c with
 |true=>exact hb pins s1 σ H1 Q I1 q1
 |false=>exact ⟨.bl false,H1,I1,rfl,q1⟩
theorem tP (ha:PE X a ta) (hb:PE X (.BoolOp .Or (b::rest) pos) tb):PE X (.BoolOp .Or (a::b::rest) pos) (t9 ta tb):=by
 intro pins s σ H Q I h
 refine BoolOp_or (jD (ha pins s σ H _ I h) fun v s1 ⟨x,H1,I1,r1,q1⟩=>?_)
 obtain ⟨c,rfl,q1⟩:=q1
 cases r1
 refine wpAny_truthy_bool ?_
 cases c with
 |false=>exact hb pins s1 σ H1 Q I1 q1
 |true=>exact ⟨.bl true,H1,I1,rfl,q1⟩
end
end L2
namespace L2
open PySem PySem.Spec PyProof.Rows
def SqL (K:PySem.W.Frag) (H:Hp) (a:Addr) (xs:List V):Prop :=
 Rd H a (.lst xs)∨
  ∃(o:Obj) (its:Array Value) (n:Nat),K.lookup a=some o∧o.cls=.type "list"∧o.dict=none∧o.data=.seq its n∧its.size≤sizeLine∧Vals xs its.toList
def SqT (K:PySem.W.Frag) (H:Hp) (a:Addr) (xs:List V):Prop :=
 Rd H a (.tup xs)∨
  ∃(o:Obj) (its:Array Value) (n:Nat),K.lookup a=some o∧o.cls=.type "tuple"∧o.data=.seq its n∧its.size≤sizeLine∧Vals xs its.toList
def uV:Value→Option V
 |.none=>some .non
 |.bool b=>some (.bl b)
 |.int i _=>some (.int i)
 |.str x _=>some (.str x)
 |.bytes b _=>some (.byt b)
 |.float b _=>some (.flt b)
 |.ref a=>some (.ref a)
 |.type n=>some (.ty n)
 |_=>none
theorem RelV.abs {x:V} {u:Value} (r:RelV x u):uV u=some x:=by
 cases x with
 |non=>cases r;rfl
 |bl _=>cases r;rfl
 |int _=>obtain ⟨t,rfl⟩:=r;rfl
 |str _=>obtain ⟨t,rfl⟩:=r;rfl
 |byt _=>obtain ⟨t,rfl⟩:=r;rfl
 |flt _=>obtain ⟨t,rfl⟩:=r;rfl
 |ref _=>cases r;rfl
 |ty _=>cases r;rfl
theorem RelV.inj {x y:V} {u:Value} (r:RelV x u) (q:RelV y u):x=y:=Option.some.inj (r.abs.symm.trans q.abs)
theorem Vals.inj:∀{xs ys:List V} {us:List Value},Vals xs us→Vals ys us→xs=ys
 |_,_,_,.nil,.nil=>rfl
 |_,_,_,.cons r t,.cons r' t'=>by rw [r.inj r',Vals.inj t t']
section
variable {X:Cx} {pins:List (Addr×Obj)} {σ:St} {H:Hp} {s:Shared} {a:Addr} {xs ys:List V}
theorem SqL.of {K:PySem.W.Frag} (h:H a=some (.lst xs)):SqL K H a xs:=.inl (.inl h)
theorem SqT.of {K:PySem.W.Frag} (h:H a=some (.tup xs)):SqT K H a xs:=.inl (.inl h)
theorem Inv.list (I:Inv X pins σ H s) (h:SqL X.K H a xs):∃its:List Value,Vals xs its∧PlainL s.heap a its.toArray∧xs.length≤sizeLine:=by
 rcases h with h|⟨o,its,n,hk,hc,hd,hs,hz,r⟩
 ·obtain ⟨z,its,n,r,e⟩:=h.ok I.hok
  exact ⟨its,r,⟨_,n,e,rfl,rfl,rfl⟩,z⟩
 ·refine ⟨its.toList,r,⟨o,n,I.kIn a o hk,hc,hd,by simpa using hs⟩,?_⟩
  have e:=r.length
  simp only [Array.length_toList] at e
  omega
theorem Inv.tuple (I:Inv X pins σ H s) (h:SqT X.K H a xs):∃its:List Value,Vals xs its∧IsTup s.heap a its.toArray∧xs.length≤sizeLine:=by
 rcases h with h|⟨o,its,n,hk,hc,hs,hz,r⟩
 ·obtain ⟨z,its,r,p⟩:=h.ok I.hok
  exact ⟨its,r,p,z⟩
 ·refine ⟨its.toList,r,⟨o,I.kIn a o hk,hc,n,by simpa using hs⟩,?_⟩
  have e:=r.length
  simp only [Array.length_toList] at e
  omega
theorem Inv.list_inj (I:Inv X pins σ H s) (h:SqL X.K H a xs) (h':SqL X.K H a ys):xs=ys:=by
 obtain ⟨its,r,⟨o,n,e,_,_,d⟩,_⟩:=I.list h
 obtain ⟨its',r',⟨o',n',e',_,_,d'⟩,_⟩:=I.list h'
 rw [e] at e';cases e'
 rw [d] at d'
 injection d' with d1 _
 have:its=its':=by simpa using congrArg Array.toList d1
 subst this
 exact r.inj r'
theorem Inv.tuple_inj (I:Inv X pins σ H s) (h:SqT X.K H a xs) (h':SqT X.K H a ys):xs=ys:=by
 obtain ⟨its,r,⟨o,e,_,n,d⟩,_⟩:=I.tuple h
 obtain ⟨its',r',⟨o',e',_,n',d'⟩,_⟩:=I.tuple h'
 rw [e] at e';cases e'
 rw [d] at d'
 injection d' with d1 _
 have:its=its':=by simpa using congrArg Array.toList d1
 subst this
 exact r.inj r'
end
abbrev Cx.wish (X:Cx) (E:Value→Shared→Prop):Cx:={X with xe:=E}
abbrev Cx.nox (X:Cx):Cx:=X.wish fun _ _=>False
theorem Cx.Ok.wish {X:Cx} (ok:X.Ok) (E:Value→Shared→Prop):(X.wish E).Ok :=
 ⟨ok.mod,ok.kind,ok.glob,ok.blt,ok.above,ok.inj,ok.has,ok.cab,ok.hd,ok.frames,ok.stk,ok.exf,ok.bs,ok.bsz,ok.noex,ok.exfs,ok.funs,ok.frf⟩
theorem Cx.Ok.unwish {X:Cx} {E:Value→Shared→Prop} (ok:(X.wish E).Ok):X.Ok :=
 ⟨ok.mod,ok.kind,ok.glob,ok.blt,ok.above,ok.inj,ok.has,ok.cab,ok.hd,ok.frames,ok.stk,ok.exf,ok.bs,ok.bsz,ok.noex,ok.exfs,ok.funs,ok.frf⟩
section
variable {X:Cx} {pins:List (Addr×Obj)} {σ:St} {H:Hp} {s:Shared} {E:Value→Shared→Prop}
theorem Inv.wish (I:Inv X pins σ H s) (E:Value→Shared→Prop):Inv (X.wish E) pins σ H s:=⟨I.ok.wish E,I.os,I.bare,I.base,I.loc,I.cell,I.free,I.freeC,I.pin,I.hok,I.len⟩
theorem Inv.unwish (I:Inv (X.wish E) pins σ H s):Inv X pins σ H s:=⟨I.ok.unwish,I.os,I.bare,I.base,I.loc,I.cell,I.free,I.freeC,I.pin,I.hok,I.len⟩
theorem SP.unwish {D:Ends} {f:Flow} {s':Shared} (h:SP (X.wish E) pins D f s'):SP X pins D f s':=by
 cases f with
 |next=>obtain ⟨σ',H',I,q⟩:=h;exact ⟨σ',H',I.unwish,q⟩
 |brk=>obtain ⟨σ',H',I,q⟩:=h;exact ⟨σ',H',I.unwish,q⟩
 |cont=>obtain ⟨σ',H',I,q⟩:=h;exact ⟨σ',H',I.unwish,q⟩
 |ret u=>obtain ⟨v,σ',H',I,r,q⟩:=h;exact ⟨v,σ',H',I.unwish,r,q⟩
theorem PSs.nox {st:List Stmt} {t:TS} (h:PSs X.nox st t):PSs X st t:=fun pins s σ H D I hw =>
 wpAny_mono (h pins s σ H D (I.wish _) hw) (fun _ _ q=>q.unwish) fun _ _ z=>False.elim z
end
section
variable {X:Cx} {st:Stmt} {rest:List Stmt} {t u:TS} {e:Expr} {te:TE} {pos:Pos}
def tI:TS:=fun D σ H=>D.nx σ H
def t6 (t u:TS):TS:=fun D σ H=>t {D with nx:=u D} σ H
theorem jW:PSs X [] tI:=fun _ _ σ H _ I h=>wpAny_execs_nil ⟨σ,H,I,h⟩
theorem jL (h1:PS X st t) (h2:PSs X rest u):PSs X (st::rest) (t6 t u):=by
 intro pins s σ H D I h
 refine wpAny_execs_cons (jD (h1 pins s σ H {D with nx:=u D} I h) fun f s1 q=>?_)
 cases f with
 |next =>
  obtain ⟨σ',H',I',q⟩:=q
  exact h2 pins s1 σ' H' D I' q
 |ret v=>exact q
 |brk=>exact q
 |cont=>exact q
theorem jI (h1:PS X st t):PSs X [st] t:=by
 intro pins s σ H D I h
 refine wpAny_execs_cons (jD (h1 pins s σ H D I h) fun f s1 q=>?_)
 cases f with
 |next=>exact wpAny_execs_nil q
 |ret v=>exact q
 |brk=>exact q
 |cont=>exact q
theorem Inv.quiet {pins:List (Addr×Obj)} {σ:St} {H:Hp} {s:Shared} (I:Inv X pins σ H s):interactive X.env=false:=by simp [interactive,I.ok.kind]
def tJ (te:TE):TS:=fun D σ H=>te σ H fun _ H1=>D.nx σ H1
theorem qQ (he:PE X e te) (hs:swapsWith e none pos.line X.env=pure false:=by rfl):PS X (.Expr e pos) (tJ te):=by
 intro pins s σ H D I h
 exact wpAny_Expr_any (jD (he pins s σ H _ I h) fun v s1 ⟨x,H1,I1,r1,q1⟩=>⟨σ,H1,I1,q1⟩) I.quiet hs
def t7 (te:TE):TS:=fun D σ H=>te σ H D.rt
theorem jO (he:PE X e te):PS X (.Return (some e) pos) (t7 te):=by
 intro pins s σ H D I h
 exact wpAny_Return_some (jD (he pins s σ H _ I h) fun v s1 ⟨x,H1,I1,r1,q1⟩=>⟨x,σ,H1,I1,r1,q1⟩)
def uD (c:TT) (t u:TS):TS:=fun D σ H=>c σ H fun b H1=>if b=true then t D σ H1 else u D σ H1
theorem jT {c:Expr} {a b:List Stmt} {tc:TT} (hc:PT X c tc) (ha:PSs X a t) (hb:PSs X b u):PS X (.If c a b pos) (uD tc t u):=by
 intro pins s σ H D I h
 refine wpAny_If (jD (hc pins s σ H _ I h) fun d s1 ⟨H1,I1,q1⟩=>?_)
 cases d with
 |true=>exact ha pins s1 σ H1 D I1 q1
 |false=>exact hb pins s1 σ H1 D I1 q1
end
abbrev TG:=V→St→Hp→(St→Hp→Prop)→Prop
abbrev yF:=List V→St→Hp→(St→Hp→Prop)→Prop
def PG (X:Cx) (target:Expr) (t:TG):Prop :=
 ∀(pins:List (Addr×Obj)) (s:Shared) (σ:St) (H:Hp) (v:V) (u:Value) (Q:St→Hp→Prop),Inv X pins σ H s→RelV v u→t v σ H Q→
  wpAny (model X.prog X.w) X.A (assign target X.env u) (fun _ s'=>∃σ' H',Inv X pins σ' H' s'∧Q σ' H') X.xe s
def QC (X:Cx) (ts:List Expr) (t:yF):Prop :=
 ∀(pins:List (Addr×Obj)) (s:Shared) (σ:St) (H:Hp) (vs:List V) (us:List Value) (Q:St→Hp→Prop),Inv X pins σ H s→Vals vs us→t vs σ H Q→
  wpAny (model X.prog X.w) X.A (assignInOrder ((assignEach ts X.env).map (·.2)) us) (fun _ s'=>∃σ' H',Inv X pins σ' H' s'∧Q σ' H') X.xe s
section
variable {X:Cx} {pos:Pos}
def ZE (i:Nat):TG:=fun v σ H Q=>Q (σ.set i (some v)) H
theorem kZ {i:Nat} {x:Str} (hN:X.N.Nodup) (hi:X.N[i]?=some x) (hx:QF X.env.scope x) (hf:X.fn x=true∨X.env.scope.names.lookup x=some .local:=by first|exact .inl rfl|exact .inr rfl|assumption):PG X (.Name x pos) (ZE i):=by
 intro pins s σ H v u Q I r h
 exact wpAny_assign_Name (bC I hN hi hx r (fun s' I'=>⟨_,H,I',h⟩) hf)
def uT:yF:=fun vs σ H Q=>vs=[]∧Q σ H
def tU (t:TG) (u:yF):yF:=fun vs σ H Q=>∃v r,vs=v::r∧t v σ H fun σ' H'=>u r σ' H' Q
theorem gB:QC X [] uT:=by
 intro pins s σ H vs us Q I r h
 obtain ⟨e,h⟩:=h
 subst e
 cases r
 exact assignInOrder_nil ⟨σ,H,I,h⟩
theorem QV {e:Expr} {es:List Expr} {t:TG} {u:yF} (h1:PG X e t) (h2:QC X es u)
  (hs:(assignEach (e::es) X.env).map (·.2)=assign e X.env::(assignEach es X.env).map (·.2):=by rfl):QC X (e::es) (tU t u):=by
 intro pins s σ H vs us Q I r h
 obtain ⟨v,vr,e1,h⟩:=h
 subst e1
 cases r with
 |cons r rr =>
  rw [hs]
  refine assignInOrder_cons (jD (h1 pins s σ H _ _ _ I r h) fun _ s1 ⟨σ1,H1,I1,q1⟩=>?_)
  exact h2 pins s1 σ1 H1 _ _ Q I1 rr q1
def iS (K:PySem.W.Frag) (n:Nat) (t:yF):TG:=fun v σ H Q=>∃a xs,v=.ref a∧SqT K H a xs∧xs.length=n∧t xs σ H Q
theorem sJ {es:List Expr} {k:Nat} {t:yF} {n:Nat} (hc:X.calm=true) (h:QC X es t)
  (hn:(assignEach es X.env).length=n:=by rfl) (hst:(assignEach es X.env).findIdx? (·.1)=none:=by rfl):PG X (.Tuple es k pos) (iS X.K n t):=by
 intro pins s σ H v u Q I r hw
 obtain ⟨a,xs,e1,hq,hl,hw⟩:=hw
 subst e1
 cases r
 obtain ⟨its,rv,ht,hz⟩:=I.tuple hq
 refine assign_Tuple_tuple (I.ok.hd hc) ht (by simp [hn,← hl,rv.length]) hst fun h' hx=>?_
 have I1:Inv X pins σ H {s with heap:=h'}:=I.kept (t':=s.toks) fun b o e=>hx b o (Nat.ne_of_lt (Heap.lt_size e)) e
 exact h pins _ σ H xs _ Q I1 (by simpa using rv) hw
def uH (te:TE) (g:TG):TS:=fun D σ H=>te σ H fun x H1=>g x σ H1 D.nx
theorem j0 {i:Nat} {x:Str} {e:Expr} {te:TE} {pos':Pos} (hN:X.N.Nodup) (hi:X.N[i]?=some x) (hx:QF X.env.scope x) (he:PE X e te) (hs:swapsWith e (some (.Name x pos')) pos.line X.env=pure false:=by rfl) (hf:X.fn x=true∨X.env.scope.names.lookup x=some .local:=by first|exact .inl rfl|exact .inr rfl|assumption) :
  PS X (.Assign [.Name x pos'] e pos) (uH te (ZE i)):=by
 intro pins s σ H D I h
 refine wpAny_Assign_Name (jD (he pins s σ H _ I h) fun v s1 ⟨y,H1,I1,r1,q1⟩=>?_) hs
 exact bC I1 hN hi hx r1 (fun s2 I2=>⟨_,H1,I2,q1⟩) hf
end
section
variable {X:Cx} {pos:Pos}
end
structure It where
 go:Nat→Hp→Prop
 yld:Nat→Hp→V→Hp→Prop
 stop:Nat→Hp→Prop
def qU (X:Cx) (pins:List (Addr×Obj)) (H:Hp) (b:Addr):Prop :=
 H b=none∧b≠X.env.locals∧b∉X.fs∧(b∈X.ex∨X.s₀.heap.objs.size≤b)∧(∀x c,X.env.cells.lookup x=some c→c≠b)∧∀p∈X.pn++pins,p.1≠b
theorem Inv.fpOk {X:Cx} {pins:List (Addr×Obj)} {σ:St} {H H':Hp} {s:Shared} {b:Addr} (I:Inv X pins σ H s) (hb:s.heap.objs.size≤b) (hn:H' b=none):qU X pins H' b:=by
 refine ⟨hn,Nat.ne_of_gt (Nat.lt_of_lt_of_le I.lt hb),I.nofs hb,.inr (Nat.le_trans I.sz hb),fun x c e z=>?_,fun p hp z=>?_⟩
 ·obtain ⟨v,q⟩:=I.cell x c e
  exact absurd (Nat.lt_of_lt_of_le q.lt (by rw [z];exact hb)) (Nat.lt_irrefl _)
 ·exact absurd (Nat.lt_of_lt_of_le (Heap.lt_size (I.pin p hp).1) (by rw [z];exact hb)) (Nat.lt_irrefl _)
structure Turn (P:Program) (w:World) (K:PySem.W.Frag) (tg:Expr) (J:It) (fp:List Addr) (it:Addr) (tn:Nat→Heap→Prop):Prop where
 mem:it∈fp
 obj:∀i h,tn i h→∀b∈fp,∃o,h.get? b=some o∧∀v,o.data≠.cell v
 keep:∀i h h',tn i h→(∀b∈fp,∀o,h.get? b=some o→h'.get? b=some o)→tn i h'
 item:∀(X:Cx),X.prog=P→X.w=w→X.K=K→X.calm=true→∀(i:Nat) (pins:List (Addr×Obj)) (s:Shared) (σ:St) (H:Hp) (E:Value→Shared→Prop),Inv X pins σ H s→(∀b∈fp,qU X pins H b)→tn i s.heap→J.go i H→
  wpAny (model P w) X.A (pyNext (.ref it)) (fun r s1=>∃u,r=some u∧
   wpAny (model P w) X.A (letOwnedTupleGo tg (.ref it) u) (fun _ s2=>∃x H',Inv X pins σ H' s2∧RelV x u∧J.yld i H x H'∧tn (i+1) s2.heap∧∀b∈fp,H' b=none) E s1) E s
 done:∀(X:Cx),X.prog=P→X.w=w→X.K=K→X.calm=true→∀(i:Nat) (pins:List (Addr×Obj)) (s:Shared) (σ:St) (H:Hp) (E:Value→Shared→Prop),Inv X pins σ H s→(∀b∈fp,qU X pins H b)→tn i s.heap→J.stop i H→
  wpAny (model P w) X.A (pyNext (.ref it)) (fun r s1=>r=none∧Inv X pins σ H s1) E s
 self:∀(A:Around) (i:Nat) (s:Shared) (Q:Value→Shared→Prop) (E:Value→Shared→Prop),tn i s.heap→Q (.ref it) s→wpAny (model P w) A (pyIter (.ref it)) Q E s
abbrev TI:=St→Hp→(It→Hp→Prop)→Prop
def cV (X:Cx) (pins:List (Addr×Obj)) (σ:St) (tg:Expr) (R:It→Hp→Prop) (itv:Value) (s2:Shared):Prop :=
 ∃(it:Addr) (fp:List Addr) (tn:Nat→Heap→Prop) (J:It) (H':Hp),itv=.ref it∧Inv X pins σ H' s2∧Turn X.prog X.w X.K tg J fp it tn∧tn 0 s2.heap∧(∀b∈fp,qU X pins H' b)∧R J H'
def PI (X:Cx) (tg iter:Expr) (wi:TI):Prop :=
 ∀(pins:List (Addr×Obj)) (s:Shared) (σ:St) (H:Hp) (R:It→Hp→Prop),Inv X pins σ H s→wi σ H R→
  wpAny (model X.prog X.w) X.A (eval iter X.env) (fun v s1=>wpAny (model X.prog X.w) X.A (pyIter v) (cV X pins σ tg R) X.xe s1) X.xe s
theorem ZD {M:Model} {A:Around} {E:Value→Shared→Prop} {s:Shared} {tg:Expr} {it:Addr} {u:Value} {o:Obj} {n:String} {vs:Array Value} {Q:Unit→Shared→Prop} (ho:s.heap.get? it=some o) (hc:o.cls=.type n) (hd:o.data=.fields vs)
    (hn:["enumerate","zip","dict_itemiterator","dict_reverseitemiterator","odict_iterator","itertools.zip_longest","itertools.pairwise"].contains n=false) (hQ:Q () s):wpAny M A (letOwnedTupleGo tg (.ref it) u) Q E s:=by
  unfold letOwnedTupleGo
  cases tg<;>first
    |exact wpAny_pure hQ
    | (cases u<;>first
        |exact wpAny_pure hQ
        | (refine wpAny_bind (wpAny_load ho ?_)
           rw [hc,hd]
           show wpAny M A (if (["enumerate","zip","dict_itemiterator","dict_reverseitemiterator","odict_iterator","itertools.zip_longest","itertools.pairwise"].contains n&&vs[0]? == some (rawInt _))=true then _ else _) Q E s
           rw [if_neg (by intro h;rw [hn,Bool.false_and] at h;cases h)]
           exact wpAny_pure hQ))
def ZO (K:PySem.W.Frag) (a:Addr):It :=
 ⟨fun i H=>∃xs x,SqL K H a xs∧xs[i]?=some x,fun i H x H'=>H'=H∧∀xs,SqL K H a xs→xs[i]?=some x,fun i H=>∃xs,SqL K H a xs∧xs.length≤i⟩
def JF (K:PySem.W.Frag) (a:Addr):It :=
 ⟨fun i H=>∃xs x,SqT K H a xs∧xs[i]?=some x,fun i H x H'=>H'=H∧∀xs,SqT K H a xs→xs[i]?=some x,fun i H=>∃xs,SqT K H a xs∧xs.length≤i⟩
def JG (lo:Int) (n:Nat):It:=⟨fun i _=>i<n,fun i H x H'=>H'=H∧x=.int (lo+i),fun i _=>n≤i⟩
theorem nO {P:Program} {w:World} {K:PySem.W.Frag} {tg:Expr} (a it:Addr):Turn P w K tg (ZO K a) [it] it (fun i h=>h.IsListIter it a i) where
 mem:=by simp
 obj:=fun i h st b hb=>by
  have e:b=it:=by simpa using hb
  subst e
  obtain ⟨o,e,c,d⟩:=st
  exact ⟨o,e,fun v z=>by rw [d] at z;cases z⟩
 keep:=fun i h h' st k=>st.at fun o e=>k it (by simp) o e
 item:=by
  intro X hP hw hK hc i pins s σ H E I hf st hg
  subst hP hw hK
  obtain ⟨xs,x,hq,hx⟩:=hg
  obtain ⟨its,rv,p,hz⟩:=I.list hq
  obtain ⟨u,hu,ru⟩:=rv.get hx
  obtain ⟨f0,f1,f2,f3,f4,f5⟩:=hf it (by simp)
  refine wpAny_pyNext_list_item st p.isList (x:=u) (by simpa using hu) fun h' st' sb=>?_
  have I1:Inv X pins σ H {s with heap:=h'}:=I.turned (t':=s.toks) (fun b o hb e=>(sb.2 b hb).trans e) f0 f1 f3 f4 f5
  obtain ⟨o,e,c,d⟩:=id st'
  exact ⟨u,rfl,ZD (s:={s with heap:=h'}) e c d (by decide) ⟨x,H,I1,ru,⟨rfl,fun ys hy=>by rw [I.list_inj hy hq];exact hx⟩,st',fun b hb=>(hf b hb).1⟩⟩
 done:=by
  intro X hP hw hK hc i pins s σ H E I hf st hg
  subst hP hw hK
  obtain ⟨xs,hq,hx⟩:=hg
  obtain ⟨its,rv,p,hz⟩:=I.list hq
  obtain ⟨f0,f1,f2,f3,f4,f5⟩:=hf it (by simp)
  have hl:=rv.length
  exact wpAny_pyNext_list_end (I.ok.hd hc) st p.isList (by simp;omega) fun h' eb=>⟨rfl,I.turned (t':=s.toks) (fun b o hb e=>eb b o hb e) f0 f1 f3 f4 f5⟩
 self:=fun _ _ _ _ _ st h=>wpAny_pyIter_listiter st h
theorem m9 {P:Program} {w:World} {K:PySem.W.Frag} {tg:Expr} (a it:Addr):Turn P w K tg (JF K a) [it] it (fun i h=>h.IsTupleIter it a i) where
 mem:=by simp
 obj:=fun i h st b hb=>by
  have e:b=it:=by simpa using hb
  subst e
  obtain ⟨o,e,c,d⟩:=st
  exact ⟨o,e,fun v z=>by rw [d] at z;cases z⟩
 keep:=fun i h h' st k=>st.at fun o e=>k it (by simp) o e
 item:=by
  intro X hP hw hK hc i pins s σ H E I hf st hg
  subst hP hw hK
  obtain ⟨xs,x,hq,hx⟩:=hg
  obtain ⟨its,rv,p,hz⟩:=I.tuple hq
  obtain ⟨u,hu,ru⟩:=rv.get hx
  obtain ⟨f0,f1,f2,f3,f4,f5⟩:=hf it (by simp)
  refine wpAny_pyNext_tuple_item st (show s.heap.IsTuple a its.toArray from p) (x:=u) (by simpa using hu) fun h' st' sb=>?_
  have I1:Inv X pins σ H {s with heap:=h'}:=I.turned (t':=s.toks) (fun b o hb e=>(sb.2 b hb).trans e) f0 f1 f3 f4 f5
  obtain ⟨o,e,c,d⟩:=id st'
  exact ⟨u,rfl,ZD (s:={s with heap:=h'}) e c d (by decide) ⟨x,H,I1,ru,⟨rfl,fun ys hy=>by rw [I.tuple_inj hy hq];exact hx⟩,st',fun b hb=>(hf b hb).1⟩⟩
 done:=by
  intro X hP hw hK hc i pins s σ H E I hf st hg
  subst hP hw hK
  obtain ⟨xs,hq,hx⟩:=hg
  obtain ⟨its,rv,p,hz⟩:=I.tuple hq
  obtain ⟨f0,f1,f2,f3,f4,f5⟩:=hf it (by simp)
  have hl:=rv.length
  exact wpAny_pyNext_tuple_end (I.ok.hd hc) st (show s.heap.IsTuple a its.toArray from p) (by simp;omega) fun h' eb=>⟨rfl,I.turned (t':=s.toks) (fun b o hb e=>eb b o hb e) f0 f1 f3 f4 f5⟩
 self:=fun _ _ _ _ _ st h=>wpAny_pyIter_tupleiter st h
theorem nA {P:Program} {w:World} {K:PySem.W.Frag} {tg:Expr} (it:Addr) (lo:Int) (n:Nat):Turn P w K tg (JG lo n) [it] it (fun i h=>IsRangeIter h it (lo+(i:Nat)*1) ((n:Int) - (i:Nat)) 1) where
 mem:=by simp
 obj:=fun i h st b hb=>by
  have e:b=it:=by simpa using hb
  subst e
  exact ⟨_,st,fun v z=>by
   have z':Data.fields _=Data.cell v:=z
   cases z'⟩
 keep:=fun i h h' st k=>k it (by simp) _ st
 item:=by
  intro X hP hw hK hc i pins s σ H E I hf st hg
  subst hP hw hK
  obtain ⟨f0,f1,f2,f3,f4,f5⟩:=hf it (by simp)
  have W:=Walks.range (prog:=X.prog) (w:=X.w) (I.ok.hd hc) it lo 1 n
  refine W.item i s _ _ hg st fun v h' tk hv st' kk=>?_
  obtain ⟨t,rfl⟩:=hv
  have I1:Inv X pins σ H {s with heap:=h',toks:=tk}:=I.turned (fun b o hb e=>kk b o (by simpa using hb) e) f0 f1 f3 f4 f5
  refine ⟨_,rfl,ZD (s:={s with heap:=h',toks:=tk}) (n:="range_iterator") st' rfl rfl (by decide) ⟨.int (lo+i),H,I1,⟨t,?_⟩,⟨rfl,rfl⟩,st',fun b hb=>(hf b hb).1⟩⟩
  rw [Int.mul_one]
 done:=by
  intro X hP hw hK hc i pins s σ H E I hf st hg
  subst hP hw hK
  obtain ⟨f0,f1,f2,f3,f4,f5⟩:=hf it (by simp)
  exact wpAny_pyNext_range_end (I.ok.hd hc) st (by have:n≤i:=hg;omega) fun h' eb=>⟨rfl,I.turned (t':=s.toks) (fun b o hb e=>eb b o hb e) f0 f1 f3 f4 f5⟩
 self:=fun _ _ _ _ _ st h=>wpAny_pyIter_rangeiter st h
end L2
namespace L2
open PySem PySem.Spec PyProof.Rows
section
variable {X:Cx} {tg:Expr}
def tS (K:PySem.W.Frag) (tl:TE):TI:=fun σ H R=>tl σ H fun x H1=>∃a,x=.ref a∧(∃xs,SqL K H1 a xs)∧R (ZO K a) H1
def uR (K:PySem.W.Frag) (tl:TE):TI:=fun σ H R=>tl σ H fun x H1=>∃a,x=.ref a∧(∃xs,SqT K H1 a xs)∧R (JF K a) H1
theorem yI {l:Expr} {tl:TE} (hl:PE X l tl):PI X tg l (tS X.K tl):=by
 intro pins s σ H R I h
 refine jD (hl pins s σ H _ I h) fun v s1 ⟨x,H1,I1,r1,q1⟩=>?_
 obtain ⟨a,e,⟨xs,hq⟩,q⟩:=q1
 subst e
 cases r1
 obtain ⟨its,rv,p,hz⟩:=I1.list hq
 refine wpAny_pyIter_list p.isList ?_
 refine ⟨s1.heap.objs.size,[s1.heap.objs.size],_,_,H1,rfl,I1.kept (t':=s1.toks) fun b o e=>Heap.get?_push_of_some _ e,nO a _,⟨_,Heap.get?_push_size _ rfl,rfl,rfl⟩,fun b hb=>?_,q⟩
 have e:b=s1.heap.objs.size:=by simpa using hb
 subst e
 exact I1.fpOk (Nat.le_refl _) (I1.hok.fresh (Nat.le_refl _))
theorem Q4 {l:Expr} {tl:TE} (hl:PE X l tl):PI X tg l (uR X.K tl):=by
 intro pins s σ H R I h
 refine jD (hl pins s σ H _ I h) fun v s1 ⟨x,H1,I1,r1,q1⟩=>?_
 obtain ⟨a,e,⟨xs,hq⟩,q⟩:=q1
 subst e
 cases r1
 obtain ⟨its,rv,p,hz⟩:=I1.tuple hq
 refine wpAny_pyIter_tuple (show s1.heap.IsTuple a its.toArray from p) ?_
 refine ⟨s1.heap.objs.size,[s1.heap.objs.size],_,_,H1,rfl,I1.kept (t':=s1.toks) fun b o e=>Heap.get?_push_of_some _ e,m9 a _,⟨_,Heap.get?_push_size _ rfl,rfl,rfl⟩,fun b hb=>?_,q⟩
 have e:b=s1.heap.objs.size:=by simpa using hb
 subst e
 exact I1.fpOk (Nat.le_refl _) (I1.hok.fresh (Nat.le_refl _))
theorem pD {pins:List (Addr×Obj)} {σ:St} {H:Hp} {s:Shared} {R:It→Hp→Prop} {E:Value→Shared→Prop} {lo hi:Int} {t u v:Tok} {tk:Nat} (I:Inv X pins σ H s) (h1 : -(2 ^ 62)≤lo) (h2:lo<2 ^ 62) (h3 : -(2 ^ 62)≤hi) (h4:hi<2 ^ 62)
    (q:R (JG lo (hi - lo).toNat) H):wpAny (model X.prog X.w) X.A (pyIter (.ref s.heap.objs.size)) (cV X pins σ tg R) E {s with heap:=s.heap.push {cls:=.type "range",data:=.fields #[.int lo t,.int hi u,.int 1 v]},toks:=tk}:=by
  refine wpAny_pyIter_range (IsRange.new ..) (small_one h1 h2 h3 h4) ?_
  have I1:Inv X pins σ H {s with heap:=s.heap.push {cls:=.type "range",data:=.fields #[.int lo t,.int hi u,.int 1 v]},toks:=tk}:=I.kept fun b o e=>Heap.get?_push_of_some _ e
  refine ⟨(s.heap.push {cls:=.type "range",data:=.fields #[.int lo t,.int hi u,.int 1 v]}).objs.size,[(s.heap.push {cls:=.type "range",data:=.fields #[.int lo t,.int hi u,.int 1 v]}).objs.size],_,_,H,rfl,
    I1.kept (t':=tk) fun b o e=>Heap.get?_push_of_some _ e,nA _ lo (hi - lo).toNat,?_,fun b hb=>?_,q⟩
  · have e1:lo+((0:Nat):Int)*1=lo:=by simp
    have e2:(((hi - lo).toNat:Nat):Int) - ((0:Nat):Int)=Builtin.Range.rangeSize lo hi 1:=by rw [rangeSize_one];split<;>omega
    show IsRangeIter _ _ (lo+((0:Nat):Int)*1) ((((hi - lo).toNat:Nat):Int) - ((0:Nat):Int)) 1
    rw [e1,e2]
    exact Heap.get?_push_size _ rfl
  · have e:b=(s.heap.push {cls:=.type "range",data:=.fields #[.int lo t,.int hi u,.int 1 v]}).objs.size:=by simpa using hb
    subst e
    exact I1.fpOk (Nat.le_refl _) (I1.hok.fresh (Nat.le_refl _))
def tR (ta:TA):TI:=fun σ H R=>ta σ H fun vs H1=>∃j:Int,vs=[.int j]∧-(2 ^ 62)≤j∧j<2 ^ 62∧R (JG 0 j.toNat) H1
theorem Z4 {a:Expr} {ta:TA} {p pos:Pos} (hg:Gl X "range") (hm:X.mg "range"=none) (ha:PA X [a] ta) (hs:starEach [a] X.env=[(false,eval a X.env)]:=by rfl):PI X tg (.Call (.Name "range" p) [a] [] pos) (tR ta):=by
 intro pins s σ H R I h
 refine Call_ (z5 I hg hm boot_range (PyProof.Rows.callWith_type1 (jD (ha pos pins s σ H _ I h) fun us s1 ⟨vs,H1,I1,r1,q1⟩=>?_) hs rfl))
 obtain ⟨j,e,q1,q2,q⟩:=q1
 subst e
 cases r1 with
 |cons r rr =>
  cases rr
  obtain ⟨t,rfl⟩:=r
  exact call_range_1 (pD I1 (by omega) (by omega) q1 q2 (by simpa using q))
def uE (wi:TI) (g:TG) (tb:TS):TS:=fun D σ H=>wi σ H fun J H1=>∃W:Nat→Nat→St→Hp→Prop,(∃m,W 0 m σ H1)∧∀i m σ H,W i m σ H→
 (J.stop i H∧D.nx σ H)∨(J.go i H∧∃N:St→Hp→Prop,(∀σ' H',N σ' H'→∃m',m'<m∧W (i+1) m' σ' H')∧∀x H',J.yld i H x H'→g x σ H' fun σ2 H2=>tb {D with nx:=N,ct:=N,bk:=D.nx} σ2 H2)
def z0 (fp:List Addr) (h:Heap):List (Addr×Obj):=fp.filterMap fun b=>(h.get? b).map fun o=>(b,o)
theorem zR {fp:List Addr} {h:Heap} {b:Addr} {o:Obj} (hb:b∈fp) (e:h.get? b=some o):(b,o)∈z0 fp h:=List.mem_filterMap.mpr ⟨b,hb,by rw [e];rfl⟩
theorem n4 {fp:List Addr} {h:Heap} {p:Addr×Obj} (hp:p∈z0 fp h):p.1∈fp∧h.get? p.1=some p.2:=by
 obtain ⟨b,hb,e⟩:=List.mem_filterMap.mp hp
 cases q:h.get? b with
 |none=>rw [q] at e;cases e
 |some o =>
  rw [q] at e
  have e':(b,o)=p:=Option.some.inj e
  subst e'
  exact ⟨hb,q⟩
theorem Inv.pinned {pins:List (Addr×Obj)} {σ:St} {H:Hp} {s:Shared} {fp:List Addr} (I:Inv X pins σ H s) (hf:∀b∈fp,qU X pins H b) (ho:∀b∈fp,∃o,s.heap.get? b=some o∧∀v,o.data≠.cell v):Inv X (pins++z0 fp s.heap) σ H s :=
 I.pins_of fun p hp=>(List.mem_append.mp hp).elim (fun z=>I.pin p (List.mem_append_right _ z)) fun z=>by
  obtain ⟨hb,e⟩:=n4 z
  obtain ⟨f0,f1,f2,_⟩:=hf p.1 hb
  obtain ⟨o,e',d⟩:=ho p.1 hb
  rw [e] at e';cases e'
  exact ⟨e,f0,f1,f2,d⟩
theorem Inv.unpinned {pins pl:List (Addr×Obj)} {σ:St} {H:Hp} {s:Shared} (I:Inv X (pins++pl) σ H s):Inv X pins σ H s:=I.pins_of fun p hp=>I.pin p (List.mem_append_right _ (List.mem_append_left _ hp))
theorem JV {iter:Expr} {body:List Stmt} {wi:TI} {g:TG} {tb:TS} {pos:Pos} (hp:PassesOwn (model X.prog X.w) X.A X.env X.xe) (hc:X.calm=true) (hi:PI X tg iter wi) (hg:PG X tg g) (hb:PSs X body tb)
  (hs:∀x,foldedSetIterable iter X.env x=pure x:=by intro _;rfl):PS X (.For tg iter body [] pos) (uE wi g tb):=by
 intro pins s σ H D I h
 refine wpAny_For (jD (hi pins s σ H _ I h) fun v s1 h1=>jD h1 fun itv s2 h2=>?_) hs
 obtain ⟨it,fp,tn,J,H2,e,I2,T,st2,f2,W,⟨m0,w0⟩,turn⟩:=h2
 subst e
 have stat:∀{H':Hp},(∀b∈fp,H' b=none)→∀b∈fp,qU X pins H' b:=fun hn b hb=>⟨hn b hb,(f2 b hb).2⟩
 refine codeAny_forLoop_any (fun n s'=>∃i σ' H',Inv X pins σ' H' s'∧tn i s'.heap∧(∀b∈fp,H' b=none)∧W i n σ' H') ?_ m0 ⟨0,σ,H2,I2,st2,fun b hb=>(f2 b hb).1,w0⟩
 rintro n s3 ⟨i,σ3,H3,I3,st3,fr3,w3⟩
 rcases turn i n σ3 H3 w3 with ⟨stop,qn⟩|⟨go,N,hN,step⟩
 ·refine wpAny_passesOwn hp (jD (T.done X rfl rfl rfl hc i pins s3 σ3 H3 X.xe I3 (stat fr3) st3 stop) fun r s4 ⟨hr,I4⟩=>?_)
  subst hr
  exact wpAny_execs_nil ⟨σ3,H3,I4,qn⟩
 ·refine wpAny_passesOwn hp (jD (T.item X rfl rfl rfl hc i pins s3 σ3 H3 X.xe I3 (stat fr3) st3 go) fun r s4 ⟨u,hr,h4⟩=>?_)
  subst hr
  refine wpAny_passesOwn hp (jD h4 fun _ s5 ⟨x,H5,I5,r5,y5,st5,fr5⟩=>?_)
  have I5':=I5.pinned (stat fr5) (T.obj _ _ st5)
  refine wpAny_passesOwn hp (jD (hg _ s5 σ3 H5 x u _ I5' r5 (step x H5 y5)) fun _ s6 ⟨σ6,H6,I6,q6⟩=>?_)
  refine wpAny_passesOwn hp (jD (hb _ s6 σ6 H6 _ I6 q6) fun f s7 q7=>?_)
  have again:∀{σ7:St} {H7:Hp},Inv X (pins++z0 fp s5.heap) σ7 H7 s7→N σ7 H7→∃m,m<n∧∃i σ' H',Inv X pins σ' H' s7∧tn i s7.heap∧(∀b∈fp,H' b=none)∧W i m σ' H':=fun {σ7 H7} I7 n7=>by
   obtain ⟨m',hm,w7⟩:=hN σ7 H7 n7
   refine ⟨m',hm,i+1,σ7,H7,I7.unpinned,T.keep _ _ _ st5 fun b hb o e=>(I7.pin (b,o) (List.mem_append_right _ (List.mem_append_right _ (zR hb e)))).1,fun b hb=>?_,w7⟩
   obtain ⟨o,e,d⟩:=T.obj _ _ st5 b hb
   exact (I7.pin (b,o) (List.mem_append_right _ (List.mem_append_right _ (zR hb e)))).2.1
  cases f with
  |next=>obtain ⟨σ7,H7,I7,n7⟩:=q7;exact again I7 n7
  |cont=>obtain ⟨σ7,H7,I7,n7⟩:=q7;exact again I7 n7
  |brk=>obtain ⟨σ7,H7,I7,q7⟩:=q7;exact ⟨σ7,H7,I7.unpinned,q7⟩
  |ret v=>obtain ⟨x7,σ7,H7,I7,r7,q7⟩:=q7;exact ⟨x7,σ7,H7,I7.unpinned,r7,q7⟩
end
theorem gH {K:PySem.W.Frag} {a:Addr} {xs:List V} {g:TG} {tb:TS} {D:Ends} {σ:St} {H:Hp} (Pv:Nat→St→Hp→Prop) (h0:Pv 0 σ H) (hl:∀i σ H,i≤xs.length→Pv i σ H→SqT K H a xs)
    (hs:∀i x σ H,xs[i]?=some x→Pv i σ H→g x σ H fun σ2 H2=>tb {D with nx:=Pv (i+1),ct:=Pv (i+1),bk:=D.nx} σ2 H2) (hd:∀σ H,Pv xs.length σ H→D.nx σ H) :
    ∃W:Nat→Nat→St→Hp→Prop,(∃m,W 0 m σ H)∧∀i m σ H,W i m σ H→
      ((JF K a).stop i H∧D.nx σ H)∨((JF K a).go i H∧∃N:St→Hp→Prop,(∀σ' H',N σ' H'→∃m',m'<m∧W (i+1) m' σ' H')∧∀x H',(JF K a).yld i H x H'→g x σ H' fun σ2 H2=>tb {D with nx:=N,ct:=N,bk:=D.nx} σ2 H2):=by
  refine ⟨fun i m σ H=>m=xs.length - i∧i≤xs.length∧Pv i σ H,⟨xs.length,by simp,Nat.zero_le _,h0⟩,?_⟩
  rintro i m σ H ⟨rfl,hi,p⟩
  have q:=hl i σ H hi p
  by_cases hlt:i<xs.length
  · refine .inr ⟨⟨xs,xs[i],q,by simp [hlt]⟩,Pv (i+1),fun σ' H' p'=>⟨xs.length - (i+1),by omega,rfl,hlt,p'⟩,fun x H' y=>?_⟩
    obtain ⟨e,y⟩:=y
    subst e
    exact hs i x σ _ (y xs q) p
  · have e:i=xs.length:=by omega
    subst e
    exact .inl ⟨⟨xs,q,Nat.le_refl _⟩,hd σ H p⟩
theorem Z9 {lo:Int} {n:Nat} {g:TG} {tb:TS} {D:Ends} {σ:St} {H:Hp} (Pv:Nat→St→Hp→Prop) (h0:Pv 0 σ H)
  (hs:∀i σ H,i<n→Pv i σ H→g (.int (lo+i)) σ H fun σ2 H2=>tb {D with nx:=Pv (i+1),ct:=Pv (i+1),bk:=D.nx} σ2 H2) (hd:∀σ H,Pv n σ H→D.nx σ H) :
  ∃W:Nat→Nat→St→Hp→Prop,(∃m,W 0 m σ H)∧∀i m σ H,W i m σ H→
   ((JG lo n).stop i H∧D.nx σ H)∨((JG lo n).go i H∧∃N:St→Hp→Prop,(∀σ' H',N σ' H'→∃m',m'<m∧W (i+1) m' σ' H')∧∀x H',(JG lo n).yld i H x H'→g x σ H' fun σ2 H2=>tb {D with nx:=N,ct:=N,bk:=D.nx} σ2 H2):=by
 refine ⟨fun i m σ H=>m=n - i∧i≤n∧Pv i σ H,⟨n,by simp,Nat.zero_le _,h0⟩,?_⟩
 rintro i m σ H ⟨rfl,hi,p⟩
 by_cases hlt:i<n
 ·refine .inr ⟨hlt,Pv (i+1),fun σ' H' p'=>⟨n - (i+1),by omega,rfl,hlt,p'⟩,fun x H' y=>?_⟩
  obtain ⟨e,y⟩:=y
  subst e y
  exact hs i σ _ hlt p
 ·have e:i=n:=by omega
  subst e
  exact .inl ⟨Nat.le_refl _,hd σ H p⟩
end L2
namespace L2
open PySem PySem.Spec PyProof.Rows
abbrev R2:=V→V→Hp→VK→Prop
def OpR (X:Cx) (f:Value→Value→Sem Value) (r:R2):Prop :=
 ∀(pins:List (Addr×Obj)) (s:Shared) (σ:St) (H:Hp) (x y:V) (v u:Value) (Q:VK),Inv X pins σ H s→RelV x v→RelV y u→r x y H Q→
  wpAny (model X.prog X.w) X.A (f v u) (EP X pins σ Q) X.xe s
def cT (X:Cx) (f:Value→Sem Value) (r:V→Hp→VK→Prop):Prop :=
 ∀(pins:List (Addr×Obj)) (s:Shared) (σ:St) (H:Hp) (x:V) (v:Value) (Q:VK),Inv X pins σ H s→RelV x v→r x H Q→
  wpAny (model X.prog X.w) X.A (f v) (EP X pins σ Q) X.xe s
def CallR (X:Cx) (f:Value) (r:List V→Hp→VK→Prop):Prop :=
 ∀(pins:List (Addr×Obj)) (s:Shared) (σ:St) (H:Hp) (xs:List V) (us:List Value) (Q:VK),Inv X pins σ H s→Vals xs us→r xs H Q→
  wpAny (model X.prog X.w) X.A (call f us) (EP X pins σ Q) X.xe s
def ZJ (r:R2) (ta tb:TE):TE:=fun σ H Q=>ta σ H fun x H1=>tb σ H1 fun y H2=>r x y H2 Q
def u0 (r:V→Hp→VK→Prop) (ta:TE):TE:=fun σ H Q=>ta σ H fun x H1=>r x H1 Q
def rI (C:Int→Int→Prop) (g:Int→Int→V):R2:=fun x y H Q=>∃i j,x=.int i∧y=.int j∧C i j∧Q (g i j) H
def zA (g:Int→Int→V):R2:=fun x y H Q=>∃i j,x=.int i∧y=.int j∧Q (g i j) H
def rU (g:Int→V):V→Hp→VK→Prop:=fun x H Q=>∃i,x=.int i∧Q (g i) H
section
variable {X:Cx} {a b c:Expr} {ta tb tc:TE} {pos:Pos}
theorem cO (ha:PE X a ta) (hb:PE X b tb) {pins:List (Addr×Obj)} {s:Shared} {σ:St} {H:Hp} {R:V→V→Hp→Prop} (I:Inv X pins σ H s)
  (h:ta σ H fun x H1=>tb σ H1 fun y H2=>R x y H2) {Q:Value→Shared→Prop} {f:Value→Value→Sem Value}
  (hf:∀v u s2 x y H2,Inv X pins σ H2 s2→RelV x v→RelV y u→R x y H2→wpAny (model X.prog X.w) X.A (f v u) Q X.xe s2) :
  wpAny (model X.prog X.w) X.A (eval a X.env) (fun v s₁=>wpAny (model X.prog X.w) X.A (eval b X.env) (fun u s₂=>wpAny (model X.prog X.w) X.A (f v u) Q X.xe s₂) X.xe s₁) X.xe s:=by
 refine jD (ha pins s σ H _ I h) fun v s1 ⟨x,H1,I1,r1,q1⟩=>?_
 refine jD (hb pins s1 σ H1 _ I1 q1) fun u s2 ⟨y,H2,I2,r2,q2⟩=>?_
 exact hf v u s2 x y H2 I2 r1 r2 q2
theorem jF {op:Operator} {r:R2} (ho:OpR X (binaryOp op) r) (ha:PE X a ta) (hb:PE X b tb):PE X (.BinOp a op b pos) (ZJ r ta tb):=by
 intro pins s σ H Q I h
 exact wpAny_BinOp (cO ha hb I h fun v u s2 x y H2 I2 rx ry q=>ho pins s2 σ H2 x y v u Q I2 rx ry q)
theorem tO {op:UnaryOp} {r:V→Hp→VK→Prop} (ho:cT X (unaryOp op) r) (ha:PE X a ta):PE X (.UnaryOp op a pos) (u0 r ta):=by
 intro pins s σ H Q I h
 exact UnaryOp_ (jD (ha pins s σ H _ I h) fun v s1 ⟨x,H1,I1,r1,q1⟩=>ho pins s1 σ H1 x v Q I1 r1 q1)
theorem ZK {f:Value→Value→Sem Value} {C:Int→Int→Prop} {g:Int→Int→Int}
  (rule:∀(i j:Int) (t u:Tok) (s:Shared) (Q:Value→Shared→Prop) (E:Value→Shared→Prop),C i j→Q (.int (g i j) s.toks) {s with toks:=s.toks+1}→wpAny (model X.prog X.w) X.A (f (.int i t) (.int j u)) Q E s) :
  OpR X f (rI C fun i j=>.int (g i j)):=by
 intro pins s σ H x y v u Q I rx ry h
 obtain ⟨i,j,rfl,rfl,hc,q⟩:=h
 obtain ⟨t,rfl⟩:=rx
 obtain ⟨t',rfl⟩:=ry
 exact rule i j t t' s _ _ hc ⟨.int (g i j),H,I.tok _,⟨_,rfl⟩,q⟩
theorem iR {f:Value→Value→Sem Value} {g:Int→Int→Int}
  (rule:∀(i j:Int) (t u:Tok) (s:Shared) (Q:Value→Shared→Prop) (E:Value→Shared→Prop),Q (.int (g i j) s.toks) {s with toks:=s.toks+1}→wpAny (model X.prog X.w) X.A (f (.int i t) (.int j u)) Q E s) :
  OpR X f (zA fun i j=>.int (g i j)):=by
 intro pins s σ H x y v u Q I rx ry h
 obtain ⟨i,j,rfl,rfl,q⟩:=h
 obtain ⟨t,rfl⟩:=rx
 obtain ⟨t',rfl⟩:=ry
 exact rule i j t t' s _ _ ⟨.int (g i j),H,I.tok _,⟨_,rfl⟩,q⟩
theorem cM {f:Value→Value→Sem Value} {g:Int→Int→Bool}
  (rule:∀(i j:Int) (t u:Tok) (s:Shared) (Q:Value→Shared→Prop) (E:Value→Shared→Prop),Q (.bool (g i j)) s→wpAny (model X.prog X.w) X.A (f (.int i t) (.int j u)) Q E s) :
  OpR X f (zA fun i j=>.bl (g i j)):=by
 intro pins s σ H x y v u Q I rx ry h
 obtain ⟨i,j,rfl,rfl,q⟩:=h
 obtain ⟨t,rfl⟩:=rx
 obtain ⟨t',rfl⟩:=ry
 exact rule i j t t' s _ _ ⟨.bl (g i j),H,I,rfl,q⟩
def uY (i j:Int):Prop:=0<j∧j<1073741824
def uX (i j:Int):Prop:=0≤j∧j≤1000000∧i.natAbs<2 ^ 64
def CMul (i j:Int):Prop:=(-(2 ^ 64)<i∧i<2 ^ 64)∨(-(2 ^ 64)<j∧j<2 ^ 64)
theorem CMul.ok {i j:Int} (h:CMul i j):IntMulOk i j:=by
 rcases h with ⟨h1,h2⟩|⟨h1,h2⟩
 ·exact .of_left (intBits_le_64 h1 h2)
 ·exact .of_right (intBits_le_64 h1 h2)
theorem vQ:OpR X (binaryOp .Add) (zA fun i j=>.int (i+j)):=iR fun _ _ _ _ _ _ _ q=>add_int q
theorem z3:OpR X (binaryOp .Sub) (zA fun i j=>.int (i - j)):=iR fun _ _ _ _ _ _ _ q=>sub_int q
theorem bZ:OpR X (binaryOp .Mult) (rI CMul fun i j=>.int (i*j)):=ZK fun _ _ _ _ _ _ _ hc q=>mul_int q hc.ok
theorem q9:OpR X (binaryOp .FloorDiv) (rI uY fun i j=>.int (i / j)):=ZK fun i j _ _ _ _ _ hc q=>by
 have h1:(0:Int)<j:=hc.1
 have h2:j<1073741824:=hc.2
 exact floordiv_int (by omega) (by rw [Int.fdiv_eq_ediv_of_nonneg i (by omega)];exact q) (.inl (PyProof.noPylong_small (by omega)))
theorem kA:OpR X (binaryOp .Mod) (rI (fun _ j=>0<j) fun i j=>.int (i%j)):=ZK fun i j _ _ _ _ _ hc q=>by
 have h1:(0:Int)<j:=hc
 exact mod_int' (by omega) (by rw [Int.fmod_eq_emod_of_nonneg i (by omega)];exact q)
theorem bY:OpR X (binaryOp .Pow) (rI uX fun i j=>.int (i ^ j.toNat)):=ZK fun _ _ _ _ _ _ _ hc q=>pow_int_small hc.1 hc.2.1 hc.2.2 q
theorem uZ {f:Value→Sem Value} {g:Int→Int}
  (rule:∀(i:Int) (t:Tok) (s:Shared) (Q:Value→Shared→Prop) (E:Value→Shared→Prop),Q (.int (g i) s.toks) {s with toks:=s.toks+1}→wpAny (model X.prog X.w) X.A (f (.int i t)) Q E s) :
  cT X f (rU fun i=>.int (g i)):=by
 intro pins s σ H x v Q I rx h
 obtain ⟨i,rfl,q⟩:=h
 obtain ⟨t,rfl⟩:=rx
 exact rule i t s _ _ ⟨.int (g i),H,I.tok _,⟨_,rfl⟩,q⟩
theorem r9:cT X (unaryOp .USub) (rU fun i=>.int (-i)):=uZ fun _ _ _ _ _ q=>neg_int q
end
def iO:V→V→Bool
 |.non,.non=>true|.non,.int _=>true|.int _,.non=>true|.non,.bl _=>true|.bl _,.non=>true|.non,.str _=>true|.str _,.non=>true
 |.int _,.int _=>true|.bl _,.bl _=>true|.str _,.str _=>true|.byt _,.byt _=>true
 |.int _,.str _=>true|.str _,.int _=>true|.bl _,.str _=>true|.str _,.bl _=>true
 |_,_=>false
def u6:R2:=fun x y H Q=>iO x y=true∧Q (.bl (decide (x=y))) H
def u5:R2:=fun x y H Q=>iO x y=true∧Q (.bl (!decide (x=y))) H
theorem gK {i j:Int}:decide (V.int i=V.int j)=(i == j):=by
 rw [Bool.eq_iff_iff]
 simp
theorem gZ {i j:Bool}:decide (V.bl i=V.bl j)=(i == j):=by
 rw [Bool.eq_iff_iff]
 simp
theorem gJ {i j:Str}:decide (V.str i=V.str j)=(i == j):=by
 rw [Bool.eq_iff_iff]
 simp
theorem gL {i j:Array UInt8}:decide (V.byt i=V.byt j)=(i.toList == j.toList):=by
 rw [Bool.eq_iff_iff]
 cases i
 cases j
 simp
section
variable {X:Cx} {a b c:Expr} {ta tb tc:TE} {pos:Pos}
theorem jU {pins:List (Addr×Obj)} {σ:St} {H:Hp} {s:Shared} {Q:VK} {k k':Bool} (I:Inv X pins σ H s) (q:Q (.bl k) H) (e:k=k'):EP X pins σ Q (.bool k') s:=by
 subst e
 exact ⟨.bl k,H,I,rfl,q⟩
theorem kR:OpR X (compareOp .Eq) u6:=by
 intro pins s σ H x y v u Q I rx ry h
 obtain ⟨hs,q⟩:=h
 cases x with
 |non =>
  cases rx
  cases y with
  |non=>cases ry;exact PySem.EqNone.eq_none_none (jU I q (by simp))
  |bl j=>cases ry;exact PySem.EqNone.eq_none_bool (jU I q (by simp))
  |int j=>obtain ⟨t',rfl⟩:=ry;exact PySem.EqNone.eq_none_int (jU I q (by simp))
  |str j=>obtain ⟨t',rfl⟩:=ry;exact PySem.EqNone.eq_none_str (jU I q (by simp))
  |_=>exact absurd (show false=true from hs) Bool.false_ne_true
 |bl i =>
  cases rx
  cases y with
  |non=>cases ry;exact PySem.EqNone.eq_bool_none (jU I q (by simp))
  |bl j=>cases ry;exact eq_bool (jU I q gZ)
  |str j=>obtain ⟨t',rfl⟩:=ry;exact PySem.EqMixed.eq_bool_str (jU I q (by simp))
  |_=>exact absurd (show false=true from hs) Bool.false_ne_true
 |int i =>
  obtain ⟨t,rfl⟩:=rx
  cases y with
  |non=>cases ry;exact PySem.EqNone.eq_int_none (jU I q (by simp))
  |int j=>obtain ⟨t',rfl⟩:=ry;exact eq_int (jU I q gK)
  |str j=>obtain ⟨t',rfl⟩:=ry;exact PySem.EqMixed.eq_int_str (jU I q (by simp))
  |_=>exact absurd (show false=true from hs) Bool.false_ne_true
 |str i =>
  obtain ⟨t,rfl⟩:=rx
  cases y with
  |non=>cases ry;exact PySem.EqNone.eq_str_none (jU I q (by simp))
  |bl j=>cases ry;exact PySem.EqMixed.eq_str_bool (jU I q (by simp))
  |int j=>obtain ⟨t',rfl⟩:=ry;exact PySem.EqMixed.eq_str_int (jU I q (by simp))
  |str j=>obtain ⟨t',rfl⟩:=ry;exact eq_str (jU I q gJ)
  |_=>exact absurd (show false=true from hs) Bool.false_ne_true
 |byt i =>
  obtain ⟨t,rfl⟩:=rx
  cases y with
  |byt j=>obtain ⟨t',rfl⟩:=ry;exact PySem.W.eq_bytes (jU I q gL)
  |_=>exact absurd (show false=true from hs) Bool.false_ne_true
 |_=>cases y<;>exact absurd (show false=true from hs) Bool.false_ne_true
theorem J3:OpR X (compareOp .NotEq) u5:=by
 intro pins s σ H x y v u Q I rx ry h
 obtain ⟨hs,q⟩:=h
 cases x with
 |non =>
  cases rx
  cases y with
  |non=>cases ry;exact PySem.EqNone.ne_none_none (jU I q (by simp))
  |bl j=>cases ry;exact PySem.EqNone.ne_none_bool (jU I q (by simp))
  |int j=>obtain ⟨t',rfl⟩:=ry;exact PySem.EqNone.ne_none_int (jU I q (by simp))
  |str j=>obtain ⟨t',rfl⟩:=ry;exact PySem.EqNone.ne_none_str (jU I q (by simp))
  |_=>exact absurd (show false=true from hs) Bool.false_ne_true
 |bl i =>
  cases rx
  cases y with
  |non=>cases ry;exact PySem.EqNone.ne_bool_none (jU I q (by simp))
  |bl j=>cases ry;exact ne_bool (jU I q (congrArg not gZ))
  |str j=>obtain ⟨t',rfl⟩:=ry;exact PySem.EqMixed.ne_bool_str (jU I q (by simp))
  |_=>exact absurd (show false=true from hs) Bool.false_ne_true
 |int i =>
  obtain ⟨t,rfl⟩:=rx
  cases y with
  |non=>cases ry;exact PySem.EqNone.ne_int_none (jU I q (by simp))
  |int j=>obtain ⟨t',rfl⟩:=ry;exact ne_int (jU I q (congrArg not gK))
  |str j=>obtain ⟨t',rfl⟩:=ry;exact PySem.EqMixed.ne_int_str (jU I q (by simp))
  |_=>exact absurd (show false=true from hs) Bool.false_ne_true
 |str i =>
  obtain ⟨t,rfl⟩:=rx
  cases y with
  |non=>cases ry;exact PySem.EqNone.ne_str_none (jU I q (by simp))
  |bl j=>cases ry;exact PySem.EqMixed.ne_str_bool (jU I q (by simp))
  |int j=>obtain ⟨t',rfl⟩:=ry;exact PySem.EqMixed.ne_str_int (jU I q (by simp))
  |str j=>obtain ⟨t',rfl⟩:=ry;exact ne_str (jU I q (congrArg not gJ))
  |_=>exact absurd (show false=true from hs) Bool.false_ne_true
 |byt i =>
  obtain ⟨t,rfl⟩:=rx
  cases y with
  |byt j=>obtain ⟨t',rfl⟩:=ry;exact PySem.W.ne_bytes (jU I q (congrArg not gL))
  |_=>exact absurd (show false=true from hs) Bool.false_ne_true
 |_=>cases y<;>exact absurd (show false=true from hs) Bool.false_ne_true
theorem iE:OpR X (compareOp .Lt) (zA fun i j=>.bl (decide (i<j))):=cM fun _ _ _ _ _ _ _ q=>lt_int q
theorem ZB:OpR X (compareOp .LtE) (zA fun i j=>.bl (decide (i≤j))):=cM fun _ _ _ _ _ _ _ q=>le_int q
theorem cF:OpR X (compareOp .Gt) (zA fun i j=>.bl (decide (j<i))):=cM fun _ _ _ _ _ _ _ q=>gt_int q
theorem nY:OpR X (compareOp .In) (fun x y H Q=>∃i j,x=.str i∧y=.str j∧Q (.bl (!(Builtin.Str.occurrences j i 0 j.length 1).isEmpty)) H):=by
 intro pins s σ H x y v u Q I rx ry h
 obtain ⟨i,j,rfl,rfl,q⟩:=h
 obtain ⟨t,rfl⟩:=rx
 obtain ⟨t',rfl⟩:=ry
 exact in_str (jU I q rfl)
theorem OpR.or {f:Value→Value→Sem Value} {r r':R2} (h:OpR X f r) (h':OpR X f r'):OpR X f (fun x y H Q=>r x y H Q∨r' x y H Q):=by
 intro pins s σ H x y v u Q I rx ry q
 rcases q with q|q
 ·exact h pins s σ H x y v u Q I rx ry q
 ·exact h' pins s σ H x y v u Q I rx ry q
theorem jX (b:Expr) {op:CmpOp} (h:op≠.In:=by decide) (h2:op≠.NotIn:=by decide):behindInMarks op b=false:=by
 have e1:(op == CmpOp.In)=false:=by cases op<;>first|rfl|exact absurd rfl h
 have e2:(op == CmpOp.NotIn)=false:=by cases op<;>first|rfl|exact absurd rfl h2
 cases b<;>simp [behindInMarks,e1,e2]
theorem Q0 {op:CmpOp} {r:R2} (ho:OpR X (compareOp op) r) (ha:PE X a ta) (hb:PE X b tb) (hm:behindInMarks op b=false):PE X (.Compare a [op] [b] pos) (ZJ r ta tb):=by
 intro pins s σ H Q I h
 exact wpAny_Compare1 (cO ha hb I h fun v u s2 x y H2 I2 rx ry q=>ho pins s2 σ H2 x y v u Q I2 rx ry q) hm
def g9 (t:TE):TT:=fun σ H Q=>t σ H fun x H'=>∃k,x=.bl k∧Q k H'
theorem jZ {op:CmpOp} {r:R2} (ho:OpR X (compareOp op) r) (ha:PE X a ta) (hb:PE X b tb) (hm:behindInMarks op b=false):PT X (.Compare a [op] [b] pos) (g9 (ZJ r ta tb)):=by
 intro pins s σ H Q I h
 refine wpAny_isTrue_Compare1 (jD (ha pins s σ H _ I h) fun v s1 ⟨x,H1,I1,r1,q1⟩=>jD (hb pins s1 σ H1 _ I1 q1) fun u s2 ⟨y,H2,I2,r2,q2⟩ =>
  jD (ho pins s2 σ H2 x y v u _ I2 r1 r2 q2) fun c s3 ⟨z,H3,I3,r3,k,e,q3⟩=>?_) hm
 subst e
 cases r3
 exact wpAny_truthy_bool ⟨H3,I3,q3⟩
def gO (r r':R2) (ta tb tc:TE):TE:=fun σ H Q=>ta σ H fun x H1=>tb σ H1 fun y H2=>r x y H2 fun z H3=>∃k,z=.bl k∧
 (if k=true then tc σ H3 fun w' H4=>r' y w' H4 Q else Q (.bl false) H3)
theorem pH {op op':CmpOp} {r r':R2} (ho:OpR X (compareOp op) r) (ho':OpR X (compareOp op') r') (ha:PE X a ta) (hb:PE X b tb) (hc:PE X c tc)
  (hm:lastMarks [op,op'] [b,c]=false:=by with_unfolding_all rfl):PE X (.Compare a [op,op'] [b,c] pos) (gO r r' ta tb tc):=by
 intro pins s σ H Q I h
 refine Compare_chain (jD (ha pins s σ H _ I h) fun v s1 ⟨x,H1,I1,r1,q1⟩=>chain_link (jD (hb pins s1 σ H1 _ I1 q1) fun u s2 ⟨y,H2,I2,r2,q2⟩ =>
  jD (ho pins s2 σ H2 x y v u _ I2 r1 r2 q2) fun d s3 ⟨z,H3,I3,r3,k,e,q3⟩=>?_)) hm
 subst e
 cases r3
 refine wpAny_truthy_bool ?_
 cases k with
 |false=>exact ite_ff ⟨.bl false,H3,I3,rfl,q3⟩
 |true=>exact ite_tt (chain_last (jD (hc pins s3 σ H3 _ I3 q3) fun w' s4 ⟨z',H4,I4,r4,q4⟩=>ho' pins s4 σ H4 y z' u w' Q I4 r2 r4 q4))
theorem pE {op op':CmpOp} {r r':R2} (ho:OpR X (compareOp op) r) (ho':OpR X (compareOp op') r') (ha:PE X a ta) (hb:PE X b tb) (hc:PE X c tc)
  (hm:lastMarks [op,op'] [b,c]=false:=by with_unfolding_all rfl):PT X (.Compare a [op,op'] [b,c] pos) (g9 (gO r r' ta tb tc)):=by
 intro pins s σ H Q I h
 refine isTrue_chain (jD (ha pins s σ H _ I h) fun v s1 ⟨x,H1,I1,r1,q1⟩=>test_link (jD (hb pins s1 σ H1 _ I1 q1) fun u s2 ⟨y,H2,I2,r2,q2⟩ =>
  jD (ho pins s2 σ H2 x y v u _ I2 r1 r2 q2) fun d s3 ⟨z,H3,I3,r3,k,e,q3⟩=>?_)) hm
 subst e
 cases r3
 refine wpAny_truthy_bool ?_
 cases k with
 |false =>
  obtain ⟨k',e',q'⟩:=q3
  cases e'
  exact ite_ff ⟨H3,I3,q'⟩
 |true =>
  refine ite_tt (test_last (jD (hc pins s3 σ H3 _ I3 q3) fun w' s4 ⟨z',H4,I4,r4,q4⟩=>jD (ho' pins s4 σ H4 y z' u w' _ I4 r2 r4 q4) fun d' s5 ⟨z2,H5,I5,r5,k2,e2,q5⟩=>?_))
  subst e2
  cases r5
  exact wpAny_truthy_bool ⟨H5,I5,q5⟩
theorem JZ:(sizeLine:Nat)<2 ^ 63:=by rw [sizeLine_eq];decide
theorem v7:OpR X (binaryOp .Add) (fun x y H Q=>∃i j,x=.str i∧y=.str j∧i.length+j.length≤sizeLine∧Q (.str (i++j)) H):=by
 intro pins s σ H x y v u Q I rx ry h
 obtain ⟨i,j,rfl,rfl,hz,q⟩:=h
 obtain ⟨t,rfl⟩:=rx
 obtain ⟨t',rfl⟩:=ry
 exact add_str (fun t' tk=>⟨.str (i++j),H,I.tok _,⟨_,rfl⟩,q⟩) hz
theorem yW {x:V} {us:List Value} (r:Vals [x] us):∃u,us=[u]∧RelV x u:=by
 cases r with
 |cons r1 r2=>cases r2;exact ⟨_,rfl,r1⟩
theorem cD {x y:V} {us:List Value} (r:Vals [x,y] us):∃u w',us=[u,w']∧RelV x u∧RelV y w':=by
 cases r with
 |cons r1 r2 =>
  cases r2 with
  |cons r3 r4=>cases r4;exact ⟨_,_,rfl,r1,r3⟩
end
end L2
namespace L2
open PySem PySem.Spec PyProof.Rows
structure ObjM (h:Heap) (x dx C:Addr) (mA:Str→Option Value):Prop where
 obj:h.get? x=some (PySem.W.instObj C dx)
 ns:h.Ns1 dx mA
 ne:dx≠x
theorem oF {h:Heap} {dx:Addr} {mA:Str→Option Value} (n:h.Ns1 dx mA):∃od,h.get? dx=some od∧∀name,PySem.W.lookIn name od=some (mA name):=by
 obtain ⟨o,es,ep,ho,hd,hk,_,hm⟩:=n
 refine ⟨o,ho,fun name=>?_⟩
 have e:=hm name
 unfold nsFind findBy at e
 rw [← Array.find?_toList] at e
 unfold PySem.W.lookIn
 rw [hd]
 dsimp only
 split
 ·rename_i y q
  rw [q] at e
  exact congrArg some e
 ·rename_i q
  rw [q] at e
  have a:es.toList.any (·.refKey)=false:=by
   rw [List.any_eq_false]
   intro y hy
   obtain ⟨z,t,hkey⟩:=hk y (Array.mem_toList_iff.mp hy)
   simp [DictEntry.refKey,hkey]
  have a':¬es.toList.any (·.refKey)=true:=by rw [a];exact Bool.false_ne_true
  rw [if_neg a']
  exact congrArg some e
theorem ObjM.look {h:Heap} {x dx C:Addr} {mA:Str→Option Value} (I:ObjM h x dx C mA):∃od,PySem.W.InstAt h x (PySem.W.instObj C dx) C (some od)∧∀name,PySem.W.lookIn name od=some (mA name) :=
 let ⟨od,ho,hl⟩:=oF I.ns
 ⟨od,⟨I.obj,rfl,rfl,ho⟩,hl⟩
section
variable {prog:Program} {w:World} {A:Around} {E:Value→Shared→Prop} {s:Shared} {K:PySem.W.Frag} {x dx C f:Addr} {mA:Str→Option Value} {name:Str} {v:Value}
end
section
variable {P:Program} {w:World} {H H':Hp} {h h':Heap} {a C dx:Addr} {fs fs':List (Str×V)}
theorem rO (hok:HOk P w H h) (e:H a=some (.ins C dx fs)):∃mA,ObjM h a dx C mA∧(∀f,RelO (fs.lookup f) (mA f))∧PySem.Within mA (fs.map (·.1))∧fs.length≤1000∧H dx=some (.own a):=by
 obtain ⟨d,z,ne,ob,mA,n,r,q⟩:=(show ObjOk P w H h a (.ins C dx fs) from hok a _ e)
 exact ⟨mA,⟨ob,n,ne⟩,r,q,z,d⟩
end
structure Cls (K:PySem.W.Frag) (C:Addr):Prop where
 pg:PySem.W.plainGet K C Str.empty=true
 hd:PySem.W.hasDictIn K C=true
 po:PySem.W.plainOver K C=true
 sa:PySem.W.findIn K (.ref C) "__setattr__"=some (some (.builtin "object.__setattr__"))
theorem Cls.get {K:PySem.W.Frag} {C:Addr} (c:Cls K C) (f:Str):PySem.W.plainGet K C f=true:=c.pg
section
variable {X:Cx} {pins:List (Addr×Obj)} {σ:St} {H:Hp} {s:Shared} {a C dx:Addr} {fs:List (Str×V)} {f:Str} {v:V} {A:Around} {E:Value→Shared→Prop}
end
section
variable {X:Cx} {o e value:Expr} {f:Str} {pos pos' tpos:Pos} {ta tv:TE}
end
section
variable {X:Cx} {pins:List (Addr×Obj)} {σ:St} {H:Hp} {s:Shared} {A:Around} {E:Value→Shared→Prop} {Q:Value→Shared→Prop} {c:Value} {b:Bool}
inductive TyOf (K:PySem.W.Frag) (H:Hp):V→Value→Prop where
 |non:TyOf K H .non (.type "NoneType")
 |bl (x:Bool):TyOf K H (.bl x) (.type "bool")
 |int (i:Int):TyOf K H (.int i) (.type "int")
 |str (x:Str):TyOf K H (.str x) (.type "str")
 |flt (x:UInt64):TyOf K H (.flt x) (.type "float")
 |lst {a:Addr} {xs:List V} (e:H a=some (.lst xs)):TyOf K H (.ref a) (.type "list")
 |frz {a:Addr} {o:Obj} {xs:List V} (e:H a=some (.frz o (.lst xs))):TyOf K H (.ref a) (.type "list")
 |tup {a:Addr} {xs:List V} (e:H a=some (.tup xs)):TyOf K H (.ref a) (.type "tuple")
 |dK {a:Addr} {kvs:List (jK×V)} (e:H a=some (.dK kvs)):TyOf K H (.ref a) (.type "dict")
 |dT {a:Addr} {kvs:List (List jK×V)} (e:H a=some (.dT kvs)):TyOf K H (.ref a) (.type "dict")
 |ins {a C dx:Addr} {fs:List (Str×V)} (e:H a=some (.ins C dx fs)) (cl:Cls K C) (ha:PySem.W.findIn K (.ref C) "__class__"=some (some (.builtin "object.__class__")))
   (hn:PySem.W.specialIn K (.builtin "object.__class__") "__get__"=some (some (.builtin "getset_descriptor.__get__"))) (htk:PySem.W.takesIn K (.builtin "object.__class__")=some true)
   (hm:PySem.W.mroIn K C (.type "object")=some true):TyOf K H (.ref a) (.ref C)
theorem oJ {x:V} {u t:Value} (I:Inv X pins σ H s) (rx:RelV x u) (ty:TyOf X.K H x t) (e:PySem.W.kitOne X.K t c=some b) (h:∀tk,Q (.bool b) {s with toks:=tk}) :
  wpAny (model X.prog X.w) A (call (.builtin "isinstance") [u,c]) Q E s:=by
 cases ty with
 |non=>cases (show u=Value.none from rx);exact PySem.W.kia_one PySem.W.kitx_none I.kIn True.intro e (fun z=>nomatch z) h
 |bl y=>cases (show u=Value.bool y from rx);exact PySem.W.kia_one PySem.W.kitx_bool I.kIn True.intro e (fun z=>nomatch z) h
 |int i=>obtain ⟨t,q⟩:=(show ∃t,u=Value.int i t from rx);cases q;exact PySem.W.kia_one PySem.W.kitx_int I.kIn True.intro e (fun z=>nomatch z) h
 |str y=>obtain ⟨t,q⟩:=(show ∃t,u=Value.str y t from rx);cases q;exact PySem.W.kia_one PySem.W.kitx_str I.kIn True.intro e (fun z=>nomatch z) h
 |flt y=>obtain ⟨t,q⟩:=(show ∃t,u=Value.float y t from rx);cases q;exact PySem.W.kia_one PySem.W.kitx_float I.kIn True.intro e (fun z=>nomatch z) h
 |@lst a xs ea =>
  cases (show u=Value.ref a from rx)
  obtain ⟨_,_,n,_,h1⟩:=(show ObjOk X.prog X.w H s.heap a (.lst xs) from I.hok a _ ea)
  exact PySem.W.kia_one PySem.W.kitx_list I.kIn ⟨_,h1,rfl⟩ e (fun z=>nomatch z) h
 |@frz a ob xs ea =>
  cases (show u=Value.ref a from rx)
  obtain ⟨_,_,_,n,_,h1⟩:=(show ObjOk X.prog X.w H s.heap a (.frz ob (.lst xs)) from I.hok a _ ea)
  exact PySem.W.kia_one PySem.W.kitx_list I.kIn ⟨_,h1,rfl⟩ e (fun z=>nomatch z) h
 |@tup a xs ea =>
  cases (show u=Value.ref a from rx)
  obtain ⟨_,_,_,p⟩:=(show ObjOk X.prog X.w H s.heap a (.tup xs) from I.hok a _ ea)
  obtain ⟨o,h1,h2,_⟩:=p
  exact PySem.W.kia_one PySem.W.kitx_tuple I.kIn ⟨o,h1,h2⟩ e (fun z=>nomatch z) h
 |@dK a kvs ea =>
  cases (show u=Value.ref a from rx)
  obtain ⟨_,_,vs,_,p⟩:=(show ObjOk X.prog X.w H s.heap a (.dK kvs) from I.hok a _ ea)
  obtain ⟨o,es,ep,h1,h2,_⟩:=p
  exact PySem.W.kia_one PySem.W.kitx_dict I.kIn ⟨o,h1,h2.1⟩ e (fun z=>nomatch z) h
 |@dT a kvs ea =>
  cases (show u=Value.ref a from rx)
  obtain ⟨_,_,xs,_,o,es,ep,h1,h2,_⟩:=(show ObjOk X.prog X.w H s.heap a (.dT kvs) from I.hok a _ ea)
  exact PySem.W.kia_one PySem.W.kitx_dict I.kIn ⟨o,h1,h2.1⟩ e (fun z=>nomatch z) h
 |@ins a C dx fs ea cl ha hn htk hm =>
  cases (show u=Value.ref a from rx)
  obtain ⟨mA,O,_⟩:=rO I.hok ea
  obtain ⟨od,J,_⟩:=O.look
  exact PySem.W.kia_one (PySem.W.kitx_own (cl.get _) cl.hd ha hn htk hm) I.kIn J e (fun z=>nomatch z) h
end
end L2
namespace L2
open PySem PySem.Spec PyProof.Rows
structure Room (k:Nat) (A:Around):Prop where
 hd:A.handled=none
 dp:A.depth+3*k+5<recursionLimit
 un:A.units+16*k+200<cLine
theorem Room.mono {j k:Nat} {A:Around} (r:Room k A) (h:j≤k):Room j A:=⟨r.hd,by have:=r.dp;omega,by have:=r.un;omega⟩
theorem Room.deeper {k:Nat} {A:Around} (r:Room (k+1) A) (env:Env):Room k (A.deeper env) :=
 ⟨r.hd,by have:=r.dp;show A.depth+1+3*k+5<_;omega,by have:=r.un;show A.units+3+16*k+200<_;omega⟩
theorem Room.depth {k:Nat} {A:Around} (r:Room k A):A.depth<recursionLimit:=by have:=r.dp;omega
theorem Room.units {k:Nat} {A:Around} (r:Room k A):A.units+64<cLine:=by have:=r.un;omega
theorem Room.units0 {k:Nat} {A:Around} (r:Room k A):A.units<cLine:=by have:=r.un;omega
def uB:TA:=fun _ H Q=>Q [] H
def tL (ta:TE) (tr:TA):TA:=fun σ H Q=>ta σ H fun x H1=>tr σ H1 fun xs H2=>Q (x::xs) H2
section
variable {X:Cx} {e:Expr} {es:List Expr} {te:TE} {t:TA} {pos:Pos}
theorem jC:PA X [] uB:=fun _ _ _ _ H Q I h=>Calls.spliced_nil ⟨[],H,I,.nil,h⟩
theorem jA (ha:PE X e te) (hr:PA X es t) (hs:starEach (e::es) X.env=(false,eval e X.env)::starEach es X.env:=by rfl):PA X (e::es) (tL te t):=by
 intro pos pins s σ H Q I h
 rw [hs]
 show wpAny _ _ (spliced ((false,eval e X.env)::backTo pos (starEach es X.env))) _ _ s
 refine Calls.spliced_cons (jD (ha pins s σ H _ I h) fun u s1 ⟨x,H1,I1,r1,q1⟩=>?_)
 exact jD (hr pos pins s1 σ H1 _ I1 q1) fun us s2 ⟨xs,H2,I2,r2,q2⟩=>⟨x::xs,H2,I2,.cons r1 r2,q2⟩
def tZ (t:TA):TE:=fun σ H Q=>t σ H fun xs H1=>xs.length≤sizeLine∧∀p,H1 p=none→Q (.ref p) (upd H1 p (.tup xs))
def uC (t:TA):TE:=fun σ H Q=>t σ H fun xs H1=>xs.length≤sizeLine∧∀p,H1 p=none→Q (.ref p) (upd H1 p (.lst xs))
theorem vO {x1} (h:PA X es t):PE X (.Tuple es x1 pos) (tZ t):=by
 intro pins s σ H Q I hq
 refine wpAny_Tuple_spliced (jD (h pos pins s σ H _ I hq) fun us s1 ⟨xs,H1,I1,r,z,q⟩=>⟨by rw [← r.length];exact z,?_⟩)
 have hf:H1 s1.heap.objs.size=none:=I1.hok.fresh (Nat.le_refl _)
 refine ⟨.ref s1.heap.objs.size,upd H1 s1.heap.objs.size (.tup xs),I1.laid (t':=s1.toks) (fun b u e=>Heap.get?_push_of_some _ e) (Nat.le_refl _) ?_,rfl,q _ hf⟩
 exact ⟨z,us,r,⟨_,Heap.get?_push_size _ rfl,rfl,_,rfl⟩⟩
theorem kT (h:PA X es t):PE X (.List es pos) (uC t):=by
 intro pins s σ H Q I hq
 refine wpAny_List_spliced (jD (h pos pins s σ H _ I hq) fun us s1 ⟨xs,H1,I1,r,z,q⟩=>⟨by rw [← r.length];exact z,?_⟩)
 have hf:H1 s1.heap.objs.size=none:=I1.hok.fresh (Nat.le_refl _)
 refine ⟨.ref s1.heap.objs.size,upd H1 s1.heap.objs.size (.lst xs),I1.laid (t':=s1.toks) (fun b u e=>Heap.get?_push_of_some _ e) (Nat.le_refl _) ?_,rfl,q _ hf⟩
 exact ⟨z,us,0,r,Heap.get?_push_size _ rfl⟩
end
abbrev Sp:=List V→Hp→VK→XK→Prop
abbrev vC:=List Env→Hp→Shared→XK→Value→Shared→Prop
structure Env0 (P:Program) (w:World) (K:PySem.W.Frag) (mg:Str→Option Value) (base:Heap) (A:Around) (outer:List Env) (s:Shared) (H:Hp):Prop where
 frames:A.frames=some outer
 mod:Mod K mg base
 bs:∀b o,base.get? b=some o→s.heap.get? b=some o∧H b=none
 bsz:base.objs.size≤s.heap.objs.size
 funs:s.heap.FunFrames base outer
 frf:∀b∈jM outer,H b=none
 hok:HOk P w H s.heap
 bare:AllBare s.gens
def CE (outer:List Env) (P:Program) (w:World) (H:Hp) (s:Shared) (Q:VK) (u:Value) (s':Shared):Prop :=
 ∃v H',s'.os=s.os∧AllBare s'.gens∧Un (jM outer) [] H H' s.heap s'.heap∧HOk P w H' s'.heap∧RelV v u∧Q v H'
def CR (CX:vC) (outer:List Env) (P:Program) (w:World) (H:Hp) (s:Shared) (Q:VK) (E:XK) (r:Result) (s':Shared):Prop :=
 match r with
 |.ok (.ret u)=>CE outer P w H s Q u s'
 |.ok _=>False
 |.error e=>CX outer H s E e s'
structure FnOk (P:Program) (w:World) (K:PySem.W.Frag) (mg:Str→Option Value) (base:Heap) (CX:vC) (k:Nat) (f:Addr) (fd:FuncData) (ps:List Str) (sp:Sp):Prop where
 len:∀vs H Q E,sp vs H Q E→vs.length=ps.length
 run:∀(A:Around) (outer:List Env) (s:Shared) (H:Hp) (args:Args) (us:List Value) (vs:List V) (Q:VK) (E:XK),Room k A→Env0 P w K mg base A outer s H→BindsTo s fd args (ps.zip us)→Vals vs us→sp vs H Q E→
  codeAny (model P w) A (.call (.ref f) args) (CR CX outer P w H s Q E) s
section
variable {X:Cx} {pins:List (Addr×Obj)} {σ:St} {H:Hp} {s s':Shared}
theorem Inv.env0 (I:Inv X pins σ H s):Env0 X.prog X.w X.K X.mg X.base X.A X.stack s H :=
 ⟨I.ok.frames,I.ok.mod,I.bs,Nat.le_trans I.ok.bsz I.sz,I.stack,I.stkFree,I.hok,I.bare⟩
theorem Inv.after {Q:VK} {u:Value} (I:Inv X pins σ H s) (h:CE X.stack X.prog X.w H s Q u s'):EP X pins σ Q u s':=by
 obtain ⟨v,H',os,bare,un,hok,r,q⟩:=h
 obtain ⟨hh,g,d,t,os'⟩:=s'
 obtain rfl:os'=s.os:=os
 exact ⟨v,H',I.call (h':=hh) (g':=g) (d':=d) (t':=t) (ch:=[]) un hok bare (fun b z=>absurd z (by simp)),r,q⟩
end
def iB (sp:Sp) (dvs:List V) (E:XK) (t:TA):TE:=fun σ H Q=>t σ H fun vs H1=>sp (vs++dvs) H1 Q E
def Binds (K:PySem.W.Frag) (fd:FuncData) (ps:List Str) (ds:List Value):Prop :=
 ∀(s:Shared) (us:List Value),K.In s.heap→(us++ds).length=ps.length→BindsTo s fd ⟨us,[]⟩ (ps.zip (us++ds))
theorem Binds.all {K:PySem.W.Frag} {fd:FuncData} {ps:List Str} (h:∀us:List Value,us.length=ps.length→bindArgs fd ⟨us,[]⟩=pure (ps.zip us)):Binds K fd ps []:=fun s us _ hl=>by
 rw [List.append_nil] at hl ⊢
 exact .of_eq (h us hl)
def cC (CX:vC) (X:Cx) (E:XK):Prop:=∀(pins:List (Addr×Obj)) (σ:St) (H:Hp) (s:Shared) (e:Value) (s':Shared),Inv X pins σ H s→CX X.stack H s E e s'→X.xe e s'
section
variable {X:Cx} {CX:vC} {k:Nat} {f C:Addr} {fd:FuncData} {ps:List Str} {sp:Sp} {dvs:List V} {ds:List Value} {E:XK} {x m:Str} {p pos apos:Pos} {e o:Expr} {es:List Expr} {ta:TE} {t:TA}
theorem sE {pins:List (Addr×Obj)} {σ:St} {H:Hp} {s:Shared} {Q:VK} {us:List Value} {vs:List V} (F:FnOk X.prog X.w X.K X.mg X.base CX k f fd ps sp) (hr:Room k X.A) (hb:Binds X.K fd ps ds) (hd:Vals dvs ds) (hx:cC CX X E)
  (I:Inv X pins σ H s) (r:Vals vs us) (h:sp (vs++dvs) H Q E):wpAny (model X.prog X.w) X.A (call (.ref f) us) (EP X pins σ Q) X.xe s:=by
 have r2:Vals (vs++dvs) (us++ds):=r.append hd
 have hl:(us++ds).length=ps.length:=by rw [← r2.length];exact F.len _ _ _ _ h
 refine wpAny_call (codeAny_mono (F.run X.A X.stack s H ⟨us,[]⟩ (us++ds) (vs++dvs) Q E hr I.env0 (hb s us I.kIn hl) r2 h) fun r s' hq=>?_)
 cases r with
 |error e=>exact hx pins σ H s e s' I hq
 |ok fl =>
  cases fl with
  |ret u=>exact I.after hq
  |next=>exact False.elim hq
  |brk=>exact False.elim hq
  |cont=>exact False.elim hq
theorem rG (F:FnOk X.prog X.w X.K X.mg X.base CX k f fd ps sp) (hr:Room k X.A) (hg:Gl X x) (hm:X.mg x=some (.ref f)) (hk:PySem.W.keepIn X.K (.ref f)=true) (hb:Binds X.K fd ps ds) (hd:Vals dvs ds) (hx:cC CX X E)
  (ha:PA X (e::es) t) (hdb:(x == ("__debug__":Str))=false:=by decide) (he:starEach (e::es) X.env=(false,eval e X.env)::starEach es X.env:=by rfl) (hpl:(backTo pos (starEach es X.env)).any (·.1)=false:=by rfl) :
  PE X (.Call (.Name x p) (e::es) [] pos) (iB sp dvs E t):=by
 intro pins s σ H Q I h
 refine wpAny_Call_Name_kw (JT I hg hm ?_ hdb)
 refine PySem.W.callWith_K (h₀:=X.base) I.ok.mod.kin hk (jD (ha pos pins s σ H _ I h) fun us s1 ⟨vs,H1,I1,r,q⟩=>⟨I1.kIn,?_⟩) he hpl
 exact sE F hr hb hd hx I1 r q
end
section
variable {X:Cx} {CX:vC} {k:Nat} {f C:Addr} {fd:FuncData} {ps ks:List Str} {sp:Sp} {E:XK} {x m:Str} {p pos apos kpos:Pos} {e o:Expr} {es:List Expr} {kws:List Keyword} {te ta:TE} {t tk:TA} {nm:Option Str}
variable {g:List Value→List Value→List Value} {gV:List V→List V→List V}
end
structure FnScope (N P:List Str) (sc:Scope):Prop where
 kind:sc.kind=.function
 co:sc.isCoroutine=false
 gen:sc.isGenerator=false
 nd:N.Nodup
 pre:N.take P.length=P
 par:∀x∈P,sc.names.lookup x=some .local∨sc.names.lookup x=some .cell
 nofree:∀y∈sc.names,y.2≠.free
theorem eE {kindOf:Str→Option NameKind} {x:Str}:∀{binds:List (Str×Value)} {m:Str→Option Value},(∀v,(x,v)∉binds)→bindL kindOf binds m x=m x
 |[],_,_=>rfl
 | (n,v)::r,m,h=>by
  unfold bindL
  rw [eE fun w hw=>h w (List.mem_cons_of_mem _ hw)]
  split
  ·have:x≠n:=by rintro rfl;exact h v List.mem_cons_self
   simp [this]
  ·rfl
theorem eG {kindOf:Str→Option NameKind} {x:Str}:∀{binds:List (Str×Value)} {m:Str→Option Value},(∀v,(x,v)∉binds)→bindC kindOf binds m x=m x
 |[],_,_=>rfl
 | (n,v)::r,m,h=>by
  unfold bindC
  rw [eG fun w hw=>h w (List.mem_cons_of_mem _ hw)]
  split
  ·rfl
  ·have:x≠n:=by rintro rfl;exact h v List.mem_cons_self
   simp [this]
theorem eF {kindOf:Str→Option NameKind} {x:Str} {v:Value}:∀{P:List Str} {vs:List Value} {i:Nat} {m:Str→Option Value},P.Nodup→P[i]?=some x→vs[i]?=some v→kindOf x=some .local→
  bindL kindOf (P.zip vs) m x=some v
 |[],_,_,_,_,h,_,_=>by simp at h
 |_::_,[],_,_,_,_,h,_=>by simp at h
 |p::P,w::vs,0,m,nd,h1,h2,hk=>by
  simp at h1 h2;subst h1;subst h2
  show bindL kindOf ((p,w)::P.zip vs) m p=_
  unfold bindL
  rw [eE fun v hv=>(List.nodup_cons.mp nd).1 (List.of_mem_zip hv).1,if_pos hk]
  simp
 |p::P,w::vs,i+1,m,nd,h1,h2,hk=>by
  show bindL kindOf ((p,w)::P.zip vs) m x=_
  unfold bindL
  exact eF (i:=i) (List.nodup_cons.mp nd).2 (by simpa using h1) (by simpa using h2) hk
theorem eH {kindOf:Str→Option NameKind} {x:Str} {v:Value}:∀{P:List Str} {vs:List Value} {i:Nat} {m:Str→Option Value},P.Nodup→P[i]?=some x→vs[i]?=some v→kindOf x≠some .local→
  bindC kindOf (P.zip vs) m x=some v
 |[],_,_,_,_,h,_,_=>by simp at h
 |_::_,[],_,_,_,_,h,_=>by simp at h
 |p::P,w::vs,0,m,nd,h1,h2,hk=>by
  simp at h1 h2;subst h1;subst h2
  show bindC kindOf ((p,w)::P.zip vs) m p=_
  unfold bindC
  rw [eG fun v hv=>(List.nodup_cons.mp nd).1 (List.of_mem_zip hv).1,if_neg hk]
  simp
 |p::P,w::vs,i+1,m,nd,h1,h2,hk=>by
  show bindC kindOf ((p,w)::P.zip vs) m x=_
  unfold bindC
  exact eH (i:=i) (List.nodup_cons.mp nd).2 (by simpa using h1) (by simpa using h2) hk
def vY (N:List Str) (vs:List V):St:=vs.map some++List.replicate (N.length - vs.length) none
def j3 (CX:vC) (P:Program) (w:World) (K:PySem.W.Frag) (mg:Str→Option Value) (base:Heap) (N:List Str) (qual:Str) (scope:Scope) (f:Addr) (cd:Value) (A:Around) (outer:List Env) (s:Shared) (H:Hp) (E:XK):Cx where
 prog:=P
 w:=w
 K:=K
 mg:=mg
 base:=base
 A:=A.deeper (envOfC qual scope s.heap.objs.size f cd)
 N:=N
 s₀:=s
 H₀:=H
 env:=envOfC qual scope s.heap.objs.size f cd
 outer:=outer
 stack:=envOfC qual scope s.heap.objs.size f cd::outer
 ex:=[]
 calm:=true
 fn:=fun _=>true
 pn:=[]
 xe:=fun e s'=>wpAny (model P w) (A.deeper (envOfC qual scope s.heap.objs.size f cd)) (leaving (envOfC qual scope s.heap.objs.size f cd) e) (fun _ s''=>CX outer H s E e s'') (fun e' s''=>CX outer H s E e' s'') s'
theorem fN {sc:Scope} {n:Nat} {x:Str} (h:sc.names.lookup x=some .cell):∃c,(cellsFrom n sc.names []).lookup x=some c:=by
 have q:=PySem.W.cellsFrom_some sc.names n [] (.inl h)
 exact Option.isSome_iff_exists.mp q
theorem oK {CX:vC} {P:Program} {w:World} {K:PySem.W.Frag} {mg:Str→Option Value} {base:Heap} {N ps:List Str} {qual:Str} {scope:Scope} {f:Addr} {cd:Value} {A:Around} {outer:List Env} {s s1:Shared} {H:Hp} {E:XK} {us:List Value} {vs:List V}
  (S:FnScope N ps scope) (hd:A.handled=none) (e0:Env0 P w K mg base A outer s H) (hl:vs.length=ps.length) (r:Vals vs us)
  (x:InCallC s s.heap.objs.size (bindL (envOfC qual scope s.heap.objs.size f cd).kindOf (ps.zip us) fun _=>none) (cellsFrom (s.heap.objs.size+1) scope.names []) (bindC (envOfC qual scope s.heap.objs.size f cd).kindOf (ps.zip us) fun _=>none) s1) :
  Inv (j3 CX P w K mg base N qual scope f cd A outer s H E) [] (vY N vs) H s1:=by
 have hpl:ps.length≤N.length:=by have:=congrArg List.length S.pre;rw [List.length_take] at this;omega
 obtain ⟨h1,tk,rfl,hk⟩:=x.done
 have noA:∀b:Addr,b∉(j3 CX P w K mg base N qual scope f cd A outer s H E).ex:=fun b z=>absurd (show b∈([]:List Addr) from z) (by simp)
 refine ⟨⟨e0.mod,S.kind,rfl,rfl,Nat.le_refl _,fun y z c h1 h2=>?_,fun y hy=>?_,fun y c _ h=>?_,fun _=>hd,Around.frames_deeper e0.frames,.inr ⟨rfl,rfl⟩,fun b z=>absurd z (noA b),e0.bs,e0.bsz,fun b _ _=>noA b,fun b z=>absurd z (noA b),e0.funs,e0.frf⟩,
  rfl,e0.bare,Un.kept hk,⟨_,x.toInCall.ns,fun i y v h1 h2 h3=>?_⟩,fun y c h=>⟨_,x.cell y c h⟩,e0.hok.fresh (Nat.le_refl _),fun y c h=>?_,fun p hp=>absurd (show p∈([]:List (Addr×Obj)) from hp) (by simp),e0.hok.kept hk,?_⟩
 ·exact name_of_addr x.apart (PySem.mem_of_lookup h1) (PySem.mem_of_lookup h2)
 ·have hy:scope.names.lookup y=some .cell∨scope.names.lookup y=some .free:=hy
  rcases hy with hy|hy
  ·exact fN hy
  ·exact absurd rfl (S.nofree _ (PySem.mem_of_lookup hy))
 ·exact Nat.le_of_lt (x.above y c (PySem.mem_of_lookup h))
 ·have hi:i<vs.length:=by
   unfold vY at h2
   by_cases hi:i<vs.length
   ·exact hi
   ·rw [List.getElem?_append_right (by simpa using hi)] at h2
    rw [List.getElem?_replicate] at h2
    split at h2<;>cases h2
  have ha:vs[i]?=some v:=by
   unfold vY at h2
   rw [List.getElem?_append_left (by simpa using hi),List.getElem?_map] at h2
   cases e:vs[i]? with
   |none=>rw [e] at h2;cases h2
   |some a=>rw [e] at h2;cases h2;rfl
  obtain ⟨u,hu,rv⟩:=r.get ha
  have hp:ps[i]?=some y:=by
   rw [← S.pre,List.getElem?_take_of_lt (by omega)];exact h1
  have ndP:ps.Nodup:=by rw [← S.pre];exact S.nd.sublist (List.take_sublist _ _)
  refine ⟨u,rv,?_⟩
  rcases S.par y (List.mem_of_getElem? hp) with k|k
  ·exact .inl ⟨k,eF ndP hp hu k⟩
  ·obtain ⟨c,e⟩:=fN (n:=s.heap.objs.size+1) k
   refine .inr ⟨.inl k,c,e,?_⟩
   have q:=x.cell y c e
   rw [eH ndP hp hu (by show scope.names.lookup y≠_;rw [k];decide)] at q
   exact q
 ·exact e0.hok.fresh (Nat.le_of_lt (x.above y c (PySem.mem_of_lookup h)))
 ·unfold vY
  show _=N.length
  rw [List.length_append,List.length_map,List.length_replicate]
  omega
theorem iH {CX:vC} {P:Program} {w:World} {K:PySem.W.Frag} {mg:Str→Option Value} {base:Heap} {k:Nat} {f:Addr} {name qual:Str} {params:Arguments} {body:List Stmt} {scope:Scope} {dV kV doc pm cdv ct oc:Value} {an od:Option Addr}
  {osl:Array (Option Value)} {N ps:List Str} {sp:Sp} (lk:K.lookup f=some ⟨oc,od,.func (PySem.W.fnOf name qual params body scope dV kV doc pm an cdv ct),osl⟩) (hcd:PySem.W.codeIn K cdv qual=true) (S:FnScope N ps scope)
  (len:∀vs H Q E,sp vs H Q E→vs.length=ps.length)
  (hbody:∀(A:Around) (outer:List Env) (s:Shared) (H:Hp) (vs:List V) (Q:VK) (E:XK),Room k (A.deeper (envOfC qual scope s.heap.objs.size f cdv))→sp vs H Q E→
   ∃t,PSs (j3 CX P w K mg base N qual scope f cdv A outer s H E) body t∧t {nx:=fun _ H'=>Q .non H',rt:=Q} (vY N vs) H) :
  FnOk P w K mg base CX (k+1) f (PySem.W.fnOf name qual params body scope dV kV doc pm an cdv ct) ps sp:=by
 refine ⟨len,fun A outer s H args us vs Q E hr e0 hb r hsp=>?_⟩
 have hl:=len _ _ _ _ hsp
 have KX:K.In s.heap:=e0.mod.kin.keeps fun b o e=>(e0.bs b o e).1
 have lim:s.heap.NoLimit:=e0.mod.nolimit.keeps fun b o e=>(e0.bs b o e).1
 have hkind:∀y∈ps.zip us,scope.names.lookup y.1=some .local∨(scope.names.lookup y.1=some .cell∧((cellsFrom (s.heap.objs.size+1) scope.names []).lookup y.1).isSome=true):=fun ⟨n,v⟩ hy=>by
  rcases S.par n (List.of_mem_zip hy).1 with q|q
  ·exact .inl q
  ·exact .inr ⟨q,PySem.W.cellsFrom_some _ _ _ (.inl q)⟩
 refine codeAny_call_function hr.depth (KX _ _ lk) rfl S.co S.gen rfl (PySem.W.codeRec_of KX hcd) (hb _ _ _ _ ?_)
 refine wpAny_newFunctionEnv_cells S.kind hkind fun env he s1 x=>?_
 subst he
 refine ⟨lim.keeps x.toInCall.keep,codeAny_func ?_⟩
 obtain ⟨t,ht,hq⟩:=hbody A outer s H vs Q E (hr.deeper _) hsp
 have I:Inv (j3 CX P w K mg base N qual scope f cdv A outer s H E) [] (vY N vs) H s1:=oK S hr.hd e0 hl r x
 refine wpAny_mono (ht [] s1 (vY N vs) H _ I hq) (fun fl s' hs=>?_) fun e s' hs=>hs
 have fin:∀{σ':St} {H':Hp} {v:V} {u:Value},Inv (j3 CX P w K mg base N qual scope f cdv A outer s H E) [] σ' H' s'→RelV v u→Q v H'→CE outer P w H s Q u s' :=
  fun {σ' H' v u} J rv q=>⟨v,H',J.os,J.bare,J.base,J.hok,rv,q⟩
 cases fl with
 |ret u =>
  obtain ⟨v,σ',H',J,rv,q⟩:=hs
  exact fin J rv q
 |next =>
  obtain ⟨σ',H',J,q⟩:=hs
  exact fin (v:=V.non) (u:=Value.none) J rfl q
 |brk =>
  obtain ⟨_,_,_,q⟩:=hs
  exact False.elim q
 |cont =>
  obtain ⟨_,_,_,q⟩:=hs
  exact False.elim q
end L2
namespace L2
open PySem PySem.Spec PyProof.Rows
section
variable {X:Cx} {x:Str} {p pos:Pos} {e:Expr} {es:List Expr} {t:TA} {id T:String} {r:List V→Hp→VK→Prop}
def iX (r:List V→Hp→VK→Prop) (t:TA):TE:=fun σ H Q=>t σ H fun vs H1=>r vs H1 Q
theorem kK (hc:CallR X (.builtin id) r) (hg:Gl X x) (hm:X.mg x=none) (hv:bootBuiltins x=some (.builtin id)) (ha:PA X (e::es) t) (hn:x≠"__name__":=by decide) (hdb:(x == ("__debug__":Str))=false:=by decide)
  (he:starEach (e::es) X.env=(false,eval e X.env)::starEach es X.env:=by rfl) (hpl:(backTo pos (starEach es X.env)).any (·.1)=false:=by rfl):PE X (.Call (.Name x p) (e::es) [] pos) (iX r t):=by
 intro pins s σ H Q I h
 refine wpAny_Call_Name_kw (z5 I hg hm hv ?_ hn hdb)
 exact PyProof.Rows.callWith_builtin1 (jD (ha pos pins s σ H _ I h) fun us s1 ⟨vs,H1,I1,r1,q1⟩=>hc pins s1 σ H1 vs us Q I1 r1 q1) he hpl
theorem zC (hc:CallR X (.type T) r) (hg:Gl X x) (hm:X.mg x=none) (hv:bootBuiltins x=some (.type T)) (ha:PA X (e::es) t) (hn:x≠"__name__":=by decide) (hdb:(x == ("__debug__":Str))=false:=by decide)
  (he:starEach (e::es) X.env=(false,eval e X.env)::starEach es X.env:=by rfl) (hpl:(backTo pos (starEach es X.env)).any (·.1)=false:=by rfl):PE X (.Call (.Name x p) (e::es) [] pos) (iX r t):=by
 intro pins s σ H Q I h
 refine wpAny_Call_Name_kw (z5 I hg hm hv ?_ hn hdb)
 exact PyProof.Rows.callWith_type1 (jD (ha pos pins s σ H _ I h) fun us s1 ⟨vs,H1,I1,r1,q1⟩=>hc pins s1 σ H1 vs us Q I1 r1 q1) he hpl
end
end L2
namespace HT
open PySem PyProof.Rows
section
open PySem.SeqAt
open PySem.AutoSeq1 (wpAny_loadPart')
open PySem.MeetsSeq PySem.MeetsSeq2 PySem.MeetsSeq3
end
section
variable {prog:Program} {w:World} {A:Around} {E:Value→Shared→Prop} {s:Shared}
def sIx (n d:Nat):Option Int→Nat
 |none=>d
 |some v=>if v<0 then (v+(n:Int)).toNat else min v.toNat n
theorem sIx_none (n d:Nat):sIx n d none=d:=rfl
theorem sIx_nat (n d k:Nat):sIx n d (some (k:Int))=min k n:=by
 show (if (k:Int)<0 then ((k:Int)+(n:Int)).toNat else min (k:Int).toNat n)=min k n
 rw [if_neg (by omega),Int.toNat_natCast]
end
end HT
namespace L2
open PySem PySem.Spec PyProof.Rows
abbrev TO:=St→Hp→(Option Int→Hp→Prop)→Prop
def PO (X:Cx) (e:Option Expr) (t:TO):Prop :=
 ∀(pins:List (Addr×Obj)) (s:Shared) (σ:St) (H:Hp) (Q:Option Int→Hp→Prop),Inv X pins σ H s→t σ H Q→
  wpAny (model X.prog X.w) X.A (evalPart e X.env) (fun u s'=>∃o H',Inv X pins σ H' s'∧IsPart u o∧Q o H') X.xe s
def fS:TO:=fun _ H Q=>Q none H
def tH (t:TE):TO:=fun σ H Q=>t σ H fun x H1=>∃i,x=.int i∧Q (some i) H1
section
variable {X:Cx} {e:Expr} {te:TE} {lo hi:Option Expr} {tl th:TO} {pos p2:Pos}
theorem qA:PO X none fS:=by
 intro pins s σ H Q I h
 rw [evalPart_none]
 exact wpAny_pure ⟨none,H,I,.none,h⟩
theorem kM (h:PE X e te):PO X (some e) (tH te):=by
 intro pins s σ H Q I hw
 rw [evalPart_some]
 refine jD (h pins s σ H _ I hw) fun u s1 ⟨x,H1,I1,r1,q1⟩=>?_
 obtain ⟨i,rfl,q⟩:=q1
 obtain ⟨t,rfl⟩:=r1
 exact ⟨some i,H1,I1,.int i t,q⟩
def SlR (X:Cx) (r:V→Option Int→Option Int→Hp→VK→Prop):Prop :=
 ∀(pins:List (Addr×Obj)) (s:Shared) (σ:St) (H:Hp) (x:V) (v vl vu:Value) (lo hi:Option Int) (sl:Addr) (Q:VK),Inv X pins σ H s→RelV x v→s.heap.IsSliceOf sl vl vu .none→IsPart vl lo→IsPart vu hi→r x lo hi H Q→
  ∃T id,typeLookup (.type T) "__getitem__"=pure (some (.builtin id))∧s.TypeIs v T∧wpAny (model X.prog X.w) X.A (getItem v (.ref sl)) (EP X pins σ Q) X.xe s
theorem SlR.or {r r':V→Option Int→Option Int→Hp→VK→Prop} (h:SlR X r) (h':SlR X r'):SlR X (fun x lo hi H Q=>r x lo hi H Q∨r' x lo hi H Q):=by
 intro pins s σ H x v vl vu lo hi sl Q I rx hs pl pu q
 rcases q with q|q
 ·exact h pins s σ H x v vl vu lo hi sl Q I rx hs pl pu q
 ·exact h' pins s σ H x v vl vu lo hi sl Q I rx hs pl pu q
def u3 (r:V→Option Int→Option Int→Hp→VK→Prop) (te:TE) (tl th:TO):TE:=fun σ H Q=>te σ H fun x H1=>tl σ H1 fun l H2=>th σ H2 fun u H3=>r x l u H3 Q
theorem qF {r:V→Option Int→Option Int→Hp→VK→Prop} (hr:SlR X r) (he:PE X e te) (hl:PO X lo tl) (hu:PO X hi th):PE X (.Subscript e (.Slice lo hi none p2) pos) (u3 r te tl th):=by
 intro pins s σ H Q I h
 refine Subscript_ (jD (he pins s σ H _ I h) fun v s1 ⟨x,H1,I1,r1,q1⟩=>?_)
 refine wpAny_Slice (jD (hl pins s1 σ H1 _ I1 q1) fun vl s2 ⟨l,H2,I2,pl,q2⟩=>jD (hu pins s2 σ H2 _ I2 q2) fun vu s3 ⟨u,H3,I3,pu,q3⟩=>?_)
 rw [evalPart_none]
 refine wpAny_pure ?_
 have I4:Inv X pins σ H3 {s3 with heap:=s3.heap.push {cls:=.type "slice",data:=.fields #[vl,vu,.none]}}:=I3.kept (t':=s3.toks) fun b ob q=>Heap.get?_push_of_some _ q
 obtain ⟨T,id,hT,ht,hg⟩:=hr pins {s3 with heap:=s3.heap.push {cls:=.type "slice",data:=.fields #[vl,vu,.none]}} σ H3 x v vl vu l u s3.heap.objs.size Q I4 r1 (Heap.IsSliceOf.new ..) pl pu q3
 show wpAny (model X.prog X.w) X.A (subscriptTail e (.Slice lo hi none p2) v (.ref s3.heap.objs.size)) (EP X pins σ Q) X.xe {s3 with heap:=s3.heap.push {cls:=.type "slice",data:=.fields #[vl,vu,.none]}}
 exact tail_any (ops:=[.ref s3.heap.objs.size,v]) ht hT hg (by with_unfolding_all rfl)
def kX (xs:List V) (lo hi:Option Int):List V:=(xs.drop (HT.sIx xs.length 0 lo)).take (HT.sIx xs.length xs.length hi - HT.sIx xs.length 0 lo)
theorem mW (xs:List V) (lo hi:Option Int):(kX xs lo hi).length≤xs.length:=by
 unfold kX
 rw [List.length_take,List.length_drop]
 omega
end
end L2
namespace L2
open PySem PySem.Spec PyProof.Rows
def JD (n:Nat) (i:Int):Option Nat:=if 0≤i then (if i<n then some i.toNat else none) else if -(n:Int)≤i then some (i+n).toNat else none
def kY {α:Type} (xs:List α) (i:Int):Option α:=(JD xs.length i).bind fun j=>xs[j]?
theorem rN {n:Nat} {i:Int} {j:Nat} (h:JD n i=some j):seqIndex? i n=some j∧j<n∧-(n:Int)≤i∧i<n:=by
 unfold JD at h
 by_cases h0:0≤i
 ·rw [if_pos h0] at h
  by_cases h1:i<n
  ·rw [if_pos h1] at h
   have e:i.toNat=j:=Option.some.inj h
   exact ⟨by rw [seqIndex_of h0 h1,e],by omega,by omega,h1⟩
  ·rw [if_neg h1] at h;cases h
 ·rw [if_neg h0] at h
  by_cases h1 : -(n:Int)≤i
  ·rw [if_pos h1] at h
   have e:(i+n).toNat=j:=Option.some.inj h
   exact ⟨by rw [seqIndex_neg (by omega) h1,e],by omega,h1,by omega⟩
  ·rw [if_neg h1] at h;cases h
theorem bP {α:Type} {xs:List α} {i:Int} {v:α} (h:kY xs i=some v):∃j,seqIndex? i xs.length=some j∧xs[j]?=some v∧j<xs.length∧-(xs.length:Int)≤i∧i<xs.length:=by
 unfold kY at h
 cases e:JD xs.length i with
 |none=>rw [e] at h;cases h
 |some j =>
  rw [e] at h
  obtain ⟨h1,h2,h3,h4⟩:=rN e
  exact ⟨j,h1,h,h2,h3,h4⟩
theorem kF {α:Type} {xs:List α} {j:Nat} {v:α} (h:xs[j]?=some v):kY xs (j:Int)=some v:=by
 have hj:j<xs.length:=(List.getElem?_eq_some_iff.mp h).1
 have e:JD xs.length (j:Int)=some j:=by
  unfold JD
  rw [if_pos (by omega),if_pos (by omega)];simp
 unfold kY;rw [e];exact h
def rX (b:Expr):Prop:=∀o i,subscripted b false o i=operate [o,i] (getItem o i)
def IxR (X:Cx) (r:R2):Prop :=
 ∀(value slice:Expr) (pins:List (Addr×Obj)) (s:Shared) (σ:St) (H:Hp) (x y:V) (v u:Value) (Q:VK),Inv X pins σ H s→RelV x v→RelV y u→r x y H Q→
  subscripted slice false v u=operate [v,u] (getItem v u)→wpAny (model X.prog X.w) X.A (subscriptTail value slice v u) (EP X pins σ Q) X.xe s
def MtR (X:Cx) (id:String) (r:V→List V→Hp→VK→Prop):Prop :=
 ∀(pins:List (Addr×Obj)) (s:Shared) (σ:St) (H:Hp) (x:V) (xs:List V) (v:Value) (us:List Value) (Q:VK),Inv X pins σ H s→RelV x v→Vals xs us→r x xs H Q→
  wpAny (model X.prog X.w) X.A (call (.builtin id) (v::us)) (EP X pins σ Q) X.xe s
section
variable {X:Cx} {a b:Expr} {ta tb:TE} {pos:Pos}
theorem IxR.or {r r':R2} (h:IxR X r) (h':IxR X r'):IxR X (fun x y H Q=>r x y H Q∨r' x y H Q):=by
 intro value slice pins s σ H x y v u Q I rx ry q hs
 rcases q with q|q
 ·exact h value slice pins s σ H x y v u Q I rx ry q hs
 ·exact h' value slice pins s σ H x y v u Q I rx ry q hs
theorem MtR.or {id:String} {r r':V→List V→Hp→VK→Prop} (h:MtR X id r) (h':MtR X id r'):MtR X id (fun x xs H Q=>r x xs H Q∨r' x xs H Q):=by
 intro pins s σ H x xs v us Q I rx rs q
 rcases q with q|q
 ·exact h pins s σ H x xs v us Q I rx rs q
 ·exact h' pins s σ H x xs v us Q I rx rs q
theorem jV {r:R2} (hr:IxR X r) (ha:PE X a ta) (hb:PE X b tb) (hs:rX b):PE X (.Subscript a b pos) (ZJ r ta tb):=by
 intro pins s σ H Q I h
 exact Subscript_ (cO ha hb I h fun v u s2 x y H2 I2 rx ry q=>hr a b pins s2 σ H2 x y v u Q I2 rx ry q (hs _ _))
def uM (K:PySem.W.Frag):R2:=fun x y H Q=>∃p xs i v,x=.ref p∧y=.int i∧SqL K H p xs∧kY xs i=some v∧Q v H
def uK (K:PySem.W.Frag):R2:=fun x y H Q=>∃p xs i v,x=.ref p∧y=.int i∧SqT K H p xs∧kY xs i=some v∧Q v H
def uL:R2:=fun x y H Q=>∃z i c,x=.str z∧y=.int i∧z.length≤sizeLine∧kY z.cps.toList i=some c∧Q (.str ⟨#[c]⟩) H
theorem j4:IxR X (uM X.K):=by
 intro value slice pins s σ H x y v u Q I rx ry h hs
 obtain ⟨p,xs,i,z,rfl,rfl,hq,he,q⟩:=h
 cases rx
 obtain ⟨t,rfl⟩:=ry
 obtain ⟨its,r,pl,hz⟩:=I.list hq
 obtain ⟨j,h1,h2,h3,h4,h5⟩:=bP he
 obtain ⟨w,ew,rw'⟩:=r.get h2
 have hl:=r.length
 have hn:=JZ
 have fin:EP X pins σ Q w s:=⟨z,H,I,rw',q⟩
 by_cases h0:0≤i
 ·have hj:i.toNat=j:=by
   rw [seqIndex_of h0 h5] at h1
   exact Option.some.inj h1
  exact item_listR pl.isList h0 (by omega) (by rw [hj];simpa using ew) fin hs
 ·have hj:(i+(its.toArray.size:Int)).toNat=j:=by
   rw [seqIndex_neg (by omega) h4] at h1
   rw [List.size_toArray,← hl]
   exact Option.some.inj h1
  exact subscriptTail_builtinR (x:=w) pl.isList.typeIs slot_list_getitem.lookup
   (wpAny_getItem_list_neg (Q:=fun r s'=>r=w∧EP X pins σ Q r s') pl.isList (by omega) (by rw [List.size_toArray]<;>omega) (by omega) (by rw [hj];simpa using ew) ⟨rfl,fin⟩) hs
theorem gW:IxR X (uK X.K):=by
 intro value slice pins s σ H x y v u Q I rx ry h hs
 obtain ⟨p,xs,i,z,rfl,rfl,hq,he,q⟩:=h
 cases rx
 obtain ⟨t,rfl⟩:=ry
 obtain ⟨its,r,pl,hz⟩:=I.tuple hq
 obtain ⟨j,h1,h2,h3,h4,h5⟩:=bP he
 obtain ⟨w,ew,rw'⟩:=r.get h2
 have hl:=r.length
 have hn:=JZ
 have fin:EP X pins σ Q w s:=⟨z,H,I,rw',q⟩
 exact subscriptTail_builtinR (x:=w) pl.typeIs slot_tuple_getitem.lookup
  (getItem_tuple (j:=j) (Q:=fun r s'=>r=w∧EP X pins σ Q r s') pl (by omega) (by omega) (by rw [List.size_toArray,← hl];exact h1) (by simpa using ew) ⟨rfl,fin⟩) hs
theorem gX:IxR X uL:=by
 intro value slice pins s σ H x y v u Q I rx ry h hs
 obtain ⟨z,i,c,rfl,rfl,hz,he,q⟩:=h
 obtain ⟨t,rfl⟩:=rx
 obtain ⟨t',rfl⟩:=ry
 obtain ⟨j,h1,h2,h3,h4,h5⟩:=bP he
 have hl:z.cps.toList.length=z.length:=by simp [Str.length]
 rw [hl] at h1 h4 h5
 have hn:=JZ
 exact tail_any (typeIs_str s z t) slot_str_getitem.lookup (getItem_str (c:=c) (by
  have e1:decide (i < -(2 ^ 63:Int))=false:=decide_eq_false (by omega)
  have e2:decide (i≥2 ^ 63)=false:=decide_eq_false (by omega)
  rw [e1,e2,Bool.or_false]) (by rw [h1];simpa using h2) ⟨.str ⟨#[c]⟩,H,I.tok _,⟨_,rfl⟩,q⟩) hs
theorem Inv.lst {pins:List (Addr×Obj)} {σ:St} {H:Hp} {s:Shared} {p:Addr} {xs:List V} (I:Inv X pins σ H s) (h:H p=some (.lst xs)) :
  ∃(its:List Value) (n:Nat),Vals xs its∧s.heap.get? p=some {cls:=.type "list",data:=.seq its.toArray n}∧xs.length≤sizeLine:=by
 obtain ⟨z,its,n,r,e⟩:=I.hok p _ h
 exact ⟨its,n,r,e,z⟩
theorem mK (lo hi:Option Int) (n:Nat):(sliceBounds lo hi none n).1=((HT.sIx n 0 lo:Nat):Int)∧(sliceBounds lo hi none n).2.1=((HT.sIx n n hi:Nat):Int)∧(sliceBounds lo hi none n).2.2=1:=by
 refine ⟨?_,?_,rfl⟩
 ·cases lo with
  |none=>simp [sliceBounds,HT.sIx]
  |some i =>
   simp only [sliceBounds,HT.sIx,Option.getD_none,show (1:Int)>0 by decide,if_true]
   by_cases h:i<0
   ·simp only [h,if_true]<;>omega
   ·simp only [h,if_false]<;>omega
 ·cases hi with
  |none=>simp [sliceBounds,HT.sIx]
  |some i =>
   simp only [sliceBounds,HT.sIx,Option.getD_none,show (1:Int)>0 by decide,if_true]
   by_cases h:i<0
   ·simp only [h,if_true]<;>omega
   ·simp only [h,if_false]<;>omega
theorem mI (its:List Value) (lo hi:Option Int):slicePick its.toArray lo hi none=((its.drop (HT.sIx its.length 0 lo)).take (HT.sIx its.length its.length hi - HT.sIx its.length 0 lo)).toArray:=by
 obtain ⟨h1,h2,h3⟩:=mK lo hi its.toArray.size
 unfold slicePick
 rw [h1,h2,h3]
 simp only [sliceRange_one,pick_run,List.size_toArray]<;>rfl
def iP (K:PySem.W.Frag):V→Option Int→Option Int→Hp→VK→Prop:=fun x lo hi H Q=>∃a xs,x=.ref a∧SqL K H a xs∧∀p,H p=none→Q (.ref p) (upd H p (.lst (kX xs lo hi)))
theorem qG:SlR X (iP X.K):=by
 intro pins s σ H x v vl vu lo hi sl Q I rx hs pl pu h
 obtain ⟨a,xs,rfl,hx,q⟩:=h
 cases rx
 obtain ⟨its,r,ht,hz⟩:=I.list hx
 have hlen:=r.length
 refine ⟨"list",_,slot_list_getitem.lookup,ht.isList.typeIs,?_⟩
 refine wpAny_getItem_list_slice ht.isList hs pl pu .none (by simp) ?_ (by rw [List.size_toArray]<;>omega)
 rw [mI,← hlen]
 refine ⟨.ref s.heap.objs.size,_,I.laid (t':=s.toks) (o:=.lst (kX xs lo hi)) (fun b ob q=>Heap.get?_push_of_some _ q) (Nat.le_refl _) ?_,rfl,q _ (I.hok.fresh (Nat.le_refl _))⟩
 exact ⟨Nat.le_trans (mW xs lo hi) hz,_,0,(r.drop (HT.sIx xs.length 0 lo)).take (HT.sIx xs.length xs.length hi - HT.sIx xs.length 0 lo),Heap.get?_push_size _ rfl⟩
def qD:V→Bool
 |.non=>true
 |.bl _=>true
 |.int _=>true
 |.str _=>true
 |_=>false
def qO:V→V→Bool
 |.non,.non=>true
 |.bl a,.bl b=>a == b
 |.bl a,.int b=>(if a then 1 else 0) == b
 |.int a,.bl b=>a == (if b then 1 else 0)
 |.int a,.int b=>a == b
 |.str a,.str b=>a == b
 |_,_=>false
theorem Q6 {A:Around} {s:Shared} {y x:V} {u v:Value} (ry:RelV y u) (rx:RelV x v) (fy:qD y=true) (fx:qD x=true):SeqAt.EqAt A s u v (qO y x):=by
 cases y with
 |non =>
  cases ry
  cases x with
  |non=>cases rx;exact SeqAt.EqAt.same _
  |bl b=>cases rx;exact SeqAt.EqAt.none_bool b
  |int b=>obtain ⟨t,rfl⟩:=rx;exact SeqAt.EqAt.none_int b t
  |str b=>obtain ⟨t,rfl⟩:=rx;exact SeqAt.EqAt.none_str b t
  |_=>exact absurd (show false=true from fx) Bool.false_ne_true
 |bl a =>
  cases ry
  cases x with
  |non=>cases rx;exact SeqAt.EqAt.bool_none a
  |bl b=>cases rx;exact SeqAt.EqAt.bool_bool a b
  |int b=>obtain ⟨t,rfl⟩:=rx;exact SeqAt.EqAt.bool_int a b t
  |str b=>obtain ⟨t,rfl⟩:=rx;exact SeqAt.EqAt.bool_str a b t
  |_=>exact absurd (show false=true from fx) Bool.false_ne_true
 |int a =>
  obtain ⟨t',rfl⟩:=ry
  cases x with
  |non=>cases rx;exact SeqAt.EqAt.int_none a t'
  |bl b=>cases rx;exact SeqAt.EqAt.int_bool a t' b
  |int b=>obtain ⟨t,rfl⟩:=rx;exact SeqAt.EqAt.int_int a t' b t
  |str b=>obtain ⟨t,rfl⟩:=rx;exact SeqAt.EqAt.int_str a t' b t
  |_=>exact absurd (show false=true from fx) Bool.false_ne_true
 |str a =>
  obtain ⟨t',rfl⟩:=ry
  cases x with
  |non=>cases rx;exact SeqAt.EqAt.str_none a t'
  |bl b=>cases rx;exact SeqAt.EqAt.str_bool a t' b
  |int b=>obtain ⟨t,rfl⟩:=rx;exact SeqAt.EqAt.str_int a t' b t
  |str b=>obtain ⟨t,rfl⟩:=rx;exact SeqAt.EqAt.str_str a t' b t
  |_=>exact absurd (show false=true from fx) Bool.false_ne_true
 |_=>exact absurd (show false=true from fy) Bool.false_ne_true
def v3 (x:V) (u:Value):Bool:=match u with
 |.none=>qO .non x
 |.bool b=>qO (.bl b) x
 |.int i _=>qO (.int i) x
 |.str z _=>qO (.str z) x
 |_=>false
theorem gY {x y:V} {u:Value} (r:RelV y u) (f:qD y=true):v3 x u=qO y x:=by
 cases y with
 |non=>cases r;rfl
 |bl b=>cases r;rfl
 |int i=>obtain ⟨t,rfl⟩:=r;rfl
 |str z=>obtain ⟨t,rfl⟩:=r;rfl
 |_=>exact absurd (show false=true from f) Bool.false_ne_true
theorem bQ {x:V}:∀{xs:List V} {us:List Value},Vals xs us→xs.all qD=true→us.any (v3 x)=xs.any fun y=>qO y x
 |_,_,.nil,_=>rfl
 |y::xs,u::us,.cons r t,f=>by
  rw [List.all_cons,Bool.and_eq_true] at f
  rw [List.any_cons,List.any_cons,gY r f.1,bQ t f.2]
theorem bH {A:Around} {s:Shared} {x:V} {v:Value} (rx:RelV x v) (fx:qD x=true):∀{xs:List V} {us:List Value},Vals xs us→xs.all qD=true→∀u∈us,SeqAt.EqAt A s u v (v3 x u)
 |_,_,.nil,_=>fun u hu=>by cases hu
 |y::xs,u::us,.cons r t,f=>fun u' hu=>by
  rw [List.all_cons,Bool.and_eq_true] at f
  rcases List.mem_cons.mp hu with rfl|hu
  ·rw [gY r f.1];exact Q6 r rx f.1 fx
  ·exact bH rx fx t f.2 u' hu
def ZL (x:V) (xs:List V):Bool:=xs.any fun y=>qO y x
def iZ (K:PySem.W.Frag) (neg:Bool):R2:=fun x y H Q=>∃p xs,y=.ref p∧(SqL K H p xs∨SqT K H p xs)∧qD x=true∧xs.all qD=true∧Q (.bl (if neg then !ZL x xs else ZL x xs)) H
theorem nZ:OpR X (compareOp .In) (iZ X.K false):=by
 intro pins s σ H x y v u Q I rx ry h
 obtain ⟨p,xs,rfl,hq,fx,fs,q⟩:=h
 cases ry
 rcases hq with hq|hq
 ·obtain ⟨its,r,pl,hz⟩:=I.list hq
  refine SeqAt.in_listAt (v3 x) pl.isList (fun w hw=>bH rx fx r fs w (by simpa using hw)) ⟨.bl _,H,I,rfl,?_⟩
  rw [show its.toArray.any (v3 x)=its.any (v3 x) by simp,bQ r fs]
  exact q
 ·obtain ⟨its,r,pl,hz⟩:=I.tuple hq
  refine SeqAt.in_tupleAt (v3 x) pl (fun w hw=>bH rx fx r fs w (by simpa using hw)) ⟨.bl _,H,I,rfl,?_⟩
  rw [show its.toArray.any (v3 x)=its.any (v3 x) by simp,bQ r fs]
  exact q
theorem vR:CallR X (.builtin "len") (fun xs H Q=>∃p ys,xs=[.ref p]∧(SqL X.K H p ys∨SqT X.K H p ys)∧Q (.int ys.length) H):=by
 intro pins s σ H xs us Q I r h
 obtain ⟨p,ys,rfl,hq,q⟩:=h
 obtain ⟨u,rfl,rx⟩:=yW r
 cases rx
 have hn:=JZ
 rcases hq with hq|hq
 ·obtain ⟨its,r',pl,hz⟩:=I.list hq
  have hlen:=r'.length
  exact Calls.call_len_list pl.isList (by simp only [List.size_toArray]<;>omega) ⟨.int ys.length,H,I.tok _,⟨s.toks+1,by rw [List.size_toArray,hlen]⟩,q⟩
 ·obtain ⟨its,r',pl,hz⟩:=I.tuple hq
  have hlen:=r'.length
  exact len_tuple pl (by simp only [List.size_toArray]<;>omega) ⟨.int ys.length,H,I.tok _,⟨s.toks+1,by rw [List.size_toArray,hlen]⟩,q⟩
theorem mL:CallR X (.builtin "len") (fun xs H Q=>∃z,xs=[.str z]∧z.length≤sizeLine∧Q (.int z.length) H):=by
 intro pins s σ H xs us Q I r h
 obtain ⟨z,rfl,hz,q⟩:=h
 obtain ⟨u,rfl,t,rfl⟩:=yW r
 have hn:=JZ
 exact len_str (by omega) ⟨.int z.length,H,I.tok _,⟨_,rfl⟩,q⟩
theorem CallR.or {f:Value} {r r':List V→Hp→VK→Prop} (h:CallR X f r) (h':CallR X f r'):CallR X f (fun xs H Q=>r xs H Q∨r' xs H Q):=by
 intro pins s σ H xs us Q I rs q
 rcases q with q|q
 ·exact h pins s σ H xs us Q I rs q
 ·exact h' pins s σ H xs us Q I rs q
theorem dC:CallR X (.type "tuple") (fun xs H Q=>∃p ys,xs=[.ref p]∧((SqL X.K H p ys∧∀l,H l=none→Q (.ref l) (upd H l (.tup ys)))∨(SqT X.K H p ys∧Q (.ref p) H))):=by
 intro pins s σ H xs us Q I r h
 obtain ⟨p,ys,rfl,h⟩:=h
 obtain ⟨u,rfl,rx⟩:=yW r
 cases rx
 rcases h with ⟨hq,q⟩|⟨hq,q⟩
 ·obtain ⟨its,r',pl,hz⟩:=I.list hq
  have hlen:=r'.length
  refine call_tuple_list pl.isList (fun h' kp=>?_) (by simp only [List.size_toArray]<;>omega)
  have I1:Inv X pins σ H {s with heap:=h'}:=I.kept (t':=s.toks) kp
  have I2:Inv X pins σ (upd H h'.objs.size (.tup ys)) {s with heap:=h'.push {cls:=.type "tuple",data:=.seq its.toArray}} :=
   I1.laid (t':=s.toks) (fun b o e=>Heap.get?_push_of_some _ e) (Nat.le_refl _) (show ObjOk X.prog X.w _ _ _ (.tup ys) from ⟨hz,its,r',IsTup.new _ _⟩)
  exact ⟨.ref h'.objs.size,_,I2,rfl,q _ (I1.hok.fresh (Nat.le_refl _))⟩
 ·obtain ⟨its,r',pl,hz⟩:=I.tuple hq
  exact call_tuple_same pl ⟨.ref p,H,I,rfl,q⟩
def cR (K:PySem.W.Frag) (T:String) (x:V) (H:Hp):Prop:=match x with
 |.str _=>T="str"
 |.int _=>T="int"
 |.ref p=>(T="list"∧∃xs,SqL K H p xs)∨(T="tuple"∧∃o,K.lookup p=some o∧o.cls=.type "tuple"∧o.dict=none)∨
   (T="dict"∧((∃kvs,H p=some (.dK kvs))∨∃kvs,H p=some (.dT kvs)))∨(T="set"∧∃S n,H p=some (.set S n))
 |_=>False
theorem gN {pins:List (Addr×Obj)} {σ:St} {H:Hp} {s:Shared} {T:String} {x:V} {v:Value} (I:Inv X pins σ H s) (r:RelV x v) (ty:cR X.K T x H) :
  s.TypeIs v T∧∀a,v=.ref a→∃ob,s.heap.get? a=some ob∧ob.dict=none:=by
 cases x with
 |str z =>
  obtain ⟨t,rfl⟩:=r
  cases (show T="str" from ty)
  exact ⟨typeIs_str s z t,fun _ e=>nomatch e⟩
 |int i =>
  obtain ⟨t,rfl⟩:=r
  cases (show T="int" from ty)
  exact ⟨typeIs_int s i t,fun _ e=>nomatch e⟩
 |ref p =>
  cases r
  rcases ty with ⟨rfl,xs,hq⟩|⟨rfl,o,hk,hc,hd⟩|⟨rfl,hk⟩|⟨rfl,S,n,hk⟩
  ·obtain ⟨its,_,pl,_⟩:=I.list hq
   refine ⟨pl.isList.typeIs,fun a e=>?_⟩
   cases e
   obtain ⟨o,n,e,c,hd,_⟩:=pl
   exact ⟨o,e,hd⟩
  ·refine ⟨⟨o,I.kIn p o hk,hc⟩,fun a e=>?_⟩
   cases e
   exact ⟨o,I.kIn _ o hk,hd⟩
  ·have z:∃o,s.heap.get? p=some o∧o.ExactDict:=by
    rcases hk with ⟨kvs,hk⟩|⟨kvs,hk⟩
    ·obtain ⟨_,_,_,_,o,_,_,e,ex,_⟩:=I.hok p _ hk
     exact ⟨o,e,ex⟩
    ·obtain ⟨_,_,_,_,o,_,_,e,ex,_⟩:=I.hok p _ hk
     exact ⟨o,e,ex⟩
   obtain ⟨o,e,ex⟩:=z
   refine ⟨⟨o,e,ex.1⟩,fun a e2=>?_⟩
   cases e2
   exact ⟨o,e,ex.2.1⟩
  ·obtain ⟨o,_,_,_,e,ex,_⟩:=I.hok p _ hk
   refine ⟨⟨o,e,ex.1⟩,fun a e2=>?_⟩
   cases e2
   exact ⟨o,e,ex.2.1⟩
 |_=>exact False.elim ty
def uG (K:PySem.W.Frag) (T:String) (r:V→List V→Hp→VK→Prop) (to:TE):TE:=fun σ H Q=>to σ H fun x H1=>cR K T x H1∧r x [] H1 Q
def iY (K:PySem.W.Frag) (T:String) (r:V→List V→Hp→VK→Prop) (to:TE) (t:TA):TE:=fun σ H Q=>to σ H fun x H1=>cR K T x H1∧t σ H1 fun xs H2=>r x xs H2 Q
variable {o e:Expr} {es:List Expr} {to:TE} {t:TA} {name:Str} {apos cpos:Pos} {T id:String} {r:V→List V→Hp→VK→Prop}
theorem sM (pa:PlainAttrs T) (slot:Slot T name id) (hty:typeOf (.builtin id)=pure (.type "method_descriptor")) (hm:MtR X id r) (ho:PE X o to)
  (hbase:attributeBase o name X.env (eval o X.env)=eval o X.env:=by rfl) (hline:(apos.endLine == cpos.line)=true:=by rfl):PE X (.Call (.Attribute o name apos) [] [] cpos) (uG X.K T r to):=by
 intro pins s σ H Q I h
 refine wpAny_Call_method0_late hbase hline (jD (ho pins s σ H _ I h) fun v s1 ⟨x,H1,I1,r1,ty,q1⟩=>?_)
 obtain ⟨h1,h2⟩:=gN I1 r1 ty
 exact ⟨T,id,pa,slot,hty,h1,h2,Calls.callWith_builtin rfl (PySem.evalArgs_none (hm pins s1 σ H1 x [] v [] Q I1 r1 .nil q1))⟩
theorem qT (pa:PlainAttrs T) (slot:Slot T name id) (hty:typeOf (.builtin id)=pure (.type "method_descriptor")) (hm:MtR X id r) (ho:PE X o to) (ha:PA X (e::es) t)
  (hbase:attributeBase o name X.env (eval o X.env)=eval o X.env:=by rfl)
  (hfew:((backTo cpos (starEach (e::es) X.env)).all (fun x => !x.1)&&(backToKw cpos (keywordEach [] X.env)).all (fun x=>x.1.isSome)
   && decide ((e::es).length+([]:List Keyword).length+(if ([]:List Keyword).isEmpty then 0 else 1)<30))=true:=by rfl)
  (hline:(apos.endLine == cpos.line)=true:=by rfl) (hs:starEach (e::es) X.env=(false,eval e X.env)::starEach es X.env:=by rfl) (hplain:(backTo cpos (starEach es X.env)).any (·.1)=false:=by rfl) :
  PE X (.Call (.Attribute o name apos) (e::es) [] cpos) (iY X.K T r to t):=by
 intro pins s σ H Q I h
 refine wpAny_Call_method_late hbase hfew hline rfl (jD (ho pins s σ H _ I h) fun v s1 ⟨x,H1,I1,r1,ty,q1⟩=>?_)
 obtain ⟨h1,h2⟩:=gN I1 r1 ty
 refine ⟨T,id,pa,slot,hty,h1,h2,?_⟩
 have hA:=ha cpos pins s1 σ H1 _ I1 q1
 rw [hs] at hA ⊢
 refine Calls.callWith_builtin (by show (false||(backTo cpos (starEach es X.env)).any (·.1))=false;rw [hplain]<;>rfl) (Calls.evalArgs_plain ?_)
 exact jD hA fun us s2 ⟨vs,H2,I2,r2,q2⟩=>hm pins s2 σ H2 x vs v us Q I2 r1 r2 q2
/- xs.append(e),list.index on a module's tuple .. are MtR facts of 06m -/
end
end L2
namespace L2
open PySem PySem.Spec PyProof.Rows
def QE (X:Cx) (id:String) (r:V→List V→Hp→VK→Prop):Prop :=
 ∀(pins:List (Addr×Obj)) (s:Shared) (σ:St) (H:Hp) (x:V) (xs:List V) (v:Value) (us:List Value) (Q:VK),Inv X pins σ H s→RelV x v→Vals xs us→r x xs H Q→
  wpAny (model X.prog X.w) X.A (call (.builtin id) (v::us)) (EP X pins σ Q) X.xe s
theorem Vals.one:∀{x:V} {us:List Value},Vals [x] us→∃u,us=[u]∧RelV x u
 |_,_,.cons r .nil=>⟨_,rfl,r⟩
theorem Vals.two:∀{x y:V} {us:List Value},Vals [x,y] us→∃u v,us=[u,v]∧RelV x u∧RelV y v
 |_,_,_,.cons r (.cons q .nil)=>⟨_,_,rfl,r,q⟩
theorem Vals.rep {xs:List V} {us:List Value} (h:Vals xs us):∀k:Nat,Vals (List.replicate k xs).flatten (List.replicate k us).flatten
 |0=>.nil
 |k+1=>by
  rw [List.replicate_succ,List.replicate_succ,List.flatten_cons,List.flatten_cons]
  exact Vals.append h (Vals.rep h k)
theorem eD (its:List Value):∀(k:Nat) (acc:List Value),
  List.foldl (fun x1 x2=>x1++x2) acc.toArray (List.replicate k its.toArray)=(acc++(List.replicate k its).flatten).toArray
 |0,acc=>by simp
 |k+1,acc=>by
  have e:acc.toArray++its.toArray=(acc++its).toArray:=by simp
  have e2:(acc++its)++(List.replicate k its).flatten=acc++(List.replicate (k+1) its).flatten:=by
   rw [List.replicate_succ,List.flatten_cons,List.append_assoc]
  rw [← e2,← eD its k (acc++its),← e,List.replicate_succ,List.foldl_cons]
section
variable {X:Cx} {pins:List (Addr×Obj)} {σ:St} {H:Hp} {s:Shared} {l b:Addr} {xs ys zs:List V}
theorem Inv.lset {its its':List Value} {n:Nat} {f:Array Value→Array Value} {t':Nat} (I:Inv X pins σ H s) (hH:H l=some (.lst xs))
  (e:s.heap.get? l=some {cls:=.type "list",data:=.seq its.toArray n}) (hf:f its.toArray=its'.toArray) (hv:Vals ys its') (hz:ys.length≤sizeLine) :
  Inv X pins σ (upd H l (.lst ys)) {s with heap:=s.heap.update l (Obj.mapSeq f),toks:=t'}:=by
 have q:=PySem.IsL.update e f
 rw [hf] at q
 refine I.write (x:=l) (e:=l) (by rw [hH];exact trivial) (.inl rfl) (fun b' u hb hu=>(Heap.get?_update_other s.heap (Obj.mapSeq f) (Ne.symm hb)).trans hu) ⟨_,q⟩ ?_
 exact ⟨hz,its',_,hv,q⟩
theorem Inv.lnew {its:List Value} {t':Nat} (I:Inv X pins σ H s) (hv:Vals ys its) (hz:ys.length≤sizeLine) :
  Inv X pins σ (upd H s.heap.objs.size (.lst ys)) {s with heap:=s.heap.push {cls:=.type "list",data:=.seq its.toArray},toks:=t'} :=
 I.laid (fun _ _ q=>Heap.get?_push_of_some _ q) (Nat.le_refl _) ⟨hz,its,0,hv,Heap.get?_push_size _ rfl⟩
theorem Inv.fresh (I:Inv X pins σ H s):H s.heap.objs.size=none:=I.hok.fresh (Nat.le_refl _)
theorem Inv.lstM (I:Inv X pins σ H s) (hH:H l=some (.lst xs)):xs.length≤sizeLine∧∃(its:List Value) (n:Nat),Vals xs its∧xs.length=its.length∧s.heap.get? l=some {cls:=.type "list",data:=.seq its.toArray n}:=by
 obtain ⟨z,its,n,r,e⟩:=I.hok l _ hH
 exact ⟨z,its,n,r,r.length,e⟩
theorem pL {n:Nat} (h:n≤sizeLine):Builtin.List.listTooLong n=false:=by
 unfold Builtin.List.listTooLong
 exact decide_eq_false (by omega)
end
section
variable {X:Cx}
def rD:V→List V→Hp→VK→Prop:=fun x vs H Q=>∃l xs y,x=.ref l∧vs=[y]∧H l=some (.lst xs)∧xs.length<sizeLine∧Q .non (upd H l (.lst (xs++[y])))
theorem yP:QE X "list.append" rD:=by
 intro pins s σ H x vs v us Q I rx rv h
 obtain ⟨l,xs,y,rfl,rfl,hH,hz,q⟩:=h
 cases rx
 obtain ⟨u,rfl,ru⟩:=rv.one
 obtain ⟨z,its,n,r,hl,e⟩:=I.lstM hH
 refine call_meets F.slot_list_append ⟨_,e,rfl⟩ F.entry_list_append (F.args_list_append_2 _ _) (PySem.list_append l its.toArray n u (by rw [List.size_toArray];omega)) ⟨e,?_⟩
 refine ⟨.non,_,I.lset (its':=its++[u]) hH e (by simp) (r.append (.cons ru .nil)) ?_,rfl,q⟩
 rw [List.length_append,List.length_singleton]
 omega
def iQ:R2:=fun x y H Q=>∃l b xs zs,x=.ref l∧y=.ref b∧H l=some (.lst xs)∧H b=some (.lst zs)∧xs.length+zs.length≤sizeLine∧∀p,H p=none→Q (.ref p) (upd H p (.lst (xs++zs)))
theorem vP:OpR X (binaryOp .Add) iQ:=by
 intro pins s σ H x y v u Q I rx ry h
 obtain ⟨l,b,xs,zs,rfl,rfl,hH,hB,hz,q⟩:=h
 cases rx
 cases ry
 obtain ⟨z,its,n,r,hl,e⟩:=I.lstM hH
 obtain ⟨z2,its2,n2,r2,hl2,e2⟩:=I.lstM hB
 refine PySem.P.add_list e e2 ?_ (by rw [List.size_toArray,List.size_toArray];omega)
 have ea:its.toArray++its2.toArray=(its++its2).toArray:=by simp
 rw [ea]
 exact ⟨.ref _,_,I.lnew (t':=s.toks) (r.append r2) (by rw [List.length_append];omega),rfl,q _ I.fresh⟩
def uJ:R2:=fun x y H Q=>∃l k xs,x=.ref l∧y=.int k∧H l=some (.lst xs)∧-(2 ^ 63)≤k∧k<2 ^ 63∧xs.length*k.toNat≤sizeLine∧
 ∀p,H p=none→Q (.ref p) (upd H p (.lst (List.replicate k.toNat xs).flatten))
theorem rM {α:Type} (xs:List α) (k:Nat):(List.replicate k xs).flatten.length=k*xs.length:=by
 induction k with
 |zero=>simp
 |succ k ih=>rw [List.replicate_succ,List.flatten_cons,List.length_append,ih,Nat.succ_mul,Nat.add_comm]
theorem gS:OpR X (binaryOp .Mult) uJ:=by
 intro pins s σ H x y v u Q I rx ry h
 obtain ⟨l,k,xs,rfl,rfl,hH,h1,h2,hz,q⟩:=h
 cases rx
 obtain ⟨t,rfl⟩:=ry
 obtain ⟨z,its,n,r,hl,e⟩:=I.lstM hH
 have hlen:its.toArray.size*k.toNat≤sizeLine:=by rw [List.size_toArray,← hl];exact hz
 have hcap:¬its.toArray.size*k.toNat>(2 ^ 63 - 1) / 8:=by
  have:(sizeLine:Nat)≤(2 ^ 63 - 1) / 8:=by decide
  omega
 have hfit:¬(!Builtin.List.listFitsIndex k)=true:=by
  rw [fitsIndex_both h1 h2]
  exact Bool.false_ne_true
 have hlong:¬Builtin.List.listTooLong (its.toArray.size*k.toNat)=true:=by
  rw [pL hlen]
  exact Bool.false_ne_true
 have hnew:List.foldl (fun x1 x2=>x1++x2) #[] (List.replicate (if its.toArray.isEmpty=true then 0 else k.toNat) its.toArray)=(List.replicate k.toNat its).flatten.toArray:=by
  have f0:∀m:Nat,List.foldl (fun x1 x2=>x1++x2) #[] (List.replicate m its.toArray)=(List.replicate m its).flatten.toArray:=fun m=>by
   have:=eD its m []
   rw [List.nil_append] at this
   exact this
  rw [f0]
  cases its with
  |nil=>simp
  |cons a r'=>rw [if_neg (by simp)]
 refine wpAny_binaryOp_repeat_ref (T:="list") (U:="int") (by decide) ⟨_,e,rfl⟩ (fun s'=>typeIs_int s' k t) noFill_list_mul F.fills_int_mul F.slot_int_rmul repeat_list F.slot_int_index.lookup
  (call_meets F.slot_int_rmul (typeIs_int s k t) F.entry_int_rmul (F.args_int_rmul_2 _ _) (int___rmul___int_list k t l its.toArray n)
   ⟨e,rfl,⟨_,e,rfl⟩,call_meets F.slot_list_mul ⟨_,e,rfl⟩ F.entry_list_mul (F.args_list_mul_2 _ _) (AutoListH.list___mul___list_int_3 l its.toArray n k t hfit hcap hlong) ⟨e,?_⟩⟩)
 rw [hnew]
 exact ⟨.ref _,_,I.lnew (t':=s.toks) (r.rep k.toNat) (by rw [rM,Nat.mul_comm];exact hz),rfl,q _ I.fresh⟩
end
section
variable {prog:Program} {w:World} {A:Around} {E:Value→Shared→Prop} {s:Shared}
end
section
variable {X:Cx}
end
end L2
namespace Att
open PySem PySem.W PySem.Calls PyProof.Rows
theorem mE {P:Params} {h:Heap}:∀(ns:List Int) (vs:List Value),WellAll P h vs (ns.map WData.int)→IntsAre vs ns:=by
 intro ns
 induction ns with
 |nil =>
  intro vs w
  rw [List.map_nil] at w
  cases w
  exact .nil
 |cons n ns ih =>
  intro vs w
  rw [List.map_cons] at w
  cases w with
  |cons a b =>
   cases a
   exact .cons _ _ (ih _ b)
theorem nU {l:OpenLaw} {n:Nat} (hn:l.most=some n) {P:Params} {h:Heap} {args:List WData} {vals:List Value}
  (hpre:l.row.toRowW.claim.pre args=true) (hwl:WellAll P h vals args) :
  ∃a vs ns,vals=[Value.ref a]∧args=[WData.list (ns.map WData.int)]∧h.get? a=some {cls:=.type "list",data:=.seq vs.toArray}∧IntsAre vs ns∧ns.length≤n:=by
 have hsh:WShape.hasAll [] args [.list .int]=true:=(pre_splitW hpre).1
 have hc:l.pre.holds [] {args:=args}=true:=(pre_splitW hpre).2
 obtain ⟨d,r,rfl,h1,h2⟩:=hasAllW_cons hsh
 obtain rfl:=hasAllW_nil h2
 obtain ⟨xs,rfl,h3⟩:=hasW_list h1
 obtain ⟨ns,rfl⟩:=items_int h3
 have hlen:ns.length≤n:=by
  unfold OpenLaw.pre at hc
  have h4:(WTm.not (.lt (.lit (.int (n:Int))) (.len (.arg 0)))).holds [] {args:=[.list (ns.map .int)]}=true:=by
   have h4:=(holds_andW hc).1
   rw [hn] at h4
   exact h4
  have h5:=condW_of h4 (w_not (w_lt w_lit (w_len_list (w_arg rfl))))
  rw [List.length_map] at h5
  refine Nat.le_of_not_lt fun q=>?_
  have q':(n:Int)<((ns.length:Nat):Int):=by omega
  first
   | (rw [decide_eq_true q'] at h5;exact absurd h5 (by decide))
   | (simp at h5;omega)
 cases hwl with
 |cons w1 w2 =>
  cases w2
  cases w1 with
  |list ho hall=>exact ⟨_,_,ns,rfl,rfl,ho,mE ns _ hall,hlen⟩
theorem nV (l:OpenLaw) (args:List WData):l.row.toRowW.claim.post args (.bool true) args=true :=
 postW_of (r:=l.row.toRowW) (X:=(true == true))
  (show WShape.has [] (.bool true) .bool=true by first|rfl|decide|simp [WShape.has,WShape.arms,WShape.armsAll])
  (show (WTm.eq .res (.lit (.bool true))).value [] {args:=args,res:=some (.bool true),after:=args}=some (.bool (true == true)) from w_eq_bool (w_res rfl) w_lit) rfl
theorem attach_call {l:OpenLaw} {n:Nat} {q:Program} {loose:List Str} {XP:(Str→Option Value)→Heap→Prop} {YP:World→Heap→Prop} {d:DefRec}
  (hn:l.most=some n) (hdf:d.params.defaults=[])
  (call:∀(w:World) (s₀ s₁:Shared) (mg mb:Str→Option Value) (fa:Addr) (o:Obj) (pm cd doc:Value) (a:Addr) (vs:List Value) (ns:List Int),
   Ground q loose [] XP w s₀ mg mb s₁.heap→YP w s₁.heap→
   s₁.heap.get? fa=some o→o.data=.func (docDef d.name d.params d.body d.scope pm cd doc)→s₁.heap.CodeRec cd d.name→mg d.name=some (.ref fa)→
   s₁.heap.get? a=some {cls:=.type "list",data:=.seq vs.toArray}→IntsAre vs ns→ns.length≤n→s₁.gens = #[]→
   codeAny (model l.prog w) callerA (.call (.ref fa) ⟨[.ref a],[]⟩) (fun r s'=>r=.ok (.ret (.bool true))∧OldK s₁.heap s'.heap∧s'.os=s₁.os∧AllBare s'.gens) s₁) :
  WalkO q loose XP YP l.row.toRowW d [] (fun f vs=>PySem.call f vs):=by
 intro w s₀ s₁ mg mb G Y fa o pm cd doc dV kV ho hd hcd hD hmg hg args vals as hpre hlay hrd hwl hlo
 obtain rfl:dV=.none:=Dflts.none hD hdf
 obtain rfl:kV=.none:=Dflts.noKw hD
 obtain ⟨a,vs,ns,rfl,rfl,hobj,hints,hlen⟩:=nU hn hpre hwl
 refine enter_call (codeAny_mono (call w s₀ s₁ mg mb fa o pm cd doc a vs ns G Y ho (fd_plain hd) hcd hmg hobj hints hlen hg) fun r s' hq=>?_)
 obtain ⟨rfl,h2,h3,h4⟩:=hq
 exact ⟨.inl ⟨.bool true,.bool true,[],rfl,fun _=>rfl,.bool true,nV l _,fun _=>⟨List.Pairwise.nil,fun _ hm=>(nomatch hm)⟩⟩,h2,h3,h4⟩
section
variable {prog:Program} {w:World} {A:Around} {E:Value→Shared→Prop} {s:Shared} {K:Frag}
def u7 (h:Heap) (L d:Addr):List (Addr×Obj):=(List.range h.objs.size).filterMap fun a=>if a=L∨a=d then none else (h.get? a).map fun o=>(a,o)
end
end Att
namespace L2
open PySem PySem.Spec PyProof.Rows
theorem dP:∀{vs:List Value} {ns:List Int},IntsAre vs ns→Vals (ns.map V.int) vs
 |_,_,.nil=>.nil
 |_,_,.cons n t h=>.cons ⟨t,rfl⟩ (dP h)
def cP (H:Hp):Prop:=∀b,H b=none∨∃o xs,H b=some (.frz o (.lst xs))
theorem pN {P:Program} {w:World} {K:PySem.W.Frag} {mg mb:Str→Option Value} {CX:vC} {k:Nat} {fa a:Addr} {fd:FuncData} {x:Str} {sp:Sp} {s₁:Shared} {vs:List Value} {ns:List Int}
  (KX:K.In s₁.heap) (hns:s₁.heap.Ns mainGlobals mg) (hb:s₁.heap.Ns builtinsNs mb) (hbb:∀x:Str,x≠"__name__"→mb x=bootBuiltins x) (hlim:s₁.heap.NoLimit) (hg:s₁.gens = #[])
  (ha:s₁.heap.get? a=some {cls:=.type "list",data:=.seq vs.toArray}) (hi:IntsAre vs ns) (hl:ns.length≤sizeLine) (hr:Room k callerA)
  (F:∀base:Heap,K.In base→base.Ns mainGlobals mg→FnOk P w K mg base CX k fa fd [x] sp) (hbind:∀(s:Shared) (u:Value),BindsTo s fd ⟨[u],[]⟩ [(x,u)])
  (hsp:∀H:Hp,cP H→SqL K H a (ns.map V.int)→sp [.ref a] H (fun v _=>v=.bl true) fun _ _ _=>False)
  (hCX:∀H e s',CX [] H s₁ (fun _ _ _=>False) e s'→False) :
  codeAny (model P w) callerA (.call (.ref fa) ⟨[.ref a],[]⟩) (fun r s'=>r=.ok (.ret (.bool true))∧OldK s₁.heap s'.heap∧s'.os=s₁.os∧AllBare s'.gens) s₁:=by
 have rv:=dP hi
 have lenV:=hi.length
 have core:∀H:Hp,cP H→SqL K H a (ns.map V.int)→HOk P w H s₁.heap→(∀b,H b≠none→b=a)→(H a≠none→K.lookup a=none)→
   codeAny (model P w) callerA (.call (.ref fa) ⟨[.ref a],[]⟩) (fun r s'=>r=.ok (.ret (.bool true))∧OldK s₁.heap s'.heap∧s'.os=s₁.os∧AllBare s'.gens) s₁:=by
  intro H hO hS hok hA hK
  have base_of:∀{b:Addr} {o:Obj},s₁.heap.get? b=some o→H b=none→(v1 s₁.heap H).get? b=some o:=fun e n=>pP e n
  have noA:∀{b:Addr} {o:Obj} {es:Array DictEntry} {ep:Nat},s₁.heap.get? b=some o→o.data=.dict es ep→H b=none:=fun {b o es ep} e d=>by
   cases q:H b with
   |none=>rfl
   |some u =>
    have e':b=a:=hA b (by rw [q];simp)
    subst e'
    rw [ha] at e;cases e
    have d':Data.seq vs.toArray _=Data.dict es ep:=d
    cases d'
  have nsK:∀{b:Addr} {m:Str→Option Value},s₁.heap.Ns b m→(v1 s₁.heap H).Ns b m:=fun {b m} ⟨o,es,ep,e,d,r⟩=>⟨o,es,ep,base_of e (noA e d),d,r⟩
  have hKb:K.In (v1 s₁.heap H):=fun b o e=>base_of (KX b o e) (by
   cases q:H b with
   |none=>rfl
   |some u =>
    have e':b=a:=hA b (by rw [q];simp)
    subst e'
    rw [hK (by rw [q];simp)] at e;cases e)
  have hM:Mod K mg (v1 s₁.heap H):=⟨hKb,nsK hns,⟨mb,nsK hb,hbb⟩,let ⟨mc,h1,h2⟩:=hlim;⟨mc,nsK h1,h2⟩⟩
  have e0:Env0 P w K mg (v1 s₁.heap H) callerA [] s₁ H:=⟨rfl,hM,fun b o e=>rH e,Nat.le_of_eq (oM _ _),trivial,fun b hb=>absurd (show b∈([]:List Addr) from hb) (by simp),hok,.of_eq hg⟩
  refine codeAny_mono ((F _ hKb (nsK hns)).run callerA [] s₁ H ⟨[.ref a],[]⟩ [.ref a] [.ref a] _ _ hr e0 (hbind s₁ (.ref a)) (.cons rfl .nil) (hsp H hO hS)) fun r s' h=>?_
  cases r with
  |error e=>exact (hCX H e s' h).elim
  |ok fl =>
   cases fl with
   |next=>exact False.elim h
   |brk=>exact False.elim h
   |cont=>exact False.elim h
   |ret u =>
    obtain ⟨v,H',os,bare,un,hok',r',q⟩:=h
    have q':v=.bl true:=q
    subst q'
    obtain rfl:u=Value.bool true:=r'
    refine ⟨rfl,OldK.of_keep fun b o e=>?_,os,bare⟩
    cases q:H b with
    |none=>exact un.keep b o e q (by intro z;exact absurd (show b∈([]:List Addr) from z) (by simp)) (by simp)
    |some u =>
     rcases hO b with z|⟨ob,xs,z⟩
     ·rw [q] at z;cases z
     ·have z2:=un.frzs b ob _ z
      obtain ⟨e1,_⟩:=hok b _ z
      obtain ⟨e2,_⟩:=hok' b _ z2
      rw [e] at e1;cases e1
      exact e2
 cases hk:K.lookup a with
 |some o =>
  have e:=KX a o hk
  rw [ha] at e
  cases e
  refine core (fun _=>none) (fun _=>.inl rfl) (.inr ⟨_,vs.toArray,_,hk,rfl,rfl,rfl,by rw [List.size_toArray,lenV];exact hl,by simpa using rv⟩) (fun b u z=>by have z':(none:Option HO)=some u:=z;cases z') (fun b z=>absurd rfl z) fun z=>absurd rfl z
 |none =>
  refine core (fun b=>if b=a then some (.frz {cls:=.type "list",data:=.seq vs.toArray} (.lst (ns.map V.int))) else none) (fun b=>?_) (.inl (.inr ⟨{cls:=.type "list",data:=.seq vs.toArray},if_pos rfl⟩)) (fun b u z=>?_) (fun b z=>?_) fun _=>hk
  ·by_cases hb:b=a
   ·exact .inr ⟨_,_,if_pos hb⟩
   ·exact .inl (if_neg hb)
  ·by_cases hb:b=a
   ·have z':=(if_pos hb).symm.trans z
    cases z'
    subst hb
    exact ⟨ha,by rw [List.length_map];exact hl,vs,_,rv,ha⟩
   ·have z':=(if_neg hb).symm.trans z
    cases z'
  ·by_cases hb:b=a
   ·exact hb
   ·exact absurd (if_neg hb) z
end L2
namespace L2
open PySem PySem.Spec PyProof.Rows
abbrev KOf {K:PySem.W.Frag} {h:Heap} (_:K.In h):PySem.W.Frag:=K
theorem walk_of {l:PySem.W.OpenLaw} {n k:Nat} {q:Program} {loose:List Str} {XP:(Str→Option Value)→Heap→Prop} {YP:World→Heap→Prop} {d:DefRec} {K:Params→PySem.W.Frag} {CX:World→vC} {sp:World→Sp} {x:Str}
  (hn:l.most=some n) (hn2:n≤sizeLine) (hdf:d.params.defaults=[]) (hr:Room k callerA)
  (hY:∀(w:World) (h:Heap),YP w h→(K w.params).In h)
  (F:∀(w:World) (mg:Str→Option Value) (fa:Addr) (h:Heap),(K w.params).In h→h.Ns mainGlobals mg→mg d.name=some (.ref fa)→
   ∃fd:FuncData,(∀(s:Shared) (u:Value),BindsTo s fd ⟨[u],[]⟩ [(x,u)])∧
    ∀base:Heap,(K w.params).In base→base.Ns mainGlobals mg→FnOk l.prog w (K w.params) mg base (CX w) k fa fd [x] (sp w))
  (hsp:∀(w:World) (H:Hp) (a:Addr) (ns:List Int),ns.length≤n→cP H→SqL (K w.params) H a (ns.map V.int)→sp w [.ref a] H (fun v _=>v=.bl true) fun _ _ _=>False)
  (hCX:∀(w:World) (H:Hp) (s:Shared) (e:Value) (s':Shared),CX w [] H s (fun _ _ _=>False) e s'→False) :
  PySem.W.WalkO q loose XP YP l.row.toRowW d [] (fun f vs=>PySem.call f vs):=by
 refine Att.attach_call hn hdf fun w s₀ s₁ mg mb fa o pm cd doc a vs ns G Y ho hd hcd hmg hobj hints hlen hg=>?_
 have KX:=hY w _ Y
 obtain ⟨fd,hb,hF⟩:=F w mg fa _ KX G.T.g hmg
 exact pN KX G.T.g G.T.b G.T.builtins G.T.nolimit hg hobj hints (Nat.le_trans hlen hn2) hr hF hb (fun H hO hS=>hsp w H a ns hlen hO hS) fun H e s'=>hCX w H s₁ e s'
end L2
/- THE LAST THEOREM (shape;LID,My.* are yours):
  My.Adr: a structure of the addresses that your layer names (classes,functions);My.Txt K t: a structure (Prop) of the equations over K;
  My.txt_mk:{K} {implicit addresses ..} (e1:nsIn K mainGlobals "law"=some (some (.ref f))) (e2:K.lookup f=some ⟨oc,od,.func (fnOf "law" "law" params body scope dV kV doc pm an cdv ct),sl⟩) (e3:codeIn K cdv "law"=true) .. : ∃t,My.Txt K t
set_option maxRecDepth 100000 in
set_option maxHeartbeats 0 in
theorem PySem.Challenge.cw_LID_holds : PySem.Challenge.rw_LID.Holds := by
 w_on;o_law;k_head;(case hw=>w_witness2)
 k_fill
 refine L2.walk_of (l:=PySem.Challenge.rw_LID) (n:=63) (k:=40) (x:="script") (CX:=fun w=>..) (sp:=fun _=>My.sp_law) rfl (by decide) rfl ⟨rfl,by decide,by decide⟩ (fun w h Y=>PySem.W.kIn_of Y) ?F ?S ?C
 case F =>
  intro w mg fa h KX G hmg
  have T:∃t,My.Txt (L2.KOf KX) t:=by
   dsimp only [L2.KOf] -- K must stand as «<heap const> w.params» for k_is
   refine' My.txt_mk ?e1 ?e2 ?e3 ..
   (case e1=>PySem.W.k_is) -- in the order: a name -> its address -> its object -> its parts
   (case e2=>PySem.W.k_is)
   ..
  obtain ⟨t,T⟩:=T
  have e0:=hmg.symm.trans (PySem.W.mg_of KX G T.law)
  cases e0 -- fa is the law's own address
  exact ⟨_,fun s u=>.of_eq rfl,fun base kb nb=>My.law_fn T kb nb⟩ -- if «.of_eq rfl» comes too early: refine' ⟨_,?b,fun base kb nb=>My.law_fn T kb nb⟩;exact fun s u=>.of_eq rfl
 case S=>exact fun w H a ns hl hO hS=>..
 case C=>exact ..
(the tactic k_is has no namespace: write k_is) -/
namespace L2
open PySem PySem.Spec PyProof.Rows
def j9 (s:Stmt):Arguments:=match s with
 |.FunctionDef _ a _ _ _ _ _ _ _ _=>a
 |_=>{posonlyargs:=[],args:=[],vararg:=none,kwonlyargs:=[],kw_defaults:=[],kwarg:=none,defaults:=[]}
def jY (s:Stmt):List Stmt:=match s with
 |.FunctionDef _ _ b _ _ _ _ _ _ _=>b
 |_=>[]
def jH (s:Stmt):Scope:=match s with
 |.FunctionDef _ _ _ _ _ _ sc _ _ _=>sc
 |_=>{kind:=.function,names:=[],isGenerator:=false,isCoroutine:=false}
abbrev kS:vC:=fun _ _ _ _ _ _=>False
abbrev E0:XK:=fun _ _ _=>False
theorem tQ {X:Cx}:cC kS X E0:=fun _ _ _ _ _ _ _ h=>h.elim
structure Fun (K:PySem.W.Frag) (x qual:Str) (st:Stmt) (f:Addr) (fd:FuncData):Prop where
 ex:∃(oc:Value) (od:Option Addr) (kV doc pm:Value) (an:Option Addr) (cdv ct:Value) (osl:Array (Option Value)),
  fd=PySem.W.fnOf x qual (j9 st) (jY st) (jH st) .none kV doc pm an cdv ct∧K.lookup f=some ⟨oc,od,.func fd,osl⟩∧PySem.W.codeIn K cdv qual=true
 kp:PySem.W.keepIn K (.ref f)=true
section
variable {P:Program} {w:World} {K:PySem.W.Frag} {mg:Str→Option Value} {base:Heap}
theorem Fun.ok {x qual:Str} {st:Stmt} {f:Addr} {fd:FuncData} {N ps:List Str} {k:Nat} {sp:Sp} (F:Fun K x qual st f fd) (S:FnScope N ps (jH st)) (len:∀vs H Q E,sp vs H Q E→vs.length=ps.length)
  (hbody:∀(cdv:Value) (A:Around) (outer:List Env) (s:Shared) (H:Hp) (vs:List V) (Q:VK) (E:XK),Room k (A.deeper (envOfC qual (jH st) s.heap.objs.size f cdv))→sp vs H Q E→
   ∃t,PSs (j3 kS P w K mg base N qual (jH st) f cdv A outer s H E).nox (jY st) t∧t {nx:=fun _ H'=>Q .non H',rt:=Q} (vY N vs) H):FnOk P w K mg base kS (k+1) f fd ps sp:=by
 obtain ⟨oc,od,kV,doc,pm,an,cdv,ct,osl,rfl,lk,hcd⟩:=F.ex
 refine iH lk hcd S len fun A outer s H vs Q E hr hsp=>?_
 obtain ⟨t,h,q⟩:=hbody cdv A outer s H vs Q E hr hsp
 exact ⟨t,h.nox,q⟩
theorem Fun.binds {x qual:Str} {st:Stmt} {f:Addr} {fd:FuncData} {ps:List Str} (F:Fun K x qual st f fd)
  (h:∀(kV doc pm:Value) (an:Option Addr) (cdv ct:Value) (us:List Value),us.length=ps.length→bindArgs (PySem.W.fnOf x qual (j9 st) (jY st) (jH st) .none kV doc pm an cdv ct) ⟨us,[]⟩=pure (ps.zip us)):Binds K fd ps []:=by
 obtain ⟨oc,od,kV,doc,pm,an,cdv,ct,osl,rfl,lk,hcd⟩:=F.ex
 exact .all (h kV doc pm an cdv ct)
theorem kH {x qual:Str} {st:Stmt} {f:Addr} {oc:Value} {od an:Option Addr} {osl:Array (Option Value)} {kV doc pm cdv ct:Value} (l:K.lookup f=some ⟨oc,od,.func (PySem.W.fnOf x qual (j9 st) (jY st) (jH st) .none kV doc pm an cdv ct),osl⟩)
  (c:PySem.W.codeIn K cdv qual=true) (k:PySem.W.keepIn K (.ref f)=true):Fun K x qual st f (PySem.W.fnOf x qual (j9 st) (jY st) (jH st) .none kV doc pm an cdv ct):=⟨⟨oc,od,kV,doc,pm,an,cdv,ct,osl,rfl,l,c⟩,k⟩
end
theorem kJ {A:Around} {k:Nat} (hr:Room k A):A.units+1<cLine:=Nat.lt_of_le_of_lt (Nat.add_le_add_left (by decide:1≤64) _) hr.units
theorem vM {n:Nat} (h:n≤1000):n<sizeLine:=Nat.lt_of_le_of_lt h (by decide)
section
variable {X:Cx}
theorem pv (i:Nat) {x:Str} {pos:Pos} (hN:X.N[i]?=some x:=by rfl) (hv:ZM X.env.scope x:=by first|exact Or.inl rfl|exact Or.inr (Or.inl rfl)|exact Or.inr (Or.inr rfl)) (hd:(x == ("__debug__":Str))=false:=by decide)
  (hcd:(x == ("__classdict__":Str))=false:=by decide):PE X (.Name x pos) (iN i):=sK hN hv hd hcd
end
theorem qK {A B:Prop} (h:B):if false=true then A else B:=by
 rw [if_neg Bool.false_ne_true]
 exact h
theorem kG {A B:Prop} (h:A):if true=true then A else B:=by
 rw [if_pos rfl]
 exact h
theorem ZH {c A B:Prop} [Decidable c] (h1:c→A) (h2:¬c→B):if c then A else B:=by
 by_cases h:c
 ·rw [if_pos h]
  exact h1 h
 ·rw [if_neg h]
  exact h2 h
theorem ZC {c A B:Prop} [Decidable c] (hc:c) (h:B):if (!decide c)=true then A else B:=by
 rw [decide_eq_true hc]
 exact qK h
def Same (H H':Hp):Prop:=∀b o,H b=some o→H' b=some o
theorem Same.refl (H:Hp):Same H H:=fun _ _ h=>h
theorem Same.trans {H H1 H2:Hp} (a:Same H H1) (b:Same H1 H2):Same H H2:=fun c o h=>b c o (a c o h)
theorem Same.free {H H':Hp} (e:Same H H') {l:Addr} (h:H' l=Option.none):H l=Option.none:=by
 cases q:H l with
 |none=>rfl
 |some o =>
  rw [e l o q] at h
  cases h
theorem Same.seq {K:PySem.W.Frag} {H H':Hp} {a:Addr} {xs:List V} (e:Same H H') (h:SqL K H a xs):SqL K H' a xs:=by
 rcases h with (h|⟨o,h⟩)|h
 ·exact .inl (.inl (e _ _ h))
 ·exact .inl (.inr ⟨o,e _ _ h⟩)
 ·exact .inr h
end L2
namespace L2
open PySem PySem.Spec PyProof.Rows
def kO (cells:List (Str×Addr)):List (Str×NameKind)→List (Str×Addr)→List (Str×Addr)
 |[],cs=>cs
 | (n,k)::r,cs=>if (k == NameKind.free)=true then kO cells r ((n,(cells.lookup n).getD 0)::cs) else kO cells r cs
theorem ZQ {scope:Scope} {env:Env} (h:∀x∈scope.names,x.2=.free→∃c,env.cells.lookup x.1=some c):closureFor scope env=pure (kO env.cells scope.names []):=by
 simp only [closureFor]
 have go:∀(l:List (Str×NameKind)) (cs:List (Str×Addr)),(∀x∈l,x.2=.free→∃c,env.cells.lookup x.1=some c)→
   (forIn l cs fun x r=>match x with|(name,kind)=>if (kind == NameKind.free)=true then do let a ← cellOf env name;pure (ForInStep.yield ((name,a)::r)) else pure (ForInStep.yield r):Sem (List (Str×Addr)))=pure (kO env.cells l cs):=by
  intro l
  induction l with
  |nil=>intro cs _;rfl
  |cons p r ih =>
   intro cs hp
   obtain ⟨n,k⟩:=p
   rw [List.forIn_cons]
   have hr:=fun cs=>ih cs fun x hx=>hp x (List.mem_cons_of_mem _ hx)
   by_cases hk:(k == NameKind.free)=true
   ·have hk':k=NameKind.free:=by simpa using hk
    obtain ⟨c,hc⟩:=hp (n,k) List.mem_cons_self hk'
    have hc':env.cells.lookup n=some c:=hc
    simp only [hk,if_true,kO,cellOf,hc',Option.getD_some,pure_bind]
    exact hr _
   ·simp only [hk,if_false,kO,pure_bind]
    exact hr _
 rw [go scope.names [] h]
 rfl
theorem JI {cells:List (Str×Addr)}:∀{l:List (Str×NameKind)} {cs:List (Str×Addr)} {x:Str} {c:Addr},(∀y∈l,y.2=.free→∃c,cells.lookup y.1=some c)→(∀y d,cs.lookup y=some d→cells.lookup y=some d)→
  (kO cells l cs).lookup x=some c→cells.lookup x=some c
 |[],cs,x,c,_,hc,e=>hc x c e
 | (n,k)::r,cs,x,c,hl,hc,e=>by
  unfold kO at e
  by_cases hk:(k == NameKind.free)=true
  ·rw [if_pos hk] at e
   obtain ⟨d,hd⟩:=hl (n,k) List.mem_cons_self (by simpa using hk)
   have hd':cells.lookup n=some d:=hd
   refine JI (fun y hy=>hl y (List.mem_cons_of_mem _ hy)) (fun y d' q=>?_) e
   rw [List.lookup_cons] at q
   by_cases hy:(y == n)=true
   ·rw [hy] at q
    have hyn:y=n:=by simpa using hy
    subst hyn
    rw [hd'] at q ⊢
    exact q
   ·rw [Bool.not_eq_true] at hy
    rw [hy] at q
    exact hc y d' q
  ·rw [if_neg hk] at e
   exact JI (fun y hy=>hl y (List.mem_cons_of_mem _ hy)) hc e
theorem ZW {cells:List (Str×Addr)}:∀{l:List (Str×NameKind)} {cs:List (Str×Addr)} {x:Str},(∃c,cs.lookup x=some c)→∃c,(kO cells l cs).lookup x=some c
 |[],_,_,h=>h
 | (n,k)::r,cs,x,h=>by
  unfold kO
  by_cases hk:(k == NameKind.free)=true
  ·rw [if_pos hk]
   refine ZW ?_
   rw [List.lookup_cons]
   by_cases hy:(x == n)=true
   ·rw [hy];exact ⟨_,rfl⟩
   ·rw [Bool.not_eq_true] at hy
    rw [hy];exact h
  ·rw [if_neg hk];exact ZW h
theorem QM {cells:List (Str×Addr)}:∀{l:List (Str×NameKind)} {cs:List (Str×Addr)} {x:Str},(x,NameKind.free)∈l→∃c,(kO cells l cs).lookup x=some c
 | (n,k)::r,cs,x,h=>by
  unfold kO
  rcases List.mem_cons.mp h with e|e
  ·cases e
   rw [if_pos (by rfl)]
   exact ZW (by rw [List.lookup_cons,beq_self_eq_true];exact ⟨_,rfl⟩)
  ·by_cases hk:(k == NameKind.free)=true
   ·rw [if_pos hk];exact QM e
   ·rw [if_neg hk];exact QM e
theorem o0 {prog:Program} {w:World} {A:Around} {elt target iter:Expr} {ifs:List Expr} {scope:Scope} {pos:Pos} {it acc:Value} {env:Env} {R:Result→Shared→Prop} {s:Shared} (I:Nat→Shared→Prop)
  (turn:∀n s,I n s→wpAny (model prog w) A (pyNext it) (fun r s₁=>match r with
   |none=>R (.ok .next) s₁
   |some v=>wpAny (model prog w) A (letOwnedTupleGo target it v) (fun _ s₁'=>wpAny (model prog w) A (assign target env v) (fun _ s₂ =>
     wpAny (model prog w) A (forIn ifs true fun c r=>if r=true then do let ok ← isTrue c env (eval c env);pure (ForInStep.yield ok) else pure (ForInStep.yield r)) (fun ok s₃ =>
      if ok=true then wpAny (model prog w) A (eval elt env) (fun x s₄ =>
       wpAny (model prog w) A (call (.builtin "list.append") [acc,x]) (fun _ s₅=>∃m,m<n∧I m s₅) (fun _ _=>False) s₄) (fun _ _=>False) s₃
      else ∃m,m<n∧I m s₃) (fun _ _=>False) s₂) (fun _ _=>False) s₁') (fun _ _=>False) s₁) (fun _ _=>False) s)
  (n:Nat) (h:I n s):codeAny (model prog w) A (.compLoop (.ListComp elt [⟨target,iter,ifs,0⟩] scope pos) 0 it acc env) R s:=by
 refine codeAny_loop rfl I (fun n s hI=>?_) n h
 show wpAny _ A ((compTurn (.ListComp elt [⟨target,iter,ifs,0⟩] scope pos) 0 it acc env).onRaise (fun x=>do noteFrame x env;theTreesLotGoes x)) _ _ s
 refine wpAny_noted ?_
 rw [compTurn_list]
 refine wpAny_bind (wpAny_standAt (wpAny_bind (wpAny_mono (turn n s hI) (fun r s₁ h₁=>?_) fun _ _ h'=>h'.elim)))
 cases r with
 |none=>exact wpAny_pure h₁
 |some v =>
  refine wpAny_bind (wpAny_mono h₁ (fun _ s₁' h₁'=>?_) fun _ _ h'=>h'.elim)
  refine wpAny_bind (wpAny_mono h₁' (fun _ s₂ h₂=>wpAny_bind (wpAny_mono h₂ (fun ok s₃ h₃=>?_) fun _ _ h'=>h'.elim)) fun _ _ h'=>h'.elim)
  cases ok with
  |false=>exact wpAny_pure ⟨rfl,h₃⟩
  |true =>
   exact wpAny_bind (wpAny_bind (wpAny_mono h₃ (fun x s₄ h₄=>wpAny_bind (wpAny_mono h₄ (fun _ s₅ h₅=>wpAny_pure (wpAny_pure ⟨rfl,h₅⟩)) fun _ _ h'=>h'.elim)) fun _ _ h'=>h'.elim))
def jQ (X:Cx) (N:List Str) (scope:Scope) (C:Addr) (s:Shared) (H:Hp) (pins:List (Addr×Obj)) (fp:List Addr):Cx where
 prog:=X.prog
 w:=X.w
 K:=X.K
 mg:=X.mg
 base:=X.base
 A:=X.A
 N:=N
 s₀:=s
 H₀:=H
 env:=compEnvC scope (kO X.env.cells scope.names []) C X.env
 outer:=X.stack
 stack:=X.stack
 ex:=fp
 fn:=fun _=>false
 calm:=X.calm
 pn:=X.pn++pins
 xe:=fun _ _=>False
structure CompScope (X:Cx) (scope:Scope):Prop where
 kind:scope.kind=.function
 nocell:∀y∈scope.names,y.2≠.cell
 names:∀y∈scope.names,y.2=.local→scope.names.lookup y.1=some .local
 free:∀y∈scope.names,y.2=.free→X.env.kindOf y.1=some .cell∨X.env.kindOf y.1=some .free
theorem ZP {env:Env} {x:Str}:∀{names:List (Str×NameKind)} {k:NameKind},(names.map fun (n,k)=>if (k == NameKind.free&&env.scope.kind == .function&&env.kindOf n == some .cell) then (n,NameKind.cell) else (n,k)).lookup x=some k→
  ∃k',names.lookup x=some k'∧(k'=k∨(k'=.free∧k=.cell∧env.kindOf x=some .cell))
 |[],k,h=>by simp at h
 | (n,k0)::r,k,h=>by
  have ih:=@ZP env x r k
  have h':List.lookup x ((if (k0 == NameKind.free&&env.scope.kind == .function&&env.kindOf n == some .cell)=true then (n,NameKind.cell) else (n,k0))::r.map fun (n,k)=>if (k == NameKind.free&&env.scope.kind == .function&&env.kindOf n == some .cell)=true then (n,NameKind.cell) else (n,k))=some k:=h
  by_cases hc:(k0 == NameKind.free&&env.scope.kind == .function&&env.kindOf n == some .cell)=true
  ·rw [if_pos hc] at h'
   rw [List.lookup_cons] at h'
   cases hx:x == n with
   |true =>
    rw [hx] at h'
    have hk:NameKind.cell=k:=Option.some.inj h'
    simp only [Bool.and_eq_true,beq_iff_eq] at hc
    have hxn:x=n:=by simpa using hx
    refine ⟨k0,by rw [List.lookup_cons,hx],.inr ⟨hc.1.1,hk.symm,by rw [hxn];exact hc.2⟩⟩
   |false =>
    rw [hx] at h'
    obtain ⟨k',e1,e2⟩:=ih h'
    exact ⟨k',by rw [List.lookup_cons,hx];exact e1,e2⟩
  ·rw [if_neg hc] at h'
   rw [List.lookup_cons] at h'
   cases hx:x == n with
   |true =>
    rw [hx] at h'
    exact ⟨k0,by rw [List.lookup_cons,hx],.inl (Option.some.inj h')⟩
   |false =>
    rw [hx] at h'
    obtain ⟨k',e1,e2⟩:=ih h'
    exact ⟨k',by rw [List.lookup_cons,hx];exact e1,e2⟩
theorem ZS {α:Type}:∀{l:List (Str×α)} {x:Str} {k:α},l.lookup x=some k→(x,k)∈l
 |[],_,_,h=>by simp at h
 | (n,a)::r,x,k,h=>by
  rw [List.lookup_cons] at h
  cases hx:x == n with
  |true =>
   rw [hx] at h
   have e:a=k:=Option.some.inj h
   have hxn:x=n:=by simpa using hx
   subst e;subst hxn
   exact List.mem_cons_self
  |false =>
   rw [hx] at h
   exact List.mem_cons_of_mem _ (ZS h)
def zB (X:Cx) (ifs:List Expr) (t:TT):Prop :=
 ∀(pins:List (Addr×Obj)) (s:Shared) (σ:St) (H:Hp) (Q:Bool→Hp→Prop),Inv X pins σ H s→t σ H Q→
  wpAny (model X.prog X.w) X.A (forIn ifs true fun c r=>if r=true then do let ok ← isTrue c X.env (eval c X.env);pure (ForInStep.yield ok) else pure (ForInStep.yield r)) (TP X pins σ Q) X.xe s
def iM:TT:=fun _ H Q=>Q true H
theorem vS {X:Cx}:zB X [] iM:=fun _ _ _ H _ I h=>wpAny_tests_nil ⟨H,I,h⟩
theorem rE {X:Cx} {c:Expr} {t:TT} (hc:PT X c t):zB X [c] t:=fun pins s σ H Q I h=>wpAny_tests_one (hc pins s σ H Q I h)
def vX (D:Addr) (J:It) (g:TG) (tc:TT) (te:TE) (σ₀:St) (H:Hp) (Q:Hp→Prop):Prop :=
 ∃W:Nat→Nat→St→Hp→Prop,(∃m,W 0 m σ₀ (upd H D (.lst [])))∧∀i m σ' H',W i m σ' H'→
  (J.stop i H'∧Q H')∨(J.go i H'∧∃N:St→Hp→Prop,(∀σ'' H'',N σ'' H''→∃m',m'<m∧W (i+1) m' σ'' H'')∧∀x H2,J.yld i H' x H2→g x σ' H2 fun σ2 H3=>tc σ2 H3 fun b H4 =>
   if b=true then te σ2 H4 fun v H5=>∃xs,H5 D=some (.lst xs)∧xs.length<sizeLine∧N σ2 (upd H5 D (.lst (xs++[v]))) else N σ2 H4)
def iA (wi:TI) (cap:St→St) (g:TG) (tc:TT) (te:TE):TE:=fun σ H Q=>wi σ H fun J H1=>∀D,H1 D=none→vX D J g tc te (cap σ) H1 fun H'=>Q (.ref D) H'
def pA (i:Nat) (wi:TI) (cap:St→St) (g:TG) (tc:TT) (te:TE):TS:=fun D σ H=>wi σ H fun J H1=>∀d,H1 d=none→vX d J g tc te (cap σ) H1 fun H'=>D.nx (σ.set i (some (.ref d))) H'
def yD (X:Cx) (N:List Str) (scope:Scope) (cap:St→St):Prop :=
 ∀σ:St,σ.length=X.N.length→(cap σ).length=N.length∧∀(i:Nat) (x:Str) (v:V),N[i]?=some x→(cap σ)[i]?=some (some v)→scope.names.lookup x=some .free∧∃j:Nat,X.N[j]?=some x∧σ[j]?=some (some v)
def qN (n:Nat) (js:List Nat):St→St:=fun σ=>List.replicate n none++js.map fun j=>(σ[j]?).join
theorem vD {X:Cx} {N:List Str} {scope:Scope} (n:Nat) (js:List Nat) (h1:N.length=n+js.length) (h2:js.map (fun j=>X.N[j]?)=(N.drop n).map some) (h3:∀x∈N.drop n,scope.names.lookup x=some .free):yD X N scope (qN n js):=by
 intro σ hσ
 refine ⟨by unfold qN;rw [List.length_append,List.length_replicate,List.length_map,h1],fun i x v e1 e2=>?_⟩
 unfold qN at e2
 by_cases hi:i<n
 ·rw [List.getElem?_append_left (by simpa using hi),List.getElem?_replicate,if_pos hi] at e2
  cases e2
 ·rw [List.getElem?_append_right (by simpa using hi),List.length_replicate,List.getElem?_map] at e2
  cases hj:js[i - n]? with
  |none=>rw [hj] at e2;cases e2
  |some j =>
   rw [hj] at e2
   have e3:(σ[j]?).join=some v:=Option.some.inj e2
   have e4:σ[j]?=some (some v):=by
    cases q:σ[j]? with
    |none=>rw [q] at e3;cases e3
    |some o =>
     rw [q] at e3
     have e5:o=some v:=e3
     rw [e5]
   have hd:(N.drop n)[i - n]?=some x:=by
    rw [List.getElem?_drop,show n+(i - n)=i by omega]
    exact e1
   have e5:=congrArg (fun l=>l[i - n]?) h2
   simp only [List.getElem?_map,hj,hd,Option.map_some] at e5
   exact ⟨h3 x (List.mem_of_getElem? hd),j,Option.some.inj e5,e4⟩
theorem vL {X:Cx} {scope:Scope} (sc:Scope) (hsc:X.env.scope=sc) (kind:scope.kind=.function) (nocell:∀y∈scope.names,y.2≠.cell) (names:∀y∈scope.names,y.2=.local→scope.names.lookup y.1=some .local)
  (free:∀y∈scope.names,y.2=.free→sc.names.lookup y.1=some .cell∨sc.names.lookup y.1=some .free):CompScope X scope:=⟨kind,nocell,names,fun y hy hf=>by
 subst hsc
 exact free y hy hf⟩
section
variable {X:Cx} {N:List Str} {scope:Scope} {pins:List (Addr×Obj)} {σ:St} {H:Hp} {s:Shared} {fp:List Addr}
theorem zS (S:CompScope X scope) (I:Inv X pins σ H s):∀y∈scope.names,y.2=.free→∃c,X.env.cells.lookup y.1=some c:=fun y hy hf=>I.ok.has y.1 (S.free y hy hf)
theorem fM {cap:St→St} {D C:Addr} {h₁:Heap} {t':Nat} {m:Str→Option Value} (S:CompScope X scope) (I:Inv X pins σ H s) (hcap:yD X N scope cap) (hf:∀b∈fp,qU X pins H b) (hfo:∀b∈fp,∃o,s.heap.get? b=some o)
  (hD:s.heap.objs.size≤D) (hC:s.heap.objs.size≤C) (hDC:D≠C) (old:∀b o,s.heap.get? b=some o→h₁.get? b=some o) (hns:h₁.Ns C m) (hl:h₁.get? D=some {cls:=.type "list",data:=.seq ([]:List Value).toArray}) :
  Inv (jQ X N scope C s H pins fp) [] (cap σ) (upd H D (.lst [])) {s with heap:=h₁,toks:=t'}:=by
 have cellsOk:=zS S I
 have look:∀x c,(kO X.env.cells scope.names []).lookup x=some c→X.env.cells.lookup x=some c:=fun x c e=>JI cellsOk (fun y d q=>by simp at q) e
 have lt:∀{b:Addr} {o:Obj},s.heap.get? b=some o→b<s.heap.objs.size:=fun e=>Heap.lt_size e
 have cellLt:∀x c,X.env.cells.lookup x=some c→c<s.heap.objs.size:=fun x c e=>by
  obtain ⟨v,o,ho,_⟩:=I.cell x c e
  exact lt ho
 have nD:H D=none:=I.hok.fresh hD
 have nC:H C=none:=I.hok.fresh hC
 have stkNe:∀b:Addr,b≠X.env.locals→b∉X.fs→b∉jM X.stack:=fun b h1 h2 z=>by
  rcases List.mem_cons.mp (I.stkSub b z) with e|e
  ·exact h1 e
  ·exact h2 e
 refine ⟨⟨I.ok.mod,S.kind,I.ok.glob,I.ok.blt,hC,fun x y c h1 h2=>I.ok.inj x y c (look x c h1) (look y c h2),fun x hx=>?_,fun x c hfn _=>(nomatch hfn),I.ok.hd,I.ok.frames,.inl rfl,fun b hb=>⟨?_,fun x c e=>(hf b hb).2.2.2.2.1 x c (look x c e)⟩,
   I.bs,Nat.le_trans I.ok.bsz I.sz,fun b o e hb=>?_,fun b hb=>stkNe b (hf b hb).2.1 (hf b hb).2.2.1,I.stack,I.stkFree⟩,
  rfl,I.bare,Un.laid old hD nD,⟨m,hns,fun i x v h1 h2 h3=>?_⟩,fun x c e=>?_,?_,fun x c e=>?_,fun p hp=>?_,?_,(hcap σ I.len).1⟩
 ·-- has
  have hx':∃k,(relabel scope X.env).names.lookup x=some k∧(k=.cell∨k=.free):=by
   rcases hx with e|e
   ·exact ⟨_,e,.inl rfl⟩
   ·exact ⟨_,e,.inr rfl⟩
  obtain ⟨k,e,hk⟩:=hx'
  obtain ⟨k',e1,e2⟩:=ZP e
  have hm:=ZS e1
  have hfree:k'=.free:=by
   rcases e2 with e2|e2
   ·subst e2
    rcases hk with hk|hk
    ·subst hk
     exact absurd rfl (S.nocell _ hm)
    ·exact hk
   ·exact e2.1
  subst hfree
  exact QM hm
 ·obtain ⟨o,ho⟩:=hfo b hb
  exact Nat.ne_of_lt (Nat.lt_of_lt_of_le (lt ho) hC)
 ·rcases (hf b hb).2.2.2.1 with z|z
  ·exact I.ok.noex b o e z
  ·exact absurd (Nat.lt_of_lt_of_le (Heap.lt_size e) (Nat.le_trans I.ok.bsz z)) (Nat.lt_irrefl _)
 ·-- names
  obtain ⟨hfr,j,hj,hv⟩:=(hcap σ I.len).2 i x v h1 h2
  have hm:=ZS hfr
  have hk:=S.free _ hm rfl
  obtain ⟨m0,_,hl0⟩:=I.loc
  have vis:ZM X.env.scope x:=by
   rcases hk with k|k
   ·exact .inr (.inl k)
   ·exact .inr (.inr k)
  obtain ⟨u,r,l⟩:=hl0 j x v hj hv vis
  refine ⟨u,r,.inr ⟨?_,?_⟩⟩
  ·have hvis:∃k,(relabel scope X.env).names.lookup x=some k:=by
    rcases h3 with e|e|e<;>exact ⟨_,e⟩
   obtain ⟨k,e⟩:=hvis
   obtain ⟨k',e1,e2⟩:=ZP e
   rw [hfr] at e1
   cases e1
   rcases e2 with e2|e2
   ·subst e2;exact .inr e
   ·rw [e2.2.1] at e;exact .inl e
  ·rcases l with ⟨k,_⟩|⟨_,c,hc,hcell⟩
   ·exfalso
    rcases hk with q|q
    ·have q':X.env.kindOf x=some .cell:=q
     rw [k] at q';cases q'
    ·have q':X.env.kindOf x=some .free:=q
     rw [k] at q';cases q'
   ·obtain ⟨c',e'⟩:=QM (cells:=X.env.cells) (cs:=[]) hm
    have e2:=look x c' e'
    have e2':X.env.cells.lookup x=some c':=e2
    rw [hc] at e2'
    cases e2'
    obtain ⟨o,ho,hd⟩:=hcell
    exact ⟨c,e',o,old _ _ ho,hd⟩
 ·obtain ⟨v,o,ho,hd⟩:=I.cell x c (look x c e)
  exact ⟨v,o,old _ _ ho,hd⟩
 ·show upd H D (.lst []) C=none
  rw [jP (Ne.symm hDC)]
  exact nC
 ·have hc:=look x c e
  rw [jP (Nat.ne_of_lt (Nat.lt_of_lt_of_le (cellLt x c hc) hD))]
  exact I.freeC x c hc
 ·have hp':p∈X.pn++pins:=by
   rcases List.mem_append.mp hp with z|z
   ·exact z
   ·cases z
  obtain ⟨e,n,ne,nf,d⟩:=I.pin p hp'
  refine ⟨old _ _ e,?_,Nat.ne_of_lt (Nat.lt_of_lt_of_le (lt e) hC),stkNe p.1 ne nf,d⟩
  rw [jP (Nat.ne_of_lt (Nat.lt_of_lt_of_le (lt e) hD))]
  exact n
 ·refine I.hok.laid old hD ?_
  exact ⟨Nat.zero_le _,[],0,.nil,hl⟩
theorem QP {σ':St} {H':Hp} {s':Shared} {C:Addr} {σc:St} {Nc:List Str} (I:Inv X pins σ H s) (hf:∀b∈fp,qU X pins H b) (J:Inv (jQ X Nc scope C s H pins fp) [] σc H' s'):Inv X pins σ H' s':=by
 refine I.call' (ch:=fp) J.os J.base J.hok J.bare fun b hb=>?_
 obtain ⟨_,h2,_,h4,h5,h6⟩:=hf b hb
 exact ⟨h4,h2,h5,h6⟩
theorem bK {σ':St} {H':Hp} {s':Shared} {C:Addr} {h':Heap} (I:Inv X pins σ H s) (hC:s.heap.objs.size≤C) (J:Inv X pins σ' H' s') (hn:H' C=none) (sb:Heap.SameBut C s'.heap h'):Inv X pins σ' H' {s' with heap:=h'}:=by
 refine J.turned (t':=s'.toks) (it:=C) (fun b o hb e=>(sb.2 b hb).trans e) hn (Nat.ne_of_gt (Nat.lt_of_lt_of_le I.lt hC)) (.inr (Nat.le_trans I.sz hC)) (fun x c e z=>?_) fun p hp z=>?_
 ·obtain ⟨v,q⟩:=I.cell x c e
  exact absurd (Nat.lt_of_lt_of_le q.lt (by rw [z];exact hC)) (Nat.lt_irrefl _)
 ·exact absurd (Nat.lt_of_lt_of_le (Heap.lt_size (I.pin p hp).1) (by rw [z];exact hC)) (Nat.lt_irrefl _)
theorem fL {tg iter elt:Expr} {ifs:List Expr} {pos:Pos} {cap:St→St} {g:TG} {tc:TT} {te:TE} {J:It} {it:Addr} {tn:Nat→Heap→Prop} {Q:Addr→Hp→Prop} {RR:Value→Addr→Result→Shared→Prop}
  (hcalm:X.calm=true) (S:CompScope X scope) (hcap:yD X N scope cap) (I:Inv X pins σ H s) (T:Turn X.prog X.w X.K tg J fp it tn) (st:tn 0 s.heap) (hf:∀b∈fp,qU X pins H b)
  (hg:∀C,PG (jQ X N scope C s H pins fp) tg g) (hc:∀C,zB (jQ X N scope C s H pins fp) ifs tc) (he:∀C,PE (jQ X N scope C s H pins fp) elt te)
  (hq:∀D,H D=none→vX D J g tc te (cap σ) H (Q D))
  (hRR:∀D C σc H' s',s.heap.objs.size≤C→Inv (jQ X N scope C s H pins fp) [] σc H' s'→Q D H'→RR (.ref D) C (.ok .next) s') :
  wpAny (model X.prog X.w) X.A (newList []) (fun acc s₃=>wpAny (model X.prog X.w) X.A (newFunctionEnv scope X.env.globals (kO X.env.cells scope.names []) [] X.env.qual none .none (some X.env)) (fun cenv s₄ =>
   codeAny (model X.prog X.w) X.A (.compStart (.ListComp elt [⟨tg,iter,ifs,0⟩] scope pos) 0 (.ref it) acc {cenv with scope:=relabel scope X.env}) (RR acc cenv.locals) s₄) X.xe s₃) X.xe s:=by
 refine wpAny_newObj_type (wpAny_newFunctionEnv S.nocell (by intro y hy;simp at hy) (fun h₁ hns₁ hsb₁=>?_) S.kind)
 dsimp only at hns₁ hsb₁ ⊢
 generalize hH2:s.heap.push {cls:=.type "list",dict:=none,data:=.seq ([]:List Value).toArray}=H2 at hns₁ hsb₁ ⊢
 have hC:H2.objs.size=s.heap.objs.size+1:=by rw [← hH2,Heap.size_push]
 have hDC:s.heap.objs.size≠H2.objs.size:=by rw [hC];exact Nat.ne_of_lt (Nat.lt_succ_self _)
 have hCle:s.heap.objs.size≤H2.objs.size:=by rw [hC];exact Nat.le_succ _
 have below:∀b,b<s.heap.objs.size→b≠H2.objs.size:=fun b hb=>by rw [hC];exact Nat.ne_of_lt (Nat.lt_succ_of_lt hb)
 have old:∀b o,s.heap.get? b=some o→h₁.get? b=some o:=fun b o e=>hsb₁.extBut b o (below b (Heap.lt_size e)) (Heap.get?_push_of_some _ (hH2▸Heap.get?_push_of_some _ e))
 have hacc:h₁.get? s.heap.objs.size=some {cls:=.type "list",data:=.seq ([]:List Value).toArray}:=hsb₁.extBut _ _ hDC (Heap.get?_push_of_some _ (hH2▸Heap.get?_push_size _ rfl))
 have obj0:=T.obj 0 s.heap st
 have I1:∀t',Inv (jQ X N scope H2.objs.size s H pins fp) [] (cap σ) (upd H s.heap.objs.size (.lst [])) {s with heap:=h₁,toks:=t'}:=fun t' =>
  fM S I hcap hf (fun b hb=>let ⟨o,e,_⟩:=obj0 b hb;⟨o,e⟩) (Nat.le_refl _) hCle hDC old hns₁ hacc
 have st1:tn 0 h₁:=T.keep 0 s.heap h₁ st fun b _ o e=>old b o e
 have stat:∀{H':Hp},(∀b∈fp,H' b=none)→∀b∈fp,qU (jQ X N scope H2.objs.size s H pins fp) [] H' b:=fun hn b hb=>by
  obtain ⟨_,h2,h3,h4,h5,h6⟩:=hf b hb
  obtain ⟨o,ho,_⟩:=obj0 b hb
  refine ⟨hn b hb,below b (Heap.lt_size ho),?_,.inl hb,fun x c e=>h5 x c (JI (zS S I) (fun y d q=>by simp at q) e),fun p hp=>?_⟩
  ·intro z
   rcases List.mem_cons.mp (I.stkSub b z) with e|e
   ·exact h2 e
   ·exact h3 e
  ·rcases List.mem_append.mp hp with z|z
   ·exact h6 p z
   ·cases z
 have fr1:∀b∈fp,upd H s.heap.objs.size (.lst []) b=none:=fun b hb=>by
  obtain ⟨o,ho,_⟩:=obj0 b hb
  rw [jP (Nat.ne_of_lt (Heap.lt_size ho))]
  exact (hf b hb).1
 obtain ⟨W,⟨m0,w0⟩,turn⟩:=hq s.heap.objs.size (I.hok.fresh (Nat.le_refl _))
 have loop:∀s₃:Shared,s₃={s with heap:=h₁,toks:=s.toks+([]:List (Str×Value)).length}→
   codeAny (model X.prog X.w) X.A (.compLoop (.ListComp elt [⟨tg,iter,ifs,0⟩] scope pos) 0 (.ref it) (.ref s.heap.objs.size) (compEnvC scope (kO X.env.cells scope.names []) H2.objs.size X.env))
    (RR (.ref s.heap.objs.size) H2.objs.size) s₃:=by
  rintro s₃ rfl
  refine o0 (fun n s'=>∃i σ' H',Inv (jQ X N scope H2.objs.size s H pins fp) [] σ' H' s'∧tn i s'.heap∧(∀b∈fp,H' b=none)∧W i n σ' H') ?_ m0 ⟨0,cap σ,_,I1 _,st1,fr1,w0⟩
  rintro n s3 ⟨i,σ3,H3,I3,st3,fr3,w3⟩
  rcases turn i n σ3 H3 w3 with ⟨stop,qn⟩|⟨go,Nn,hN,step⟩
  ·refine jD (T.done (jQ X N scope H2.objs.size s H pins fp) rfl rfl rfl hcalm i [] s3 σ3 H3 (fun _ _=>False) I3 (stat fr3) st3 stop) fun r s4 ⟨hr,I4⟩=>?_
   subst hr
   exact hRR _ _ σ3 H3 s4 hCle I4 qn
  ·refine jD (T.item (jQ X N scope H2.objs.size s H pins fp) rfl rfl rfl hcalm i [] s3 σ3 H3 (fun _ _=>False) I3 (stat fr3) st3 go) fun r s4 ⟨u,hr,h4⟩=>?_
   subst hr
   refine jD h4 fun _ s5 ⟨x,H5,I5,r5,y5,st5,fr5⟩=>?_
   have I5':=I5.pinned (stat fr5) (T.obj _ _ st5)
   have again:∀{σ7:St} {H7:Hp} {s7:Shared},Inv (jQ X N scope H2.objs.size s H pins fp) ([]++z0 fp s5.heap) σ7 H7 s7→Nn σ7 H7→
     ∃m,m<n∧∃i σ' H',Inv (jQ X N scope H2.objs.size s H pins fp) [] σ' H' s7∧tn i s7.heap∧(∀b∈fp,H' b=none)∧W i m σ' H':=fun {σ7 H7 s7} I7 n7=>by
    obtain ⟨m',hm,w7⟩:=hN σ7 H7 n7
    refine ⟨m',hm,i+1,σ7,H7,I7.unpinned,T.keep _ _ _ st5 fun b hb o e=>(I7.pin (b,o) (List.mem_append_right _ (List.mem_append_right _ (zR hb e)))).1,fun b hb=>?_,w7⟩
    obtain ⟨o,e,d⟩:=T.obj _ _ st5 b hb
    exact (I7.pin (b,o) (List.mem_append_right _ (List.mem_append_right _ (zR hb e)))).2.1
   refine jD (hg _ _ s5 σ3 H5 x u _ I5' r5 (step x H5 y5)) fun _ s6 ⟨σ6,H6,I6,q6⟩=>?_
   refine jD (hc _ _ s6 σ6 H6 _ I6 q6) fun ok s7 ⟨H7,I7,q7⟩=>?_
   cases ok with
   |false=>exact again I7 q7
   |true =>
    refine jD (he _ _ s7 σ6 H7 _ I7 q7) fun v s8 ⟨y,H8,I8,r8,xs,hD8,hz8,n8⟩=>?_
    refine jD (yP _ s8 σ6 H8 (.ref s.heap.objs.size) [y] (.ref s.heap.objs.size) [v] (fun _ H9=>Nn σ6 H9) I8 rfl (.cons r8 .nil) ⟨_,_,_,rfl,rfl,hD8,hz8,n8⟩) fun _ s9 ⟨_,H9,I9,_,n9⟩=>?_
    exact again I9 n9
 exact codeAny_compStart_list (loop _ rfl) (wpAny_mono (T.self X.A 0 _ (fun v s'=>v=.ref it∧s'=_) (fun _ _=>False) st1 ⟨rfl,rfl⟩) (fun v s' ⟨e1,e2⟩=>by subst e1;subst e2;exact loop _ rfl) fun _ _ z=>z.elim)
theorem yR {tg iter elt:Expr} {ifs:List Expr} {pos:Pos} {wi:TI} {g:TG} {tc:TT} {te:TE} (N:List Str) (cap:St→St) (hcalm:X.calm=true) (S:CompScope X scope) (hcap:yD X N scope cap) (hi:PI X tg iter wi)
  (hg:∀C s H pins fp,PG (jQ X N scope C s H pins fp) tg g) (hc:∀C s H pins fp,zB (jQ X N scope C s H pins fp) ifs tc) (he:∀C s H pins fp,PE (jQ X N scope C s H pins fp) elt te)
  (hs:∀x,foldedSetIterable iter X.env x=pure x:=by intro _;rfl):PE X (.ListComp elt [⟨tg,iter,ifs,0⟩] scope pos) (iA wi cap g tc te):=by
 intro pins s σ H Q I h
 rw [eval_ListComp]
 refine wpAny_comprehension_free (use:=none) rfl hs (ZQ (zS S I)) S.kind S.names (jD (hi pins s σ H _ I h) fun v s1 h1=>jD h1 fun itv s2 h2=>?_)
 obtain ⟨it,fp,tn,J,H2,e,I2,T,st2,f2,q2⟩:=h2
 subst e
 refine fL (RR:=fun acc C=>compPost (model X.prog X.w) X.A X.xe none (EP X pins σ Q) acc C) (Q:=fun D H'=>Q (.ref D) H') hcalm S hcap I2 T st2 f2 (fun C=>hg C _ _ _ _) (fun C=>hc C _ _ _ _) (fun C=>he C _ _ _ _) q2 ?_
 intro D C σc H' s' hC Jc q
 obtain ⟨m,hn,_⟩:=Jc.loc
 refine ⟨m,hn,fun h' hs'=>?_⟩
 exact ⟨.ref D,H',bK I2 hC (QP (σ':=σ) I2 f2 Jc) Jc.free hs',rfl,q⟩
theorem nE {tg iter elt:Expr} {ifs:List Expr} {pos spos py:Pos} {i:Nat} {y:Str} {wi:TI} {g:TG} {tc:TT} {te:TE} (N:List Str) (cap:St→St) (hN:X.N.Nodup) (hy:X.N[i]?=some y) (hloc:QF X.env.scope y) (hcalm:X.calm=true) (S:CompScope X scope) (hcap:yD X N scope cap) (hi:PI X tg iter wi)
  (hg:∀C s H pins fp,PG (jQ X N scope C s H pins fp) tg g) (hc:∀C s H pins fp,zB (jQ X N scope C s H pins fp) ifs tc) (he:∀C s H pins fp,PE (jQ X N scope C s H pins fp) elt te)
  (hsw:swapsWith (.ListComp elt [⟨tg,iter,ifs,0⟩] scope pos) (some (.Name y py)) spos.line X.env=pure true:=by rfl)
  (hs:∀x,foldedSetIterable iter X.env x=pure x:=by intro _;rfl) (hfn:X.fn y=true∨X.env.scope.names.lookup y=some .local:=by first|exact .inl rfl|exact .inr rfl|assumption) :
  PS X (.Assign [.Name y py] (.ListComp elt [⟨tg,iter,ifs,0⟩] scope pos) spos) (pA i wi cap g tc te):=by
 intro pins s σ H D I h
 rw [exec_Assign_Name_used _ _ _ _ hsw]
 refine wpAny_bind (wpAny_standAt (wpAny_bind ?_))
 show wpAny _ X.A (do let _ ← comprehension (.ListComp elt [⟨tg,iter,ifs,0⟩] scope pos) scope X.env _ (newList []) false (eval iter X.env) (some (assign (.Name y py) X.env))) _ _ s
 refine wpAny_bind (wpAny_mono (wpAny_comprehension_free (use:=some (assign (.Name y py) X.env)) (Q:=fun _ s'=>SP X pins D .next s') rfl hs (ZQ (zS S I)) S.kind S.names
  (jD (hi pins s σ H _ I h) fun v s1 h1=>jD h1 fun itv s2 h2=>?_)) (fun _ s' hq=>wpAny_pure (wpAny_pure hq)) fun _ _ e=>e)
 obtain ⟨it,fp,tn,J,H2,e,I2,T,st2,f2,q2⟩:=h2
 subst e
 refine fL (RR:=fun acc C=>compPost (model X.prog X.w) X.A X.xe (some (assign (.Name y py) X.env)) (fun _ s'=>SP X pins D .next s') acc C) (Q:=fun d H'=>D.nx (σ.set i (some (.ref d))) H') hcalm S hcap I2 T st2 f2 (fun C=>hg C _ _ _ _) (fun C=>hc C _ _ _ _) (fun C=>he C _ _ _ _) q2 ?_
 intro d C σc H' s' hC Jc q
 obtain ⟨m,hn,_⟩:=Jc.loc
 have J1:Inv X pins σ H' s':=QP (σ':=σ) I2 f2 Jc
 show wpAny _ X.A (assign (.Name y py) X.env (.ref d)) _ _ _
 refine wpAny_assign_Name (dU (v:=.ref d) J1 hN hy hloc rfl (fun s'' J2 hsb=>?_) hfn)
 obtain ⟨a,sb,ha⟩:=hsb
 have haC:C≠a:=by
  rcases ha with e|e
  ·rw [e];exact Nat.ne_of_gt (Nat.lt_of_lt_of_le I2.lt hC)
  ·obtain ⟨v,q'⟩:=I2.cell y a e
   exact Nat.ne_of_gt (Nat.lt_of_lt_of_le q'.lt hC)
 refine ⟨m,hn.sameBut sb haC,fun h' hs'=>?_⟩
 exact ⟨_,H',bK I2 hC J2 Jc.free hs',q⟩
end
end L2
namespace L2
open PySem PySem.Spec PyProof.Rows
theorem vW {σ:St} {H:Hp} {Q:Bool→Hp→Prop} (h:Q true H):iM σ H Q:=h
theorem m7 {K:PySem.W.Frag} {a D:Addr} {xs:List V} {g:TG} {tc:TT} {te:TE} {σ₀:St} {H:Hp} {Q:Hp→Prop} (Pv:Nat→St→Hp→Prop) (h0:Pv 0 σ₀ (upd H D (.lst []))) (hl:∀i σ H,i≤xs.length→Pv i σ H→SqL K H a xs)
    (hs:∀i x σ H,xs[i]?=some x→Pv i σ H→g x σ H fun σ2 H3=>tc σ2 H3 fun b H4=>if b=true then te σ2 H4 fun v H5=>∃ys,H5 D=some (.lst ys)∧ys.length<sizeLine∧Pv (i+1) σ2 (upd H5 D (.lst (ys++[v]))) else Pv (i+1) σ2 H4)
    (hd:∀σ H,Pv xs.length σ H→Q H):vX D (ZO K a) g tc te σ₀ H Q:=by
  refine ⟨fun i m σ H=>m=xs.length - i∧i≤xs.length∧Pv i σ H,⟨xs.length,by simp,Nat.zero_le _,h0⟩,?_⟩
  rintro i m σ H ⟨rfl,hi,p⟩
  have q:=hl i σ H hi p
  by_cases hlt:i<xs.length
  · refine .inr ⟨⟨xs,xs[i],q,by simp [hlt]⟩,Pv (i+1),fun σ' H' p'=>⟨xs.length - (i+1),by omega,rfl,hlt,p'⟩,fun x H' y=>?_⟩
    obtain ⟨e,y⟩:=y
    subst e
    exact hs i x σ _ (y xs q) p
  · have e:i=xs.length:=by omega
    subst e
    exact .inl ⟨⟨xs,q,Nat.le_refl _⟩,hd σ H p⟩
theorem qX {H H':Hp} {D:Addr} {o:HO} (hD:H D=none) (s:Same H H'):Same H (upd H' D o):=fun b u q=>by
 rw [jP (qP q hD)]
 exact s b u q
def yA (H:Hp) (D:Addr) (caps:St) (R:Nat→List V→Hp→Prop) (i:Nat) (σ:St) (Hi:Hp):Prop:=∃ys c,σ=c::caps∧Same H Hi∧Hi D=some (.lst ys)∧ys.length≤i∧R i ys Hi
theorem v5 {H Hi H5:Hp} {D:Addr} {caps:St} {R:Nat→List V→Hp→Prop} {i:Nat} {ys:List V} {c:Option V} {v:V} (hD:H D=none) (s:Same H Hi) (hY:Hi D=some (.lst ys)) (hl:ys.length≤i) (hi:i≤999) (s5:Same Hi H5)
  (r:R (i+1) (ys++[v]) (upd H5 D (.lst (ys++[v])))):∃zs,H5 D=some (.lst zs)∧zs.length<sizeLine∧yA H D caps R (i+1) (c::caps) (upd H5 D (.lst (zs++[v]))):=by
 refine ⟨ys,s5 _ _ hY,vM (by omega),ys++[v],c,rfl,qX hD (s.trans s5),jE,?_,r⟩
 rw [List.length_append,List.length_singleton];omega
theorem oY {H Hi H4:Hp} {D:Addr} {caps:St} {R:Nat→List V→Hp→Prop} {i:Nat} {ys:List V} {c:Option V} (s:Same H Hi) (hY:Hi D=some (.lst ys)) (hl:ys.length≤i) (s4:Same Hi H4) (r:R (i+1) ys H4) :
  yA H D caps R (i+1) (c::caps) H4:=⟨ys,c,rfl,s.trans s4,s4 _ _ hY,by omega,r⟩
theorem yH {K:PySem.W.Frag} {a D:Addr} {xs:List V} {tc:TT} {te:TE} {caps:St} {H:Hp} {Q:Hp→Prop} (R:Nat→List V→Hp→Prop) (hD:H D=none) (hS:SqL K H a xs) (h0:R 0 [] (upd H D (.lst [])))
  (hs:∀i x ys Hi,xs[i]?=some x→i<xs.length→ys.length≤i→Same H Hi→Hi D=some (.lst ys)→R i ys Hi→tc (some x::caps) Hi fun b H4=>if b=true then te (some x::caps) H4 fun v H5=>∃zs,H5 D=some (.lst zs)∧zs.length<sizeLine∧yA H D caps R (i+1) (some x::caps) (upd H5 D (.lst (zs++[v])))
   else yA H D caps R (i+1) (some x::caps) H4)
  (hd:∀ys Hf,Same H Hf→Hf D=some (.lst ys)→ys.length≤xs.length→R xs.length ys Hf→Q Hf):vX D (ZO K a) (ZE 0) tc te (none::caps) H Q:=by
 refine m7 (xs:=xs) (yA H D caps R) ⟨[],none,rfl,qX hD (Same.refl H),jE,Nat.le_refl _,h0⟩ (fun i σ Hi _ ⟨_,_,_,s,_⟩=>s.seq hS) ?_ ?_
 ·rintro i x σ Hi hx ⟨ys,c,rfl,s,hY,hl,r⟩
  exact hs i x ys Hi hx (List.getElem?_eq_some_iff.mp hx).1 hl s hY r
 ·rintro σ Hf ⟨ys,c,rfl,s,hY,hl,r⟩
  exact hd ys Hf s hY hl r
def iT:V→Option Value
 |.ty n=>some (.type n)
 |.ref a=>some (.ref a)
 |_=>none
section
variable {X:Cx}
def uN (K:PySem.W.Frag):List V→Hp→VK→Prop:=fun xs H Q=>∃(x c:V) (t u:Value) (b:Bool),xs=[x,c]∧iT c=some u∧TyOf K H x t∧PySem.W.kitOne K t u=some b∧Q (.bl b) H
theorem fO:CallR X (.builtin "isinstance") (uN X.K):=by
 intro pins s σ H xs us Q I r h
 obtain ⟨x,c,t,u,b,rfl,hc,ty,e,q⟩:=h
 obtain ⟨u1,u2,rfl,r1,r2⟩:=cD r
 have e2:u2=u:=by
  cases c with
  |ty n=>cases (show u2=Value.type n from r2);exact Option.some.inj hc
  |ref a=>cases (show u2=Value.ref a from r2);exact Option.some.inj hc
  |_=>cases hc
 subst e2
 exact oJ I r1 ty e fun tk=>⟨.bl b,H,I.tok _,rfl,q⟩
end
theorem fG {K:PySem.W.Frag} (n:String):PySem.W.kitOne K (.type n) (.type n)=some true:=by
 unfold PySem.W.kitOne
 rw [if_pos (beq_self_eq_true _)]
def yE (xs ys:List V):Bool:=(List.range (min xs.length ys.length)).all (fun j=>qO (xs.getD j .non) (ys.getD j .non))&&xs.length == ys.length
theorem QL {xs:List V} {us:List Value} (r:Vals xs us) {j:Nat} (h:j<us.toArray.size):RelV (xs.getD j .non) us.toArray[j]:=by
 have hj:j<us.length:=by simpa using h
 have hx:j<xs.length:=by rw [r.length];exact hj
 obtain ⟨u,e,q⟩:=r.get (List.getElem?_eq_getElem hx)
 rw [List.getElem?_eq_getElem hj] at e
 have e':=Option.some.inj e
 rw [List.getD_eq_getElem?_getD,List.getElem?_eq_getElem hx]
 show RelV xs[j] us.toArray[j]
 rw [List.getElem_toArray,e']
 exact q
theorem QO {xs:List V} (h:xs.all qD=true) {j:Nat} (hj:j<xs.length):qD (xs.getD j .non)=true:=by
 rw [List.getD_eq_getElem?_getD,List.getElem?_eq_getElem hj]
 exact List.all_eq_true.mp h _ (List.getElem_mem hj)
section
variable {X:Cx}
end
end L2
namespace L2
open PySem PySem.Spec PyProof.Rows
section
variable {X:Cx}
end
end L2
namespace L2
open PySem PySem.Spec PyProof.Rows
section
variable {X:Cx} (K:PySem.W.Frag)
theorem gC {es:List Expr} {k:Nat} {t:yF} {n:Nat} {pos:Pos} (hc:X.calm=true) (h:QC X es t) (hK:X.K=K:=by rfl)
  (hn:(assignEach es X.env).length=n:=by rfl) (hst:(assignEach es X.env).findIdx? (·.1)=none:=by rfl):PG X (.Tuple es k pos) (iS K n t):=by subst hK;exact sJ hc h hn hst
end
end L2
namespace L2
open PySem PySem.Spec PyProof.Rows
section
variable {X:Cx}
end
end L2
namespace L2
open PySem PySem.Spec PyProof.Rows
section
variable {X:Cx}
def uF (t u:TS):TS:=fun D σ H=>∃P:St→Hp→Prop,t {D with nx:=P} σ H∧∀σ' H',P σ' H'→u D σ' H'
theorem QZ {st:Stmt} {rest:List Stmt} {t u:TS} (h1:PS X st t) (h2:PSs X rest u):PSs X (st::rest) (uF t u):=by
 intro pins s σ H D I h
 obtain ⟨P,hP,hu⟩:=h
 refine wpAny_execs_cons (jD (h1 pins s σ H {D with nx:=P} I hP) fun f s1 q=>?_)
 cases f with
 |next =>
  obtain ⟨σ',H',I',q⟩:=q
  exact h2 pins s1 σ' H' D I' (hu σ' H' q)
 |ret v=>exact q
 |brk=>exact q
 |cont=>exact q
end
end L2
namespace L2
open PySem PySem.Spec PyProof.Rows
structure Def (P:Program) (w:World) (K:PySem.W.Frag) (mg:Str→Option Value) (base:Heap) (k:Nat) (x:Str) (ps:List Str) (dvs:List V) (sp:Sp):Prop where
 ex:∃(f:Addr) (fd:FuncData) (ds:List Value),FnOk P w K mg base kS k f fd ps sp∧mg x=some (.ref f)∧PySem.W.keepIn K (.ref f)=true∧Vals dvs ds∧Binds K fd ps ds
theorem kL {X:Cx} {k k':Nat} {x:Str} {ps:List Str} {dvs:List V} {sp:Sp} {p pos:Pos} {e:Expr} {es:List Expr} {t:TA} (F:Def X.prog X.w X.K X.mg X.base k x ps dvs sp) (hr:Room k' X.A) (hg:Gl X x) (ha:PA X (e::es) t)
  (hk:k≤k':=by decide) (hdb:(x == ("__debug__":Str))=false:=by decide) (he:starEach (e::es) X.env=(false,eval e X.env)::starEach es X.env:=by rfl) (hpl:(backTo pos (starEach es X.env)).any (·.1)=false:=by rfl) :
  PE X (.Call (.Name x p) (e::es) [] pos) (iB sp dvs E0 t):=by
 obtain ⟨f,fd,ds,G,m,kp,hv,b⟩:=F.ex
 exact rG G (hr.mono hk) hg m kp b hv tQ ha hdb he hpl
section
variable {P:Program} {w:World} {K:PySem.W.Frag} {mg:Str→Option Value} {base:Heap}
end
section
variable {X:Cx}
end
end L2
namespace L2
open PySem
theorem cH {c A B:Prop} [Decidable c] (hc:¬c) (h:A):if (!decide c)=true then A else B:=by
 rw [decide_eq_false hc]
 exact kG h
theorem vI {c A B:Prop} [Decidable c] (hc:¬c) (h:B):if decide c=true then A else B:=by
 rw [decide_eq_false hc]
 exact qK h
theorem vH {c A B:Prop} [Decidable c] (hc:c) (h:A):if decide c=true then A else B:=by
 rw [decide_eq_true hc]
 exact kG h
end L2
namespace L2
open PySem PySem.Spec PyProof.Rows
end L2
namespace L2
open PySem PySem.Spec PyProof.Rows
section
variable {X:Cx} {k k':Nat} {x m:Str} {C:Addr} {ps:List Str} {sp:Sp} {p pos apos:Pos} {o e:Expr} {es:List Expr} {ta:TE} {t:TA}
end
end L2
namespace L2
open PySem PySem.Spec PyProof.Rows
end L2
namespace L2
open PySem PySem.Spec PyProof.Rows
section
variable {X:Cx}
theorem m6 {bs:List Bool} {its:List Value} (rv:Vals (bs.map V.bl) its) {i:Nat} {v:Value} (h:its.toArray[i]?=some v):v=Value.bool (bs.getD i true):=by
 have h':its[i]?=some v:=by simpa using h
 have hi:i<its.length:=(List.getElem?_eq_some_iff.mp h').1
 have hn:i<bs.length:=by have:=rv.length;rw [List.length_map] at this;omega
 obtain ⟨u,e,q⟩:=rv.get (x:=V.bl (bs.getD i true)) (i:=i) (by rw [List.getElem?_map,List.getElem?_eq_getElem hn,List.getD_eq_getElem?_getD,List.getElem?_eq_getElem hn];rfl)
 rw [h'] at e
 cases e
 exact q
theorem mG (bs:List Bool):(List.range bs.length).all (fun i=>bs.getD i true)=bs.all id:=by
 rw [Bool.eq_iff_iff,List.all_eq_true,List.all_eq_true]
 constructor
 ·intro h x hx
  obtain ⟨i,hi,e⟩:=List.mem_iff_getElem.mp hx
  have:=h i (by simpa using hi)
  rw [List.getD_eq_getElem?_getD,List.getElem?_eq_getElem hi,e] at this
  exact this
 ·intro h i hi
  have hi':i<bs.length:=by simpa using hi
  rw [List.getD_eq_getElem?_getD,List.getElem?_eq_getElem hi']
  exact h _ (List.getElem_mem hi')
theorem bB (hc:X.calm=true):CallR X (.builtin "all") (fun xs H Q=>∃(p:Addr) (bs:List Bool),xs=[.ref p]∧SqL X.K H p (bs.map V.bl)∧Q (.bl (bs.all id)) H):=by
 intro pins s σ H xs us Q I r h
 obtain ⟨p,bs,rfl,hq,q⟩:=h
 obtain ⟨u,rfl,rx⟩:=yW r
 cases rx
 obtain ⟨its,rv,pl,hz⟩:=I.list hq
 have hlen:=rv.length
 rw [List.length_map] at hlen
 have hp:p<s.heap.objs.size:=by obtain ⟨o,n,e,_⟩:=pl;exact Heap.lt_size e
 refine call_all_walk (wpAny_pyIter_list pl.isList ?_)
 refine ⟨s.heap.objs.size,_,_,_,_,_,fun i=>bs.getD i true,rfl,Walks.list (A:=X.A.in1) (I.ok.hd hc) s.heap.objs.size p (Nat.ne_of_lt hp) its.toArray,⟨⟨_,Heap.get?_push_size _ rfl,rfl,rfl⟩,pl.isList.at fun o e=>Heap.get?_push_of_some _ e⟩,fun i v s' Q' E' h hQ=>?_,fun h' tk hk=>?_⟩
 ·rw [m6 rv h]
  exact wpAny_truthy_bool hQ
 ·rw [List.size_toArray,← hlen,mG]
  refine ⟨.bl (bs.all id),H,I.kept (t':=tk) fun b o e=>hk b o (fun hb=>?_) (Heap.get?_push_of_some _ e),rfl,q⟩
  have e':b=s.heap.objs.size:=by simpa using hb
  exact absurd (Heap.lt_size e) (by rw [e'];exact Nat.lt_irrefl _)
end
end L2
namespace L2
open PySem PySem.Spec PyProof.Rows
section
variable {X:Cx}
end
end L2
namespace L2
open PySem PySem.Spec PyProof.Rows
end L2
namespace L2
open PySem PySem.Spec PyProof.Rows
section
variable {P:Program} {w:World} {H:Hp} {h h':Heap} {a:Addr} {o:HO}
theorem ObjOk.there (x:ObjOk P w H h a o):∃u,h.get? a=some u:=by
 cases o with
 |lst xs=>obtain ⟨_,_,_,_,e⟩:=x;exact ⟨_,e⟩
 |tup xs=>obtain ⟨_,_,_,o,e,_⟩:=x;exact ⟨_,e⟩
 |dK kvs=>obtain ⟨_,_,_,_,o,_,_,e,_⟩:=x;exact ⟨_,e⟩
 |dT kvs=>obtain ⟨_,_,_,_,o,_,_,e,_⟩:=x;exact ⟨_,e⟩
 |set S n=>obtain ⟨o,_,_,_,e,_⟩:=x;exact ⟨_,e⟩
 |ins C dx fs=>obtain ⟨_,_,_,e,_⟩:=x;exact ⟨_,e⟩
 |own y=>obtain ⟨_,e⟩:=x;exact ⟨_,e⟩
 |xd fs=>obtain ⟨_,⟨_,_,_,e,_⟩,_⟩:=x;exact ⟨_,e⟩
 |rng lo hi=>obtain ⟨_,_,_,e⟩:=x;exact ⟨_,e⟩
 |frz ob u=>obtain ⟨e,_⟩:=x;exact ⟨_,e⟩
 |tbl ps=>exact ⟨_,(show h.get? a=some _ from x)⟩
 |met f y=>exact ⟨_,(show h.get? a=some _ from x)⟩
 |ext φ=>obtain ⟨_,e,_⟩:=x;exact e
theorem HOk.there (x:HOk P w H h) (e:H a=some o):∃u,h.get? a=some u:=(x a o e).there
theorem HOk.keepT (x:HOk P w H h) (k:∀b u,H b≠none→h.get? b=some u→h'.get? b=some u):HOk P w H h':=fun a o e =>
 (x a o e).stay (fun b u hb q=>k b u (by
  rcases hb with rfl|hb
  ·rw [e];exact fun z=>nomatch z
  ·rw [hb];exact fun z=>nomatch z) q) (fun _ q=>q) fun _ _ q=>q
end
theorem Un.go {fs ex:List Addr} {H H1:Hp} {h0 h h':Heap} (u:Un fs ex H H1 h0 h) (k:∀b o,h.get? b=some o→b∉fs→b∉ex→(∃o',h0.get? b=some o')→h'.get? b=some o)
  (ks:∀b o,h.get? b=some o→b∈fs→(∃o',h0.get? b=some o')→∃sl,h'.get? b=some {o with slots:=sl}):Un fs ex H H1 h0 h' where
 keep:=fun b o q n hb hx=>k b o (u.keep b o q n hb hx) hb hx ⟨o,q⟩
 slot:=fun b o q n hb hx=>by
  obtain ⟨sl,e⟩:=u.slot b o q n hb hx
  obtain ⟨sl',e'⟩:=ks b _ e hb ⟨o,q⟩
  exact ⟨sl',e'⟩
 free:=u.free
 there:=fun b o q hx=>by
  obtain ⟨o',e⟩:=u.there b o q hx
  by_cases hb:b∈fs
  ·obtain ⟨sl,e'⟩:=ks b o' e hb ⟨o,q⟩
   exact ⟨_,e'⟩
  ·exact ⟨o',k b o' e hb hx ⟨o,q⟩⟩
 tups:=u.tups
 frzs:=u.frzs
 tbls:=u.tbls
def i1 (fr:List Env) (Z:Addr→Prop) (h:Heap) (a C:Addr):Prop :=
 ∃(B:Heap) (a0:Value),Heap.FlyingW B fr a (.ref C) a0 h∧∀b o,h.get? b=some o→b∉jM fr→Z b→B.get? b=some o
def jN (P:Program) (w:World):vC:=fun outer H s E e s'=>∃(a C:Addr) (H':Hp),e=.ref a∧s'.os=s.os∧AllBare s'.gens∧Un (jM outer) [] H H' s.heap s'.heap∧HOk P w H' s'.heap∧
 i1 outer (fun b=>H' b≠none∨∃o',s.heap.get? b=some o') s'.heap a C∧H' a=none∧s.heap.get? a=none∧E (.ref C) none H'
def g0 (X:Cx) (R:St→Value→Hp→Prop):Prop:=∀pins σ H s e h' C vs,Inv X pins σ H s→Heap.MadeExcOf s.heap h' e (.ref C) vs→R σ (.ref C) H→X.xe (.ref e) {s with heap:=h'}
def z9 (X:Cx) (R:St→Value→Hp→Prop):Prop:=∀pins σ H s e s',Inv X pins σ H s→jN X.prog X.w X.stack H s (fun c _ H'=>R σ c H') e s'→X.xe e s'
theorem zT {P:Program} {w:World} {K:PySem.W.Frag} {mg:Str→Option Value} {base:Heap} {N:List Str} {qual:Str} {scope:Scope} {f:Addr} {cd:Value} {A:Around} {outer:List Env} {s:Shared} {H:Hp} {E:XK} :
  g0 (j3 (jN P w) P w K mg base N qual scope f cd A outer s H E) (fun _ c H'=>E c none H'):=by
 intro pins σ H1 s1 e h' C vs I hx q
 have hin:∀env∈(envOfC qual scope s.heap.objs.size f cd::outer),∀b,env.frame=some b→b∈jM (envOfC qual scope s.heap.objs.size f cd::outer):=fun env he b hb=>List.mem_filterMap.mpr ⟨env,he,hb⟩
 have hst:s1.heap.FunFrames base (envOfC qual scope s.heap.objs.size f cd::outer):=I.stack
 have hfrees:∀b∈jM (envOfC qual scope s.heap.objs.size f cd::outer),H1 b=none:=I.stkFree
 have hfs:jM (envOfC qual scope s.heap.objs.size f cd::outer)=s.heap.objs.size::jM outer:=rfl
 have ub:Un (jM outer) [] H H1 s.heap s1.heap:=I.base
 have hno:s1.heap.get? e=none:=hx.new
 show wpAny (model P w) (A.deeper (envOfC qual scope s.heap.objs.size f cd)) (leaving (envOfC qual scope s.heap.objs.size f cd) (.ref e)) (fun _ s''=>jN P w outer H s E (.ref e) s'') (fun e' s''=>jN P w outer H s E e' s'') {s1 with heap:=h'}
 refine wpAny_leaves_madeW (base:=PySem.W.hideAll s1.heap (jM (envOfC qual scope s.heap.objs.size f cd::outer))) I.ok.frames rfl (fun b o q=>PySem.W.of_hideAll _ q) (PySem.W.funFrames_hide hst hin) hx fun h2 t fl _ _ up=>?_
 dsimp only at up
 have keep:∀b o,s1.heap.get? b=some o→b∉jM (envOfC qual scope s.heap.objs.size f cd::outer)→(PySem.W.hideAll s1.heap (jM (envOfC qual scope s.heap.objs.size f cd::outer))).get? b=some o:=fun b o q n=>PySem.W.hideAll_get _ q n
 have old:∀b,(∃o',s.heap.get? b=some o')→b∉jM outer→b∉jM (envOfC qual scope s.heap.objs.size f cd::outer):=fun b ⟨o',q⟩ n z=>by
  rw [hfs] at z
  rcases List.mem_cons.mp z with z|z
  ·exact absurd (Heap.lt_size q) (by rw [z];exact Nat.lt_irrefl _)
  ·exact n z
 have qL:∀b,H1 b≠none→b∉jM (envOfC qual scope s.heap.objs.size f cd::outer):=fun b hb z=>hb (hfrees b z)
 refine ⟨e,C,H1,rfl,I.os,I.bare,ub.go (fun b o q n _ z=>fl.1 b o (keep b o q (old b z n))) (fun b o q n _=>?_),I.hok.keepT fun b u hb q=>fl.1 b u (keep b u q (qL b hb)),?_,?_,?_,q⟩
 ·obtain ⟨_,o',ho',hd⟩:=hst.mem (show b∈jM (envOfC qual scope s.heap.objs.size f cd::outer) from by rw [hfs];exact List.mem_cons_of_mem _ n)
  rw [q] at ho';cases ho'
  exact up b o (hx.keeps b o q) hd
 ·refine ⟨_,_,fl,fun b o q n z=>?_⟩
  have hn:b∉jM (envOfC qual scope s.heap.objs.size f cd::outer):=by
   rcases z with z|z
   ·exact qL b z
   ·exact old b z n
  have h1:∃u,s1.heap.get? b=some u:=by
   rcases z with z|⟨o',z⟩
   ·cases r:H1 b with
    |none=>exact absurd r z
    |some v=>exact I.hok.there r
   ·exact ub.there b o' z (by simp)
  obtain ⟨u,hu⟩:=h1
  have hB:=keep b u hu hn
  have:=fl.1 b u hB
  have q':h2.get? b=some o:=q
  rw [q'] at this
  cases this
  exact hB
 ·cases r:H1 e with
  |none=>rfl
  |some v =>
   obtain ⟨u,hu⟩:=I.hok.there r
   rw [hno] at hu;cases hu
 ·cases r:s.heap.get? e with
  |none=>rfl
  |some v =>
   obtain ⟨u,hu⟩:=ub.there e v r (by simp)
   rw [hno] at hu;cases hu
theorem q8 {P:Program} {w:World} {K:PySem.W.Frag} {mg:Str→Option Value} {base:Heap} {N:List Str} {qual:Str} {scope:Scope} {f:Addr} {cd:Value} {A:Around} {outer:List Env} {s:Shared} {H:Hp} {E:XK} :
  z9 (j3 (jN P w) P w K mg base N qual scope f cd A outer s H E) (fun _ c H'=>E c none H'):=by
 intro pins σ H1 s1 e s2 I hx
 obtain ⟨a,C,H2,rfl,os,bare,un,hok,⟨B,a0,fl,ground⟩,ha,hs,q⟩:=hx
 have fl':Heap.FlyingW B (envOfC qual scope s.heap.objs.size f cd::outer) a (.ref C) a0 s2.heap:=fl
 have J:Inv (j3 (jN P w) P w K mg base N qual scope f cd A outer s H E) pins σ H2 s2:=I.call' (ch:=[]) os un hok bare fun b z=>absurd z (by simp)
 have ub:Un (jM outer) [] H H2 s.heap s2.heap:=J.base
 have hfs:jM (envOfC qual scope s.heap.objs.size f cd::outer)=s.heap.objs.size::jM outer:=rfl
 have old:∀b,(∃o',s.heap.get? b=some o')→b∉jM outer→b∉jM (envOfC qual scope s.heap.objs.size f cd::outer):=fun b ⟨o',q⟩ n z=>by
  rw [hfs] at z
  rcases List.mem_cons.mp z with z|z
  ·exact absurd (Heap.lt_size q) (by rw [z];exact Nat.lt_irrefl _)
  ·exact n z
 have qL:∀b,H2 b≠none→b∉jM (envOfC qual scope s.heap.objs.size f cd::outer):=fun b hb z=>hb (J.stkFree b z)
 have u1:Un (jM outer) [] H H1 s.heap s1.heap:=I.base
 have in1:∀b,(∃o',s.heap.get? b=some o')→∃o',s1.heap.get? b=some o':=fun b ⟨o',z⟩=>u1.there b o' z (by simp)
 have hst:s2.heap.FunFrames base (envOfC qual scope s.heap.objs.size f cd::outer):=J.stack
 show wpAny (model P w) (A.deeper (envOfC qual scope s.heap.objs.size f cd)) (leaving (envOfC qual scope s.heap.objs.size f cd) (.ref a)) (fun _ s''=>jN P w outer H s E (.ref a) s'') (fun e' s''=>jN P w outer H s E e' s'') s2
 refine wpAny_leaves_onW J.ok.frames rfl fl' fun h3 fl3 up=>?_
 refine ⟨a,C,H2,rfl,J.os,J.bare,ub.go (fun b o q n _ z=>fl3.1 b o (ground b o q (old b z n) (.inr (in1 b z)))) (fun b o q n _=>?_),J.hok.keepT fun b u hb q=>fl3.1 b u (ground b u q (qL b hb) (.inl hb)),?_,ha,?_,q⟩
 ·obtain ⟨_,o',ho',hd⟩:=hst.mem (show b∈jM (envOfC qual scope s.heap.objs.size f cd::outer) from by rw [hfs];exact List.mem_cons_of_mem _ n)
  rw [q] at ho';cases ho'
  exact up b o q hd
 ·refine ⟨B,a0,fl3,fun b o q n z=>?_⟩
  have hn:b∉jM (envOfC qual scope s.heap.objs.size f cd::outer):=by
   rcases z with z|z
   ·exact qL b z
   ·exact old b z n
  have h1:∃u,s2.heap.get? b=some u:=by
   rcases z with z|⟨o',z⟩
   ·cases r:H2 b with
    |none=>exact absurd r z
    |some v=>exact J.hok.there r
   ·exact ub.there b o' z (by simp)
  obtain ⟨u,hu⟩:=h1
  have hB:=ground b u hu hn (by
   rcases z with z|z
   ·exact .inl z
   ·exact .inr (in1 b z))
  have:=fl3.1 b u hB
  have q':h3.get? b=some o:=q
  rw [q'] at this
  cases this
  exact hB
 ·cases r:s.heap.get? a with
  |none=>rfl
  |some v =>
   obtain ⟨u,hu⟩:=in1 a ⟨v,r⟩
   rw [hs] at hu;cases hu
end L2
namespace L2
open PySem PySem.Spec PyProof.Rows
theorem rP {K:PySem.W.Frag} {h:Heap} {C:Addr} {bmB:List Value} {newId:String} (X:K.In h) (q:PySem.W.excIn K C bmB newId=true) :
  ∃bm N nm qn bs hdct sn sub ab col dd k0 k1 k2 k3 k5 mN,K.lookup C=some (excClassObj nm qn C N bs bm hdct sn sub ab col dd k0 k1 k2 k3 k5 newId)∧h.get? C=some (excClassObj nm qn C N bs bm hdct sn sub ab col dd k0 k1 k2 k3 k5 newId)∧h.Ns N mN∧mN "__init__"=none∧OwnTail h bmB bm:=by
 unfold PySem.W.excIn at q
 split at q
 ·rename_i dd cd sl ho
  split at q
  ·rename_i C' bm k0 k1 k2 k3 n k5 hm hs
   simp only [Bool.and_eq_true,beq_iff_eq,Bool.not_eq_true'] at q
   obtain ⟨⟨⟨⟨⟨rfl,rfl⟩,hdel⟩,ht⟩,hok⟩,hni⟩:=q
   obtain ⟨nm,bs,mro,ns,qn,hd,sn,sub,ab,col,del⟩:=cd
   dsimp only at hm hdel hok hni
   subst hm hdel
   have hsl:sl = #[k0,k1,k2,k3,some (.builtin n),k5]:=by
    obtain ⟨l⟩:=sl
    simp only at hs
    rw [hs]
   subst hsl
   exact ⟨bm,ns,nm,qn,bs,hd,sn,sub,ab,col,dd,k0,k1,k2,k3,k5,_,ho,X _ _ ho,.of_isNs (PySem.W.isNs_of_in X hok),PySem.W.nsMap_none_of_in X hok hni,PySem.W.tail_of_in X ht⟩
  ·cases q
 ·cases q
abbrev uP:List Value:=[.type "ValueError",.type "Exception",.type "BaseException",.type "object"]
def iW (K:PySem.W.Frag) (C:Addr):Prop:=PySem.W.excIn K C uP "ValueError.__new__"=true
section
variable {X:Cx} {R:St→Value→Hp→Prop} {x:Str} {C:Addr} {np cpos pos p:Pos} {e:Expr} {es:List Expr} {t:TA}
theorem zX (hx:g0 X R) (hcalm:X.calm=true) (hg:Gl X x) (hm:X.mg x=some (.ref C)) (hc:iW X.K C) (ha:PA X (e::es) t) (hdb:(x == ("__debug__":Str))=false:=by decide)
  (he:starEach (e::es) X.env=(false,eval e X.env)::starEach es X.env:=by rfl) (hpl:(backTo cpos (starEach es X.env)).any (·.1)=false:=by rfl) :
  PS X (.Raise (some (.Call (.Name x np) (e::es) [] cpos)) none pos) (fun _ σ H=>t σ H fun vs H1=>vs.length≤sizeLine∧R σ (.ref C) H1):=by
 intro pins s σ H D I h
 obtain ⟨tl,N,nm,q,bs,hdct,sn,sub,ab,col,dd,k0,k1,k2,k3,k5,mN,_,hC,hN,hni,T⟩:=rP I.ok.mod.kin hc
 refine wpAny_Raise_call_subT (C:=C) (nm:=nm) (q:=q) (N:=N) (bs:=bs) (bm:=tl) (hdct:=hdct) (sn:=sn) (sub:=sub) (ab:=ab) (col:=col) (dd:=dd) (k0:=k0) (k1:=k1) (k2:=k2) (k3:=k3) (k5:=k5)
  PySem.F.excBase_ValueError (mN:=mN) (T.hasType PySem.F.excBase_ValueError.hasBase) (I.ok.hd hcalm) (by rw [he];show (false||(backTo cpos (starEach es X.env)).any (·.1))=false;rw [hpl];rfl) hni (JT I hg hm ⟨rfl,?_⟩ hdb)
 have h1:=ha cpos pins s σ H _ I h
 rw [he] at h1 ⊢
 refine Calls.evalArgs_plain (wpAny_mono h1 (fun us s2 ⟨vs,H2,I2,r2,hl,q2⟩=>⟨rfl,by rw [← r2.length];exact hl,I2.bk _ _ hC,hN.keeps I2.bk,T.keeps I2.bk,fun h' a hm=>hx pins σ H2 s2 a h' C us I2 hm q2⟩) fun _ _ y=>y)
def sC (sp:Sp) (dvs:List V) (R:St→Value→Hp→Prop) (t:TA):TE:=fun σ H Q=>t σ H fun vs H1=>sp (vs++dvs) H1 Q (fun c _ H'=>R σ c H')
theorem rB {k:Nat} {f:Addr} {fd:FuncData} {ps:List Str} {sp:Sp} {dvs:List V} {ds:List Value} {pins:List (Addr×Obj)} {σ:St} {H:Hp} {s:Shared} {Q:VK} {us:List Value} {vs:List V} (F:FnOk X.prog X.w X.K X.mg X.base (jN X.prog X.w) k f fd ps sp) (hr:Room k X.A) (hb:Binds X.K fd ps ds) (hd:Vals dvs ds) (hx:z9 X R)
  (I:Inv X pins σ H s) (r:Vals vs us) (h:sp (vs++dvs) H Q (fun c _ H'=>R σ c H')):wpAny (model X.prog X.w) X.A (call (.ref f) us) (EP X pins σ Q) X.xe s:=by
 have r2:Vals (vs++dvs) (us++ds):=r.append hd
 have hl:(us++ds).length=ps.length:=by rw [← r2.length];exact F.len _ _ _ _ h
 refine wpAny_call (codeAny_mono (F.run X.A X.stack s H ⟨us,[]⟩ (us++ds) (vs++dvs) Q _ hr I.env0 (hb s us I.kIn hl) r2 h) fun r s' hq=>?_)
 cases r with
 |error e=>exact hx pins σ H s e s' I hq
 |ok fl =>
  cases fl with
  |ret u=>exact I.after hq
  |next=>exact False.elim hq
  |brk=>exact False.elim hq
  |cont=>exact False.elim hq
end
structure DefX (P:Program) (w:World) (K:PySem.W.Frag) (mg:Str→Option Value) (base:Heap) (k:Nat) (x:Str) (ps:List Str) (dvs:List V) (sp:Sp):Prop where
 ex:∃(f:Addr) (fd:FuncData) (ds:List Value),FnOk P w K mg base (jN P w) k f fd ps sp∧mg x=some (.ref f)∧PySem.W.keepIn K (.ref f)=true∧Vals dvs ds∧Binds K fd ps ds
theorem qB {X:Cx} {R:St→Value→Hp→Prop} {k k':Nat} {x:Str} {ps:List Str} {dvs:List V} {sp:Sp} {p pos:Pos} {e:Expr} {es:List Expr} {t:TA} (F:DefX X.prog X.w X.K X.mg X.base k x ps dvs sp) (hx:z9 X R) (hr:Room k' X.A) (hg:Gl X x) (ha:PA X (e::es) t)
  (hk:k≤k':=by decide) (hdb:(x == ("__debug__":Str))=false:=by decide) (he:starEach (e::es) X.env=(false,eval e X.env)::starEach es X.env:=by rfl) (hpl:(backTo pos (starEach es X.env)).any (·.1)=false:=by rfl) :
  PE X (.Call (.Name x p) (e::es) [] pos) (sC sp dvs R t):=by
 obtain ⟨f,fd,ds,G,m,kp,hv,b⟩:=F.ex
 intro pins s σ H Q I h
 refine wpAny_Call_Name_kw (JT I hg m ?_ hdb)
 refine PySem.W.callWith_K (h₀:=X.base) I.ok.mod.kin kp (jD (ha pos pins s σ H _ I h) fun us s1 ⟨vs,H1,I1,r,q⟩=>⟨I1.kIn,?_⟩) he hpl
 exact rB G (hr.mono hk) b hv hx I1 r q
def iL (X:Cx) (pins:List (Addr×Obj)) (a:Addr):Prop:=X.s₀.heap.get? a=none∧a≠X.env.locals∧(∀x c,X.env.cells.lookup x=some c→c≠a)∧∀p∈X.pn++pins,p.1≠a
def yB (X:Cx) (pins:List (Addr×Obj)) (R:St→Value→Hp→Prop):Cx:={X with
 pn:=X.pn++pins
 xe:=fun e s'=>∃(a C:Addr) (σ':St) (H':Hp),e=.ref a∧Inv X pins σ' H' s'∧i1 X.stack (fun b=>H' b≠none∨(∃o,X.s₀.heap.get? b=some o)∨∃p∈X.pn++pins,p.1=b) s'.heap a C∧H' a=none∧iL X pins a∧R σ' (.ref C) H'}
theorem Cx.Ok.intoTry {X:Cx} {pins:List (Addr×Obj)} {R:St→Value→Hp→Prop} (ok:X.Ok):(yB X pins R).Ok :=
 ⟨ok.mod,ok.kind,ok.glob,ok.blt,ok.above,ok.inj,ok.has,ok.cab,ok.hd,ok.frames,ok.stk,ok.exf,ok.bs,ok.bsz,ok.noex,ok.exfs,ok.funs,ok.frf⟩
theorem Cx.Ok.outTry {X:Cx} {pins:List (Addr×Obj)} {R:St→Value→Hp→Prop} (ok:(yB X pins R).Ok):X.Ok :=
 ⟨ok.mod,ok.kind,ok.glob,ok.blt,ok.above,ok.inj,ok.has,ok.cab,ok.hd,ok.frames,ok.stk,ok.exf,ok.bs,ok.bsz,ok.noex,ok.exfs,ok.funs,ok.frf⟩
section
variable {X:Cx} {pins pins':List (Addr×Obj)} {σ:St} {H:Hp} {s:Shared} {R:St→Value→Hp→Prop}
theorem Inv.intoTry (I:Inv X pins σ H s):Inv (yB X pins R) [] σ H s :=
 ⟨I.ok.intoTry,I.os,I.bare,I.base,I.loc,I.cell,I.free,I.freeC,fun p hp=>I.pin p (by have hp':p∈(X.pn++pins)++[]:=hp;rw [List.append_nil] at hp';exact hp'),I.hok,I.len⟩
theorem Inv.outTry (I:Inv (yB X pins R) pins' σ H s):Inv X pins σ H s :=
 ⟨I.ok.outTry,I.os,I.bare,I.base,I.loc,I.cell,I.free,I.freeC,fun p hp=>I.pin p (List.mem_append_left _ hp),I.hok,I.len⟩
theorem SP.outTry {D:Ends} {f:Flow} {s':Shared} (h:SP (yB X pins R) [] D f s'):SP X pins D f s':=by
 cases f with
 |next=>obtain ⟨σ',H',I,q⟩:=h;exact ⟨σ',H',I.outTry,q⟩
 |brk=>obtain ⟨σ',H',I,q⟩:=h;exact ⟨σ',H',I.outTry,q⟩
 |cont=>obtain ⟨σ',H',I,q⟩:=h;exact ⟨σ',H',I.outTry,q⟩
 |ret u=>obtain ⟨v,σ',H',I,r,q⟩:=h;exact ⟨v,σ',H',I.outTry,r,q⟩
theorem oN (hex:X.ex=[]):z9 (yB X pins R) R:=by
 intro pins' σ H1 s1 e s2 I hx
 obtain ⟨a,C,H2,rfl,os,bare,un,hok,⟨B,a0,fl,ground⟩,ha,hs,q⟩:=hx
 have I0:Inv X pins σ H1 s1:=I.outTry
 have J:Inv X pins σ H2 s2:=I0.call' (ch:=[]) os un hok bare fun b z=>absurd z (by simp)
 refine ⟨a,C,σ,H2,rfl,J,⟨B,a0,fl,fun b o q n z=>ground b o q n ?_⟩,ha,⟨?_,fun z=>?_,fun x c e z=>?_,fun p hp z=>?_⟩,q⟩
 ·rcases z with z|⟨o',z⟩|⟨p,hp,rfl⟩
  ·exact .inl z
  ·exact .inr (I0.base.there b o' z (by rw [hex];simp))
  ·exact .inr ⟨_,(I0.pin p hp).1⟩
 ·cases r:X.s₀.heap.get? a with
  |none=>rfl
  |some v =>
   obtain ⟨u,hu⟩:=I0.base.there a v r (by rw [hex];simp)
   rw [hs] at hu;cases hu
 ·obtain ⟨m,⟨o,_,_,ho,_⟩,_⟩:=I0.loc
  rw [← z,hs] at ho;cases ho
 ·obtain ⟨v,o,ho,_⟩:=I0.cell x c e
  rw [z,hs] at ho;cases ho
 ·have ho:=(I0.pin p hp).1
  rw [z,hs] at ho;cases ho
theorem Inv.fly {h':Heap} (I:Inv X pins σ H s) (hstk:X.stack=X.env::X.outer) (hf:X.env.frame=some X.env.locals)
  (k:∀b o,s.heap.get? b=some o→b∉jM X.stack→(H b≠none∨(∃o,X.s₀.heap.get? b=some o)∨∃p∈X.pn++pins,p.1=b)→h'.get? b=some o) (up:s.heap.UpToSlots h'):Inv X pins σ H {s with heap:=h'}:=by
 have hfs:jM X.stack=X.env.locals::X.fs:=by rw [hstk];unfold jM;rw [List.filterMap_cons,hf];rfl
 have cellK:∀c v,s.heap.IsCell c v→h'.IsCell c v:=fun c v ⟨o,ho,hd⟩=>by
  obtain ⟨sl,e⟩:=up c o ho (fun vs q=>by rw [hd] at q;cases q)
  exact ⟨_,e,hd⟩
 have qL:∀b,H b≠none→b∉jM X.stack:=fun b hb z=>hb (I.stkFree b z)
 refine ⟨I.ok,I.os,I.bare,I.base.go (fun b o q n _ z=>k b o q (fun m=>?_) (.inr (.inl z))) (fun b o q n z=>?_),?_,fun x c e=>?_,I.free,I.freeC,fun p hp=>?_,I.hok.keepT fun b u hb q=>k b u q (qL b hb) (.inl hb),I.len⟩
 ·rw [hfs] at m
  rcases List.mem_cons.mp m with m|m
  ·obtain ⟨o',z⟩:=z
   exact absurd (Nat.lt_of_lt_of_le (Heap.lt_size z) I.ok.above) (by rw [m];exact Nat.lt_irrefl _)
  ·exact n m
 ·obtain ⟨_,o',ho',hd⟩:=I.stack.mem (show b∈jM X.stack from by rw [hfs];exact List.mem_cons_of_mem _ n)
  rw [q] at ho';cases ho'
  exact up b o q hd
 ·obtain ⟨m,hn,hl⟩:=I.loc
  refine ⟨m,up.ns hn,fun i x v h1 h2 h3=>?_⟩
  obtain ⟨u,r,l⟩:=hl i x v h1 h2 h3
  refine ⟨u,r,?_⟩
  rcases l with l|⟨l1,c,l2,l3⟩
  ·exact .inl l
  ·exact .inr ⟨l1,c,l2,cellK c _ l3⟩
 ·obtain ⟨v,q⟩:=I.cell x c e
  exact ⟨v,cellK c v q⟩
 ·obtain ⟨h1,h2,h3,h4,h5⟩:=I.pin p hp
  refine ⟨k p.1 p.2 h1 (fun m=>?_) (.inr (.inr ⟨p,hp,rfl⟩)),h2,h3,h4,h5⟩
  rw [hfs] at m
  rcases List.mem_cons.mp m with m|m
  ·exact h3 m
  ·exact h4 m
end
def JR (X:Cx) (e:Value):Cx:={X with A:=X.A.mark (some e),calm:=false,xe:=fun _ _=>False}
section
variable {X:Cx} {pins:List (Addr×Obj)} {σ:St} {H:Hp} {s:Shared} {e:Value}
theorem Inv.intoSuite (I:Inv X pins σ H s) (e:Value):Inv (JR X e) pins σ H s :=
 ⟨⟨I.ok.mod,I.ok.kind,I.ok.glob,I.ok.blt,I.ok.above,I.ok.inj,I.ok.has,I.ok.cab,fun z=>absurd (show false=true from z) (by decide),I.ok.frames,I.ok.stk,I.ok.exf,I.ok.bs,I.ok.bsz,I.ok.noex,I.ok.exfs,I.ok.funs,I.ok.frf⟩,I.os,I.bare,I.base,I.loc,I.cell,I.free,I.freeC,I.pin,I.hok,I.len⟩
theorem Inv.outSuite (ok:X.Ok) (I:Inv (JR X e) pins σ H s):Inv X pins σ H s:=⟨ok,I.os,I.bare,I.base,I.loc,I.cell,I.free,I.freeC,I.pin,I.hok,I.len⟩
theorem SP.outSuite (ok:X.Ok) {D:Ends} {f:Flow} {s':Shared} (h:SP (JR X e) pins D f s'):SP X pins D f s':=by
 cases f with
 |next=>obtain ⟨σ',H',I,q⟩:=h;exact ⟨σ',H',I.outSuite ok,q⟩
 |brk=>obtain ⟨σ',H',I,q⟩:=h;exact ⟨σ',H',I.outSuite ok,q⟩
 |cont=>obtain ⟨σ',H',I,q⟩:=h;exact ⟨σ',H',I.outSuite ok,q⟩
 |ret u=>obtain ⟨v,σ',H',I,r,q⟩:=h;exact ⟨v,σ',H',I.outSuite ok,r,q⟩
end
end L2
namespace L2
open PySem PySem.Spec PyProof.Rows
section
variable {P:Program} {w:World} {K:PySem.W.Frag} {mg:Str→Option Value} {base:Heap}
theorem Fun.okX {x qual:Str} {st:Stmt} {f:Addr} {fd:FuncData} {N ps:List Str} {k:Nat} {sp:Sp} (F:Fun K x qual st f fd) (S:FnScope N ps (jH st)) (len:∀vs H Q E,sp vs H Q E→vs.length=ps.length)
  (hbody:∀(cdv:Value) (A:Around) (outer:List Env) (s:Shared) (H:Hp) (vs:List V) (Q:VK) (E:XK),Room k (A.deeper (envOfC qual (jH st) s.heap.objs.size f cdv))→sp vs H Q E→
   ∃t,PSs (j3 (jN P w) P w K mg base N qual (jH st) f cdv A outer s H E) (jY st) t∧t {nx:=fun _ H'=>Q .non H',rt:=Q} (vY N vs) H):FnOk P w K mg base (jN P w) (k+1) f fd ps sp:=by
 obtain ⟨oc,od,kV,doc,pm,an,cdv,ct,osl,rfl,lk,hcd⟩:=F.ex
 exact iH lk hcd S len fun A outer s H vs Q E hr hsp=>hbody cdv A outer s H vs Q E hr hsp
theorem FnOk.noX {k:Nat} {f:Addr} {fd:FuncData} {ps:List Str} {sp sp':Sp} (F:FnOk P w K mg base (jN P w) k f fd ps sp) (h:∀vs H Q E,sp' vs H Q E→sp vs H Q (fun _ _ _=>False)):FnOk P w K mg base kS k f fd ps sp' :=
 ⟨fun vs H Q E q=>F.len vs H Q _ (h _ _ _ _ q),fun A outer s H args us vs Q E hr he hb hv hs=>codeAny_mono (F.run A outer s H args us vs Q _ hr he hb hv (h _ _ _ _ hs)) fun r s' hq=>by
  cases r with
  |ok fl=>cases fl<;>exact hq
  |error e=>obtain ⟨_,_,_,_,_,_,_,_,_,_,_,z⟩:=hq;exact z⟩
end
section
variable {X:Cx}
end
end L2
namespace L2
open PySem PySem.Spec PyProof.Rows
section
variable {X:Cx} {pins:List (Addr×Obj)} {σ:St} {H:Hp} {s:Shared}
theorem Inv.unset {i:Nat} {x:Str} {m':Str→Option Value} {h':Heap} {t':Nat} (I:Inv X pins σ H s) (hN:X.N.Nodup) (hi:X.N[i]?=some x)
  (hm:∀m,s.heap.Ns X.env.locals m→∀y,y≠x→m' y=m y) (hn:h'.Ns X.env.locals m') (hs:Heap.SameBut X.env.locals s.heap h'):Inv X pins (σ.set i none) H {s with heap:=h',toks:=t'}:=by
 obtain ⟨m,hn0,hl⟩:=id I.loc
 obtain ⟨oL,_,_,hoL,_⟩:=id hn0
 have hiσ:i<σ.length:=by rw [I.len];exact (List.getElem?_eq_some_iff.mp hi).1
 refine ⟨I.ok,I.os,I.bare,⟨fun b o e n hb hx=>?_,fun b o e n hb hx=>?_,I.base.free,fun b o e hx=>?_,I.base.tups,I.base.frzs,I.base.tbls⟩,⟨_,hn,fun j y v' e1 e2 e3=>?_⟩,fun y c e=>?_,I.free,I.freeC,fun p hp=>?_,?_,by simpa using I.len⟩
 ·exact (hs.2 b (Nat.ne_of_lt (Nat.lt_of_lt_of_le (Heap.lt_size e) I.ok.above))).trans (I.base.keep b o e n hb hx)
 ·obtain ⟨sl,e1⟩:=I.base.slot b o e n hb hx
  exact ⟨sl,(hs.2 b (Nat.ne_of_lt (Nat.lt_of_lt_of_le (Heap.lt_size e) I.ok.above))).trans e1⟩
 ·obtain ⟨o',e1⟩:=I.base.there b o e hx
  exact ⟨o',(hs.2 b (Nat.ne_of_lt (Nat.lt_of_lt_of_le (Heap.lt_size e) I.ok.above))).trans e1⟩
 ·by_cases hj:j=i
  ·subst hj
   rw [List.getElem?_set_self hiσ] at e2
   cases e2
  ·rw [List.getElem?_set_ne (Ne.symm hj)] at e2
   obtain ⟨u',r',q⟩:=hl j y v' e1 e2 e3
   refine ⟨u',r',?_⟩
   rcases q with ⟨k,e⟩|⟨k,c,e,z⟩
   ·refine .inl ⟨k,?_⟩
    have:y≠x:=fun e=>hj (bG hN e1 (e▸hi))
    rw [hm m hn0 y this]
    exact e
   ·exact .inr ⟨k,c,e,z.sameBut hs (I.cne y c e)⟩
 ·obtain ⟨w',z⟩:=I.cell y c e
  exact ⟨w',z.sameBut hs (I.cne y c e)⟩
 ·obtain ⟨e,n,ne,nf,d⟩:=I.pin p hp
  exact ⟨(hs.2 p.1 ne).trans e,n,ne,nf,d⟩
 ·refine I.hok.keepT fun b u hb q=>(hs.2 b fun z=>?_).trans q
  rw [z] at hb
  exact hb I.free
theorem rL {h:Heap} {a:Addr} {m m':Str→Option Value} (x:h.Ns a m) (y:h.Ns a m'):m=m':=by
 obtain ⟨o,es,ep,ho,hd,_,hf⟩:=x
 obtain ⟨o',es',ep',ho',hd',_,hf'⟩:=y
 rw [ho] at ho';cases ho'
 rw [hd] at hd';cases hd'
 funext n
 rw [← hf n,← hf' n]
theorem QN {A:Around} {E:Value→Shared→Prop} {i:Nat} {x:Str} {pos:Pos} {Q:Unit→Shared→Prop} (I:Inv X pins σ H s) (hN:X.N.Nodup) (hi:X.N[i]?=some x) (hx:X.env.scope.names.lookup x=some .local)
  (h:∀s',Inv X pins (σ.set i none) H s'→Q () s'):wpAny (model X.prog X.w) A (do bindName X.env x .none;unbindBehindTheSuite X.env x pos) Q E s:=by
 have hp:(X.env.scope.kind == .class||(X.env.scope.kind == .module&&X.env.locals != X.env.globals))=false:=by rw [I.ok.kind];rfl
 obtain ⟨m,hn,_⟩:=id I.loc
 refine wpAny_bind (wpAny_bindName (wpAny_storeName_local hx hn (fun h₁ hn₁ hs₁=>?_) hp))
 unfold unbindBehindTheSuite
 refine wpAny_onRaise ?_
 unfold unbindName
 refine wpAny_bind (wpAny_point (wpAny_bind ?_))
 unfold deleteName
 have hl:X.env.kindOf x=some .local:=hx
 simp only [hl,hp]
 rw [if_neg (by decide)]
 refine wpAny_bind (wpAny_nsDel_keeps hn₁ fun h₂ v hn₂ hs₂=>?_)
 simp only [if_true,Option.isSome_some,Bool.not_true,Bool.false_eq_true,if_false]
 refine wpAny_pure (wpAny_point (h _ ?_))
 exact I.unset hN hi (fun m0 h0 y hy=>by rw [rL h0 hn];simp [hy]) hn₂ (hs₁.trans hs₂)
theorem Inv.track {a:Addr} {o:HO} (I:Inv X pins σ H s) (ha:H a=none) (ap:iL X pins a) (new:ObjOk X.prog X.w (upd H a o) s.heap a o):Inv X pins σ (upd H a o) s:=by
 obtain ⟨n0,nl,nc,np⟩:=ap
 refine ⟨I.ok,I.os,I.bare,⟨I.base.keep,I.base.slot,fun b u q n hx=>?_,I.base.there,fun b xs q=>?_,fun b u xs q=>?_,fun b ps q=>?_⟩,I.loc,I.cell,?_,fun x c e=>?_,fun p hp=>?_,fun b u e=>?_,I.len⟩
 ·rw [jP (fun z=>by rw [z,n0] at q;cases q)]
  exact I.base.free b u q n hx
 ·have:=I.base.tups b xs q
  rw [jP (qP this ha)];exact this
 ·have:=I.base.frzs b u xs q
  rw [jP (qP this ha)];exact this
 ·obtain ⟨more,e⟩:=I.base.tbls b ps q
  exact ⟨more,by rw [jP (qP e ha)];exact e⟩
 ·rw [jP (Ne.symm nl)];exact I.free
 ·rw [jP (nc x c e)];exact I.freeC x c e
 ·obtain ⟨h1,h2,h3⟩:=I.pin p hp
  exact ⟨h1,by rw [jP (np p hp)];exact h2,h3⟩
 ·by_cases hb:b=a
  ·subst hb;rw [jE] at e;cases e;exact new
  ·rw [jP hb] at e
   exact (I.hok b u e).stay (fun c v _ q=>q) (fun c q=>by rw [jP (qP q ha)];exact q) fun c xs q=>by rw [jP (qP q ha)];exact q
end
def y9 (a C:Addr):HO:=.ext fun h=>∃o vs,h.get? a=some o∧o.cls=.ref C∧o.data=.fields vs
def sA (K:PySem.W.Frag) (C0:Addr) (i:Nat) (tb:(St→Value→Hp→Prop)→TS) (ts:TS):TS:=fun D σ H=>∃R:St→Value→Hp→Prop,tb R D σ H∧∀σ' c H',R σ' c H'→∃C,c=.ref C∧PySem.W.exmOne K (.ref C) (.ref C0)=some true∧
 ∀a,H' a=none→ts {nx:=fun σ2 H2=>D.nx (σ2.set i none) H2,rt:=D.rt,bk:=fun σ2 H2=>D.bk (σ2.set i none) H2,ct:=fun σ2 H2=>D.ct (σ2.set i none) H2} (σ'.set i (some (.ref a))) (upd H' a (y9 a C))
theorem pF {X:Cx} {body:List Stmt} {x n:Str} {C0:Addr} {i:Nat} {np hpos pos:Pos} {b₀:Stmt} {suite:List Stmt} {tb:(St→Value→Hp→Prop)→TS} {ts:TS} (hex:X.ex=[]) (hstk:X.stack=X.env::X.outer) (hf:X.env.frame=some X.env.locals)
  (hN:X.N.Nodup) (hi:X.N[i]?=some n) (hl:X.env.scope.names.lookup n=some .local)
  (hg:Gl X x) (hm:X.mg x=some (.ref C0)) (hb:∀pins R,z9 (yB X pins R) R→PSs (yB X pins R) body (tb R)) (hs:∀e,PSs (JR X e) (b₀::suite) ts) (hdb:(x == ("__debug__":Str))=false:=by decide) :
  PS X (.Try body [.ExceptHandler (some (.Name x np)) (some n) (b₀::suite) hpos] [] [] pos) (sA X.K C0 i tb ts):=by
 intro pins s σ H D I h
 obtain ⟨R,h1,h2⟩:=h
 refine wpAny_Try_except (wpAny_mono (hb pins R (oN hex) [] s σ H D I.intoTry h1) (fun f s1 q=>?_) (fun v s1 q=>?_))
 ·have q':=q.outTry
  cases f with
  |next=>exact wpAny_execs_nil q'
  |brk=>exact q'
  |cont=>exact q'
  |ret u=>exact q'
 ·obtain ⟨a,C',σ',H',rfl,J,⟨B,a0,fl,ground⟩,ha,ap,r⟩:=q
  obtain ⟨C,e1,hexm,h3⟩:=h2 σ' (.ref C') H' r
  cases e1
  have fl0:Heap.FlyingW B (X.env::X.outer) a (.ref C') a0 s1.heap:=by rw [hstk] at fl;exact fl
  have hfr:X.A.frames=some (X.env::X.outer):=by rw [← hstk];exact J.ok.frames
  refine wpAny_looks_onW hfr hf fl0 fun h4 held4 up4=>?_
  refine wpAny_landsW held4 fun h5 fl5 up5=>?_
  have J5:Inv X pins σ' H' {s1 with heap:=h5}:=J.fly hstk hf (fun b o q n z=>fl5.1 b o (ground b o q n z)) (up4.trans up5)
  obtain ⟨ob,hob,hobc⟩:=fl5.there
  have LT:PySem.W.Looks (model X.prog X.w) h5 (typeOf (.ref a)) (.ref C'):=by
   have:PySem.W.Looks (model X.prog X.w) h5 (typeOf (.ref a)) ob.cls:=(PySem.W.Looks.ld hob).andThen .now
   rw [hobc] at this
   exact this
  refine wpAny_handleBy_cons (codeAny_handlers_test (JT (J5.intoSuite (.ref a)) hg hm ?_ hdb)) (by intro q;cases q)
  have KI:X.K.In h5:=J5.kIn
  refine (PySem.W.exm_one KI LT hexm).here ?_
  refine codeAny_handlers_suite_as ?_
  refine lands_againW fl5 fun h6 fl6 up6=>?_
  have J6:Inv X pins σ' H' {s1 with heap:=h6}:=J.fly hstk hf (fun b o q n z=>fl6.1 b o (ground b o q n z)) ((up4.trans up5).trans up6)
  obtain ⟨oe,vs,hoe,hoec,hoed,_⟩:=fl6.first
  have new:ObjOk X.prog X.w (upd H' a (y9 a C')) h6 a (y9 a C') :=
   ⟨⟨oe,vs,hoe,hoec,hoed⟩,⟨oe,hoe⟩,fun h1 h2 ⟨o,vs,e1,e2,e3⟩ k=>⟨o,vs,k o e1,e2,e3⟩⟩
  have J7:Inv X pins σ' (upd H' a (y9 a C')) {s1 with heap:=h6}:=J6.track ha ap new
  refine bC (X:=JR X (.ref a)) (i:=i) (v:=.ref a) (J7.intoSuite (.ref a)) hN hi (.inl hl) rfl (fun s7 J8=>?_) (.inr hl)
  refine wpAny_mono (hs (.ref a) pins _ _ _ _ J8 (h3 a ha)) (fun f s' q=>?_) fun _ _ z=>False.elim z
  have q':=q.outSuite J6.ok
  cases f with
  |next=>obtain ⟨σ2,H2,I2,q2⟩:=q';exact QN I2 hN hi hl fun s'' I3=>⟨_,_,I3,q2⟩
  |brk=>obtain ⟨σ2,H2,I2,q2⟩:=q';exact QN I2 hN hi hl fun s'' I3=>⟨_,_,I3,q2⟩
  |cont=>obtain ⟨σ2,H2,I2,q2⟩:=q';exact QN I2 hN hi hl fun s'' I3=>⟨_,_,I3,q2⟩
  |ret u=>obtain ⟨v,σ2,H2,I2,r2,q2⟩:=q';exact QN I2 hN hi hl fun s'' I3=>⟨_,_,_,I3,r2,q2⟩
end L2
namespace L2
open PySem PySem.Spec PySem.Calls PyProof.Rows PySem.W
structure ExcAttr (K:PySem.W.Frag) (C:Addr):Prop where
 ga:PySem.W.findIn K (.ref C) "__getattribute__"=some (some (.builtin "BaseException.__getattribute__"))
 gn:PySem.W.findIn K (.ref C) "__getattr__"=some none
 ca:PySem.W.findIn K (.ref C) "__class__"=some (some (.builtin "object.__class__"))
 mo:PySem.W.mroIn K C (.type "object")=some true
 mb:PySem.W.subIn K (.ref C) (.type "BaseException")=some true
section
variable {prog:Program} {w:World} {A:Around} {E:Value→Shared→Prop} {h:Heap} {g:Array GenState} {d:Drawn} {t:Nat} {os:OsState} {a C:Addr} {o:Obj} {K:PySem.W.Frag}
open PySem.Builtin PySem.Builtin.ObjectAttr PySem.Builtin.Getset_descriptor in
theorem rQ {R:Result→Shared→Prop} {tp:Value} (X:K.In h) (Z:ExcAttr K C) (hx:h.get? a=some o) (hc:o.cls=.ref C) (hq:R (.ok (.ret (.ref C))) ⟨h,g,d,t,os⟩) :
  codeAny (model prog w) A (.call (.builtin "getset_descriptor.__get__") ⟨[.builtin "object.__class__",.ref a,tp],[]⟩) R ⟨h,g,d,t,os⟩:=by
 have L0:PySem.W.Looks (model prog w) h (typeOf (.ref a)) (.ref C):=hc▸(PySem.W.Looks.ld hx).andThen .now
 have L1:=PySem.W.looks_mroIn (M:=model prog w) X Z.mo
 refine codeAny_call_builtin KF.slot_gs.plain KF.entry_gs (KF.slot_gs.check _ _ _ _ _ _ _ _ KF.type_class (KF.args_gs _ _ _) ?_)
 unfold Builtin.«getset_descriptor.__get__» descrGet
 rw [dga_obj]
 refine wpAny_bind (wpAny_pure ?_)
 unfold descrGetter descrCheckInstance descrNameAndClass isInstance
 simp only [KF.owner_class]
 repeat lk
 refine ⟨Code.quiet_builtin _ (by decide +kernel),codeAny_builtin KF.entry_class ?_⟩
 unfold Builtin.«object.__class__» shownTypeOf
 repeat lk
 exact hq
theorem oQ {tk:Tok} {Q:Fin→Shared→Prop} (X:K.In h) (Z:ExcAttr K C) (hx:h.get? a=some o) (hc:o.cls=.ref C) (hq:Q (.done (.ret (.ref C))) ⟨h,g,d,t,os⟩) :
  wpAny (model prog w) A (Builtin.«object.__getattribute__» ⟨[.ref a,.str "__class__" tk],[]⟩) Q E ⟨h,g,d,t,os⟩:=by
 have hT5:(⟨h,g,d,t,os⟩:Shared).TypeIs (.builtin "object.__class__") "getset_descriptor":=F.typeOf_object_class
 have f5:=F.typeOf_object_class
 have f6:=F.slot_gs_get.lookup
 have f7:=F.slot_gs_set.lookup
 have L1:=PySem.W.looks_findIn (M:=model prog w) X Z.ca
 repeat (any_goals (first|assumption|(with_reducible refine wpAny_loadPart_at hx ?_;rw [hc])|with_reducible refine L1.at ?_|wp_step))
 refine rQ X Z hx hc ?_
 repeat (any_goals (first|assumption|wp_step))
theorem oR {M:Model} {nameV:Value} {Q:Unit→Shared→Prop} (X:K.In h) (Z:ExcAttr K C) (hx:h.get? a=some o) (hc:o.cls=.ref C) (hq:Q () ⟨h,g,d,t,os⟩) :
  wpAny M A (checkBuiltinCall "BaseException.__getattribute__" ⟨[.ref a,nameV],[]⟩) Q E ⟨h,g,d,t,os⟩:=by
 have hk:builtinKind "BaseException.__getattribute__"=some .slot:=by decide +kernel
 have hsplit:splitId "BaseException.__getattribute__"=some ("BaseException","__getattribute__"):=by decide +kernel
 have L1:PySem.W.Looks M h (isSubtype (.ref C) (.type "BaseException")) true:=PySem.W.looks_subIn X Z.mb
 have ha:=F.args_bexc_ga (.ref a) nameV
 simp only [checkBuiltinCall,hk,hsplit]
 refine wpAny_bind ?_
 ·unfold isInstance
  repeat (first|(with_reducible refine wpAny_loadPart_at hx ?_;rw [hc])|with_reducible refine L1.at ?_|wp_step)
  exact hq
theorem pT {tk:Tok} {R:Result→Shared→Prop} (X:K.In h) (Z:ExcAttr K C) (hx:h.get? a=some o) (hc:o.cls=.ref C) (hq:R (.ok (.ret (.ref C))) ⟨h,g,d,t,os⟩) :
  codeAny (model prog w) A (.call (.builtin "BaseException.__getattribute__") ⟨[.ref a,.str "__class__" tk],[]⟩) R ⟨h,g,d,t,os⟩ :=
 codeAny_call_builtin PySem.F.attr_ValueError.ga.plain F.entry_bexc_ga (oR X Z hx hc (oQ X Z hx hc hq))
theorem sU {tk:Tok} {fill expr:Bool} {Q:Value→Shared→Prop} (X:K.In h) (Z:ExcAttr K C) (hx:h.get? a=some o) (hc:o.cls=.ref C) (hq:Q (.ref C) ⟨h,g,d,t,os⟩) :
  wpAny (model prog w) A (getAttrBy (.ref a) (.str "__class__" tk) fill expr) Q E ⟨h,g,d,t,os⟩:=by
 have f3:=PySem.F.attr_ValueError.ga.bind (.ref a)
 have hx0:(expr&&onTheHeap (Value.builtin "BaseException.__getattribute__"))=false:=by cases expr<;>rfl
 have hx2:(Value.builtin "BaseException.__getattribute__" == Value.builtin "object.__getattribute__")=false:=by decide +kernel
 have hx1:(onTheHeap (Value.ref C)&&Value.builtin "BaseException.__getattribute__" == Value.builtin "object.__getattribute__")=false:=by rw [hx2];rfl
 have L1:=PySem.W.looks_findIn (M:=model prog w) X Z.ga
 have L2:=PySem.W.looks_findIn (M:=model prog w) X Z.gn
 repeat (any_goals (first|assumption|(with_reducible refine wpAny_loadPart_at hx ?_;rw [hc])|with_reducible refine L1.at ?_|with_reducible refine L2.at ?_|wp_step))
 refine pT X Z hx hc ?_
 repeat (any_goals (first|assumption|wp_step))
theorem pU {Q:Option Value→Shared→Prop} (X:K.In h) (Z:ExcAttr K C) (hx:h.get? a=some o) (hc:o.cls=.ref C) (hq:Q (some (.ref C)) ⟨h,g,d,t+1,os⟩) :
  wpAny (model prog w) A (getAttr? (.ref a) "__class__") Q E ⟨h,g,d,t,os⟩:=by
 unfold getAttr? getAttrBy?
 repeat (any_goals (first|assumption|with_reducible apply sU X Z hx hc|wp_step))
end
theorem fF {K:PySem.W.Frag} {a C:Addr} (Z:ExcAttr K C) (hcl:(PySem.W.clsIn K C).isSome=true):PySem.W.KitX K (.ref a) (.ref C) (fun h=>∃o vs,h.get? a=some o∧o.cls=.ref C∧o.data=.fields vs) where
 ty:=fun M h _ ⟨o,_,h1,h2,_⟩=>h2▸(PySem.W.Looks.ld h1).andThen .now
 it:=fun _ _ X _=>by
  unfold PySem.W.clsIn at hcl
  split at hcl
  ·rename_i c' d' cd' sl' ho
   intro A' Q' E' s' k q
   unfold isType loadHead
   exact wpAny_bind (wpAny_loadPart (k _ _ (X _ _ ho)) (wpAny_pure q))
  ·cases hcl
 ne:=fun h tp dd its n sl X htp=>by
  refine Bool.eq_false_iff.mpr fun q=>?_
  have e:C=tp:=Value.ref.inj (beq_iff_eq.mp q)
  subst e
  unfold PySem.W.clsIn at hcl
  split at hcl
  ·rename_i c' d' cd' sl' ho
   have z:=(X _ _ ho).symm.trans htp
   cases z
  ·cases hcl
 ca:=fun {_ _ _ _ _ s} X ⟨o,_,h1,h2,_⟩ k=>by
  obtain ⟨h,g,d,t,os⟩:=s
  exact pU X Z h1 h2 k
section
variable {X:Cx}
def uO (K:PySem.W.Frag):List V→Hp→VK→Prop:=fun xs H Q=>∃(a C:Addr) (c:V) (b:Bool),xs=[.ref a,c]∧H a=some (y9 a C)∧ExcAttr K C∧(PySem.W.clsIn K C).isSome=true∧
 ((∃u,iT c=some u∧PySem.W.kitOne K (.ref C) u=some b)∨∃(p:Addr) (ds:List Addr),c=.ref p∧H p=some (.tup (ds.map V.ref))∧PySem.W.kitAny K (.ref C) (ds.map Value.ref)=some b)∧Q (.bl b) H
theorem dO:∀{ds:List Addr} {us:List Value},Vals (ds.map V.ref) us→us=ds.map Value.ref
 |[],_,r=>by cases r;rfl
 |d::ds,_,r=>by
  cases r with
  |cons h t =>
   cases (show _=Value.ref d from h)
   rw [dO t]
   rfl
theorem JQ {K:PySem.W.Frag} (hK:X.K=K:=by rfl):CallR X (.builtin "isinstance") (uO K):=by
 subst hK
 intro pins s σ H xs us Q I r h
 obtain ⟨a,C,c,b,rfl,ha,Z,hcl,hc,q⟩:=h
 obtain ⟨u1,u2,rfl,r1,r2⟩:=cD r
 cases (show u1=Value.ref a from r1)
 obtain ⟨p,_,_⟩:=(show ObjOk X.prog X.w H s.heap a (y9 a C) from I.hok a _ ha)
 rcases hc with ⟨u,hu,e⟩|⟨tp,ds,rfl,ht,e⟩
 ·have e2:u2=u:=by
   cases c with
   |ty n=>cases (show u2=Value.type n from r2);exact Option.some.inj hu
   |ref a=>cases (show u2=Value.ref a from r2);exact Option.some.inj hu
   |_=>cases hu
  subst e2
  exact PySem.W.kia_one (fF Z hcl) I.kIn p e (fun z=>nomatch z) fun tk=>⟨.bl b,H,I.tok _,rfl,q⟩
 ·cases (show u2=Value.ref tp from r2)
  obtain ⟨_,its,rv,ob,h1,h2,n,h3⟩:=(show ObjOk X.prog X.w H s.heap tp (.tup (ds.map V.ref)) from I.hok tp _ ht)
  have hi:=dO rv
  subst hi
  obtain ⟨oc,od,odt,osl⟩:=ob
  dsimp only at h2 h3
  subst h2 h3
  exact PySem.W.kia_tup (fF Z hcl) I.kIn p h1 e (fun z=>nomatch z) fun tk=>⟨.bl b,H,I.tok _,rfl,q⟩
end
end L2
namespace L2
open PySem PySem.Spec PyProof.Rows
end L2
namespace L2
open PySem PySem.Spec PyProof.Rows
section
variable {X:Cx} {x:Str} {C:Addr} {pos p:Pos} {e:Expr} {es:List Expr} {t:TA}
end
end L2
namespace L2
open PySem PySem.Spec PyProof.Rows
section
variable {X:Cx}
end
end L2
namespace L2
open PySem PySem.Spec PyProof.Rows
section
variable {X:Cx} {R:St→Value→Hp→Prop} {k k':Nat} {x m:Str} {C:Addr} {ps:List Str} {sp:Sp} {p pos apos:Pos} {o e:Expr} {es:List Expr} {ta:TE} {t:TA}
end
end L2
namespace L2
open PySem PySem.Spec PyProof.Rows
section
variable {κ:Type} [DecidableEq κ]
def kU (kvs:List (κ×V)) (k:κ):Option V:=(kvs.find? fun kv=>decide (kv.1=k)).map (·.2)
def qE (kvs:List (κ×V)) (k:κ) (v:V):List (κ×V) :=
 if (kvs.any fun kv=>decide (kv.1=k))=true then kvs.map (fun kv=>if kv.1=k then (kv.1,v) else kv) else kvs++[(k,v)]
def iJ (kvs:List (κ×V)) (k:κ):List (κ×V):=kvs.filter fun kv=>decide (kv.1≠k)
theorem valV_nil {k:κ}:kU ([]:List (κ×V)) k=none:=rfl
theorem JM {p:κ×V} {r:List (κ×V)} {k:κ} (e:p.1=k):kU (p::r) k=some p.2:=by simp [kU,List.find?_cons,e]
theorem zV {p:κ×V} {r:List (κ×V)} {k:κ} (e:¬p.1=k):kU (p::r) k=kU r k:=by simp [kU,List.find?_cons,e]
theorem eL (k:κ):∀kvs:List (κ×V),(kvs.any fun kv=>decide (kv.1=k))=(kU kvs k).isSome
 |[]=>rfl
 |p::r=>by
  rw [List.any_cons]
  by_cases e:p.1=k
  ·simp only [JM e,decide_eq_true e,Bool.true_or,Option.isSome_some]
  ·rw [zV e,decide_eq_false e,Bool.false_or];exact eL k r
theorem mS (kvs:List (κ×V)) (k:κ) (v:V):(qE kvs k v).length≤kvs.length+1:=by
 unfold qE
 split
 ·rw [List.length_map];omega
 ·rw [List.length_append,List.length_cons,List.length_nil];omega
theorem eX {kvs:List (κ×V)} {k:κ} (v:V) (h:kU kvs k=none):qE kvs k v=kvs++[(k,v)]:=by
 unfold qE
 rw [eL,h]
 exact if_neg (by decide)
theorem RelO.getD {o:Option V} {u:Option Value} {d:V} {d':Value} (r:RelO o u) (rd:RelV d d'):RelV (o.getD d) (u.getD d'):=by
 cases o with
 |none=>cases u with
  |none=>exact rd
  |some _=>exact (show False from r).elim
 |some _=>cases u with
  |none=>exact (show False from r).elim
  |some _=>exact r
theorem KV.val {kvs:List (κ×V)} {vs:List (κ×Value)} (r:KV kvs vs) (k:κ):RelO (kU kvs k) (valueAt vs k):=by
 unfold KV at r
 induction r with
 |nil=>exact True.intro
 |@cons p q ps qs h t ih =>
  obtain ⟨h1,h2⟩:=h
  by_cases e:p.1=k
  ·have e':q.1=k:=h1.symm.trans e
   have b:valueAt (q::qs) k=some q.2:=by simp [valueAt,List.find?_cons,e']
   rw [JM e,b];exact h2
  ·have e':¬q.1=k:=fun z=>e (h1.trans z)
   have b:valueAt (q::qs) k=valueAt qs k:=by simp [valueAt,List.find?_cons,e']
   rw [zV e,b];exact ih
theorem KV.any {kvs:List (κ×V)} {vs:List (κ×Value)} (r:KV kvs vs) (k:κ):(kvs.any fun kv=>decide (kv.1=k))=vs.any fun kv=>decide (kv.1=k):=by
 unfold KV at r
 induction r with
 |nil=>rfl
 |cons h t ih=>rw [List.any_cons,List.any_cons,ih,h.1]
theorem KV.repl {kvs:List (κ×V)} {vs:List (κ×Value)} (r:KV kvs vs) (k:κ) {y:V} {u:Value} (ry:RelV y u) :
  KV (kvs.map fun kv=>if kv.1=k then (kv.1,y) else kv) (vs.map fun kv=>if kv.1=k then (kv.1,u) else kv):=by
 unfold KV at r ⊢
 induction r with
 |nil=>exact .nil
 |@cons p q ps qs h t ih =>
  rw [List.map_cons,List.map_cons]
  refine .cons ?_ ih
  obtain ⟨h1,h2⟩:=h
  by_cases e:p.1=k
  ·rw [if_pos e,if_pos (h1.symm.trans e)];exact ⟨h1,ry⟩
  ·rw [if_neg e,if_neg (fun z=>e (h1.trans z))];exact ⟨h1,h2⟩
theorem KV.put {kvs:List (κ×V)} {vs:List (κ×Value)} (r:KV kvs vs) (k:κ) {y:V} {u:Value} (ry:RelV y u):KV (qE kvs k y) (stored vs k u):=by
 unfold qE stored
 rw [r.any k]
 by_cases e:(vs.any fun kv=>decide (kv.1=k))=true
 ·rw [if_pos e,if_pos e];exact r.repl k ry
 ·rw [if_neg e,if_neg e];exact Paired.snoc r ⟨rfl,ry⟩
theorem KV.drop {kvs:List (κ×V)} {vs:List (κ×Value)} (r:KV kvs vs) (k:κ):KV (iJ kvs k) (without vs k):=by
  unfold KV at r ⊢
  unfold iJ without
  induction r with
  |nil=>exact .nil
  |@cons p q ps qs h t ih =>
    obtain ⟨h1,h2⟩:=h
    rw [List.filter_cons,List.filter_cons]
    by_cases e:p.1=k
    · have a:¬decide (p.1≠k)=true:=by simp [e]
      have b:¬decide (q.1≠k)=true:=by simp [h1.symm.trans e]
      rw [if_neg a,if_neg b];exact ih
    · have e':¬q.1=k:=fun z=>e (h1.trans z)
      have a:decide (p.1≠k)=true:=by simp [e]
      have b:decide (q.1≠k)=true:=by simp [e']
      rw [if_pos a,if_pos b];exact .cons ⟨h1,h2⟩ ih
theorem KV.length {kvs:List (κ×V)} {vs:List (κ×Value)} (r:KV kvs vs):kvs.length=vs.length:=Paired.length r
end
theorem cG {P:Program} {w:World} {k:jK} {u:Value} (r:RelV (kV k) u):(qC P w).is k u=true:=by
 cases k with
 |inl i=>obtain ⟨t,e⟩:=(show ∃t,u=Value.int i t from r);subst e;exact mQ P w i t
 |inr x=>obtain ⟨t,e⟩:=(show ∃t,u=Value.str x t from r);subst e;exact mP P w x t
theorem d9 {P:Program} {w:World}:∀{ks:List jK} {us:List Value},Vals (ks.map kV) us→ItemsAre (qC P w) ks us
 |[],_,r=>by rw [List.map_nil] at r;cases r;exact .nil
 |k::ks,_,r=>by
  rw [List.map_cons] at r
  cases r with
  |cons h t=>exact .cons (cG h) (d9 t)
abbrev KT (H:Hp):List (List jK×V)→List (List jK×Addr×Value)→Prop:=Paired fun p q=>p.1=q.1∧H q.2.1=some (.tup (p.1.map kV))∧RelV p.2 q.2.2
theorem KT.val {H:Hp} {kvs:List (List jK×V)} {xs:List (List jK×Addr×Value)} (r:KT H kvs xs) (k:List jK):RelO (kU kvs k) ((atKey xs k).map (·.2)):=by
 induction r with
 |nil=>exact True.intro
 |@cons p q ps qs h t ih =>
  obtain ⟨h1,_,h2⟩:=h
  by_cases e:p.1=k
  ·have e':q.1=k:=h1.symm.trans e
   have b:atKey (q::qs) k=some q.2:=by simp [atKey,List.find?_cons,e']
   rw [JM e,b];exact h2
  ·have e':¬q.1=k:=fun z=>e (h1.trans z)
   have b:atKey (q::qs) k=atKey qs k:=by simp [atKey,List.find?_cons,e']
   rw [zV e,b];exact ih
section
variable {P:Program} {w:World} {H:Hp} {h:Heap} {a:Addr}
theorem iC {u:HO} (ok:HOk P w H h) (e:Rd H a u):ObjOk P w H h a u:=e.ok ok
theorem cJ {kvs:List (jK×V)} (ok:HOk P w H h) (e:Rd H a (.dK kvs)):kvs.length≤sizeLine∧(a == sysModules)=false∧∃vs,KV kvs vs∧h.DictOf (qC P w) a vs :=
 show ObjOk P w H h a (.dK kvs) from iC ok e
theorem tX {kvs:List (jK×V)} (ok:HOk P w H h) (e:H a=some (.dK kvs)):kvs.length≤sizeLine∧(a == sysModules)=false∧∃vs,KV kvs vs∧h.DictOf (qC P w) a vs:=cJ ok (.inl e)
theorem gU {ks:List jK} (ok:HOk P w H h) (e:H a=some (.tup (ks.map kV))):(tupleKind (qC P w)).is h ks a:=by
 obtain ⟨_,its,r,o,h1,h2,n,h3⟩:=(show ObjOk P w H h a (.tup (ks.map kV)) from ok a _ e)
 exact ⟨o,its.toArray,n,h1,h2,h3,by simpa using d9 r⟩
theorem iI {kvs:List (List jK×V)} (ok:HOk P w H h) (e:Rd H a (.dT kvs)):kvs.length≤sizeLine∧(a == sysModules)=false∧
  ∃xs,KT H kvs xs∧h.DictOfH (tupleKind (qC P w)) a xs:=by
 obtain ⟨z,y,xs,r,o,es,ep,h1,h2,h3,h4,h5⟩:=(show ObjOk P w H h a (.dT kvs) from iC ok e)
 refine ⟨z,y,xs,r,o,es,ep,h1,h2,h3,h4,fun x hx=>?_,h5⟩
 have all:∀{l:List (List jK×V)} {m:List (List jK×Addr×Value)},KT H l m→∀x∈m,(tupleKind (qC P w)).is h x.1 x.2.1:=by
  intro l m q
  induction q with
  |nil=>intro x hx;exact nomatch hx
  |@cons p q ps qs hq t ih =>
   intro x hx
   rcases List.mem_cons.mp hx with e|hx
   ·subst e
    exact gU ok (by rw [← hq.1];exact hq.2.1)
   ·exact ih x hx
 exact all r x hx
end
def DGet (H:Hp) (a:Addr) (y:V) (r:Option V):Prop :=
 (∃kvs k,Rd H a (.dK kvs)∧y=kV k∧r=kU kvs k)∨∃kvs k b,Rd H a (.dT kvs)∧y=.ref b∧H b=some (.tup (k.map kV))∧r=kU kvs k
def DPut (H:Hp) (a:Addr) (y v:V) (H':Hp):Prop :=
 (∃kvs k,H a=some (.dK kvs)∧y=kV k∧kvs.length<sizeLine∧H'=upd H a (.dK (qE kvs k v)))∨
 ∃kvs k b,H a=some (.dT kvs)∧y=.ref b∧H b=some (.tup (k.map kV))∧kvs.length<sizeLine∧H'=upd H a (.dT (qE kvs k v))
theorem DGet.k {H:Hp} {a:Addr} {kvs:List (jK×V)} {k:jK} (e:H a=some (.dK kvs)):DGet H a (kV k) (kU kvs k):=.inl ⟨kvs,k,.inl e,rfl,rfl⟩
theorem DGet.t {H:Hp} {a b:Addr} {kvs:List (List jK×V)} {k:List jK} (e:H a=some (.dT kvs)) (eb:H b=some (.tup (k.map kV))):DGet H a (.ref b) (kU kvs k):=.inr ⟨kvs,k,b,.inl e,rfl,eb,rfl⟩
theorem DPut.k {H:Hp} {a:Addr} {kvs:List (jK×V)} {k:jK} {v:V} (e:H a=some (.dK kvs)) (hl:kvs.length<sizeLine):DPut H a (kV k) v (upd H a (.dK (qE kvs k v))):=.inl ⟨kvs,k,e,rfl,hl,rfl⟩
theorem DPut.t {H:Hp} {a b:Addr} {kvs:List (List jK×V)} {k:List jK} {v:V} (e:H a=some (.dT kvs)) (eb:H b=some (.tup (k.map kV))) (hl:kvs.length<sizeLine) :
  DPut H a (.ref b) v (upd H a (.dT (qE kvs k v))):=.inr ⟨kvs,k,b,e,rfl,eb,hl,rfl⟩
section
variable {X:Cx} {pins:List (Addr×Obj)} {σ:St} {H:Hp} {s:Shared} {a:Addr} {y v:V} {u r:Value} {o:Option V} {A:Around} {E:Value→Shared→Prop}
theorem Inv.big (I:Inv X pins σ H s):sysModules<s.heap.objs.size:=by
 have h:mainGlobals<s.heap.objs.size:=(I.mod.glob.keeps I.bk).lt
 exact Nat.lt_trans (by decide) h
theorem rR {h':Heap} {t':Nat} {ob:HO} (I:Inv X pins σ H s) (mu:QD (H a)) (hs:Heap.SameBut a s.heap h') (he:∃q,h'.get? a=some q) (new:ObjOk X.prog X.w (upd H a ob) h' a ob) :
  Inv X pins σ (upd H a ob) {s with heap:=h',toks:=t'} :=
 I.write (x:=a) (e:=a) mu (.inl rfl) (fun b q hb z=>(hs.2 b hb).trans z) he new
theorem sX {P:Program} {w:World} {H':Hp} {h':Heap} {kvs:List (jK×V)} {vs:List (jK×Value)} (z:kvs.length≤sizeLine) (hd:(a == sysModules)=false) (rel:KV kvs vs) (dd:h'.DictOf (qC P w) a vs) :
  ObjOk P w H' h' a (.dK kvs):=⟨z,hd,vs,rel,dd⟩
end
section
variable {X:Cx} {pins:List (Addr×Obj)} {σ:St} {H:Hp} {s:Shared} {a:Addr} {kvs:List (jK×V)} {k:jK} {u:Value} {A:Around} {E:Value→Shared→Prop}
end
section
variable {X:Cx} {o i e value:Expr} {pos pos' tpos:Pos} {td ty tv:TE}
end
theorem pW {P:Program} {w:World} {H:Hp} (h:Heap) (hb:sysModules<h.objs.size):ObjOk P w H (h.push {cls:=.type "dict",data:=.dict #[]}) h.objs.size (.dK []) :=
 ⟨Nat.zero_le _,beq_eq_false_iff_ne.mpr (Ne.symm (Nat.ne_of_lt hb)),[],.nil,Heap.DictOf.new h⟩
section
variable {X:Cx} {pos:Pos}
end
def bR:List (TE×TE)→St→Hp→(List (V×V)→Hp→Prop)→Prop
 |[],_,H,Q=>Q [] H
 | (tk,tv)::r,σ,H,Q=>tk σ H fun x H1=>tv σ H1 fun y H2=>bR r σ H2 fun ps H3=>Q ((x,y)::ps) H3
abbrev VV:List (V×V)→List (Value×Value)→Prop:=Paired fun p q=>RelV p.1 q.1∧RelV p.2 q.2
def ZN (X:Cx) (pos:Pos) (keys:List (Option Expr)) (values:List Expr) (trs:List (TE×TE)):Prop :=
 ∀(pins:List (Addr×Obj)) (s:Shared) (σ:St) (H:Hp) (Q:List (V×V)→Hp→Prop),Inv X pins σ H s→bR trs σ H Q→
  wpAny (model X.prog X.w) X.A (evalPairs (pairTrees keys values X.env pos)) (fun vs s'=>∃ps H',Inv X pins σ H' s'∧VV ps vs∧Q ps H') X.xe s
theorem gA {X:Cx} {pos:Pos}:ZN X pos [] [] []:=fun pins s σ H Q I h=>pairTrees_nil_walk ⟨[],H,I,.nil,h⟩
theorem QU {X:Cx} {pos:Pos} {k v:Expr} {ks:List (Option Expr)} {vs:List Expr} {tk tv:TE} {trs:List (TE×TE)} (hk:PE X k tk) (hv:PE X v tv) (hr:ZN X pos ks vs trs) :
  ZN X pos (some k::ks) (v::vs) ((tk,tv)::trs):=fun pins s σ H Q I h =>
 pairTrees_cons_walk (jD (hk pins s σ H _ I h) fun u s1 ⟨x,H1,I1,rx,q1⟩=>jD (hv pins s1 σ H1 _ I1 q1) fun w2 s2 ⟨y,H2,I2,ry,q2⟩ =>
  jD (hr pins s2 σ H2 _ I2 q2) fun ws s3 ⟨ps,H3,I3,rel,q3⟩=>⟨(x,y)::ps,H3,I3,.cons ⟨rx,ry⟩ rel,q3⟩)
def z4 (kvs more:List (jK×V)):List (jK×V):=more.foldl (fun acc kv=>qE acc kv.1 kv.2) kvs
theorem KV.merge:∀{more:List (jK×V)} {rs:List (jK×Value)} {kvs:List (jK×V)} {vs:List (jK×Value)},KV more rs→KV kvs vs→KV (z4 kvs more) (merged vs rs):=by
 intro more rs kvs vs r
 unfold KV at r
 induction r generalizing kvs vs with
 |nil=>intro q;exact q
 |@cons p q ps qs h t ih =>
  intro r0
  have e:KV (qE kvs p.1 p.2) (stored vs q.1 q.2):=by
   have:=r0.put p.1 h.2
   rw [← h.1];exact this
  exact ih e
theorem dA:∀(more kvs:List (jK×V)),(z4 kvs more).length≤kvs.length+more.length
 |[],kvs=>by show kvs.length≤kvs.length+0;omega
 |p::r,kvs=>by
  have h1:=dA r (qE kvs p.1 p.2)
  have h2:=mS kvs p.1 p.2
  show (z4 (qE kvs p.1 p.2) r).length≤_
  rw [List.length_cons];omega
theorem dM {P:Program} {w:World}:∀{kvs:List (jK×V)} {ws:List (Value×Value)},VV (kvs.map fun kv=>(kV kv.1,kv.2)) ws→∃rs,Carries (qC P w) ws rs∧KV kvs rs
 |[],_,r=>by rw [List.map_nil] at r;cases r;exact ⟨[],True.intro,.nil⟩
 |p::kvs,_,r=>by
  rw [List.map_cons] at r
  cases r with
  |@cons a b as bs h t =>
   obtain ⟨rs,c,q⟩:=dM (P:=P) (w:=w) t
   obtain ⟨b1,b2⟩:=b
   exact ⟨(p.1,b2)::rs,⟨cG h.1,rfl,c⟩,.cons ⟨rfl,h.2⟩ q⟩
def tK (trs:List (TE×TE)):TE:=fun σ H Q=>∀p,H p=none→bR trs σ (upd H p (.dK [])) fun ps H2=>H2 p=some (.dK [])∧∃kvs:List (jK×V),ps=kvs.map (fun kv=>(kV kv.1,kv.2))∧kvs.length≤15∧Q (.ref p) (upd H2 p (.dK (z4 [] kvs)))
theorem gD {X:Cx} {pos:Pos} {keys:List (Option Expr)} {values:List Expr} {trs:List (TE×TE)} (h:ZN X pos keys values trs) (hall:keys.all (·.isSome)=true) (hl:keys.length=values.length) (h0:keys≠[])
  (h15:keys.length≤15):PE X (.Dict keys values pos) (tK trs):=by
 intro pins s σ H Q I q
 have hn:=I.hok.fresh (Nat.le_refl s.heap.objs.size)
 have I1:=I.laid (a:=s.heap.objs.size) (o:=.dK []) (h':=s.heap.push {cls:=.type "dict",data:=.dict #[]}) (t':=s.toks) (fun _ _ q=>Heap.get?_push_of_some _ q) (Nat.le_refl _) (pW s.heap I.big)
 refine wpAny_Dict_walk (knd:=qC X.prog X.w) hall hl h0 h15 (jD (h pins _ σ _ _ I1 (q _ hn)) fun ws s2 ⟨ps,H2,I2,rel,e,kvs,ep,lk,q2⟩=>?_)
 subst ep
 obtain ⟨rs,c,rk⟩:=dM (P:=X.prog) (w:=X.w) rel
 obtain ⟨z,hd,vs0,r0,dd⟩:=tX I2.hok e
 cases r0
 refine ⟨rs,c,dd,fun h' dd' hs=>⟨.ref s.heap.objs.size,_,?_,rfl,q2⟩⟩
 have hz:(z4 [] kvs).length≤sizeLine:=by
  have h1:=dA kvs []
  rw [List.length_nil] at h1
  rw [sizeLine_eq];omega
 have he:∃q,h'.get? s.heap.objs.size=some q:=let ⟨q,_,_,hq,_⟩:=dd';⟨q,hq⟩
 exact rR I2 (by rw [e];exact True.intro) hs he (sX hz hd (rk.merge .nil) dd')
end L2
namespace L2
open PySem PySem.Spec PyProof.Rows
section
variable {X:Cx} {tg:Expr}
end
section
variable {X:Cx}
def rC:V→List V→Hp→VK→Prop:=fun x vs H Q=>∃(l:Addr) (xs:List V) (k:Nat) (y:V),x=.ref l∧vs=[.int (k:Int),y]∧H l=some (.lst xs)∧k≤xs.length∧xs.length≤1000∧Q .non (upd H l (.lst (xs.take k++y::xs.drop k)))
theorem oE:QE X "list.insert" rC:=by
 intro pins s σ H x vs v us Q I rx rv h
 obtain ⟨l,xs,k,y,rfl,rfl,hH,h1,h2,q⟩:=h
 cases rx
 obtain ⟨u1,u2,rfl,⟨t,rfl⟩,ru⟩:=cD rv
 obtain ⟨z,its,n,r,hl,e⟩:=I.lstM hH
 have hs:xs.length<sizeLine:=vM h2
 have hf:¬(!Builtin.List.listFitsIndex (k:Int))=true:=by
  have e:Builtin.List.listFitsIndex (k:Int)=true:=by
   show (decide (-(2 ^ 63:Int)≤(k:Int))&&decide ((k:Int)<2 ^ 63))=true
   rw [decide_eq_true (by omega),decide_eq_true (by omega)]
   rfl
  rw [e]
  decide
 have hsz:its.toArray.size≤sizeLine:=by rw [List.size_toArray];omega
 generalize hx:(k:Int)=x at hf ⊢
 refine call_meets F.slot_list_insert ⟨_,e,rfl⟩ F.entry_list_insert (F.args_list_insert_3 _ _ _) (PySem.AutoSeq1.list_insert_list_int_val_1 l its.toArray n x t u2 hf hsz) ⟨e,?_⟩
 refine ⟨.non,_,I.lset (its':=its.take k++u2::its.drop k) hH e ?_ ((Vals.take k r).append (.cons ru (Vals.drop k r))) ?_,rfl,q⟩
 ·show (its.toArray.extract 0 (if x<0 then (x+(its.toArray.size:Int)).toNat else min x.toNat its.toArray.size)).push u2++its.toArray.extract (if x<0 then (x+(its.toArray.size:Int)).toNat else min x.toNat its.toArray.size)=_
  have ek:(if x<0 then (x+(its.toArray.size:Int)).toNat else min x.toNat its.toArray.size)=k:=by
   rw [if_neg (by omega),List.size_toArray]
   omega
  rw [ek]
  exact PySem.W.kl_ins_eq its k u2
 ·rw [List.length_append,List.length_cons,List.length_take,List.length_drop]
  omega
end
end L2
namespace L2
open PySem PySem.Spec PyProof.Rows
inductive Kd where
 |plain|basin|pump
section
variable {X:Cx} {k k':Nat} {x m:Str} {cs:Kd→Addr} {ps:List Str} {ss:Kd→Sp} {p pos apos:Pos} {o e:Expr} {es:List Expr} {ta:TE} {t:TA}
end
end L2
namespace L2
open PySem PySem.Spec PyProof.Rows
def QG (z:Str):It:=⟨fun i _=>i<z.cps.size,fun i H v H'=>H'=H∧∃c,z.cps[i]?=some c∧v=.str ⟨#[c]⟩,fun i _=>i=z.cps.size⟩
theorem dR {P:Program} {w:World} {K:PySem.W.Frag} {tg:Expr} (it:Addr) (z:Str) (t:Tok) (T:String)
  (W:∀A:Around,A.handled=none→Walks P w A it [it] [it] z.cps.size (SignAt z) (fun i h=>h.IsStrIter it T z t i))
  (hn:["enumerate","zip","dict_itemiterator","dict_reverseitemiterator","odict_iterator","itertools.zip_longest","itertools.pairwise"].contains T=false)
  (hself:∀(A:Around) (i:Nat) (s:Shared) (Q:Value→Shared→Prop) (E:Value→Shared→Prop),s.heap.IsStrIter it T z t i→Q (.ref it) s→wpAny (model P w) A (pyIter (.ref it)) Q E s) :
  Turn P w K tg (QG z) [it] it (fun i h=>h.IsStrIter it T z t i) where
 mem:=by simp
 obj:=fun i h st b hb=>by
  have e:b=it:=by simpa using hb
  subst e
  obtain ⟨o,ho,_,hd⟩:=st
  exact ⟨o,ho,fun v q=>by rw [hd] at q;cases q⟩
 keep:=fun i h h' st k=>by
  obtain ⟨o,ho,r⟩:=st
  exact ⟨o,k it (by simp) o ho,r⟩
 item:=by
  intro X hP hw hK hc i pins s σ H E I hf st hg
  subst hP hw hK
  obtain ⟨f0,f1,f2,f3,f4,f5⟩:=hf it (by simp)
  refine (W X.A (I.ok.hd hc)).item i s _ _ hg st fun v h' tk hv st' kk=>?_
  obtain ⟨c,u,hcx,rfl⟩:=hv
  have I1:Inv X pins σ H {s with heap:=h',toks:=tk}:=I.turned (fun b o hb e=>kk b o (by simpa using hb) e) f0 f1 f3 f4 f5
  have st2:=st'
  obtain ⟨o,ho,hcl,hd⟩:=st2
  exact ⟨_,rfl,ZD (s:={s with heap:=h',toks:=tk}) (n:=T) ho hcl hd hn ⟨.str ⟨#[c]⟩,H,I1,⟨u,rfl⟩,⟨rfl,c,hcx,rfl⟩,st',fun b hb=>(hf b hb).1⟩⟩
 done:=by
  intro X hP hw hK hc i pins s σ H E I hf st hg
  subst hP hw hK
  obtain ⟨f0,f1,f2,f3,f4,f5⟩:=hf it (by simp)
  have e:i=z.cps.size:=hg
  subst e
  exact (W X.A (I.ok.hd hc)).done s _ _ st fun h' tk eb=>⟨rfl,I.turned (fun b o hb e=>eb b o (by simpa using hb) e) f0 f1 f3 f4 f5⟩
 self:=fun A i s Q E st h=>hself A i s Q E st h
section
variable {X:Cx} {tg:Expr}
def uS (tl:TE):TI:=fun σ H R=>tl σ H fun x H1=>∃z:Str,x=.str z∧R (QG z) H1
theorem sI {l:Expr} {tl:TE} (hl:PE X l tl):PI X tg l (uS tl):=by
 intro pins s σ H R I h
 refine jD (hl pins s σ H _ I h) fun v s1 ⟨x,H1,I1,r1,q1⟩=>?_
 obtain ⟨z,e,q⟩:=q1
 subst e
 obtain ⟨t,rfl⟩:=r1
 have fin:∀(o:Obj) (T:String) (tn:Nat→Heap→Prop),Turn X.prog X.w X.K tg (QG z) [s1.heap.objs.size] s1.heap.objs.size tn→tn 0 (s1.heap.push o)→cV X pins σ tg R (.ref s1.heap.objs.size) {s1 with heap:=s1.heap.push o}:=by
  intro o T tn tu h0
  refine ⟨s1.heap.objs.size,[s1.heap.objs.size],tn,_,H1,rfl,I1.kept (t':=s1.toks) fun b o e=>Heap.get?_push_of_some _ e,tu,h0,fun b hb=>?_,q⟩
  have e:b=s1.heap.objs.size:=by simpa using hb
  subst e
  exact I1.fpOk (Nat.le_refl _) (I1.hok.fresh (Nat.le_refl _))
 cases ha:z.cps.all (· < 128)
 ·exact wpAny_pyIter_wide ha (fin _ "str_iterator" _ (dR _ z t "str_iterator" (fun A hA=>Walks.strWide hA _ z t) (by decide) (fun A i s Q E st h=>wpAny_pyIter_striter_wide st h)) ⟨_,Heap.get?_push_size _ rfl,rfl,rfl⟩)
 ·exact wpAny_pyIter_ascii ha (fin _ "str_ascii_iterator" _ (dR _ z t "str_ascii_iterator" (fun A hA=>Walks.strAscii hA _ z t) (by decide) (fun A i s Q E st h=>wpAny_pyIter_striter_ascii st h)) ⟨_,Heap.get?_push_size _ rfl,rfl,rfl⟩)
end
theorem nN {z:Str} {D:Addr} {g:TG} {tc:TT} {te:TE} {σ₀:St} {H:Hp} {Q:Hp→Prop} (Pv:Nat→St→Hp→Prop) (h0:Pv 0 σ₀ (upd H D (.lst [])))
  (hs:∀i c σ H,z.cps[i]?=some c→Pv i σ H→g (.str ⟨#[c]⟩) σ H fun σ2 H3=>tc σ2 H3 fun b H4=>if b=true then te σ2 H4 fun v H5=>∃ys,H5 D=some (.lst ys)∧ys.length<sizeLine∧Pv (i+1) σ2 (upd H5 D (.lst (ys++[v]))) else Pv (i+1) σ2 H4)
  (hd:∀σ H,Pv z.cps.size σ H→Q H):vX D (QG z) g tc te σ₀ H Q:=by
 refine ⟨fun i m σ H=>m=z.cps.size - i∧i≤z.cps.size∧Pv i σ H,⟨_,rfl,Nat.zero_le _,h0⟩,?_⟩
 rintro i m σ H ⟨rfl,hi,p⟩
 by_cases hlt:i<z.cps.size
 ·refine .inr ⟨hlt,Pv (i+1),fun σ' H' p'=>⟨z.cps.size - (i+1),by omega,rfl,hlt,p'⟩,fun x H' y=>?_⟩
  obtain ⟨e,c,hc,y⟩:=y
  subst e y
  exact hs i c σ _ hc p
 ·have e:i=z.cps.size:=by omega
  subst e
  exact .inl ⟨rfl,hd σ H p⟩
theorem oX {z:Str} {D:Addr} {tc:TT} {te:TE} {caps:St} {H:Hp} {Q:Hp→Prop} (R:Nat→List V→Hp→Prop) (hD:H D=none) (h0:R 0 [] (upd H D (.lst [])))
  (hs:∀i c ys Hi,z.cps[i]?=some c→ys.length≤i→Same H Hi→Hi D=some (.lst ys)→R i ys Hi→tc (some (.str ⟨#[c]⟩)::caps) Hi fun b H4=>if b=true then te (some (.str ⟨#[c]⟩)::caps) H4 fun v H5=>∃zs,H5 D=some (.lst zs)∧zs.length<sizeLine∧yA H D caps R (i+1) (some (.str ⟨#[c]⟩)::caps) (upd H5 D (.lst (zs++[v])))
   else yA H D caps R (i+1) (some (.str ⟨#[c]⟩)::caps) H4)
  (hd:∀ys Hf,Same H Hf→Hf D=some (.lst ys)→ys.length≤z.cps.size→R z.cps.size ys Hf→Q Hf):vX D (QG z) (ZE 0) tc te (none::caps) H Q:=by
 refine nN (yA H D caps R) ⟨[],none,rfl,qX hD (Same.refl H),jE,Nat.le_refl _,h0⟩ ?_ ?_
 ·rintro i c σ Hi hi ⟨ys,c',rfl,s,hY,hl,r⟩
  exact hs i c ys Hi hi hl s hY r
 ·rintro σ Hf ⟨ys,c,rfl,s,hY,hl,r⟩
  exact hd ys Hf s hY hl r
section
variable {X:Cx}
end
end L2
namespace L2
open PySem PySem.Spec PyProof.Rows
section
variable {X:Cx} {K:PySem.W.Frag} {w:World} {o i:Expr} {pos:Pos} {td ty:TE}
end
theorem rA {K:PySem.W.Frag} {H:Hp} {a:Addr} {o:Obj} {its:List Value} {n:Nat} {xs:List V} (l:K.lookup a=some o) (c:o.cls=.type "tuple") (d:o.data=.seq its.toArray n) (z:its.length≤sizeLine) (v:Vals xs its):SqT K H a xs :=
 .inr ⟨o,its.toArray,n,l,c,d,by rw [List.size_toArray];exact z,v⟩
end L2
namespace L2
open PySem PySem.Spec PyProof.Rows
inductive DEq (K:PySem.W.Frag) (H:Hp):V→V→Bool→Prop where
 |flat {x y:V} (hx:qD x=true) (hy:qD y=true):DEq K H x y (qO x y)
 |same (a:Addr):DEq K H (.ref a) (.ref a) true
 |tup {a b:Addr} {xs ys:List V} (ne:a≠b) (ha:SqT K H a xs) (hb:SqT K H b ys) (fx:xs.all qD=true) (fy:ys.all qD=true):DEq K H (.ref a) (.ref b) (yE xs ys)
 |lst {a b:Addr} {xs ys:List V} (ne:a≠b) (ha:SqL K H a xs) (hb:SqL K H b ys) (fx:xs.all qD=true) (fy:ys.all qD=true):DEq K H (.ref a) (.ref b) (yE xs ys)
section
variable {X:Cx} {pins:List (Addr×Obj)} {σ:St} {H:Hp} {s:Shared} {A:Around}
theorem DEq.at {x y:V} {u v:Value} {e:Bool} (I:Inv X pins σ H s) (d:DEq X.K H x y e) (rx:RelV x u) (ry:RelV y v) (hu:A.units<cLine):SeqAt.EqAt A s u v e:=by
 cases d with
 |flat hx hy=>exact Q6 rx ry hx hy
 |same a=>cases rx;cases ry;exact SeqAt.EqAt.same _
 |@tup a b xs ys ne ha hb fx fy =>
  cases rx;cases ry
  obtain ⟨its,r,pl,hz⟩:=I.tuple ha
  obtain ⟨its2,r2,pl2,hz2⟩:=I.tuple hb
  have hl:=r.length
  have hl2:=r2.length
  have h:=SeqAt.RcAt.tuples (A:=A) (e:=fun j=>qO (xs.getD j .non) (ys.getD j .non)) pl pl2 hu (fun j h1 h2=>Q6 (QL r h1) (QL r2 h2) (QO fx (by rw [hl];simpa using h1)) (QO fy (by rw [hl2];simpa using h2)))
  have e:((List.range (min its.toArray.size its2.toArray.size)).all (fun j=>qO (xs.getD j .non) (ys.getD j .non))&&its.toArray.size == its2.toArray.size)=yE xs ys:=by
   unfold yE
   rw [List.size_toArray,List.size_toArray,← hl,← hl2]
  rw [e] at h
  exact SeqAt.EqAt.of_refs ne h
 |@lst a b xs ys ne ha hb fx fy =>
  cases rx;cases ry
  obtain ⟨its,r,pl,hz⟩:=I.list ha
  obtain ⟨its2,r2,pl2,hz2⟩:=I.list hb
  have hl:=r.length
  have hl2:=r2.length
  by_cases he:xs.length=ys.length
  ·have h:=SeqAt.RcAt.lists (A:=A) (e:=fun j=>qO (xs.getD j .non) (ys.getD j .non)) pl.isList pl2.isList (by rw [List.size_toArray,List.size_toArray,← hl,← hl2,he]) hu (fun j h1 h2=>Q6 (QL r h1) (QL r2 h2) (QO fx (by rw [hl];simpa using h1)) (QO fy (by rw [hl2];simpa using h2)))
   have e:((List.range its.toArray.size).all (fun j=>qO (xs.getD j .non) (ys.getD j .non)))=yE xs ys:=by
    unfold yE
    rw [List.size_toArray,← hl,← he,Nat.min_self,beq_self_eq_true,Bool.and_true]
   rw [e] at h
   exact SeqAt.EqAt.of_refs ne h
  ·have hf:yE xs ys=false:=by
    unfold yE
    rw [show (xs.length == ys.length)=false from beq_eq_false_iff_ne.mpr he,Bool.and_false]
   rw [hf]
   exact SeqAt.EqAt.of_refs ne (SeqAt.RcAt.lists_lengths pl.isList pl2.isList (by rw [List.size_toArray,List.size_toArray,← hl,← hl2];exact bne_iff_ne.mpr he) hu)
end
section
variable {X:Cx}
end
end L2
namespace L2
open PySem PySem.Spec PyProof.Rows
end L2
namespace L2
open PySem PySem.Spec PyProof.Rows
end L2
namespace L2
open PySem PySem.Spec PyProof.Rows
end L2
namespace L2
open PySem PySem.Spec PyProof.Rows
section
variable {X:Cx}
theorem o4:CallR X (.type "int") (fun xs H Q=>∃(z:Str) (n:Int),xs=[.str z]∧z.length≤640∧PySem.intText? z=some n∧Q (.int n) H):=by
 intro pins s σ H xs us Q I r h
 obtain ⟨z,n,rfl,hl,hn,q⟩:=h
 obtain ⟨u,rfl,t,rfl⟩:=yW r
 exact PySem.W.KIN.call_text hn hl ⟨.int n,H,I.tok _,⟨_,rfl⟩,q⟩
theorem sT (c:Nat):(!(Builtin.Str.occurrences ("0123456789":Str) ⟨#[c]⟩ 0 ("0123456789":Str).length 1).isEmpty)=(decide (48≤c)&&decide (c≤57)):=by
 rw [PySem.StrLaws.found_one,show ("0123456789":Str).cps.toList=[48,49,50,51,52,53,54,55,56,57] by decide +kernel]
 rw [← Bool.decide_and]
 refine decide_eq_decide.mpr ⟨fun h=>?_,fun h=>?_⟩
 ·simp only [List.mem_cons,List.mem_nil_iff,or_false] at h
  omega
 ·simp only [List.mem_cons,List.mem_nil_iff,or_false]
  omega
end
end L2
namespace L2
open PySem PySem.Spec PyProof.Rows
end L2
namespace L2
open PySem PySem.Spec PyProof.Rows
section
variable {X:Cx}
theorem dH:∀{zs:List Str} {us:List Value},Vals (zs.map V.str) us→∃l:List (Str×Tok),us=strValues l∧l.map (·.1)=zs
 |[],us,r=>by rw [List.map_nil] at r;cases r;exact ⟨[],rfl,rfl⟩
 |z::r,us,h=>by
  rw [List.map_cons] at h
  cases h with
  |@cons a b as bs ha ht =>
   obtain ⟨l,rfl,hl⟩:=dH ht
   obtain ⟨t,rfl⟩:=(show ∃t,b=Value.str z t from ha)
   exact ⟨(z,t)::l,rfl,by rw [List.map_cons,hl]⟩
theorem dI:∀(l:List (Str×Tok)),Vals ((l.map (·.1)).map V.str) (strValues l)
 |[]=>.nil
 |p::r=>.cons ⟨p.2,rfl⟩ (dI r)
def qH (zs:List Str):Nat:=(zs.map (·.length)).sum
def iD (K:PySem.W.Frag):V→List V→Hp→VK→Prop:=fun x vs H Q=>∃(z:Str) (l:Addr) (zs:List Str),x=.str z∧vs=[.ref l]∧SqL K H l (zs.map V.str)∧z.length≤16∧qH zs+zs.length≤1048576∧Q (.str (Str.join z zs)) H
theorem JS:QE X "str.join" (iD X.K):=by
 intro pins s σ H x vs v us Q I rx rv h
 obtain ⟨z,l,zs,rfl,rfl,hl,hz,hw,q⟩:=h
 obtain ⟨t,rfl⟩:=rx
 obtain ⟨u,rfl,ru⟩:=rv.one
 cases ru
 obtain ⟨its,r,pl,_⟩:=I.list hl
 obtain ⟨l',rfl,hl'⟩:=dH r
 refine SC.join (l:=l') (texts:=zs) pl.isList hl' (joinOk_of_weight hw hz) fun t' k=>⟨.str (Str.join z zs),H,I.tok _,?_,q⟩
 exact ⟨t',by show Value.str (Txt.join z zs) t'=_;unfold Txt.join;rw [StrLaws.glued_eq_join]⟩
def sG:V→List V→Hp→VK→Prop:=fun x vs H Q=>∃(z y:Str),x=.str z∧vs=[.str y]∧(y.length == 0)=false∧z.length≤1000000∧∀l,H l=none→Q (.ref l) (upd H l (.lst ((Txt.split z y).map V.str)))
theorem nQ (x y:Str) (hy:1≤y.length):(Txt.split x y).length≤x.length+1:=by
 have:=PyProof.Rows.split_weight x y hy
 omega
theorem fE:QE X "str.split" sG:=by
 intro pins s σ H x vs v us Q I rx rv h
 obtain ⟨z,y,rfl,rfl,hy,hz,q⟩:=h
 obtain ⟨t,rfl⟩:=rx
 obtain ⟨u,rfl,t',rfl⟩:=rv.one
 have hy1:1≤y.length:=by
  have:=beq_eq_false_iff_ne.mp hy
  omega
 have hsl:=nQ z y hy1
 have hzs:z.length+1≤sizeLine:=by rw [sizeLine_eq];omega
 have fin:∀(l:List (Str×Tok)) (tk:Nat),l.map (·.1)=Txt.split z y→EP X pins σ Q (.ref s.heap.objs.size) {s with toks:=tk,heap:=s.heap.push {cls:=.type "list",data:=.seq (strValues l).toArray}}:=fun l tk e=>by
  have hv:=dI l
  rw [e] at hv
  exact ⟨.ref s.heap.objs.size,_,I.laid (t':=tk) (o:=.lst ((Txt.split z y).map V.str)) (fun _ _ q=>Heap.get?_push_of_some _ q) (Nat.le_refl _) ⟨by rw [List.length_map];omega,strValues l,0,hv,Heap.get?_push_size _ rfl⟩,rfl,q _ (I.hok.fresh (Nat.le_refl _))⟩
 cases h1:(decide (z.length<y.length)||decide (Builtin.Str.strKind z<Builtin.Str.strKind y))
 ·cases hf:(Builtin.Str.occurrences z y 0 z.length (z.length+1)).isEmpty
  ·have hsp:Txt.split z y=Builtin.Str.partsBetween z (Builtin.Str.occurrences z y 0 z.length (z.length+1)) y.length:=(if_neg (ne_true_of_eq_false h1)).trans (if_neg (ne_true_of_eq_false hf))
   refine call_meets F.slot_str_split (typeIs_str _ _ _) F.entry_str_split (F.args_str_split_2 _ _) (meets_str_split_sep z y t t' h1 hy hf (by omega) (by rw [← hsp];omega)) ?_
   show wants _ _ _ {s with toks:=_,heap:=s.heap.push {cls:=.type "list",data:=.seq (strsFrom s.toks (Builtin.Str.partsBetween z (Builtin.Str.occurrences z y 0 z.length (z.length+1)) y.length)).toArray}}
   rw [strsFrom_eq]
   exact fin (numbered s.toks _) _ ((numbered_texts _ _).trans hsp.symm)
  ·exact call_meets F.slot_str_split (typeIs_str _ _ _) F.entry_str_split (F.args_str_split_2 _ _) (meets_str_split_not_found z y t t' h1 hy hf)
    (fin [(z,t)] _ ((if_neg (ne_true_of_eq_false h1)).trans (if_pos hf)).symm)
 ·exact call_meets F.slot_str_split (typeIs_str _ _ _) F.entry_str_split (F.args_str_split_2 _ _) (meets_str_split_cannot_occur z y t t' h1)
   (fin [(z,t)] _ (if_pos h1).symm)
end
end L2
namespace L2
open PySem PySem.Spec PyProof.Rows
def v0 (c:Nat):List (List Nat)→List Nat
 |[]=>[]
 |[x]=>x
 |x::y::r=>x++c::v0 c (y::r)
theorem JO (c:Nat):∀ps:List Str,(Str.join ⟨#[c]⟩ ps).cps.toList=v0 c (ps.map fun p=>p.cps.toList)
 |[]=>rfl
 |[x]=>rfl
 |x::y::r=>by
  show ((x++(⟨#[c]⟩:Str))++Str.join ⟨#[c]⟩ (y::r)).cps.toList=x.cps.toList++c::v0 c ((y::r).map fun p=>p.cps.toList)
  rw [← JO c (y::r)]
  show ((x.cps++#[c])++(Str.join ⟨#[c]⟩ (y::r)).cps).toList=_
  simp
theorem gM {c:Nat}:∀{x y A B:List Nat},c∉x→c∉y→x++c::A=y++c::B→x=y∧A=B
 |[],[],A,B,_,_,h=>⟨rfl,(List.cons.inj h).2⟩
 |[],b::y,A,B,_,hy,h=>absurd (List.mem_cons.mpr (.inl (List.cons.inj h).1)) hy
 |a::x,[],A,B,hx,_,h=>absurd (List.mem_cons.mpr (.inl (List.cons.inj h).1.symm)) hx
 |a::x,b::y,A,B,hx,hy,h=>by
  obtain ⟨h1,h2⟩:=List.cons.inj h
  obtain ⟨h3,h4⟩:=gM (fun z=>hx (List.mem_cons_of_mem _ z)) (fun z=>hy (List.mem_cons_of_mem _ z)) h2
  exact ⟨by rw [h1,h3],h4⟩
theorem d8 (c:Nat):∀(ps qs:List (List Nat)),ps≠[]→qs≠[]→(∀p∈ps,c∉p)→(∀q∈qs,c∉q)→v0 c ps=v0 c qs→ps=qs
 |[],_,h,_,_,_,_=>absurd rfl h
 |_::_,[],_,h,_,_,_=>absurd rfl h
 |[x],[y],_,_,_,_,h=>by rw [show x=y from h]
 |[x],y::y2::r,_,_,hp,_,h=>by
  have h:x=y++c::v0 c (y2::r):=h
  exact absurd (by rw [h];exact List.mem_append_right _ List.mem_cons_self) (hp x List.mem_cons_self)
 |x::x2::r,[y],_,_,_,hq,h=>by
  have h:x++c::v0 c (x2::r)=y:=h
  exact absurd (by rw [← h];exact List.mem_append_right _ List.mem_cons_self) (hq y List.mem_cons_self)
 |x::x2::r,y::y2::r',_,_,hp,hq,h=>by
  obtain ⟨h1,h2⟩:=gM (hp x List.mem_cons_self) (hq y List.mem_cons_self) h
  rw [h1,d8 c (x2::r) (y2::r') (List.cons_ne_nil _ _) (List.cons_ne_nil _ _) (fun p h=>hp p (List.mem_cons_of_mem _ h)) (fun q h=>hq q (List.mem_cons_of_mem _ h)) h2]
theorem dE:∀{ps qs:List Str},(ps.map fun p=>p.cps.toList)=(qs.map fun p=>p.cps.toList)→ps=qs
 |[],[],_=>rfl
 |[],_::_,h=>by cases h
 |_::_,[],h=>by cases h
 |p::ps,q::qs,h=>by
  obtain ⟨h1,h2⟩:=List.cons.inj h
  rw [dE h2]
  obtain ⟨a⟩:=p
  obtain ⟨b⟩:=q
  rw [show a=b from Array.toList_inj.mp h1]
theorem pC (x y:Str) (hy:1≤y.length):Txt.split x y≠[]:=by
 intro h
 have hj:=StrLaws.join_split x y
 rw [h] at hj
 unfold Txt.split at h
 split at h
 ·cases h
 ·split at h
  ·cases h
  ·rename_i h2
   unfold Builtin.Str.partsBetween at h
   simp at h
theorem ZX (c:Nat) {ps:List Str} (h0:ps≠[]) (hp:∀p∈ps,c∉p.cps.toList):Txt.split (Str.join ⟨#[c]⟩ ps) ⟨#[c]⟩=ps:=by
 refine dE (d8 c _ _ ?_ ?_ ?_ ?_ ?_)
 ·intro h;exact pC _ ⟨#[c]⟩ (Nat.le_refl 1) (List.map_eq_nil_iff.mp h)
 ·intro h;exact h0 (List.map_eq_nil_iff.mp h)
 ·intro p h
  obtain ⟨q,hq,rfl⟩:=List.mem_map.mp h
  exact StrLaws.split_free _ c q hq
 ·intro p h
  obtain ⟨q,hq,rfl⟩:=List.mem_map.mp h
  exact hp q hq
 ·rw [← JO,← JO,StrLaws.join_split]
end L2
namespace L2
open PySem PySem.Spec PyProof.Rows
section
variable {X:Cx} {tg:Expr}
end
theorem dQ {K:PySem.W.Frag} {a D:Addr} {xs:List V} {g:TG} {tc:TT} {te:TE} {σ₀:St} {H:Hp} {Q:Hp→Prop} (Pv:Nat→St→Hp→Prop) (h0:Pv 0 σ₀ (upd H D (.lst []))) (hl:∀i σ H,i≤xs.length→Pv i σ H→SqT K H a xs)
    (hs:∀i x σ H,xs[i]?=some x→Pv i σ H→g x σ H fun σ2 H3=>tc σ2 H3 fun b H4=>if b=true then te σ2 H4 fun v H5=>∃ys,H5 D=some (.lst ys)∧ys.length<sizeLine∧Pv (i+1) σ2 (upd H5 D (.lst (ys++[v]))) else Pv (i+1) σ2 H4)
    (hd:∀σ H,Pv xs.length σ H→Q H):vX D (JF K a) g tc te σ₀ H Q:=by
  refine ⟨fun i m σ H=>m=xs.length - i∧i≤xs.length∧Pv i σ H,⟨xs.length,by simp,Nat.zero_le _,h0⟩,?_⟩
  rintro i m σ H ⟨rfl,hi,p⟩
  have q:=hl i σ H hi p
  by_cases hlt:i<xs.length
  · refine .inr ⟨⟨xs,xs[i],q,by simp [hlt]⟩,Pv (i+1),fun σ' H' p'=>⟨xs.length - (i+1),by omega,rfl,hlt,p'⟩,fun x H' y=>?_⟩
    obtain ⟨e,y⟩:=y
    subst e
    exact hs i x σ _ (y xs q) p
  · have e:i=xs.length:=by omega
    subst e
    exact .inl ⟨⟨xs,q,Nat.le_refl _⟩,hd σ H p⟩
end L2
namespace L2
open PySem PySem.Spec PyProof.Rows
def kW (m:Nat):List Nat:=(Nat.toDigits 10 m).map Char.toNat
theorem Q1 {n:Int} (h0:0≤n):(Str.ofString (toString n)).cps.toList=kW n.toNat:=by
 obtain ⟨m,rfl⟩:=Int.eq_ofNat_of_zero_le h0
 exact PySem.W.KIN.signs_num m
theorem Z6 {m:Nat} (h:¬m<10):kW m=kW (m / 10)++[(Nat.digitChar (m%10)).toNat]:=by
 have hm:m%10<10:=Nat.mod_lt m (by decide)
 have t:Nat.toDigits 10 (m / 10)++Nat.toDigits 10 (m%10)=Nat.toDigits 10 (10*(m / 10)+m%10):=Nat.toDigits_append_toDigits (by decide) (by omega) hm
 rw [Nat.div_add_mod] at t
 unfold kW
 rw [← t,List.map_append,Nat.toDigits_of_lt_base hm]
 rfl
theorem fK:∀d:Nat,d<10→(Nat.digitChar d).toNat=48+d:=by decide
theorem ZZ {m:Nat} (h:m<10):kW m=[48+m]:=by
 unfold kW
 rw [Nat.toDigits_of_lt_base h]
 show [(Nat.digitChar m).toNat]=_
 rw [fK m h]
theorem fD (m:Nat):∀c∈kW m,48≤c∧c≤57:=by
 induction m using Nat.strongRecOn with
 |_ m ih =>
  intro c hc
  by_cases h:m<10
  ·rw [ZZ h] at hc
   have:=List.mem_singleton.mp hc
   omega
  ·rw [Z6 h] at hc
   rcases List.mem_append.mp hc with hc|hc
   ·exact ih (m / 10) (by omega) c hc
   ·have:=List.mem_singleton.mp hc
    have:=fK (m%10) (Nat.mod_lt m (by decide))
    have:=Nat.mod_lt m (show 0<10 by decide)
    omega
theorem gF (m:Nat):kW m≠[]:=by
 by_cases h:m<10
 ·rw [ZZ h];exact List.cons_ne_nil _ _
 ·rw [Z6 h];simp
theorem n6 (m:Nat) (h0:0<m):(kW m)[0]?≠some 48:=by
 induction m using Nat.strongRecOn with
 |_ m ih =>
  by_cases h:m<10
  ·rw [ZZ h]
   intro e
   have:=Option.some.inj e
   omega
  ·rw [Z6 h,List.getElem?_append_left (List.length_pos_iff.mpr (gF _))]
   exact ih (m / 10) (by omega) (by omega)
theorem pJ (m:Nat):PySem.NumText.digitsVal (kW m)=m:=PySem.W.KIN.val_back m
theorem fC {m:Nat} (h:m<1000000000000):1≤(kW m).length∧(kW m).length≤12:=by
 refine ⟨List.length_pos_iff.mpr (gF m),?_⟩
 unfold kW
 rw [List.length_map]
 exact PyProof.Rows.digits10_le (k:=12) (by decide) (by simpa using h)
end L2
namespace L2
open PySem PySem.Spec PyProof.Rows
section
variable {X:Cx} {pins:List (Addr×Obj)} {σ:List (Option V)} {H:Hp} {s:Shared} {h':Heap}
end
section
variable {X:Cx} {elts:List Expr} {x1:Nat} {tpos:Pos}
end
end L2
namespace L2
open PySem PySem.Spec PyProof.Rows
end L2
namespace L2
open PySem PySem.Spec PyProof.Rows
section
variable {X:Cx}
end
end L2
namespace L2
open PySem PySem.Spec PyProof.Rows
section
variable {prog:Program} {w:World} {A:Around} {s:Shared} {E:Value→Shared→Prop}
end
section
variable {X:Cx} {elts:List Expr} {x1:Nat} {tpos:Pos}
end
end L2
namespace L2
open PySem PySem.Spec PyProof.Rows
set_option maxRecDepth 100000
section
variable {X:Cx}
end
end L2
namespace L2
open PySem PySem.Spec PyProof.Rows
section
variable {prog:Program} {w:World} {A:Around} {s:Shared} {E:Value→Shared→Prop}
theorem tF {a:Addr} {o:Obj} {Q:Option Obj→Shared→Prop} (h:s.heap.get? a=some o) (q:Q (some o) s):wpAny (model prog w) A (loadIfAlive a) Q E s:=fun Γ p _=>by
 show Sem.wp _ Γ (.loadIfAlive a .pure) _ _ p s
 rw [Sem.wp_loadIfAlive,h]
 exact q
abbrev JA (h:Heap) (z P1 P2:Addr) (f0:Value) (f1:Bool):Prop:=h.get? z=some {cls:=.type "zip",dict:=none,data:=.fields #[f0,.bool f1,.bool false,.ref P1,.ref P2],slots := #[]}
theorem dB {z P1 P2 T:Addr} {f1:Bool} {o:Obj} {Q:Bool→Shared→Prop} (hz:JA s.heap z P1 P2 (rawInt T) f1) (hT:s.heap.get? T=some o) (q:∀h',JA h' z P1 P2 (rawInt T) true→Heap.SameBut z s.heap h'→Q false {s with heap:=h'}):wpAny (model prog w) A (Builtin.SmallTypes.ownedTupleIsFree (.ref z)) Q E s:=by
 unfold Builtin.SmallTypes.ownedTupleIsFree
 refine wpAny_bind (wpAny_field hz rfl (x:=rawInt T) rfl ?_)
 show wpAny _ _ (loadIfAlive (Int.toNat (T:Int)) >>= _) _ _ _
 refine wpAny_bind (tF (by rw [Int.toNat_natCast];exact hT) ?_)
 simp only [Option.isNone_some,Bool.false_eq_true,if_false]
 refine wpAny_bind (wpAny_field hz rfl (x:=.bool f1) rfl ?_)
 cases f1 with
 |true =>
  rw [if_neg (by decide)]
  refine wpAny_pure ?_
  exact q s.heap hz ⟨rfl,fun _ _=>rfl⟩
 |false =>
  rw [if_pos (by decide)]
  refine wpAny_bind (wpAny_setField_rec hz (by simp) fun m1 z1 d1=>wpAny_pure ?_)
  exact q m1 z1 d1
theorem nL {z P1 P2 j1 j2 a b T:Addr} {k:Nat} {us vs:Array Value} {u v:Value} {f1:Bool} {o:Obj} {Q:Value→Shared→Prop} (D:ZipApart z P1 P2 j1 j2 a b)
  (hz:JA s.heap z P1 P2 (rawInt T) f1) (hT:s.heap.get? T=some o) (hP1:IsPair s.heap P1 (.ref j1) (.ref j2)) (n1:s.heap.IsListIter j1 a k) (n2:s.heap.IsListIter j2 b k) (la:s.heap.IsList a us) (lb:s.heap.IsList b vs) (hu:us[k]?=some u) (hv:vs[k]?=some v)
  (q:∀h',JA h' z P1 P2 (rawInt T) true→h'.IsListIter j1 a (k+1)→h'.IsListIter j2 b (k+1)→IsPair h' s.heap.objs.size u v→h'.objs.size=s.heap.objs.size+1→(∀c o,c≠z→c≠j1→c≠j2→s.heap.get? c=some o→h'.get? c=some o)→Q (.ref s.heap.objs.size) {s with heap:=h'}):wpAny (model prog w) A (Builtin.«zip.__next__» ⟨[.ref z],[]⟩) (fun fin s'=>∃v,fin=.done (.ret v)∧Q v s') E s:=by
 show wpAny _ _ (field (.ref z) 2 >>= _) _ _ _;refine wpAny_bind (wpAny_field hz rfl (x:=.bool false) rfl ?_);show wpAny _ _ (field (.ref z) 3 >>= _) _ _ _
 refine wpAny_bind (wpAny_field hz rfl (x:=.ref P1) rfl ?_);refine wpAny_bind (wpAny_seqItems hP1 rfl ?_)
 show wpAny _ _ (Builtin.SmallTypes.ownedTupleIsFree (.ref z) >>= _) _ _ _;refine wpAny_bind (dB hz hT fun m1 z1 d1=>?_)
 simp only [Bool.false_eq_true,if_false]
 refine wpAny_bind ?_;simp only [← Array.forIn_toList,List.forIn_cons,List.forIn_nil]
 refine wpAny_bind (wpAny_bind (wpAny_holding ?_));show wpAny _ _ (Builtin.SmallTypes.nextOf (.ref j1) >>= _) _ _ _
 refine wpAny_bind (wpAny_nextOf_list_item (n1.extBut d1.extBut D.i1z) (la.extBut d1.extBut D.l1z) hu fun m2 n12 d2=>wpAny_pure (wpAny_pure ?_))
 refine wpAny_bind (wpAny_bind (wpAny_holding ?_));show wpAny _ _ (Builtin.SmallTypes.nextOf (.ref j2) >>= _) _ _ _
 refine wpAny_bind (wpAny_nextOf_list_item ((n2.extBut d1.extBut D.i2z).extBut d2.extBut D.i12.symm) ((lb.extBut d1.extBut D.l2z).extBut d2.extBut D.l2i1) hv fun m3 n23 d3=>wpAny_pure (wpAny_pure (wpAny_pure ?_)))
 show wpAny _ _ (newTuple [u,v] >>= _) _ _ _
 refine wpAny_bind (wpAny_newTuple (wpAny_pure ⟨_,rfl,?_⟩))
 have sz:m3.objs.size=s.heap.objs.size:=by rw [d3.1,d2.1,d1.1]
 have up:∀c o,c≠z→c≠j1→c≠j2→s.heap.get? c=some o→(m3.push {cls:=.type "tuple",data:=.seq #[u,v]}).get? c=some o:=fun c o e1 e3 e4 e=>Heap.get?_push_of_some _ (d3.extBut _ _ e4 (d2.extBut _ _ e3 (d1.extBut _ _ e1 e)))
 have t8:IsPair (m3.push {cls:=.type "tuple",data:=.seq #[u,v]}) m3.objs.size u v:=Heap.get?_push_size _ rfl
 show Q (.ref m3.objs.size) _
 rw [sz] at t8 ⊢
 exact q _ (Heap.get?_push_of_some _ (d3.extBut _ _ D.i2z.symm (d2.extBut _ _ D.i1z.symm z1))) ((n12.extBut d3.extBut D.i12).at fun o e=>Heap.get?_push_of_some _ e) (n23.at fun o e=>Heap.get?_push_of_some _ e) t8 (by rw [Heap.size_push,sz]) up
theorem o9 {z P1 P2 j1 j2 a b T:Addr} {k:Nat} {us vs:Array Value} {f1:Bool} {o:Obj} {Q:Fin→Shared→Prop} (hh:A.handled=none) (D:ZipApart z P1 P2 j1 j2 a b)
  (hz:JA s.heap z P1 P2 (rawInt T) f1) (hT:s.heap.get? T=some o) (hP1:IsPair s.heap P1 (.ref j1) (.ref j2)) (n1:s.heap.IsListIter j1 a k) (n2:s.heap.IsListIter j2 b k) (la:s.heap.IsList a us) (lb:s.heap.IsList b vs) (he:us[k]?=none∨vs[k]?=none)
  (q:∀h' e,(∀c o,c≠z→c≠j1→c≠j2→s.heap.get? c=some o→h'.get? c=some o)→(∃o,h'.get? e=some o∧o.cls=.type "StopIteration")→E (.ref e) {s with heap:=h'}):wpAny (model prog w) A (Builtin.«zip.__next__» ⟨[.ref z],[]⟩) Q E s:=by
 show wpAny _ _ (field (.ref z) 2 >>= _) _ _ _;refine wpAny_bind (wpAny_field hz rfl (x:=.bool false) rfl ?_);show wpAny _ _ (field (.ref z) 3 >>= _) _ _ _
 refine wpAny_bind (wpAny_field hz rfl (x:=.ref P1) rfl ?_);refine wpAny_bind (wpAny_seqItems hP1 rfl ?_)
 show wpAny _ _ (Builtin.SmallTypes.ownedTupleIsFree (.ref z) >>= _) _ _ _;refine wpAny_bind (dB hz hT fun m1 z1 d1=>?_)
 simp only [Bool.false_eq_true,if_false]
 refine wpAny_bind ?_;simp only [← Array.forIn_toList,List.forIn_cons,List.forIn_nil]
 refine wpAny_bind (wpAny_bind (wpAny_holding ?_));show wpAny _ _ (Builtin.SmallTypes.nextOf (.ref j1) >>= _) _ _ _
 cases hu:us[k]? with
 |none =>
  refine wpAny_bind (wpAny_nextOf_list_end hh (n1.extBut d1.extBut D.i1z) (la.extBut d1.extBut D.l1z) hu fun m2 e d2 st=>?_)
  exact q m2 e (fun c o e1 e3 e4 x=>d2 _ _ e3 (d1.extBut _ _ e1 x)) st
 |some u =>
  have hv:vs[k]?=none:=by rcases he with h|h;rw [hu] at h;cases h;exact h
  refine wpAny_bind (wpAny_nextOf_list_item (n1.extBut d1.extBut D.i1z) (la.extBut d1.extBut D.l1z) hu fun m2 n12 d2=>wpAny_pure (wpAny_pure ?_))
  refine wpAny_bind (wpAny_bind (wpAny_holding ?_));show wpAny _ _ (Builtin.SmallTypes.nextOf (.ref j2) >>= _) _ _ _
  refine wpAny_bind (wpAny_nextOf_list_end hh ((n2.extBut d1.extBut D.i2z).extBut d2.extBut D.i12.symm) ((lb.extBut d1.extBut D.l2z).extBut d2.extBut D.l2i1) hv fun m3 e d3 st=>?_)
  exact q m3 e (fun c o e1 e3 e4 x=>d3 _ _ e4 (d2.extBut _ _ e3 (d1.extBut _ _ e1 x))) st
def ZStands (h:Heap) (N z P1 P2 j1 j2 a b:Addr) (us vs:Array Value) (k:Nat):Prop :=
 ((IsZip h z P1 P2 .none∧∃g g',IsPair h P2 g g')∨∃(T:Addr) (f1:Bool) (o:Obj),JA h z P1 P2 (rawInt T) f1∧N≤T∧h.get? T=some o)∧IsPair h P1 (.ref j1) (.ref j2)∧h.IsListIter j1 a k∧h.IsListIter j2 b k∧h.IsList a us∧h.IsList b vs
theorem p8 {N z P1 P2 j1 j2 a b:Addr} {k:Nat} {us vs:Array Value} {u v:Value} {Q:Option Value→Shared→Prop} (D:ZipApart z P1 P2 j1 j2 a b) (b1:z<N) (b2:j1<N) (b3:j2<N) (bN:N≤s.heap.objs.size) (hs:ZStands s.heap N z P1 P2 j1 j2 a b us vs k) (hu:us[k]?=some u) (hv:vs[k]?=some v)
  (q:∀h',ZStands h' N z P1 P2 j1 j2 a b us vs (k+1)→IsPair h' s.heap.objs.size u v→h'.objs.size=s.heap.objs.size+1→(∀c o,c≠z→c≠P2→c≠j1→c≠j2→s.heap.get? c=some o→h'.get? c=some o)→Q (some (.ref s.heap.objs.size)) {s with heap:=h'}):wpAny (model prog w) A (pyNext (.ref z)) Q E s:=by
 obtain ⟨hz,hP1,n1,n2,la,lb⟩:=hs
 rcases hz with ⟨hz,g,g',hP2⟩|⟨T,f1,o,hz,t0,hT⟩
 ·refine wpAny_pyNext_zip_item D hz hP1 hP2 n1 n2 la lb hu hv fun h' hz' hP2' n1' n2' hT' hsz hk=>q h' ⟨.inr ⟨_,false,_,hz',bN,hT'⟩,hk _ _ D.TIz D.TITO D.TIi1 D.TIi2 hP1,n1',n2',la.at fun o e=>hk _ _ D.l1z D.l1TO D.l1i1 D.l1i2 e,lb.at fun o e=>hk _ _ D.l2z D.l2TO D.l2i1 D.l2i2 e⟩ hT' hsz hk
 ·have hTz:s.TypeIs (.ref z) "zip":=⟨_,hz,rfl⟩
  unfold pyNext
  refine wpAny_bind (wpAny_attempt (wpAny_callSpecial?_slot (name:=Str.ofString "__next__") hTz F.slot_zip_next (wpAny_call_entry F.slot_zip_next hTz F.entry_zip_next (nL D hz hT hP1 n1 n2 la lb hu hv fun h' hz' n1' n2' hT' hsz hk=>wpAny_pure ?_) (F.args_zip_next_1 _))))
  exact q h' ⟨.inr ⟨T,true,o,hz',t0,hk _ _ (Nat.ne_of_gt (Nat.lt_of_lt_of_le b1 t0)) (Nat.ne_of_gt (Nat.lt_of_lt_of_le b2 t0)) (Nat.ne_of_gt (Nat.lt_of_lt_of_le b3 t0)) hT⟩,hk _ _ D.TIz D.TIi1 D.TIi2 hP1,n1',n2',la.at fun o e=>hk _ _ D.l1z D.l1i1 D.l1i2 e,lb.at fun o e=>hk _ _ D.l2z D.l2i1 D.l2i2 e⟩ hT' hsz fun c o e1 _ e3 e4 e=>hk c o e1 e3 e4 e
theorem rY {N z P1 P2 j1 j2 a b:Addr} {k:Nat} {us vs:Array Value} {Q:Option Value→Shared→Prop} (hh:A.handled=none) (D:ZipApart z P1 P2 j1 j2 a b) (hs:ZStands s.heap N z P1 P2 j1 j2 a b us vs k) (he:us[k]?=none∨vs[k]?=none)
  (q:∀h',(∀c o,c≠z→c≠P2→c≠j1→c≠j2→s.heap.get? c=some o→h'.get? c=some o)→Q none {s with heap:=h'}):wpAny (model prog w) A (pyNext (.ref z)) Q E s:=by
 obtain ⟨hz,hP1,n1,n2,la,lb⟩:=hs
 rcases hz with ⟨hz,g,g',hP2⟩|⟨T,f1,o,hz,t0,hT⟩
 ·exact wpAny_pyNext_zip_end hh D hz hP1 hP2 n1 n2 la lb he q
 ·have hTz:s.TypeIs (.ref z) "zip":=⟨_,hz,rfl⟩
  unfold pyNext
  refine wpAny_bind (wpAny_attempt (wpAny_callSpecial?_slot (name:=Str.ofString "__next__") hTz F.slot_zip_next (wpAny_call_entry F.slot_zip_next hTz F.entry_zip_next (o9 hh D hz hT hP1 n1 n2 la lb he fun h' e hk st=>?_) (F.args_zip_next_1 _))))
  obtain ⟨oe,ee,ce⟩:=st
  refine wpAny_bind (wpAny_isInstance (T:="StopIteration") (b:=true) ⟨oe,ee,ce⟩ isSubtype_stop ?_)
  exact wpAny_pure (q _ fun c o e1 _ e3 e4 e=>hk c o e1 e3 e4 e)
theorem ZStands.keep {h h':Heap} {N z P1 P2 j1 j2 a b S:Addr} {us vs:Array Value} {k:Nat} (hs:ZStands h N z P1 P2 j1 j2 a b us vs k) (bS:S<N) (nS:∀c∈[z,P1,P2,j1,j2,a,b],c≠S) (kp:∀c o,c≠S→h.get? c=some o→h'.get? c=some o):ZStands h' N z P1 P2 j1 j2 a b us vs k:=by
 obtain ⟨hz,hP1,n1,n2,la,lb⟩:=hs
 have nS':∀c,c∈[z,P1,P2,j1,j2,a,b]→∀o,h.get? c=some o→h'.get? c=some o:=fun c hc o e=>kp c o (nS c hc) e
 refine ⟨?_,nS' _ (by simp) _ hP1,n1.at fun o e=>nS' _ (by simp) o e,n2.at fun o e=>nS' _ (by simp) o e,la.at fun o e=>nS' _ (by simp) o e,lb.at fun o e=>nS' _ (by simp) o e⟩
 rcases hz with ⟨hz,g,g',hP2⟩|⟨T,f1,o,hz,t0,hT⟩
 ·exact .inl ⟨nS' _ (by simp) _ hz,g,g',nS' _ (by simp) _ hP2⟩
 ·exact .inr ⟨T,f1,o,nS' _ (by simp) _ hz,t0,kp _ _ (Nat.ne_of_gt (Nat.lt_of_lt_of_le bS t0)) hT⟩
def Pairs (h:Heap) (N:Addr) (us vs acc:Array Value) (k:Nat):Prop:=acc.size=k∧(∀(j:Nat) (v:Value),acc[j]?=some v→∃(T:Addr) (x y:Value),v=.ref T∧N≤T∧T<h.objs.size∧IsPair h T x y∧us[j]?=some x∧vs[j]?=some y)∧∀(i j:Nat) (v:Value),acc[i]?=some v→acc[j]?=some v→i=j
theorem Pairs.keep {h h':Heap} {N:Addr} {us vs acc:Array Value} {k:Nat} (p:Pairs h N us vs acc k) (kp:∀c o,N≤c→h.get? c=some o→h'.get? c=some o) (sz:h.objs.size≤h'.objs.size):Pairs h' N us vs acc k:=⟨p.1,fun j v hv=>by
 obtain ⟨T,x,y,e1,e2,e3,e4,e5⟩:=p.2.1 j v hv
 exact ⟨T,x,y,e1,e2,Nat.lt_of_lt_of_le e3 sz,kp _ _ e2 e4,e5⟩,p.2.2⟩
theorem Pairs.push {h:Heap} {N T:Addr} {us vs acc:Array Value} {k:Nat} {x y:Value} (p:Pairs h N us vs acc k) (tn:∀(j:Nat),acc[j]?≠some (.ref T)) (t0:N≤T) (t1:T<h.objs.size) (t2:IsPair h T x y) (hx:us[k]?=some x) (hy:vs[k]?=some y):Pairs h N us vs (acc.push (.ref T)) (k+1):=by
 refine ⟨by rw [Array.size_push,p.1],fun j v hj=>?_,fun i j v hi hj=>?_⟩
 ·rw [Array.getElem?_push] at hj
  split at hj
  ·rename_i e;rw [p.1] at e;cases hj;rw [e];exact ⟨T,x,y,rfl,t0,t1,t2,hx,hy⟩
  ·exact p.2.1 j v hj
 ·rw [Array.getElem?_push] at hi hj
  split at hi<;>split at hj
  ·omega
  ·cases hi;exact absurd hj (tn j)
  ·cases hj;exact absurd hi (tn i)
  ·exact p.2.2 i j v hi hj
theorem o8 {R:Result→Shared→Prop} (hh:A.handled=none) {N z P1 P2 j1 j2 a b S:Addr} {us vs:Array Value} (D:ZipApart z P1 P2 j1 j2 a b) (bz:∀c∈[z,P2,j1,j2,S],c<N) (nS:∀c∈[z,P1,P2,j1,j2,a,b],c≠S) (hn:min us.size vs.size≤sizeLine) (res:Value) :
  ∀(m k:Nat) (s:Shared) (acc:Array Value) (c:Nat),min us.size vs.size - k=m→k≤min us.size vs.size→N≤s.heap.objs.size→ZStands s.heap N z P1 P2 j1 j2 a b us vs k→s.heap.get? S=some {cls:=.type "list",dict:=none,data:=.seq acc c,slots := #[]}→Pairs s.heap N us vs acc k→
  (∀h' acc' c',(∀d o,d∉[z,P2,j1,j2,S]→s.heap.get? d=some o→h'.get? d=some o)→h'.get? S=some {cls:=.type "list",dict:=none,data:=.seq acc' c',slots := #[]}→Pairs h' N us vs acc' (min us.size vs.size)→R (.ok (.ret res)) {s with heap:=h'})→
  codeAny (model prog w) A (.builtin "list.extend.loop" ⟨[.ref S,.ref z,res],[]⟩) R s:=by
 have nz:S≠z:=(nS z (by simp)).symm
 have nP:S≠P2:=(nS P2 (by simp)).symm
 have n1:S≠j1:=(nS j1 (by simp)).symm
 have n2:S≠j2:=(nS j2 (by simp)).symm
 have big:∀c,N≤c→c∉[z,P2,j1,j2,S]:=fun c hc hm=>Nat.lt_irrefl _ (Nat.lt_of_lt_of_le (bz c hm) hc)
 intro m
 induction m with
 |zero =>
  intro k s acc c hm hk bN hs hS hp q
  obtain rfl:k=min us.size vs.size:=by omega
  refine codeAny_builtin F.entry_extend_loop ?_
  rw [Around.under_plainId F.plain_extend_loop _]
  show wpAny _ A.in1 (pyNext (.ref z) >>= _) _ _ s
  refine wpAny_bind (rY (by simp [hh]) D hs (by rcases Nat.le_total us.size vs.size with e|e;exact .inl (by rw [Nat.min_eq_left e];simp);exact .inr (by rw [Nat.min_eq_right e];simp)) fun h' kp=>wpAny_pure ?_)
  have kp':∀d o,d∉[z,P2,j1,j2,S]→s.heap.get? d=some o→h'.get? d=some o:=fun d o hd e=>by
   simp only [List.mem_cons,List.mem_nil_iff,or_false,not_or] at hd
   exact kp d o hd.1 hd.2.1 hd.2.2.1 hd.2.2.2.1 e
  refine q h' acc c kp' (kp S _ nz nP n1 n2 hS) ⟨hp.1,fun j v hv=>?_,hp.2.2⟩
  obtain ⟨T,x,y,e1,e2,e3,e4,e5⟩:=hp.2.1 j v hv
  have e4':=kp' _ _ (big T e2) e4
  exact ⟨T,x,y,e1,e2,Heap.lt_size e4',e4',e5⟩
 |succ m ih =>
  intro k s acc c hm hk bN hs hS hp q
  have l1:k<us.size:=by omega
  have l2:k<vs.size:=by omega
  refine codeAny_builtin F.entry_extend_loop ?_
  rw [Around.under_plainId F.plain_extend_loop _]
  show wpAny _ A.in1 (pyNext (.ref z) >>= _) _ _ s
  refine wpAny_bind (p8 D (bz _ (by simp)) (bz _ (by simp)) (bz _ (by simp)) bN hs (Array.getElem?_eq_getElem l1) (Array.getElem?_eq_getElem l2) fun h' hs' hT hsz kp=>?_)
  have kp':∀d o,d∉[z,P2,j1,j2,S]→s.heap.get? d=some o→h'.get? d=some o:=fun d o hd e=>by
   simp only [List.mem_cons,List.mem_nil_iff,or_false,not_or] at hd
   exact kp d o hd.1 hd.2.1 hd.2.2.1 hd.2.2.2.1 e
  have hS':=kp S _ nz nP n1 n2 hS
  show wpAny _ A.in1 (updateSeq S (·.push (.ref s.heap.objs.size)) >>= _) _ _ _
  refine wpAny_bind ?_
  have kq:∀d o,d≠S→h'.get? d=some o→(h'.update S (Obj.mapSeq (·.push (.ref s.heap.objs.size)))).get? d=some o:=fun d o hd e=>(Heap.get?_update_other _ _ (Ne.symm hd)).trans e
  have bS:S<N:=bz S (by simp)
  refine wpAny_updateSeq hS' rfl (wpAny_pure ⟨plainId_quiet F.plain_extend_loop _,ih (k+1) _ (acc.push (.ref s.heap.objs.size)) _ (by omega) (by omega) ?_ (hs'.keep bS nS kq) (Heap.get?_update_self _ hS' rfl) ?_ fun h2 acc' c' kp2 hS2 hp2=>?_⟩) (by rw [hp.1];omega) (by show (acc.push _).size≤sizeLine+1;rw [Array.size_push,hp.1];omega)
  ·show N≤(h'.update S _).objs.size
   rw [Heap.size_update,hsz];exact Nat.le_succ_of_le bN
  ·refine (((hp.keep (h':=h') (fun c o hc e=>kp' c o (big c hc) e) (by rw [hsz];exact Nat.le_succ _)).push (fun j hj=>by obtain ⟨T,_,_,e1,_,e3,_⟩:=hp.2.1 j _ hj;cases e1;exact Nat.lt_irrefl _ e3) bN (by rw [hsz];exact Nat.lt_succ_self _) hT (Array.getElem?_eq_getElem l1) (Array.getElem?_eq_getElem l2))).keep (fun c o hc e=>kq c o (Nat.ne_of_gt (Nat.lt_of_lt_of_le bS hc)) e) ?_
   show h'.objs.size≤(h'.update S _).objs.size
   rw [Heap.size_update];exact Nat.le_refl _
  ·refine q h2 acc' c' (fun d o hd e=>kp2 d o hd (kq d o (fun x=>hd (by rw [x];simp)) (kp' d o hd e))) hS2 hp2
theorem mY:typeLookup (.type "zip") "__len__"=pure none:=by rw [typeLookup_type,builtinLookup_eq_fast];kernel_rfl
theorem mM:typeLookup (.type "zip") "__length_hint__"=pure none:=by rw [typeLookup_type,builtinLookup_eq_fast];kernel_rfl
theorem mZ {R:Result→Shared→Prop} (hh:A.handled=none) {N z P1 P2 j1 j2 a b S:Addr} {us vs:Array Value} (D:ZipApart z P1 P2 j1 j2 a b) (bz:∀c∈[z,P2,j1,j2,S],c<N) (nS:∀c∈[z,P1,P2,j1,j2,a,b],c≠S) (hn:min us.size vs.size≤sizeLine) (res:Value) (c₀:Nat) (bN:N≤s.heap.objs.size) (hz:IsZip s.heap z P1 P2 .none)
  (hs:ZStands s.heap N z P1 P2 j1 j2 a b us vs 0) (hS:s.heap.get? S=some {cls:=.type "list",data:=.seq #[] c₀})
  (q:∀h' acc' c',(∀d o,d∉[z,P2,j1,j2,S]→s.heap.get? d=some o→h'.get? d=some o)→h'.get? S=some {cls:=.type "list",dict:=none,data:=.seq acc' c',slots := #[]}→Pairs h' N us vs acc' (min us.size vs.size)→R (.ok (.ret res)) {s with heap:=h'}) :
  wpAny (model prog w) A.in1 (Builtin.List.listExtendWith (.ref S) (.ref z) res)
   (fun fin s'=>match fin with|.done f=>R (.ok f) s'|.again c'=>c'.quiet=true∧codeAny (model prog w) A c' R s') (fun e s'=>R (.error e) s') s:=by
 have hT:s.TypeIs (.ref z) "zip":=⟨_,hz,rfl⟩
 have nz:S≠z:=(nS z (by simp)).symm
 unfold Builtin.List.listExtendWith
 refine wpAny_bind (wpAny_typeOf hT ?_)
 have e1:Builtin.List.listSameRef (.ref S) (.ref z)=false:=by simp [Builtin.List.listSameRef,nz]
 have e2:(Value.type "zip" == Value.type "list")=false:=by decide
 have e3:(Value.type "zip" == Value.type "tuple")=false:=by decide
 simp only [e1,e2,e3,Bool.or_false,Bool.false_eq_true,if_false]
 refine wpAny_bind (wpAny_pyIter_zip hz ?_);refine wpAny_bind (wpAny_holding ?_)
 unfold Builtin.List.listLengthHint
 refine wpAny_bind (wpAny_specialOf hT mY ?_)
 show wpAny _ _ (specialOf (Value.ref z) (Str.ofString "__length_hint__") >>= _) _ _ _
 refine wpAny_bind (wpAny_specialOf hT mM ?_);refine wpAny_pure ?_
 show wpAny _ _ (rule "list.extend.makes-room" >>= fun _=>Builtin.List.listTouch (.ref S) >>= fun _=>again (.builtin "list.extend.loop" ⟨[.ref S,.ref z,res],[]⟩)) _ _ _
 refine wpAny_bind (wpAny_rule ?_);refine wpAny_bind ?_
 show wpAny _ _ (updateSeq S (·.push .none) >>= fun _=>updateSeq S (·.pop)) _ _ _
 refine wpAny_bind (wpAny_updateSeq hS rfl ?_)
 have g2:=Heap.get?_update_self (Obj.mapSeq (·.push Value.none)) hS rfl
 refine wpAny_updateSeq (hz:=by seq_fits) g2 rfl ?_
 have g3:=Heap.get?_update_self (Obj.mapSeq (·.pop)) g2 rfl
 have kq:∀d o,d≠S→s.heap.get? d=some o→((s.heap.update S (Obj.mapSeq (·.push Value.none))).update S (Obj.mapSeq (·.pop))).get? d=some o:=fun d o hd e=>(Heap.get?_update_other _ _ (Ne.symm hd)).trans ((Heap.get?_update_other _ _ (Ne.symm hd)).trans e)
 refine wpAny_pure ⟨plainId_quiet F.plain_extend_loop _,o8 hh D bz nS hn res _ 0 _ #[] _ rfl (Nat.zero_le _) ?_ (hs.keep (bz S (by simp)) nS kq) g3 ⟨rfl,fun j v hv=>by simp at hv,fun i j v hi=>by simp at hi⟩ fun h' acc' c' kp hS' hp=>?_⟩
 ·show N≤((s.heap.update S _).update S _).objs.size
  rw [Heap.size_update,Heap.size_update];exact bN
 ·exact q h' acc' c' (fun d o hd e=>kp d o hd (kq d o (fun x=>hd (by rw [x];simp)) e)) hS' hp
end
end L2
namespace L2
open PySem PySem.Spec PyProof.Rows
section
variable {X:Cx} {pins:List (Addr×Obj)} {σ:List (Option V)} {H:Hp} {s:Shared} {h':Heap}
theorem Inv.laidAll {t':Nat} {H':Hp} (I:Inv X pins σ H s) (k:∀b u,s.heap.get? b=some u→h'.get? b=some u) (hold:Same H H') (hnew:∀b u,H' b=some u→H b=some u∨(s.heap.objs.size≤b∧ObjOk X.prog X.w H' h' b u)):Inv X pins σ H' {s with heap:=h',toks:=t'}:=by
  refine I.step (g':=s.gens) (d':=s.drawn) (ch:=[]) (fun b hb=>by cases hb) (fun b o _ _ _ e _=>k b o e) (fun b o _ _ _ e _=>⟨o.slots,k b o e⟩) (fun b o _ e n=>?_)
    (fun b o _ e=>⟨o,k b o e⟩) (fun b xs e=>hold _ _ e) (fun b u v e=>hold _ _ e) (fun b ps e=>⟨#[],by rw [hold _ _ e];simp⟩) (fun m hm=>?_) (fun b u e=>?_) I.bare
  · cases hb:H' b with
    |none=>rfl
    |some u =>
      rcases hnew b u hb with z|⟨z,_⟩
      · rw [n] at z;cases z
      · exact absurd (Heap.lt_size e) (Nat.not_lt_of_le z)
  · obtain ⟨o,es,ep,ho,r⟩:=hm
    exact ⟨o,es,ep,k _ o ho,r⟩
  · rcases hnew b u e with z|⟨_,z⟩
    · exact (I.hok b u z).stay (fun c v _ q=>k c v q) (fun c q=>hold _ _ q) fun c xs q=>hold _ _ q
    · exact z
end
section
variable {X:Cx}
end
end L2
namespace L2
open PySem PySem.Spec PyProof.Rows
section
variable {prog:Program} {w:World} {A:Around} {s:Shared} {E:Value→Shared→Prop}
end
end L2
namespace L2
open PySem PySem.Spec PyProof.Rows
def yZ (xs:List V) (lo hi st:Option Int):List V:=(sliceRange (sliceBounds lo hi st xs.length).1 (sliceBounds lo hi st xs.length).2.1 (sliceBounds lo hi st xs.length).2.2).filterMap (xs[·]?)
theorem nM {xs:List V} {us:List Value} (r:Vals xs us) (js:List Nat):Vals (js.filterMap (xs[·]?)) (js.filterMap (us[·]?)):=by
 induction js with
 |nil=>exact .nil
 |cons j js ih =>
  cases hx:xs[j]? with
  |some x =>
   obtain ⟨u,hu,ru⟩:=r.get hx
   rw [List.filterMap_cons_some hx,List.filterMap_cons_some hu]
   exact .cons ru ih
  |none =>
   have hu:us[j]?=none:=by rw [List.getElem?_eq_none_iff] at hx ⊢;rw [← r.length];exact hx
   rw [List.filterMap_cons_none hx,List.filterMap_cons_none hu]
   exact ih
section
variable {X:Cx} {e se:Expr} {te:TE} {lo hi:Option Expr} {tl th tk:TO} {pos p2:Pos}
def uI (K:PySem.W.Frag) (x:V) (l u k:Option Int) (H:Hp) (Q:VK):Prop:=∃a xs,x=.ref a∧SqL K H a xs∧k≠some 0∧∀p,H p=none→Q (.ref p) (upd H p (.lst (yZ xs l u k)))
def t5 (K:PySem.W.Frag) (te:TE) (tl th tk:TO):TE:=fun σ H Q=>te σ H fun x H1=>tl σ H1 fun l H2=>th σ H2 fun u H3=>tk σ H3 fun k H4=>uI K x l u k H4 Q
theorem d6 (he:PE X e te) (hl:PO X lo tl) (hu:PO X hi th) (hk:PO X (some se) tk):PE X (.Subscript e (.Slice lo hi (some se) p2) pos) (t5 X.K te tl th tk):=by
 intro pins s σ H Q I h
 refine Subscript_ (jD (he pins s σ H _ I h) fun v s1 ⟨x,H1,I1,r1,q1⟩=>?_)
 refine wpAny_Slice (jD (hl pins s1 σ H1 _ I1 q1) fun vl s2 ⟨l,H2,I2,pl,q2⟩=>jD (hu pins s2 σ H2 _ I2 q2) fun vu s3 ⟨u,H3,I3,pu,q3⟩=>jD (hk pins s3 σ H3 _ I3 q3) fun vk s4 ⟨k,H4,I4,pk,q4⟩=>?_)
 obtain ⟨a,xs,rfl,hx,h0,q⟩:=q4
 cases r1
 have I5:Inv X pins σ H4 {s4 with heap:=s4.heap.push {cls:=.type "slice",data:=.fields #[vl,vu,vk]}}:=I4.kept (t':=s4.toks) fun b ob q=>Heap.get?_push_of_some _ q
 obtain ⟨its,r,ht,hz⟩:=I5.list hx
 have hlen:=r.length
 show wpAny (model X.prog X.w) X.A (subscriptTail e (.Slice lo hi (some se) p2) (.ref a) (.ref s4.heap.objs.size)) (EP X pins σ Q) X.xe {s4 with heap:=s4.heap.push {cls:=.type "slice",data:=.fields #[vl,vu,vk]}}
 refine tail_any (ops:=[.ref a,.ref s4.heap.objs.size]) ht.isList.typeIs slot_list_getitem.lookup (wpAny_getItem_list_slice ht.isList (Heap.IsSliceOf.new ..) pl pu pk h0 ?_ (by rw [List.size_toArray];omega)) (by with_unfolding_all rfl)
 have hp:Vals (yZ xs l u k) (slicePick its.toArray l u k).toList:=by
  have e:(slicePick its.toArray l u k).toList=(sliceRange (sliceBounds l u k xs.length).1 (sliceBounds l u k xs.length).2.1 (sliceBounds l u k xs.length).2.2).filterMap (its[·]?):=by simp [slicePick,hlen]
  rw [e]
  exact nM r _
 have hs:=slicePick_size_le its.toArray l u k
 refine ⟨.ref _,_,I5.laid (t':=s4.toks) (o:=.lst (yZ xs l u k)) (fun b ob q=>Heap.get?_push_of_some _ q) (Nat.le_refl _) ?_,rfl,q _ (I5.hok.fresh (Nat.le_refl _))⟩
 refine ⟨?_,_,0,hp,Heap.get?_push_size _ rfl⟩
 rw [hp.length,Array.length_toList]
 rw [show its.toArray.size=its.length from List.size_toArray] at hs
 omega
end
theorem mF {α:Type} (xs:List α) (f:Nat→Nat):∀n:Nat,(∀k,k<n→f k<xs.length)→((List.range n).map f).filterMap (xs[·]?)=(List.range n).filterMap fun k=>xs[f k]?:=fun n _=>by rw [List.filterMap_map];rfl
section
variable {X:Cx}
end
end L2
namespace L2
open PySem PySem.Spec PyProof.Rows
section
end
end L2
namespace L2
open PySem PySem.Spec PyProof.Rows
section
variable {prog:Program} {w:World} {A:Around} {s:Shared} {E:Value→Shared→Prop}
end
section
variable {X:Cx} {elts:List Expr} {x1:Nat} {tpos:Pos}
end
end L2
namespace L2
open PySem PySem.Spec PyProof.Rows
section
variable {X:Cx}
end
end L2
namespace L2
open PySem PySem.Spec PyProof.Rows
end L2
namespace L2
open PySem PySem.Spec PyProof.Rows
section
variable {X:Cx}
end
end L2
namespace L2
end L2
namespace L2
theorem an3 {A0 A1 A2:Prop} (h0:A0) (h1:A1) (h2:A2):A0∧A1∧A2:=⟨h0,h1,h2⟩
theorem an4 {A0 A1 A2 A3:Prop} (h0:A0) (h1:A1) (h2:A2) (h3:A3):A0∧A1∧A2∧A3:=⟨h0,h1,h2,h3⟩
theorem an5 {A0 A1 A2 A3 A4:Prop} (h0:A0) (h1:A1) (h2:A2) (h3:A3) (h4:A4):A0∧A1∧A2∧A3∧A4:=⟨h0,h1,h2,h3,h4⟩
theorem an6 {A0 A1 A2 A3 A4 A5:Prop} (h0:A0) (h1:A1) (h2:A2) (h3:A3) (h4:A4) (h5:A5):A0∧A1∧A2∧A3∧A4∧A5:=⟨h0,h1,h2,h3,h4,h5⟩
theorem an7 {A0 A1 A2 A3 A4 A5 A6:Prop} (h0:A0) (h1:A1) (h2:A2) (h3:A3) (h4:A4) (h5:A5) (h6:A6):A0∧A1∧A2∧A3∧A4∧A5∧A6:=⟨h0,h1,h2,h3,h4,h5,h6⟩
theorem an8 {A0 A1 A2 A3 A4 A5 A6 A7:Prop} (h0:A0) (h1:A1) (h2:A2) (h3:A3) (h4:A4) (h5:A5) (h6:A6) (h7:A7):A0∧A1∧A2∧A3∧A4∧A5∧A6∧A7:=⟨h0,h1,h2,h3,h4,h5,h6,h7⟩
theorem an9 {A0 A1 A2 A3 A4 A5 A6 A7 A8:Prop} (h0:A0) (h1:A1) (h2:A2) (h3:A3) (h4:A4) (h5:A5) (h6:A6) (h7:A7) (h8:A8):A0∧A1∧A2∧A3∧A4∧A5∧A6∧A7∧A8:=⟨h0,h1,h2,h3,h4,h5,h6,h7,h8⟩
theorem an10 {A0 A1 A2 A3 A4 A5 A6 A7 A8 A9:Prop} (h0:A0) (h1:A1) (h2:A2) (h3:A3) (h4:A4) (h5:A5) (h6:A6) (h7:A7) (h8:A8) (h9:A9):A0∧A1∧A2∧A3∧A4∧A5∧A6∧A7∧A8∧A9:=⟨h0,h1,h2,h3,h4,h5,h6,h7,h8,h9⟩
theorem an11 {A0 A1 A2 A3 A4 A5 A6 A7 A8 A9 A10:Prop} (h0:A0) (h1:A1) (h2:A2) (h3:A3) (h4:A4) (h5:A5) (h6:A6) (h7:A7) (h8:A8) (h9:A9) (h10:A10):A0∧A1∧A2∧A3∧A4∧A5∧A6∧A7∧A8∧A9∧A10:=⟨h0,h1,h2,h3,h4,h5,h6,h7,h8,h9,h10⟩
theorem an12 {A0 A1 A2 A3 A4 A5 A6 A7 A8 A9 A10 A11:Prop} (h0:A0) (h1:A1) (h2:A2) (h3:A3) (h4:A4) (h5:A5) (h6:A6) (h7:A7) (h8:A8) (h9:A9) (h10:A10) (h11:A11):A0∧A1∧A2∧A3∧A4∧A5∧A6∧A7∧A8∧A9∧A10∧A11:=⟨h0,h1,h2,h3,h4,h5,h6,h7,h8,h9,h10,h11⟩
theorem an13 {A0 A1 A2 A3 A4 A5 A6 A7 A8 A9 A10 A11 A12:Prop} (h0:A0) (h1:A1) (h2:A2) (h3:A3) (h4:A4) (h5:A5) (h6:A6) (h7:A7) (h8:A8) (h9:A9) (h10:A10) (h11:A11) (h12:A12):A0∧A1∧A2∧A3∧A4∧A5∧A6∧A7∧A8∧A9∧A10∧A11∧A12:=⟨h0,h1,h2,h3,h4,h5,h6,h7,h8,h9,h10,h11,h12⟩
theorem an14 {A0 A1 A2 A3 A4 A5 A6 A7 A8 A9 A10 A11 A12 A13:Prop} (h0:A0) (h1:A1) (h2:A2) (h3:A3) (h4:A4) (h5:A5) (h6:A6) (h7:A7) (h8:A8) (h9:A9) (h10:A10) (h11:A11) (h12:A12) (h13:A13):A0∧A1∧A2∧A3∧A4∧A5∧A6∧A7∧A8∧A9∧A10∧A11∧A12∧A13:=⟨h0,h1,h2,h3,h4,h5,h6,h7,h8,h9,h10,h11,h12,h13⟩
theorem an15 {A0 A1 A2 A3 A4 A5 A6 A7 A8 A9 A10 A11 A12 A13 A14:Prop} (h0:A0) (h1:A1) (h2:A2) (h3:A3) (h4:A4) (h5:A5) (h6:A6) (h7:A7) (h8:A8) (h9:A9) (h10:A10) (h11:A11) (h12:A12) (h13:A13) (h14:A14):A0∧A1∧A2∧A3∧A4∧A5∧A6∧A7∧A8∧A9∧A10∧A11∧A12∧A13∧A14:=⟨h0,h1,h2,h3,h4,h5,h6,h7,h8,h9,h10,h11,h12,h13,h14⟩
end L2
namespace L2
open PySem PySem.Spec PyProof.Rows
section
variable {X:Cx}
end
end L2
namespace L2
open PySem PySem.Spec PyProof.Rows
def iK (v:V) (z:Str):Prop:=v=.str z∨∃n:Int,v=.int n∧n.natAbs.log2<1920∧z=Str.ofString (toString n)
theorem bA {X:Cx}:CallR X (.type "str") (fun xs H Q=>∃(v:V) (z:Str),xs=[v]∧iK v z∧Q (.str z) H):=by
 intro pins s σ H xs us Q I r h
 obtain ⟨v,z,rfl,hv,q⟩:=h
 rcases hv with rfl|⟨n,rfl,hl,rfl⟩
 ·obtain ⟨u,rfl,t,rfl⟩:=yW r
  exact P.str_of_str ⟨.str z,H,I,⟨_,rfl⟩,q⟩
 ·obtain ⟨u,rfl,t,rfl⟩:=yW r
  exact P.str_of_int hl ⟨.str (Str.ofString (toString n)),H,I.tok _,⟨_,rfl⟩,q⟩
end L2
namespace L2
open PySem PySem.Spec PyProof.Rows
end L2
namespace L2
open PySem PySem.Spec PyProof.Rows
section
variable {prog:Program} {w:World} {A:Around} {E:Value→Shared→Prop} {s:Shared}
theorem mD {R:Result→Shared→Prop} (hh:A.handled=none) {z P1 P2 j1 j2 a b:Addr} {us vs:Array Value} (D:ZipApart z P1 P2 j1 j2 a b) (hn:min us.size vs.size≤sizeLine) (hz:IsZip s.heap z P1 P2 .none)
  (hs:∀N,ZStands s.heap N z P1 P2 j1 j2 a b us vs 0) (q:∀h' acc' c',(∀d o,d∉[z,P2,j1,j2]→s.heap.get? d=some o→h'.get? d=some o)→h'.get? s.heap.objs.size=some {cls:=.type "list",dict:=none,data:=.seq acc' c',slots := #[]}→Pairs h' (s.heap.objs.size+1) us vs acc' (min us.size vs.size)→R (.ok (.ret (.ref s.heap.objs.size))) {s with heap:=h'}) :
  codeAny (model prog w) A (.builtin "proto.collect" ⟨[.ref z],[]⟩) R s:=by
 have lt:∀{c:Addr} {o:Obj},s.heap.get? c=some o→c<s.heap.objs.size:=fun e=>Heap.lt_size e
 obtain ⟨h2,hP1,n1,n2,la,lb⟩:=hs (s.heap.objs.size+1)
 have bz:∀c∈[z,P1,P2,j1,j2,a,b],c<s.heap.objs.size:=by
  have hP2:P2<s.heap.objs.size:=by
   rcases h2 with ⟨_,g,g',h⟩|⟨T,f1,o,h,_⟩
   ·exact lt h
   ·have y:=hz.symm.trans h;cases y
  intro c hc
  simp only [List.mem_cons,List.mem_nil_iff,or_false] at hc
  obtain ⟨_,w1,_⟩:=id n1;obtain ⟨_,w2,_⟩:=id n2;obtain ⟨_,w3,_⟩:=id la;obtain ⟨_,w4,_⟩:=id lb
  rcases hc with rfl|rfl|rfl|rfl|rfl|rfl|rfl
  ·exact lt hz
  ·exact lt hP1
  ·exact hP2
  ·exact lt w1
  ·exact lt w2
  ·exact lt w3
  ·exact lt w4
 refine codeAny_builtin F.entry_proto_collect ?_
 rw [Around.under_plainId F.plain_proto_collect _]
 show wpAny _ A.in1 (newList [] >>= fun l=>again (.builtin "list.__iadd__" ⟨[l,.ref z],[]⟩)) _ _ s
 refine wpAny_bind (wpAny_newObj_type ?_)
 refine wpAny_pure ⟨plainId_quiet F.plain_list_iadd _,codeAny_builtin F.entry_list_iadd ?_⟩
 rw [Around.under_plainId F.plain_list_iadd _]
 have g1:(s.heap.push {cls:=.type "list",data:=.seq ([]:List Value).toArray}).get? s.heap.objs.size=some {cls:=.type "list",data:=.seq #[]}:=Heap.get?_push_size _ rfl
 have kp0:∀d o,s.heap.get? d=some o→(s.heap.push {cls:=.type "list",data:=.seq ([]:List Value).toArray}).get? d=some o:=fun d o e=>Heap.get?_push_of_some _ e
 have nS:∀c∈[z,P1,P2,j1,j2,a,b],c≠s.heap.objs.size:=fun c hc=>Nat.ne_of_lt (bz c hc)
 show wpAny _ A.in1 (Builtin.List.listExtendWith (.ref s.heap.objs.size) (.ref z) (.ref s.heap.objs.size)) _ _ _
 refine mZ (R:=R) (A:=A) (s:={s with heap:=s.heap.push {cls:=.type "list",data:=.seq ([]:List Value).toArray}}) (N:=s.heap.objs.size+1) hh D (fun c hc=>?_) nS hn _ _ ?_ (kp0 _ _ hz) ((hs (s.heap.objs.size+1)).keep (Nat.lt_succ_self _) nS fun d o _ e=>kp0 d o e) g1 fun h' acc' c' kp hS' hp=>?_
 ·simp only [List.mem_cons,List.mem_nil_iff,or_false] at hc
  rcases hc with rfl|rfl|rfl|rfl|rfl
  ·exact Nat.lt_succ_of_lt (bz _ (by simp))
  ·exact Nat.lt_succ_of_lt (bz _ (by simp))
  ·exact Nat.lt_succ_of_lt (bz _ (by simp))
  ·exact Nat.lt_succ_of_lt (bz _ (by simp))
  ·exact Nat.lt_succ_self _
 ·show s.heap.objs.size+1≤(s.heap.push _).objs.size
  rw [Heap.size_push];exact Nat.le_refl _
 ·refine q h' acc' c' (fun d o hd e=>kp d o ?_ (kp0 d o e)) hS' hp
  have:=lt e
  simp only [List.mem_cons,List.mem_nil_iff,or_false,not_or] at hd ⊢
  exact ⟨hd.1,hd.2.1,hd.2.2.1,hd.2.2.2,Nat.ne_of_lt this⟩
theorem mX {Q:List Value→Shared→Prop} (hh:A.handled=none) {z P1 P2 j1 j2 a b:Addr} {us vs:Array Value} (D:ZipApart z P1 P2 j1 j2 a b) (hn:min us.size vs.size≤sizeLine) (hz:IsZip s.heap z P1 P2 .none)
  (hs:∀N,ZStands s.heap N z P1 P2 j1 j2 a b us vs 0) (q:∀h' acc',(∀d o,d∉[z,P2,j1,j2]→s.heap.get? d=some o→h'.get? d=some o)→Pairs h' (s.heap.objs.size+1) us vs acc' (min us.size vs.size)→s.heap.objs.size<h'.objs.size→Q acc'.toList {s with heap:=h'}) :
  wpAny (model prog w) A (collect (.ref z)) Q E s:=by
 unfold collect
 refine wpAny_bind (wpAny_runValue (mD hh D hn hz hs fun h' acc' c' kp hS' hp=>?_))
 show wpAny _ A (load s.heap.objs.size >>= _) _ _ _
 refine wpAny_bind (wpAny_load hS' ?_)
 exact wpAny_pure (q h' acc' kp hp (Heap.lt_size hS'))
theorem mH {Q:Value→Shared→Prop} (hh:A.handled=none) {z P1 P2 j1 j2 a b:Addr} {us vs:Array Value} (D:ZipApart z P1 P2 j1 j2 a b) (hn:min us.size vs.size≤sizeLine) (hz:IsZip s.heap z P1 P2 .none)
  (hs:∀N,ZStands s.heap N z P1 P2 j1 j2 a b us vs 0) (q:∀h' acc',(∀d o,d∉[z,P2,j1,j2]→s.heap.get? d=some o→h'.get? d=some o)→Pairs h' (s.heap.objs.size+1) us vs acc' (min us.size vs.size)→s.heap.objs.size<h'.objs.size→Q (.ref h'.objs.size) {s with heap:=h'.push {cls:=.type "tuple",data:=.seq acc'}}) :
  wpAny (model prog w) A (call (.type "tuple") [.ref z]) Q E s:=by
 have hTI:s.TypeIs (.ref z) "zip":=⟨_,hz,rfl⟩
 refine callType_codes (Q₁:=fun obj s₁=>s₁.TypeIs obj "tuple"∧Q obj s₁) F.called_tuple (F.typeCall_tuple_1 _) F.entry_object_init ?_ fun obj s₁ h₁=>⟨h₁.1,F.args_object_init_2 obj _,object_init_meets F.called_tuple.init.lookup F.called_tuple.made (by decide) prog w A.in1 _ s₁ ⟨h₁.1,rfl,h₁.2⟩⟩
 refine codeAny_of_tree ?_
 show wpAny _ A.in1.in1 (do checkBuiltinCall "tuple.__new__" ⟨[.type "tuple",.ref z],[]⟩;again (.builtin "tuple.__new__" ⟨[.type "tuple",.ref z],[]⟩)) _ _ s
 refine wpAny_bind (wpAny_of_eq (F.newCall_tuple_1 _) (wpAny_pure ⟨plainId_quiet F.plain_tuple_new _,codeAny_builtin F.entry_tuple_new ?_⟩))
 rw [Around.under_plainId F.plain_tuple_new _]
 have hsub:=sub_tuple_self
 have hinit:=init_tuple_lookup
 have hmh:=madeHere_tuple
 wp_walk using wpAny_typeOf hTI,mX (by simp [hh]) D hn hz hs
 intro h' acc kp hp hlt
 show wpAny _ _ (Builtin.Tuple.tupleExact acc.toList.toArray >>= fun v=>ret v) _ _ _
 unfold Builtin.Tuple.tupleExact
 refine wpAny_bind (wpAny_newObj_type ?_ (by show acc.toList.toArray.size≤sizeLine;simp only [Array.toArray_toList];rw [hp.1];exact hn))
 refine wpAny_pure ?_
 have e:acc.toList.toArray=acc:=by simp
 rw [e]
 exact ⟨⟨_,Heap.get?_push_size _ rfl,rfl⟩,q h' acc kp hp hlt⟩
end
section
variable {X:Cx}
def p9 (K:PySem.W.Frag) (ta:TA):TE:=fun σ H Q=>ta σ H fun vs H1=>∃(a1 a2:Addr) (xs ys:List V),vs=[.ref a1,.ref a2]∧SqL K H1 a1 xs∧SqL K H1 a2 ys∧
 ∀(l:Addr) (ts:List V) (H':Hp),Same H1 H'→H1 l=none→H' l=some (.tup ts)→ts.length=min xs.length ys.length→(∀(i:Nat) (v:V),ts[i]?=some v→∃(T:Addr) (x y:V),v=.ref T∧H' T=some (.tup [x,y])∧xs[i]?=some x∧ys[i]?=some y)→Q (.ref l) H'
open Classical in
theorem nX {a b:Expr} {ta:TA} {p p1 pos pos1:Pos} (hc:X.calm=true) (hgl:Gl X "tuple") (hml:X.mg "tuple"=none) (hg:Gl X "zip") (hm:X.mg "zip"=none) (ha:PA X [a,b] ta) (hs:starEach [a,b] X.env=[(false,eval a X.env),(false,eval b X.env)]:=by rfl) (hs2:starEach [b] X.env=[(false,eval b X.env)]:=by rfl)
  (hs3:starEach [.Call (.Name "zip" p1) [a,b] [] pos1] X.env=[(false,eval (.Call (.Name "zip" p1) [a,b] [] pos1) X.env)]:=by rfl) :
  PE X (.Call (.Name "tuple" p) [.Call (.Name "zip" p1) [a,b] [] pos1] [] pos) (p9 X.K ta):=by
 intro pins s σ H Q I h
 refine wpAny_Call_Name_kw (z5 I hgl hml PyProof.Rows.boot_tuple ?_)
 refine PyProof.Rows.callWith_type1 ?_ hs3 rfl
 rw [hs3]
 show wpAny _ _ (spliced [(false,eval (.Call (.Name "zip" p1) [a,b] [] pos1) X.env)]) _ _ s
 refine Calls.spliced_cons ?_
 refine Call_ (z5 I hg hm boot_zip (PyProof.Rows.callWith_type1 (jD (ha pos1 pins s σ H _ I h) fun us s1 ⟨vs,H1,I1,r1,q1⟩=>?_) (by rw [hs,hs2]) (by rw [hs2];rfl)))
 obtain ⟨a1,a2,xs,ys,e,hq1,hq2,q⟩:=q1
 subst e
 cases r1 with
 |cons r rr =>
  cases rr with
  |cons r' rr =>
   cases rr
   cases r
   cases r'
   obtain ⟨its1,rv1,p1,z1⟩:=I1.list hq1
   obtain ⟨its2,rv2,p2,z2⟩:=I1.list hq2
   have lt1:a1<s1.heap.objs.size:=by obtain ⟨o,e,_⟩:=p1.isList;exact Heap.lt_size e
   have lt2:a2<s1.heap.objs.size:=by obtain ⟨o,e,_⟩:=p2.isList;exact Heap.lt_size e
   refine call_zip_2 p1.isList p2.isList fun h1 hz hTI hTO n1 n2 hsz hk=>?_
   refine Calls.spliced_nil ?_
   have D:ZipApart (s1.heap.objs.size+4) (s1.heap.objs.size+2) (s1.heap.objs.size+3) s1.heap.objs.size (s1.heap.objs.size+1) a1 a2:=by
    constructor<;>(intro e;simp only [Addr] at *;omega)
   have ll1:=rv1.length
   have ll2:=rv2.length
   refine mH (us:=its1.toArray) (vs:=its2.toArray) (I.ok.hd hc) D (by rw [List.size_toArray,List.size_toArray];omega) hz (fun N=>⟨.inl ⟨hz,_,_,hTO⟩,hTI,n1,n2,p1.isList.at fun o e=>hk _ o e,p2.isList.at fun o e=>hk _ o e⟩) fun h2 acc kp hp hlt=>?_
   show EP X pins σ Q (.ref h2.objs.size) {s1 with heap:=h2.push {cls:=.type "tuple",data:=.seq acc}}
   have kall:∀b u,s1.heap.get? b=some u→h2.get? b=some u:=fun b u e=>by
    have hb:b<s1.heap.objs.size:=Heap.lt_size e
    refine kp b u ?_ (hk b u e)
    simp only [List.mem_cons,List.mem_nil_iff,or_false,not_or]
    simp only [Addr] at *
    omega
   have kall3:∀b u,s1.heap.get? b=some u→(h2.push {cls:=.type "tuple",data:=.seq acc}).get? b=some u:=fun b u e=>Heap.get?_push_of_some _ (kall b u e)
   have hmin:min its1.toArray.size its2.toArray.size=min xs.length ys.length:=by rw [List.size_toArray,List.size_toArray,← ll1,← ll2]
   rw [hmin] at hp
   have getV:∀(j:Nat),j<min xs.length ys.length→∃(T:Addr) (u v:Value) (x y:V),acc[j]?=some (.ref T)∧h1.objs.size+1≤T∧T<h2.objs.size∧IsPair h2 T u v∧xs[j]?=some x∧ys[j]?=some y∧RelV x u∧RelV y v:=fun j hj=>by
    have hja:j<acc.size:=by rw [hp.1];exact hj
    obtain ⟨T,u,v,e1,e2,e3,e4,e5,e6⟩:=hp.2.1 j _ (Array.getElem?_eq_getElem hja)
    have hx:xs[j]?=some xs[j]:=List.getElem?_eq_getElem (by omega)
    have hy:ys[j]?=some ys[j]:=List.getElem?_eq_getElem (by omega)
    obtain ⟨u',hu',ru⟩:=rv1.get hx
    obtain ⟨v',hv',rv⟩:=rv2.get hy
    have e5':its1[j]?=some u:=by simpa using e5
    have e6':its2[j]?=some v:=by simpa using e6
    obtain rfl:u'=u:=Option.some.inj (hu'.symm.trans e5')
    obtain rfl:v'=v:=Option.some.inj (hv'.symm.trans e6')
    exact ⟨T,u',v',_,_,by rw [Array.getElem?_eq_getElem hja,e1],e2,e3,e4,hx,hy,ru,rv⟩
   let cell:Nat→HO:=fun j=>.tup [xs.getD j .non,ys.getD j .non]
   let ts:List V:=acc.toList.map fun v=>match v with|.ref T=>.ref T|_=>.non
   let H2:Hp:=fun c=>if c=h2.objs.size then some (.tup ts) else if e:∃j:Nat,acc[j]?=some (.ref c) then some (cell (Classical.choose e)) else H1 c
   have hS2:H2 h2.objs.size=some (.tup ts):=if_pos rfl
   have hT2:∀(j:Nat) (T:Addr),acc[j]?=some (.ref T)→T<h2.objs.size→H2 T=some (cell j):=fun j T e hT=>by
    have hx:∃j:Nat,acc[j]?=some (.ref T):=⟨j,e⟩
    show (if T=h2.objs.size then _ else if e:∃j:Nat,acc[j]?=some (.ref T) then some (cell (Classical.choose e)) else H1 T)=_
    rw [if_neg (Nat.ne_of_lt hT),dif_pos hx,hp.2.2 _ _ _ (Classical.choose_spec hx) e]
   have hle:s1.heap.objs.size≤h1.objs.size:=by rw [hsz];exact Nat.le_add_right _ _
   have hle2:s1.heap.objs.size≤h2.objs.size:=Nat.le_trans hle (Nat.le_of_lt hlt)
   have hsame:Same H1 H2:=fun c o e=>by
    have n1':c≠h2.objs.size:=qP e (I1.hok.fresh hle2)
    have n2':¬∃j:Nat,acc[j]?=some (.ref c):=fun ⟨j,ej⟩=>by
     obtain ⟨T,_,_,e1,e2,_⟩:=hp.2.1 j _ ej
     cases e1
     have:H1 c=none:=I1.hok.fresh (Nat.le_trans hle (Nat.le_of_succ_le e2))
     rw [this] at e;cases e
    show (if c=h2.objs.size then _ else if e:∃j:Nat,acc[j]?=some (.ref c) then some (cell (Classical.choose e)) else H1 c)=_
    rw [if_neg n1',dif_neg n2'];exact e
   have hts:ts.length=min xs.length ys.length:=by show (acc.toList.map _).length=_;rw [List.length_map,Array.length_toList,hp.1]
   have hvals:Vals ts acc.toList:=by
    have key:∀l:List Value,(∀v∈l,∃T,v=.ref T)→Vals (l.map fun v=>match v with|.ref T=>V.ref T|_=>.non) l:=fun l=>by
     induction l with
     |nil=>intro _;exact .nil
     |cons v l ih =>
      intro hl
      obtain ⟨T,rfl⟩:=hl v List.mem_cons_self
      exact .cons rfl (ih fun u hu=>hl u (List.mem_cons_of_mem _ hu))
    refine key _ fun v hv=>?_
    obtain ⟨j,hj⟩:=List.mem_iff_getElem?.mp hv
    rw [Array.getElem?_toList] at hj
    obtain ⟨T,_,_,e1,_⟩:=hp.2.1 j v hj
    exact ⟨T,e1⟩
   have hzl:min xs.length ys.length≤sizeLine:=by omega
   refine ⟨.ref h2.objs.size,H2,I1.laidAll (t':=s1.toks) kall3 hsame fun d o e=>?_,rfl,?_⟩
   ·by_cases c1:d=h2.objs.size
    ·subst c1
     rw [hS2] at e
     cases e
     exact .inr ⟨hle2,by rw [hts];exact hzl,acc.toList,hvals,⟨_,Heap.get?_push_size _ rfl,rfl,0,by rw [Array.toArray_toList]⟩⟩
    ·by_cases c2:∃j:Nat,acc[j]?=some (.ref d)
     ·obtain ⟨j,ej⟩:=c2
      have hj:j<min xs.length ys.length:=by rw [← hp.1];exact (Array.getElem?_eq_some_iff.mp ej).1
      obtain ⟨T,u,v,x,y,e1,e2,e0,e3,e4,e5,ru,rv⟩:=getV j hj
      obtain rfl:d=T:=by have:=ej.symm.trans e1;cases this;rfl
      rw [hT2 j d ej e0] at e
      cases e
      refine .inr ⟨Nat.le_trans hle (Nat.le_of_succ_le e2),(by show 2≤sizeLine;decide),[u,v],?_,⟨_,Heap.get?_push_of_some _ e3,rfl,_,rfl⟩⟩
      rw [show xs.getD j .non=x by rw [List.getD_eq_getElem?_getD,e4];rfl,show ys.getD j .non=y by rw [List.getD_eq_getElem?_getD,e5];rfl]
      exact .cons ru (.cons rv .nil)
     ·refine .inl ?_
      have e':(if d=h2.objs.size then some (HO.tup ts) else if e:∃j:Nat,acc[j]?=some (.ref d) then some (cell (Classical.choose e)) else H1 d)=some o:=e
      rw [if_neg c1,dif_neg c2] at e'
      exact e'
   ·refine q _ ts H2 hsame (I1.hok.fresh hle2) hS2 hts fun i v hv=>?_
    have hi:i<min xs.length ys.length:=by rw [← hts];exact (List.getElem?_eq_some_iff.mp hv).1
    obtain ⟨T,u,w',x,y,e1,e2,e0,e3,e4,e5,_⟩:=getV i hi
    have hv':(acc.toList.map fun v=>match v with|.ref T=>V.ref T|_=>.non)[i]?=some v:=hv
    rw [List.getElem?_map,Array.getElem?_toList,e1] at hv'
    cases hv'
    refine ⟨T,x,y,rfl,?_,e4,e5⟩
    rw [hT2 i T e1 e0]
    show some (HO.tup [xs.getD i .non,ys.getD i .non])=_
    rw [List.getD_eq_getElem?_getD,e4,List.getD_eq_getElem?_getD,e5]
    rfl
end
end L2
namespace L2
open PySem PySem.Spec PyProof.Rows
structure M2 (X:Cx) (o:Expr) (m:Str) (apos:Pos) (e f:Expr) (cpos:Pos):Prop where
 base:attributeBase o m X.env (eval o X.env)=eval o X.env
 few:((backTo cpos (starEach [e,f] X.env)).all (fun x => !x.1)&&(backToKw cpos (keywordEach [] X.env)).all (fun x=>x.1.isSome)
  && decide (([e,f]:List Expr).length+([]:List Keyword).length+(if ([]:List Keyword).isEmpty then 0 else 1)<30))=true
 line:(apos.endLine == cpos.line)=true
 trees:backTo cpos (starEach [e,f] X.env)=[(false,eval e X.env),(false,eval f X.env)]
def i0 (H:Hp) (a:Addr):Prop:=(∃kvs,Rd H a (.dK kvs))∨∃kvs,Rd H a (.dT kvs)
theorem sS {X:Cx} {pins:List (Addr×Obj)} {σ:St} {H:Hp} {s:Shared} {a:Addr} (I:Inv X pins σ H s) (d:i0 H a) :
  s.TypeIs (.ref a) "dict"∧(∀b,Value.ref a=.ref b→∃ob,s.heap.get? b=some ob∧ob.dict=none)∧(a == sysModules)=false:=by
 rcases d with ⟨kvs,e⟩|⟨kvs,e⟩
 ·obtain ⟨_,hd,vs,_,dd⟩:=cJ I.hok e
  refine ⟨dd.typeIs,fun b q=>?_,hd⟩
  cases q
  obtain ⟨ob,_,_,h1,h2,_⟩:=dd
  exact ⟨ob,h1,h2.2.1⟩
 ·obtain ⟨_,hd,xs,_,dd⟩:=iI I.hok e
  refine ⟨dd.typeIs,fun b q=>?_,hd⟩
  cases q
  obtain ⟨ob,_,_,h1,h2,_⟩:=dd
  exact ⟨ob,h1,h2.2.1⟩
section
variable {X:Cx} {pins:List (Addr×Obj)} {σ:St} {H:Hp} {s:Shared} {a:Addr} {y d:V} {u r:Value} {o:Option V} {A:Around} {E:Value→Shared→Prop}
theorem sY {Q:Value→Shared→Prop} (hu:A.units+1<cLine) (I:Inv X pins σ H s) (g:DGet H a y o) (ry:RelV y u) (rd:RelV d r) (h:∀w' s',Inv X pins σ H s'→RelV (o.getD d) w'→Q w' s') :
  wpAny (model X.prog X.w) A (call (.builtin "dict.get") [.ref a,u,r]) Q E s:=by
 rcases g with ⟨kvs,k,e,ey,l⟩|⟨kvs,k,b,e,ey,eb,l⟩
 ·subst ey
  obtain ⟨z,hd,vs,rel,dd⟩:=cJ I.hok e
  refine call_meetsIn PySem.F.slot_dict_get dd.typeIs PySem.F.entry_dict_get (PySem.F.args_dict_get_3 _ _ _) (meets_dict_get_default (qC X.prog X.w) a (cG ry) hd r) ⟨_,dd.mapOf,h _ _ (I.tok _) ?_⟩
  rw [l]
  exact (rel.val k).getD rd
 ·subst ey
  cases (show u=Value.ref b from ry)
  obtain ⟨z,hd,xs,rel,dd⟩:=iI I.hok e
  refine call_meetsIn PySem.F.slot_dict_get dd.typeIs PySem.F.entry_dict_get (PySem.F.args_dict_get_3 _ _ _) (meetsH_dict_get_default (tupleKind (qC X.prog X.w)) a b hd r) ⟨tupleKind_room_in1 hu,k,xs,gU I.hok eb,dd,h _ _ (I.tok _) ?_⟩
  rw [l]
  exact (rel.val k).getD rd
end
def sB (td ty tx:TE):TE:=fun σ H Q=>td σ H fun x H1=>∃a,x=.ref a∧i0 H1 a∧ty σ H1 fun y H2=>tx σ H2 fun z H3=>∃o,DGet H3 a y o∧Q (o.getD z) H3
section
variable {X:Cx} {o e f:Expr} {apos cpos:Pos} {td ty tx:TE}
theorem e8 (hu:X.A.units+1<cLine) (ho:PE X o td) (he:PE X e ty) (hf:PE X f tx) (m:M2 X o "get" apos e f cpos):PE X (.Call (.Attribute o "get" apos) [e,f] [] cpos) (sB td ty tx):=by
 intro pins s σ H Q I h
 refine wpAny_Call_method m.base m.few m.line PySem.F.plainAttrs_dict PySem.F.slot_dict_get PySem.F.type_dict_get (jD (ho pins s σ H _ I h) fun u s1 ⟨x,H1,I1,rx,a,ex,d,q1⟩=>?_)
 subst ex
 obtain rfl:u=Value.ref a:=rx
 obtain ⟨t1,t2,_⟩:=sS I1 d
 refine ⟨t1,t2,?_⟩
 rw [m.trees]
 refine Calls.callWith_builtin rfl (Calls.evalArgs_plain (Calls.spliced_cons (jD (he pins s1 σ H1 _ I1 q1) fun iv s2 ⟨y,H2,I2,ry,q2⟩ =>
  Calls.spliced_cons (jD (hf pins s2 σ H2 _ I2 q2) fun fv s3 ⟨z,H3,I3,rz,ov,g,q3⟩=>Calls.spliced_nil ?_))))
 exact sY hu I3 g ry rz fun w' s4 I4 rw'=>⟨_,H3,I4,rw',q3⟩
end
end L2
namespace L2
open PySem PySem.Spec PyProof.Rows
def JB (z:Str):Str:=⟨PySem.placed z fun _ c=>Unicode.upperOf c⟩
def sF:V→List V→Hp→VK→Prop:=fun x vs H Q=>∃z:Str,x=.str z∧vs=[]∧(JB z).length≤sizeLine∧Q (.str (JB z)) H
theorem pM {X:Cx}:QE X "str.upper" sF:=by
 intro pins s σ H x vs v us Q I rx rv h
 obtain ⟨z,rfl,rfl,hl,q⟩:=h
 obtain ⟨t,rfl⟩:=rx
 cases rv
 exact call_gives F.slot_str_upper (typeIs_str _ _ _) F.entry_str_upper (F.args_str_upper_1 _) (gives_str_upper z t (decide_eq_false (Nat.not_lt.mpr hl))) ⟨hl,.str (JB z),H,I.tok _,⟨_,rfl⟩,q⟩
end L2
namespace L2
open PySem PySem.Spec PyProof.Rows
section
variable {M:Model} {A:Around} {E:Value→Shared→Prop} {s:Shared}
theorem pK {B:Heap} {env:Env} {outer:List Env} {L e:Addr} {cls a0 fl:Value} {Q:Unit→Shared→Prop} (hfr:A.frames=some (env::outer)) (hl:s.heap.FunFrames B (env::outer)) (hf:env.frame=some L) (ht:s.heap.TracedAtW B e cls a0 fl) (hn:fl≠rawInt L) (hb:B.StaysIn s.heap) (he0:B.get? e=none)
  (q:∀h',Heap.NotedW B (env::outer) e cls a0 (rawInt L) s.heap h'→Q () {s with heap:=h'}):wpAny M A (noteFrame (.ref e) env) Q E s:=by
 obtain ⟨oe,vs,T,oT,ts,he,⟨rfl,h0⟩,hd,h1,nT,nTe,hT,dT,h3⟩:=ht
 unfold noteFrame
 simp only [hf]
 refine wpAny_bind (wpAny_field he hd h1 ?_)
 rw [if_pos (show (Value.ref T != Value.none)=true from by simp)]
 refine wpAny_bind (wpAny_field hT dT h3 ?_)
 rw [if_neg (show ¬((fl == rawInt L)=true) from fun z=>hn (eq_of_beq z))]
 refine wpAny_bind (wpAny_setField hT dT (Array.getElem?_eq_some_iff.mp h3).1 ?_)
 have oth:∀b,b≠T→(s.heap.update T (Obj.mapFields (·.setIfInBounds 3 Value.none))).get? b=s.heap.get? b:=fun b nb=>Heap.get?_update_other _ _ (Ne.symm nb)
 have nrec:∀b o,s.heap.get? b=some o→(∀vs,o.data≠.fields vs)→b≠T:=fun b o hbo nf z=>by rw [z,hT] at hbo;cases hbo;exact nf ts dT
 refine wpAny_entryW hfr (hl.of_keeps fun b o hbo nf=>⟨o,(oth b (nrec b o hbo nf)).trans hbo,rfl⟩) hf ((oth e (Ne.symm nTe)).trans he) (fun b o hbo=>(oth b fun z=>by rw [z,nT] at hbo;cases hbo).trans (hb b o hbo)) he0 hd (Array.getElem?_eq_some_iff.mp h1).1 h0 fun h' y=>?_
 obtain ⟨y1,y2,y3,y4⟩:=y
 exact q h' ⟨y1,y2,y3,fun b o hbo nf=>y4 b o ((oth b (nrec b o hbo nf)).trans hbo) nf⟩
theorem nG {B:Heap} {env:Env} {outer:List Env} {L e:Addr} {cls a0 fl:Value} {Q:Unit→Shared→Prop} (hfr:A.frames=some (env::outer)) (hl:s.heap.FunFrames B (env::outer)) (hf:env.frame=some L) (ht:s.heap.TracedAtW B e cls a0 fl) (hb:B.StaysIn s.heap) (he0:B.get? e=none)
  (q:∀h',Heap.FlyingW B outer e cls a0 h'→s.heap.UpToSlots h'→Q () {s with heap:=h'}):wpAny M A (leaving env (.ref e)) Q E s:=by
 have fin:∀h2,Heap.HeldW B (env::outer) e cls a0 L h2→s.heap.UpToSlots h2→wpAny M A (setFlight (.ref e) none) Q E {s with heap:=h2}:=fun h2 hh up=>by
  refine wpAny_landsW (s:={s with heap:=h2}) hh fun h' fly up'=>q h' ?_ (up.trans up')
  obtain ⟨k1,k2,⟨_,_,k3⟩,k4⟩:=fly
  exact ⟨k1,k2,k3,k4⟩
 unfold leaving
 by_cases hn:fl=rawInt L
 ·subst hn
  exact wpAny_bind (wpAny_noteFrame_againW hf ht (fin s.heap ⟨hb,he0,hl,ht⟩ (Heap.UpToSlots.refl _)))
 ·refine wpAny_bind (pK hfr hl hf ht hn hb he0 fun h2 y=>?_)
  obtain ⟨y1,y2,y3,y4⟩:=y
  exact fin h2 ⟨y1,he0,y2,y3⟩ y4
end
theorem oB {B B':Heap} (k:∀b o,B'.get? b=some o→B.get? b=some o) {b:Addr} (hn:B.get? b=none):B'.get? b=none:=by
 cases r:B'.get? b with
 |none=>rfl
 |some v=>rw [k b v r] at hn;cases hn
theorem dF {h B B':Heap} (k:∀b o,B'.get? b=some o→B.get? b=some o):∀{l:List Env},h.FunFrames B l→h.FunFrames B' l
 |[],_=>trivial
 |_::_,⟨hk,⟨L,o,hf,hn,ho,hd⟩,hr⟩=>⟨hk,⟨L,o,hf,oB k hn,ho,hd⟩,dF k hr⟩
def QA (X:Cx) (N:List Str) (scope:Scope) (C:Addr) (s:Shared) (H:Hp) (pins:List (Addr×Obj)) (fp:List Addr) (RX:Value→Hp→Prop):Value→Shared→Prop:=fun e s'=>∃pins₁ σ₁ H₁ s₁,Inv (jQ X N scope C s H pins fp) pins₁ σ₁ H₁ s₁∧jN X.prog X.w X.stack H₁ s₁ (fun c _ H'=>RX c H') e s'
theorem dL {X:Cx} {N:List Str} {scope:Scope} {C:Addr} {s:Shared} {H:Hp} {pins:List (Addr×Obj)} {fp:List Addr} {RX:Value→Hp→Prop}:z9 ((jQ X N scope C s H pins fp).wish (QA X N scope C s H pins fp RX)) (fun _ c H'=>RX c H') :=
 fun pins₁ σ₁ H₁ s₁ _ _ I hx=>⟨pins₁,σ₁,H₁,s₁,I.unwish,hx⟩
section
variable {P:Program} {w:World} {K:PySem.W.Frag} {mg:Str→Option Value} {base:Heap} {N:List Str} {qual:Str} {scope:Scope} {f:Addr} {cd:Value} {A:Around} {outer:List Env} {s:Shared} {H:Hp} {E:XK}
theorem pZ {Nc:List Str} {sc:Scope} {pins:List (Addr×Obj)} {σ:St} {H2:Hp} {s2:Shared} {fp:List Addr} {C:Addr} {e acc:Value} {s':Shared} {use:Option (Value→Sem Unit)} {Q:Value→Shared→Prop} {E':Value→Shared→Prop}
  (I2:Inv (j3 (jN P w) P w K mg base N qual scope f cd A outer s H E) pins σ H2 s2) (f2:∀b∈fp,qU (j3 (jN P w) P w K mg base N qual scope f cd A outer s H E) pins H2 b) (hC:s2.heap.objs.size≤C)
  (hx:QA (j3 (jN P w) P w K mg base N qual scope f cd A outer s H E) Nc sc C s2 H2 pins fp (fun c H'=>E c none H') e s') (cells:List (Str×Addr)) :
  wpAny (model P w) (A.deeper (envOfC qual scope s.heap.objs.size f cd)) (noteFrame e (compEnvC sc cells C (envOfC qual scope s.heap.objs.size f cd)))
   (fun _ s''=>compPost (model P w) (A.deeper (envOfC qual scope s.heap.objs.size f cd)) (j3 (jN P w) P w K mg base N qual scope f cd A outer s H E).xe use Q acc C (.error e) s'') E' s':=by
 obtain ⟨pins₁,σ₁,H₁,s₁,Ic,a,Cc,H3,rfl,os,bare,un,hok,⟨B,a0,fl,ground⟩,ha,hs1,q⟩:=hx
 have J1:Inv (jQ (j3 (jN P w) P w K mg base N qual scope f cd A outer s H E) Nc sc C s2 H2 pins fp) pins₁ σ₁ H3 s':=Ic.call' (ch:=[]) os un hok bare fun b z=>absurd z (by simp)
 have J0:=J1.pins_of (pins':=[]) fun p hp=>nomatch hp
 have JX:Inv (j3 (jN P w) P w K mg base N qual scope f cd A outer s H E) pins σ H3 s':=QP (σ':=σ) I2 f2 J0
 have fl':Heap.FlyingW B (envOfC qual scope s.heap.objs.size f cd::outer) a (.ref Cc) a0 s'.heap:=fl
 have hfs:jM (envOfC qual scope s.heap.objs.size f cd::outer)=s.heap.objs.size::jM outer:=rfl
 have hst2:s2.heap.FunFrames base (envOfC qual scope s.heap.objs.size f cd::outer):=I2.stack
 have hst:s'.heap.FunFrames base (envOfC qual scope s.heap.objs.size f cd::outer):=JX.stack
 have ub:Un (jM outer) [] H H3 s.heap s'.heap:=JX.base
 have u2:Un (jM outer) [] H H2 s.heap s2.heap:=I2.base
 have uc:Un (jM (envOfC qual scope s.heap.objs.size f cd::outer)) fp H2 H₁ s2.heap s₁.heap:=Ic.base
 have nfC:C∉jM (envOfC qual scope s.heap.objs.size f cd::outer):=fun z=>by
  obtain ⟨_,o,ho,_⟩:=hst2.mem z
  exact absurd (Heap.lt_size ho) (Nat.not_lt_of_le hC)
 have old:∀b,(∃o',s.heap.get? b=some o')→b∉jM outer→b∉jM (envOfC qual scope s.heap.objs.size f cd::outer):=fun b ⟨o',z⟩ n y=>by
  rw [hfs] at y
  rcases List.mem_cons.mp y with y|y
  ·exact absurd (Heap.lt_size z) (by rw [y];exact Nat.lt_irrefl _)
  ·exact n y
 have qL:∀b,H3 b≠none→b∉jM (envOfC qual scope s.heap.objs.size f cd::outer):=fun b hb z=>hb (JX.stkFree b z)
 have nfp:∀b,(∃o',s.heap.get? b=some o')→b∉fp:=fun b ⟨o',z⟩ y=>by
  obtain ⟨_,_,_,h4,_⟩:=f2 b y
  rcases h4 with h4|h4
  ·cases h4
  ·exact absurd (Heap.lt_size z) (Nat.not_lt_of_le h4)
 have in1:∀b,(∃o',s.heap.get? b=some o')→∃o',s₁.heap.get? b=some o':=fun b z=>by
  obtain ⟨o',z'⟩:=z
  obtain ⟨o2,h2⟩:=u2.there b o' z' (by simp)
  exact uc.there b o2 h2 (nfp b ⟨o',z'⟩)
 have ltC:∀b,(∃o',s.heap.get? b=some o')→b≠C:=fun b z y=>by
  obtain ⟨o',z'⟩:=z
  obtain ⟨o2,h2⟩:=u2.there b o' z' (by simp)
  exact absurd (Heap.lt_size h2) (Nat.not_lt_of_le (by rw [y];exact hC))
 obtain ⟨m,hns,_⟩:=J0.loc
 have hns':s'.heap.Ns C m:=hns
 have hBC:∃o,B.get? C=some o:=by
  obtain ⟨m1,hn1,_⟩:=Ic.loc
  obtain ⟨o1,_,_,ho1,_⟩:=(show s₁.heap.Ns C m1 from hn1)
  obtain ⟨o2,_,_,ho2,_⟩:=hns'
  exact ⟨o2,ground C o2 ho2 nfC (.inr ⟨o1,ho1⟩)⟩
 obtain ⟨oC,hBC⟩:=hBC
 have h3C:H3 C=none:=J1.free
 have leB:∀b o,(PySem.W.hideAll B [C]).get? b=some o→B.get? b=some o:=fun b o z=>PySem.W.of_hideAll _ z
 have inB:∀b o,b≠C→B.get? b=some o→(PySem.W.hideAll B [C]).get? b=some o:=fun b o n z=>PySem.W.hideAll_get _ z fun y=>n (List.mem_singleton.mp y)
 have noB:∀b,B.get? b=none→(PySem.W.hideAll B [C]).get? b=none:=fun b z=>by
  cases r:(PySem.W.hideAll B [C]).get? b with
  |none=>rfl
  |some v=>rw [leB b v r] at z;cases z
 show wpAny (model P w) (A.deeper (envOfC qual scope s.heap.objs.size f cd)) (noteFrame (.ref a) (envOfC qual scope s.heap.objs.size f cd)) _ _ s'
 refine wpAny_looks_onW J1.ok.frames rfl fl' fun h4 held up=>?_
 obtain ⟨k1,k2,k3,oe,vs,T,oT,ts,he,hcl,hd,h1,nT,nTe,hT,dT,h3⟩:=held
 refine ⟨m,up.ns hns',fun h5 sb cenv _=>?_⟩
 have naC:a≠C:=fun z=>by rw [z,hBC] at k2;cases k2
 have nTC:T≠C:=fun z=>by rw [z,hBC] at nT;cases nT
 have he5:h5.get? a=some oe:=(sb.2 a naC).trans he
 have hT5:h5.get? T=some oT:=(sb.2 T nTC).trans hT
 unfold PySem.passOn
 refine wpAny_bind (wpAny_field he5 hd h1 ?_)
 rw [if_neg (by simp)]
 unfold setFlight
 refine wpAny_bind (wpAny_bind (wpAny_field he5 hd h1 ?_))
 rw [if_pos (by simp)]
 have hz3:3<ts.size:=(Array.getElem?_eq_some_iff.mp h3).1
 refine wpAny_setField hT5 dT hz3 (wpAny_throw ?_)
 generalize hfv:(cenv.frame.elim Value.none fun f=>rawInt f)=fv
 have oth:∀b,b≠T→(h5.update T (Obj.mapFields (·.setIfInBounds 3 fv))).get? b=h5.get? b:=fun b nb=>Heap.get?_update_other _ _ (Ne.symm nb)
 have hT6:=Heap.get?_update_self (Obj.mapFields (·.setIfInBounds 3 fv)) hT5 (Obj.isFreed_of_fields (Obj.data_mapFields dT _))
 have tr6:(h5.update T (Obj.mapFields (·.setIfInBounds 3 fv))).TracedAtW (PySem.W.hideAll B [C]) a (.ref Cc) a0 fv:=⟨oe,vs,T,_,_,(oth a (Ne.symm nTe)).trans he5,hcl,hd,h1,noB T nT,nTe,hT6,Obj.data_mapFields dT _,by simp [hz3]⟩
 have keepB:(PySem.W.hideAll B [C]).StaysIn (h5.update T (Obj.mapFields (·.setIfInBounds 3 fv))):=fun b o z=>by
  have zb:=leB b o z
  have nb:b≠C:=fun y=>by rw [y,PySem.W.hideAll_none [C] List.mem_cons_self] at z;cases z
  have nt:b≠T:=fun y=>by rw [y,nT] at zb;cases zb
  rw [oth b nt,sb.2 b nb]
  exact k1 b o zb
 have upto:∀b o,b≠C→h4.get? b=some o→(∀vs,o.data≠.fields vs)→(h5.update T (Obj.mapFields (·.setIfInBounds 3 fv))).get? b=some o:=fun b o nb z nf=>by
  have nt:b≠T:=fun y=>by rw [y,hT] at z;cases z;exact nf ts dT
  rw [oth b nt,sb.2 b nb];exact z
 have fr6:(h5.update T (Obj.mapFields (·.setIfInBounds 3 fv))).FunFrames (PySem.W.hideAll B [C]) (envOfC qual scope s.heap.objs.size f cd::outer):=by
  have hk3:=dF leB k3
  clear tr6 keepB
  revert hk3
  generalize envOfC qual scope s.heap.objs.size f cd::outer=l at nfC
  intro hk3
  induction l with
  |nil=>trivial
  |cons env rest ih =>
   obtain ⟨g1,⟨L,o,g2,g3,g4,g5⟩,g6⟩:=hk3
   have hm:L∈jM (env::rest):=List.mem_filterMap.mpr ⟨env,List.mem_cons_self,g2⟩
   refine ⟨g1,⟨L,o,g2,g3,upto L o (fun y=>nfC (by rw [← y];exact hm)) g4 g5,g5⟩,ih (fun z=>nfC ?_) g6⟩
   obtain ⟨en,hen,hf⟩:=List.mem_filterMap.mp z
   exact List.mem_filterMap.mpr ⟨en,List.mem_cons_of_mem _ hen,hf⟩
 show wpAny (model P w) (A.deeper (envOfC qual scope s.heap.objs.size f cd)) (leaving (envOfC qual scope s.heap.objs.size f cd) (.ref a)) (fun _ s''=>jN P w outer H s E (.ref a) s'') (fun e' s''=>jN P w outer H s E e' s'') _
 refine nG (B:=PySem.W.hideAll B [C]) JX.ok.frames fr6 rfl tr6 keepB (noB a k2) fun h7 fly up7=>?_
 have g7:∀b o,s'.heap.get? b=some o→b∉jM (envOfC qual scope s.heap.objs.size f cd::outer)→b≠C→(H3 b≠none∨∃o',s₁.heap.get? b=some o')→(PySem.W.hideAll B [C]).get? b=some o:=fun b o z n nb y=>inB b o nb (ground b o z n y)
 refine ⟨a,Cc,H3,rfl,JX.os,JX.bare,ub.go (fun b o z n _ y=>fly.1 b o (g7 b o z (old b y n) (ltC b y) (.inr (in1 b y)))) (fun b o z n _=>?_),JX.hok.keepT fun b u hb z=>fly.1 b u (g7 b u z (qL b hb) (fun y=>hb (by rw [y];exact h3C)) (.inl hb)),?_,ha,?_,q⟩
 ·have hm:b∈jM (envOfC qual scope s.heap.objs.size f cd::outer):=by rw [hfs];exact List.mem_cons_of_mem _ n
  obtain ⟨_,o',ho',hdd⟩:=hst.mem hm
  rw [z] at ho';cases ho'
  obtain ⟨sl,e4⟩:=up b o z hdd
  have e6:=upto b _ (fun y=>nfC (by rw [← y];exact hm)) e4 hdd
  obtain ⟨sl2,e7⟩:=up7 b _ e6 hdd
  exact ⟨sl2,e7⟩
 ·refine ⟨_,a0,fly,fun b o z n y=>?_⟩
  have hn:b∉jM (envOfC qual scope s.heap.objs.size f cd::outer):=by
   rcases y with y|y
   ·exact qL b y
   ·exact old b y n
  have nb:b≠C:=by
   rcases y with y|y
   ·exact fun v=>y (by rw [v];exact h3C)
   ·exact ltC b y
  have h1':∃u,s'.heap.get? b=some u:=by
   rcases y with y|⟨o',y⟩
   ·cases r:H3 b with
    |none=>exact absurd r y
    |some v=>exact JX.hok.there r
   ·exact ub.there b o' y (by simp)
  obtain ⟨u,hu⟩:=h1'
  have hB:=g7 b u hu hn nb (by
   rcases y with y|y
   ·exact .inl y
   ·exact .inr (in1 b y))
  have:=fly.1 b u hB
  have z':h7.get? b=some o:=z
  rw [z'] at this
  cases this
  exact hB
 ·cases r:s.heap.get? a with
  |none=>rfl
  |some v =>
   obtain ⟨u,hu⟩:=in1 a ⟨v,r⟩
   rw [hs1] at hu;cases hu
end
theorem nI {prog:Program} {w:World} {A:Around} {elt target iter:Expr} {ifs:List Expr} {scope:Scope} {pos:Pos} {it acc:Value} {env:Env} {R:Result→Shared→Prop} {s:Shared} (I:Nat→Shared→Prop)
  (turn:∀n s,I n s→wpAny (model prog w) A (pyNext it) (fun r s₁=>match r with
   |none=>R (.ok .next) s₁
   |some v=>wpAny (model prog w) A (letOwnedTupleGo target it v) (fun _ s₁'=>wpAny (model prog w) A (assign target env v) (fun _ s₂ =>
     wpAny (model prog w) A (forIn ifs true fun c r=>if r=true then do let ok ← isTrue c env (eval c env);pure (ForInStep.yield ok) else pure (ForInStep.yield r)) (fun ok s₃ =>
      if ok=true then wpAny (model prog w) A (eval elt env) (fun x s₄ =>
       wpAny (model prog w) A (call (.builtin "list.append") [acc,x]) (fun _ s₅=>∃m,m<n∧I m s₅) (fun _ _=>False) s₄) (notedBy (model prog w) A env fun e s'=>R (.error e) s') s₃
      else ∃m,m<n∧I m s₃) (fun _ _=>False) s₂) (fun _ _=>False) s₁') (fun _ _=>False) s₁) (fun _ _=>False) s)
  (n:Nat) (h:I n s):codeAny (model prog w) A (.compLoop (.ListComp elt [⟨target,iter,ifs,0⟩] scope pos) 0 it acc env) R s:=by
 refine codeAny_loop rfl I (fun n s hI=>?_) n h
 show wpAny _ A ((compTurn (.ListComp elt [⟨target,iter,ifs,0⟩] scope pos) 0 it acc env).onRaise (fun x=>do noteFrame x env;theTreesLotGoes x)) _ _ s
 refine wpAny_noted ?_
 rw [compTurn_list]
 refine wpAny_bind (wpAny_standAt (wpAny_bind (wpAny_mono (turn n s hI) (fun r s₁ h₁=>?_) fun _ _ h'=>h'.elim)))
 cases r with
 |none=>exact wpAny_pure h₁
 |some v =>
  refine wpAny_bind (wpAny_mono h₁ (fun _ s₁' h₁'=>?_) fun _ _ h'=>h'.elim)
  refine wpAny_bind (wpAny_mono h₁' (fun _ s₂ h₂=>wpAny_bind (wpAny_mono h₂ (fun ok s₃ h₃=>?_) fun _ _ h'=>h'.elim)) fun _ _ h'=>h'.elim)
  cases ok with
  |false=>exact wpAny_pure ⟨rfl,h₃⟩
  |true =>
   exact wpAny_bind (wpAny_bind (wpAny_mono h₃ (fun x s₄ h₄=>wpAny_bind (wpAny_mono h₄ (fun _ s₅ h₅=>wpAny_pure (wpAny_pure ⟨rfl,h₅⟩)) fun _ _ h'=>h'.elim)) fun _ _ h'=>h'))
section
variable {X:Cx} {N:List Str} {scope:Scope} {pins:List (Addr×Obj)} {σ:St} {H:Hp} {s:Shared} {fp:List Addr}
theorem oZ {tg iter elt:Expr} {ifs:List Expr} {pos:Pos} {cap:St→St} {g:TG} {tc:TT} {te:TE} {J:It} {it:Addr} {tn:Nat→Heap→Prop} {Q:Addr→Hp→Prop} {RR:Value→Addr→Result→Shared→Prop} {RX:Value→Hp→Prop}
  (hcalm:X.calm=true) (S:CompScope X scope) (hcap:yD X N scope cap) (I:Inv X pins σ H s) (T:Turn X.prog X.w X.K tg J fp it tn) (st:tn 0 s.heap) (hf:∀b∈fp,qU X pins H b)
  (hg:∀C,PG (jQ X N scope C s H pins fp) tg g) (hc:∀C,zB (jQ X N scope C s H pins fp) ifs tc) (he:∀C,PE ((jQ X N scope C s H pins fp).wish (QA X N scope C s H pins fp RX)) elt te)
  (hq:∀D,H D=none→vX D J g tc te (cap σ) H (Q D))
  (hRR:∀D C σc H' s',s.heap.objs.size≤C→Inv (jQ X N scope C s H pins fp) [] σc H' s'→Q D H'→RR (.ref D) C (.ok .next) s')
  (hRE:∀D C e s',s.heap.objs.size≤C→QA X N scope C s H pins fp RX e s'→wpAny (model X.prog X.w) X.A (noteFrame e (compEnvC scope (kO X.env.cells scope.names []) C X.env)) (fun _ s''=>RR (.ref D) C (.error e) s'') (fun e' s''=>RR (.ref D) C (.error e') s'') s') :
  wpAny (model X.prog X.w) X.A (newList []) (fun acc s₃=>wpAny (model X.prog X.w) X.A (newFunctionEnv scope X.env.globals (kO X.env.cells scope.names []) [] X.env.qual none .none (some X.env)) (fun cenv s₄ =>
   codeAny (model X.prog X.w) X.A (.compStart (.ListComp elt [⟨tg,iter,ifs,0⟩] scope pos) 0 (.ref it) acc {cenv with scope:=relabel scope X.env}) (RR acc cenv.locals) s₄) X.xe s₃) X.xe s:=by
 refine wpAny_newObj_type (wpAny_newFunctionEnv S.nocell (by intro y hy;simp at hy) (fun h₁ hns₁ hsb₁=>?_) S.kind)
 dsimp only at hns₁ hsb₁ ⊢
 generalize hH2:s.heap.push {cls:=.type "list",dict:=none,data:=.seq ([]:List Value).toArray}=H2 at hns₁ hsb₁ ⊢
 have hC:H2.objs.size=s.heap.objs.size+1:=by rw [← hH2,Heap.size_push]
 have hDC:s.heap.objs.size≠H2.objs.size:=by rw [hC];exact Nat.ne_of_lt (Nat.lt_succ_self _)
 have hCle:s.heap.objs.size≤H2.objs.size:=by rw [hC];exact Nat.le_succ _
 have below:∀b,b<s.heap.objs.size→b≠H2.objs.size:=fun b hb=>by rw [hC];exact Nat.ne_of_lt (Nat.lt_succ_of_lt hb)
 have old:∀b o,s.heap.get? b=some o→h₁.get? b=some o:=fun b o e=>hsb₁.extBut b o (below b (Heap.lt_size e)) (Heap.get?_push_of_some _ (hH2▸Heap.get?_push_of_some _ e))
 have hacc:h₁.get? s.heap.objs.size=some {cls:=.type "list",data:=.seq ([]:List Value).toArray}:=hsb₁.extBut _ _ hDC (Heap.get?_push_of_some _ (hH2▸Heap.get?_push_size _ rfl))
 have obj0:=T.obj 0 s.heap st
 have I1:∀t',Inv (jQ X N scope H2.objs.size s H pins fp) [] (cap σ) (upd H s.heap.objs.size (.lst [])) {s with heap:=h₁,toks:=t'}:=fun t' =>
  fM S I hcap hf (fun b hb=>let ⟨o,e,_⟩:=obj0 b hb;⟨o,e⟩) (Nat.le_refl _) hCle hDC old hns₁ hacc
 have st1:tn 0 h₁:=T.keep 0 s.heap h₁ st fun b _ o e=>old b o e
 have stat:∀{H':Hp},(∀b∈fp,H' b=none)→∀b∈fp,qU (jQ X N scope H2.objs.size s H pins fp) [] H' b:=fun hn b hb=>by
  obtain ⟨_,h2,h3,h4,h5,h6⟩:=hf b hb
  obtain ⟨o,ho,_⟩:=obj0 b hb
  refine ⟨hn b hb,below b (Heap.lt_size ho),?_,.inl hb,fun x c e=>h5 x c (JI (zS S I) (fun y d q=>by simp at q) e),fun p hp=>?_⟩
  ·intro z
   rcases List.mem_cons.mp (I.stkSub b z) with e|e
   ·exact h2 e
   ·exact h3 e
  ·rcases List.mem_append.mp hp with z|z
   ·exact h6 p z
   ·cases z
 have fr1:∀b∈fp,upd H s.heap.objs.size (.lst []) b=none:=fun b hb=>by
  obtain ⟨o,ho,_⟩:=obj0 b hb
  rw [jP (Nat.ne_of_lt (Heap.lt_size ho))]
  exact (hf b hb).1
 obtain ⟨W,⟨m0,w0⟩,turn⟩:=hq s.heap.objs.size (I.hok.fresh (Nat.le_refl _))
 have loop:∀s₃:Shared,s₃={s with heap:=h₁,toks:=s.toks+([]:List (Str×Value)).length}→
   codeAny (model X.prog X.w) X.A (.compLoop (.ListComp elt [⟨tg,iter,ifs,0⟩] scope pos) 0 (.ref it) (.ref s.heap.objs.size) (compEnvC scope (kO X.env.cells scope.names []) H2.objs.size X.env))
    (RR (.ref s.heap.objs.size) H2.objs.size) s₃:=by
  rintro s₃ rfl
  refine nI (fun n s'=>∃i σ' H',Inv (jQ X N scope H2.objs.size s H pins fp) [] σ' H' s'∧tn i s'.heap∧(∀b∈fp,H' b=none)∧W i n σ' H') ?_ m0 ⟨0,cap σ,_,I1 _,st1,fr1,w0⟩
  rintro n s3 ⟨i,σ3,H3,I3,st3,fr3,w3⟩
  rcases turn i n σ3 H3 w3 with ⟨stop,qn⟩|⟨go,Nn,hN,step⟩
  ·refine jD (T.done (jQ X N scope H2.objs.size s H pins fp) rfl rfl rfl hcalm i [] s3 σ3 H3 (fun _ _=>False) I3 (stat fr3) st3 stop) fun r s4 ⟨hr,I4⟩=>?_
   subst hr
   exact hRR _ _ σ3 H3 s4 hCle I4 qn
  ·refine jD (T.item (jQ X N scope H2.objs.size s H pins fp) rfl rfl rfl hcalm i [] s3 σ3 H3 (fun _ _=>False) I3 (stat fr3) st3 go) fun r s4 ⟨u,hr,h4⟩=>?_
   subst hr
   refine jD h4 fun _ s5 ⟨x,H5,I5,r5,y5,st5,fr5⟩=>?_
   have I5':=I5.pinned (stat fr5) (T.obj _ _ st5)
   have again:∀{σ7:St} {H7:Hp} {s7:Shared},Inv (jQ X N scope H2.objs.size s H pins fp) ([]++z0 fp s5.heap) σ7 H7 s7→Nn σ7 H7→
     ∃m,m<n∧∃i σ' H',Inv (jQ X N scope H2.objs.size s H pins fp) [] σ' H' s7∧tn i s7.heap∧(∀b∈fp,H' b=none)∧W i m σ' H':=fun {σ7 H7 s7} I7 n7=>by
    obtain ⟨m',hm,w7⟩:=hN σ7 H7 n7
    refine ⟨m',hm,i+1,σ7,H7,I7.unpinned,T.keep _ _ _ st5 fun b hb o e=>(I7.pin (b,o) (List.mem_append_right _ (List.mem_append_right _ (zR hb e)))).1,fun b hb=>?_,w7⟩
    obtain ⟨o,e,d⟩:=T.obj _ _ st5 b hb
    exact (I7.pin (b,o) (List.mem_append_right _ (List.mem_append_right _ (zR hb e)))).2.1
   refine jD (hg _ _ s5 σ3 H5 x u _ I5' r5 (step x H5 y5)) fun _ s6 ⟨σ6,H6,I6,q6⟩=>?_
   refine jD (hc _ _ s6 σ6 H6 _ I6 q6) fun ok s7 ⟨H7,I7,q7⟩=>?_
   cases ok with
   |false=>exact again I7 q7
   |true =>
    refine wpAny_mono (he _ _ s7 σ6 H7 _ (I7.wish _) q7) (fun v s8 ⟨y,H8,I8,r8,xs,hD8,hz8,n8⟩=>?_) fun e se hx=>hRE _ _ e se hCle hx
    have I8:=I8.unwish
    refine jD (yP _ s8 σ6 H8 (.ref s.heap.objs.size) [y] (.ref s.heap.objs.size) [v] (fun _ H9=>Nn σ6 H9) I8 rfl (.cons r8 .nil) ⟨_,_,_,rfl,rfl,hD8,hz8,n8⟩) fun _ s9 ⟨_,H9,I9,_,n9⟩=>?_
    exact again I9 n9
 exact codeAny_compStart_list (loop _ rfl) (wpAny_mono (T.self X.A 0 _ (fun v s'=>v=.ref it∧s'=_) (fun _ _=>False) st1 ⟨rfl,rfl⟩) (fun v s' ⟨e1,e2⟩=>by subst e1;subst e2;exact loop _ rfl) fun _ _ z=>z.elim)
end
section
variable {P:Program} {w:World} {K:PySem.W.Frag} {mg:Str→Option Value} {base:Heap} {Nf:List Str} {qual:Str} {scf:Scope} {f:Addr} {cd:Value} {A:Around} {outer:List Env} {s₀:Shared} {H₀:Hp} {E:XK}
theorem fA {tg iter elt:Expr} {ifs:List Expr} {scope:Scope} {pos:Pos} {wi:TI} {g:TG} {tc:TT} {te:TE} (N:List Str) (cap:St→St) (S:CompScope (j3 (jN P w) P w K mg base Nf qual scf f cd A outer s₀ H₀ E) scope) (hcap:yD (j3 (jN P w) P w K mg base Nf qual scf f cd A outer s₀ H₀ E) N scope cap) (hi:PI (j3 (jN P w) P w K mg base Nf qual scf f cd A outer s₀ H₀ E) tg iter wi)
  (hg:∀C s H pins fp,PG (jQ (j3 (jN P w) P w K mg base Nf qual scf f cd A outer s₀ H₀ E) N scope C s H pins fp) tg g) (hc:∀C s H pins fp,zB (jQ (j3 (jN P w) P w K mg base Nf qual scf f cd A outer s₀ H₀ E) N scope C s H pins fp) ifs tc)
  (he:∀C s H pins fp,PE ((jQ (j3 (jN P w) P w K mg base Nf qual scf f cd A outer s₀ H₀ E) N scope C s H pins fp).wish (QA (j3 (jN P w) P w K mg base Nf qual scf f cd A outer s₀ H₀ E) N scope C s H pins fp fun c H'=>E c none H')) elt te)
  (hs:∀x,foldedSetIterable iter (j3 (jN P w) P w K mg base Nf qual scf f cd A outer s₀ H₀ E).env x=pure x:=by intro _;rfl):PE (j3 (jN P w) P w K mg base Nf qual scf f cd A outer s₀ H₀ E) (.ListComp elt [⟨tg,iter,ifs,0⟩] scope pos) (iA wi cap g tc te):=by
 intro pins s σ H Q I h
 rw [eval_ListComp]
 refine wpAny_comprehension_free (use:=none) rfl hs (ZQ (zS S I)) S.kind S.names (jD (hi pins s σ H _ I h) fun v s1 h1=>jD h1 fun itv s2 h2=>?_)
 obtain ⟨it,fp,tn,J,H2,e,I2,T,st2,f2,q2⟩:=h2
 subst e
 refine oZ (RR:=fun acc C=>compPost (model P w) (A.deeper (envOfC qual scf s₀.heap.objs.size f cd)) (j3 (jN P w) P w K mg base Nf qual scf f cd A outer s₀ H₀ E).xe none (EP (j3 (jN P w) P w K mg base Nf qual scf f cd A outer s₀ H₀ E) pins σ Q) acc C) (Q:=fun D H'=>Q (.ref D) H') rfl S hcap I2 T st2 f2 (fun C=>hg C _ _ _ _) (fun C=>hc C _ _ _ _) (fun C=>he C _ _ _ _) q2 ?_ ?_
 ·intro D C σc H' s' hC Jc q
  obtain ⟨m,hn,_⟩:=Jc.loc
  refine ⟨m,hn,fun h' hs'=>?_⟩
  exact ⟨.ref D,H',bK I2 hC (QP (σ':=σ) I2 f2 Jc) Jc.free hs',rfl,q⟩
 ·intro D C e s' hC hx
  exact pZ I2 f2 hC hx _
end
end L2
namespace L2
open PySem PySem.Spec PyProof.Rows
section
variable {X:Cx}
theorem nF {X:Cx} (K:PySem.W.Frag) (h:X.K=K:=by rfl):OpR X (compareOp .In) (iZ K false):=by subst h;exact nZ
theorem sL {X:Cx} {e:Expr} (t:PySem.W.Frag→TE) (K:PySem.W.Frag) (h:PE X e (t X.K)) (hK:X.K=K:=by rfl):PE X e (t K):=by subst hK;exact h
end
end L2
namespace L2
open PySem PySem.Spec PyProof.Rows
section
variable {P:Program} {w:World} {K:PySem.W.Frag} {mg:Str→Option Value} {base:Heap}
end
section
variable {X:Cx} {a b:Expr} {ta tb:TE} {r:R2} {pos:Pos}
end
theorem so {K:PySem.W.Frag} {H:Hp} {a:Addr} {xs:List V} (h:H a=some (.lst xs)):SqL K H a xs:=SqL.of h
end L2
namespace L2
open PySem PySem.Spec PyProof.Rows
section
variable {X:Cx} {N:List Str} {scope:Scope} {pins:List (Addr×Obj)} {σ:St} {H:Hp} {s:Shared} {fp:List Addr}
end
theorem cps {X:Cx} {N:List Str} {scope:Scope} (n:Nat) (js:List Nat) (a:N.length=n+js.length:=by rfl) (b:js.map (fun j=>X.N[j]?)=(N.drop n).map some:=by rfl) (c:∀x∈N.drop n,scope.names.lookup x=some .free:=by decide +kernel):yD X N scope (qN n js):=vD n js a b c
end L2
namespace My
open PySem L2
theorem zz1:1≤sizeLine:=by decide
theorem zz2:2≤sizeLine:=by decide
theorem zz3:3≤sizeLine:=by decide
theorem zz4:4≤sizeLine:=by decide
theorem zz6:6≤sizeLine:=by decide
def top (i:Nat):Stmt:=PySem.Challenge.pw_lockhouse_k73_no_entries_refused.main.body.getD i (.Pass ⟨0,0,0,0⟩)
abbrev yN:Stmt:=top 10
abbrev zL:Stmt:=top 11
abbrev zM:Stmt:=top 12
abbrev zO:Stmt:=top 13
abbrev yK:Stmt:=top 14
abbrev yL:Stmt:=top 15
abbrev yM:Stmt:=top 16
abbrev zQ:Stmt:=top 25
abbrev zP:Stmt:=top 26
abbrev v6:Stmt:=top 22
abbrev zN:Stmt:=top 23
abbrev zJ:Stmt:=top 24
abbrev zK:Stmt:=top 21
abbrev yJ:Stmt:=top 20
abbrev zF:Stmt:=top 28
abbrev zE:Stmt:=top 29
abbrev zI:Stmt:=top 30
abbrev zG:Stmt:=top 31
abbrev zD:Stmt:=top 32
abbrev zH:Stmt:=top 33
abbrev qY:Stmt:=top 34
theorem tN {K:W.Frag} {H H':Hp} {a:Addr} {xs:List V} (e:Same H H') (h:SqT K H a xs):SqT K H' a xs:=by
 rcases h with (h|⟨o,h⟩)|h
 ·exact .inl (.inl (e _ _ h))
 ·exact .inl (.inr ⟨o,e _ _ h⟩)
 ·exact .inr h
theorem jG {H:Hp} {p:Addr} (h:H p=none) (o:HO):Same H (upd H p o):=fun b u q=>by rw [jP (qP q h)];exact q
theorem qJ {n:Nat} (h:n≤1000):n≤sizeLine:=Nat.le_of_lt (vM h)
def Ints (K:W.Frag) (H:Hp) (a:Addr) (ws:List Int):Prop:=SqL K H a (ws.map V.int)∨SqT K H a (ws.map V.int)
theorem Ints.same {K:W.Frag} {H H':Hp} {a:Addr} {ws:List Int} (e:Same H H') (h:Ints K H a ws):Ints K H' a ws:=by
 rcases h with h|h
 ·exact .inl (e.seq h)
 ·exact .inr (tN e h)
theorem fQ {ws:List Int} {s:Nat} (h:s<ws.length):kY (ws.map V.int) (s:Int)=some (.int (ws.getD s 0)):=by
 refine kF ?_
 rw [List.getElem?_map,List.getElem?_eq_getElem h,List.getD_eq_getElem?_getD,List.getElem?_eq_getElem h]
 rfl
theorem oV (ns:List Int) (lo hi:Option Int):∃ms:List Int,kX (ns.map V.int) lo hi=ms.map V.int∧ms.length≤ns.length:=by
 refine ⟨(ns.drop (HT.sIx ns.length 0 lo)).take (HT.sIx ns.length ns.length hi - HT.sIx ns.length 0 lo),?_,?_⟩
 ·unfold kX
  rw [List.length_map,List.map_take,List.map_drop]
 ·rw [List.length_take,List.length_drop]
  omega
theorem pR {ms:List Int} {i:Nat} {x:V} (h:(ms.map V.int)[i]?=some x):∃z,x=V.int z∧ms[i]?=some z:=by
 rw [List.getElem?_map] at h
 cases e:ms[i]? with
 |none=>rw [e] at h;cases h
 |some z=>rw [e] at h;exact ⟨z,(Option.some.inj h).symm,rfl⟩
theorem qZ {a b:Int} (h:0<b):∃k:Nat,a%b=(k:Int)∧(k:Int)<b:=by
 have h1:=Int.emod_nonneg a (by omega:b≠0)
 have h2:=Int.emod_lt_of_pos a h
 exact ⟨(a%b).toNat,by omega,by omega⟩
def Q8 (K:W.Frag):Sp:=fun vs H Q _=>∃(a:Addr) (ns:List Int),vs=[.ref a]∧SqL K H a (ns.map V.int)∧ns.length≤63∧∀H',Q (.bl true) H'
def Keep (d:Addr) (H H':Hp):Prop:=∀b o,b≠d→H b=some o→H' b=some o
theorem Keep.of {d:Addr} {H H':Hp} (s:Same H H'):Keep d H H':=fun b o _ q=>s b o q
theorem Keep.trans {d:Addr} {H H1 H2:Hp} (a:Keep d H H1) (b:Keep d H1 H2):Keep d H H2:=fun c o n q=>b c o n (a c o n q)
theorem Keep.upd {d:Addr} {H H':Hp} (k:Keep d H H') (o:HO):Keep d H (upd H' d o):=fun b u n q=>by rw [jP n];exact k b u n q
def lettersS:Str:="abcdefghijklmnopqrstuvwxyz"
theorem mR:lettersS.cps.toList.length=26:=by decide +kernel
theorem mJ:lettersS.length≤sizeLine:=by decide +kernel
def vN (z:Nat):Nat:=lettersS.cps.toList.getD z 0
theorem nK {z:Int} (h0:0≤z) (h1:z<26):kY lettersS.cps.toList z=some (vN z.toNat):=by
 have h:=kF (xs:=lettersS.cps.toList) (j:=z.toNat) (v:=vN z.toNat) (by
  unfold vN
  rw [List.getD_eq_getElem?_getD,List.getElem?_eq_getElem (by rw [mR];omega)]
  rfl)
 have e:((z.toNat:Nat):Int)=z:=by omega
 rwa [e] at h
def PartsAt (H:Hp) (rs:List V) (ps:List (Str×Int)):Prop:=rs.length=ps.length∧∀(i:Nat) (r:V),rs[i]?=some r→∃(a:Addr) (s:Str) (n:Int),r=.ref a∧ps[i]?=some (s,n)∧H a=some (.tup [.str s,.int n])
theorem PartsAt.nil {H:Hp}:PartsAt H [] []:=⟨rfl,fun i r hi=>by cases hi⟩
theorem PartsAt.keep {H H':Hp} {d:Addr} {ys rs:List V} {ps:List (Str×Int)} (k:Keep d H H') (hd:H d=some (.lst ys)) (h:PartsAt H rs ps):PartsAt H' rs ps:=by
 refine ⟨h.1,fun i r hi=>?_⟩
 obtain ⟨a,s,n,h1,h2,h3⟩:=h.2 i r hi
 exact ⟨a,s,n,h1,h2,k _ _ (J9 h3 hd (fun z=>nomatch z)) h3⟩
theorem PartsAt.same {H H':Hp} {rs:List V} {ps:List (Str×Int)} (e:Same H H') (h:PartsAt H rs ps):PartsAt H' rs ps:=by
 refine ⟨h.1,fun i r hi=>?_⟩
 obtain ⟨a,s,n,h1,h2,h3⟩:=h.2 i r hi
 exact ⟨a,s,n,h1,h2,e _ _ h3⟩
def strL (l:List Nat):Str:=⟨l.toArray⟩
theorem QR (l:List Nat):(strL l).length=l.length:=List.size_toArray
theorem pB (a b:List Nat):strL a++strL b=strL (a++b):=by
 show (⟨a.toArray++b.toArray⟩:Str)=⟨(a++b).toArray⟩
 rw [List.append_toArray]
theorem qR {a b:List Nat} (h:strL a=strL b):a=b:=congrArg (fun z:Str=>z.cps.toList) h
theorem pI (c:Nat):(⟨#[c]⟩:Str)=strL [c]:=rfl
theorem pV:("":Str)=strL []:=by decide +kernel
theorem JU {B:Nat}:∀(zs:List Str),(∀z∈zs,z.length≤B)→qH zs≤zs.length*B
 |[],_=>Nat.zero_le _
 |z::r,h=>by
  have h1:=JU r (fun y hy=>h y (List.mem_cons_of_mem _ hy))
  have h2:=h z List.mem_cons_self
  show z.length+qH r≤(r.length+1)*B
  rw [Nat.add_mul]
  omega
def feedS:Str:=⟨#[10]⟩
def kB:Str:=⟨#[32]⟩
theorem fJ:("\n":Str).length=1:=by decide +kernel
theorem yQ {ws:List Str} {i:Nat} {v:V} (h:(ws.map V.str)[i]?=some v):∃w,ws[i]?=some w∧v=.str w:=by
 rw [List.getElem?_map] at h
 cases hw:ws[i]? with
 |none=>rw [hw] at h;cases h
 |some w=>rw [hw] at h;cases h;exact ⟨w,rfl,rfl⟩
theorem o5 (n:Int):kY lettersS.cps.toList (n%26)=some (vN (n%26).toNat):=nK (Int.emod_nonneg n (by decide)) (Int.emod_lt_of_pos n (by decide))
theorem oG (n:Int):97≤vN (n%26).toNat∧vN (n%26).toNat≤122:=by
 have h1:=Int.emod_nonneg n (by decide:(26:Int)≠0)
 have h2:=Int.emod_lt_of_pos n (by decide:(0:Int)<26)
 generalize hz:(n%26).toNat=z
 have hz26:z<26:=by omega
 have key:∀z,z<26→97≤vN z∧vN z≤122:=by decide +kernel
 exact key z hz26
def z8 (z:Str):Bool := !decide (z="")
def qS (z:Str):List Str:=(Txt.split z feedS).filter z8
def qI (zs:List Str):Str:=Str.join "" (zs.map (·++feedS))
def eR:Sp:=fun vs H Q _=>∃z:Str,vs=[.str z]∧z.length≤1000000∧(Txt.split z feedS).length≤999∧∀(l:Addr) (H':Hp),Same H H'→H l=none→H' l=some (.lst ((qS z).map V.str))→Q (.ref l) H'
theorem dG {zs:List Str} {i:Nat} {z:Str} (h:zs[i]?=some z) (f:Str→Bool):(zs.take (i+1)).filter f=(zs.take i).filter f++(if f z=true then [z] else []):=by
 rw [List.take_add_one,h,List.filter_append]
 show _++List.filter f [z]=_
 rw [List.filter_cons]
 rfl
theorem QY {rows:List Str} {k:Nat} (h:k≤rows.length):kX (rows.map V.str) none (some (k:Int))=(rows.take k).map V.str:=by
 unfold kX
 rw [HT.sIx_none,HT.sIx_nat,List.length_map,List.drop_zero,Nat.sub_zero,Nat.min_eq_left h,List.map_take]
theorem pY {rows:List Str} {k:Nat} (h:k≤rows.length):kX (rows.map V.str) (some (k:Int)) none=(rows.drop k).map V.str:=by
 unfold kX
 rw [HT.sIx_none,HT.sIx_nat,List.length_map,Nat.min_eq_left h,List.map_drop,List.take_of_length_le (by rw [List.length_drop,List.length_map];exact Nat.le_refl _)]
theorem iG {d:Bool} {A B:Prop} (e:d=false) (h:B):if d=true then A else B:=by rw [e];exact qK h
theorem iF {d:Bool} {A B:Prop} (e:d=true) (h:A):if d=true then A else B:=by rw [e];exact kG h
theorem gR {n:Nat} (h:n≤1000000):n≤sizeLine:=by rw [sizeLine_eq];omega
def fU:Sp:=fun vs H Q _=>∃c:Int,vs=[.int c]∧∀l:List Nat,1≤l.length→l.length≤12→(∀c∈l,97≤c∧c≤122)→Q (.str (strL l)) H
def AllAt {α:Type} (P:V→α→Prop) (vs:List V) (xs:List α):Prop:=vs.length=xs.length∧∀(i:Nat) (v:V),vs[i]?=some v→∃x,xs[i]?=some x∧P v x
theorem AllAt.nil {α:Type} {P:V→α→Prop}:AllAt P [] ([]:List α):=⟨rfl,fun i v h=>by cases h⟩
theorem AllAt.mono {α:Type} {P P':V→α→Prop} {vs:List V} {xs:List α} (m:∀v x,P v x→P' v x) (h:AllAt P vs xs):AllAt P' vs xs:=⟨h.1,fun i v hv=>by obtain ⟨x,h1,h2⟩:=h.2 i v hv;exact ⟨x,h1,m v x h2⟩⟩
theorem AllAt.snoc {α:Type} {P:V→α→Prop} {vs:List V} {xs:List α} {v:V} {x:α} (h:AllAt P vs xs) (hv:P v x):AllAt P (vs++[v]) (xs++[x]):=by
 refine ⟨by rw [List.length_append,List.length_append,h.1];rfl,fun i w hw=>?_⟩
 by_cases hl:i<vs.length
 ·rw [List.getElem?_append_left hl] at hw
  rw [List.getElem?_append_left (by rw [← h.1];exact hl)]
  exact h.2 i w hw
 ·rw [List.getElem?_append_right (by omega)] at hw
  have e:i=vs.length:=by
   by_cases z:i - vs.length=0
   ·omega
   ·rw [List.getElem?_eq_none (by show 1≤i - vs.length;omega)] at hw;cases hw
  rw [e,Nat.sub_self] at hw
  cases hw
  refine ⟨x,?_,hv⟩
  rw [e,h.1,List.getElem?_append_right (Nat.le_refl _),Nat.sub_self]
  rfl
theorem AllAt.get {α:Type} {P:V→α→Prop} {vs:List V} {xs:List α} (h:AllAt P vs xs) {i:Nat} {x:α} (hx:xs[i]?=some x):∃v,vs[i]?=some v∧P v x:=by
 have hi:i<vs.length:=by rw [h.1];exact (List.getElem?_eq_some_iff.mp hx).1
 obtain ⟨y,h1,h2⟩:=h.2 i _ (List.getElem?_eq_getElem hi)
 rw [hx] at h1
 cases h1
 exact ⟨_,List.getElem?_eq_getElem hi,h2⟩
theorem uU {α:Type} {P:V→α→Prop} {a:V} {x:α} (h1:P a x):AllAt P [a] [x]:=AllAt.snoc AllAt.nil h1
theorem ZI {α:Type} {P:V→α→Prop} {a b:V} {x y:α} (h1:P a x) (h2:P b y):AllAt P [a,b] [x,y]:=AllAt.snoc (uU h1) h2
theorem iV {α:Type} {P:V→α→Prop} {a b c:V} {x y z:α} (h1:P a x) (h2:P b y) (h3:P c z):AllAt P [a,b,c] [x,y,z]:=AllAt.snoc (ZI h1 h2) h3
theorem iU {α:Type} {P:V→α→Prop} {a b c d:V} {x y z u:α} (h1:P a x) (h2:P b y) (h3:P c z) (h4:P d u):AllAt P [a,b,c,d] [x,y,z,u]:=AllAt.snoc (iV h1 h2 h3) h4
inductive Pt where
 |s (z:List Nat)
 |n (i:Nat)
def Pt.v:Pt→V
 |.s z=>.str (strL z)
 |.n i=>.int (i:Int)
def Pt.t:Pt→Str
 |.s z=>strL z
 |.n i=>Str.ofString (toString (i:Int))
def Pt.ok:Pt→Prop
 |.s z=>z.length≤12
 |.n i=>i<1000000000000
inductive Ep where
 |p (x:Pt)
 |l (ps:List (Pt×Pt))
def Ep.ok:Ep→Prop
 |.p x=>x.ok
 |.l ps=>ps.length≤8∧∀q∈ps,q.1.ok∧q.2.ok
def PrAt (H:Hp) (v:V) (q:Pt×Pt):Prop:=∃t,v=.ref t∧H t=some (.tup [q.1.v,q.2.v])
theorem PrAt.same {H H':Hp} (e:Same H H') (v:V) (q:Pt×Pt):PrAt H v q→PrAt H' v q:=fun ⟨t,h1,h2⟩=>⟨t,h1,e _ _ h2⟩
def EpAt (H:Hp) (v:V):Ep→Prop
 |.p x=>v=x.v
 |.l ps=>∃t us,v=.ref t∧H t=some (.tup us)∧AllAt (PrAt H) us ps
theorem EpAt.same {H H':Hp} (e:Same H H') (v:V):∀x:Ep,EpAt H v x→EpAt H' v x
 |.p _,h=>h
 |.l _,⟨t,us,h1,h2,h3⟩=>⟨t,us,h1,e _ _ h2,h3.mono fun v x=>PrAt.same e v x⟩
def EnAt (H:Hp) (v:V) (e:List Ep):Prop:=∃a vs,v=.ref a∧H a=some (.tup vs)∧AllAt (EpAt H) vs e
theorem EnAt.same {H H':Hp} (e:Same H H') (v:V) (x:List Ep):EnAt H v x→EnAt H' v x:=fun ⟨a,vs,h1,h2,h3⟩=>⟨a,vs,h1,e _ _ h2,h3.mono fun v x=>EpAt.same e v x⟩
theorem EnAt.put {H:Hp} {d:Addr} {ys:List V} {o:HO} (hd:H d=some (.lst ys)) {v:V} {x:List Ep} (h:EnAt H v x):EnAt (upd H d o) v x:=by
 have kp:∀(b:Addr) (vs:List V),H b=some (.tup vs)→upd H d o b=some (.tup vs):=fun b vs hb=>by
  rw [jP (J9 hb hd (fun z=>nomatch z))]
  exact hb
 obtain ⟨a,vs,h1,h2,h3⟩:=h
 refine ⟨a,vs,h1,kp _ _ h2,h3.mono fun v x hx=>?_⟩
 cases x with
 |p y=>exact hx
 |l ps =>
  obtain ⟨t,us,e1,e2,e3⟩:=hx
  exact ⟨t,us,e1,kp _ _ e2,e3.mono fun v x ⟨t',f1,f2⟩=>⟨t',f1,kp _ _ f2⟩⟩
def comeL:List Nat:=[99,111,109,101]
def nightL:List Nat:=[110,105,103,104,116]
def ZA:List Nat:=[112,97,115,115]
def ZG:List Nat:=[108,101,116]
def Q7:List Nat:=[116,97,107,101]
def Q9:List Nat:=[114,97,105,110]
def cQ:List Nat:=[117,112]
def cI:List Nat:=[100,111,119,110]
theorem come_eq:("come":Str)=strL comeL:=by decide +kernel
theorem night_eq:("night":Str)=strL nightL:=by decide +kernel
theorem bO:("pass":Str)=strL ZA:=by decide +kernel
theorem cB:("let":Str)=strL ZG:=by decide +kernel
theorem fR:("take":Str)=strL Q7:=by decide +kernel
theorem fY:("rain":Str)=strL Q9:=by decide +kernel
theorem g8:("up":Str)=strL cQ:=by decide +kernel
theorem gI:("down":Str)=strL cI:=by decide +kernel
def yG (l:List Nat):Prop:=1≤l.length∧l.length≤12∧∀c∈l,97≤c∧c≤122
def QB (l:List Nat):Prop:=l=cQ∨l=cI
inductive En where
 |come (nm st:List Nat) (steps:List (List Nat×List Nat))
 |night (ws:List (Nat×Nat))
 |named (w nm:List Nat)
 |amount (w nm:List Nat) (i:Nat)
def En.ps:En→List Ep
 |.come nm st steps=>[.p (.s comeL),.p (.s nm),.p (.s st),.l (steps.map fun q=>(.s q.1,.s q.2))]
 |.night ws=>[.p (.s nightL),.l (ws.map fun q=>(.n q.1,.n q.2))]
 |.named w nm=>[.p (.s w),.p (.s nm)]
 |.amount w nm i=>[.p (.s w),.p (.s nm),.p (.n i)]
def En.good:En→Prop
 |.come nm st steps=>yG nm∧yG st∧1≤steps.length∧steps.length≤8∧∀q∈steps,yG q.1∧QB q.2
 |.night ws=>1≤ws.length∧ws.length≤8∧∀q∈ws,q.1<1000000000000∧q.2<1000000000000
 |.named w nm=>(w=ZA∨w=ZG)∧yG nm
 |.amount w nm i=>(w=Q7∨w=Q9)∧yG nm∧i<1000000000000
def jR (ps:List (Pt×Pt)):List Str:=ps.flatMap fun q=>[q.1.t,q.2.t]
def Ep.ws:Ep→List Str
 |.p x=>[x.t]
 |.l ps=>jR ps
def jS (e:List Ep):List Str:=e.flatMap Ep.ws
def vA (e:En):Str:=Str.join kB (jS e.ps)
theorem rZ {l:List Nat} (h:QB l):l.length≤12:=by rcases h with rfl|rfl<;>decide
theorem Z0:∀{e:En},e.good→e.ps.length≤4∧∀x∈e.ps,x.ok
 |.come nm st steps,h=>by
  obtain ⟨h1,h2,h3,h4,h5⟩:=h
  refine ⟨Nat.le_refl 4,fun x hx=>?_⟩
  simp only [En.ps,List.mem_cons,List.not_mem_nil,or_false] at hx
  rcases hx with rfl|rfl|rfl|rfl
  ·show (4:Nat)≤12;decide
  ·exact h1.2.1
  ·exact h2.2.1
  ·refine ⟨by rw [List.length_map];exact h4,fun q hq=>?_⟩
   obtain ⟨p,hp,rfl⟩:=List.mem_map.mp hq
   exact ⟨(h5 p hp).1.2.1,rZ (h5 p hp).2⟩
 |.night ws,h=>by
  obtain ⟨h1,h2,h3⟩:=h
  refine ⟨(show 2≤4 by decide),fun x hx=>?_⟩
  simp only [En.ps,List.mem_cons,List.not_mem_nil,or_false] at hx
  rcases hx with rfl|rfl
  ·show (5:Nat)≤12;decide
  ·refine ⟨by rw [List.length_map];exact h2,fun q hq=>?_⟩
   obtain ⟨p,hp,rfl⟩:=List.mem_map.mp hq
   exact h3 p hp
 |.named w nm,h=>by
  obtain ⟨h1,h2⟩:=h
  refine ⟨(show 2≤4 by decide),fun x hx=>?_⟩
  simp only [En.ps,List.mem_cons,List.not_mem_nil,or_false] at hx
  rcases hx with rfl|rfl
  ·rcases h1 with rfl|rfl<;>(show (_:Nat)≤12;decide)
  ·exact h2.2.1
 |.amount w nm i,h=>by
  obtain ⟨h1,h2,h3⟩:=h
  refine ⟨(show 3≤4 by decide),fun x hx=>?_⟩
  simp only [En.ps,List.mem_cons,List.not_mem_nil,or_false] at hx
  rcases hx with rfl|rfl|rfl
  ·rcases h1 with rfl|rfl<;>(show (_:Nat)≤12;decide)
  ·exact h2.2.1
  ·exact h3
theorem d7 {n:Nat} (h1:n<1000000000000):(n:Int).natAbs.log2<1920∧(Str.ofString (toString (n:Int))).length≤12:=by
 refine ⟨?_,?_⟩
 ·have h2:(n:Int).natAbs<2 ^ 1920:=by
   rw [Int.natAbs_natCast]
   exact Nat.lt_trans h1 (by decide +kernel)
  by_cases hz:(n:Int).natAbs=0
  ·rw [hz];decide
  ·exact (Nat.log2_lt hz).mpr h2
 ·have:=(fC (m:=n) h1).2
  rw [show kW n=kW (n:Int).toNat from rfl,← Q1 (Int.natCast_nonneg n),Array.length_toList] at this
  exact this
theorem Pt.show:∀{x:Pt},x.ok→iK x.v x.t
 |.s z,_=>.inl rfl
 |.n i,h=>.inr ⟨_,rfl,(d7 h).1,rfl⟩
theorem Pt.len:∀{x:Pt},x.ok→x.t.length≤12
 |.s z,h=>by
  show (strL z).length≤12
  rw [QR]
  exact h
 |.n i,h=>(d7 h).2
theorem dN {ps:List (Pt×Pt)} (h:∀q∈ps,q.1.ok∧q.2.ok):(jR ps).length=2*ps.length∧∀z∈jR ps,z.length≤12:=by
 induction ps with
 |nil=>exact ⟨rfl,fun z hz=>by cases hz⟩
 |cons q r ih =>
  obtain ⟨h1,h2⟩:=ih fun p hp=>h p (List.mem_cons_of_mem _ hp)
  obtain ⟨o1,o2⟩:=h q List.mem_cons_self
  refine ⟨by show (q.1.t::q.2.t::jR r).length=_;rw [List.length_cons,List.length_cons,List.length_cons,h1];omega,fun z hz=>?_⟩
  have hz:z∈q.1.t::q.2.t::jR r:=hz
  rcases List.mem_cons.mp hz with rfl|hz
  ·exact Pt.len o1
  ·rcases List.mem_cons.mp hz with rfl|hz
   ·exact Pt.len o2
   ·exact h2 z hz
theorem tV:∀{x:Ep},x.ok→x.ws.length≤16∧∀z∈x.ws,z.length≤12
 |.p x,h=>⟨(show 1≤16 by decide),fun z hz=>by rw [List.mem_singleton.mp hz];exact Pt.len h⟩
 |.l ps,h=>by
  obtain ⟨h1,h2⟩:=dN h.2
  have:=h.1
  exact ⟨by show (jR ps).length≤16;omega,h2⟩
theorem Z1:∀{e:List Ep},(∀x∈e,x.ok)→(jS e).length≤16*e.length∧∀z∈jS e,z.length≤12
 |[],_=>⟨Nat.le_refl _,fun z hz=>by cases hz⟩
 |x::r,h=>by
  obtain ⟨h1,h2⟩:=Z1 fun y hy=>h y (List.mem_cons_of_mem _ hy)
  obtain ⟨h3,h4⟩:=tV (h x List.mem_cons_self)
  refine ⟨by show (x.ws++jS r).length≤_;rw [List.length_append,List.length_cons];omega,fun z hz=>?_⟩
  have hz:z∈x.ws++jS r:=hz
  rcases List.mem_append.mp hz with hz|hz
  ·exact h4 z hz
  ·exact h2 z hz
theorem QK {zs:List Str} (h1:zs.length≤64) (h2:∀z∈zs,z.length≤12):qH zs+zs.length≤832:=by
 have h3:=JU (B:=12) zs h2
 have:zs.length*12≤64*12:=Nat.mul_le_mul_right _ h1
 omega
theorem Z7 (b:Str) (hb:b.length=1) (zs:List Str):(Str.join b zs).length≤qH zs+zs.length:=by
 induction zs with
 |nil=>exact Nat.zero_le _
 |cons z r ih =>
  cases r with
  |nil=>show z.length≤(z.length+0)+1;omega
  |cons y r =>
   show ((z++b)++Str.join b (y::r)).length≤(z.length+qH (y::r))+((y::r).length+1)
   rw [Str.length_append,Str.length_append]
   omega
theorem QX {e:En} (h:e.good):(jS e.ps).length≤64∧∀z∈jS e.ps,z.length≤12:=by
 obtain ⟨h1,h2⟩:=Z0 h
 obtain ⟨h3,h4⟩:=Z1 h2
 exact ⟨by omega,h4⟩
theorem fX {e:En} (h:e.good):(vA e).length≤832:=by
 obtain ⟨h1,h2⟩:=QX h
 exact Nat.le_trans (Z7 kB rfl _) (QK h1 h2)
theorem mO {ps:List (Pt×Pt)} {i:Nat} {q:Pt×Pt} (h:ps[i]?=some q):jR (ps.take (i+1))=jR (ps.take i)++[q.1.t,q.2.t]:=by
 unfold jR
 rw [List.take_add_one,h,List.flatMap_append]
 rfl
theorem dD {e:List Ep} {i:Nat} {x:Ep} (h:e[i]?=some x):jS (e.take (i+1))=jS (e.take i)++x.ws:=by
 unfold jS
 rw [List.take_add_one,h,List.flatMap_append]
 show _++List.flatMap Ep.ws [x]=_
 rw [List.flatMap_cons,List.flatMap_nil,List.append_nil]
theorem m4 {ps:List (Pt×Pt)} (h8:ps.length≤8) (h:∀q∈ps,q.1.ok∧q.2.ok) (i:Nat):(jR (ps.take i)).length≤16:=by
 have:=(dN (ps:=ps.take i) fun q hq=>h q (List.mem_of_mem_take hq)).1
 rw [this,List.length_take]
 omega
def eV:Sp:=fun vs H Q _=>∃c:Int,vs=[.int c]∧∀(v:V) (e:En) (H':Hp),Same H H'→EnAt H' v e.ps→e.good→Q v H'
def eQ (K:W.Frag):Sp:=fun vs H Q _=>∃(v:V) (e:List Ep),vs=[v]∧EnAt H v e∧(∀x∈e,x.ok)∧e.length≤4∧∀(l:Addr) (H':Hp),Same H H'→H l=none→H' l=some (.lst ((jS e).map V.str))→Q (.ref l) H'
theorem mT {K:W.Frag}:W.kitOne K (.type "str") (.type "tuple")=some false:=by kernel_rfl
theorem mU {K:W.Frag}:W.kitOne K (.type "int") (.type "tuple")=some false:=by kernel_rfl
theorem sH {K:W.Frag} {H:Hp} (x:Pt):∃t,TyOf K H x.v t∧W.kitOne K t (.type "tuple")=some false:=by
 cases x with
 |s z=>exact ⟨_,TyOf.str _,mT⟩
 |n i=>exact ⟨_,TyOf.int _,mU⟩
def v2:Str:="0123456789"
def y7 (S:Str) (c:Nat):Bool := !(Builtin.Str.occurrences S ⟨#[c]⟩ 0 S.length 1).isEmpty
def yC (S w:Str) (i:Nat):Bool:=(w.cps.toList.take i).all (y7 S)
theorem o7 {S w:Str} {i c:Nat} (h:w.cps[i]?=some c):yC S w (i+1)=(yC S w i&&y7 S c):=by
 unfold yC
 rw [List.take_add_one,show w.cps.toList[i]?=some c by rw [Array.getElem?_toList];exact h,List.all_append]
 simp
def kD (S w:Str):Bool:=decide (0<w.length)&&decide (w.length<13)&&yC S w w.cps.size
theorem fI {S w:Str} (h0:0<w.length) (h1:w.length<13) (h:∀c∈w.cps.toList,y7 S c=true):kD S w=true:=by
 unfold kD yC
 rw [decide_eq_true h0,decide_eq_true h1,List.take_of_length_le (by rw [Array.length_toList];exact Nat.le_refl _),List.all_eq_true.mpr h]
 rfl
def tY (w:Str):Prop:=kD lettersS w=true
theorem eA (c:Nat):y7 v2 c=(decide (48≤c)&&decide (c≤57)):=sT c
theorem oO:∀k:Nat,k<26→y7 lettersS (97+k)=true:=by decide +kernel
theorem oD {l:List Nat} (h1:1≤l.length) (h2:l.length≤12) (h:∀c∈l,97≤c∧c≤122):tY (strL l):=by
 refine fI (by rw [QR];omega) (by rw [QR];omega) fun c hc=>?_
 have:=h c hc
 have k:=oO (c - 97) (by omega)
 rw [show 97+(c - 97)=c by omega] at k
 exact k
theorem p7 {z:Str} {i:Int} (h0:0≤i) (h1:i<(z.length:Int)):∃c,kY z.cps.toList i=some c∧z.cps[i.toNat]?=some c:=by
 have hl:i.toNat<z.cps.toList.length:=by
  rw [Array.length_toList]
  show i.toNat<z.length
  omega
 have h:=kF (List.getElem?_eq_getElem hl)
 have e:((i.toNat:Nat):Int)=i:=by omega
 rw [e] at h
 exact ⟨_,h,by rw [← Array.getElem?_toList];exact List.getElem?_eq_getElem hl⟩
theorem JK:("0":Str)=⟨#[48]⟩:=by decide +kernel
theorem pX (c:Nat):decide (V.str ⟨#[c]⟩=V.str "0")=decide (c=48):=by
 refine decide_eq_decide.mpr ⟨fun h=>?_,fun h=>by rw [h,JK]⟩
 have h:=V.str.inj h
 rw [JK] at h
 have h:=congrArg (fun z:Str=>z.cps.toList) h
 exact (List.cons.inj h).1
def kI (w:Str):Bool:=decide (w="0")||(kD v2 w && !decide (w.cps[0]?=some 48))
def kC (w:Str):Int:=((PySem.NumText.digitsVal w.cps.toList:Nat):Int)
theorem ZT {w:Str} (h:kD v2 w=true):0<w.length∧w.length<13∧∀c∈w.cps.toList,48≤c∧c≤57:=by
 unfold kD at h
 rw [Bool.and_eq_true,Bool.and_eq_true] at h
 refine ⟨of_decide_eq_true h.1.1,of_decide_eq_true h.1.2,fun c hc=>?_⟩
 have ha:=h.2
 unfold yC at ha
 rw [List.take_of_length_le (by rw [Array.length_toList];exact Nat.le_refl _),List.all_eq_true] at ha
 have:=ha c hc
 rw [eA,Bool.and_eq_true] at this
 exact ⟨of_decide_eq_true this.1,of_decide_eq_true this.2⟩
theorem n5 {w:Str} (hw:w.length≤100) (h:kI w=true):PySem.intText? w=some (kC w):=by
 unfold kI at h
 rw [Bool.or_eq_true] at h
 rcases h with h|h
 ·rw [of_decide_eq_true h]
  refine PySem.intText_digits ?_ ?_ ?_
  ·rw [JK];intro c hc;cases List.mem_singleton.mp hc;exact ⟨by decide,by decide⟩
  ·rw [JK];exact List.cons_ne_nil _ _
  ·rw [JK];decide
 ·rw [Bool.and_eq_true] at h
  obtain ⟨h1,h2,h3⟩:=ZT h.1
  refine PySem.intText_digits h3 ?_ (by omega)
  intro e
  have:w.length=0:=by show w.cps.size=0;rw [← Array.length_toList,e];rfl
  omega
def bT:Sp:=fun vs H Q _=>∃w S:Str,vs=[.str w,.str S]∧w.length≤100∧∀H',Same H H'→Q (.bl (kD S w)) H'
def eS:Sp:=fun vs H Q _=>∃w:Str,vs=[.str w]∧w.length≤100∧∀H',Same H H'→Q (.bl (kD lettersS w)) H'
def fV:Sp:=fun vs H Q _=>∃w:Str,vs=[.str w]∧w.length≤100∧∀H',Same H H'→Q (.bl (kI w)) H'
def cK (ws:List Str):Prop:=ws.length≤100∧∀w∈ws,w.length≤100
def bU (eB:Addr):Sp:=fun vs H Q E=>∃w:Str,vs=[.str w]∧w.length≤100∧(kI w=true→∀H',Same H H'→Q (.int (kC w)) H')∧(kI w=false→∀H',Same H H'→E (.ref eB) none H')
def fT (eB:Addr):Sp:=fun vs H Q E=>∃(l:Addr) (ws:List Str),vs=[.ref l]∧H l=some (.lst (ws.map V.str))∧cK ws∧(ws.all kI=true→∀(l':Addr) (H':Hp),Same H H'→H l'=none→H' l'=some (.lst ((ws.map kC).map V.int))→Q (.ref l') H')∧(ws.all kI=false→∀H',Same H H'→E (.ref eB) none H')
def QS (eB:Addr):Sp:=fun vs H Q E=>∃(l:Addr) (ws:List Str),vs=[.ref l]∧H l=some (.lst (ws.map V.str))∧cK ws∧(ws.all (kD lettersS)=true→∀H',Same H H'→Q .non H')∧(ws.all (kD lettersS)=false→∀H',Same H H'→E (.ref eB) none H')
theorem zU {rows:List Str} (k:Nat):kX (rows.map V.str) (some (k:Int)) none=(rows.drop k).map V.str:=by
 by_cases h:k≤rows.length
 ·exact pY h
 ·unfold kX
  rw [HT.sIx_none,HT.sIx_nat,List.length_map,Nat.min_eq_right (by omega),List.drop_eq_nil_of_le (by rw [List.length_map];exact Nat.le_refl _),List.drop_eq_nil_of_le (by omega),List.take_nil]
  rfl
theorem tD {rows:List Str} (h:3≤rows.length):kX (rows.map V.str) (some 1) (some 3)=((rows.drop 1).take 2).map V.str:=by
 unfold kX
 rw [show (some (1:Int))=some ((1:Nat):Int) from rfl,show (some (3:Int))=some ((3:Nat):Int) from rfl,HT.sIx_nat,HT.sIx_nat,List.length_map,Nat.min_eq_left h,Nat.min_eq_left (by omega),← List.map_drop,← List.map_take]
theorem tE {rows:List Str} (h:2≤rows.length):kX (rows.map V.str) (some 1) (some 2)=((rows.drop 1).take 1).map V.str:=by
 unfold kX
 rw [show (some (1:Int))=some ((1:Nat):Int) from rfl,show (some (2:Int))=some ((2:Nat):Int) from rfl,HT.sIx_nat,HT.sIx_nat,List.length_map,Nat.min_eq_left h,Nat.min_eq_left (by omega),← List.map_drop,← List.map_take]
theorem eY (xs:List V) (n a:Nat) (h1:a≤1) (hn:xs.length=2*n) (h0:1≤n) (lo:Option Int) (hlo:(lo=none∧a=0)∨lo=some (a:Int)):yZ xs lo none (some 2)=(List.range n).filterMap fun k=>xs[a+2*k]?:=by
 unfold yZ
 have hb:sliceBounds lo none (some 2) xs.length=((a:Int),(xs.length:Int),2):=by
  rcases hlo with ⟨rfl,rfl⟩|rfl
  ·simp only [sliceBounds,Option.getD_some,show (2:Int)>0 by decide,if_true]
   rfl
  ·simp only [sliceBounds,Option.getD_some,show (2:Int)>0 by decide,if_true,show ¬((a:Int)<0) by omega,if_false]
   rw [show max 0 (min (a:Int) (xs.length:Int))=(a:Int) by omega]
 rw [hb]
 show (sliceRange (a:Int) (xs.length:Int) 2).filterMap _=_
 rw [hn]
 have hc:sliceRange (a:Int) ((2*n:Nat):Int) 2=(List.range n).map fun k=>a+2*k:=by
  unfold sliceRange
  have e1:(if (2:Int)>0 then (if (a:Int)<((2*n:Nat):Int) then (((2*n:Nat):Int) - (a:Int)+2 - 1) / 2 else 0) else (if (a:Int)>((2*n:Nat):Int) then ((a:Int) - ((2*n:Nat):Int) - 2 - 1) / (-2) else 0))=(n:Int):=by
   rw [if_pos (by decide),if_pos (by omega)]
   omega
  simp only [e1,Int.toNat_natCast]
  refine List.map_congr_left fun k _=>?_
  omega
 rw [hc]
 exact mF xs _ n fun k hk=>by omega
theorem cZ {α β:Type} (f:α→Option β) (g:α→β):∀l:List α,(∀a∈l,f a=some (g a))→l.filterMap f=l.map g
 |[],_=>rfl
 |a::l,h=>by
  rw [List.filterMap_cons,h a List.mem_cons_self]
  show g a::l.filterMap f=g a::l.map g
  rw [cZ f g l fun b hb=>h b (List.mem_cons_of_mem _ hb)]
theorem eZ (xs:List V) (n a:Nat) (hn:xs.length=2*n) (ha:a≤1):((List.range n).filterMap fun k=>xs[a+2*k]?).length=n∧∀i,i<n→((List.range n).filterMap fun k=>xs[a+2*k]?)[i]?=xs[a+2*i]?:=by
 have e:(List.range n).filterMap (fun k=>xs[a+2*k]?)=(List.range n).map fun k=>xs.getD (a+2*k) .non:=by
  refine cZ _ _ _ fun k hk=>?_
  have:=List.mem_range.mp hk
  rw [List.getD_eq_getElem?_getD,List.getElem?_eq_getElem (by omega)]
  rfl
 rw [e]
 refine ⟨by rw [List.length_map,List.length_range],fun i hi=>?_⟩
 rw [List.getElem?_map,List.getElem?_range hi,List.getElem?_eq_getElem (by omega)]
 show some (xs.getD (a+2*i) .non)=_
 rw [List.getD_eq_getElem?_getD,List.getElem?_eq_getElem (by omega)]
 rfl
def kQ (n:Nat):Bool:=decide (n%2=0)&&decide (1≤n / 2)&&decide (n / 2≤8)
theorem zY {n:Nat} (h:kQ n=true):∃m,n=2*m∧1≤m∧m≤8:=by
 unfold kQ at h
 rw [Bool.and_eq_true,Bool.and_eq_true] at h
 have h1:=of_decide_eq_true h.1.1
 have h2:=of_decide_eq_true h.1.2
 have h3:=of_decide_eq_true h.2
 exact ⟨n / 2,by omega,h2,h3⟩
def bD (eB:Addr):Sp:=fun vs H Q E=>∃(l:Addr) (xs:List V),vs=[.ref l]∧H l=some (.lst xs)∧xs.length≤200∧
 (kQ xs.length=true→∀(t:Addr) (ts:List V) (H':Hp),Same H H'→H t=none→H' t=some (.tup ts)→ts.length=xs.length / 2→(∀(i:Nat) (v:V),ts[i]?=some v→∃(T:Addr) (x y:V),v=.ref T∧H' T=some (.tup [x,y])∧xs[2*i]?=some x∧xs[2*i+1]?=some y)→Q (.ref t) H')∧
 (kQ xs.length=false→∀H',Same H H'→E (.ref eB) none H')
def bV (eB:Addr):Sp:=fun vs H Q E=>∃(l:Addr) (xs:List V) (n:Nat),vs=[.ref l,.int (n:Int)]∧H l=some (.lst xs)∧(xs.length=n→Q .non H)∧(xs.length≠n→E (.ref eB) none H)
def cp (z:Str):List Nat:=z.cps.toList
theorem v8 (z:Str):strL (cp z)=z:=by
 obtain ⟨a⟩:=z
 rfl
def vB (w:Str):Bool:=kD lettersS w
def qV (w:Str):Bool:=decide (w="up")||decide (w="down")
def kN (xs:List Str):List (Str×Str):=(List.range (xs.length / 2)).map fun i=>(xs.getD (2*i) "",xs.getD (2*i+1) "")
def y8 (ws:List Str):Option En :=
 if kQ (ws.drop 3).length=false then none else if ((ws.drop 1).take 2++(kN (ws.drop 3)).map (·.1)).all vB=false then none else if ((kN (ws.drop 3)).map (·.2)).all qV=false then none
 else some (.come (cp (ws.getD 1 "")) (cp (ws.getD 2 "")) ((kN (ws.drop 3)).map fun q=>(cp q.1,cp q.2)))
def JY (ws:List Str):Option En :=
 if (ws.drop 1).all kI=false then none else if kQ (ws.drop 1).length=false then none
 else some (.night ((kN (ws.drop 1)).map fun q=>((kC q.1).toNat,(kC q.2).toNat)))
def yV (ws:List Str):Option En:=if ws.length≠2 then none else if (ws.drop 1).all vB=false then none else some (.named (cp (ws.getD 0 "")) (cp (ws.getD 1 "")))
def yT (ws:List Str):Option En:=if ws.length≠3 then none else if ((ws.drop 1).take 1).all vB=false then none else if kI (ws.getD 2 "")=false then none else some (.amount (cp (ws.getD 0 "")) (cp (ws.getD 1 "")) (kC (ws.getD 2 "")).toNat)
def kP (ws:List Str):Option En :=
 if ws.getD 0 ""="come" then y8 ws else if ws.getD 0 ""="night" then JY ws else if ws.getD 0 ""="pass"∨ws.getD 0 ""="let" then yV ws else if ws.getD 0 ""="take"∨ws.getD 0 ""="rain" then yT ws else none
def ShortW (ws:List Str):Prop:=1≤ws.length∧ws.length≤100∧∀w∈ws.drop 1,w.length≤100
theorem ShortW.sub {ws:List Str} (h:ShortW ws) {zs:List Str} (hl:zs.length≤100) (hz:∀w∈zs,w∈ws.drop 1):cK zs:=⟨hl,fun w hw=>h.2.2 w (hz w hw)⟩
def zW (eB:Addr) (J:List Str→Option En):Sp:=fun vs H Q E=>∃(l:Addr) (ws:List Str),vs=[.ref l]∧H l=some (.lst (ws.map V.str))∧ShortW ws∧(∀e,J ws=some e→∀(v:V) (H':Hp),Same H H'→EnAt H' v e.ps→Q v H')∧(J ws=none→∀H',Same H H'→E (.ref eB) none H')
def kE (row:Str):Option En:=kP (Txt.split row kB)
def vK (row:Str):Prop:=row.length≤1000000∧ShortW (Txt.split row kB)
def QT (eB:Addr):Sp:=fun vs H Q E=>∃row:Str,vs=[.str row]∧vK row∧(∀e,kE row=some e→∀(v:V) (H':Hp),Same H H'→EnAt H' v e.ps→Q v H')∧(kE row=none→∀H',Same H H'→E (.ref eB) none H')
def ZY (eB:Addr):Sp:=fun vs H Q E=>∃z:Str,vs=[.str z]∧z.length≤1000000∧(∀r∈qS z,vK r)∧(Txt.split z feedS).length≤999∧
 (∀es:List En,(qS z).map kE=es.map some→∀(l:Addr) (us:List V) (H':Hp),Same H H'→H l=none→H' l=some (.lst us)→AllAt (fun v (e:En)=>EnAt H' v e.ps) us es→Q (.ref l) H')∧
 ((∃r∈qS z,kE r=none)→∀H',Same H H'→E (.ref eB) none H')
theorem qW {ws:List Str} (h:1≤ws.length):kY (ws.map V.str) 0=some (.str (ws.getD 0 "")):=by
 refine kF (j:=0) ?_
 rw [List.getElem?_map,List.getD_eq_getElem?_getD,List.getElem?_eq_getElem (by omega)]
 rfl
theorem JE {ws:List Str} {k:Nat} (h:k<ws.length):kY (ws.map V.str) (k:Int)=some (.str (ws.getD k "")):=by
 refine kF ?_
 rw [List.getElem?_map,List.getD_eq_getElem?_getD,List.getElem?_eq_getElem h]
 rfl
theorem bL (w:Str):((kC w).toNat:Int)=kC w:=by unfold kC;rw [Int.toNat_natCast]
theorem fZ (xs:List Str):(kN xs).length=xs.length / 2:=by unfold kN;rw [List.length_map,List.length_range]
theorem bW {xs:List Str} {i:Nat} (h:i<xs.length / 2):(kN xs)[i]?=some (xs.getD (2*i) "",xs.getD (2*i+1) ""):=by unfold kN;rw [List.getElem?_map,List.getElem?_range h];rfl
theorem rF {xs:List Str} {q:Str×Str} (h:q∈kN xs):q.1∈xs∧q.2∈xs:=by
 unfold kN at h
 obtain ⟨i,hi,rfl⟩:=List.mem_map.mp h
 have:=List.mem_range.mp hi
 refine ⟨?_,?_⟩
 ·show xs.getD (2*i) ""∈xs
  rw [List.getD_eq_getElem?_getD,List.getElem?_eq_getElem (by omega)]
  exact List.getElem_mem _
 ·show xs.getD (2*i+1) ""∈xs
  rw [List.getD_eq_getElem?_getD,List.getElem?_eq_getElem (by omega)]
  exact List.getElem_mem _
theorem sW {ws:List Str} {w:Str} (h:w∈ws.drop 3):w∈ws.drop 1:=by
 rw [show ws.drop 3=(ws.drop 1).drop 2 by rw [List.drop_drop]] at h
 exact List.mem_of_mem_drop h
theorem eP {xs:List Str} {k:Nat} {x:V} (h:(xs.map V.str)[k]?=some x):x=.str (xs.getD k ""):=by
 obtain ⟨w,h1,rfl⟩:=yQ h
 rw [List.getD_eq_getElem?_getD,h1]
 rfl
theorem fH {xs:List Str} {k:Nat} {x:V} (h:((xs.map kC).map V.int)[k]?=some x):x=.int (kC (xs.getD k "")):=by
 rw [List.getElem?_map,List.getElem?_map] at h
 cases hw:xs[k]? with
 |none=>rw [hw] at h;cases h
 |some w =>
  rw [hw] at h
  rw [List.getD_eq_getElem?_getD,hw]
  exact (Option.some.inj h).symm
theorem pO (w:Str):ZL (.str w) [V.str "up",V.str "down"]=qV w:=by
 show (("up":Str) == w||(("down":Str) == w||false))=qV w
 unfold qV
 by_cases h1:w="up"
 ·subst h1;decide +kernel
 ·by_cases h2:w="down"
  ·subst h2;decide +kernel
  ·rw [decide_eq_false h1,decide_eq_false h2,beq_eq_false_iff_ne.mpr (fun e=>h1 e.symm),beq_eq_false_iff_ne.mpr (fun e=>h2 e.symm)]
   rfl
theorem pQ {m:Nat} (h:m<1000000000000):kD v2 (Str.ofString (toString (m:Int)))=true:=by
 have hc:(Str.ofString (toString (m:Int))).cps.toList=kW m:=Q1 (Int.natCast_nonneg m)
 have hl:=fC h
 have hsz:(Str.ofString (toString (m:Int))).length=(kW m).length:=by rw [← hc,Array.length_toList];rfl
 refine fI (by omega) (by omega) fun c hm=>?_
 rw [hc] at hm
 rw [eA,Bool.and_eq_true]
 have:=fD m c hm
 exact ⟨decide_eq_true this.1,decide_eq_true this.2⟩
theorem JW {m:Nat} (h:m<1000000000000):kI (Str.ofString (toString (m:Int)))=true∧kC (Str.ofString (toString (m:Int)))=(m:Int):=by
 have hc:(Str.ofString (toString (m:Int))).cps.toList=kW m:=Q1 (Int.natCast_nonneg m)
 refine ⟨?_,by unfold kC;rw [hc,pJ]⟩
 unfold kI
 by_cases h0:m=0
 ·subst h0
  rw [decide_eq_true (by decide +kernel),Bool.true_or]
 ·rw [pQ h,Bool.true_and,Bool.or_eq_true]
  refine .inr ?_
  rw [Bool.not_eq_true',decide_eq_false_iff_not,← Array.getElem?_toList,hc]
  exact n6 m (by omega)
theorem J4 {l:List Nat} (h:yG l):vB (strL l)=true:=oD h.1 h.2.1 h.2.2
theorem tG {l:List Nat} (h:QB l):qV (strL l)=true:=by
 rcases h with rfl|rfl
 ·rw [← g8];decide +kernel
 ·rw [← gI];decide +kernel
theorem pG (a b:Str) (xs:List Str):kN (a::b::xs)=(a,b)::kN xs:=by
 unfold kN
 rw [show (a::b::xs).length / 2=xs.length / 2+1 by rw [List.length_cons,List.length_cons];omega,List.range_succ_eq_map,List.map_cons,List.map_map]
 congr 1
theorem Z3:∀ps:List (Pt×Pt),kN (jR ps)=ps.map fun q=>(q.1.t,q.2.t)
 |[]=>rfl
 |q::r=>by
  show kN (q.1.t::q.2.t::jR r)=_
  rw [pG,Z3 r]
  rfl
theorem fB {n:Nat} (h1:1≤n) (h8:n≤8):kQ (2*n)=true:=by
 unfold kQ
 rw [decide_eq_true (by omega),decide_eq_true (by omega),decide_eq_true (by omega)]
 rfl
theorem ZV (ps:List (Pt×Pt)):(jR ps).length=2*ps.length:=by
 induction ps with
 |nil=>rfl
 |cons q r ih=>show (q.1.t::q.2.t::jR r).length=_;rw [List.length_cons,List.length_cons,List.length_cons,ih];omega
theorem m5 {p:Str→Bool} {ps:List (Pt×Pt)} (h:∀q∈ps,p q.1.t=true∧p q.2.t=true):(jR ps).all p=true:=by
 induction ps with
 |nil=>rfl
 |cons q r ih =>
  show (q.1.t::q.2.t::jR r).all p=true
  rw [List.all_cons,List.all_cons,(h q List.mem_cons_self).1,(h q List.mem_cons_self).2,ih fun x hx=>h x (List.mem_cons_of_mem _ hx)]
  rfl
theorem ZU:∀{e:En},e.good→kP (jS e.ps)=some e
 |.come nm st steps,h=>by
  obtain ⟨h1,h2,h3,h4,h5⟩:=h
  have ew:jS (En.come nm st steps).ps=strL comeL::strL nm::strL st::jR (steps.map fun q=>(Pt.s q.1,Pt.s q.2)):=by
   show strL comeL::strL nm::strL st::(jR (steps.map fun q=>(Pt.s q.1,Pt.s q.2))++[])=_
   rw [List.append_nil]
  rw [ew]
  unfold kP
  rw [List.getD_cons_zero,if_pos (show strL comeL="come" from come_eq.symm)]
  unfold y8
  have ed:(strL comeL::strL nm::strL st::jR (steps.map fun q=>(Pt.s q.1,Pt.s q.2))).drop 3=jR (steps.map fun q=>(Pt.s q.1,Pt.s q.2)):=rfl
  have em:kN (jR (steps.map fun q=>(Pt.s q.1,Pt.s q.2)))=steps.map fun q=>(strL q.1,strL q.2):=by rw [Z3,List.map_map];rfl
  have em2:(steps.map fun q:List Nat×List Nat=>(strL q.1,strL q.2)).map (fun q=>(cp q.1,cp q.2))=steps:=by
   rw [List.map_map,show ((fun q:Str×Str=>(cp q.1,cp q.2))∘fun q:List Nat×List Nat=>(strL q.1,strL q.2))=id from funext fun q=>rfl,List.map_id]
  rw [ed,ZV,List.length_map,fB h3 h4,if_neg (by decide),em,em2,List.map_map,List.map_map]
  have e1:((strL comeL::strL nm::strL st::jR (steps.map fun q=>(Pt.s q.1,Pt.s q.2))).drop 1).take 2=[strL nm,strL st]:=rfl
  rw [e1,if_neg (fun x=>?_),if_neg (fun x=>?_)]
  ·rfl
  ·rw [List.all_map,Bool.eq_false_iff] at x
   exact x (List.all_eq_true.mpr fun q hq=>tG (h5 q hq).2)
  ·rw [List.all_append,List.all_map,Bool.eq_false_iff] at x
   refine x ?_
   rw [Bool.and_eq_true]
   refine ⟨by rw [List.all_cons,List.all_cons,J4 h1,J4 h2];rfl,List.all_eq_true.mpr fun q hq=>J4 (h5 q hq).1⟩
 |.night ws,h=>by
  obtain ⟨h1,h2,h3⟩:=h
  have ew:jS (En.night ws).ps=strL nightL::jR (ws.map fun q=>(Pt.n q.1,Pt.n q.2)):=by
   show strL nightL::(jR (ws.map fun q=>(Pt.n q.1,Pt.n q.2))++[])=_
   rw [List.append_nil]
  rw [ew]
  unfold kP
  rw [List.getD_cons_zero,if_neg (show ¬strL nightL="come" by rw [come_eq];intro e;exact absurd (qR e) (by decide)),if_pos (show strL nightL="night" from night_eq.symm)]
  unfold JY
  have ed:(strL nightL::jR (ws.map fun q=>(Pt.n q.1,Pt.n q.2))).drop 1=jR (ws.map fun q=>(Pt.n q.1,Pt.n q.2)):=rfl
  have hal:(jR (ws.map fun q=>(Pt.n q.1,Pt.n q.2))).all kI=true:=m5 fun q hq=>by
   obtain ⟨p,hp,rfl⟩:=List.mem_map.mp hq
   exact ⟨(JW (h3 p hp).1).1,(JW (h3 p hp).2).1⟩
  rw [ed,hal,if_neg (by decide),ZV,List.length_map,fB h1 h2,if_neg (by decide),Z3,List.map_map,List.map_map]
  have em:ws.map (((fun q:Str×Str=>((kC q.1).toNat,(kC q.2).toNat))∘fun q:Pt×Pt=>(q.1.t,q.2.t))∘fun q=>(Pt.n q.1,Pt.n q.2))=ws:=by
   have:∀q∈ws,(((fun q:Str×Str=>((kC q.1).toNat,(kC q.2).toNat))∘fun q:Pt×Pt=>(q.1.t,q.2.t))∘fun q:Nat×Nat=>(Pt.n q.1,Pt.n q.2)) q=id q:=fun q hq=>by
    show ((kC (Str.ofString (toString (q.1:Int)))).toNat,(kC (Str.ofString (toString (q.2:Int)))).toNat)=q
    rw [(JW (h3 q hq).1).2,(JW (h3 q hq).2).2,Int.toNat_natCast,Int.toNat_natCast]
   rw [List.map_congr_left this,List.map_id]
  rw [em]
 |.named w nm,h=>by
  obtain ⟨h1,h2⟩:=h
  have ew:jS (En.named w nm).ps=[strL w,strL nm]:=rfl
  rw [ew]
  have hno:¬strL w="come"∧¬strL w="night"∧(strL w="pass"∨strL w="let"):=by
   rw [come_eq,night_eq,bO,cB]
   rcases h1 with rfl|rfl
   ·exact ⟨fun e=>absurd (qR e) (by decide),fun e=>absurd (qR e) (by decide),.inl rfl⟩
   ·exact ⟨fun e=>absurd (qR e) (by decide),fun e=>absurd (qR e) (by decide),.inr rfl⟩
  unfold kP
  rw [if_neg (show ¬[strL w,strL nm].getD 0 ""="come" from hno.1),if_neg (show ¬[strL w,strL nm].getD 0 ""="night" from hno.2.1),if_pos (show [strL w,strL nm].getD 0 ""="pass"∨[strL w,strL nm].getD 0 ""="let" from hno.2.2)]
  unfold yV
  rw [if_neg (fun x=>x rfl),if_neg (fun x=>?_)]
  ·rfl
  ·rw [show [strL w,strL nm].drop 1=[strL nm] from rfl,List.all_cons,J4 h2] at x
   cases x
 |.amount w nm i,h=>by
  obtain ⟨h1,h2,h3⟩:=h
  have ew:jS (En.amount w nm i).ps=[strL w,strL nm,Str.ofString (toString (i:Int))]:=rfl
  rw [ew]
  have hno:¬strL w="come"∧¬strL w="night"∧¬(strL w="pass"∨strL w="let")∧(strL w="take"∨strL w="rain"):=by
   rw [come_eq,night_eq,bO,cB,fR,fY]
   rcases h1 with rfl|rfl
   ·exact ⟨fun e=>absurd (qR e) (by decide),fun e=>absurd (qR e) (by decide),fun e=>e.elim (fun e=>absurd (qR e) (by decide)) fun e=>absurd (qR e) (by decide),.inl rfl⟩
   ·exact ⟨fun e=>absurd (qR e) (by decide),fun e=>absurd (qR e) (by decide),fun e=>e.elim (fun e=>absurd (qR e) (by decide)) fun e=>absurd (qR e) (by decide),.inr rfl⟩
  unfold kP
  rw [if_neg (show ¬[strL w,strL nm,Str.ofString (toString (i:Int))].getD 0 ""="come" from hno.1),if_neg (show ¬[strL w,strL nm,Str.ofString (toString (i:Int))].getD 0 ""="night" from hno.2.1),if_neg (show ¬([strL w,strL nm,Str.ofString (toString (i:Int))].getD 0 ""="pass"∨[strL w,strL nm,Str.ofString (toString (i:Int))].getD 0 ""="let") from hno.2.2.1),if_pos (show [strL w,strL nm,Str.ofString (toString (i:Int))].getD 0 ""="take"∨[strL w,strL nm,Str.ofString (toString (i:Int))].getD 0 ""="rain" from hno.2.2.2)]
  unfold yT
  obtain ⟨n1,n2⟩:=JW h3
  have e2:[strL w,strL nm,Str.ofString (toString (i:Int))].getD 2 ""=Str.ofString (toString (i:Int)):=rfl
  rw [if_neg (fun x=>x rfl),e2,n1,n2,if_neg (fun x=>?_),if_neg (by decide),Int.toNat_natCast]
  ·rfl
  ·rw [show ([strL w,strL nm,Str.ofString (toString (i:Int))].drop 1).take 1=[strL nm] from rfl,List.all_cons,J4 h2] at x
   cases x
def cU (w:Str):Prop:=∀c∈w.cps.toList,48≤c∧c≤122
def Pt.sg:Pt→Prop
 |.s z=>∀c∈z,48≤c∧c≤122
 |.n i=>True
theorem cE:∀{x:Pt},x.sg→cU x.t
 |.s z,h=>h
 |.n i,_=>fun c hc=>by
  have hc:c∈(Str.ofString (toString (i:Int))).cps.toList:=hc
  rw [Q1 (Int.natCast_nonneg i)] at hc
  have:=fD _ c hc
  omega
theorem QQ:∀{e:En},e.good→∀w∈jS e.ps,cU w:=by
 have nm:∀{l:List Nat},yG l→(Pt.s l).sg:=fun h c hc=>by have:=h.2.2 c hc;omega
 have key:∀(e:List Ep),(∀x∈e,match x with|.p y=>y.sg|.l ps=>∀q∈ps,q.1.sg∧q.2.sg)→∀w∈jS e,cU w:=fun e h w hw=>by
  unfold jS at hw
  obtain ⟨x,hx,hw⟩:=List.mem_flatMap.mp hw
  have hx:=h x hx
  cases x with
  |p y=>rw [List.mem_singleton.mp hw];exact cE hx
  |l ps =>
   obtain ⟨q,hq,hw⟩:=List.mem_flatMap.mp hw
   rcases List.mem_cons.mp hw with rfl|hw
   ·exact cE (hx q hq).1
   ·rw [List.mem_singleton.mp hw];exact cE (hx q hq).2
 intro e h
 refine key _ fun x hx=>?_
 cases e with
 |come n st steps =>
  obtain ⟨h1,h2,h3,h4,h5⟩:=h
  simp only [En.ps,List.mem_cons,List.not_mem_nil,or_false] at hx
  rcases hx with rfl|rfl|rfl|rfl
  ·show ∀c∈comeL,_;decide
  ·exact nm h1
  ·exact nm h2
  ·intro q hq
   obtain ⟨p,hp,rfl⟩:=List.mem_map.mp hq
   refine ⟨nm (h5 p hp).1,?_⟩
   show ∀c∈p.2,_
   rcases (h5 p hp).2 with e|e<;>(rw [e];decide)
 |night ws =>
  simp only [En.ps,List.mem_cons,List.not_mem_nil,or_false] at hx
  rcases hx with rfl|rfl
  ·show ∀c∈nightL,_;decide
  ·intro q hq
   obtain ⟨p,hp,rfl⟩:=List.mem_map.mp hq
   exact ⟨trivial,trivial⟩
 |named w n =>
  obtain ⟨h1,h2⟩:=h
  simp only [En.ps,List.mem_cons,List.not_mem_nil,or_false] at hx
  rcases hx with rfl|rfl
  ·show ∀c∈w,_
   rcases h1 with rfl|rfl<;>decide
  ·exact nm h2
 |amount w n i =>
  obtain ⟨h1,h2,h3⟩:=h
  simp only [En.ps,List.mem_cons,List.not_mem_nil,or_false] at hx
  rcases hx with rfl|rfl|rfl
  ·show ∀c∈w,_
   rcases h1 with rfl|rfl<;>decide
  ·exact nm h2
  ·exact trivial
theorem eK {e:En}:jS e.ps≠[]:=by cases e<;>exact List.cons_ne_nil _ _
theorem d4 {e:En} (h:e.good):Txt.split (vA e) kB=jS e.ps:=ZX 32 eK fun w hw hm=>by
 have:=QQ h w hw 32 hm
 omega
theorem bF {e:En} (h:e.good):kE (vA e)=some e∧vK (vA e):=by
 obtain ⟨w1,w2⟩:=QX h
 refine ⟨by unfold kE;rw [d4 h];exact ZU h,by have:=fX h;omega,?_⟩
 rw [d4 h]
 exact ⟨List.length_pos_iff.mpr eK,by omega,fun w hw=>Nat.le_trans (w2 w (List.mem_of_mem_drop hw)) (by decide)⟩
theorem QI {b:Nat} {ps:List Str} {c:Nat} (h:c∈(Str.join ⟨#[b]⟩ ps).cps.toList):c=b∨∃p∈ps,c∈p.cps.toList:=by
 rw [JO] at h
 have key:∀qs:List (List Nat),c∈v0 b qs→c=b∨∃q∈qs,c∈q:=by
  intro qs
  induction qs with
  |nil=>intro h;cases h
  |cons x r ih =>
   intro h
   cases r with
   |nil=>exact .inr ⟨x,List.mem_cons_self,h⟩
   |cons y r =>
    have h:c∈x++b::v0 b (y::r):=h
    rcases List.mem_append.mp h with h|h
    ·exact .inr ⟨x,List.mem_cons_self,h⟩
    ·rcases List.mem_cons.mp h with h|h
     ·exact .inl h
     ·rcases ih h with h|⟨q,hq,h⟩
      ·exact .inl h
      ·exact .inr ⟨q,List.mem_cons_of_mem _ hq,h⟩
 rcases key _ h with h|⟨q,hq,h⟩
 ·exact .inl h
 ·obtain ⟨p,hp,rfl⟩:=List.mem_map.mp hq
  exact .inr ⟨p,hp,h⟩
theorem d5 {e:En} (h:e.good):10∉(vA e).cps.toList∧vA e≠"":=by
 refine ⟨fun hm=>?_,fun e0=>?_⟩
 ·rcases QI hm with h1|⟨p,hp,h1⟩
  ·omega
  ·have:=QQ h p hp 10 h1
   omega
 ·have h1:=(bF h).1
  rw [e0,show kE ""=none by decide +kernel] at h1
  cases h1
theorem dY:∀{xs ys:List En},xs.map some=ys.map some→xs=ys
 |[],[],_=>rfl
 |[],_::_,h=>by cases h
 |_::_,[],h=>by cases h
 |x::xs,y::ys,h=>by
  obtain ⟨h1,h2⟩:=List.cons.inj h
  cases h1
  rw [dY h2]
def ZR:Sp:=fun vs H Q _=>∃(z:Str) (es:List En),vs=[.str z]∧z.length≤1000000∧(∀r∈qS z,vK r)∧(Txt.split z feedS).length≤999∧(qS z).map kE=es.map some∧
 ∀(l:Addr) (us:List V) (H':Hp),Same H H'→H l=none→H' l=some (.lst us)→AllAt (fun v (e:En)=>EnAt H' v e.ps) us es→Q (.ref l) H'
theorem mV {eB:Addr} (vs:List V) (H:Hp) (Q:VK) (E:XK) (h:ZR vs H Q E):ZY eB vs H Q (fun _ _ _=>False):=by
 obtain ⟨z,es,rfl,h1,h2,h3,h4,q⟩:=h
 refine ⟨z,rfl,h1,h2,h3,fun es' he=>?_,fun ⟨r,hr,hn⟩=>?_⟩
 ·rw [h4] at he
  rw [← dY he]
  exact q
 ·obtain ⟨i,hi,e⟩:=List.mem_iff_getElem.mp hr
  have h5:((qS z).map kE)[i]?=some none:=by rw [List.getElem?_map,List.getElem?_eq_getElem hi,e];show some (kE r)=_;rw [hn]
  rw [h4,List.getElem?_map] at h5
  cases hx:es[i]? with
  |none=>rw [hx] at h5;cases h5
  |some x=>rw [hx] at h5;cases h5
def dX:Sp:=fun vs H Q _=>∃(row:Str) (e:En),vs=[.str row]∧vK row∧kE row=some e∧∀(v:V) (H':Hp),Same H H'→EnAt H' v e.ps→Q v H'
theorem oS {eB:Addr} (vs:List V) (H:Hp) (Q:VK) (E:XK) (h:dX vs H Q E):QT eB vs H Q (fun _ _ _=>False):=by
 obtain ⟨row,e,rfl,h1,h2,q⟩:=h
 exact ⟨row,rfl,h1,fun e' he=>by rw [h2] at he;cases he;exact q,fun hn=>by rw [h2] at hn;cases hn⟩
theorem nH (z:Str):∀(zs:List Str),Str.join "" (z::zs)=z++Str.join "" zs
 |[]=>(Str.append_empty z).symm
 |y::r=>by
  show (z++("":Str))++Str.join "" (y::r)=_
  rw [show z++("":Str)=z from Str.append_empty z]
theorem Z2 (z:Str) (zs:List Str):qI (z::zs)=(z++feedS)++qI zs:=nH _ _
theorem dS (z:Str):∀ls:List Str,Str.join feedS (ls++[z])=qI ls++z
 |[]=>(Str.empty_append z).symm
 |[x]=>rfl
 |x::y::r=>by
  show (x++feedS)++Str.join feedS ((y::r)++[z])=qI (x::y::r)++z
  rw [dS z (y::r),Z2 x (y::r),Str.append_assoc (x++feedS)]
def z6 (z:Str):Prop:=10∉z.cps.toList
theorem nB {ls:List Str} {z:Str} (h:∀l∈ls,z6 l) (hz:z6 z):Txt.split (qI ls++z) feedS=ls++[z]:=by
 rw [← dS]
 refine ZX 10 (by simp) fun p hp=>?_
 rcases List.mem_append.mp hp with hp|hp
 ·exact h p hp
 ·rw [List.mem_singleton.mp hp];exact hz
def vG (w0:Str) (n:Nat):Bool:=if w0="come" then decide (3≤n)&&kQ (n - 3) else if w0="night" then kQ (n - 1) else if w0="pass"∨w0="let" then decide (n=2) else if w0="take"∨w0="rain" then decide (n=3) else false
def cS (i:Nat) (w:Str):Bool:=if i=1∨i=2∨i%2=1 then vB w else qV w
def JC (w0:Str) (i:Nat) (w:Str):Bool:=if w0="come" then cS i w else if w0="night" then kI w else if w0="pass"∨w0="let" then vB w else if i=1 then vB w else kI w
theorem bE {ws:List Str} {e:En} (h:kP ws=some e):vG (ws.getD 0 "") ws.length=true:=by
 unfold kP at h
 unfold vG
 by_cases h1:ws.getD 0 ""="come"
 ·rw [if_pos h1] at h ⊢
  unfold y8 at h
  by_cases hp:kQ (ws.drop 3).length=false
  ·rw [if_pos hp] at h;cases h
  ·rw [List.length_drop] at hp
   rw [Bool.not_eq_false] at hp
   rw [hp,Bool.and_true]
   refine decide_eq_true ?_
   obtain ⟨m,e1,e2,_⟩:=zY hp
   omega
 rw [if_neg h1] at h ⊢
 by_cases h2:ws.getD 0 ""="night"
 ·rw [if_pos h2] at h ⊢
  unfold JY at h
  split at h
  ·cases h
  ·split at h
   ·cases h
   ·rename_i hp
    rw [List.length_drop,Bool.not_eq_false] at hp
    exact hp
 rw [if_neg h2] at h ⊢
 by_cases h3:ws.getD 0 ""="pass"∨ws.getD 0 ""="let"
 ·rw [if_pos h3] at h ⊢
  unfold yV at h
  split at h
  ·cases h
  ·rename_i hp
   exact decide_eq_true (Decidable.not_not.mp hp)
 rw [if_neg h3] at h ⊢
 by_cases h4:ws.getD 0 ""="take"∨ws.getD 0 ""="rain"
 ·rw [if_pos h4] at h ⊢
  unfold yT at h
  split at h
  ·cases h
  ·rename_i hp
   exact decide_eq_true (Decidable.not_not.mp hp)
 rw [if_neg h4] at h
 cases h
theorem JP {ws:List Str} {i:Nat} (h:i<ws.length):ws.getD i ""∈ws:=by
 rw [List.getD_eq_getElem?_getD,List.getElem?_eq_getElem h]
 exact List.getElem_mem h
theorem JL (ws:List Str) (k i:Nat):(ws.drop k).getD i ""=ws.getD (k+i) "":=by
 rw [List.getD_eq_getElem?_getD,List.getD_eq_getElem?_getD,List.getElem?_drop]
theorem fW {ws:List Str} {e:En} (h:kP ws=some e) {i:Nat} (h0:1≤i) (hi:i<ws.length):JC (ws.getD 0 "") i (ws.getD i "")=true:=by
 have hl:=bE h
 have hmem:ws.getD i ""∈ws.drop 1:=by
  have:=JP (ws:=ws.drop 1) (i:=i - 1) (by rw [List.length_drop];omega)
  rwa [JL,show 1+(i - 1)=i by omega] at this
 unfold kP at h
 unfold JC
 by_cases h1:ws.getD 0 ""="come"
 ·rw [if_pos h1] at h ⊢
  unfold y8 at h
  split at h
  ·cases h
  split at h
  ·cases h
  split at h
  ·cases h
  rename_i hp hn hw
  rw [Bool.not_eq_false] at hp hn hw
  unfold cS
  obtain ⟨m,em,m1,m8⟩:=zY hp
  rw [List.length_drop] at em
  rw [List.all_append,Bool.and_eq_true] at hn
  have hpr:∀j,j<m→(kN (ws.drop 3))[j]?=some (ws.getD (3+2*j) "",ws.getD (3+(2*j+1)) ""):=fun j hj=>by
   rw [bW (by rw [List.length_drop];omega),JL,JL]
  by_cases hc:i=1∨i=2∨i%2=1
  ·rw [if_pos hc]
   by_cases h12:i≤2
   ·refine List.all_eq_true.mp hn.1 _ ?_
    have:=JP (ws:=(ws.drop 1).take 2) (i:=i - 1) (by rw [List.length_take,List.length_drop];omega)
    rwa [List.getD_eq_getElem?_getD,List.getElem?_take,if_pos (by omega),← List.getD_eq_getElem?_getD,JL,show 1+(i - 1)=i by omega] at this
   ·refine List.all_eq_true.mp hn.2 _ ?_
    obtain ⟨j,hj⟩:∃j,i=3+2*j:=⟨(i - 3) / 2,by omega⟩
    rw [hj]
    exact List.mem_map.mpr ⟨_,List.mem_of_getElem? (hpr j (by omega)),rfl⟩
  ·rw [if_neg hc]
   refine List.all_eq_true.mp hw _ ?_
   obtain ⟨j,hj⟩:∃j,i=3+(2*j+1):=⟨(i - 3) / 2,by omega⟩
   rw [hj]
   exact List.mem_map.mpr ⟨_,List.mem_of_getElem? (hpr j (by omega)),rfl⟩
 rw [if_neg h1] at h ⊢
 by_cases h2:ws.getD 0 ""="night"
 ·rw [if_pos h2] at h ⊢
  unfold JY at h
  split at h
  ·cases h
  rename_i hp
  rw [Bool.not_eq_false] at hp
  exact List.all_eq_true.mp hp _ hmem
 rw [if_neg h2] at h ⊢
 by_cases h3:ws.getD 0 ""="pass"∨ws.getD 0 ""="let"
 ·rw [if_pos h3] at h ⊢
  unfold yV at h
  split at h
  ·cases h
  split at h
  ·cases h
  rename_i hp hq
  rw [Bool.not_eq_false] at hq
  exact List.all_eq_true.mp hq _ hmem
 rw [if_neg h3] at h ⊢
 by_cases h4:ws.getD 0 ""="take"∨ws.getD 0 ""="rain"
 ·rw [if_pos h4] at h
  unfold yT at h
  split at h
  ·cases h
  split at h
  ·cases h
  split at h
  ·cases h
  rename_i hp hq hr
  rw [Bool.not_eq_false] at hq hr
  have h3l:=Decidable.not_not.mp hp
  by_cases hi1:i=1
  ·rw [if_pos hi1]
   refine List.all_eq_true.mp hq _ ?_
   have:=JP (ws:=(ws.drop 1).take 1) (i:=0) (by rw [List.length_take,List.length_drop];omega)
   rw [List.getD_eq_getElem?_getD,List.getElem?_take,if_pos (by omega),← List.getD_eq_getElem?_getD,JL] at this
   rw [hi1]
   exact this
  ·rw [if_neg hi1,show i=2 by omega]
   exact hr
 rw [if_neg h4] at h
 cases h
theorem bI (w0:Str) (n:Nat) (h:vG w0 n=true):vG w0 (n+1)=false∧(1≤n→vG w0 (n - 1)=false):=by
 have odd:∀k,k%2=1→kQ k=false:=fun k hk=>by unfold kQ;rw [decide_eq_false (by omega)];rfl
 unfold vG at h ⊢
 by_cases h1:w0="come"
 ·rw [if_pos h1] at h
  rw [if_pos h1,if_pos h1]
  rw [Bool.and_eq_true] at h
  have h3:=of_decide_eq_true h.1
  obtain ⟨m,e1,e2,e3⟩:=zY h.2
  exact ⟨by rw [odd _ (by omega),Bool.and_false],fun _=>by rw [odd _ (by omega),Bool.and_false]⟩
 rw [if_neg h1] at h
 rw [if_neg h1,if_neg h1]
 by_cases h2:w0="night"
 ·rw [if_pos h2] at h
  rw [if_pos h2,if_pos h2]
  obtain ⟨m,e1,e2,e3⟩:=zY h
  exact ⟨odd _ (by omega),fun _=>odd _ (by omega)⟩
 rw [if_neg h2] at h
 rw [if_neg h2,if_neg h2]
 by_cases h3:w0="pass"∨w0="let"
 ·rw [if_pos h3] at h
  rw [if_pos h3,if_pos h3]
  have:=of_decide_eq_true h
  exact ⟨decide_eq_false (by omega),fun _=>decide_eq_false (by omega)⟩
 rw [if_neg h3] at h
 rw [if_neg h3,if_neg h3]
 by_cases h4:w0="take"∨w0="rain"
 ·rw [if_pos h4] at h
  rw [if_pos h4,if_pos h4]
  have:=of_decide_eq_true h
  exact ⟨decide_eq_false (by omega),fun _=>decide_eq_false (by omega)⟩
 rw [if_neg h4] at h
 cases h
theorem JN {ws:List Str} (h:vG (ws.getD 0 "") ws.length=false):kP ws=none:=by
 cases e:kP ws with
 |none=>rfl
 |some x=>rw [bE e] at h;cases h
theorem oA {ws:List Str} {i:Nat} (h0:1≤i) (hi:i<ws.length) (h:JC (ws.getD 0 "") i (ws.getD i "")=false):kP ws=none:=by
 cases e:kP ws with
 |none=>rfl
 |some x=>rw [fW e h0 hi] at h;cases h
def qM:List Str:=["come","night","pass","let","take","rain"]
theorem JJ {ws:List Str} (h:ws.getD 0 ""∉qM):kP ws=none:=by
 refine JN ?_
 simp only [qM,List.mem_cons,List.not_mem_nil,or_false,not_or] at h
 unfold vG
 rw [if_neg h.1,if_neg h.2.1,if_neg (fun x=>x.elim h.2.2.1 h.2.2.2.1),if_neg (fun x=>x.elim h.2.2.2.2.1 h.2.2.2.2.2)]
theorem oP {e:En} (h:e.good):(jS e.ps).getD 0 ""∈qM:=by
 cases hm:decide ((jS e.ps).getD 0 ""∈qM) with
 |true=>exact of_decide_eq_true hm
 |false =>
  have:=JJ (of_decide_eq_false hm)
  rw [ZU h] at this
  cases this
theorem QW {w:Str} (h:vB w=true):1≤w.length∧w.length≤12∧∀c∈w.cps.toList,97≤c∧c≤122:=by
 have h:kD lettersS w=true:=h
 unfold kD at h
 rw [Bool.and_eq_true,Bool.and_eq_true] at h
 have h1:=of_decide_eq_true h.1.1
 have h2:=of_decide_eq_true h.1.2
 refine ⟨h1,by omega,fun c hc=>?_⟩
 have ha:=h.2
 unfold yC at ha
 rw [List.take_of_length_le (by rw [Array.length_toList];exact Nat.le_refl _),List.all_eq_true] at ha
 have hg:=ha c hc
 unfold y7 at hg
 rw [PySem.StrLaws.found_one] at hg
 have hm:=of_decide_eq_true hg
 rw [show lettersS.cps.toList=[97,98,99,100,101,102,103,104,105,106,107,108,109,110,111,112,113,114,115,116,117,118,119,120,121,122] by decide +kernel] at hm
 simp only [List.mem_cons,List.not_mem_nil,or_false] at hm
 omega
theorem Z5 {w:Str} (h:kI w=true):1≤w.length∧w.length≤12∧(∀c∈w.cps.toList,48≤c∧c≤57)∧(w="0"∨w.cps[0]?≠some 48):=by
 unfold kI at h
 rw [Bool.or_eq_true] at h
 rcases h with h|h
 ·rw [of_decide_eq_true h]
  exact ⟨by decide +kernel,by decide +kernel,by decide +kernel,.inl rfl⟩
 ·rw [Bool.and_eq_true] at h
  obtain ⟨h1,h2,h3⟩:=ZT h.1
  refine ⟨h1,by omega,h3,.inr fun e=>?_⟩
  have h4:=h.2
  rw [e] at h4
  exact absurd h4 (by decide)
theorem yS (a b:Str):(a++b).cps.toList=a.cps.toList++b.cps.toList:=by rw [Str.cps_append,Array.toList_append]
inductive OddW (w:Str):Str→Prop where
 |great:OddW w (w++"A")
 |none:OddW w ""
 |nought:OddW w ("0"++w)
 |long:OddW w (w++"aaaaaaaaaaaa")
 |noughts:OddW w (w++"000000000000")
 |under:OddW w "1_0"
 |minus:OddW w "-1"
 |plus:OddW w "+1"
theorem cA {w w':Str} (o:OddW w w') (hw:1≤w.length):vB w'=false:=by
 rw [Bool.eq_false_iff]
 intro h
 obtain ⟨h1,h2,h3⟩:=QW h
 have sign:∀c,c∈w'.cps.toList→¬(97≤c∧c≤122)→False:=fun c hc hn=>hn (h3 c hc)
 cases o with
 |great=>exact sign 65 (by rw [yS];exact List.mem_append_right _ (by decide +kernel)) (by decide)
 |none=>exact absurd h1 (by decide +kernel)
 |nought=>exact sign 48 (by rw [yS];exact List.mem_append_left _ (by decide +kernel)) (by decide)
 |long =>
  rw [Str.length_append,show ("aaaaaaaaaaaa":Str).length=12 by decide +kernel] at h2
  omega
 |noughts=>exact sign 48 (by rw [yS];exact List.mem_append_right _ (by decide +kernel)) (by decide)
 |under=>exact sign 49 (by decide +kernel) (by decide)
 |minus=>exact sign 45 (by decide +kernel) (by decide)
 |plus=>exact sign 43 (by decide +kernel) (by decide)
theorem gE {w w':Str} (o:OddW w w') (hw:1≤w.length):kI w'=false:=by
 rw [Bool.eq_false_iff]
 intro h
 obtain ⟨h1,h2,h3,h4⟩:=Z5 h
 have sign:∀c,c∈w'.cps.toList→¬(48≤c∧c≤57)→False:=fun c hc hn=>hn (h3 c hc)
 cases o with
 |great=>exact sign 65 (by rw [yS];exact List.mem_append_right _ (by decide +kernel)) (by decide)
 |none=>exact absurd h1 (by decide +kernel)
 |nought =>
  rcases h4 with h4|h4
  ·have:=congrArg Str.length h4
   rw [Str.length_append,show ("0":Str).length=1 by decide +kernel] at this
   omega
  ·refine h4 ?_
   rw [← Array.getElem?_toList,yS,show ("0":Str).cps.toList=[48] by decide +kernel]
   rfl
 |long=>exact sign 97 (by rw [yS];exact List.mem_append_right _ (by decide +kernel)) (by decide)
 |noughts =>
  rw [Str.length_append,show ("000000000000":Str).length=12 by decide +kernel] at h2
  omega
 |under=>exact sign 95 (by decide +kernel) (by decide)
 |minus=>exact sign 45 (by decide +kernel) (by decide)
 |plus=>exact sign 43 (by decide +kernel) (by decide)
theorem sN {w w':Str} (o:OddW w w') (hw:qV w=true):qV w'=false:=by
 have:w="up"∨w="down":=by
  unfold qV at hw
  rw [Bool.or_eq_true] at hw
  exact hw.elim (fun h=>.inl (of_decide_eq_true h)) fun h=>.inr (of_decide_eq_true h)
 clear hw
 cases o with
 |great=>rcases this with rfl|rfl<;>decide +kernel
 |none=>clear this;decide +kernel
 |nought=>rcases this with rfl|rfl<;>decide +kernel
 |long=>rcases this with rfl|rfl<;>decide +kernel
 |noughts=>rcases this with rfl|rfl<;>decide +kernel
 |under=>clear this;decide +kernel
 |minus=>clear this;decide +kernel
 |plus=>clear this;decide +kernel
theorem rK {w0:Str} {i:Nat} {w w':Str} (o:OddW w w') (h:JC w0 i w=true):JC w0 i w'=false:=by
 unfold JC at h ⊢
 split
 ·rename_i h1
  rw [if_pos h1] at h
  unfold cS at h ⊢
  split
  ·rename_i h2
   rw [if_pos h2] at h
   exact cA o (QW h).1
  ·rename_i h2
   rw [if_neg h2] at h
   exact sN o h
 ·rename_i h1
  rw [if_neg h1] at h
  split
  ·rename_i h2
   rw [if_pos h2] at h
   exact gE o (Z5 h).1
  ·rename_i h2
   rw [if_neg h2] at h
   split
   ·rename_i h3
    rw [if_pos h3] at h
    exact cA o (QW h).1
   ·rename_i h3
    rw [if_neg h3] at h
    split
    ·rename_i h4
     rw [if_pos h4] at h
     exact cA o (QW h).1
    ·rename_i h4
     rw [if_neg h4] at h
     exact gE o (Z5 h).1
structure BadOk (bw:List Str):Prop where
 ne:bw≠[]
 sg:∀w∈bw,32∉w.cps.toList∧10∉w.cps.toList
 no:kP bw=none
 full:bw.length=1→bw.getD 0 ""≠""
 many:bw.length≤100
 len:∀w∈bw,w.length≤900
 short:∀w∈bw.drop 1,w.length≤100
def cL (w:Str):Bool:=w.cps.toList.all fun c => !decide (c=32) && !decide (c=10)
theorem vZ {w:Str} (h:cL w=true):32∉w.cps.toList∧10∉w.cps.toList:=by
 unfold cL at h
 rw [List.all_eq_true] at h
 refine ⟨fun hm=>?_,fun hm=>?_⟩
 ·exact absurd (h 32 hm) (by decide)
 ·exact absurd (h 10 hm) (by decide)
theorem Q3 {a b:Str} (h1:32∉a.cps.toList∧10∉a.cps.toList) (h2:32∉b.cps.toList∧10∉b.cps.toList):32∉(a++b).cps.toList∧10∉(a++b).cps.toList:=by
 rw [yS]
 exact ⟨fun h=>(List.mem_append.mp h).elim h1.1 h2.1,fun h=>(List.mem_append.mp h).elim h1.2 h2.2⟩
theorem sD {w w':Str} (o:OddW w w') (h:32∉w.cps.toList∧10∉w.cps.toList):32∉w'.cps.toList∧10∉w'.cps.toList:=by
 cases o with
 |great=>exact Q3 h (vZ (by decide +kernel))
 |none=>exact vZ (by decide +kernel)
 |nought=>exact Q3 (vZ (by decide +kernel)) h
 |long=>exact Q3 h (vZ (by decide +kernel))
 |noughts=>exact Q3 h (vZ (by decide +kernel))
 |under=>exact vZ (by decide +kernel)
 |minus=>exact vZ (by decide +kernel)
 |plus=>exact vZ (by decide +kernel)
theorem rJ {w w':Str} (o:OddW w w') (h:w.length≤12):w'.length≤24:=by
 cases o with
 |great=>rw [Str.length_append,show ("A":Str).length=1 by decide +kernel];omega
 |none=>decide +kernel
 |nought=>rw [Str.length_append,show ("0":Str).length=1 by decide +kernel];omega
 |long=>rw [Str.length_append,show ("aaaaaaaaaaaa":Str).length=12 by decide +kernel];omega
 |noughts=>rw [Str.length_append,show ("000000000000":Str).length=12 by decide +kernel];omega
 |under=>decide +kernel
 |minus=>decide +kernel
 |plus=>decide +kernel
theorem rT {bw:List Str} (h:BadOk bw):kE (Str.join kB bw)=none∧vK (Str.join kB bw)∧z6 (Str.join kB bw)∧Str.join kB bw≠""∧(Str.join kB bw).length≤91000:=by
 have hs:Txt.split (Str.join kB bw) kB=bw:=ZX 32 h.ne fun p hp=>(h.sg p hp).1
 have hl:(Str.join kB bw).length≤91000:=by
  have h1:=Z7 kB rfl bw
  have h2:=JU (B:=900) bw h.len
  have h3:bw.length*900≤100*900:=Nat.mul_le_mul_right _ h.many
  have:=h.many
  omega
 refine ⟨by unfold kE;rw [hs];exact h.no,⟨by omega,?_⟩,fun hm=>?_,fun e=>?_,hl⟩
 ·rw [hs];exact ⟨List.length_pos_iff.mpr h.ne,h.many,h.short⟩
 ·rcases QI hm with h1|⟨p,hp,h1⟩
  ·omega
  ·exact (h.sg p hp).2 h1
 ·rw [e,show Txt.split ("":Str) kB=[("":Str)] by decide +kernel] at hs
  exact h.full (by rw [← hs];rfl) (by rw [← hs];rfl)
def v4 (w:Str):Prop:=(32∉w.cps.toList∧10∉w.cps.toList)∧w.length≤24
def ZF (w:Str):Bool:=cL w&&decide (w.length≤24)
theorem v9 {w:Str} (h:ZF w=true):v4 w:=by
 unfold ZF at h
 rw [Bool.and_eq_true] at h
 exact ⟨vZ h.1,of_decide_eq_true h.2⟩
theorem y6 {bw:List Str} (h1:1≤bw.length) (h100:bw.length≤100) (hw:∀w∈bw,v4 w) (no:kP bw=none) (full:bw.length=1→bw.getD 0 ""≠""):BadOk bw :=
 ⟨List.length_pos_iff.mp h1,fun w h=>(hw w h).1,no,full,h100,fun w h=>Nat.le_trans (hw w h).2 (by decide),fun w h=>Nat.le_trans (hw w (List.mem_of_mem_drop h)).2 (by decide)⟩
structure GW (ws:List Str):Prop where
 n2:2≤ws.length
 n64:ws.length≤64
 ok:∀w∈ws,v4 w
 l12:∀w∈ws,w.length≤12
 so:∃e,kP ws=some e
 six:ws.getD 0 ""∈qM
theorem sV {e:En} (h:e.good):2≤(jS e.ps).length:=by
 cases e with
 |come nm st steps=>show 2≤(strL comeL::strL nm::strL st::(jR _++[])).length;rw [List.length_cons,List.length_cons];omega
 |night ws =>
  have:2≤(jR (ws.map fun q=>(Pt.n q.1,Pt.n q.2))).length:=by rw [ZV,List.length_map];have:=h.1;omega
  show 2≤(strL nightL::(jR _++[])).length
  rw [List.length_cons,List.append_nil]
  omega
 |named w nm=>exact Nat.le_refl 2
 |amount w nm i=>show 2≤3;decide
theorem tT {e:En} (h:e.good):GW (jS e.ps):=by
 obtain ⟨w1,w2⟩:=QX h
 refine ⟨sV h,w1,fun w hw=>⟨⟨fun hm=>?_,fun hm=>?_⟩,Nat.le_trans (w2 w hw) (by decide)⟩,w2,⟨e,ZU h⟩,oP h⟩
 ·have:=QQ h w hw 32 hm;omega
 ·have:=QQ h w hw 10 hm;omega
theorem Z8 {ws us:List Str} (h:1≤ws.length):(ws++us).getD 0 ""=ws.getD 0 "":=by
 rw [List.getD_eq_getElem?_getD,List.getElem?_append_left (by omega),← List.getD_eq_getElem?_getD]
theorem QJ {ws:List Str} {k:Nat} (h:1≤k):(ws.take k).getD 0 ""=ws.getD 0 "":=by
 rw [List.getD_eq_getElem?_getD,List.getElem?_take,if_pos (by omega),← List.getD_eq_getElem?_getD]
theorem GW.lens {ws:List Str} (g:GW ws):vG (ws.getD 0 "") ws.length=true:=by obtain ⟨e,he⟩:=g.so;exact bE he
theorem fP {ws:List Str} (g:GW ws) (w:Str) (hw:v4 w):BadOk (ws++[w]):=by
 have h2:=g.n2
 have h64:=g.n64
 have hl:(ws++[w]).length=ws.length+1:=by rw [List.length_append];rfl
 refine y6 (by omega) (by omega) (fun x hx=>?_) (JN ?_) (fun h=>absurd h (by omega))
 ·rcases List.mem_append.mp hx with hx|hx
  ·exact g.ok x hx
  ·rw [List.mem_singleton.mp hx];exact hw
 ·rw [Z8 (by omega),hl];exact (bI _ _ g.lens).1
theorem eW {w:Str} (h:w∈qM):w≠"":=by
 intro e
 rw [e] at h
 exact absurd h (by decide +kernel)
theorem p6 {ws:List Str} (g:GW ws):BadOk (ws.take (ws.length - 1)):=by
 have h2:=g.n2
 have h64:=g.n64
 have hl:(ws.take (ws.length - 1)).length=ws.length - 1:=by rw [List.length_take];omega
 refine y6 (by omega) (by omega) (fun x hx=>g.ok x (List.mem_of_mem_take hx)) (JN ?_) (fun _=>?_)
 ·rw [QJ (by omega),hl];exact (bI _ _ g.lens).2 (by omega)
 ·rw [QJ (by omega)];exact eW g.six
theorem bJ:v4 "":=v9 (by decide +kernel)
theorem rV {ws:List Str} (g:GW ws) {k:Nat} (hk:k≤ws.length):BadOk ((ws.take k++[("":Str)])++ws.drop k):=by
 have h2:=g.n2
 have h64:=g.n64
 have hl:((ws.take k++[("":Str)])++ws.drop k).length=ws.length+1:=by rw [List.length_append,List.length_append,List.length_take,List.length_drop,List.length_singleton];omega
 refine y6 (by omega) (by omega) (fun x hx=>?_) ?_ (fun h=>absurd h (by omega))
 ·rcases List.mem_append.mp hx with hx|hx
  ·rcases List.mem_append.mp hx with hx|hx
   ·exact g.ok x (List.mem_of_mem_take hx)
   ·rw [List.mem_singleton.mp hx];exact bJ
  ·exact g.ok x (List.mem_of_mem_drop hx)
 ·by_cases h0:k=0
  ·subst h0
   refine JJ ?_
   show ("":Str)∉qM
   decide +kernel
  ·refine JN ?_
   rw [List.append_assoc,Z8 (by rw [List.length_take];omega),QJ (by omega),← List.append_assoc,hl]
   exact (bI _ _ g.lens).1
theorem eJ {ws:List Str} (g:GW ws) (w:Str) (hw:v4 w) (hn:w∉qM):BadOk ([w]++ws.drop 1):=by
 have h2:=g.n2
 have h64:=g.n64
 have hl:([w]++ws.drop 1).length=ws.length:=by rw [List.length_append,List.length_drop,List.length_singleton];omega
 refine y6 (by omega) (by omega) (fun x hx=>?_) (JJ hn) (fun h=>absurd h (by omega))
 rcases List.mem_append.mp hx with hx|hx
 ·rw [List.mem_singleton.mp hx];exact hw
 ·exact g.ok x (List.mem_of_mem_drop hx)
theorem r6:∀z∈qM,JB z∉qM∧ZF (JB z)=true:=by decide +kernel
theorem lN:∀z∈qM,(z++"s")∉qM∧ZF (z++"s")=true:=by decide +kernel
theorem rS {ws:List Str} (g:GW ws) {i:Nat} (h1:1≤i) (hi:i<ws.length) {w:Str} (o:OddW (ws.getD i "") w):BadOk (ws.set i w):=by
  have h2:=g.n2
  have h64:=g.n64
  have hl:(ws.set i w).length=ws.length:=List.length_set
  have hm:=JP hi
  obtain ⟨e,he⟩:=g.so
  refine y6 (by omega) (by omega) (fun x hx=>?_) (oA h1 (by omega) ?_) (fun h=>absurd h (by omega))
  · rcases List.mem_or_eq_of_mem_set hx with hx|rfl
    · exact g.ok x hx
    · exact ⟨sD o (g.ok _ hm).1,rJ o (g.l12 _ hm)⟩
  · rw [show (ws.set i w).getD i ""=w by rw [List.getD_eq_getElem?_getD,List.getElem?_set_self hi];rfl,show (ws.set i w).getD 0 ""=ws.getD 0 "" by rw [List.getD_eq_getElem?_getD,List.getElem?_set_ne (by omega),← List.getD_eq_getElem?_getD]]
    exact rK o (fW he h1 hi)
def vJ (w0:Str):Nat:=if w0="come" then 3 else 1
theorem gG {ws:List Str} (g:GW ws):1≤vJ (ws.getD 0 "")∧vJ (ws.getD 0 "")≤ws.length:=by
 have h2:=g.n2
 have hl:=g.lens
 unfold vJ
 split
 ·rename_i h
  unfold vG at hl
  rw [if_pos h,Bool.and_eq_true] at hl
  have:=of_decide_eq_true hl.1
  omega
 ·omega
theorem eI {ws:List Str} (g:GW ws) {xs:List Str} (hx:xs.length=18∨xs=[]) (hok:∀w∈xs,v4 w):BadOk (ws.take (vJ (ws.getD 0 ""))++xs):=by
 have h2:=g.n2
 have h64:=g.n64
 obtain ⟨g1,g2⟩:=gG g
 have hxl:xs.length≤18:=by rcases hx with h|rfl;omega;exact Nat.zero_le _
 have hl:(ws.take (vJ (ws.getD 0 ""))++xs).length=vJ (ws.getD 0 "")+xs.length:=by rw [List.length_append,List.length_take];omega
 have hf:(ws.take (vJ (ws.getD 0 ""))++xs).getD 0 ""=ws.getD 0 "":=by rw [Z8 (by rw [List.length_take];omega),QJ g1]
 refine y6 (by omega) (by omega) (fun x h=>?_) (JN ?_) (fun _=>?_)
 ·rcases List.mem_append.mp h with h|h
  ·exact g.ok x (List.mem_of_mem_take h)
  ·exact hok x h
 ·rw [hf,hl]
  have p18:kQ 18=false:=by decide
  have six:=g.six
  generalize ws.getD 0 ""=w0 at six
  unfold vG vJ
  by_cases h1:w0="come"
  ·rw [if_pos h1,if_pos h1]
   rcases hx with h|h
   ·rw [h];decide
   ·rw [h];decide
  rw [if_neg h1,if_neg h1]
  by_cases h3:w0="night"
  ·rw [if_pos h3]
   rcases hx with h|h
   ·rw [h];decide
   ·rw [h];decide
  rw [if_neg h3]
  by_cases h4:w0="pass"∨w0="let"
  ·rw [if_pos h4]
   rcases hx with h|h
   ·rw [h];decide
   ·rw [h];decide
  rw [if_neg h4]
  by_cases h5:w0="take"∨w0="rain"
  ·rw [if_pos h5]
   rcases hx with h|h
   ·rw [h];decide
   ·rw [h];decide
  rw [if_neg h5]
 ·rw [hf];exact eW g.six
theorem p0 {ws:List Str} (g:GW ws):BadOk [Str.join ⟨#[9]⟩ ws]:=by
 have h2:=g.n2
 have h64:=g.n64
 have h9:9∈(Str.join ⟨#[9]⟩ ws).cps.toList:=by
  rw [JO]
  rcases ws with _|⟨x,_|⟨y,r⟩⟩
  ·exact absurd h2 (by show ¬2≤0;decide)
  ·exact absurd h2 (by show ¬2≤1;decide)
  ·exact List.mem_append_right _ List.mem_cons_self
 have hlen:(Str.join ⟨#[9]⟩ ws).length≤832:=Nat.le_trans (Z7 _ rfl ws) (QK h64 g.l12)
 have hno:Str.join ⟨#[9]⟩ ws∉qM:=fun hm=>by
  have key:∀z∈qM,9∉z.cps.toList:=by decide +kernel
  exact key _ hm h9
 refine ⟨List.cons_ne_nil _ _,fun w hw=>?_,JJ hno,fun _ e=>?_,(by show 1≤100;decide),fun w hw=>?_,fun w hw=>by cases hw⟩
 ·rw [List.mem_singleton.mp hw]
  refine ⟨fun hm=>?_,fun hm=>?_⟩
  ·rcases QI hm with h|⟨p,hp,h⟩
   ·omega
   ·exact (g.ok p hp).1.1 h
  ·rcases QI hm with h|⟨p,hp,h⟩
   ·omega
   ·exact (g.ok p hp).1.2 h
 ·have e:Str.join ⟨#[9]⟩ ws="":=e
  rw [e] at h9
  exact absurd h9 (by decide +kernel)
 ·rw [List.mem_singleton.mp hw];omega
theorem nJ {k:Nat} (h2:2≤k) (h3:k≤3):BadOk (List.replicate k ("":Str)):=by
 refine y6 (by rw [List.length_replicate];omega) (by rw [List.length_replicate];omega) (fun x hx=>?_) (JJ ?_) (fun h=>?_)
 ·rw [(List.mem_replicate.mp hx).2];exact bJ
 ·rw [show (List.replicate k ("":Str)).getD 0 ""="" by rw [List.getD_eq_getElem?_getD,List.getElem?_replicate,if_pos (by omega)];rfl]
  decide +kernel
 ·rw [List.length_replicate] at h;omega
theorem yX {H Hc:Hp} {p1 p2:Addr} {bw us:List Str} {Q2:VK} (s:Same H Hc) (h1:Hc p1=some (.lst (bw.map V.str))) (h2:Hc p2=some (.lst (us.map V.str))) (hl:bw.length+us.length≤1000) (q:∀(p:Addr) (H':Hp),Same H H'→H p=none→H' p=some (.lst ((bw++us).map V.str))→Q2 (.ref p) H'):iQ (.ref p1) (.ref p2) Hc Q2 :=
 ⟨p1,p2,_,_,rfl,rfl,h1,h2,qJ (by rw [List.length_map,List.length_map];exact hl),fun p hp=>q p _ (s.trans (jG hp _)) (s.free hp) (by rw [jE,List.map_append])⟩
theorem cN {s t:Str} (h:¬s=t):¬((Sum.inr s:jK)=(Sum.inr t:jK)):=fun e=>h (Sum.inr.inj e)
theorem gT:z4 [] [((.inr "come":jK),V.int 3),(.inr "night",.int 1)]=[(.inr "come",.int 3),(.inr "night",.int 1)]:=by
 show qE (qE ([]:List (jK×V)) (Sum.inr "come") (.int 3)) (Sum.inr "night") (.int 1)=_
 rw [eX _ (valV_nil:kU [] (Sum.inr "come":jK)=none)]
 rw [eX _ (by show kU [((.inr "come":jK),V.int 3)] (.inr "night")=none;rw [zV (cN (by decide +kernel))];rfl)]
 rfl
def gP:Sp:=fun vs H Q _=>∃(l:Addr) (ws:List Str) (i:Nat) (w:Str),vs=[.ref l,.int (i:Int),.str w]∧H l=some (.lst (ws.map V.str))∧i<ws.length∧ws.length≤100∧∀(p:Addr) (H':Hp),Same H H'→H p=none→H' p=some (.lst ((ws.set i w).map V.str))→Q (.ref p) H'
def gQ:Sp:=fun vs H Q _=>∃(l:Addr) (ws:List Str) (way i:Nat),vs=[.ref l,.int (way:Int),.int (i:Int)]∧H l=some (.lst (ws.map V.str))∧GW ws∧way<17∧1≤i∧i<ws.length∧∀(p:Addr) (bw:List Str) (H':Hp),Same H H'→H p=none→H' p=some (.lst (bw.map V.str))→BadOk bw→Q (.ref p) H'
theorem sZ {rows:List Str} (h:1≤rows.length):kX (rows.map V.str) none (some (-1))=(rows.take (rows.length - 1)).map V.str:=by
 unfold kX
 rw [HT.sIx_none,List.drop_zero,Nat.sub_zero,List.map_take,List.length_map]
 congr 1
 show (if (-1:Int)<0 then ((-1:Int)+(rows.length:Int)).toNat else min (-1:Int).toNat rows.length)=_
 rw [if_pos (by decide)]
 omega
def dJ:Sp:=fun vs H Q _=>∃(row:Str) (many:Bool),vs=[.str row,.bl many]∧(many=false→vK row∧kE row=none)∧(many=true→row.length≤1000000∧(∀r∈qS row,vK r)∧(Txt.split row feedS).length≤999∧∃r∈qS row,kE r=none)∧∀H',Same H H'→Q (.bl true) H'
theorem nR {rows:List Str} {es:List En} (h:rows.map kE=es.map some) (hn:∃r∈rows,kE r=none):False:=by
 obtain ⟨r,hr,hn⟩:=hn
 obtain ⟨i,hi,e⟩:=List.mem_iff_getElem.mp hr
 have h5:(rows.map kE)[i]?=some none:=by rw [List.getElem?_map,List.getElem?_eq_getElem hi,e];show some (kE r)=_;rw [hn]
 rw [h,List.getElem?_map] at h5
 cases hx:es[i]? with
 |none=>rw [hx] at h5;cases h5
 |some x=>rw [hx] at h5;cases h5
theorem oU:vK ""∧kE ""=none:=by
 refine ⟨⟨by decide +kernel,?_⟩,by decide +kernel⟩
 rw [show Txt.split ("":Str) kB=[("":Str)] by decide +kernel]
 exact ⟨Nat.le_refl 1,(by show 1≤100;decide),fun w hw=>by cases hw⟩
theorem pS {zs:List Str} (h:∀z∈zs,z≠""):zs.filter z8=zs:=by
 rw [List.filter_eq_self]
 intro z hz
 unfold z8
 rw [decide_eq_false (h z hz)]
 rfl
theorem dZ {zs:List Str} (h:∀z∈zs,z6 z∧z≠""):qS (qI zs)=zs∧(Txt.split (qI zs) feedS).length=zs.length+1:=by
 have hs:Txt.split (qI zs) feedS=zs++[("":Str)]:=by
  have:=nB (ls:=zs) (z:="") (fun l hl=>(h l hl).1) (by show 10∉([]:List Nat);simp)
  rwa [show qI zs++("":Str)=qI zs from Str.append_empty _] at this
 refine ⟨?_,by rw [hs,List.length_append];rfl⟩
 unfold qS
 rw [hs,List.filter_append,show [("":Str)].filter z8=[] by decide +kernel,List.append_nil]
 exact pS fun z hz=>(h z hz).2
theorem eM:∀zs:List Str,(qI zs).length≤qH (zs.map (·++feedS))
 |[]=>by decide +kernel
 |z::r=>by
  have:=eM r
  rw [Z2,Str.length_append]
  show _≤(z++feedS).length+qH (r.map (·++feedS))
  omega
theorem eO {B:Nat}:∀(zs:List Str),(∀z∈zs,z.length≤B)→(qI zs).length≤zs.length*(B+1)
 |[],_=>by show ("":Str).length≤0*(B+1);rw [Nat.zero_mul];decide +kernel
 |z::r,h=>by
  have h1:=eO r (fun y hy=>h y (List.mem_cons_of_mem _ hy))
  have h2:=h z List.mem_cons_self
  rw [Z2,Str.length_append,Str.length_append,List.length_cons,Nat.add_mul,Nat.one_mul,show feedS.length=1 from rfl]
  omega
structure Txt (K:W.Frag) (mg:Str→Option Value) (j6 j5 j8 j7:Tok) (eC eB eN eU eT tW:Addr):Prop where
 z_all:mg "all"=none
 z_len:mg "len"=none
 z_int:mg "int"=none
 z_tuple:mg "tuple"=none
 z_zip:mg "zip"=none
 z_range:mg "range"=none
 z_isinstance:mg "isinstance"=none
 z_str:mg "str"=none
 z_ValueError:mg "ValueError"=none
 z_list:mg "list"=none
 g_LETTERS:mg "LETTERS"=some (.str lettersS j6)
 g_FIGURES:mg "FIGURES"=some (.str v2 j5)
 g_MOST_SIGNS:mg "MOST_SIGNS"=some (.int 12 j8)
 g_MOST_PAIRS:mg "MOST_PAIRS"=some (.int 8 j7)
 c_CanalError:mg "CanalError"=some (.ref eC)
 c_BadRow:mg "BadRow"=some (.ref eB)
 c_BadNumber:mg "BadNumber"=some (.ref eN)
 c_Unknown:mg "Unknown"=some (.ref eU)
 c_Torn:mg "Torn"=some (.ref eT)
 x_BadRow:iW K eB
 g_WAYS:mg "WAYS"=some (.ref tW)
 ways:∀H:Hp,SqT K H tW [.str "up",.str "down"]
 at_:ExcAttr K eB
 cl:(W.clsIn K eB).isSome=true
 exm:W.exmOne K (.ref eB) (.ref eB)=some true
 k_T:W.kitOne K (.ref eB) (.ref eT)=some false
 k_U:W.kitOne K (.ref eB) (.ref eU)=some false
 k_N:W.kitOne K (.ref eB) (.ref eN)=some false
 k_C:W.kitOne K (.ref eB) (.ref eC)=some true
 k_V:W.kitOne K (.ref eB) (.type "ValueError")=some true
set_option maxHeartbeats 4000000
section
variable {P:Program} {w:World} {K:W.Frag} {mg:Str→Option Value} {base:Heap} {j6 j5 j8 j7:Tok} {eC eB eN eU eT tW:Addr}
theorem mC:FnScope ["word","signs"] ["word","signs"] (jH yN):=⟨rfl,rfl,rfl,by decide +kernel,rfl,by decide +kernel,by decide +kernel⟩
theorem lM {f:Addr} {fd:FuncData} (F:Fun K "written_with" "written_with" yN f fd) (T:Txt K mg j6 j5 j8 j7 eC eB eN eU eT tW) : FnOk P w K mg base kS 1 f fd ["word","signs"] (bT):=by
 refine F.ok mC (fun vs H Q E h=>?_) (fun cdv A outer s H vs Q E hr h=>?_)
 ·obtain ⟨w,S,rfl,hw,q⟩:=h
  rfl
 obtain ⟨w,S,rfl,hw,q⟩:=h
 have hu:_<cLine:=hr.units0
 have hu1:=kJ hr
 refine ⟨_,(jI (jO (bX (pH ZB ZB jB (kK mL (by rfl) T.z_len PySem.boot_len (jA (pv 0) jC)) (vV (v:=.int 12) rfl T.g_MOST_SIGNS ⟨_,rfl⟩)) (Q5 (kK (bB rfl) (by rfl) T.z_all PyProof.Rows.boot_all (jA (yR ["sign","signs"] (qN 1 [1]) rfl (vL (jH yN) rfl rfl (by decide +kernel) (by decide +kernel) (by decide +kernel)) (vD 1 [1] rfl rfl (by decide +kernel)) (sI (pv 0)) (fun _ _ _ _ _=>(kZ (i:=0) (show List.Nodup (["sign","signs"]:List Str) from by decide +kernel) rfl (by first|exact Or.inl rfl|exact Or.inr rfl))) (fun _ _ _ _ _=>vS) (fun _ _ _ _ _=>(Q0 nY (pv 0) (pv 1) (by with_unfolding_all rfl)))) jC)))))),?_⟩
 have hws:w.length≤sizeLine:=qJ (by omega)
 refine ⟨_,rfl,w,rfl,hws,_,_,rfl,rfl,_,rfl,?_⟩
 have bad:∀H':Hp,Same H H'→kD S w=false→Q (.bl false) H':=fun H' s e=>by
  have:=q H' s
  rw [e] at this
  exact this
 by_cases h1:(1:Int)≤((w.length:Nat):Int)
 ·refine vH h1 ⟨_,_,rfl,rfl,_,rfl,?_⟩
  by_cases h2:((w.length:Nat):Int)≤12
  ·refine vH h2 ⟨_,rfl,w,rfl,fun D hD=>?_⟩
   refine oX (z:=w) (caps:=[some (.str S)]) (fun i ys Hi=>∃bs:List Bool,ys=bs.map V.bl∧bs.length=i∧bs.all id=yC S w i) hD ⟨[],rfl,rfl,rfl⟩ ?_ ?_
   ·rintro i c ys Hi hc hle sm hY ⟨bs,rfl,hbl,hba⟩
    have hi:i<w.length:=(Array.getElem?_eq_some_iff.mp hc).1
    refine vW (kG ⟨_,rfl,_,rfl,_,_,rfl,rfl,?_⟩)
    refine v5 hD sm hY hle (by omega) (Same.refl _) ⟨bs++[y7 S c],by rw [List.map_append];rfl,by rw [List.length_append,hbl];rfl,?_⟩
    rw [o7 hc,List.all_append,hba]
    simp
   ·rintro ys Hf sm hY hle ⟨bs,rfl,hbl,hba⟩
    refine ⟨D,bs,rfl,SqL.of hY,?_⟩
    have e:bs.all id=kD S w:=by
     unfold kD
     rw [hba,decide_eq_true (show 0<w.length by omega),decide_eq_true (show w.length<13 by omega)]
     rfl
    rw [e]
    exact q Hf sm
  ·refine vI h2 (bad H (Same.refl _) ?_)
   unfold kD
   rw [decide_eq_false (show ¬w.length<13 by omega),Bool.and_false]
   rfl
 ·refine vI h1 ⟨_,rfl,qK (bad H (Same.refl _) ?_)⟩
  unfold kD
  rw [decide_eq_false (show ¬0<w.length by omega)]
  rfl
theorem lR:FnScope ["word"] ["word"] (jH zL):=⟨rfl,rfl,rfl,by decide +kernel,rfl,by decide +kernel,by decide +kernel⟩
theorem lC {f:Addr} {fd:FuncData} (F:Fun K "is_name" "is_name" zL f fd) (T:Txt K mg j6 j5 j8 j7 eC eB eN eU eT tW) (D_written_with:Def P w K mg base 1 "written_with" ["word","signs"] [] (bT)):FnOk P w K mg base kS 2 f fd ["word"] (eS):=by
 refine F.ok lR (fun vs H Q E h=>?_) (fun cdv A outer s H vs Q E hr h=>?_)
 ·obtain ⟨w,rfl,hw,q⟩:=h
  rfl
 obtain ⟨w,rfl,hw,q⟩:=h
 have hu:_<cLine:=hr.units0
 have hu1:=kJ hr
 refine ⟨_,(jI (jO (kL D_written_with hr rfl (jA (pv 0) (jA (vV (v:=.str lettersS) rfl T.g_LETTERS ⟨_,rfl⟩) jC))))),?_⟩
 exact ⟨_,rfl,w,lettersS,rfl,hw,q⟩
theorem lS:FnScope ["word"] ["word"] (jH zM):=⟨rfl,rfl,rfl,by decide +kernel,rfl,by decide +kernel,by decide +kernel⟩
theorem lD {f:Addr} {fd:FuncData} (F:Fun K "is_number" "is_number" zM f fd) (T:Txt K mg j6 j5 j8 j7 eC eB eN eU eT tW) (D_written_with:Def P w K mg base 1 "written_with" ["word","signs"] [] (bT)):FnOk P w K mg base kS 2 f fd ["word"] (fV):=by
 refine F.ok lS (fun vs H Q E h=>?_) (fun cdv A outer s H vs Q E hr h=>?_)
 ·obtain ⟨w,rfl,hw,q⟩:=h
  rfl
 obtain ⟨w,rfl,hw,q⟩:=h
 have hu:_<cLine:=hr.units0
 have hu1:=kJ hr
 refine ⟨_,(jI (jO (tP (Q0 kR (pv 0) jJ (jX _)) (Q5 (bX (kL D_written_with hr rfl (jA (pv 0) (jA (vV (v:=.str v2) rfl T.g_FIGURES ⟨_,rfl⟩) jC))) (Q5 (Q0 J3 (jV gX (pv 0) jB (fun _ _=>rfl)) jJ (jX _)))))))),?_⟩
 refine ⟨_,rfl,rfl,_,rfl,?_⟩
 unfold kI at q
 by_cases h0:w="0"
 ·rw [decide_eq_true h0] at q
  exact vH (congrArg V.str h0) (q H (Same.refl _))
 rw [decide_eq_false h0,Bool.false_or] at q
 refine vI (fun z=>h0 (V.str.inj z)) ⟨_,rfl,w,v2,rfl,hw,fun H1 s1=>⟨_,rfl,?_⟩⟩
 by_cases hg:kD v2 w=true
 ·obtain ⟨h1,h2,h3⟩:=ZT hg
  rw [hg] at q ⊢
  rw [Bool.true_and] at q
  obtain ⟨c,hc,hc2⟩:=p7 (z:=w) (i:=0) (Int.le_refl _) (by omega)
  refine kG ⟨_,rfl,w,_,c,rfl,rfl,qJ (by omega),hc,rfl,?_⟩
  rw [pX]
  have q:=q H1 s1
  rw [show w.cps[0]?=some c from hc2,show decide (some c=some 48)=decide (c=48) from decide_eq_decide.mpr ⟨fun e=>Option.some.inj e,fun e=>by rw [e]⟩] at q
  exact q
 ·rw [Bool.eq_false_iff.mpr hg] at q ⊢
  exact qK (q H1 s1)
theorem lU:FnScope ["word"] ["word"] (jH zO):=⟨rfl,rfl,rfl,by decide +kernel,rfl,by decide +kernel,by decide +kernel⟩
theorem lG {f:Addr} {fd:FuncData} (F:Fun K "number_of" "number_of" zO f fd) (T:Txt K mg j6 j5 j8 j7 eC eB eN eU eT tW) (D_is_number:Def P w K mg base 2 "is_number" ["word"] [] (fV)):FnOk P w K mg base (jN P w) 3 f fd ["word"] (bU eB):=by
 refine F.okX lU (fun vs H Q E h=>?_) (fun cdv A outer s H vs Q E hr h=>?_)
 ·obtain ⟨w,rfl,hw,qv,qe⟩:=h
  rfl
 obtain ⟨w,rfl,hw,qv,qe⟩:=h
 have hu:_<cLine:=hr.units0
 have hu1:=kJ hr
 refine ⟨_,(jL (jT (yU (vF (kL D_is_number hr rfl (jA (pv 0) jC)))) (jI (zX zT rfl rfl T.c_BadRow T.x_BadRow (jA jJ jC))) jW)
   (jI (jO (zC o4 (by rfl) T.z_int PyProof.Rows.boot_int (jA (pv 0) jC))))),?_⟩
 refine ⟨_,rfl,w,rfl,hw,fun H1 s1=>⟨_,rfl,?_⟩⟩
 by_cases h:kI w=true
 ·rw [h]
  exact qK ⟨_,rfl,w,_,rfl,by omega,n5 hw h,qv h H1 s1⟩
 ·rw [Bool.eq_false_iff.mpr h]
  exact kG ⟨by show 1≤sizeLine;decide,qe (Bool.eq_false_iff.mpr h) H1 s1⟩
theorem lV:FnScope ["words"] ["words"] (jH yK):=⟨rfl,rfl,rfl,by decide +kernel,rfl,by decide +kernel,by decide +kernel⟩
theorem lH {f:Addr} {fd:FuncData} (F:Fun K "numbers_of" "numbers_of" yK f fd) (T:Txt K mg j6 j5 j8 j7 eC eB eN eU eT tW) (DX_number_of:DefX P w K mg base 3 "number_of" ["word"] [] (bU eB)):FnOk P w K mg base (jN P w) 4 f fd ["words"] (fT eB):=by
 refine F.okX lV (fun vs H Q E h=>?_) (fun cdv A outer s H vs Q E hr h=>?_)
 ·obtain ⟨l,ws,rfl,hl,⟨h100,hsh⟩,qv,qe⟩:=h
  rfl
 obtain ⟨l,ws,rfl,hl,⟨h100,hsh⟩,qv,qe⟩:=h
 have hu:_<cLine:=hr.units0
 have hu1:=kJ hr
 refine ⟨_,(jI (jO (fA ["word"] (qN 1 []) (vL (jH yK) rfl rfl (by decide +kernel) (by decide +kernel) (by decide +kernel)) (vD 1 [] rfl rfl (by decide +kernel)) (yI (pv 0)) (fun _ _ _ _ _=>(kZ (i:=0) (show List.Nodup (["word"]:List Str) from by decide +kernel) rfl (by first|exact Or.inl rfl|exact Or.inr rfl))) (fun _ _ _ _ _=>vS) (fun _ _ _ _ _=>(qB DX_number_of dL hr rfl (jA (pv 0) jC)))))),?_⟩
 refine ⟨_,rfl,l,rfl,⟨_,SqL.of hl⟩,fun D hD=>?_⟩
 refine yH (K:=K) (a:=l) (xs:=ws.map V.str) (caps:=[]) (fun i ys Hi=>ys=((ws.take i).map kC).map V.int∧(ws.take i).all kI=true) hD (SqL.of hl) ⟨rfl,rfl⟩ ?_ ?_
 ·rintro i v ys Hi hv hi hle sm hY ⟨rfl,hall⟩
  obtain ⟨w,hw,rfl⟩:=yQ hv
  have hi1:i<100:=by rw [List.length_map] at hi;omega
  have hm:=List.mem_of_getElem? hw
  refine vW (kG ⟨_,rfl,w,rfl,hsh w hm,fun hn H1 s1=>?_,fun hn H1 s1=>?_⟩)
  ·refine v5 hD sm hY hle (by omega) s1 ⟨?_,?_⟩
   ·rw [List.take_add_one,hw,List.map_append,List.map_append]
    rfl
   ·rw [List.take_add_one,hw,List.all_append,hall]
    show (true&&([w].all kI))=true
    rw [List.all_cons,hn];rfl
  ·refine qe ?_ _ (sm.trans s1)
   rw [Bool.eq_false_iff]
   intro e
   rw [List.all_eq_true.mp e w hm] at hn
   cases hn
 rintro ys Hf sm hY hle ⟨rfl,hall⟩
 rw [List.length_map,List.take_length] at hY hall
 exact qv hall D Hf sm hD hY
theorem lY:FnScope ["words"] ["words"] (jH yL):=⟨rfl,rfl,rfl,by decide +kernel,rfl,by decide +kernel,by decide +kernel⟩
theorem lJ {f:Addr} {fd:FuncData} (F:Fun K "refuse_no_names" "refuse_no_names" yL f fd) (T:Txt K mg j6 j5 j8 j7 eC eB eN eU eT tW) (D_is_name:Def P w K mg base 2 "is_name" ["word"] [] (eS)):FnOk P w K mg base (jN P w) 3 f fd ["words"] (QS eB):=by
 refine F.okX lY (fun vs H Q E h=>?_) (fun cdv A outer s H vs Q E hr h=>?_)
 ·obtain ⟨l,ws,rfl,hl,⟨h100,hsh⟩,qv,qe⟩:=h
  rfl
 obtain ⟨l,ws,rfl,hl,⟨h100,hsh⟩,qv,qe⟩:=h
 have hu:_<cLine:=hr.units0
 have hu1:=kJ hr
 refine ⟨_,(jI (jT (yU (vF (kK (bB rfl) (by rfl) T.z_all PyProof.Rows.boot_all (jA (yR ["word"] (qN 1 []) rfl (vL (jH yL) rfl rfl (by decide +kernel) (by decide +kernel) (by decide +kernel)) (vD 1 [] rfl rfl (by decide +kernel)) (yI (pv 0)) (fun _ _ _ _ _=>(kZ (i:=0) (show List.Nodup (["word"]:List Str) from by decide +kernel) rfl (by first|exact Or.inl rfl|exact Or.inr rfl))) (fun _ _ _ _ _=>vS) (fun _ _ _ _ _=>(kL D_is_name hr rfl (jA (pv 0) jC)))) jC)))) (jI (zX zT rfl rfl T.c_BadRow T.x_BadRow (jA jJ jC))) jW)),?_⟩
 refine ⟨_,rfl,l,rfl,⟨_,SqL.of hl⟩,fun D hD=>?_⟩
 refine yH (K:=K) (a:=l) (xs:=ws.map V.str) (caps:=[]) (fun i ys Hi=>ys=((ws.take i).map (kD lettersS)).map V.bl) hD (SqL.of hl) rfl ?_ ?_
 ·rintro i v ys Hi hv hi hle sm hY rfl
  obtain ⟨w,hw,rfl⟩:=yQ hv
  have hi1:i<100:=by rw [List.length_map] at hi;omega
  refine vW (kG ⟨_,rfl,w,rfl,hsh w (List.mem_of_getElem? hw),fun H1 s1=>?_⟩)
  refine v5 hD sm hY hle (by omega) s1 ?_
  rw [List.take_add_one,hw,List.map_append,List.map_append]
  rfl
 rintro ys Hf sm hY hle rfl
 rw [List.length_map,List.take_length] at hY
 refine ⟨D,_,rfl,SqL.of hY,_,rfl,?_⟩
 rw [show (ws.map (kD lettersS)).all id=ws.all (kD lettersS) by rw [List.all_map];rfl]
 cases h:ws.all (kD lettersS) with
 |true=>exact qK (qv h Hf sm)
 |false=>exact kG ⟨by show 1≤sizeLine;decide,qe h Hf sm⟩
theorem mB:FnScope ["text"] ["text"] (jH yM):=⟨rfl,rfl,rfl,by decide +kernel,rfl,by decide +kernel,by decide +kernel⟩
theorem lL {f:Addr} {fd:FuncData} (F:Fun K "rows_of" "rows_of" yM f fd) (T:Txt K mg j6 j5 j8 j7 eC eB eN eU eT tW) : FnOk P w K mg base kS 1 f fd ["text"] (eR):=by
 refine F.ok mB (fun vs H Q E h=>?_) (fun cdv A outer s H vs Q E hr h=>?_)
 ·obtain ⟨z,rfl,hz,hn,q⟩:=h
  rfl
 obtain ⟨z,rfl,hz,hn,q⟩:=h
 have hu:_<cLine:=hr.units0
 have hu1:=kJ hr
 refine ⟨_,(jI (jO (yR ["row"] (qN 1 []) rfl (vL (jH yM) rfl rfl (by decide +kernel) (by decide +kernel) (by decide +kernel)) (vD 1 [] rfl rfl (by decide +kernel)) (yI (qT PySem.F.plainAttrs_str PySem.F.slot_str_split PySem.F.type_str_split fE (pv 0) (jA jJ jC))) (fun _ _ _ _ _=>(kZ (i:=0) (show List.Nodup (["row"]:List Str) from by decide +kernel) rfl (by first|exact Or.inl rfl|exact Or.inr rfl))) (fun _ _ _ _ _=>(rE (jZ J3 (pv 0) jJ (jX _)))) (fun _ _ _ _ _=>(pv 0))))),?_⟩
 refine ⟨_,rfl,rfl,z,feedS,rfl,rfl,rfl,hz,fun sl hsl0=>?_⟩
 have s0:=jG hsl0 (.lst ((Txt.split z feedS).map V.str))
 have hsl:upd H sl (.lst ((Txt.split z feedS).map V.str)) sl=some (.lst ((Txt.split z feedS).map V.str)):=jE
 generalize upd H sl (.lst ((Txt.split z feedS).map V.str))=H1 at s0 hsl ⊢
 refine ⟨sl,rfl,⟨_,SqL.of hsl⟩,fun l hl=>?_⟩
 refine yH (K:=K) (a:=sl) (xs:=(Txt.split z feedS).map V.str) (caps:=[]) (fun i ys Hi=>ys=(((Txt.split z feedS).take i).filter z8).map V.str) hl (SqL.of hsl) rfl ?_ ?_
 ·rintro i v ys Hi hv hi hle sm hY rfl
  obtain ⟨row,hrow,rfl⟩:=yQ hv
  have hi9:i<999:=by rw [List.length_map] at hi;omega
  refine ⟨_,rfl,rfl,_,rfl,?_⟩
  by_cases e:row=""
  ·refine ZC (congrArg V.str e) (oY sm hY hle (Same.refl _) ?_)
   rw [dG hrow,if_neg (by rw [e];decide),List.append_nil]
  ·refine cH (fun x=>e (V.str.inj x)) ⟨_,rfl,v5 hl sm hY hle (by omega) (Same.refl _) ?_⟩
   rw [dG hrow,if_pos (by unfold z8;rw [decide_eq_false e];rfl),List.map_append]
   rfl
 ·rintro ys Hf sm hY hle rfl
  rw [List.length_map,List.take_length] at hY
  exact q l Hf (s0.trans sm) (s0.free hl) hY
theorem lZ:FnScope ["words","many"] ["words","many"] (jH zQ):=⟨rfl,rfl,rfl,by decide +kernel,rfl,by decide +kernel,by decide +kernel⟩
theorem lK {f:Addr} {fd:FuncData} (F:Fun K "refuse_other_length" "refuse_other_length" zQ f fd) (T:Txt K mg j6 j5 j8 j7 eC eB eN eU eT tW) : FnOk P w K mg base (jN P w) 1 f fd ["words","many"] (bV eB):=by
 refine F.okX lZ (fun vs H Q E h=>?_) (fun cdv A outer s H vs Q E hr h=>?_)
 ·obtain ⟨l,xs,n,rfl,hl,qv,qe⟩:=h
  rfl
 obtain ⟨l,xs,n,rfl,hl,qv,qe⟩:=h
 have hu:_<cLine:=hr.units0
 have hu1:=kJ hr
 refine ⟨_,(jI (jT (jZ J3 (kK vR (by rfl) T.z_len PySem.boot_len (jA (pv 0) jC)) (pv 1) (jX _)) (jI (zX zT rfl rfl T.c_BadRow T.x_BadRow (jA jJ jC))) jW)),?_⟩
 refine ⟨_,rfl,l,_,rfl,.inl (SqL.of hl),_,rfl,rfl,_,rfl,?_⟩
 by_cases h:xs.length=n
 ·exact ZC (by rw [h]) (qv h)
 ·exact cH (fun z=>h (by have:=V.int.inj z;omega)) ⟨by show 1≤sizeLine;decide,qe h⟩
theorem lX:FnScope ["parts"] ["parts"] (jH zP):=⟨rfl,rfl,rfl,by decide +kernel,rfl,by decide +kernel,by decide +kernel⟩
theorem lI {f:Addr} {fd:FuncData} (F:Fun K "paired" "paired" zP f fd) (T:Txt K mg j6 j5 j8 j7 eC eB eN eU eT tW) : FnOk P w K mg base (jN P w) 1 f fd ["parts"] (bD eB):=by
 refine F.okX lX (fun vs H Q E h=>?_) (fun cdv A outer s H vs Q E hr h=>?_)
 ·obtain ⟨l,xs,rfl,hl,hn,qv,qe⟩:=h
  rfl
 obtain ⟨l,xs,rfl,hl,hn,qv,qe⟩:=h
 have hu:_<cLine:=hr.units0
 have hu1:=kJ hr
 refine ⟨_,(jL (jT (PW.pt (yY (jZ J3 (jF kA (kK vR (by rfl) T.z_len PySem.boot_len (jA (pv 0) jC)) jB) jB (jX _)) (zZ (yU (pE ZB ZB jB (jF q9 (kK vR (by rfl) T.z_len PySem.boot_len (jA (pv 0) jC)) jB) (vV (v:=.int 8) rfl T.g_MOST_PAIRS ⟨_,rfl⟩)))))) (jI (zX zT rfl rfl T.c_BadRow T.x_BadRow (jA jJ jC))) jW)
   (jI (jO (nX rfl (by rfl) T.z_tuple (by rfl) T.z_zip (jA (d6 (pv 0) qA qA (kM jB)) (jA (d6 (pv 0) (kM jB) qA (kM jB)) jC)))))),?_⟩
 refine ⟨_,rfl,l,_,rfl,.inl (SqL.of hl),_,_,rfl,rfl,(by show (0:Int)<2;decide),rfl,_,rfl,?_⟩
 have s0:=Same.refl H
 by_cases h2:xs.length%2=0
 case neg=>exact cH (fun z=>h2 (by have:=V.int.inj z;omega)) (kG ⟨by show 1≤sizeLine;decide,qe (by unfold kQ;rw [decide_eq_false h2];rfl) H s0⟩)
 refine ZC (by show V.int _=V.int _;congr 1;omega) ⟨_,rfl,l,_,rfl,.inl (SqL.of hl),_,_,rfl,rfl,⟨by decide,by decide⟩,_,_,rfl,rfl,_,rfl,?_⟩
 by_cases h1:1≤xs.length / 2
 case neg=>exact vI (by omega) ⟨_,rfl,kG ⟨by show 1≤sizeLine;decide,qe (by unfold kQ;rw [decide_eq_false h1,Bool.and_false];rfl) H s0⟩⟩
 refine vH (by omega) ⟨_,_,rfl,rfl,_,rfl,?_⟩
 by_cases h8:xs.length / 2≤8
 case neg=>exact iF (by rw [decide_eq_false (by omega)];rfl) ⟨by show 1≤sizeLine;decide,qe (by unfold kQ;rw [decide_eq_false h8,Bool.and_false]) H s0⟩
 have hP:kQ xs.length=true:=by unfold kQ;rw [decide_eq_true h2,decide_eq_true h1,decide_eq_true h8];rfl
 obtain ⟨m,hm,m1,m8⟩:=zY hP
 refine iG (by rw [decide_eq_true (by omega)];rfl) ⟨_,rfl,_,rfl,l,_,rfl,SqL.of hl,(fun z=>nomatch z),fun p1 hp1=>?_⟩
 have s1:=jG hp1 (.lst (yZ xs none none (some 2)))
 refine ⟨_,rfl,_,rfl,_,rfl,l,_,rfl,SqL.of (s1 _ _ hl),(fun z=>nomatch z),fun p2 hp2=>?_⟩
 have s2:=jG hp2 (.lst (yZ xs (some 1) none (some 2)))
 have e1:=eY xs m 0 (by decide) hm m1 none (.inl ⟨rfl,rfl⟩)
 have e2:=eY xs m 1 (Nat.le_refl _) hm m1 (some 1) (.inr rfl)
 obtain ⟨g1,g2⟩:=eZ xs m 0 hm (by decide)
 obtain ⟨g3,g4⟩:=eZ xs m 1 hm (Nat.le_refl _)
 refine ⟨p1,p2,_,_,rfl,SqL.of (s2 _ _ jE),SqL.of jE,fun t ts H' s' ht0 ht hlen hts=>?_⟩
 rw [e1,e2,g1,g3,Nat.min_self] at hlen
 refine qv hP t ts H' ((s1.trans s2).trans s') ((s1.trans s2).free ht0) ht (by omega) fun i v hv=>?_
 have hi:i<m:=by have:=(List.getElem?_eq_some_iff.mp hv).1;omega
 obtain ⟨T,x,y,h3,h4,h5,h6⟩:=hts i v hv
 rw [e1,g2 i hi,Nat.zero_add] at h5
 rw [e2,g4 i hi,Nat.add_comm] at h6
 exact ⟨T,x,y,h3,h4,h5,h6⟩
theorem cX:FnScope ["words","steps"] ["words"] (jH v6):=⟨rfl,rfl,rfl,by decide +kernel,rfl,by decide +kernel,by decide +kernel⟩
theorem i9 {f:Addr} {fd:FuncData} (F:Fun K "come_read" "come_read" v6 f fd) (T:Txt K mg j6 j5 j8 j7 eC eB eN eU eT tW) (DX_paired:DefX P w K mg base 1 "paired" ["parts"] [] (bD eB)) (DX_refuse_no_names:DefX P w K mg base 3 "refuse_no_names" ["words"] [] (QS eB)):FnOk P w K mg base (jN P w) 4 f fd ["words"] (zW eB y8):=by
 refine F.okX cX (fun vs H Q E h=>?_) (fun cdv A outer s H vs Q E hr h=>?_)
 ·obtain ⟨l,ws,rfl,hl,hsh,qv,qe⟩:=h
  rfl
 obtain ⟨l,ws,rfl,hl,hsh,qv,qe⟩:=h
 have hu:_<cLine:=hr.units0
 have hu1:=kJ hr
 refine ⟨_,(jL (j0 (i:=1) cX.nd rfl (by first|exact Or.inl rfl|exact Or.inr rfl) (qB DX_paired q8 hr rfl (jA (qF qG (pv 0) (kM jB) qA) jC)))
   (jL (qQ (qB DX_refuse_no_names q8 hr rfl (jA (jF vP (qF qG (pv 0) (kM jB) (kM jB)) (yR ["name","way"] (qN 2 []) rfl (vL (jH v6) rfl rfl (by decide +kernel) (by decide +kernel) (by decide +kernel)) (vD 2 [] rfl rfl (by decide +kernel)) (Q4 (pv 1)) (fun _ _ _ _ _=>(gC (n:=2) K rfl (QV (kZ (i:=0) (show List.Nodup (["name","way"]:List Str) from by decide +kernel) rfl (by first|exact Or.inl rfl|exact Or.inr rfl)) (QV (kZ (i:=1) (show List.Nodup (["name","way"]:List Str) from by decide +kernel) rfl (by first|exact Or.inl rfl|exact Or.inr rfl)) gB)))) (fun _ _ _ _ _=>vS) (fun _ _ _ _ _=>(pv 0)))) jC)))
   (jL (jT (yU (vF (kK (bB rfl) (by rfl) T.z_all PyProof.Rows.boot_all (jA (yR ["name","way"] (qN 2 []) rfl (vL (jH v6) rfl rfl (by decide +kernel) (by decide +kernel) (by decide +kernel)) (vD 2 [] rfl rfl (by decide +kernel)) (Q4 (pv 1)) (fun _ _ _ _ _=>(gC (n:=2) K rfl (QV (kZ (i:=0) (show List.Nodup (["name","way"]:List Str) from by decide +kernel) rfl (by first|exact Or.inl rfl|exact Or.inr rfl)) (QV (kZ (i:=1) (show List.Nodup (["name","way"]:List Str) from by decide +kernel) rfl (by first|exact Or.inl rfl|exact Or.inr rfl)) gB)))) (fun _ _ _ _ _=>vS) (fun _ _ _ _ _=>(Q0 (nF K) (pv 1) (vV (v:=.ref tW) rfl T.g_WAYS rfl) (by with_unfolding_all rfl)))) jC)))) (jI (zX zT rfl rfl T.c_BadRow T.x_BadRow (jA jJ jC))) jW)
   (jI (jO (vO (jA jJ (jA (jV j4 (pv 0) jB (fun _ _=>rfl)) (jA (jV j4 (pv 0) jB (fun _ _=>rfl)) (jA (pv 1) jC)))))))))),?_⟩
 unfold y8 at qv qe
 have s0:=Same.refl H
 have h100:=hsh.2.1
 refine ⟨_,rfl,_,rfl,l,_,rfl,SqL.of hl,fun p hp=>?_⟩
 rw [show (some (3:Int))=some ((3:Nat):Int) from rfl,zU]
 have s1:=jG hp (.lst ((ws.drop 3).map V.str))
 refine ⟨p,_,rfl,jE,by rw [List.length_map,List.length_drop];omega,fun hP t ts H2 s2 ht0 ht hlen hts=>?_,fun hP H2 s2=>qe (if_pos (by rw [List.length_map] at hP;exact hP)) H2 (s1.trans s2)⟩
 rw [List.length_map] at hP hlen
 rw [if_neg (fun x=>by rw [hP] at x;cases x)] at qv qe
 obtain ⟨m,hm,m1,m8⟩:=zY hP
 have hm3:=hm
 rw [List.length_drop] at hm3
 have s12:=s1.trans s2
 have hl2:=s12 _ _ hl
 have hpl:=fZ (ws.drop 3)
 have pat:∀(i:Nat) (v:V),ts[i]?=some v→∃(T:Addr) (q:Str×Str),v=.ref T∧H2 T=some (.tup [.str q.1,.str q.2])∧(kN (ws.drop 3))[i]?=some q:=fun i v hv=>by
  obtain ⟨T,x,y,h3,h4,h5,h6⟩:=hts i v hv
  have hi:i<(ws.drop 3).length / 2:=by have:=(List.getElem?_eq_some_iff.mp hv).1;omega
  rw [eP h5,eP h6] at h4
  exact ⟨T,_,h3,h4,bW hi⟩
 have hmem:∀w∈(kN (ws.drop 3)).map (·.1),w∈ws.drop 1:=fun w hw=>by
  obtain ⟨q,hq,rfl⟩:=List.mem_map.mp hw
  exact sW (rF hq).1
 generalize kN (ws.drop 3)=ps at qv qe pat hpl hmem
 refine ⟨_,rfl,_,rfl,_,rfl,l,_,rfl,SqL.of hl2,fun p2 hp2=>?_⟩
 rw [tD (by omega)]
 have s3:=jG hp2 (.lst (((ws.drop 1).take 2).map V.str))
 have hp2b:upd H2 p2 (.lst (((ws.drop 1).take 2).map V.str)) p2=some (.lst (((ws.drop 1).take 2).map V.str)):=jE
 generalize upd H2 p2 (.lst (((ws.drop 1).take 2).map V.str))=H3 at s3 hp2b ⊢
 refine ⟨_,rfl,t,rfl,⟨_,SqT.of (s3 _ _ ht)⟩,fun D hD=>?_⟩
 refine dQ (K:=K) (a:=t) (xs:=ts) (fun i σ Hi=>∃c1 c2:Option V,σ=[c1,c2]∧Hi D=some (.lst (((ps.take i).map (·.1)).map V.str))∧Same H3 Hi) ⟨none,none,rfl,jE,jG hD _⟩ (fun i σ Hi _ ⟨_,_,_,_,s⟩=>SqT.of (s _ _ (s3 _ _ ht))) ?_ ?_
 ·rintro i v σ Hi hv ⟨c1,c2,rfl,hY,sm⟩
  obtain ⟨T,q,rfl,hT,hq⟩:=pat i v hv
  have hi:i<m:=by have:=(List.getElem?_eq_some_iff.mp hv).1;omega
  refine ⟨T,_,rfl,SqT.of (sm _ _ (s3 _ _ hT)),rfl,_,_,rfl,_,_,rfl,rfl,vW (kG ⟨_,rfl,_,hY,vM (by rw [List.length_map,List.length_map,List.length_take];omega),some (.str q.1),some (.str q.2),rfl,?_,qX hD sm⟩)⟩
  rw [jE,List.take_add_one,hq,List.map_append,List.map_append]
  rfl
 rintro σ H4 ⟨c1,c2,rfl,hD4,s4⟩
 have hps:ps.length=ts.length:=by omega
 rw [← hps,List.take_length] at hD4
 have nsh:((ws.drop 1).take 2).length=2:=by rw [List.length_take,List.length_drop];omega
 refine ⟨p2,D,_,_,rfl,rfl,s4 _ _ hp2b,hD4,qJ (by rw [List.length_map,List.length_map,List.length_map];omega),fun p3 hp3=>?_⟩
 have s5:=jG hp3 (.lst (((ws.drop 1).take 2).map V.str++(ps.map (·.1)).map V.str))
 have s35:=(s3.trans s4).trans s5
 refine ⟨p3,(ws.drop 1).take 2++ps.map (·.1),rfl,by rw [jE,List.map_append],hsh.sub (by rw [List.length_append,List.length_map];omega) (fun w hw=>?_),fun hg H6 s6=>?_,fun hg H6 s6=>qe (if_pos hg) H6 (s12.trans (s35.trans s6))⟩
 ·rcases List.mem_append.mp hw with hw|hw
  ·exact List.mem_of_mem_take hw
  ·exact hmem w hw
 rw [if_neg (fun x=>by rw [show ((ws.drop 1).take 2++ps.map (·.1)).all vB=true from hg] at x;cases x)] at qv qe
 have s36:=s35.trans s6
 refine ⟨_,rfl,t,rfl,⟨_,SqT.of (s36 _ _ ht)⟩,fun D2 hD2=>?_⟩
 refine dQ (K:=K) (a:=t) (xs:=ts) (fun i σ Hi=>∃c1 c2:Option V,σ=[c1,c2]∧Hi D2=some (.lst (((ps.take i).map fun q=>qV q.2).map V.bl))∧Same H6 Hi) ⟨none,none,rfl,jE,jG hD2 _⟩ (fun i σ Hi _ ⟨_,_,_,_,s⟩=>SqT.of (s _ _ (s36 _ _ ht))) ?_ ?_
 ·rintro i v σ Hi hv ⟨c1,c2,rfl,hY,sm⟩
  obtain ⟨T1,q,rfl,hT,hq⟩:=pat i v hv
  have hi:i<m:=by have:=(List.getElem?_eq_some_iff.mp hv).1;omega
  refine ⟨T1,_,rfl,SqT.of (sm _ _ (s36 _ _ hT)),rfl,_,_,rfl,_,_,rfl,rfl,vW (kG ⟨_,rfl,tW,_,rfl,.inr (T.ways Hi),rfl,rfl,?_⟩)⟩
  show ∃zs,Hi D2=some (.lst zs)∧zs.length<sizeLine∧_
  refine ⟨_,hY,vM (by rw [List.length_map,List.length_map,List.length_take];omega),some (.str q.1),some (.str q.2),rfl,?_,qX hD2 sm⟩
  rw [jE,List.take_add_one,hq,List.map_append,List.map_append]
  show some (HO.lst (_++[V.bl (ZL (.str q.2) [V.str "up",V.str "down"])]))=_
  rw [pO]
  rfl
 rintro σ H7 ⟨c1,c2,rfl,hD7,s7⟩
 rw [← hps,List.take_length] at hD7
 refine ⟨D2,_,rfl,SqL.of hD7,_,rfl,?_⟩
 have s27:=s36.trans s7
 have eall:(ps.map fun q=>qV q.2).all id=(ps.map (·.2)).all qV:=by rw [List.all_map,List.all_map];rfl
 rw [eall]
 cases hw:(ps.map (·.2)).all qV with
 |false=>exact iF rfl ⟨by show 1≤sizeLine;decide,qe (by rw [hw];rfl) H7 (s12.trans s27)⟩
 |true =>
  rw [hw] at qv
  refine iG rfl ⟨_,rfl,l,_,_,_,rfl,rfl,SqL.of (s27 _ _ hl2),JE (k:=1) (by omega),_,rfl,l,_,_,_,rfl,rfl,SqL.of (s27 _ _ hl2),JE (k:=2) (by omega),_,rfl,zz4,fun e he0=>?_⟩
  have s8:=jG he0 (.tup [V.str "come",.str (ws.getD 1 ""),.str (ws.getD 2 ""),.ref t])
  have s28:=s27.trans s8
  refine qv _ rfl _ _ (s12.trans s28) ⟨e,_,rfl,jE,iU (congrArg V.str come_eq) ?_ ?_ ⟨t,ts,rfl,s28 _ _ ht,?_⟩⟩
  ·show V.str (ws.getD 1 "")=V.str (strL (cp (ws.getD 1 "")));rw [v8]
  ·show V.str (ws.getD 2 "")=V.str (strL (cp (ws.getD 2 "")));rw [v8]
  ·refine ⟨by rw [List.length_map,List.length_map];exact hps.symm,fun i v hv=>?_⟩
   obtain ⟨T1,q,h1,hT,hq⟩:=pat i v hv
   refine ⟨(Pt.s (cp q.1),Pt.s (cp q.2)),by rw [List.getElem?_map,List.getElem?_map,hq];rfl,T1,h1,?_⟩
   show _=some (HO.tup [V.str (strL (cp q.1)),V.str (strL (cp q.2))])
   rw [v8,v8]
   exact s28 _ _ hT
theorem lT:FnScope ["words"] ["words"] (jH zN):=⟨rfl,rfl,rfl,by decide +kernel,rfl,by decide +kernel,by decide +kernel⟩
theorem lF {f:Addr} {fd:FuncData} (F:Fun K "named_read" "named_read" zN f fd) (T:Txt K mg j6 j5 j8 j7 eC eB eN eU eT tW) (DX_refuse_other_length:DefX P w K mg base 1 "refuse_other_length" ["words","many"] [] (bV eB)) (DX_refuse_no_names:DefX P w K mg base 3 "refuse_no_names" ["words"] [] (QS eB)):FnOk P w K mg base (jN P w) 4 f fd ["words"] (zW eB yV):=by
 refine F.okX lT (fun vs H Q E h=>?_) (fun cdv A outer s H vs Q E hr h=>?_)
 ·obtain ⟨l,ws,rfl,hl,hsh,qv,qe⟩:=h
  rfl
 obtain ⟨l,ws,rfl,hl,hsh,qv,qe⟩:=h
 have hu:_<cLine:=hr.units0
 have hu1:=kJ hr
 refine ⟨_,(jL (qQ (qB DX_refuse_other_length q8 hr rfl (jA (pv 0) (jA jB jC))))
   (jL (qQ (qB DX_refuse_no_names q8 hr rfl (jA (qF qG (pv 0) (kM jB) qA) jC)))
   (jI (jO (vO (jA (jV j4 (pv 0) jB (fun _ _=>rfl)) (jA (jV j4 (pv 0) jB (fun _ _=>rfl)) jC))))))),?_⟩
 unfold yV at qv qe
 have s0:=Same.refl H
 refine ⟨_,rfl,l,_,2,rfl,hl,fun h2=>?_,fun h2=>qe (by rw [if_pos (by rw [List.length_map] at h2;exact h2)]) H s0⟩
 rw [List.length_map] at h2
 rw [if_neg (fun x=>x h2)] at qv qe
 refine ⟨_,rfl,_,rfl,l,_,rfl,SqL.of hl,fun p hp=>?_⟩
 rw [show (some (1:Int))=some ((1:Nat):Int) from rfl,zU]
 have s1:=jG hp (.lst ((ws.drop 1).map V.str))
 refine ⟨p,ws.drop 1,rfl,jE,hsh.sub (by rw [List.length_drop];omega) (fun w hw=>hw),fun hg H2 s2=>?_,fun hg H2 s2=>qe (if_pos hg) H2 (s1.trans s2)⟩
 rw [if_neg (fun x=>by rw [show (ws.drop 1).all vB=true from hg] at x;cases x)] at qv
 have s12:=s1.trans s2
 refine ⟨_,rfl,l,_,_,_,rfl,rfl,SqL.of (s12 _ _ hl),qW (by omega),_,rfl,l,_,_,_,rfl,rfl,SqL.of (s12 _ _ hl),JE (k:=1) (by omega),zz2,fun t ht0=>?_⟩
 have s3:=jG ht0 (.tup [V.str (ws.getD 0 ""),.str (ws.getD 1 "")])
 refine qv _ rfl _ _ (s12.trans s3) ⟨t,_,rfl,jE,ZI ?_ ?_⟩
 ·show V.str (ws.getD 0 "")=V.str (strL (cp (ws.getD 0 "")));rw [v8]
 ·show V.str (ws.getD 1 "")=V.str (strL (cp (ws.getD 1 "")));rw [v8]
theorem lP:FnScope ["words"] ["words"] (jH zJ):=⟨rfl,rfl,rfl,by decide +kernel,rfl,by decide +kernel,by decide +kernel⟩
theorem i8 {f:Addr} {fd:FuncData} (F:Fun K "amount_read" "amount_read" zJ f fd) (T:Txt K mg j6 j5 j8 j7 eC eB eN eU eT tW) (DX_refuse_other_length:DefX P w K mg base 1 "refuse_other_length" ["words","many"] [] (bV eB)) (DX_refuse_no_names:DefX P w K mg base 3 "refuse_no_names" ["words"] [] (QS eB)) (DX_number_of:DefX P w K mg base 3 "number_of" ["word"] [] (bU eB)):FnOk P w K mg base (jN P w) 4 f fd ["words"] (zW eB yT):=by
 refine F.okX lP (fun vs H Q E h=>?_) (fun cdv A outer s H vs Q E hr h=>?_)
 ·obtain ⟨l,ws,rfl,hl,hsh,qv,qe⟩:=h
  rfl
 obtain ⟨l,ws,rfl,hl,hsh,qv,qe⟩:=h
 have hu:_<cLine:=hr.units0
 have hu1:=kJ hr
 refine ⟨_,(jL (qQ (qB DX_refuse_other_length q8 hr rfl (jA (pv 0) (jA jB jC))))
   (jL (qQ (qB DX_refuse_no_names q8 hr rfl (jA (qF qG (pv 0) (kM jB) (kM jB)) jC)))
   (jI (jO (vO (jA (jV j4 (pv 0) jB (fun _ _=>rfl)) (jA (jV j4 (pv 0) jB (fun _ _=>rfl)) (jA (qB DX_number_of q8 hr rfl (jA (jV j4 (pv 0) jB (fun _ _=>rfl)) jC)) jC)))))))),?_⟩
 unfold yT at qv qe
 have s0:=Same.refl H
 refine ⟨_,rfl,l,_,3,rfl,hl,fun h2=>?_,fun h2=>qe (by rw [if_pos (by rw [List.length_map] at h2;exact h2)]) H s0⟩
 rw [List.length_map] at h2
 rw [if_neg (fun x=>x h2)] at qv qe
 refine ⟨_,rfl,_,rfl,_,rfl,l,_,rfl,SqL.of hl,fun p hp=>?_⟩
 rw [tE (by omega)]
 have s1:=jG hp (.lst (((ws.drop 1).take 1).map V.str))
 refine ⟨p,(ws.drop 1).take 1,rfl,jE,hsh.sub (by rw [List.length_take,List.length_drop];omega) (fun w hw=>List.mem_of_mem_take hw),fun hg H2 s2=>?_,fun hg H2 s2=>qe (if_pos hg) H2 (s1.trans s2)⟩
 rw [if_neg (fun x=>by rw [show ((ws.drop 1).take 1).all vB=true from hg] at x;cases x)] at qv qe
 have s12:=s1.trans s2
 have hm2:ws.getD 2 ""∈ws.drop 1:=by
  rw [List.getD_eq_getElem?_getD,List.getElem?_eq_getElem (by omega)]
  exact List.mem_of_getElem? (i:=1) (by rw [List.getElem?_drop,List.getElem?_eq_getElem (by omega)];rfl)
 refine ⟨_,rfl,l,_,_,_,rfl,rfl,SqL.of (s12 _ _ hl),qW (by omega),_,rfl,l,_,_,_,rfl,rfl,SqL.of (s12 _ _ hl),JE (k:=1) (by omega),_,rfl,l,_,_,_,rfl,rfl,SqL.of (s12 _ _ hl),JE (k:=2) (by omega),_,rfl,hsh.2.2 _ hm2,fun hn H3 s3=>⟨zz3,fun t ht0=>?_⟩,fun hn H3 s3=>qe (if_pos hn) H3 (s12.trans s3)⟩
 rw [if_neg (fun x=>by rw [hn] at x;cases x)] at qv
 have s4:=jG ht0 (.tup [V.str (ws.getD 0 ""),.str (ws.getD 1 ""),.int (kC (ws.getD 2 ""))])
 refine qv _ rfl _ _ ((s12.trans s3).trans s4) ⟨t,_,rfl,jE,iV ?_ ?_ ?_⟩
 ·show V.str (ws.getD 0 "")=V.str (strL (cp (ws.getD 0 "")));rw [v8]
 ·show V.str (ws.getD 1 "")=V.str (strL (cp (ws.getD 1 "")));rw [v8]
 ·show V.int (kC (ws.getD 2 ""))=V.int ((kC (ws.getD 2 "")).toNat:Int);rw [bL]
theorem cY:FnScope ["row","words"] ["row"] (jH zK):=⟨rfl,rfl,rfl,by decide +kernel,rfl,by decide +kernel,by decide +kernel⟩
theorem lB {f:Addr} {fd:FuncData} (F:Fun K "entry_of" "entry_of" zK f fd) (T:Txt K mg j6 j5 j8 j7 eC eB eN eU eT tW) (DX_come_read:DefX P w K mg base 4 "come_read" ["words"] [] (zW eB y8)) (DX_paired:DefX P w K mg base 1 "paired" ["parts"] [] (bD eB)) (DX_numbers_of:DefX P w K mg base 4 "numbers_of" ["words"] [] (fT eB)) (DX_named_read:DefX P w K mg base 4 "named_read" ["words"] [] (zW eB yV)) (DX_amount_read:DefX P w K mg base 4 "amount_read" ["words"] [] (zW eB yT)):FnOk P w K mg base (jN P w) 5 f fd ["row"] (QT eB):=by
 refine F.okX cY (fun vs H Q E h=>?_) (fun cdv A outer s H vs Q E hr h=>?_)
 ·obtain ⟨row,rfl,⟨hz,hsh⟩,qv,qe⟩:=h
  rfl
 obtain ⟨row,rfl,⟨hz,hsh⟩,qv,qe⟩:=h
 have hu:_<cLine:=hr.units0
 have hu1:=kJ hr
 refine ⟨_,(jL (j0 (i:=1) cY.nd rfl (by first|exact Or.inl rfl|exact Or.inr rfl) (qT PySem.F.plainAttrs_str PySem.F.slot_str_split PySem.F.type_str_split fE (pv 0) (jA jJ jC)))
   (jL (jT (jZ kR (jV j4 (pv 1) jB (fun _ _=>rfl)) jJ (jX _)) (jI (jO (qB DX_come_read q8 hr rfl (jA (pv 1) jC)))) jW)
   (jL (jT (jZ kR (jV j4 (pv 1) jB (fun _ _=>rfl)) jJ (jX _)) (jI (jO (vO (jA jJ (jA (qB DX_paired q8 hr rfl (jA (qB DX_numbers_of q8 hr rfl (jA (qF qG (pv 1) (kM jB) qA) jC)) jC)) jC))))) jW)
   (jL (jT (PW.pt (yY (jZ kR (jV j4 (pv 1) jB (fun _ _=>rfl)) jJ (jX _)) (zZ (jZ kR (jV j4 (pv 1) jB (fun _ _=>rfl)) jJ (jX _))))) (jI (jO (qB DX_named_read q8 hr rfl (jA (pv 1) jC)))) jW)
   (jL (jT (PW.pt (yY (jZ kR (jV j4 (pv 1) jB (fun _ _=>rfl)) jJ (jX _)) (zZ (jZ kR (jV j4 (pv 1) jB (fun _ _=>rfl)) jJ (jX _))))) (jI (jO (qB DX_amount_read q8 hr rfl (jA (pv 1) jC)))) jW)
   (jI (zX zT rfl rfl T.c_BadRow T.x_BadRow (jA jJ jC)))))))),?_⟩
 unfold kE at qv qe
 refine ⟨_,rfl,rfl,row,kB,rfl,rfl,rfl,hz,fun l hl0=>?_⟩
 have s0:=jG hl0 (.lst ((Txt.split row kB).map V.str))
 have hl:upd H l (.lst ((Txt.split row kB).map V.str)) l=some (.lst ((Txt.split row kB).map V.str)):=jE
 generalize upd H l (.lst ((Txt.split row kB).map V.str))=H1 at s0 hl ⊢
 generalize Txt.split row kB=ws at hl hsh qv qe
 have h1:=hsh.1
 have h100:=hsh.2.1
 unfold kP at qv qe
 have w0:∀(z:Str) (A B:Prop),(ws.getD 0 ""=z→A)→(¬ws.getD 0 ""=z→B)→(if decide (V.str (ws.getD 0 "")=V.str z)=true then A else B):=fun z A B ha hb=>by
  by_cases h:ws.getD 0 ""=z
  ·exact vH (congrArg V.str h) (ha h)
  ·exact vI (fun x=>h (V.str.inj x)) (hb h)
 refine ⟨_,rfl,l,_,_,_,rfl,rfl,SqL.of hl,qW h1,rfl,_,rfl,w0 _ _ _ (fun hc=>?_) (fun hc=>?_)⟩
 ·rw [if_pos hc] at qv qe
  exact ⟨_,rfl,l,ws,rfl,hl,hsh,fun e he v H' s' hv=>qv e he v H' (s0.trans s') hv,fun he H' s'=>qe he H' (s0.trans s')⟩
 rw [if_neg hc] at qv qe
 refine ⟨_,rfl,l,_,_,_,rfl,rfl,SqL.of hl,qW h1,rfl,_,rfl,w0 _ _ _ (fun hn=>?_) (fun hn=>?_)⟩
 ·rw [if_pos hn] at qv qe
  unfold JY at qv qe
  refine ⟨_,rfl,_,rfl,l,_,rfl,SqL.of hl,fun p hp=>?_⟩
  rw [show (some (1:Int))=some ((1:Nat):Int) from rfl,zU]
  have s1:=jG hp (.lst ((ws.drop 1).map V.str))
  refine ⟨p,ws.drop 1,rfl,jE,hsh.sub (by rw [List.length_drop];omega) (fun w hw=>hw),fun hg p2 H2 s2 hp20 hp2=>?_,fun hg H2 s2=>qe (if_pos hg) H2 (s0.trans (s1.trans s2))⟩
  rw [if_neg (fun x=>by rw [hg] at x;cases x)] at qv qe
  have s12:=s1.trans s2
  refine ⟨p2,_,rfl,hp2,by rw [List.length_map,List.length_map,List.length_drop];omega,fun hP t ts H3 s3 ht0 ht hlen hts=>?_,fun hP H3 s3=>qe (if_pos (by rw [List.length_map,List.length_map] at hP;exact hP)) H3 (s0.trans (s12.trans s3))⟩
  rw [List.length_map,List.length_map] at hP hlen
  rw [if_neg (fun x=>by rw [hP] at x;cases x)] at qv
  refine ⟨zz2,fun e he0=>?_⟩
  have s4:=jG he0 (.tup [V.str "night",.ref t])
  refine qv _ rfl _ _ (s0.trans ((s12.trans s3).trans s4)) ⟨e,_,rfl,jE,ZI (congrArg V.str night_eq) ⟨t,ts,rfl,s4 _ _ ht,?_⟩⟩
  refine ⟨by rw [List.length_map,List.length_map,fZ];exact hlen,fun i v hv=>?_⟩
  obtain ⟨T1,x,y,h3,h4,h5,h6⟩:=hts i v hv
  have hi:i<(ws.drop 1).length / 2:=by have:=(List.getElem?_eq_some_iff.mp hv).1;omega
  refine ⟨_,by rw [List.getElem?_map,List.getElem?_map,bW hi];rfl,T1,h3,?_⟩
  show _=some (HO.tup [V.int ((kC ((ws.drop 1).getD (2*i) "")).toNat:Int),V.int ((kC ((ws.drop 1).getD (2*i+1) "")).toNat:Int)])
  rw [bL,bL,← fH h5,← fH h6]
  exact s4 _ _ h4
 rw [if_neg hn] at qv qe
 have orb:∀(z1 z2:Str) (A B:Prop),((ws.getD 0 ""=z1∨ws.getD 0 ""=z2)→A)→(¬(ws.getD 0 ""=z1∨ws.getD 0 ""=z2)→B)→True:=fun _ _ _ _ _ _=>trivial
 clear orb
 refine ⟨_,rfl,l,_,_,_,rfl,rfl,SqL.of hl,qW h1,rfl,_,rfl,w0 _ _ _ (fun hp=>kG ?_) (fun hp=>⟨_,rfl,l,_,_,_,rfl,rfl,SqL.of hl,qW h1,rfl,_,rfl,w0 _ _ _ (fun hl2=>?_) (fun hl2=>?_)⟩)⟩
 ·rw [if_pos (.inl hp)] at qv qe
  exact ⟨_,rfl,l,ws,rfl,hl,hsh,fun e he v H' s' hv=>qv e he v H' (s0.trans s') hv,fun he H' s'=>qe he H' (s0.trans s')⟩
 ·rw [if_pos (.inr hl2)] at qv qe
  exact ⟨_,rfl,l,ws,rfl,hl,hsh,fun e he v H' s' hv=>qv e he v H' (s0.trans s') hv,fun he H' s'=>qe he H' (s0.trans s')⟩
 rw [if_neg (fun x=>x.elim hp hl2)] at qv qe
 refine ⟨_,rfl,l,_,_,_,rfl,rfl,SqL.of hl,qW h1,rfl,_,rfl,w0 _ _ _ (fun ht=>kG ?_) (fun ht=>⟨_,rfl,l,_,_,_,rfl,rfl,SqL.of hl,qW h1,rfl,_,rfl,w0 _ _ _ (fun hr2=>?_) (fun hr2=>?_)⟩)⟩
 ·rw [if_pos (.inl ht)] at qv qe
  exact ⟨_,rfl,l,ws,rfl,hl,hsh,fun e he v H' s' hv=>qv e he v H' (s0.trans s') hv,fun he H' s'=>qe he H' (s0.trans s')⟩
 ·rw [if_pos (.inr hr2)] at qv qe
  exact ⟨_,rfl,l,ws,rfl,hl,hsh,fun e he v H' s' hv=>qv e he v H' (s0.trans s') hv,fun he H' s'=>qe he H' (s0.trans s')⟩
 rw [if_neg (fun x=>x.elim ht hr2)] at qe
 exact ⟨by show 1≤sizeLine;decide,qe rfl H1 s0⟩
theorem lQ:FnScope ["text"] ["text"] (jH yJ):=⟨rfl,rfl,rfl,by decide +kernel,rfl,by decide +kernel,by decide +kernel⟩
theorem lA {f:Addr} {fd:FuncData} (F:Fun K "entries_of" "entries_of" yJ f fd) (T:Txt K mg j6 j5 j8 j7 eC eB eN eU eT tW) (D_rows_of:Def P w K mg base 1 "rows_of" ["text"] [] (eR)) (DX_entry_of:DefX P w K mg base 5 "entry_of" ["row"] [] (QT eB)):FnOk P w K mg base (jN P w) 6 f fd ["text"] (ZY eB):=by
 refine F.okX lQ (fun vs H Q E h=>?_) (fun cdv A outer s H vs Q E hr h=>?_)
 ·obtain ⟨z,rfl,hz,hrs,hn9,qv,qe⟩:=h
  rfl
 obtain ⟨z,rfl,hz,hrs,hn9,qv,qe⟩:=h
 have hu:_<cLine:=hr.units0
 have hu1:=kJ hr
 refine ⟨_,(jI (jO (fA ["row"] (qN 1 []) (vL (jH yJ) rfl rfl (by decide +kernel) (by decide +kernel) (by decide +kernel)) (vD 1 [] rfl rfl (by decide +kernel)) (yI (kL D_rows_of hr rfl (jA (pv 0) jC))) (fun _ _ _ _ _=>(kZ (i:=0) (show List.Nodup (["row"]:List Str) from by decide +kernel) rfl (by first|exact Or.inl rfl|exact Or.inr rfl))) (fun _ _ _ _ _=>vS) (fun _ _ _ _ _=>(qB DX_entry_of dL hr rfl (jA (pv 0) jC)))))),?_⟩
 refine ⟨_,rfl,z,rfl,hz,hn9,fun rl H1 s1 hrl0 hrl=>?_⟩
 have hrn:(qS z).length≤999:=Nat.le_trans (List.length_filter_le _ _) hn9
 generalize qS z=R at hrl hrn hrs qv qe
 refine ⟨rl,rfl,⟨_,SqL.of hrl⟩,fun D hD=>?_⟩
 refine yH (K:=K) (a:=rl) (xs:=R.map V.str) (caps:=[]) (fun i ys Hi=>∃es:List En,(R.take i).map kE=es.map some∧AllAt (fun v (e:En)=>EnAt Hi v e.ps) ys es) hD (SqL.of hrl) ⟨[],rfl,AllAt.nil⟩ ?_ ?_
 ·rintro i v ys Hi hv hi hle sm hY ⟨es,hes,hA⟩
  obtain ⟨row,hrow,rfl⟩:=yQ hv
  have hi9:i<999:=by rw [List.length_map] at hi;omega
  have hm:=List.mem_of_getElem? hrow
  refine vW (kG ⟨_,rfl,row,rfl,hrs row hm,fun e he v H' s' hv=>v5 hD sm hY hle (by omega) s' ⟨es++[e],?_,?_⟩,fun he H' s'=>qe ⟨row,hm,he⟩ _ ((s1.trans sm).trans s')⟩)
  ·rw [List.take_add_one,hrow,List.map_append,List.map_append,hes]
   show _++[kE row]=_
   rw [he]
   rfl
  ·exact AllAt.snoc (hA.mono fun v x h=>EnAt.put (s' _ _ hY) (EnAt.same s' v _ h)) (EnAt.put (s' _ _ hY) hv)
 rintro ys Hf sm hY hle ⟨es,hes,hA⟩
 rw [List.length_map,List.take_length] at hes
 exact qv es hes D ys Hf (s1.trans sm) (s1.free hD) hY hA
theorem JH:FnScope ["seed","name","k"] ["seed"] (jH zF):=⟨rfl,rfl,rfl,by decide +kernel,rfl,by decide +kernel,by decide +kernel⟩
theorem i4 {f:Addr} {fd:FuncData} (F:Fun K "_law_name" "_law_name" zF f fd) (T:Txt K mg j6 j5 j8 j7 eC eB eN eU eT tW) : FnOk P w K mg base kS 1 f fd ["seed"] (fU):=by
 refine F.ok JH (fun vs H Q E h=>?_) (fun cdv A outer s H vs Q E hr h=>?_)
 ·obtain ⟨c,rfl,q⟩:=h
  rfl
 obtain ⟨c,rfl,q⟩:=h
 have hu:_<cLine:=hr.units0
 have hu1:=kJ hr
 refine ⟨_,(jL (j0 (i:=1) JH.nd rfl (by first|exact Or.inl rfl|exact Or.inr rfl) jJ)
   (jL (JV PassesOwn.never rfl (Z4 (by rfl) T.z_range (jA (jF vQ jB (jF kA (pv 0) jB)) jC)) (kZ (i:=2) JH.nd rfl (by first|exact Or.inl rfl|exact Or.inr rfl))
    (jL (j0 (i:=0) JH.nd rfl (by first|exact Or.inl rfl|exact Or.inr rfl) (jF kA (jF bZ (jF vQ (pv 0) jB) jB) jB))
   (jI (j0 (i:=1) JH.nd rfl (by first|exact Or.inl rfl|exact Or.inr rfl) (jF v7 (pv 1) (jV gX jJ (jF kA (pv 0) jB) (fun _ _=>rfl)))))))
   (jI (jO (pv 1))))),?_⟩
 have m0:=Int.emod_nonneg c (by decide:(12:Int)≠0)
 have m1:=Int.emod_lt_of_pos c (by decide:(0:Int)<12)
 refine ⟨_,rfl,_,_,rfl,rfl,(by show (0:Int)<12;decide),_,_,rfl,rfl,_,rfl,by omega,by omega,Z9 (n:=(1+c%12).toNat) (fun i σ Hi=>∃(s:Int) (l:List Nat) (k:Option V),σ=[some (.int s),some (.str (strL l)),k]∧l.length=i∧(∀c∈l,97≤c∧c≤122)∧H=Hi) ⟨c,[],none,by rw [← pV];rfl,rfl,(fun _ h=>nomatch h),rfl⟩ ?_ ?_⟩
 ·rintro i σ Hi hi ⟨s,l,k,rfl,hl,ha,rfl⟩
  refine ⟨_,rfl,_,_,rfl,rfl,_,_,rfl,rfl,.inr ⟨by decide,by decide⟩,_,_,rfl,rfl,(by show (0:Int)<2147483647;decide),?_⟩
  try dsimp only
  generalize (s+1)*48271%2147483647=s2
  refine ⟨_,rfl,_,rfl,_,_,rfl,rfl,(by show (0:Int)<26;decide),_,_,_,rfl,rfl,mJ,o5 s2,_,_,rfl,rfl,qJ (by rw [QR,show (⟨#[vN (s2%26).toNat]⟩:Str).length=1 from rfl];omega),?_⟩
  refine ⟨s2,l++[vN (s2%26).toNat],some (.int (0+(i:Int))),?_,by rw [List.length_append,hl];rfl,fun c hc=>?_,rfl⟩
  ·rw [pI,pB];rfl
  ·rcases List.mem_append.mp hc with hc|hc
   ·exact ha c hc
   ·rw [List.mem_singleton.mp hc];exact oG s2
 ·rintro σ Hi ⟨s,l,k,rfl,hl,ha,rfl⟩
  exact ⟨_,rfl,q l (by omega) (by omega) ha⟩
theorem vE:FnScope ["cell","seed","amount","steps","k","rest","weather"] ["cell"] (jH zE):=⟨rfl,rfl,rfl,by decide +kernel,rfl,by decide +kernel,by decide +kernel⟩
theorem i3 {f:Addr} {fd:FuncData} (F:Fun K "_law_entry" "_law_entry" zE f fd) (T:Txt K mg j6 j5 j8 j7 eC eB eN eU eT tW) (D__law_name:Def P w K mg base 1 "_law_name" ["seed"] [] (fU)):FnOk P w K mg base kS 2 f fd ["cell"] (eV):=by
 refine F.ok vE (fun vs H Q E h=>?_) (fun cdv A outer s H vs Q E hr h=>?_)
 ·obtain ⟨c,rfl,q⟩:=h
  rfl
 obtain ⟨c,rfl,q⟩:=h
 have hu:_<cLine:=hr.units0
 have hu1:=kJ hr
 refine ⟨_,(jL (j0 (i:=1) vE.nd rfl (by first|exact Or.inl rfl|exact Or.inr rfl) (jF kA (jF q9 (pv 0) jB) jB))
   (jL (j0 (i:=2) vE.nd rfl (by first|exact Or.inl rfl|exact Or.inr rfl) (jF kA (jF q9 (pv 0) jB) jB))
   (QZ (jT (jZ kR (jF kA (pv 1) jB) jB (jX _)) (jI (j0 (i:=2) vE.nd rfl (by first|exact Or.inl rfl|exact Or.inr rfl) jB)) jW)
   (jL (jT (jZ kR (jF kA (pv 0) jB) jB (jX _)) (jL (j0 (i:=3) vE.nd rfl (by first|exact Or.inl rfl|exact Or.inr rfl) (kT jC))
   (jL (JV PassesOwn.never rfl (Z4 (by rfl) T.z_range (jA (jF vQ jB (jF kA (pv 1) jB)) jC)) (kZ (i:=4) vE.nd rfl (by first|exact Or.inl rfl|exact Or.inr rfl))
    (jL (j0 (i:=1) vE.nd rfl (by first|exact Or.inl rfl|exact Or.inr rfl) (jF kA (jF bZ (jF vQ (pv 1) jB) jB) jB))
   (jI (qQ (qT PySem.F.plainAttrs_list PySem.F.slot_list_append PySem.F.type_list_append yP (pv 3) (jA (vO (jA (kL D__law_name hr rfl (jA (pv 1) jC)) (jA (jV j4 (kT (jA jJ (jA jJ jC))) (jF kA (jF q9 (pv 1) jB) jB) (fun _ _=>rfl)) jC))) jC))))))
   (jI (jO (vO (jA jJ (jA (kL D__law_name hr rfl (jA (jF kA (jF q9 (pv 0) jB) jB) jC)) (jA (kL D__law_name hr rfl (jA (jF kA (jF q9 (pv 0) jB) jB) jC)) (jA (zC dC (by rfl) T.z_tuple PyProof.Rows.boot_tuple (jA (pv 3) jC)) jC))))))))) jW)
   (jL (jT (jZ kR (jF kA (pv 0) jB) jB (jX _)) (jL (j0 (i:=5) vE.nd rfl (by first|exact Or.inl rfl|exact Or.inr rfl) (jF kA (jF q9 (pv 0) jB) (jF bY jB jB)))
   (jL (j0 (i:=6) vE.nd rfl (by first|exact Or.inl rfl|exact Or.inr rfl) (kT jC))
   (jL (JV PassesOwn.never rfl (Z4 (by rfl) T.z_range (jA (jF vQ jB (jF kA (pv 1) jB)) jC)) (kZ (i:=4) vE.nd rfl (by first|exact Or.inl rfl|exact Or.inr rfl))
    (jL (qQ (qT PySem.F.plainAttrs_list PySem.F.slot_list_append PySem.F.type_list_append yP (pv 6) (jA (vO (jA (jF kA (pv 5) (jF bY jB jB)) (jA (jF kA (jF q9 (pv 5) jB) (jF bY jB jB)) jC))) jC)))
   (jI (j0 (i:=5) vE.nd rfl (by first|exact Or.inl rfl|exact Or.inr rfl) (jF vQ (jF q9 (pv 5) jB) (jF bZ (jF vQ (pv 4) jB) (pv 2)))))))
   (jI (jO (vO (jA jJ (jA (zC dC (by rfl) T.z_tuple PyProof.Rows.boot_tuple (jA (pv 6) jC)) jC)))))))) jW)
   (jL (jT (jZ iE (jF kA (pv 0) jB) jB (jX _)) (jI (jO (vO (jA (jV j4 (kT (jA jJ (jA jJ (jA jJ jC)))) (jF kA (pv 0) jB) (fun _ _=>rfl)) (jA (kL D__law_name hr rfl (jA (pv 1) jC)) jC))))) jW)
   (jI (jO (vO (jA (jV j4 (kT (jA jJ (jA jJ jC))) (jF z3 (jF kA (pv 0) jB) jB) (fun _ _=>rfl)) (jA (kL D__law_name hr rfl (jA (jF kA (jF q9 (pv 0) jB) jB) jC)) (jA (pv 2) jC)))))))))))),?_⟩
 refine ⟨_,rfl,_,_,rfl,rfl,⟨by decide,by decide⟩,_,_,rfl,rfl,(by show (0:Int)<2147483629;decide),_,rfl,_,_,rfl,rfl,⟨by decide,by decide⟩,_,_,rfl,rfl,(by show (0:Int)<1000000000000;decide),?_⟩
 obtain ⟨am0,ea,la⟩:=qZ (a:=c / 42) (b:=1000000000000) (by decide)
 try dsimp only
 rw [ea]
 obtain ⟨sd,es,ls⟩:=qZ (a:=c / 6) (b:=2147483629) (by decide)
 rw [es]
 refine ⟨fun σ' H'=>∃am:Nat,σ'=[some (.int c),some (.int (sd:Int)),some (.int (am:Int)),none,none,none,none]∧am<1000000000000∧H=H',?_,?_⟩
 ·refine ⟨_,rfl,_,_,rfl,rfl,(by show (0:Int)<7;decide),rfl,_,rfl,ZH (fun _=>⟨999999999999,rfl,by decide,rfl⟩) (fun _=>⟨am0,rfl,by omega,rfl⟩)⟩
 rintro σ' H' ⟨am,rfl,ha12,rfl⟩
 have m0:=Int.emod_nonneg c (by decide:(6:Int)≠0)
 have m1:=Int.emod_lt_of_pos c (by decide:(0:Int)<6)
 have d0:0≤(sd:Int)%8∧(sd:Int)%8<8:=⟨Int.emod_nonneg _ (by decide),Int.emod_lt_of_pos _ (by decide)⟩
 refine ⟨_,rfl,_,_,rfl,rfl,(by show (0:Int)<6;decide),rfl,_,rfl,?_⟩
 by_cases h0:c%6=0
 ·refine vH (congrArg V.int h0) ⟨Nat.zero_le _,fun l hl0=>?_⟩
  have s0:=jG hl0 (.lst [])
  refine ⟨_,rfl,_,_,rfl,rfl,(by show (0:Int)<8;decide),_,_,rfl,rfl,_,rfl,by omega,by omega,Z9 (n:=(1+(sd:Int)%8).toNat) (fun i σ Hi=>∃(s:Int) (k:Option V) (us:List V) (ps:List (List Nat×List Nat)),σ=[some (.int c),some (.int s),some (.int (am:Int)),some (.ref l),k,none,none]∧Hi l=some (.lst us)∧AllAt (PrAt Hi) us (ps.map fun q=>(Pt.s q.1,Pt.s q.2))∧ps.length=i∧(∀q∈ps,yG q.1∧QB q.2)∧Same H Hi) ⟨(sd:Int),none,[],[],rfl,jE,AllAt.nil,rfl,(fun _ h=>nomatch h),s0⟩ ?_ ?_⟩
  ·rintro i σ Hi hi ⟨s,k,us,ps,rfl,hY,hA,hpl,hps,sm⟩
   refine ⟨_,rfl,_,_,rfl,rfl,_,_,rfl,rfl,.inr ⟨by decide,by decide⟩,_,_,rfl,rfl,(by show (0:Int)<2147483647;decide),?_⟩
   try dsimp only
   generalize (s+1)*69621%2147483647=s2
   refine ⟨_,rfl,.inl ⟨rfl,_,SqL.of hY⟩,_,rfl,_,rfl,fun nm n1 n2 n3=>⟨zz2,fun l2 hl2=>?_⟩⟩
   have t2:=jG hl2 (.lst [V.str "up",V.str "down"])
   obtain ⟨wy,hwy,hat⟩:∃wy,QB wy∧kY [V.str "up",V.str "down"] (s2 / 12%2)=some (.str (strL wy)):=by
    obtain ⟨z,ez,lz⟩:=qZ (a:=s2 / 12) (b:=2) (by decide)
    rw [ez]
    rcases z with _|_|z
    ·exact ⟨cQ,.inl rfl,by rw [← g8];exact kF (j:=0) rfl⟩
    ·exact ⟨cI,.inr rfl,by rw [← gI];exact kF (j:=1) rfl⟩
    ·omega
   refine ⟨_,rfl,_,_,rfl,rfl,⟨by decide,by decide⟩,_,_,rfl,rfl,(by show (0:Int)<2;decide),l2,_,_,_,rfl,rfl,SqL.of jE,hat,zz2,fun t ht0=>?_⟩
   have t3:=jG ht0 (.tup [V.str (strL nm),.str (strL wy)])
   have t23:=t2.trans t3
   have hul:us.length≤8:=by have:=hA.1;rw [List.length_map] at this;omega
   refine ⟨l,_,_,rfl,rfl,t23 _ _ hY,vM (by omega),?_⟩
   have smf:=qX hl0 (sm.trans t23) (o:=.lst (us++[V.ref t]))
   have kp:∀(b:Addr) (vs:List V),upd (upd Hi l2 (.lst [V.str "up",V.str "down"])) t (.tup [V.str (strL nm),.str (strL wy)]) b=some (.tup vs)→upd (upd (upd Hi l2 (.lst [V.str "up",V.str "down"])) t (.tup [V.str (strL nm),.str (strL wy)])) l (.lst (us++[V.ref t])) b=some (.tup vs):=fun b vs hb=>by
    rw [jP (J9 hb (t23 _ _ hY) (fun z=>nomatch z))]
    exact hb
   refine ⟨s2,_,us++[.ref t],ps++[(nm,wy)],rfl,jE,?_,by rw [List.length_append,hpl];rfl,fun q hq=>?_,smf⟩
   ·rw [List.map_append]
    refine AllAt.snoc (hA.mono fun v x ⟨t',e1,e2⟩=>⟨t',e1,kp _ _ (t23 _ _ e2)⟩) ⟨t,rfl,kp _ _ jE⟩
   ·rcases List.mem_append.mp hq with hq|hq
    ·exact hps q hq
    ·rw [List.mem_singleton.mp hq];exact ⟨⟨n1,n2,n3⟩,hwy⟩
  ·rintro σ Hi ⟨s,k,us,ps,rfl,hY,hA,hpl,hps,sm⟩
   refine ⟨_,rfl,_,_,rfl,rfl,⟨by decide,by decide⟩,_,_,rfl,rfl,(by show (0:Int)<2147483629;decide),_,rfl,fun nm n1 n2 n3=>⟨_,rfl,_,_,rfl,rfl,⟨by decide,by decide⟩,_,_,rfl,rfl,(by show (0:Int)<1000003;decide),_,rfl,fun st m1 m2 m3=>?_⟩⟩
   refine ⟨_,rfl,l,us,rfl,.inl ⟨SqL.of hY,fun t ht0=>⟨zz4,fun e he0=>?_⟩⟩⟩
   have t1:=jG ht0 (.tup us)
   have t2:=jG he0 (.tup [V.str "come",.str (strL nm),.str (strL st),.ref t])
   have t12:=t1.trans t2
   refine q _ (.come nm st ps) _ (sm.trans t12) ⟨e,_,rfl,jE,?_⟩ ⟨⟨n1,n2,n3⟩,⟨m1,m2,m3⟩,by omega,by omega,hps⟩
   exact iU (congrArg V.str come_eq) rfl rfl ⟨t,us,rfl,t2 _ _ jE,hA.mono fun v x=>PrAt.same t12 v x⟩
 refine vI (fun x=>h0 (V.int.inj x)) ⟨_,rfl,_,_,rfl,rfl,(by show (0:Int)<6;decide),rfl,_,rfl,?_⟩
 by_cases h3:c%6=3
 ·refine vH (congrArg V.int h3) ⟨_,rfl,_,_,rfl,rfl,⟨by decide,by decide⟩,_,_,rfl,rfl,⟨by decide,by decide,by decide⟩,_,_,rfl,rfl,(show (0:Int)<10 ^ Int.toNat 24 from by decide +kernel),?_⟩
  have e12:(10:Int) ^ Int.toNat 12=1000000000000:=by decide +kernel
  obtain ⟨rs,er,lr⟩:=qZ (a:=c / 48) (b:=10 ^ Int.toNat 24) (by decide +kernel)
  try dsimp only
  rw [er]
  refine ⟨Nat.zero_le _,fun l hl0=>?_⟩
  have s0:=jG hl0 (.lst [])
  refine ⟨_,rfl,_,_,rfl,rfl,(by show (0:Int)<8;decide),_,_,rfl,rfl,_,rfl,by omega,by omega,Z9 (n:=(1+(sd:Int)%8).toNat) (fun i σ Hi=>∃(s:Nat) (k:Option V) (us:List V) (ps:List (Nat×Nat)),σ=[some (.int c),some (.int (sd:Int)),some (.int (am:Int)),none,k,some (.int (s:Int)),some (.ref l)]∧Hi l=some (.lst us)∧AllAt (PrAt Hi) us (ps.map fun q=>(Pt.n q.1,Pt.n q.2))∧ps.length=i∧(∀q∈ps,q.1<1000000000000∧q.2<1000000000000)∧Same H Hi) ⟨rs,none,[],[],rfl,jE,AllAt.nil,rfl,(fun _ h=>nomatch h),s0⟩ ?_ ?_⟩
  ·rintro i σ Hi hi ⟨s,k,us,ps,rfl,hY,hA,hpl,hps,sm⟩
   rw [Int.zero_add]
   have hi8:i<8:=by omega
   refine ⟨_,rfl,.inl ⟨rfl,_,SqL.of hY⟩,_,rfl,_,_,rfl,rfl,⟨by decide,by decide,by decide⟩,_,_,rfl,rfl,(show (0:Int)<10 ^ Int.toNat 12 from by decide +kernel),_,rfl,_,_,rfl,rfl,⟨by decide,by decide⟩,_,_,rfl,rfl,⟨by decide,by decide,by decide⟩,_,_,rfl,rfl,(show (0:Int)<10 ^ Int.toNat 12 from by decide +kernel),?_⟩
   obtain ⟨x,ex,lx⟩:=qZ (a:=(s:Int)) (b:=10 ^ Int.toNat 12) (by decide +kernel)
   obtain ⟨y,ey,ly⟩:=qZ (a:=(s:Int) / 1000) (b:=10 ^ Int.toNat 12) (by decide +kernel)
   try dsimp only
   rw [ex,ey]
   rw [e12] at lx ly
   refine ⟨zz2,fun t ht0=>?_⟩
   have t3:=jG ht0 (.tup [V.int (x:Int),.int (y:Int)])
   have hul:us.length≤8:=by have:=hA.1;rw [List.length_map] at this;omega
   refine ⟨l,_,_,rfl,rfl,t3 _ _ hY,vM (by omega),?_⟩
   have smf:=qX hl0 (sm.trans t3) (o:=.lst (us++[V.ref t]))
   have kp:∀(b:Addr) (vs:List V),upd Hi t (.tup [V.int (x:Int),.int (y:Int)]) b=some (.tup vs)→upd (upd Hi t (.tup [V.int (x:Int),.int (y:Int)])) l (.lst (us++[V.ref t])) b=some (.tup vs):=fun b vs hb=>by
    rw [jP (J9 hb (t3 _ _ hY) (fun z=>nomatch z))]
    exact hb
   refine ⟨_,rfl,_,_,rfl,rfl,⟨by decide,by decide⟩,_,rfl,_,_,rfl,rfl,_,rfl,_,_,rfl,rfl,.inl ⟨by omega,by omega⟩,_,_,rfl,rfl,?_⟩
   have hnn:(0:Int)≤(s:Int) / 100000+((i:Int)+1)*(am:Int):=Int.add_nonneg (Int.ediv_nonneg (Int.natCast_nonneg _) (by decide)) (Int.mul_nonneg (by omega) (Int.natCast_nonneg _))
   obtain ⟨r2,hr2⟩:=Int.eq_ofNat_of_zero_le hnn
   try dsimp only
   rw [hr2]
   refine ⟨r2,_,us++[.ref t],ps++[(x,y)],rfl,jE,?_,by rw [List.length_append,hpl];rfl,fun q hq=>?_,smf⟩
   ·rw [List.map_append]
    refine AllAt.snoc (hA.mono fun v x ⟨t',e1,e2⟩=>⟨t',e1,kp _ _ (t3 _ _ e2)⟩) ⟨t,rfl,kp _ _ jE⟩
   ·rcases List.mem_append.mp hq with hq|hq
    ·exact hps q hq
    ·rw [List.mem_singleton.mp hq];exact ⟨by omega,by omega⟩
  ·rintro σ Hi ⟨s,k,us,ps,rfl,hY,hA,hpl,hps,sm⟩
   refine ⟨_,rfl,l,us,rfl,.inl ⟨SqL.of hY,fun t ht0=>⟨zz2,fun e he0=>?_⟩⟩⟩
   have t1:=jG ht0 (.tup us)
   have t2:=jG he0 (.tup [V.str "night",.ref t])
   have t12:=t1.trans t2
   refine q _ (.night ps) _ (sm.trans t12) ⟨e,_,rfl,jE,?_⟩ ⟨by omega,by omega,hps⟩
   exact ZI (congrArg V.str night_eq) ⟨t,us,rfl,t2 _ _ jE,hA.mono fun v x=>PrAt.same t12 v x⟩
 refine vI (fun x=>h3 (V.int.inj x)) ⟨_,rfl,_,_,rfl,rfl,(by show (0:Int)<6;decide),_,_,rfl,rfl,_,rfl,?_⟩
 by_cases h2:c%6<3
 ·refine vH h2 ⟨zz3,fun l hl0=>?_⟩
  have t1:=jG hl0 (.lst [V.str "",V.str "pass",V.str "let"])
  obtain ⟨w,hw,hat⟩:∃w,(w=ZA∨w=ZG)∧kY [V.str "",V.str "pass",V.str "let"] (c%6)=some (.str (strL w)):=by
   obtain ⟨z,ez,lz⟩:=qZ (a:=c) (b:=6) (by decide)
   rw [ez] at h0 h2 ⊢
   rcases z with _|_|_|z
   ·exact absurd rfl h0
   ·exact ⟨ZA,.inl rfl,by rw [← bO];exact kF (j:=1) rfl⟩
   ·exact ⟨ZG,.inr rfl,by rw [← cB];exact kF (j:=2) rfl⟩
   ·omega
  refine ⟨_,rfl,_,_,rfl,rfl,(by show (0:Int)<6;decide),l,_,_,_,rfl,rfl,SqL.of jE,hat,_,rfl,_,rfl,fun nm n1 n2 n3=>⟨zz2,fun e he0=>?_⟩⟩
  have t2:=jG he0 (.tup [V.str (strL w),.str (strL nm)])
  exact q _ (.named w nm) _ (t1.trans t2) ⟨e,_,rfl,jE,AllAt.snoc (AllAt.snoc AllAt.nil (x:=Ep.p (.s w)) rfl) (x:=Ep.p (.s nm)) rfl⟩ ⟨hw,⟨n1,n2,n3⟩⟩
 refine vI h2 ⟨zz2,fun l hl0=>?_⟩
 have t1:=jG hl0 (.lst [V.str "take",V.str "rain"])
 obtain ⟨w,hw,hat⟩:∃w,(w=Q7∨w=Q9)∧kY [V.str "take",V.str "rain"] (c%6 - 4)=some (.str (strL w)):=by
  obtain ⟨z,ez,lz⟩:=qZ (a:=c) (b:=6) (by decide)
  rw [ez] at h3 h2 ⊢
  rcases z with _|_|_|_|_|_|z
  ·exact absurd (by decide) h2
  ·exact absurd (by decide) h2
  ·exact absurd (by decide) h2
  ·exact absurd rfl h3
  ·exact ⟨Q7,.inl rfl,by rw [← fR];exact kF (j:=0) rfl⟩
  ·exact ⟨Q9,.inr rfl,by rw [← fY];exact kF (j:=1) rfl⟩
  ·omega
 refine ⟨_,rfl,_,_,rfl,rfl,(by show (0:Int)<6;decide),_,_,rfl,rfl,l,_,_,_,rfl,rfl,SqL.of jE,hat,_,rfl,_,_,rfl,rfl,⟨by decide,by decide⟩,_,_,rfl,rfl,(by show (0:Int)<2147483629;decide),_,rfl,fun nm n1 n2 n3=>⟨_,rfl,zz3,fun e he0=>?_⟩⟩
 have t2:=jG he0 (.tup [V.str (strL w),.str (strL nm),.int (am:Int)])
 exact q _ (.amount w nm am) _ (t1.trans t2) ⟨e,_,rfl,jE,AllAt.snoc (AllAt.snoc (AllAt.snoc AllAt.nil (x:=Ep.p (.s w)) rfl) (x:=Ep.p (.s nm)) rfl) (x:=Ep.p (.n am)) rfl⟩ ⟨hw,⟨n1,n2,n3⟩,ha12⟩
theorem QH:FnScope ["entry","words","part","pair"] ["entry"] (jH zI):=⟨rfl,rfl,rfl,by decide +kernel,rfl,by decide +kernel,by decide +kernel⟩
theorem i7 {f:Addr} {fd:FuncData} (F:Fun K "_law_words" "_law_words" zI f fd) (T:Txt K mg j6 j5 j8 j7 eC eB eN eU eT tW) : FnOk P w K mg base kS 1 f fd ["entry"] (eQ K):=by
 refine F.ok QH (fun vs H Q E h=>?_) (fun cdv A outer s H vs Q E hr h=>?_)
 ·obtain ⟨v,e,rfl,⟨a,vs,rfl,ha,hA⟩,hok,he4,q⟩:=h
  rfl
 obtain ⟨v,e,rfl,⟨a,vs,rfl,ha,hA⟩,hok,he4,q⟩:=h
 have hu:_<cLine:=hr.units0
 have hu1:=kJ hr
 refine ⟨_,(jL (j0 (i:=1) QH.nd rfl (by first|exact Or.inl rfl|exact Or.inr rfl) (kT jC))
   (jL (JV PassesOwn.never rfl (Q4 (pv 0)) (kZ (i:=2) QH.nd rfl (by first|exact Or.inl rfl|exact Or.inr rfl))
    (jI (jT (vF (kK fO (by rfl) T.z_isinstance PyProof.Rows.boot_isinstance (jA (pv 2) (jA (bM (v:=.ty "tuple") rfl T.z_tuple PyProof.Rows.boot_tuple rfl) jC)))) (jI (JV PassesOwn.never rfl (Q4 (pv 2)) (kZ (i:=3) QH.nd rfl (by first|exact Or.inl rfl|exact Or.inr rfl))
    (jL (qQ (qT PySem.F.plainAttrs_list PySem.F.slot_list_append PySem.F.type_list_append yP (pv 1) (jA (zC bA (by rfl) T.z_str PyProof.Rows.boot_str (jA (jV gW (pv 3) jB (fun _ _=>rfl)) jC)) jC)))
   (jI (qQ (qT PySem.F.plainAttrs_list PySem.F.slot_list_append PySem.F.type_list_append yP (pv 1) (jA (zC bA (by rfl) T.z_str PyProof.Rows.boot_str (jA (jV gW (pv 3) jB (fun _ _=>rfl)) jC)) jC))))))) (jI (qQ (qT PySem.F.plainAttrs_list PySem.F.slot_list_append PySem.F.type_list_append yP (pv 1) (jA (zC bA (by rfl) T.z_str PyProof.Rows.boot_str (jA (pv 2) jC)) jC)))))))
   (jI (jO (pv 1))))),?_⟩
 have lens:∀i,(jS (e.take i)).length≤64:=fun i=>by
  have:=(Z1 (e:=e.take i) fun x hx=>hok x (List.mem_of_mem_take hx)).1
  rw [List.length_take] at this
  omega
 refine ⟨Nat.zero_le _,fun l hl0=>?_⟩
 have s0:=jG hl0 (.lst [])
 refine ⟨_,rfl,a,rfl,⟨_,SqT.of (s0 _ _ ha)⟩,gH (K:=K) (a:=a) (xs:=vs) (fun i σ Hi=>∃c2 c3:Option V,σ=[some (.ref a),some (.ref l),c2,c3]∧Hi l=some (.lst ((jS (e.take i)).map V.str))∧Same H Hi) ⟨none,none,rfl,jE,s0⟩ (fun i σ Hi _ ⟨_,_,_,_,s⟩=>SqT.of (s _ _ ha)) ?_ ?_⟩
 ·rintro i v σ Hi hv ⟨c2,c3,rfl,hY,sm⟩
  obtain ⟨x,hx,hvx⟩:=hA.2 i v hv
  have hokx:=hok x (List.mem_of_getElem? hx)
  have h64:=lens i
  cases x with
  |p y =>
   have hvx:v=y.v:=hvx
   subst hvx
   obtain ⟨ty,hty,hkit⟩:=sH (K:=K) (H:=Hi) y
   refine ⟨_,rfl,_,_,_,_,_,rfl,rfl,hty,hkit,_,rfl,qK ⟨_,rfl,.inl ⟨rfl,_,SqL.of hY⟩,_,rfl,_,_,rfl,Pt.show hokx,l,_,_,rfl,rfl,hY,vM (by rw [List.length_map];omega),?_⟩⟩
   refine ⟨_,_,rfl,?_,qX hl0 sm⟩
   rw [jE,dD hx,List.map_append]
   rfl
  |l ps =>
   obtain ⟨t,us,rfl,ht,hus⟩:=hvx
   refine ⟨_,rfl,_,_,_,_,_,rfl,rfl,TyOf.tup (sm _ _ ht),fG "tuple",_,rfl,kG ?_⟩
   refine ⟨_,rfl,t,rfl,⟨_,SqT.of (sm _ _ ht)⟩,gH (K:=K) (a:=t) (xs:=us) (fun j σ Hj=>∃c3:Option V,σ=[some (.ref a),some (.ref l),some (.ref t),c3]∧Hj l=some (.lst ((jS (e.take i)++jR (ps.take j)).map V.str))∧Same H Hj) ⟨_,rfl,by rw [hY];show _=some (HO.lst ((jS (e.take i)++[]).map V.str));rw [List.append_nil],sm⟩ (fun i σ Hi _ ⟨_,_,_,s⟩=>SqT.of (s _ _ ht)) ?_ ?_⟩
   ·rintro j u σ Hj hu ⟨c3,rfl,hYj,smj⟩
    obtain ⟨q0,hq0,tq,rfl,htq⟩:=hus.2 j u hu
    obtain ⟨o1,o2⟩:=hokx.2 q0 (List.mem_of_getElem? hq0)
    have h16:=m4 hokx.1 hokx.2 j
    have htq2:=smj _ _ htq
    have hlt:tq≠l:=J9 htq2 hYj (fun z=>nomatch z)
    refine ⟨_,rfl,.inl ⟨rfl,_,SqL.of hYj⟩,_,rfl,tq,_,_,_,rfl,rfl,SqT.of htq2,kF (j:=0) rfl,_,_,rfl,Pt.show o1,l,_,_,rfl,rfl,hYj,vM (by rw [List.length_map,List.length_append];omega),?_⟩
    have htq3:upd Hj l (.lst ((jS (e.take i)++jR (ps.take j)).map V.str++[V.str q0.1.t])) tq=some (.tup [q0.1.v,q0.2.v]):=by rw [jP hlt];exact htq2
    refine ⟨_,rfl,.inl ⟨rfl,_,SqL.of jE⟩,_,rfl,tq,_,_,_,rfl,rfl,SqT.of htq3,kF (j:=1) rfl,_,_,rfl,Pt.show o2,l,_,_,rfl,rfl,jE,vM (by rw [List.length_append,List.length_map,List.length_append];show _+1≤_;omega),?_⟩
    refine ⟨_,rfl,?_,qX hl0 (qX hl0 smj)⟩
    rw [jE,mO hq0,← List.append_assoc,List.map_append (l₁:=jS (e.take i)++jR (ps.take j)),List.append_assoc]
    rfl
   ·rintro σ Hj ⟨c3,rfl,hYj,smj⟩
    rw [hus.1,List.take_length] at hYj
    refine ⟨_,_,rfl,?_,smj⟩
    rw [hYj,dD hx]
    rfl
 ·rintro σ Hi ⟨c2,c3,rfl,hY,sm⟩
  rw [hA.1,List.take_length] at hY
  exact ⟨_,rfl,q l Hi sm hl0 hY⟩
theorem lO:FnScope ["words","at","word"] ["words","at","word"] (jH zG):=⟨rfl,rfl,rfl,by decide +kernel,rfl,by decide +kernel,by decide +kernel⟩
theorem i5 {f:Addr} {fd:FuncData} (F:Fun K "_law_put" "_law_put" zG f fd) (T:Txt K mg j6 j5 j8 j7 eC eB eN eU eT tW) : FnOk P w K mg base kS 1 f fd ["words","at","word"] (gP):=by
 refine F.ok lO (fun vs H Q E h=>?_) (fun cdv A outer s H vs Q E hr h=>?_)
 ·obtain ⟨l,ws,i,w,rfl,hl,hi,h100,q⟩:=h
  rfl
 obtain ⟨l,ws,i,w,rfl,hl,hi,h100,q⟩:=h
 have hu:_<cLine:=hr.units0
 have hu1:=kJ hr
 refine ⟨_,(jI (jO (jF vP (jF vP (qF qG (pv 0) qA (kM (pv 1))) (kT (jA (pv 2) jC))) (qF qG (pv 0) (kM (jF vQ (pv 1) jB)) qA)))),?_⟩
 refine ⟨_,rfl,_,rfl,_,rfl,l,_,rfl,SqL.of hl,fun p1 hp1=>?_⟩
 rw [QY (Nat.le_of_lt hi)]
 have s1:=jG hp1 (.lst ((ws.take i).map V.str))
 refine ⟨_,rfl,zz1,fun p2 hp2=>?_⟩
 have s2:=jG hp2 (.lst [V.str w])
 refine ⟨p1,p2,_,_,rfl,rfl,s2 _ _ jE,jE,qJ (by rw [List.length_map,List.length_take];show _+1≤_;omega),fun p3 hp3=>?_⟩
 have s3:=jG hp3 (.lst ((ws.take i).map V.str++[V.str w]))
 have s13:=(s1.trans s2).trans s3
 have h3:upd (upd (upd H p1 (.lst ((ws.take i).map V.str))) p2 (.lst [V.str w])) p3 (.lst ((ws.take i).map V.str++[V.str w])) p3=some (.lst ((ws.take i).map V.str++[V.str w])):=jE
 generalize upd (upd (upd H p1 (.lst ((ws.take i).map V.str))) p2 (.lst [V.str w])) p3 (.lst ((ws.take i).map V.str++[V.str w]))=H3 at s13 h3 ⊢
 refine ⟨_,rfl,_,rfl,_,_,rfl,rfl,_,rfl,l,_,rfl,SqL.of (s13 _ _ hl),fun p4 hp4=>?_⟩
 rw [show (some ((i:Int)+1))=some ((i+1:Nat):Int) from rfl,zU]
 have s4:=jG hp4 (.lst ((ws.drop (i+1)).map V.str))
 refine ⟨p3,p4,_,_,rfl,rfl,s4 _ _ h3,jE,qJ (by rw [List.length_append,List.length_map,List.length_map,List.length_take,List.length_drop];show _+1+_≤_;omega),fun p5 hp5=>?_⟩
 have s5:=jG hp5 (.lst ((ws.take i).map V.str++[V.str w]++(ws.drop (i+1)).map V.str))
 refine q p5 _ ((s13.trans s4).trans s5) ((s13.trans s4).free hp5) ?_
 rw [jE,List.set_eq_take_append_cons_drop,if_pos hi,List.map_append,List.map_cons,List.append_assoc]
 rfl
theorem yO:FnScope ["words","way","at","word","menu","pair","many"] ["words","way","at"] (jH zD):=⟨rfl,rfl,rfl,by decide +kernel,rfl,by decide +kernel,by decide +kernel⟩
theorem i2 {f:Addr} {fd:FuncData} (F:Fun K "_law_bad_words" "_law_bad_words" zD f fd) (T:Txt K mg j6 j5 j8 j7 eC eB eN eU eT tW) (D__law_put:Def P w K mg base 1 "_law_put" ["words","at","word"] [] (gP)):FnOk P w K mg base kS 2 f fd ["words","way","at"] (gQ):=by
 refine F.ok yO (fun vs H Q E h=>?_) (fun cdv A outer s H vs Q E hr h=>?_)
 ·obtain ⟨l,ws,way,i,rfl,hl,g,h17,h1,hi,q⟩:=h
  rfl
 obtain ⟨l,ws,way,i,rfl,hl,g,h17,h1,hi,q⟩:=h
 have hu:_<cLine:=hr.units0
 have hu1:=kJ hr
 refine ⟨_,(jL (j0 (i:=3) yO.nd rfl (by first|exact Or.inl rfl|exact Or.inr rfl) (jV j4 (pv 0) (pv 2) (fun _ _=>rfl)))
   (jL (jT (jZ kR (pv 1) jB (jX _)) (jI (jO (jF vP (pv 0) (kT (jA jJ jC))))) jW)
   (jL (jT (jZ kR (pv 1) jB (jX _)) (jI (jO (qF qG (pv 0) qA (kM (tO r9 jB))))) jW)
   (jL (jT (jZ kR (pv 1) jB (jX _)) (jI (jO (jF vP (jF vP (qF qG (pv 0) qA (kM (jF z3 (pv 2) jB))) (kT (jA jJ jC))) (qF qG (pv 0) (kM (jF z3 (pv 2) jB)) qA)))) jW)
   (jL (jT (jZ kR (pv 1) jB (jX _)) (jI (jO (jF vP (kT (jA (sM PySem.F.plainAttrs_str PySem.F.slot_str_upper PySem.F.type_str_upper pM (jV j4 (pv 0) jB (fun _ _=>rfl))) jC)) (qF qG (pv 0) (kM jB) qA)))) jW)
   (jL (jT (jZ kR (pv 1) jB (jX _)) (jI (jO (jF vP (kT (jA (jF v7 (jV j4 (pv 0) jB (fun _ _=>rfl)) jJ) jC)) (qF qG (pv 0) (kM jB) qA)))) jW)
   (jL (jT (jZ iE (pv 1) jB (jX _)) (jL (j0 (i:=4) yO.nd rfl (by first|exact Or.inl rfl|exact Or.inr rfl) (kT (jA (jF v7 (pv 3) jJ) (jA jJ (jA (jF v7 jJ (pv 3)) (jA (jF v7 (pv 3) jJ) (jA (jF v7 (pv 3) jJ) (jA (jV j4 (kT (jA jJ (jA jJ (jA jJ jC)))) (jF kA (pv 2) jB) (fun _ _=>rfl)) jC))))))))
   (jI (jO (kL D__law_put hr rfl (jA (pv 0) (jA (pv 2) (jA (jV j4 (pv 4) (jF z3 (pv 1) jB) (fun _ _=>rfl)) jC))))))) jW)
   (jL (jT (jZ kR (pv 1) jB (jX _)) (jL (j0 (i:=5) yO.nd rfl (by first|exact Or.inl rfl|exact Or.inr rfl) (kT (jA jJ (jA jJ jC))))
   (QZ (jT (jZ kR (jV j4 (pv 0) jB (fun _ _=>rfl)) jJ (jX _)) (jI (j0 (i:=5) yO.nd rfl (by first|exact Or.inl rfl|exact Or.inr rfl) (kT (jA jJ (jA jJ jC))))) jW)
   (jL (j0 (i:=6) yO.nd rfl (by first|exact Or.inl rfl|exact Or.inr rfl) (gD (QU jJ jB (QU jJ jB gA)) rfl rfl (List.cons_ne_nil _ _) (by decide)))
   (jI (jO (jF vP (qF qG (pv 0) qA (kM (e8 hu1 (pv 6) (jV j4 (pv 0) jB (fun _ _=>rfl)) jB ⟨rfl,rfl,rfl,rfl⟩))) (jF gS (pv 5) jB))))))) jW)
   (jL (jT (jZ kR (pv 1) jB (jX _)) (jL (j0 (i:=6) yO.nd rfl (by first|exact Or.inl rfl|exact Or.inr rfl) (gD (QU jJ jB (QU jJ jB gA)) rfl rfl (List.cons_ne_nil _ _) (by decide)))
   (jI (jO (qF qG (pv 0) qA (kM (e8 hu1 (pv 6) (jV j4 (pv 0) jB (fun _ _=>rfl)) jB ⟨rfl,rfl,rfl,rfl⟩)))))) jW)
   (jL (jT (jZ kR (pv 1) jB (jX _)) (jI (jO (kT (jA (qT PySem.F.plainAttrs_str PySem.F.slot_str_join PySem.F.type_str_join JS jJ (jA (pv 0) jC)) jC)))) jW)
   (jL (jT (jZ cF (pv 1) jB (jX _)) (jI (jO (jF gS (kT (jA jJ jC)) (jF z3 (pv 1) jB)))) jW)
   (jI (jO (jF vP (pv 0) (kT (jA jJ jC)))))))))))))))),?_⟩
 have n2:=g.n2
 have n64:=g.n64
 have hwi:=g.l12 _ (JP hi)
 refine ⟨_,rfl,_,rfl,l,_,_,_,rfl,rfl,SqL.of hl,JE hi,?_⟩
 have wy:∀(k:Nat) (A B:Prop),(way=k→A)→(¬way=k→B)→(if decide (V.int (way:Int)=V.int (k:Int))=true then A else B):=fun k A B ha hb=>by
  by_cases h:way=k
  ·exact vH (by rw [h]) (ha h)
  ·exact vI (fun x=>h (by have:=V.int.inj x;omega)) (hb h)
 have s0:=Same.refl H
 have sl1:∀(Hc:Hp) (Q2:VK),Same H Hc→(∀(p:Addr) (H':Hp),Same Hc H'→Hc p=none→H' p=some (.lst ((ws.drop 1).map V.str))→Q2 (.ref p) H')→∀σ:St,fS σ Hc fun u G=>iP K (.ref l) (some 1) u G Q2:=fun Hc Q2 s q2 σ=>⟨l,_,rfl,SqL.of (s _ _ hl),fun p hp=>by
  rw [show (some (1:Int))=some ((1:Nat):Int) from rfl,zU]
  exact q2 p _ (jG hp _) hp jE⟩
 refine ⟨_,rfl,rfl,_,rfl,wy 0 _ _ (fun hw0=>?_) (fun hw0=>?_)⟩
 ·exact ⟨_,rfl,zz1,fun p1 hp1=>yX (us:=["a"]) (jG hp1 _) (jG hp1 _ _ _ hl) jE (by show _+1≤1000;omega) fun p H' s' hp0 hp=>q p _ H' s' hp0 hp (fP g "a" (v9 (by decide +kernel)))⟩
 refine ⟨_,rfl,rfl,_,rfl,wy 1 _ _ (fun hw1=>?_) (fun hw1=>?_)⟩
 ·refine ⟨_,rfl,_,rfl,_,rfl,l,_,rfl,SqL.of hl,fun p hp=>?_⟩
  rw [sZ (by omega)]
  exact q p _ _ (jG hp _) hp jE (p6 g)
 refine ⟨_,rfl,rfl,_,rfl,wy 2 _ _ (fun hw2=>?_) (fun hw2=>?_)⟩
 ·refine ⟨_,rfl,_,rfl,_,_,rfl,rfl,_,rfl,l,_,rfl,SqL.of hl,fun p1 hp1=>?_⟩
  have ei:((i:Int) - 1)=((i - 1:Nat):Int):=by omega
  try dsimp only
  rw [ei,QY (by omega)]
  have t1:=jG hp1 (.lst ((ws.take (i - 1)).map V.str))
  have h1':upd H p1 (.lst ((ws.take (i - 1)).map V.str)) p1=some (.lst ((ws.take (i - 1)).map V.str)):=jE
  generalize upd H p1 (.lst ((ws.take (i - 1)).map V.str))=H1 at t1 h1' ⊢
  refine ⟨zz1,fun p2 hp2=>?_⟩
  have t2:=jG hp2 (.lst [V.str ""])
  refine yX (H:=H) (us:=[("":Str)]) (t1.trans t2) (t2 _ _ h1') jE (by rw [List.length_take];show _+1≤1000;omega) fun p3 H3 s3 hp30 hp3=>?_
  refine ⟨_,rfl,_,rfl,_,_,rfl,rfl,_,rfl,l,_,rfl,SqL.of (s3 _ _ hl),fun p4 hp4=>?_⟩
  try dsimp only
  rw [ei,zU]
  have t4:=jG hp4 (.lst ((ws.drop (i - 1)).map V.str))
  exact yX (s3.trans t4) (t4 _ _ hp3) jE (by rw [List.length_append,List.length_take,List.length_drop];show _+1+_≤1000;omega) fun p H' s' hp0 hp=>q p _ H' s' hp0 hp (rV g (by omega))
 refine ⟨_,rfl,rfl,_,rfl,wy 3 _ _ (fun hw3=>?_) (fun hw3=>?_)⟩
 ·obtain ⟨u1,u2⟩:=r6 _ g.six
  have hu:=v9 u2
  refine ⟨_,rfl,l,_,_,_,rfl,rfl,SqL.of hl,qW (by omega),rfl,_,rfl,rfl,qJ (by have:=hu.2;omega),zz1,fun p1 hp1=>⟨_,rfl,_,rfl,sl1 _ _ (jG hp1 _) (fun p2 H2 s2 hp20 hp2=>?_) _⟩⟩
  exact yX (bw:=[JB (ws.getD 0 "")]) ((jG hp1 _).trans s2) (s2 _ _ jE) hp2 (by rw [List.length_drop];show 1+_≤1000;omega) fun p H' s' hp0 hp=>q p _ H' s' hp0 hp (eJ g _ hu u1)
 refine ⟨_,rfl,rfl,_,rfl,wy 4 _ _ (fun hw4=>?_) (fun hw4=>?_)⟩
 ·obtain ⟨u1,u2⟩:=lN _ g.six
  have hu:=v9 u2
  refine ⟨_,rfl,l,_,_,_,rfl,rfl,SqL.of hl,qW (by omega),_,_,rfl,rfl,qJ (by have:=hu.2;rw [Str.length_append] at this;omega),zz1,fun p1 hp1=>⟨_,rfl,_,rfl,sl1 _ _ (jG hp1 _) (fun p2 H2 s2 hp20 hp2=>?_) _⟩⟩
  exact yX (bw:=[ws.getD 0 ""++"s"]) ((jG hp1 _).trans s2) (s2 _ _ jE) hp2 (by rw [List.length_drop];show 1+_≤1000;omega) fun p H' s' hp0 hp=>q p _ H' s' hp0 hp (eJ g _ hu u1)
 refine ⟨_,rfl,_,_,rfl,rfl,_,rfl,?_⟩
 by_cases h11:way<11
 ·refine vH (by omega) ?_
  generalize hwd:ws.getD i ""=wd at hwi ⊢
  have a1:("A":Str).length=1:=by decide +kernel
  have a0:("0":Str).length=1:=by decide +kernel
  have a12:("aaaaaaaaaaaa":Str).length=12:=by decide +kernel
  have b12:("000000000000":Str).length=12:=by decide +kernel
  obtain ⟨x3,o3,e3⟩:∃x,OddW wd x∧kY [V.str "1_0",V.str "-1",V.str "+1"] ((i:Int)%3)=some (.str x):=by
   obtain ⟨z,ez,lz⟩:=qZ (a:=(i:Int)) (b:=3) (by decide)
   rw [ez]
   rcases z with _|_|_|z
   ·exact ⟨_,.under,kF (j:=0) rfl⟩
   ·exact ⟨_,.minus,kF (j:=1) rfl⟩
   ·exact ⟨_,.plus,kF (j:=2) rfl⟩
   ·omega
  refine ⟨_,rfl,_,_,rfl,rfl,qJ (by rw [a1];omega),_,rfl,_,_,rfl,rfl,qJ (by rw [a0];omega),_,rfl,_,_,rfl,rfl,qJ (by rw [a12];omega),_,rfl,_,_,rfl,rfl,qJ (by rw [b12];omega),zz3,fun p1 hp1=>?_⟩
  have t1:=jG hp1 (.lst [V.str "1_0",V.str "-1",V.str "+1"])
  refine ⟨_,rfl,_,_,rfl,rfl,(by show (0:Int)<3;decide),p1,_,_,_,rfl,rfl,SqL.of jE,e3,zz6,fun p2 hp2=>?_⟩
  have t2:=jG hp2 (.lst [V.str (wd++"A"),.str "",.str ("0"++wd),.str (wd++"aaaaaaaaaaaa"),.str (wd++"000000000000"),.str x3])
  obtain ⟨x6,o6,e6⟩:∃x,OddW wd x∧kY [V.str (wd++"A"),.str "",.str ("0"++wd),.str (wd++"aaaaaaaaaaaa"),.str (wd++"000000000000"),.str x3] ((way:Int) - 5)=some (.str x):=by
   obtain ⟨z,rfl⟩:∃z,way=5+z:=⟨way - 5,by omega⟩
   rw [show (((5+z:Nat):Int) - 5)=(z:Int) by omega]
   rcases z with _|_|_|_|_|_|z
   ·exact ⟨_,.great,kF (j:=0) rfl⟩
   ·exact ⟨_,.none,kF (j:=1) rfl⟩
   ·exact ⟨_,.nought,kF (j:=2) rfl⟩
   ·exact ⟨_,.long,kF (j:=3) rfl⟩
   ·exact ⟨_,.noughts,kF (j:=4) rfl⟩
   ·exact ⟨_,o3,kF (j:=5) rfl⟩
   ·omega
  have t12:=t1.trans t2
  refine ⟨_,rfl,_,rfl,_,rfl,_,rfl,_,_,rfl,rfl,p2,_,_,_,rfl,rfl,SqL.of jE,e6,l,ws,i,x6,rfl,t12 _ _ hl,hi,by omega,fun p H' s' hp0 hp=>?_⟩
  exact q p _ H' (t12.trans s') (t12.free hp0) hp (rS g h1 hi (by rw [hwd];exact o6))
 refine vI (by omega) ?_
 have dict:∀(Hc:Hp) (dd:Addr),Hc dd=some (.dK [(.inr "come",.int 3),(.inr "night",.int 1)])→DGet Hc dd (.str (ws.getD 0 "")) (kU [((.inr "come":jK),V.int 3),(.inr "night",.int 1)] (.inr (ws.getD 0 ""))):=fun Hc dd h=>DGet.k (k:=.inr (ws.getD 0 "")) h
 have dval:((kU [((.inr "come":jK),V.int 3),(.inr "night",.int 1)] (.inr (ws.getD 0 ""))).getD (.int 1))=.int ((vJ (ws.getD 0 ""):Nat):Int):=by
  unfold vJ
  by_cases hc:ws.getD 0 ""="come"
  ·rw [if_pos hc,hc,JM rfl];rfl
  ·rw [if_neg hc,zV (cN (fun e=>hc e.symm))]
   by_cases hn:ws.getD 0 ""="night"
   ·rw [hn,JM rfl];rfl
   ·rw [zV (cN (fun e=>hn e.symm))];rfl
 obtain ⟨hd1,hd2⟩:=gG g
 refine ⟨_,rfl,rfl,_,rfl,wy 11 _ _ (fun hw11=>?_) (fun hw11=>?_)⟩
 ·refine ⟨zz2,fun pp hpp=>?_⟩
  have t1:=jG hpp (.lst [V.str "a",.str "up"])
  refine ⟨fun σ' H'=>∃(pr:Addr) (x y:Str),σ'=[some (.ref l),some (.int (way:Int)),some (.int (i:Int)),some (.str (ws.getD i "")),none,some (.ref pr),none]∧H' pr=some (.lst [.str x,.str y])∧v4 x∧v4 y∧Same H H',?_,?_⟩
  ·refine ⟨_,rfl,l,_,_,_,rfl,rfl,SqL.of (t1 _ _ hl),qW (by omega),rfl,_,rfl,ZH (fun _=>⟨zz2,fun p3 hp3=>?_⟩) (fun _=>?_)⟩
   ·exact ⟨p3,_,_,rfl,jE,v9 (by decide +kernel),v9 (by decide +kernel),t1.trans (jG hp3 _)⟩
   ·exact ⟨pp,_,_,rfl,jE,v9 (by decide +kernel),v9 (by decide +kernel),t1⟩
  rintro σ' H1 ⟨pr,x,y,rfl,hpr,hx,hy,s1⟩
  refine fun dd hdd0=>⟨jE,[(.inr "come",.int 3),(.inr "night",.int 1)],rfl,(by show 2≤15;decide),?_⟩
  rw [gT]
  have s2:Same H1 (upd (upd H1 dd (.dK [])) dd (.dK [(.inr "come",.int 3),(.inr "night",.int 1)])):=qX hdd0 (jG hdd0 _)
  have hdd:upd (upd H1 dd (.dK [])) dd (.dK [(.inr "come",.int 3),(.inr "night",.int 1)]) dd=some (.dK [(.inr "come",.int 3),(.inr "night",.int 1)]):=jE
  generalize upd (upd H1 dd (.dK [])) dd (.dK [(.inr "come",.int 3),(.inr "night",.int 1)])=H2 at s2 hdd ⊢
  have s02:=s1.trans s2
  refine ⟨_,rfl,_,rfl,dd,rfl,.inl ⟨_,.inl hdd⟩,_,rfl,l,_,_,_,rfl,rfl,SqL.of (s02 _ _ hl),qW (by omega),_,dict _ _ hdd,_,dval,l,_,rfl,SqL.of (s02 _ _ hl),fun p3 hp3=>?_⟩
  rw [QY hd2]
  have t3:=jG hp3 (.lst ((ws.take (vJ (ws.getD 0 ""))).map V.str))
  refine ⟨_,rfl,pr,_,_,rfl,rfl,t3 _ _ (s2 _ _ hpr),(by decide),(by decide),qJ (by show 2*9≤1000;decide),fun p4 hp4=>?_⟩
  have t4:=jG hp4 (.lst (List.replicate (9:Int).toNat [V.str x,V.str y]).flatten)
  refine yX (us:=[x,y,x,y,x,y,x,y,x,y,x,y,x,y,x,y,x,y]) (s02.trans (t3.trans t4)) (t4 _ _ jE) jE (by rw [List.length_take];show _+18≤1000;omega) fun p H' s' hp0 hp=>q p _ H' s' hp0 hp (eI g (.inl rfl) fun w hw=>?_)
  have:w=x∨w=y:=by
   simp only [List.mem_cons,List.not_mem_nil,or_false] at hw
   rcases hw with h|h|h|h|h|h|h|h|h|h|h|h|h|h|h|h|h|h
   all_goals first|exact .inl h|exact .inr h
  rcases this with rfl|rfl
  ·exact hx
  ·exact hy
 refine ⟨_,rfl,rfl,_,rfl,wy 12 _ _ (fun hw12=>?_) (fun hw12=>?_)⟩
 ·refine fun dd hdd0=>⟨jE,[(.inr "come",.int 3),(.inr "night",.int 1)],rfl,(by show 2≤15;decide),?_⟩
  rw [gT]
  have s2:Same H (upd (upd H dd (.dK [])) dd (.dK [(.inr "come",.int 3),(.inr "night",.int 1)])):=qX hdd0 (jG hdd0 _)
  have hdd:upd (upd H dd (.dK [])) dd (.dK [(.inr "come",.int 3),(.inr "night",.int 1)]) dd=some (.dK [(.inr "come",.int 3),(.inr "night",.int 1)]):=jE
  generalize upd (upd H dd (.dK [])) dd (.dK [(.inr "come",.int 3),(.inr "night",.int 1)])=H2 at s2 hdd ⊢
  refine ⟨_,rfl,_,rfl,dd,rfl,.inl ⟨_,.inl hdd⟩,_,rfl,l,_,_,_,rfl,rfl,SqL.of (s2 _ _ hl),qW (by omega),_,dict _ _ hdd,_,dval,l,_,rfl,SqL.of (s2 _ _ hl),fun p3 hp3=>?_⟩
  rw [QY hd2]
  refine q p3 _ _ (s2.trans (jG hp3 _)) (s2.free hp3) jE ?_
  have:=eI g (xs:=[]) (.inr rfl) (fun w hw=>by cases hw)
  rwa [List.append_nil] at this
 refine ⟨_,rfl,rfl,_,rfl,wy 13 _ _ (fun hw13=>?_) (fun hw13=>?_)⟩
 ·have hsum:=QK n64 g.l12
  refine ⟨rfl,_,rfl,⟨#[9]⟩,l,ws,rfl,rfl,SqL.of hl,by decide,by omega,zz1,fun p hp=>?_⟩
  exact q p [Str.join ⟨#[9]⟩ ws] _ (jG hp _) hp jE (p0 g)
 refine ⟨_,rfl,_,_,rfl,rfl,_,rfl,?_⟩
 by_cases h14:14<way
 ·refine vH (by omega) ⟨zz1,fun p1 hp1=>?_⟩
  have t1:=jG hp1 (.lst [V.str ""])
  obtain ⟨k,hk⟩:∃k:Nat,(way:Int) - 13=(k:Int):=⟨way - 13,by omega⟩
  refine ⟨_,rfl,_,_,rfl,rfl,p1,_,_,rfl,rfl,jE,(by rw [hk];omega),(by rw [hk];omega),(by rw [hk];show 1*_≤_;rw [Int.toNat_natCast];exact qJ (by omega)),fun p hp=>?_⟩
  try dsimp only
  rw [hk,Int.toNat_natCast]
  refine q p (List.replicate k ("":Str)) _ (t1.trans (jG hp _)) (t1.free hp) ?_ (nJ (by omega) (by omega))
  rw [jE]
  congr 2
  rw [List.map_replicate]
  have:∀m:Nat,(List.replicate m [V.str ""]).flatten=List.replicate m (V.str ""):=fun m=>by
   induction m with
   |zero=>rfl
   |succ m ih=>rw [List.replicate_succ,List.flatten_cons,ih,List.replicate_succ];rfl
  exact this k
 ·refine vI (by omega) ⟨_,rfl,zz1,fun p1 hp1=>?_⟩
  exact yX (us:=[("":Str)]) (jG hp1 _) (jG hp1 _ _ _ hl) jE (by show _+1≤1000;omega) fun p H' s' hp0 hp=>q p _ H' s' hp0 hp (fP g "" bJ)
theorem cW:FnScope ["row","many","e"] ["row","many"] (jH zH):=⟨rfl,rfl,rfl,by decide +kernel,rfl,by decide +kernel,by decide +kernel⟩
theorem i6 {f:Addr} {fd:FuncData} (F:Fun K "_law_refused" "_law_refused" zH f fd) (T:Txt K mg j6 j5 j8 j7 eC eB eN eU eT tW) (DX_entries_of:DefX P w K mg base 6 "entries_of" ["text"] [] (ZY eB)) (DX_entry_of:DefX P w K mg base 5 "entry_of" ["row"] [] (QT eB)):FnOk P w K mg base kS 7 f fd ["row","many"] (dJ):=by
 refine F.ok cW (fun vs H Q E h=>?_) (fun cdv A outer s H vs Q E hr h=>?_)
 ·obtain ⟨row,many,rfl,h0,h1,q⟩:=h
  rfl
 obtain ⟨row,many,rfl,h0,h1,q⟩:=h
 have hu:_<cLine:=hr.units0
 have hu1:=kJ hr
 refine ⟨_,(jL (pF (i:=2) rfl rfl rfl cW.nd rfl rfl rfl T.c_BadRow (fun _ _ hx=>(jI (jT (vF (pv 1)) (jI (qQ (qB DX_entries_of hx hr rfl (jA (pv 0) jC)))) (jI (qQ (qB DX_entry_of hx hr rfl (jA (pv 0) jC))))))) (fun _=>(jL (jT (PW.pt (yY (vF (kK (JQ (K:=K)) (by rfl) T.z_isinstance PyProof.Rows.boot_isinstance (jA (pv 2) (jA (vV (v:=.ref eT) rfl T.c_Torn rfl) jC)))) (yY (vF (kK (JQ (K:=K)) (by rfl) T.z_isinstance PyProof.Rows.boot_isinstance (jA (pv 2) (jA (vV (v:=.ref eU) rfl T.c_Unknown rfl) jC)))) (zZ (vF (kK (JQ (K:=K)) (by rfl) T.z_isinstance PyProof.Rows.boot_isinstance (jA (pv 2) (jA (vV (v:=.ref eN) rfl T.c_BadNumber rfl) jC)))))))) (jI (jO y0)) jW)
   (jI (jO (bX (kK (JQ (K:=K)) (by rfl) T.z_isinstance PyProof.Rows.boot_isinstance (jA (pv 2) (jA (vV (v:=.ref eC) rfl T.c_CanalError rfl) jC))) (Q5 (kK (JQ (K:=K)) (by rfl) T.z_isinstance PyProof.Rows.boot_isinstance (jA (pv 2) (jA (bM (v:=.ty "ValueError") rfl T.z_ValueError PyProof.Rows.Boot.«ValueError» rfl) jC))))))))))
   (jI (jO y0))),?_⟩
 refine ⟨fun σ' c H'=>σ'=[some (.str row),some (.bl many),none]∧c=.ref eB∧Same H H',?_,?_⟩
 ·refine ⟨_,rfl,_,rfl,?_⟩
  cases many with
  |true =>
   obtain ⟨a1,a2,a3,a4⟩:=h1 rfl
   exact kG ⟨_,rfl,row,rfl,a1,a2,a3,fun es he=>(nR he a4).elim,fun _ H' s=>⟨rfl,rfl,s⟩⟩
  |false =>
   obtain ⟨a1,a2⟩:=h0 rfl
   exact qK ⟨_,rfl,row,rfl,a1,fun e he=>(by rw [a2] at he;cases he),fun _ H' s=>⟨rfl,rfl,s⟩⟩
 rintro σ' c H' ⟨rfl,rfl,sm⟩
 refine ⟨eB,rfl,T.exm,fun x hx=>?_⟩
 have s1:=jG hx (y9 x eB)
 refine ⟨_,rfl,x,eB,.ref eT,false,rfl,jE,T.at_,T.cl,.inl ⟨_,rfl,T.k_T⟩,_,rfl,qK ?_⟩
 refine ⟨_,rfl,x,eB,.ref eU,false,rfl,jE,T.at_,T.cl,.inl ⟨_,rfl,T.k_U⟩,_,rfl,qK ?_⟩
 refine ⟨_,rfl,x,eB,.ref eN,false,rfl,jE,T.at_,T.cl,.inl ⟨_,rfl,T.k_N⟩,_,rfl,qK ?_⟩
 refine ⟨_,rfl,x,eB,.ref eC,true,rfl,jE,T.at_,T.cl,.inl ⟨_,rfl,T.k_C⟩,_,rfl,kG ?_⟩
 exact ⟨_,rfl,x,eB,.ty "ValueError",true,rfl,jE,T.at_,T.cl,.inl ⟨_,rfl,T.k_V⟩,q _ (sm.trans s1)⟩
theorem vT:FnScope ["script","first","second","words","bad","rows","good"] ["script"] (jH qY):=⟨rfl,rfl,rfl,by decide +kernel,rfl,by decide +kernel,by decide +kernel⟩
theorem lE {f:Addr} {fd:FuncData} (F:Fun K "law" "law" qY f fd) (T:Txt K mg j6 j5 j8 j7 eC eB eN eU eT tW) (D__law_words:Def P w K mg base 1 "_law_words" ["entry"] [] (eQ K)) (D__law_entry:Def P w K mg base 2 "_law_entry" ["cell"] [] (eV)) (D__law_bad_words:Def P w K mg base 2 "_law_bad_words" ["words","way","at"] [] (gQ)) (D_entries_of:Def P w K mg base 6 "entries_of" ["text"] [] (ZR)) (D__law_refused:Def P w K mg base 7 "_law_refused" ["row","many"] [] (dJ)):FnOk P w K mg base kS 8 f fd ["script"] (Q8 K):=by
 refine F.ok vT (fun vs H Q E h=>?_) (fun cdv A outer s H vs Q E hr h=>?_)
 ·obtain ⟨a,ns,rfl,hS,h63,q⟩:=h
  rfl
 obtain ⟨a,ns,rfl,hS,h63,q⟩:=h
 have hu:_<cLine:=hr.units0
 have hu1:=kJ hr
 refine ⟨_,(jL (j0 (i:=1) vT.nd rfl (by first|exact Or.inl rfl|exact Or.inr rfl) jB)
   (jL (j0 (i:=2) vT.nd rfl (by first|exact Or.inl rfl|exact Or.inr rfl) jB)
   (QZ (jT (jZ cF (kK vR (by rfl) T.z_len PySem.boot_len (jA (pv 0) jC)) jB (jX _)) (jI (j0 (i:=1) vT.nd rfl (by first|exact Or.inl rfl|exact Or.inr rfl) (jV j4 (pv 0) jB (fun _ _=>rfl)))) jW)
   (QZ (jT (jZ cF (kK vR (by rfl) T.z_len PySem.boot_len (jA (pv 0) jC)) jB (jX _)) (jI (j0 (i:=2) vT.nd rfl (by first|exact Or.inl rfl|exact Or.inr rfl) (jV j4 (pv 0) jB (fun _ _=>rfl)))) jW)
   (jL (j0 (i:=3) vT.nd rfl (by first|exact Or.inl rfl|exact Or.inr rfl) (kL D__law_words hr rfl (jA (kL D__law_entry hr rfl (jA (pv 1) jC)) jC)))
   (jL (j0 (i:=4) vT.nd rfl (by first|exact Or.inl rfl|exact Or.inr rfl) (qT PySem.F.plainAttrs_str PySem.F.slot_str_join PySem.F.type_str_join JS jJ (jA (kL D__law_bad_words hr rfl (jA (pv 3) (jA (jF kA (pv 2) jB) (jA (jF vQ jB (jF kA (jF q9 (pv 2) jB) (jF z3 (kK vR (by rfl) T.z_len PySem.boot_len (jA (pv 3) jC)) jB))) jC)))) jC)))
   (jL (nE (i:=5) ["cell"] (qN 1 []) vT.nd rfl (by first|exact Or.inl rfl|exact Or.inr rfl) rfl (vL (jH qY) rfl rfl (by decide +kernel) (by decide +kernel) (by decide +kernel)) (vD 1 [] rfl rfl (by decide +kernel)) (yI (qF qG (pv 0) (kM jB) qA)) (fun _ _ _ _ _=>(kZ (i:=0) (show List.Nodup (["cell"]:List Str) from by decide +kernel) rfl (by first|exact Or.inl rfl|exact Or.inr rfl))) (fun _ _ _ _ _=>vS) (fun _ _ _ _ _=>(sL (fun K=>iY K "str" (iD K) _ _) K (qT PySem.F.plainAttrs_str PySem.F.slot_str_join PySem.F.type_str_join JS jJ (jA (kL D__law_words hr rfl (jA (kL D__law_entry hr rfl (jA (pv 0) jC)) jC)) jC)))))
   (jL (j0 (i:=6) vT.nd rfl (by first|exact Or.inl rfl|exact Or.inr rfl) (kL D_entries_of hr rfl (jA (qT PySem.F.plainAttrs_str PySem.F.slot_str_join PySem.F.type_str_join JS jJ (jA (yR ["row"] (qN 1 []) rfl (vL (jH qY) rfl rfl (by decide +kernel) (by decide +kernel) (by decide +kernel)) (vD 1 [] rfl rfl (by decide +kernel)) (yI (pv 5)) (fun _ _ _ _ _=>(kZ (i:=0) (show List.Nodup (["row"]:List Str) from by decide +kernel) rfl (by first|exact Or.inl rfl|exact Or.inr rfl))) (fun _ _ _ _ _=>vS) (fun _ _ _ _ _=>(jF v7 (pv 0) jJ))) jC)) jC)))
   (jL (jT (PW.pt (yY (yU (vF (kK fO (by rfl) T.z_isinstance PyProof.Rows.boot_isinstance (jA (pv 6) (jA (bM (v:=.ty "list") rfl T.z_list PyProof.Rows.boot_list rfl) jC))))) (zZ (jZ J3 (kK vR (by rfl) T.z_len PySem.boot_len (jA (pv 6) jC)) (kK vR (by rfl) T.z_len PySem.boot_len (jA (pv 5) jC)) (jX _))))) (jI (jO y0)) jW)
   (jL (qQ (qT PySem.F.plainAttrs_list PySem.F.slot_list_insert PySem.F.type_list_insert oE (pv 5) (jA (jF kA (jF q9 (pv 2) jB) (jF vQ (kK vR (by rfl) T.z_len PySem.boot_len (jA (pv 5) jC)) jB)) (jA (pv 4) jC))))
   (jL (jT (PW.pt (yY (yU (vF (kL D__law_refused hr rfl (jA jJ (jA y0 jC))))) (zZ (yU (vF (kL D__law_refused hr rfl (jA (pv 4) (jA y0 jC)))))))) (jI (jO y0)) jW)
   (jI (jO (kL D__law_refused hr rfl (jA (qT PySem.F.plainAttrs_str PySem.F.slot_str_join PySem.F.type_str_join JS jJ (jA (yR ["row"] (qN 1 []) rfl (vL (jH qY) rfl rfl (by decide +kernel) (by decide +kernel) (by decide +kernel)) (vD 1 [] rfl rfl (by decide +kernel)) (yI (pv 5)) (fun _ _ _ _ _=>(kZ (i:=0) (show List.Nodup (["row"]:List Str) from by decide +kernel) rfl (by first|exact Or.inl rfl|exact Or.inr rfl))) (fun _ _ _ _ _=>vS) (fun _ _ _ _ _=>(jF v7 (pv 0) jJ))) jC)) (jA y0 jC)))))))))))))))),?_⟩
 refine ⟨fun σ' H'=>∃c1:Int,σ'=[some (.ref a),some (.int c1),some (.int 0),none,none,none,none]∧H=H',?_,?_⟩
 ·refine ⟨_,rfl,a,_,rfl,.inl hS,_,_,rfl,rfl,_,rfl,ZH (fun hc=>?_) (fun _=>⟨0,rfl,rfl⟩)⟩
  have hc':(((ns.map V.int).length:Nat):Int)>0:=of_decide_eq_true hc
  rw [List.length_map] at hc'
  exact ⟨_,rfl,a,_,_,_,rfl,rfl,hS,fQ (s:=0) (by omega),_,rfl,rfl⟩
 rintro σ' H' ⟨c1,rfl,rfl⟩
 refine ⟨fun σ' H'=>∃c2:Int,σ'=[some (.ref a),some (.int c1),some (.int c2),none,none,none,none]∧H=H',?_,?_⟩
 ·refine ⟨_,rfl,a,_,rfl,.inl hS,_,_,rfl,rfl,_,rfl,ZH (fun hc=>?_) (fun _=>⟨0,rfl,rfl⟩)⟩
  have hc':(((ns.map V.int).length:Nat):Int)>1:=of_decide_eq_true hc
  rw [List.length_map] at hc'
  exact ⟨_,rfl,a,_,_,_,rfl,rfl,hS,fQ (s:=1) (by omega),_,rfl,rfl⟩
 rintro σ' H' ⟨c2,rfl,rfl⟩
 refine ⟨_,rfl,c1,rfl,fun v e H1 s1 hv he=>?_⟩
 obtain ⟨g1,g2⟩:=Z0 he
 refine ⟨v,e.ps,rfl,hv,g2,g1,fun wl H2 s2 hwl0 hwl=>?_⟩
 have g:=tT he
 have s12:=s1.trans s2
 generalize jS e.ps=ws at g hwl
 have n2:=g.n2
 have n64:=g.n64
 obtain ⟨way,ew,lw⟩:=qZ (a:=c2) (b:=17) (by decide)
 have hpos:(0:Int)<((ws.length:Nat):Int) - 1:=by omega
 obtain ⟨k,ek,lk⟩:=qZ (a:=c2 / 17) hpos
 refine ⟨rfl,_,rfl,_,rfl,_,_,rfl,rfl,(by show (0:Int)<17;decide),_,rfl,_,_,rfl,rfl,⟨by decide,by decide⟩,_,rfl,wl,_,rfl,.inl (SqL.of hwl),_,_,rfl,rfl,_,_,rfl,rfl,(by rw [List.length_map];exact hpos),_,_,rfl,rfl,?_⟩
 have evs:[V.ref wl,V.int (c2%17),V.int (1+c2 / 17%((((ws.map V.str).length:Nat):Int) - 1))]=[V.ref wl,.int (way:Int),.int ((1+k:Nat):Int)]:=by rw [List.length_map,ew,ek,show ((1+k:Nat):Int)=1+(k:Int) by omega]
 refine ⟨wl,ws,way,1+k,evs,hwl,g,by omega,by omega,by omega,fun p bw H3 s3 hp0 hp hbad=>?_⟩
 obtain ⟨b1,b2,b3,b4,b5⟩:=rT hbad
 have hbsum:qH bw+bw.length≤1048576:=by
  have h2:=JU (B:=900) bw hbad.len
  have h3:bw.length*900≤100*900:=Nat.mul_le_mul_right _ hbad.many
  have:=hbad.many
  omega
 refine ⟨kB,p,bw,rfl,rfl,SqL.of hp,by decide,hbsum,?_⟩
 generalize Str.join kB bw=bad at b1 b2 b3 b4 b5
 have s13:=s12.trans s3
 obtain ⟨cs,hcs,hcsl⟩:=oV ns (some 2) none
 refine ⟨_,rfl,_,rfl,a,_,rfl,s13.seq hS,fun sl hsl0=>?_⟩
 rw [hcs]
 have s4:=jG hsl0 (.lst (cs.map V.int))
 have hsl:upd H3 sl (.lst (cs.map V.int)) sl=some (.lst (cs.map V.int)):=jE
 generalize upd H3 sl (.lst (cs.map V.int))=H4 at s4 hsl ⊢
 refine ⟨sl,rfl,⟨_,SqL.of hsl⟩,fun rl hrl0=>?_⟩
 refine yH (K:=K) (a:=sl) (xs:=cs.map V.int) (caps:=[]) (fun i ys Hi=>∃es:List En,ys=(es.map vA).map V.str∧(∀e∈es,e.good)∧es.length=i) hrl0 (SqL.of hsl) ⟨[],rfl,(fun _ h=>nomatch h),rfl⟩ ?_ ?_
 ·rintro i v ys Hi hv hi hle sm hY ⟨es,rfl,hg,hl⟩
  obtain ⟨c,rfl,hc⟩:=pR hv
  rw [List.length_map] at hi
  refine vW (kG ⟨rfl,_,rfl,c,rfl,fun v e Ha sa hv he=>?_⟩)
  obtain ⟨g1,g2⟩:=Z0 he
  obtain ⟨w1,w2⟩:=QX he
  refine ⟨v,e.ps,rfl,hv,g2,g1,fun l Hb sb hl0 hlb=>⟨kB,l,jS e.ps,rfl,rfl,SqL.of hlb,by decide,by have:=QK w1 w2;omega,v5 hrl0 sm hY hle (by omega) (sa.trans sb) ⟨es++[e],?_,fun x hx=>?_,by rw [List.length_append,hl];rfl⟩⟩⟩
  ·rw [List.map_append,List.map_append];rfl
  ·rcases List.mem_append.mp hx with hx|hx
   ·exact hg x hx
   ·rw [List.mem_singleton.mp hx];exact he
 rintro ys H5 s5 hrl hle5 ⟨es,rfl,hg,hl⟩
 rw [List.length_map] at hl
 have hro:∀r∈es.map vA,r.length≤832∧z6 r∧r≠"":=fun r hr=>by
  obtain ⟨e,he,rfl⟩:=List.mem_map.mp hr
  exact ⟨fX (hg e he),(d5 (hg e he)).1,(d5 (hg e he)).2⟩
 have hJ:(es.map vA).map kE=es.map some:=by
  rw [List.map_map]
  exact List.map_congr_left fun e he=>(bF (hg e he)).1
 have hRS:∀r∈es.map vA,vK r:=fun r hr=>by
  obtain ⟨e,he,rfl⟩:=List.mem_map.mp hr
  exact (bF (hg e he)).2
 have hRl:(es.map vA).length=es.length:=List.length_map _
 generalize es.map vA=R at hrl hRl hro hJ hRS
 have hlen6:∀w∈R,w.length≤832:=fun w hw=>(hro w hw).1
 refine ⟨rfl,_,rfl,rl,rfl,⟨_,SqL.of hrl⟩,fun D6 hD6=>?_⟩
 refine yH (K:=K) (a:=rl) (xs:=(R).map V.str) (caps:=[]) (fun i ys Hi=>ys=(((R).take i).map (·++feedS)).map V.str) hD6 (SqL.of hrl) rfl ?_ ?_
 ·rintro i v ys Hi hv hi hle sm hY rfl
  obtain ⟨w,hw,rfl⟩:=yQ hv
  have hwl:=hlen6 w (List.mem_of_getElem? hw)
  have hi9:i<999:=by have:=(List.getElem?_eq_some_iff.mp hw).1;omega
  refine vW (kG ⟨_,rfl,_,_,rfl,rfl,gR (by rw [fJ];omega),v5 hD6 sm hY hle (by omega) (Same.refl _) ?_⟩)
  rw [List.take_add_one,hw,List.map_append,List.map_append]
  rfl
 rintro ys H6 s6 hY6 hle6 rfl
 rw [List.length_map,List.take_length] at hY6
 have hsum:∀(Z:List Str),Z.length≤70→(∀z∈Z,z.length≤832)→qH (Z.map (·++feedS))+(Z.map (·++feedS)).length≤60000:=fun Z hZ hz=>by
  have h3:=JU (B:=833) (Z.map (·++feedS)) (fun y hy=>by
   obtain ⟨x,hx,rfl⟩:=List.mem_map.mp hy
   have:=hz x hx
   rw [Str.length_append]
   have:feedS.length=1:=rfl
   omega)
  rw [List.length_map] at h3 ⊢
  have:Z.length*833≤70*833:=Nat.mul_le_mul_right _ hZ
  omega
 obtain ⟨rz,rs⟩:=dZ (zs:=R) fun z hz=>(hro z hz).2
 have hTl:=eO (B:=832) R hlen6
 have hTl2:R.length*833≤70*833:=Nat.mul_le_mul_right _ (by omega)
 refine ⟨"",D6,_,rfl,rfl,SqL.of hY6,by decide,by have:=hsum R (by omega) hlen6;omega,?_⟩
 refine ⟨qI R,es,rfl,by omega,by rw [rz];exact hRS,by rw [rs];omega,by rw [rz];exact hJ,fun gl us H7 s7 hgl0 hgl hU=>?_⟩
 have hrl7:=s7 _ _ (s6 _ _ hrl)
 refine ⟨_,rfl,_,_,_,_,_,rfl,rfl,TyOf.lst hgl,fG "list",_,rfl,qK ⟨_,rfl,gl,_,rfl,.inl (SqL.of hgl),_,rfl,rl,_,rfl,.inl (SqL.of hrl7),rfl,_,rfl,ZC (by rw [hU.1,List.length_map,hRl]) ?_⟩⟩
 have hp2:(0:Int)<((R.length:Nat):Int)+1:=by omega
 obtain ⟨m,em,lm⟩:=qZ (a:=c2 / 34) hp2
 refine ⟨_,rfl,.inl ⟨rfl,_,SqL.of hrl7⟩,_,rfl,_,_,rfl,rfl,⟨by decide,by decide⟩,_,rfl,rl,_,rfl,.inl (SqL.of hrl7),_,_,rfl,rfl,_,_,rfl,rfl,(by rw [List.length_map];exact hp2),_,rfl,?_⟩
 have evi:[V.int (c2 / 34%((((R.map V.str).length:Nat):Int)+1)),V.str bad]=[V.int (m:Int),V.str bad]:=by rw [List.length_map,em]
 refine ⟨rl,_,m,_,rfl,evi,hrl7,by rw [List.length_map];omega,by rw [List.length_map];omega,?_⟩
 have e9:(R.map V.str).take m++V.str bad::(R.map V.str).drop m=(R.take m++bad::R.drop m).map V.str:=by rw [List.map_append,List.map_cons,List.map_take,List.map_drop]
 rw [e9]
 have hR9:∀z∈R.take m++bad::R.drop m,vK z∧z6 z∧z≠""∧z.length≤91000:=fun z hz=>by
  have:z=bad∨z∈R:=by
   rcases List.mem_append.mp hz with h|h
   ·exact .inr (List.mem_of_mem_take h)
   ·rcases List.mem_cons.mp h with h|h
    ·exact .inl h
    ·exact .inr (List.mem_of_mem_drop h)
  rcases this with rfl|h
  ·exact ⟨b2,b3,b4,b5⟩
  ·obtain ⟨h1,h2,h3⟩:=hro z h
   exact ⟨hRS z h,h2,h3,by omega⟩
 have hsum9:qH ((R.take m++bad::R.drop m).map (·++feedS))+((R.take m++bad::R.drop m).map (·++feedS)).length≤300000:=by
  have h1:=hsum (R.take m) (by rw [List.length_take];omega) fun z hz=>hlen6 z (List.mem_of_mem_take hz)
  have h2:=hsum (R.drop m) (by rw [List.length_drop];omega) fun z hz=>hlen6 z (List.mem_of_mem_drop hz)
  have h3:qH ((R.take m++bad::R.drop m).map (·++feedS))=qH ((R.take m).map (·++feedS))+((bad++feedS).length+qH ((R.drop m).map (·++feedS))):=by
   unfold qH
   rw [List.map_append,List.map_append,List.sum_append,List.map_cons,List.map_cons,List.sum_cons]
  rw [h3,Str.length_append,show feedS.length=1 from rfl]
  rw [List.length_map] at h1 h2 ⊢
  rw [List.length_append,List.length_cons]
  omega
 have hn9:(R.take m++bad::R.drop m).length≤70:=by rw [List.length_append,List.length_cons,List.length_take,List.length_drop];omega
 have hin:bad∈R.take m++bad::R.drop m:=List.mem_append_right _ List.mem_cons_self
 generalize R.take m++bad::R.drop m=Z at hR9 hsum9 hn9 hin
 have hrl8:upd H7 rl (.lst (Z.map V.str)) rl=some (.lst (Z.map V.str)):=jE
 generalize upd H7 rl (.lst (Z.map V.str))=H8 at hrl8
 refine ⟨"",false,rfl,(fun _=>oU),(fun x=>nomatch x),fun H9 s9=>⟨_,rfl,qK ?_⟩⟩
 refine ⟨_,rfl,bad,false,rfl,(fun _=>⟨b2,b1⟩),(fun x=>nomatch x),fun H10 s10=>⟨_,rfl,qK ?_⟩⟩
 have hrl10:=s10 _ _ (s9 _ _ hrl8)
 have hlen11:∀w∈Z,w.length≤91000:=fun w hw=>(hR9 w hw).2.2.2
 refine ⟨rfl,_,rfl,rl,rfl,⟨_,SqL.of hrl10⟩,fun D11 hD11=>?_⟩
 refine yH (K:=K) (a:=rl) (xs:=(Z).map V.str) (caps:=[]) (fun i ys Hi=>ys=(((Z).take i).map (·++feedS)).map V.str) hD11 (SqL.of hrl10) rfl ?_ ?_
 ·rintro i v ys Hi hv hi hle sm hY rfl
  obtain ⟨w,hw,rfl⟩:=yQ hv
  have hwl:=hlen11 w (List.mem_of_getElem? hw)
  have hi9:i<999:=by have:=(List.getElem?_eq_some_iff.mp hw).1;omega
  refine vW (kG ⟨_,rfl,_,_,rfl,rfl,gR (by rw [fJ];omega),v5 hD11 sm hY hle (by omega) (Same.refl _) ?_⟩)
  rw [List.take_add_one,hw,List.map_append,List.map_append]
  rfl
 rintro ys H11 s11 hY11 hle11 rfl
 rw [List.length_map,List.take_length] at hY11
 obtain ⟨rz2,rs2⟩:=dZ (zs:=Z) fun z hz=>⟨(hR9 z hz).2.1,(hR9 z hz).2.2.1⟩
 have hT2:(qI Z).length≤300000:=by
  have h1:=eM Z
  omega
 refine ⟨"",D11,_,rfl,rfl,SqL.of hY11,by decide,by omega,?_⟩
 exact ⟨qI Z,true,rfl,(fun x=>nomatch x),(fun _=>⟨by omega,by rw [rz2];exact fun r hr=>(hR9 r hr).1,by rw [rs2];omega,by rw [rz2];exact ⟨bad,hin,b1⟩⟩),fun H' _=>q _⟩
end
theorem all_mk {l:W.OpenLaw} {w:World} {K:W.Frag} {h:Heap} {mg:Str→Option Value} {fa f0 f1 f2 f3 f4 f5 f6 f7 f8 f9 f10 f11 f12 f13 f14 f15 f16 f17 f18 f19 f20:Addr} {j6 j5 j8 j7 tu1 tu2:Tok} {eC eB eN eU eT tW:Addr} {oW:Obj} {nW:Nat} {cd_eB:ClassData} (X:K.In h) (G:h.Ns mainGlobals mg) (hfa:mg "law"=some (.ref fa))
 {od0 an0 od1 an1 od2 an2 od3 an3 od4 an4 od5 an5 od6 an6 od7 an7 od8 an8 od9 an9 od10 an10 od11 an11 od12 an12 od13 an13 od14 an14 od15 an15 od16 an16 od17 an17 od18 an18 od19 an19 od20 an20:Option Addr} {sl0 sl1 sl2 sl3 sl4 sl5 sl6 sl7 sl8 sl9 sl10 sl11 sl12 sl13 sl14 sl15 sl16 sl17 sl18 sl19 sl20:Array (Option Value)} {oc0 kV0 dc0 pm0 cd0 ct0 oc1 kV1 dc1 pm1 cd1 ct1 oc2 kV2 dc2 pm2 cd2 ct2 oc3 kV3 dc3 pm3 cd3 ct3 oc4 kV4 dc4 pm4 cd4 ct4 oc5 kV5 dc5 pm5 cd5 ct5 oc6 kV6 dc6 pm6 cd6 ct6 oc7 kV7 dc7 pm7 cd7 ct7 oc8 kV8 dc8 pm8 cd8 ct8 oc9 kV9 dc9 pm9 cd9 ct9 oc10 kV10 dc10 pm10 cd10 ct10 oc11 kV11 dc11 pm11 cd11 ct11 oc12 kV12 dc12 pm12 cd12 ct12 oc13 kV13 dc13 pm13 cd13 ct13 oc14 kV14 dc14 pm14 cd14 ct14 oc15 kV15 dc15 pm15 cd15 ct15 oc16 kV16 dc16 pm16 cd16 ct16 oc17 kV17 dc17 pm17 cd17 ct17 oc18 kV18 dc18 pm18 cd18 ct18 oc19 kV19 dc19 pm19 cd19 ct19 oc20 kV20 dc20 pm20 cd20 ct20:Value}
  (aX_CanalError:W.nsIn K mainGlobals "CanalError"=some (some (.ref eC)))
  (aX_BadRow:W.nsIn K mainGlobals "BadRow"=some (some (.ref eB)))
  (aX_BadNumber:W.nsIn K mainGlobals "BadNumber"=some (some (.ref eN)))
  (aX_Unknown:W.nsIn K mainGlobals "Unknown"=some (some (.ref eU)))
  (aX_Torn:W.nsIn K mainGlobals "Torn"=some (some (.ref eT)))
  (a0:W.nsIn K mainGlobals "written_with"=some (some (.ref f0)))
  (l0:K.lookup f0=some ⟨oc0,od0,.func (W.fnOf "written_with" "written_with" (j9 yN) (jY yN) (jH yN) .none kV0 dc0 pm0 an0 cd0 ct0),sl0⟩)
  (c0:W.codeIn K cd0 "written_with"=true)
  (k0:W.keepIn K (.ref f0)=true)
  (a1:W.nsIn K mainGlobals "is_name"=some (some (.ref f1)))
  (l1:K.lookup f1=some ⟨oc1,od1,.func (W.fnOf "is_name" "is_name" (j9 zL) (jY zL) (jH zL) .none kV1 dc1 pm1 an1 cd1 ct1),sl1⟩)
  (c1:W.codeIn K cd1 "is_name"=true)
  (k1:W.keepIn K (.ref f1)=true)
  (a2:W.nsIn K mainGlobals "is_number"=some (some (.ref f2)))
  (l2:K.lookup f2=some ⟨oc2,od2,.func (W.fnOf "is_number" "is_number" (j9 zM) (jY zM) (jH zM) .none kV2 dc2 pm2 an2 cd2 ct2),sl2⟩)
  (c2:W.codeIn K cd2 "is_number"=true)
  (k2:W.keepIn K (.ref f2)=true)
  (a3:W.nsIn K mainGlobals "number_of"=some (some (.ref f3)))
  (l3:K.lookup f3=some ⟨oc3,od3,.func (W.fnOf "number_of" "number_of" (j9 zO) (jY zO) (jH zO) .none kV3 dc3 pm3 an3 cd3 ct3),sl3⟩)
  (c3:W.codeIn K cd3 "number_of"=true)
  (k3:W.keepIn K (.ref f3)=true)
  (a4:W.nsIn K mainGlobals "numbers_of"=some (some (.ref f4)))
  (l4:K.lookup f4=some ⟨oc4,od4,.func (W.fnOf "numbers_of" "numbers_of" (j9 yK) (jY yK) (jH yK) .none kV4 dc4 pm4 an4 cd4 ct4),sl4⟩)
  (c4:W.codeIn K cd4 "numbers_of"=true)
  (k4:W.keepIn K (.ref f4)=true)
  (a5:W.nsIn K mainGlobals "refuse_no_names"=some (some (.ref f5)))
  (l5:K.lookup f5=some ⟨oc5,od5,.func (W.fnOf "refuse_no_names" "refuse_no_names" (j9 yL) (jY yL) (jH yL) .none kV5 dc5 pm5 an5 cd5 ct5),sl5⟩)
  (c5:W.codeIn K cd5 "refuse_no_names"=true)
  (k5:W.keepIn K (.ref f5)=true)
  (a6:W.nsIn K mainGlobals "rows_of"=some (some (.ref f6)))
  (l6:K.lookup f6=some ⟨oc6,od6,.func (W.fnOf "rows_of" "rows_of" (j9 yM) (jY yM) (jH yM) .none kV6 dc6 pm6 an6 cd6 ct6),sl6⟩)
  (c6:W.codeIn K cd6 "rows_of"=true)
  (k6:W.keepIn K (.ref f6)=true)
  (a7:W.nsIn K mainGlobals "refuse_other_length"=some (some (.ref f7)))
  (l7:K.lookup f7=some ⟨oc7,od7,.func (W.fnOf "refuse_other_length" "refuse_other_length" (j9 zQ) (jY zQ) (jH zQ) .none kV7 dc7 pm7 an7 cd7 ct7),sl7⟩)
  (c7:W.codeIn K cd7 "refuse_other_length"=true)
  (k7:W.keepIn K (.ref f7)=true)
  (a8:W.nsIn K mainGlobals "paired"=some (some (.ref f8)))
  (l8:K.lookup f8=some ⟨oc8,od8,.func (W.fnOf "paired" "paired" (j9 zP) (jY zP) (jH zP) .none kV8 dc8 pm8 an8 cd8 ct8),sl8⟩)
  (c8:W.codeIn K cd8 "paired"=true)
  (k8:W.keepIn K (.ref f8)=true)
  (a9:W.nsIn K mainGlobals "come_read"=some (some (.ref f9)))
  (l9:K.lookup f9=some ⟨oc9,od9,.func (W.fnOf "come_read" "come_read" (j9 v6) (jY v6) (jH v6) .none kV9 dc9 pm9 an9 cd9 ct9),sl9⟩)
  (c9:W.codeIn K cd9 "come_read"=true)
  (k9:W.keepIn K (.ref f9)=true)
  (a10:W.nsIn K mainGlobals "named_read"=some (some (.ref f10)))
  (l10:K.lookup f10=some ⟨oc10,od10,.func (W.fnOf "named_read" "named_read" (j9 zN) (jY zN) (jH zN) .none kV10 dc10 pm10 an10 cd10 ct10),sl10⟩)
  (c10:W.codeIn K cd10 "named_read"=true)
  (k10:W.keepIn K (.ref f10)=true)
  (a11:W.nsIn K mainGlobals "amount_read"=some (some (.ref f11)))
  (l11:K.lookup f11=some ⟨oc11,od11,.func (W.fnOf "amount_read" "amount_read" (j9 zJ) (jY zJ) (jH zJ) .none kV11 dc11 pm11 an11 cd11 ct11),sl11⟩)
  (c11:W.codeIn K cd11 "amount_read"=true)
  (k11:W.keepIn K (.ref f11)=true)
  (a12:W.nsIn K mainGlobals "entry_of"=some (some (.ref f12)))
  (l12:K.lookup f12=some ⟨oc12,od12,.func (W.fnOf "entry_of" "entry_of" (j9 zK) (jY zK) (jH zK) .none kV12 dc12 pm12 an12 cd12 ct12),sl12⟩)
  (c12:W.codeIn K cd12 "entry_of"=true)
  (k12:W.keepIn K (.ref f12)=true)
  (a13:W.nsIn K mainGlobals "entries_of"=some (some (.ref f13)))
  (l13:K.lookup f13=some ⟨oc13,od13,.func (W.fnOf "entries_of" "entries_of" (j9 yJ) (jY yJ) (jH yJ) .none kV13 dc13 pm13 an13 cd13 ct13),sl13⟩)
  (c13:W.codeIn K cd13 "entries_of"=true)
  (k13:W.keepIn K (.ref f13)=true)
  (a14:W.nsIn K mainGlobals "_law_name"=some (some (.ref f14)))
  (l14:K.lookup f14=some ⟨oc14,od14,.func (W.fnOf "_law_name" "_law_name" (j9 zF) (jY zF) (jH zF) .none kV14 dc14 pm14 an14 cd14 ct14),sl14⟩)
  (c14:W.codeIn K cd14 "_law_name"=true)
  (k14:W.keepIn K (.ref f14)=true)
  (a15:W.nsIn K mainGlobals "_law_entry"=some (some (.ref f15)))
  (l15:K.lookup f15=some ⟨oc15,od15,.func (W.fnOf "_law_entry" "_law_entry" (j9 zE) (jY zE) (jH zE) .none kV15 dc15 pm15 an15 cd15 ct15),sl15⟩)
  (c15:W.codeIn K cd15 "_law_entry"=true)
  (k15:W.keepIn K (.ref f15)=true)
  (a16:W.nsIn K mainGlobals "_law_words"=some (some (.ref f16)))
  (l16:K.lookup f16=some ⟨oc16,od16,.func (W.fnOf "_law_words" "_law_words" (j9 zI) (jY zI) (jH zI) .none kV16 dc16 pm16 an16 cd16 ct16),sl16⟩)
  (c16:W.codeIn K cd16 "_law_words"=true)
  (k16:W.keepIn K (.ref f16)=true)
  (a17:W.nsIn K mainGlobals "_law_put"=some (some (.ref f17)))
  (l17:K.lookup f17=some ⟨oc17,od17,.func (W.fnOf "_law_put" "_law_put" (j9 zG) (jY zG) (jH zG) .none kV17 dc17 pm17 an17 cd17 ct17),sl17⟩)
  (c17:W.codeIn K cd17 "_law_put"=true)
  (k17:W.keepIn K (.ref f17)=true)
  (a18:W.nsIn K mainGlobals "_law_bad_words"=some (some (.ref f18)))
  (l18:K.lookup f18=some ⟨oc18,od18,.func (W.fnOf "_law_bad_words" "_law_bad_words" (j9 zD) (jY zD) (jH zD) .none kV18 dc18 pm18 an18 cd18 ct18),sl18⟩)
  (c18:W.codeIn K cd18 "_law_bad_words"=true)
  (k18:W.keepIn K (.ref f18)=true)
  (a19:W.nsIn K mainGlobals "_law_refused"=some (some (.ref f19)))
  (l19:K.lookup f19=some ⟨oc19,od19,.func (W.fnOf "_law_refused" "_law_refused" (j9 zH) (jY zH) (jH zH) .none kV19 dc19 pm19 an19 cd19 ct19),sl19⟩)
  (c19:W.codeIn K cd19 "_law_refused"=true)
  (k19:W.keepIn K (.ref f19)=true)
  (a20:W.nsIn K mainGlobals "law"=some (some (.ref f20)))
  (l20:K.lookup f20=some ⟨oc20,od20,.func (W.fnOf "law" "law" (j9 qY) (jY qY) (jH qY) .none kV20 dc20 pm20 an20 cd20 ct20),sl20⟩)
  (c20:W.codeIn K cd20 "law"=true)
  (k20:W.keepIn K (.ref f20)=true)
  (z_all:W.nsIn K mainGlobals "all"=some none)
  (z_len:W.nsIn K mainGlobals "len"=some none)
  (z_int:W.nsIn K mainGlobals "int"=some none)
  (z_tuple:W.nsIn K mainGlobals "tuple"=some none)
  (z_zip:W.nsIn K mainGlobals "zip"=some none)
  (z_range:W.nsIn K mainGlobals "range"=some none)
  (z_isinstance:W.nsIn K mainGlobals "isinstance"=some none)
  (z_str:W.nsIn K mainGlobals "str"=some none)
  (z_ValueError:W.nsIn K mainGlobals "ValueError"=some none)
  (z_list:W.nsIn K mainGlobals "list"=some none)
  (gLETTERS:W.nsIn K mainGlobals "LETTERS"=some (some (.str lettersS j6)))
  (gFIGURES:W.nsIn K mainGlobals "FIGURES"=some (some (.str v2 j5)))
  (gMOST_SIGNS:W.nsIn K mainGlobals "MOST_SIGNS"=some (some (.int 12 j8)))
  (gMOST_PAIRS:W.nsIn K mainGlobals "MOST_PAIRS"=some (some (.int 8 j7)))
  (xX_BadRow:W.excIn K eB [.type "ValueError",.type "Exception",.type "BaseException",.type "object"] "ValueError.__new__"=true)
  (gWAYS:W.nsIn K mainGlobals "WAYS"=some (some (.ref tW)))
  (lW:K.lookup tW=some oW)
  (clW:oW.cls=.type "tuple")
  (dW:oW.data=.seq ([.str "up" tu1,.str "down" tu2]:List Value).toArray nW)
  (eg_:W.findIn K (.ref eB) "__getattribute__"=some (some (.builtin "BaseException.__getattribute__")))
  (en_:W.findIn K (.ref eB) "__getattr__"=some none)
  (ec_:W.findIn K (.ref eB) "__class__"=some (some (.builtin "object.__class__")))
  (eo_:W.mroIn K eB (.type "object")=some true)
  (eb_:W.subIn K (.ref eB) (.type "BaseException")=some true)
  (clB_:W.clsIn K eB=some cd_eB)
  (exm_:W.exmOne K (.ref eB) (.ref eB)=some true)
  (kit_T:W.kitOne K (.ref eB) (.ref eT)=some false)
  (kit_U:W.kitOne K (.ref eB) (.ref eU)=some false)
  (kit_N:W.kitOne K (.ref eB) (.ref eN)=some false)
  (kit_C:W.kitOne K (.ref eB) (.ref eC)=some true)
  (kit_V:W.kitOne K (.ref eB) (.type "ValueError")=some true) :
  ∃fd:FuncData,(∀(s:Shared) (v:Value),BindsTo s fd ⟨[v],[]⟩ [("script",v)])∧∀base:Heap,K.In base→base.Ns mainGlobals mg→FnOk l.prog w K mg base kS 8 fa fd ["script"] (Q8 K):=by
 have e:=hfa.symm.trans (W.mg_of X G a20)
 cases e
 have F0:=kH (st:=yN) l0 c0 k0
 have b0:=F0.binds (ps:=["word","signs"]) fun _ _ _ _ _ _ us hl=>match us,hl with|[_,_],_=>rfl
 have F1:=kH (st:=zL) l1 c1 k1
 have b1:=F1.binds (ps:=["word"]) fun _ _ _ _ _ _ us hl=>match us,hl with|[_],_=>rfl
 have F2:=kH (st:=zM) l2 c2 k2
 have b2:=F2.binds (ps:=["word"]) fun _ _ _ _ _ _ us hl=>match us,hl with|[_],_=>rfl
 have F3:=kH (st:=zO) l3 c3 k3
 have b3:=F3.binds (ps:=["word"]) fun _ _ _ _ _ _ us hl=>match us,hl with|[_],_=>rfl
 have F4:=kH (st:=yK) l4 c4 k4
 have b4:=F4.binds (ps:=["words"]) fun _ _ _ _ _ _ us hl=>match us,hl with|[_],_=>rfl
 have F5:=kH (st:=yL) l5 c5 k5
 have b5:=F5.binds (ps:=["words"]) fun _ _ _ _ _ _ us hl=>match us,hl with|[_],_=>rfl
 have F6:=kH (st:=yM) l6 c6 k6
 have b6:=F6.binds (ps:=["text"]) fun _ _ _ _ _ _ us hl=>match us,hl with|[_],_=>rfl
 have F7:=kH (st:=zQ) l7 c7 k7
 have b7:=F7.binds (ps:=["words","many"]) fun _ _ _ _ _ _ us hl=>match us,hl with|[_,_],_=>rfl
 have F8:=kH (st:=zP) l8 c8 k8
 have b8:=F8.binds (ps:=["parts"]) fun _ _ _ _ _ _ us hl=>match us,hl with|[_],_=>rfl
 have F9:=kH (st:=v6) l9 c9 k9
 have b9:=F9.binds (ps:=["words"]) fun _ _ _ _ _ _ us hl=>match us,hl with|[_],_=>rfl
 have F10:=kH (st:=zN) l10 c10 k10
 have b10:=F10.binds (ps:=["words"]) fun _ _ _ _ _ _ us hl=>match us,hl with|[_],_=>rfl
 have F11:=kH (st:=zJ) l11 c11 k11
 have b11:=F11.binds (ps:=["words"]) fun _ _ _ _ _ _ us hl=>match us,hl with|[_],_=>rfl
 have F12:=kH (st:=zK) l12 c12 k12
 have b12:=F12.binds (ps:=["row"]) fun _ _ _ _ _ _ us hl=>match us,hl with|[_],_=>rfl
 have F13:=kH (st:=yJ) l13 c13 k13
 have b13:=F13.binds (ps:=["text"]) fun _ _ _ _ _ _ us hl=>match us,hl with|[_],_=>rfl
 have F14:=kH (st:=zF) l14 c14 k14
 have b14:=F14.binds (ps:=["seed"]) fun _ _ _ _ _ _ us hl=>match us,hl with|[_],_=>rfl
 have F15:=kH (st:=zE) l15 c15 k15
 have b15:=F15.binds (ps:=["cell"]) fun _ _ _ _ _ _ us hl=>match us,hl with|[_],_=>rfl
 have F16:=kH (st:=zI) l16 c16 k16
 have b16:=F16.binds (ps:=["entry"]) fun _ _ _ _ _ _ us hl=>match us,hl with|[_],_=>rfl
 have F17:=kH (st:=zG) l17 c17 k17
 have b17:=F17.binds (ps:=["words","at","word"]) fun _ _ _ _ _ _ us hl=>match us,hl with|[_,_,_],_=>rfl
 have F18:=kH (st:=zD) l18 c18 k18
 have b18:=F18.binds (ps:=["words","way","at"]) fun _ _ _ _ _ _ us hl=>match us,hl with|[_,_,_],_=>rfl
 have F19:=kH (st:=zH) l19 c19 k19
 have b19:=F19.binds (ps:=["row","many"]) fun _ _ _ _ _ _ us hl=>match us,hl with|[_,_],_=>rfl
 have F20:=kH (st:=qY) l20 c20 k20
 have b20:=F20.binds (ps:=["script"]) fun _ _ _ _ _ _ us hl=>match us,hl with|[_],_=>rfl
 have T:Txt K mg j6 j5 j8 j7 eC eB eN eU eT tW:={z_all:=W.mg_none_of X G z_all,z_len:=W.mg_none_of X G z_len,z_int:=W.mg_none_of X G z_int,z_tuple:=W.mg_none_of X G z_tuple,z_zip:=W.mg_none_of X G z_zip,z_range:=W.mg_none_of X G z_range,z_isinstance:=W.mg_none_of X G z_isinstance,z_str:=W.mg_none_of X G z_str,z_ValueError:=W.mg_none_of X G z_ValueError,z_list:=W.mg_none_of X G z_list,g_LETTERS:=W.mg_of X G gLETTERS,g_FIGURES:=W.mg_of X G gFIGURES,g_MOST_SIGNS:=W.mg_of X G gMOST_SIGNS,g_MOST_PAIRS:=W.mg_of X G gMOST_PAIRS,c_CanalError:=W.mg_of X G aX_CanalError,c_BadRow:=W.mg_of X G aX_BadRow,c_BadNumber:=W.mg_of X G aX_BadNumber,c_Unknown:=W.mg_of X G aX_Unknown,c_Torn:=W.mg_of X G aX_Torn,x_BadRow:=xX_BadRow,g_WAYS:=W.mg_of X G gWAYS,ways:=fun H=>rA (its:=[.str "up" tu1,.str "down" tu2]) lW clW dW zz2 (.cons ⟨_,rfl⟩ (.cons ⟨_,rfl⟩ .nil)),at_:=⟨eg_,en_,ec_,eo_,eb_⟩,cl:=by rw [clB_];rfl,exm:=exm_,k_T:=kit_T,k_U:=kit_U,k_N:=kit_N,k_C:=kit_C,k_V:=kit_V}
 refine ⟨W.fnOf "law" "law" (j9 qY) (jY qY) (jH qY) .none kV20 dc20 pm20 an20 cd20 ct20,fun s v=>.of_eq rfl,fun base _ _=>?_⟩
 have D0:Def l.prog w K mg base 1 "written_with" _ [] _:=⟨_,_,[],lM F0 T,W.mg_of X G a0,k0,.nil,b0⟩
 have D1:Def l.prog w K mg base 2 "is_name" _ [] _:=⟨_,_,[],lC F1 T D0,W.mg_of X G a1,k1,.nil,b1⟩
 have D2:Def l.prog w K mg base 2 "is_number" _ [] _:=⟨_,_,[],lD F2 T D0,W.mg_of X G a2,k2,.nil,b2⟩
 have G3:=lG (P:=l.prog) (w:=w) (base:=base) F3 T D2
 have GX3:=G3
 have DX3:DefX l.prog w K mg base 3 "number_of" _ [] _:=⟨_,_,[],GX3,W.mg_of X G a3,k3,.nil,b3⟩
 have G4:=lH (P:=l.prog) (w:=w) (base:=base) F4 T DX3
 have GX4:=G4
 have DX4:DefX l.prog w K mg base 4 "numbers_of" _ [] _:=⟨_,_,[],GX4,W.mg_of X G a4,k4,.nil,b4⟩
 have G5:=lJ (P:=l.prog) (w:=w) (base:=base) F5 T D1
 have GX5:=G5
 have DX5:DefX l.prog w K mg base 3 "refuse_no_names" _ [] _:=⟨_,_,[],GX5,W.mg_of X G a5,k5,.nil,b5⟩
 have D6:Def l.prog w K mg base 1 "rows_of" _ [] _:=⟨_,_,[],lL F6 T,W.mg_of X G a6,k6,.nil,b6⟩
 have G7:=lK (P:=l.prog) (w:=w) (base:=base) F7 T
 have GX7:=G7
 have DX7:DefX l.prog w K mg base 1 "refuse_other_length" _ [] _:=⟨_,_,[],GX7,W.mg_of X G a7,k7,.nil,b7⟩
 have G8:=lI (P:=l.prog) (w:=w) (base:=base) F8 T
 have GX8:=G8
 have DX8:DefX l.prog w K mg base 1 "paired" _ [] _:=⟨_,_,[],GX8,W.mg_of X G a8,k8,.nil,b8⟩
 have G9:=i9 (P:=l.prog) (w:=w) (base:=base) F9 T DX8 DX5
 have GX9:=G9
 have DX9:DefX l.prog w K mg base 4 "come_read" _ [] _:=⟨_,_,[],GX9,W.mg_of X G a9,k9,.nil,b9⟩
 have G10:=lF (P:=l.prog) (w:=w) (base:=base) F10 T DX7 DX5
 have GX10:=G10
 have DX10:DefX l.prog w K mg base 4 "named_read" _ [] _:=⟨_,_,[],GX10,W.mg_of X G a10,k10,.nil,b10⟩
 have G11:=i8 (P:=l.prog) (w:=w) (base:=base) F11 T DX7 DX5 DX3
 have GX11:=G11
 have DX11:DefX l.prog w K mg base 4 "amount_read" _ [] _:=⟨_,_,[],GX11,W.mg_of X G a11,k11,.nil,b11⟩
 have G12:=lB (P:=l.prog) (w:=w) (base:=base) F12 T DX9 DX8 DX4 DX10 DX11
 have GX12:=G12
 have DX12:DefX l.prog w K mg base 5 "entry_of" _ [] _:=⟨_,_,[],GX12,W.mg_of X G a12,k12,.nil,b12⟩
 have G12:=GX12.noX (sp':=dX) oS
 have D12:Def l.prog w K mg base 5 "entry_of" _ [] _:=⟨_,_,[],G12,W.mg_of X G a12,k12,.nil,b12⟩
 have G13:=lA (P:=l.prog) (w:=w) (base:=base) F13 T D6 DX12
 have GX13:=G13
 have DX13:DefX l.prog w K mg base 6 "entries_of" _ [] _:=⟨_,_,[],GX13,W.mg_of X G a13,k13,.nil,b13⟩
 have G13:=GX13.noX (sp':=ZR) mV
 have D13:Def l.prog w K mg base 6 "entries_of" _ [] _:=⟨_,_,[],G13,W.mg_of X G a13,k13,.nil,b13⟩
 have D14:Def l.prog w K mg base 1 "_law_name" _ [] _:=⟨_,_,[],i4 F14 T,W.mg_of X G a14,k14,.nil,b14⟩
 have D15:Def l.prog w K mg base 2 "_law_entry" _ [] _:=⟨_,_,[],i3 F15 T D14,W.mg_of X G a15,k15,.nil,b15⟩
 have D16:Def l.prog w K mg base 1 "_law_words" _ [] _:=⟨_,_,[],i7 F16 T,W.mg_of X G a16,k16,.nil,b16⟩
 have D17:Def l.prog w K mg base 1 "_law_put" _ [] _:=⟨_,_,[],i5 F17 T,W.mg_of X G a17,k17,.nil,b17⟩
 have D18:Def l.prog w K mg base 2 "_law_bad_words" _ [] _:=⟨_,_,[],i2 F18 T D17,W.mg_of X G a18,k18,.nil,b18⟩
 have D19:Def l.prog w K mg base 7 "_law_refused" _ [] _:=⟨_,_,[],i6 F19 T DX13 DX12,W.mg_of X G a19,k19,.nil,b19⟩
 have G20:=lE (P:=l.prog) (w:=w) (base:=base) F20 T D16 D15 D18 D13 D19
 exact G20
theorem walk {l:W.OpenLaw} {q:Program} {loose:List Str} {XP:(Str→Option Value)→Heap→Prop} {YP:World→Heap→Prop} {d:DefRec} {K:Params→W.Frag} (hn:l.most=some 63) (hdf:d.params.defaults=[])
  (hY:∀(w:World) (h:Heap),YP w h→(K w.params).In h)
  (F:∀(w:World) (mg:Str→Option Value) (fa:Addr) (h:Heap),(K w.params).In h→h.Ns mainGlobals mg→mg d.name=some (.ref fa)→
   ∃fd:FuncData,(∀(s:Shared) (u:Value),BindsTo s fd ⟨[u],[]⟩ [("script",u)])∧∀base:Heap,(K w.params).In base→base.Ns mainGlobals mg→FnOk l.prog w (K w.params) mg base kS 8 fa fd ["script"] (Q8 (K w.params))) :
  W.WalkO q loose XP YP l.row.toRowW d [] (fun f vs=>PySem.call f vs) :=
 L2.walk_of (n:=63) (k:=8) (x:="script") (CX:=fun _=>kS) (sp:=fun w=>Q8 (K w.params)) hn (by decide) hdf ⟨rfl,by decide,by decide⟩ hY F (fun _ _ a ns hl _ hS=>⟨a,ns,rfl,hS,hl,fun _=>rfl⟩) fun _ _ _ _ _ z=>z
end My
open PySem PySem.W PyProof.Rows
set_option maxRecDepth 100000 in
set_option maxHeartbeats 0 in
theorem PySem.Challenge.cw_lockhouse_k73_no_entries_refused_holds : PySem.Challenge.rw_lockhouse_k73_no_entries_refused.Holds := by
 w_on;o_law;k_head;(case hw=>w_witness2)
 k_fill
 refine My.walk (l:=PySem.Challenge.rw_lockhouse_k73_no_entries_refused) rfl rfl (fun w h Y=>PySem.W.kIn_of Y) ?F
 case F =>
  intro w mg fa h KX G hmg
  refine' My.all_mk KX G hmg ?aX_CanalError ?aX_BadRow ?aX_BadNumber ?aX_Unknown ?aX_Torn ?a0 ?l0 ?c0 ?k0 ?a1 ?l1 ?c1 ?k1 ?a2 ?l2 ?c2 ?k2 ?a3 ?l3 ?c3 ?k3 ?a4 ?l4 ?c4 ?k4 ?a5 ?l5 ?c5 ?k5 ?a6 ?l6 ?c6 ?k6 ?a7 ?l7 ?c7 ?k7 ?a8 ?l8 ?c8 ?k8 ?a9 ?l9 ?c9 ?k9 ?a10 ?l10 ?c10 ?k10 ?a11 ?l11 ?c11 ?k11 ?a12 ?l12 ?c12 ?k12 ?a13 ?l13 ?c13 ?k13 ?a14 ?l14 ?c14 ?k14 ?a15 ?l15 ?c15 ?k15 ?a16 ?l16 ?c16 ?k16 ?a17 ?l17 ?c17 ?k17 ?a18 ?l18 ?c18 ?k18 ?a19 ?l19 ?c19 ?k19 ?a20 ?l20 ?c20 ?k20 ?z_all ?z_len ?z_int ?z_tuple ?z_zip ?z_range ?z_isinstance ?z_str ?z_ValueError ?z_list ?gLETTERS ?gFIGURES ?gMOST_SIGNS ?gMOST_PAIRS ?xX_BadRow ?gWAYS ?lW ?clW ?dW ?eg_ ?en_ ?ec_ ?eo_ ?eb_ ?clB_ ?exm_ ?kit_T ?kit_U ?kit_N ?kit_C ?kit_V
  (case aX_CanalError=>first|k_is|rfl)
  (case aX_BadRow=>first|k_is|rfl)
  (case aX_BadNumber=>first|k_is|rfl)
  (case aX_Unknown=>first|k_is|rfl)
  (case aX_Torn=>first|k_is|rfl)
  (case a0=>first|k_is|rfl)
  (case l0=>first|k_is|rfl)
  (case c0=>first|k_is|rfl)
  (case k0=>first|k_is|rfl)
  (case a1=>first|k_is|rfl)
  (case l1=>first|k_is|rfl)
  (case c1=>first|k_is|rfl)
  (case k1=>first|k_is|rfl)
  (case a2=>first|k_is|rfl)
  (case l2=>first|k_is|rfl)
  (case c2=>first|k_is|rfl)
  (case k2=>first|k_is|rfl)
  (case a3=>first|k_is|rfl)
  (case l3=>first|k_is|rfl)
  (case c3=>first|k_is|rfl)
  (case k3=>first|k_is|rfl)
  (case a4=>first|k_is|rfl)
  (case l4=>first|k_is|rfl)
  (case c4=>first|k_is|rfl)
  (case k4=>first|k_is|rfl)
  (case a5=>first|k_is|rfl)
  (case l5=>first|k_is|rfl)
  (case c5=>first|k_is|rfl)
  (case k5=>first|k_is|rfl)
  (case a6=>first|k_is|rfl)
  (case l6=>first|k_is|rfl)
  (case c6=>first|k_is|rfl)
  (case k6=>first|k_is|rfl)
  (case a7=>first|k_is|rfl)
  (case l7=>first|k_is|rfl)
  (case c7=>first|k_is|rfl)
  (case k7=>first|k_is|rfl)
  (case a8=>first|k_is|rfl)
  (case l8=>first|k_is|rfl)
  (case c8=>first|k_is|rfl)
  (case k8=>first|k_is|rfl)
  (case a9=>first|k_is|rfl)
  (case l9=>first|k_is|rfl)
  (case c9=>first|k_is|rfl)
  (case k9=>first|k_is|rfl)
  (case a10=>first|k_is|rfl)
  (case l10=>first|k_is|rfl)
  (case c10=>first|k_is|rfl)
  (case k10=>first|k_is|rfl)
  (case a11=>first|k_is|rfl)
  (case l11=>first|k_is|rfl)
  (case c11=>first|k_is|rfl)
  (case k11=>first|k_is|rfl)
  (case a12=>first|k_is|rfl)
  (case l12=>first|k_is|rfl)
  (case c12=>first|k_is|rfl)
  (case k12=>first|k_is|rfl)
  (case a13=>first|k_is|rfl)
  (case l13=>first|k_is|rfl)
  (case c13=>first|k_is|rfl)
  (case k13=>first|k_is|rfl)
  (case a14=>first|k_is|rfl)
  (case l14=>first|k_is|rfl)
  (case c14=>first|k_is|rfl)
  (case k14=>first|k_is|rfl)
  (case a15=>first|k_is|rfl)
  (case l15=>first|k_is|rfl)
  (case c15=>first|k_is|rfl)
  (case k15=>first|k_is|rfl)
  (case a16=>first|k_is|rfl)
  (case l16=>first|k_is|rfl)
  (case c16=>first|k_is|rfl)
  (case k16=>first|k_is|rfl)
  (case a17=>first|k_is|rfl)
  (case l17=>first|k_is|rfl)
  (case c17=>first|k_is|rfl)
  (case k17=>first|k_is|rfl)
  (case a18=>first|k_is|rfl)
  (case l18=>first|k_is|rfl)
  (case c18=>first|k_is|rfl)
  (case k18=>first|k_is|rfl)
  (case a19=>first|k_is|rfl)
  (case l19=>first|k_is|rfl)
  (case c19=>first|k_is|rfl)
  (case k19=>first|k_is|rfl)
  (case a20=>first|k_is|rfl)
  (case l20=>first|k_is|rfl)
  (case c20=>first|k_is|rfl)
  (case k20=>first|k_is|rfl)
  (case z_all=>first|k_is|rfl)
  (case z_len=>first|k_is|rfl)
  (case z_int=>first|k_is|rfl)
  (case z_tuple=>first|k_is|rfl)
  (case z_zip=>first|k_is|rfl)
  (case z_range=>first|k_is|rfl)
  (case z_isinstance=>first|k_is|rfl)
  (case z_str=>first|k_is|rfl)
  (case z_ValueError=>first|k_is|rfl)
  (case z_list=>first|k_is|rfl)
  (case gLETTERS=>first|k_is|rfl)
  (case gFIGURES=>first|k_is|rfl)
  (case gMOST_SIGNS=>first|k_is|rfl)
  (case gMOST_PAIRS=>first|k_is|rfl)
  (case xX_BadRow=>first|k_is|k_exc|kit_is|kts_exm|rfl)
  (case gWAYS=>first|k_is|rfl)
  (case lW=>first|k_is|rfl)
  (case clW=>first|k_is|rfl)
  (case dW=>first|k_is|rfl)
  (case eg_=>first|k_is|rfl)
  (case en_=>first|k_is|rfl)
  (case ec_=>first|k_is|rfl)
  (case eo_=>first|k_is|rfl)
  (case eb_=>first|k_is|rfl)
  (case clB_=>first|k_is|rfl)
  (case exm_=>first|k_is|k_exc|kit_is|kts_exm|rfl)
  (case kit_T=>first|k_is|k_exc|kit_is|kts_exm|rfl)
  (case kit_U=>first|k_is|k_exc|kit_is|kts_exm|rfl)
  (case kit_N=>first|k_is|k_exc|kit_is|kts_exm|rfl)
  (case kit_C=>first|k_is|k_exc|kit_is|kts_exm|rfl)
  (case kit_V=>first|k_is|k_exc|kit_is|kts_exm|rfl)
