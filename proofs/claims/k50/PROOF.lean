import PyProof.Rows.All
import Wide.All
import OpenK.AllK
import Wide.FinOn
import Lean
import PyProof.EqAt
import PyProof.EqKinds
import PyProof.TupleCall
import PyProof.NeKinds
import OpenK.KOwn
import KE.KTryMore
import KE.RegKTryMore
import PyProof.NsDelKeeps
import KE.KIntText
import PySem.Challenge.RW_lockhouse_k50_whole_pass_by_the_machine
set_option Elab.async false
set_option linter.all false
set_option maxRecDepth 100000
namespace L2
open PySem PySem.Spec PyProof.Rows
abbrev j6:=Sum Int Str
def eN:j6→Value→Bool
 |.inl k,v=>Value.isInt k v
 |.inr x,v=>Value.isStrOf x v
def MF (w:World):j6→Int
 |.inl k=>hashInt k
 |.inr x=>hashStr w x
theorem JG:∀{k:j6} {v:Value},eN k v=true→(∃i t,k=Sum.inl i∧v=Value.int i t)∨(∃x t,k=Sum.inr x∧v=Value.str x t)
 |.inl i,v,h=>by
  obtain ⟨t,e⟩:=Value.isInt_shape (k:=i) (v:=v) h
  exact .inl ⟨i,t,rfl,e⟩
 |.inr x,v,h=>by
  obtain ⟨t,e⟩:=Value.isStrOf_shape (x:=x) (v:=v) h
  exact .inr ⟨x,t,rfl,e⟩
theorem FR (i:Int) (t:Tok):eN (.inl i) (.int i t)=true:=by simp [eN,Value.isInt]
theorem FQ (x:Str) (t:Tok):eN (.inr x) (.str x t)=true:=by simp [eN,Value.isStrOf]
theorem KR (a b:Int):decide ((Sum.inl a:j6)=Sum.inl b)=(a == b):=by
 by_cases e:a=b
 ·subst e;simp
 ·have h:¬(Sum.inl a:j6)=Sum.inl b:=fun q=>e (Sum.inl.inj q)
  rw [decide_eq_false h]
  exact (beq_eq_false_iff_ne.mpr e).symm
theorem KO (a b:Str):decide ((Sum.inr a:j6)=Sum.inr b)=decide (a=b):=by
 by_cases e:a=b
 ·subst e;simp
 ·have h:¬(Sum.inr a:j6)=Sum.inr b:=fun q=>e (Sum.inr.inj q)
  rw [decide_eq_false h,decide_eq_false e]
theorem KQ (a:Int) (b:Str):decide ((Sum.inl a:j6)=Sum.inr b)=false:=decide_eq_false (fun q=>nomatch q)
theorem KP (a:Str) (b:Int):decide ((Sum.inr a:j6)=Sum.inl b)=false:=decide_eq_false (fun q=>nomatch q)
def yJ (prog:Program) (w:World):PySem.KeyKind prog w j6 where
 is:=eN
 hash:=MF w
 inj:=fun v a b ha hb=>by
  rcases JG ha with ⟨i,t,rfl,rfl⟩|⟨x,t,rfl,rfl⟩
  ·rcases JG hb with ⟨j,u,rfl,e⟩|⟨y,u,rfl,e⟩
   ·injection e with e1 _;rw [e1]
   ·exact nomatch e
  ·rcases JG hb with ⟨j,u,rfl,e⟩|⟨y,u,rfl,e⟩
   ·exact nomatch e
   ·injection e with e1 _;rw [e1]
 byValue:=fun k v h=>by
  rcases JG h with ⟨i,t,rfl,rfl⟩|⟨x,t,rfl,rfl⟩<;>rfl
 pyHash:=fun hv h=>by
  rcases JG hv with ⟨i,t,rfl,rfl⟩|⟨x,t,rfl,rfl⟩
  ·exact wpAny_pyHash_int h
  ·exact wpAny_pyHash_str h
 eqBool:=fun hu hv h=>by
  rcases JG hu with ⟨i,t,rfl,rfl⟩|⟨x,t,rfl,rfl⟩
  ·rcases JG hv with ⟨j,u,rfl,rfl⟩|⟨y,u,rfl,rfl⟩
   ·rw [KR] at h;exact wpAny_eqBool_int h
   ·rw [KQ] at h;exact SeqAt.EqAt.int_str i t y u _ _ _ _ h
  ·rcases JG hv with ⟨j,u,rfl,rfl⟩|⟨y,u,rfl,rfl⟩
   ·rw [KP] at h;exact SeqAt.EqAt.str_int x t j u _ _ _ _ h
   ·rw [KO] at h;exact wpAny_eqBool_str h
 «strs»:=fun k x t v h=>by
  rcases JG h with ⟨i,u,rfl,e⟩|⟨y,u,rfl,e⟩
  ·exact nomatch e
  ·injection e with e1 _
   subst e1
   cases v<;>rfl
theorem DZ (prog:Program) (w:World) (i:Int) (t:Tok):(yJ prog w).is (.inl i) (.int i t)=true:=FR i t
theorem DY (prog:Program) (w:World) (x:Str) (t:Tok):(yJ prog w).is (.inr x) (.str x t)=true:=FQ x t
end L2
namespace L2
open PySem PySem.Spec PyProof.Rows
inductive V where
 |non|bl (b:Bool)|int (i:Int)|str (x:Str)|byt (b:Array UInt8)|flt (b:UInt64)|ref (a:Addr)|ty (n:String)
 deriving DecidableEq
def RelV:V→Value→Prop
 |.non,u=>u=Value.none
 |.bl b,u=>u=Value.bool b
 |.int i,u=>∃t,u=Value.int i t
 |.str x,u=>∃t,u=Value.str x t
 |.byt b,u=>∃t,u=Value.bytes b t
 |.flt b,u=>∃t,u=Value.float b t
 |.ref a,u=>u=Value.ref a
 |.ty n,u=>u=Value.type n
abbrev Vals:List V→List Value→Prop:=Paired RelV
theorem Vals.length {xs:List V} {us:List Value} (r:Vals xs us):xs.length=us.length:=Paired.length r
theorem Vals.get:∀{xs:List V} {us:List Value} {i:Nat} {x:V},Vals xs us→xs[i]?=some x→∃u,us[i]?=some u∧RelV x u
 |_,_,_,_,.nil,e=>by simp at e
 |_,_,0,_,.cons r _,e=>by simp at e;subst e;exact ⟨_,rfl,r⟩
 |_,_,i+1,x,.cons _ t,e=>by
  obtain ⟨u,h1,h2⟩:=Vals.get (i:=i) (x:=x) t (by simpa using e)
  exact ⟨u,by simpa using h1,h2⟩
theorem Vals.set {x:V} {u:Value} (r:RelV x u):∀{xs:List V} {us:List Value} (i:Nat),Vals xs us→Vals (xs.set i x) (us.set i u)
 |_,_,_,.nil=>.nil
 |_,_,0,.cons _ t=>.cons r t
 |_,_,i+1,.cons q t=>.cons q (Vals.set r i t)
theorem Vals.append:∀{xs ys:List V} {us ws:List Value},Vals xs us→Vals ys ws→Vals (xs++ys) (us++ws)
 |_,_,_,_,.nil,s=>s
 |_,_,_,_,.cons r t,s=>.cons r (Vals.append t s)
def RelO:Option V→Option Value→Prop
 |some v,some u=>RelV v u
 |none,none=>True
 |_,_=>False
def KV {κ:Type}:List (κ×V)→List (κ×Value)→Prop:=Paired fun (p:κ×V) (q:κ×Value)=>p.1=q.1∧RelV p.2 q.2
def kV:j6→V
 |.inl i=>.int i
 |.inr x=>.str x
inductive HO where
 /-- a list -/
 |lst (xs:List V)
 /-- a tuple (never changes) -/
 |tup (xs:List V)
 /-- a dict whose keys are ints and texts;one whose keys are tuples of ints and texts (the empty one is both) -/
 |dK (kvs:List (j6×V))|dT (kvs:List (List j6×V))
 /-- a set of ints: its members,its size -/
 |set (S:Int→Bool) (n:Nat)
 /-- an instance of the class at C,its dict at dx,its attributes -/
 |ins (C dx:Addr) (fs:List (Str×V))
 /-- the dict of the instance at x -/
 |own (x:Addr)
 /-- the dict of an exception -/
 |xd (fs:List (Str×V))
 /-- a bound method,f of x -/
 |met (f x:Addr)
 /-- a range object lo,lo+1,.. below hi -/
 |rng (lo hi:Int)
 /-- a thing that is known to the object (the script;a dict while a loop walks it): read,never written while it is so -/
 |frz (o:Obj) (u:HO)
 /-- a code object's table -/
 |tbl (ps:Array Value)
 /-- any other thing,by what is true of its one object (a def of one's own: SetO a S n:=HO.ext fun h=>..) -/
 |ext (φ:Heap→Prop)
abbrev Hp:=Addr→Option HO
def upd (H:Hp) (a:Addr) (o:HO):Hp:=fun b=>if b=a then some o else H b
theorem jF {H:Hp} {a:Addr} {o:HO}:upd H a o a=some o:=by unfold upd;rw [if_pos rfl]
theorem j4 {H:Hp} {a b:Addr} {o:HO} (h:b≠a):upd H a o b=H b:=by unfold upd;rw [if_neg h]
theorem qV {H:Hp} {a b:Addr} {o u:HO} (h:H a=some o) (h':H b=some u) (d:o≠u):a≠b:=by
 intro e;subst e;rw [h] at h';exact d (Option.some.inj h')
theorem qF {H:Hp} {a b:Addr} {o:HO} (h:H a=some o) (h':H b=none):a≠b:=by
 intro e;subst e;rw [h] at h';cases h'
section
variable (P:Program) (w:World)
def ObjOk (H:Hp) (h:Heap) (a:Addr):HO→Prop
 |.lst xs=>xs.length≤sizeLine∧∃(its:List Value) (n:Nat),Vals xs its∧h.get? a=some {cls:=.type "list",data:=.seq its.toArray n}
 |.tup xs=>xs.length≤sizeLine∧∃its:List Value,Vals xs its∧IsTup h a its.toArray
 |.dK kvs=>kvs.length≤sizeLine∧(a == sysModules)=false∧∃vs,KV kvs vs∧h.DictOf (yJ P w) a vs
 |.dT kvs=>kvs.length≤sizeLine∧(a == sysModules)=false∧∃xs:List (List j6×Addr×Value),
   Paired (fun (p:List j6×V) (q:List j6×Addr×Value)=>p.1=q.1∧H q.2.1=some (.tup (p.1.map kV))∧RelV p.2 q.2.2) kvs xs∧
   ∃o es ep,h.get? a=some o∧o.ExactDict∧o.data=.dict es ep∧es.toList=xs.map (entryOfKey (tupleKind (yJ P w)))∧(xs.map (·.1)).Nodup
 |.set S n=>h.SetOf (intKind P w) a S n
 |.ins C dx fs=>H dx=some (.own a)∧fs.length≤1000∧dx≠a∧h.get? a=some (PySem.W.instObj C dx)∧
   ∃mA,h.Ns1 dx mA∧(∀f,RelO (fs.lookup f) (mA f))∧PySem.Within mA (fs.map (·.1))
 |.own _=>∃o,h.get? a=some o
 |.xd fs=>∃mA,h.Ns1 a mA∧∀f,RelO (fs.lookup f) (mA f)
 |.rng lo hi=>∃t u v,h.get? a=some {cls:=.type "range",data:=.fields #[.int lo t,.int hi u,.int 1 v]}
 |.frz o u=>h.get? a=some o∧ObjOk H h a u
 |.tbl ps=>h.get? a=some {cls:=.none,data:=.fields ps}
 |.met f x=>h.get? a=some (PySem.W.methodObj (.ref f) (.ref x))
 |.ext φ=>φ h∧(∃o,h.get? a=some o)∧∀h1 h2:Heap,φ h1→(∀o,h1.get? a=some o→h2.get? a=some o)→φ h2
def HOk (H:Hp) (h:Heap):Prop:=∀a o,H a=some o→ObjOk P w H h a o
end
section
variable {P:Program} {w:World} {H H':Hp} {h h':Heap} {a:Addr} {o:HO}
theorem ObjOk.lt (x:ObjOk P w H h a o):a<h.objs.size:=by
 cases o with
 |lst xs=>obtain ⟨_,_,_,_,e⟩:=x;exact Heap.lt_size e
 |tup xs=>obtain ⟨_,_,_,p⟩:=x;exact p.lt
 |dK kvs=>obtain ⟨_,_,_,_,o,_,_,e,_⟩:=x;exact Heap.lt_size e
 |dT kvs=>obtain ⟨_,_,_,_,o,_,_,e,_⟩:=x;exact Heap.lt_size e
 |set S n=>obtain ⟨o,_,_,_,e,_⟩:=x;exact Heap.lt_size e
 |ins C dx fs=>obtain ⟨_,_,_,e,_⟩:=x;exact Heap.lt_size e
 |own y=>obtain ⟨_,e⟩:=x;exact Heap.lt_size e
 |xd fs=>obtain ⟨_,⟨_,_,_,e,_⟩,_⟩:=x;exact Heap.lt_size e
 |rng lo hi=>obtain ⟨_,_,_,e⟩:=x;exact Heap.lt_size e
 |frz ob u=>obtain ⟨e,_⟩:=x;exact Heap.lt_size e
 |tbl ps=>exact Heap.lt_size (show h.get? a=some _ from x)
 |met f y=>exact Heap.lt_size (show h.get? a=some _ from x)
 |ext φ=>obtain ⟨_,⟨_,e⟩,_⟩:=x;exact Heap.lt_size e
theorem Paired.mapP {α β:Type} {F G:α→β→Prop}:∀{l₁:List α} {l₂:List β},Paired F l₁ l₂→(∀a b,F a b→G a b)→Paired G l₁ l₂
 |_,_,.nil,_=>.nil
 |_,_,.cons r t,f=>.cons (f _ _ r) (Paired.mapP t f)
theorem ObjOk.stay (x:ObjOk P w H h a o) (k:∀b u,(b=a∨H b=some (.own a))→h.get? b=some u→h'.get? b=some u)
  (ho:∀b,H b=some (.own a)→H' b=some (.own a)) (ht:∀b xs,H b=some (.tup xs)→H' b=some (.tup xs)):ObjOk P w H' h' a o:=by
 induction o with
 |lst xs=>obtain ⟨z,its,n,r,e⟩:=x;exact ⟨z,its,n,r,k _ _ (.inl rfl) e⟩
 |tup xs=>obtain ⟨z,its,r,ob,e,c⟩:=x;exact ⟨z,its,r,ob,k _ _ (.inl rfl) e,c⟩
 |dK kvs=>obtain ⟨z,y,vs,r,ob,es,ep,e,c⟩:=x;exact ⟨z,y,vs,r,ob,es,ep,k _ _ (.inl rfl) e,c⟩
 |dT kvs =>
  obtain ⟨z,y,xs,r,ob,es,ep,e,c⟩:=x
  exact ⟨z,y,xs,Paired.mapP r fun p q z=>⟨z.1,ht _ _ z.2.1,z.2.2⟩,ob,es,ep,k _ _ (.inl rfl) e,c⟩
 |set S n=>obtain ⟨ob,es,ep,t,e,c⟩:=x;exact ⟨ob,es,ep,t,k _ _ (.inl rfl) e,c⟩
 |ins C dx fs =>
  obtain ⟨d,z,ne,e,mA,⟨od,es,ep,e2,c⟩,r⟩:=x
  exact ⟨ho _ d,z,ne,k _ _ (.inl rfl) e,mA,⟨od,es,ep,k _ _ (.inr d) e2,c⟩,r⟩
 |own y=>obtain ⟨ob,e⟩:=x;exact ⟨ob,k _ _ (.inl rfl) e⟩
 |xd fs=>obtain ⟨mA,⟨od,es,ep,e,c⟩,r⟩:=x;exact ⟨mA,⟨od,es,ep,k _ _ (.inl rfl) e,c⟩,r⟩
 |rng lo hi=>obtain ⟨t,u,v,e⟩:=x;exact ⟨t,u,v,k _ _ (.inl rfl) e⟩
 |frz ob u ih=>obtain ⟨e,q⟩:=x;exact ⟨k _ _ (.inl rfl) e,ih q⟩
 |tbl ps =>
  have e:h.get? a=some {cls:=.none,data:=.fields ps}:=x
  show h'.get? a=some {cls:=.none,data:=.fields ps}
  exact k a _ (.inl rfl) e
 |met f y =>
  have e:h.get? a=some (PySem.W.methodObj (.ref f) (.ref y)):=x
  show h'.get? a=some (PySem.W.methodObj (.ref f) (.ref y))
  exact k a _ (.inl rfl) e
 |ext φ=>obtain ⟨p,⟨o,e⟩,st⟩:=x;exact ⟨st _ _ p fun o q=>k _ _ (.inl rfl) q,⟨o,k _ _ (.inl rfl) e⟩,st⟩
theorem HOk.lt (x:HOk P w H h) (e:H a=some o):a<h.objs.size:=(x a o e).lt
theorem HOk.fresh (x:HOk P w H h) (e:h.objs.size≤a):H a=none:=by
 cases q:H a with
 |none=>rfl
 |some u=>exact absurd (Nat.lt_of_lt_of_le (x.lt q) e) (Nat.lt_irrefl _)
theorem HOk.kept (x:HOk P w H h) (k:∀b u,h.get? b=some u→h'.get? b=some u):HOk P w H h':=fun a o e =>
 (x a o e).stay (fun b u _ q=>k b u q) (fun _ q=>q) fun _ _ q=>q
theorem HOk.laid (x:HOk P w H h) (k:∀b u,h.get? b=some u→h'.get? b=some u) (hp:h.objs.size≤a) (new:ObjOk P w (upd H a o) h' a o):HOk P w (upd H a o) h':=fun b u e=>by
 have hn:=x.fresh hp
 by_cases hb:b=a
 ·subst hb;rw [jF] at e;cases e;exact new
 ·rw [j4 hb] at e
  exact (x b u e).stay (fun c v _ q=>k c v q) (fun c q=>by rw [j4 (qF q hn)];exact q) fun c xs q=>by rw [j4 (qF q hn)];exact q
end
def Rd (H:Hp) (a:Addr) (u:HO):Prop:=H a=some u∨∃o,H a=some (.frz o u)
theorem Rd.of {H:Hp} {a:Addr} {u:HO} (h:H a=some u):Rd H a u:=.inl h
theorem Rd.ok {P:Program} {w:World} {H:Hp} {h:Heap} {a:Addr} {u:HO} (r:Rd H a u) (x:HOk P w H h):ObjOk P w H h a u:=by
 rcases r with r|⟨o,r⟩
 ·exact x a u r
 ·obtain ⟨_,q⟩:=x a _ r
  exact q
def gF:Option HO→Prop
 |some (.lst _)=>True
 |some (.dK _)=>True
 |some (.dT _)=>True
 |some (.set _ _)=>True
 |some (.ins _ _ _)=>True
 |some (.ext _)=>True
 |_=>False
section
variable {P:Program} {w:World} {H:Hp} {h h':Heap} {x e:Addr} {o':HO}
theorem HOk.write (ok:HOk P w H h) (mu:gF (H x)) (he:e=x∨H e=some (.own x)) (k:∀b u,b≠e→h.get? b=some u→h'.get? b=some u) (heo:∃u,h'.get? e=some u)
  (new:ObjOk P w (upd H x o') h' x o'):HOk P w (upd H x o') h':=fun b u q=>by
 have nown:∀c y,H c=some (.own y)→c≠x:=fun c y r z=>by subst z;rw [r] at mu;exact mu
 have ntup:∀c xs,H c=some (.tup xs)→c≠x:=fun c xs r z=>by subst z;rw [r] at mu;exact mu
 by_cases hb:b=x
 ·subst hb;rw [jF] at q;cases q;exact new
 ·rw [j4 hb] at q
  by_cases hbe:b=e
  ·have q':H b=some (.own x):=by
    rcases he with z|z
    ·exact absurd (hbe.trans z) hb
    ·rw [hbe];exact z
   rw [q] at q';cases q'
   obtain ⟨v,hv⟩:=heo
   exact ⟨v,by rw [hbe];exact hv⟩
  ·refine (ok b u q).stay (fun c v hc r=>k c v ?_ r) (fun c r=>by rw [j4 (nown c b r)];exact r) fun c xs r=>by rw [j4 (ntup c xs r)];exact r
   rcases hc with rfl|hc
   ·exact hbe
   ·rintro rfl
    rcases he with z|z
    ·exact nown c b hc z
    ·rw [hc] at z;cases z;exact hb rfl
end
structure Un (fs ex:List Addr) (H H':Hp) (h h':Heap):Prop where
 keep:∀b o,h.get? b=some o→H b=none→b∉fs→b∉ex→h'.get? b=some o
 slot:∀b o,h.get? b=some o→H b=none→b∈fs→b∉ex→∃sl,h'.get? b=some {o with slots:=sl}
 free:∀b o,h.get? b=some o→H b=none→b∉ex→H' b=none
 there:∀b o,h.get? b=some o→b∉ex→∃o',h'.get? b=some o'
 tups:∀b xs,H b=some (.tup xs)→H' b=some (.tup xs)
 frzs:∀b o u,H b=some (.frz o u)→H' b=some (.frz o u)
 tbls:∀b ps,H b=some (.tbl ps)→∃more,H' b=some (.tbl (ps++more))
section
variable {fs fs' ex ex':List Addr} {H H1 H2:Hp} {h h1 h2 h':Heap} {a x e:Addr} {o:HO}
theorem Un.any (u:Un fs ex H H1 h h1) {b:Addr} {ob:Obj} (q:h.get? b=some ob) (n:H b=none) (hx:b∉ex):∃sl,h1.get? b=some {ob with slots:=sl}:=by
 by_cases hb:b∈fs
 ·exact u.slot b ob q n hb hx
 ·exact ⟨ob.slots,u.keep b ob q n hb hx⟩
theorem Un.kept (k:∀b u,h.get? b=some u→h'.get? b=some u):Un fs ex H H h h' :=
 ⟨fun b ob q _ _ _=>k b ob q,fun b ob q _ _ _=>⟨ob.slots,k b ob q⟩,fun _ _ _ n _=>n,fun b ob q _=>⟨ob,k b ob q⟩,fun _ _ q=>q,fun _ _ _ q=>q,fun _ ps q=>⟨#[],by rw [q];simp⟩⟩
theorem Un.refl:Un fs ex H H h h:=Un.kept fun _ _ q=>q
theorem Un.laid (k:∀b u,h.get? b=some u→h'.get? b=some u) (hp:h.objs.size≤a) (hn:H a=none):Un fs ex H (upd H a o) h h' where
 keep:=fun b u q _ _ _=>k b u q
 slot:=fun b u q _ _ _=>⟨u.slots,k b u q⟩
 free:=fun b u q n _=>by rw [j4 (Nat.ne_of_lt (Nat.lt_of_lt_of_le (Heap.lt_size q) hp))];exact n
 there:=fun b u q _=>⟨u,k b u q⟩
 tups:=fun b xs q=>by rw [j4 (qF q hn)];exact q
 frzs:=fun b u xs q=>by rw [j4 (qF q hn)];exact q
 tbls:=fun b ps q=>⟨#[],by rw [j4 (qF q hn),q];simp⟩
theorem Un.write (mu:gF (H x)) (he:e=x∨H e=some (.own x)) (k:∀b u,b≠e→h.get? b=some u→h'.get? b=some u) (heo:∃u,h'.get? e=some u):Un fs ex H (upd H x o) h h':=by
 have hx:∀b,H b=none→b≠x:=fun b n z=>by subst z;rw [n] at mu;exact mu
 have hb:∀b,H b=none→b≠e:=fun b n z=>by
  subst z
  rcases he with r|r
  ·exact hx b n r
  ·rw [n] at r;cases r
 have hm:∀b u,H b=some u→¬gF (some u)→b≠x:=fun b u q nm z=>by subst z;rw [q] at mu;exact nm mu
 refine ⟨fun b u q n _ _=>k b u (hb b n) q,fun b u q n _ _=>⟨u.slots,k b u (hb b n) q⟩,fun b u q n _=>by rw [j4 (hx b n)];exact n,fun b u q _=>?_,
  fun b xs q=>by rw [j4 (hm b _ q fun z=>z)];exact q,fun b u xs q=>by rw [j4 (hm b _ q fun z=>z)];exact q,fun b ps q=>⟨#[],by rw [j4 (hm b _ q fun z=>z),q];simp⟩⟩
 by_cases hbe:b=e
 ·subst hbe;exact heo
 ·exact ⟨u,k b u hbe q⟩
end
def zH (h:Heap) (H:Hp):List Addr:=(List.range h.objs.size).filter fun a=>(H a).isSome
def JL (h:Heap) (H:Hp):Heap:=PySem.W.hideAll h (zH h H)
theorem FT (h:Heap) (H:Hp):(JL h H).objs.size=h.objs.size:=PySem.W.hideAll_size _ _
theorem G3 {h:Heap} {H:Hp} {b:Addr} {o:Obj} (e:h.get? b=some o) (n:H b=none):(JL h H).get? b=some o :=
 PySem.W.hideAll_get _ e fun hm=>by
  have q:(H b).isSome=true:=(List.mem_filter.mp hm).2
  rw [n] at q;simp at q
theorem HY {h:Heap} {H:Hp} {b:Addr} {o:Obj} (e:(JL h H).get? b=some o):h.get? b=some o∧H b=none:=by
 have e':h.get? b=some o:=PySem.W.of_hideAll (zH h H) e
 refine ⟨e',?_⟩
 cases q:H b with
 |none=>rfl
 |some x =>
  have hm:b∈zH h H:=List.mem_filter.mpr ⟨List.mem_range.mpr (Heap.lt_size e'),by simp [q]⟩
  have z:(JL h H).get? b=none:=PySem.W.hideAll_none (zH h H) hm
  rw [z] at e;cases e
def IS (g h:Heap) (L:Addr):List (Addr×Obj):=(List.range h.objs.size).filterMap fun a=>if a=L∨(g.get? a).isSome=true then none else (h.get? a).map fun o=>(a,o)
def rest (g h:Heap) (L d:Addr):List (Addr×Obj):=(IS g h L).filter fun p=>decide (p.1≠d)
end L2
namespace L2
open PySem PySem.Spec PyProof.Rows
structure Mod (K:PySem.W.Frag) (mg:Str→Option Value) (base:Heap):Prop where
 kin:K.In base
 glob:base.Ns mainGlobals mg
 blt:∃mb,base.Ns builtinsNs mb∧∀x:Str,x≠"__name__"→mb x=bootBuiltins x
 nolimit:base.NoLimit
structure Cx where
 prog:Program
 w:World
 K:PySem.W.Frag
 mg:Str→Option Value
 base:Heap
 A:Around
 N:List Str
 s₀:Shared
 H₀:Hp
 env:Env
 outer:List Env
 stack:List Env
 ex:List Addr
 fn:Str→Bool
 calm:Bool
 pn:List (Addr×Obj)
 xe:Value→Shared→Prop
def kI (l:List Env):List Addr:=l.filterMap (·.frame)
abbrev Cx.fs (X:Cx):List Addr:=kI X.outer
def lB (sc:Scope) (x:Str):Prop:=sc.names.lookup x=some .local∨sc.names.lookup x=some .cell∨sc.names.lookup x=some .free
def gG (sc:Scope) (x:Str):Prop:=sc.names.lookup x=some .local∨sc.names.lookup x=some .cell
def MK (env:Env) (h:Heap) (m:Str→Option Value) (x:Str) (u:Value):Prop :=
 (env.kindOf x=some .local∧m x=some u)∨((env.kindOf x=some .cell∨env.kindOf x=some .free)∧∃c,env.cells.lookup x=some c∧h.IsCell c (some u))
structure Cx.Ok (X:Cx):Prop where
 mod:Mod X.K X.mg X.base
 kind:X.env.scope.kind=.function
 glob:X.env.globals=mainGlobals
 blt:X.env.builtins=builtinsNs
 above:X.s₀.heap.objs.size≤X.env.locals
 inj:∀x y c,X.env.cells.lookup x=some c→X.env.cells.lookup y=some c→x=y
 has:∀x,(X.env.kindOf x=some .cell∨X.env.kindOf x=some .free)→∃c,X.env.cells.lookup x=some c
 cab:∀x c,X.fn x=true→X.env.cells.lookup x=some c→X.s₀.heap.objs.size≤c
 hd:X.calm=true→X.A.handled=none
 frames:X.A.frames=some X.stack
 stk:X.stack=X.outer∨(X.stack=X.env::X.outer∧X.env.frame=some X.env.locals)
 exf:∀b∈X.ex,b≠X.env.locals∧∀x c,X.env.cells.lookup x=some c→c≠b
 bs:∀b o,X.base.get? b=some o→X.s₀.heap.get? b=some o∧X.H₀ b=none
 bsz:X.base.objs.size≤X.s₀.heap.objs.size
 noex:∀b o,X.base.get? b=some o→b∉X.ex
 exfs:∀b∈X.ex,b∉X.fs
 funs:X.s₀.heap.FunFrames X.base X.outer
 frf:∀b∈X.fs,X.H₀ b=none
structure Inv (X:Cx) (pins:List (Addr×Obj)) (σ:List (Option V)) (H:Hp) (s:Shared):Prop where
 ok:X.Ok
 os:s.os=X.s₀.os
 bare:AllBare s.gens
 base:Un X.fs X.ex X.H₀ H X.s₀.heap s.heap
 loc:∃m,s.heap.Ns X.env.locals m∧∀(i:Nat) (x:Str) (v:V),X.N[i]?=some x→σ[i]?=some (some v)→lB X.env.scope x→∃u,RelV v u∧MK X.env s.heap m x u
 cell:∀x c,X.env.cells.lookup x=some c→∃v,s.heap.IsCell c v
 free:H X.env.locals=none
 freeC:∀x c,X.env.cells.lookup x=some c→H c=none
 pin:∀p∈X.pn++pins,s.heap.get? p.1=some p.2∧H p.1=none∧p.1≠X.env.locals∧p.1∉X.fs∧∀v,p.2.data≠.cell v
 hok:HOk X.prog X.w H s.heap
 len:σ.length=X.N.length
section
variable {X:Cx} {pins:List (Addr×Obj)} {σ:List (Option V)} {H H':Hp} {s:Shared} {h':Heap}
theorem Cx.Ok.nofr (ok:X.Ok) {b:Addr} {o:Obj} (e:X.base.get? b=some o):b∉X.fs:=fun hb=>by
 have:=(ok.funs.mem hb).1
 rw [e] at this;cases this
theorem Inv.bs (I:Inv X pins σ H s):∀b o,X.base.get? b=some o→s.heap.get? b=some o∧H b=none:=fun b o e =>
 ⟨I.base.keep b o (I.ok.bs b o e).1 (I.ok.bs b o e).2 (I.ok.nofr e) (I.ok.noex b o e),I.base.free b o (I.ok.bs b o e).1 (I.ok.bs b o e).2 (I.ok.noex b o e)⟩
theorem Inv.bk (I:Inv X pins σ H s):∀b o,X.base.get? b=some o→s.heap.get? b=some o:=fun b o e=>(I.bs b o e).1
theorem Inv.mod (I:Inv X pins σ H s):Mod X.K X.mg X.base:=I.ok.mod
theorem Inv.kIn (I:Inv X pins σ H s):X.K.In s.heap:=I.ok.mod.kin.keeps I.bk
theorem Inv.lt (I:Inv X pins σ H s):X.env.locals<s.heap.objs.size:=let ⟨_,hn,_⟩:=I.loc;hn.lt
theorem Inv.sz (I:Inv X pins σ H s):X.s₀.heap.objs.size≤s.heap.objs.size:=Nat.le_trans I.ok.above (Nat.le_of_lt I.lt)
theorem Inv.nofs (I:Inv X pins σ H s) {a:Addr} (h:s.heap.objs.size≤a):a∉X.fs:=fun hb=>by
 obtain ⟨_,o,ho,_⟩:=I.ok.funs.mem hb
 exact absurd (Nat.lt_of_lt_of_le (Heap.lt_size ho) (Nat.le_trans I.sz h)) (Nat.lt_irrefl _)
theorem Inv.cne (I:Inv X pins σ H s):∀x c,X.env.cells.lookup x=some c→c≠X.env.locals:=fun x c e z=>by
 obtain ⟨v,o,ho,hd⟩:=I.cell x c e
 obtain ⟨m,⟨o',es,ep,ho',hd',_⟩,_⟩:=I.loc
 rw [z,ho'] at ho;cases ho;rw [hd'] at hd;cases hd
theorem Inv.funs (I:Inv X pins σ H s):s.heap.FunFrames X.base X.outer:=by
 have all:∀(l:List Env),(∀b∈kI l,b∈X.fs)→X.s₀.heap.FunFrames X.base l→s.heap.FunFrames X.base l:=by
  intro l
  induction l with
  |nil=>intro _ _;trivial
  |cons env r ih =>
   intro hs hl
   obtain ⟨hk,⟨L,o,hf,hn,ho,hd⟩,hr⟩:=hl
   have hL:L∈X.fs:=hs L (by unfold kI;rw [List.filterMap_cons,hf];exact List.mem_cons_self)
   obtain ⟨sl,e⟩:=I.base.slot L o ho (I.ok.frf L hL) hL fun z=>I.ok.exfs L z hL
   exact ⟨hk,⟨L,_,hf,hn,e,hd⟩,ih (fun b hb=>hs b (by unfold kI;rw [List.filterMap_cons,hf];exact List.mem_cons_of_mem _ hb)) hr⟩
 exact all X.outer (fun _ hb=>hb) I.ok.funs
theorem Inv.stack (I:Inv X pins σ H s):s.heap.FunFrames X.base X.stack:=by
 rcases I.ok.stk with e|⟨e,hf⟩
 ·rw [e];exact I.funs
 ·rw [e]
  obtain ⟨m,hn,_⟩:=I.loc
  refine .cons (by rw [I.ok.kind];decide) hf hn ?_ I.funs
  exact Heap.get?_none_of_le (Nat.le_trans I.ok.bsz I.ok.above)
theorem Inv.stkSub (I:Inv X pins σ H s):∀b∈kI X.stack,b∈X.env.locals::X.fs:=fun b hb=>by
 rcases I.ok.stk with e|⟨e,hf⟩
 ·rw [e] at hb;exact List.mem_cons_of_mem _ hb
 ·rw [e] at hb
  unfold kI at hb
  rw [List.filterMap_cons,hf] at hb
  exact hb
theorem Inv.stkFree (I:Inv X pins σ H s):∀b∈kI X.stack,H b=none:=fun b hb=>by
 rcases List.mem_cons.mp (I.stkSub b hb) with e|hb
 ·rw [e];exact I.free
 ·obtain ⟨_,o,ho,_⟩:=I.ok.funs.mem hb
  exact I.base.free b o ho (I.ok.frf b hb) fun z=>I.ok.exfs b z hb
theorem Inv.step {g':Array GenState} {t':Nat} {d':Drawn} {ch:List Addr} (I:Inv X pins σ H s)
  (hch:∀b∈ch,(b∈X.ex∨X.s₀.heap.objs.size≤b)∧b≠X.env.locals∧(∀x c,X.env.cells.lookup x=some c→c≠b)∧∀p∈X.pn++pins,p.1≠b)
  (keep:∀b o,b≠X.env.locals→b∉X.fs→b∉ch→s.heap.get? b=some o→H b=none→h'.get? b=some o)
  (slot:∀b o,b≠X.env.locals→b∈X.fs→b∉ch→s.heap.get? b=some o→H b=none→∃sl,h'.get? b=some {o with slots:=sl}) (free:∀b o,b∉ch→s.heap.get? b=some o→H b=none→H' b=none)
  (there:∀b o,b∉ch→s.heap.get? b=some o→∃o',h'.get? b=some o')
  (tups:∀b xs,H b=some (.tup xs)→H' b=some (.tup xs)) (frzs:∀b o u,H b=some (.frz o u)→H' b=some (.frz o u)) (tbls:∀b ps,H b=some (.tbl ps)→∃more,H' b=some (.tbl (ps++more)))
  (ns:∀m,s.heap.Ns X.env.locals m→h'.Ns X.env.locals m) (hok:HOk X.prog X.w H' h') (hg:AllBare g') :
  Inv X pins σ H' {s with heap:=h',gens:=g',drawn:=d',toks:=t'}:=by
 have neL:∀b o,X.s₀.heap.get? b=some o→b≠X.env.locals:=fun b o e=>Nat.ne_of_lt (Nat.lt_of_lt_of_le (Heap.lt_size e) I.ok.above)
 have neC:∀b o,X.s₀.heap.get? b=some o→b∉X.ex→b∉ch:=fun b o e hx hb=>by
  rcases (hch b hb).1 with z|z
  ·exact hx z
  ·exact absurd (Nat.lt_of_lt_of_le (Heap.lt_size e) z) (Nat.lt_irrefl _)
 have cellK:∀x c,X.env.cells.lookup x=some c→∀v,s.heap.IsCell c v→h'.IsCell c v:=fun x c e v ⟨o,ho,hd⟩=>by
  have nch:c∉ch:=fun z=>(hch c z).2.2.1 x c e rfl
  by_cases hc:c∈X.fs
  ·obtain ⟨sl,q⟩:=slot c o (I.cne x c e) hc nch ho (I.freeC x c e)
   exact ⟨_,q,hd⟩
  ·exact ⟨o,keep c o (I.cne x c e) hc nch ho (I.freeC x c e),hd⟩
 refine ⟨I.ok,I.os,hg,⟨fun b o e n hb hx=>?_,fun b o e n hb hx=>?_,fun b o e n hx=>?_,fun b o e hx=>?_,fun b xs e=>tups b xs (I.base.tups b xs e),fun b o xs e=>frzs b o xs (I.base.frzs b o xs e),fun b ps e=>?_⟩,?_,fun x c e=>?_,?_,fun x c e=>?_,fun p hp=>?_,hok,I.len⟩
 ·exact keep b o (neL b o e) hb (neC b o e hx) (I.base.keep b o e n hb hx) (I.base.free b o e n hx)
 ·obtain ⟨sl,e1⟩:=I.base.slot b o e n hb hx
  obtain ⟨sl',e2⟩:=slot b _ (neL b o e) hb (neC b o e hx) e1 (I.base.free b o e n hx)
  exact ⟨sl',e2⟩
 ·obtain ⟨o',e1⟩:=I.base.there b o e hx
  exact free b o' (neC b o e hx) e1 (I.base.free b o e n hx)
 ·obtain ⟨o',e1⟩:=I.base.there b o e hx
  exact there b o' (neC b o e hx) e1
 ·obtain ⟨m1,e1⟩:=I.base.tbls b ps e
  obtain ⟨m2,e2⟩:=tbls b _ e1
  exact ⟨m1++m2,by rw [e2,Array.append_assoc]⟩
 ·obtain ⟨m,hn,hl⟩:=I.loc
  refine ⟨m,ns m hn,fun i x v e1 e2 e3=>?_⟩
  obtain ⟨u,r,l⟩:=hl i x v e1 e2 e3
  refine ⟨u,r,?_⟩
  rcases l with l|⟨k,c,e,z⟩
  ·exact .inl l
  ·exact .inr ⟨k,c,e,cellK x c e _ z⟩
 ·obtain ⟨v,z⟩:=I.cell x c e
  exact ⟨v,cellK x c e v z⟩
 ·obtain ⟨m,⟨o,_,_,ho,_⟩,_⟩:=I.loc
  exact free _ o (fun z=>(hch _ z).2.1 rfl) ho I.free
 ·obtain ⟨v,o,ho,hd⟩:=I.cell x c e
  exact free c o (fun z=>(hch c z).2.2.1 x c e rfl) ho (I.freeC x c e)
 ·obtain ⟨e,n,ne,nf,d⟩:=I.pin p hp
  have nch:p.1∉ch:=fun z=>(hch p.1 z).2.2.2 p hp rfl
  exact ⟨keep p.1 p.2 ne nf nch e n,free p.1 p.2 nch e n,ne,nf,d⟩
theorem Inv.un {t':Nat} (I:Inv X pins σ H s) (u:Un X.fs [] H H' s.heap h') (hok:HOk X.prog X.w H' h'):Inv X pins σ H' {s with heap:=h',toks:=t'}:=by
  obtain ⟨m,⟨o,es,ep,ho,r⟩,_⟩:=id I.loc
  obtain ⟨sl,hL⟩:=u.any ho I.free (by simp)
  exact I.step (g':=s.gens) (d':=s.drawn) (ch:=[]) (fun _ z=>nomatch z) (fun b o _ hb _ e n=>u.keep b o e n hb (by simp)) (fun b o _ hb _ e n=>u.slot b o e n hb (by simp)) (fun b o _ e n=>u.free b o e n (by simp)) (fun b o _ e=>u.there b o e (by simp)) u.tups u.frzs u.tbls (fun m' hm=>by
    obtain ⟨o',es',ep',ho',r'⟩:=hm
    rw [ho] at ho';cases ho'
    exact ⟨_,es',ep',hL,r'⟩) hok I.bare
theorem Inv.call {g':Array GenState} {t':Nat} {d':Drawn} {ch:List Addr} (I:Inv X pins σ H s) (u:Un (kI X.stack) ch H H' s.heap h') (hok:HOk X.prog X.w H' h') (hg:AllBare g')
  (hch:∀b∈ch,(b∈X.ex∨X.s₀.heap.objs.size≤b)∧b≠X.env.locals∧(∀x c,X.env.cells.lookup x=some c→c≠b)∧∀p∈X.pn++pins,p.1≠b) :
  Inv X pins σ H' {s with heap:=h',gens:=g',drawn:=d',toks:=t'}:=by
 obtain ⟨m,⟨o,es,ep,ho,r⟩,_⟩:=id I.loc
 obtain ⟨sl,hL⟩:=u.any ho I.free fun z=>(hch _ z).2.1 rfl
 exact I.step (ch:=ch) hch (fun b o hL hb hc e n=>u.keep b o e n (fun z=>(List.mem_cons.mp (I.stkSub b z)).elim hL hb) hc) (fun b o _ _ hc e n=>u.any e n hc) (fun b o hc e n=>u.free b o e n hc) (fun b o hc e=>u.there b o e hc) u.tups u.frzs u.tbls (fun m' hm=>by
  obtain ⟨o',es',ep',ho',r'⟩:=hm
  rw [ho] at ho';cases ho'
  exact ⟨_,es',ep',hL,r'⟩) hok hg
theorem Inv.turned {t':Nat} {it:Addr} (I:Inv X pins σ H s) (k:∀b o,b≠it→s.heap.get? b=some o→h'.get? b=some o) (hn:H it=none) (hL:it≠X.env.locals)
    (h1:it∈X.ex∨X.s₀.heap.objs.size≤it) (h2:∀x c,X.env.cells.lookup x=some c→c≠it) (h3:∀p∈X.pn++pins,p.1≠it):Inv X pins σ H {s with heap:=h',toks:=t'}:=by
  have nit:∀b u,H b=some u→b≠it:=fun b u e z=>by rw [z,hn] at e;cases e
  refine I.step (g':=s.gens) (d':=s.drawn) (ch:=[it]) (fun b hb=>?_) (fun b o _ _ hc e _=>k b o (fun z=>hc (by simp [z])) e) (fun b o _ _ hc e _=>⟨o.slots,k b o (fun z=>hc (by simp [z])) e⟩) (fun _ _ _ _ n=>n)
    (fun b o hc e=>⟨o,k b o (fun z=>hc (by simp [z])) e⟩) (fun _ _ e=>e) (fun _ _ _ e=>e) (fun b ps e=>⟨#[],by rw [e];simp⟩) (fun m hm=>?_) (fun b u e=>?_) I.bare
  · have e:b=it:=by simpa using hb
    subst e
    exact ⟨h1,hL,h2,h3⟩
  · obtain ⟨o,es,ep,ho,r⟩:=hm
    exact ⟨o,es,ep,k _ o (Ne.symm hL) ho,r⟩
  · refine (I.hok b u e).stay (fun c v hc q=>k c v ?_ q) (fun _ q=>q) fun _ _ q=>q
    rcases hc with z|z
    · rw [z];exact nit b u e
    · exact nit c _ z
theorem Inv.tok (I:Inv X pins σ H s) (t:Nat):Inv X pins σ H {s with toks:=t}:=I.un (h':=s.heap) (t':=t) Un.refl I.hok
theorem Inv.kept {t':Nat} (I:Inv X pins σ H s) (k:∀b u,s.heap.get? b=some u→h'.get? b=some u):Inv X pins σ H {s with heap:=h',toks:=t'}:=I.un (Un.kept k) (I.hok.kept k)
theorem Inv.laid {a:Addr} {o:HO} {t':Nat} (I:Inv X pins σ H s) (k:∀b u,s.heap.get? b=some u→h'.get? b=some u) (hp:s.heap.objs.size≤a) (new:ObjOk X.prog X.w (upd H a o) h' a o) :
  Inv X pins σ (upd H a o) {s with heap:=h',toks:=t'}:=I.un (Un.laid k hp (I.hok.fresh hp)) (I.hok.laid k hp new)
theorem Inv.write {x e:Addr} {o:HO} {t':Nat} (I:Inv X pins σ H s) (mu:gF (H x)) (he:e=x∨H e=some (.own x)) (k:∀b u,b≠e→s.heap.get? b=some u→h'.get? b=some u) (heo:∃u,h'.get? e=some u)
  (new:ObjOk X.prog X.w (upd H x o) h' x o):Inv X pins σ (upd H x o) {s with heap:=h',toks:=t'}:=I.un (Un.write mu he k heo) (I.hok.write mu he k heo new)
theorem Inv.pins_of {pins':List (Addr×Obj)} (I:Inv X pins σ H s) (h:∀p∈pins',s.heap.get? p.1=some p.2∧H p.1=none∧p.1≠X.env.locals∧p.1∉X.fs∧∀v,p.2.data≠.cell v):Inv X pins' σ H s :=
 ⟨I.ok,I.os,I.bare,I.base,I.loc,I.cell,I.free,I.freeC,fun p hp=>(List.mem_append.mp hp).elim (fun z=>I.pin p (List.mem_append_left _ z)) (h p),I.hok,I.len⟩
theorem tD {N:List Str} (hN:N.Nodup) {i j:Nat} {x:Str} (a:N[i]?=some x) (b:N[j]?=some x):i=j:=by
 obtain ⟨h1,e1⟩:=List.getElem?_eq_some_iff.mp a
 obtain ⟨h2,e2⟩:=List.getElem?_eq_some_iff.mp b
 exact (List.getElem_inj hN).mp (e1.trans e2.symm)
theorem rM {M:Model} {A:Around} {E:Value→Shared→Prop} {i:Nat} {x:Str} {v:V} {u:Value} {Q:Unit→Shared→Prop} (I:Inv X pins σ H s) (hN:X.N.Nodup) (hi:X.N[i]?=some x) (hx:gG X.env.scope x) (r:RelV v u)
  (h:∀s',Inv X pins (σ.set i (some v)) H s'→(∃a,Heap.SameBut a s.heap s'.heap∧(a=X.env.locals∨X.env.cells.lookup x=some a))→Q () s') (hf:X.fn x=true∨X.env.scope.names.lookup x=some .local:=by first|exact .inl rfl|exact .inr rfl|assumption):wpAny M A (storeName X.env x u) Q E s:=by
 obtain ⟨m,hn,hl⟩:=id I.loc
 have hcls:(X.env.scope.kind == .class||(X.env.scope.kind == .module&&X.env.locals != X.env.globals))=false:=by rw [I.ok.kind];rfl
 have hiσ:i<σ.length:=by rw [I.len];exact (List.getElem?_eq_some_iff.mp hi).1
 have cne:=I.cne
 have tracked:∀{a:Addr} {h':Heap},(∃o,s.heap.get? a=some o∧H a=none)→Heap.SameBut a s.heap h'→HOk X.prog X.w H h':=fun {a h'} ha hs b ob e=>by
  obtain ⟨_,_,hfree⟩:=ha
  refine (I.hok b ob e).stay (fun c w' hc q=>(hs.2 c ?_).trans q) (fun _ q=>q) fun _ _ q=>q
  rintro rfl
  rcases hc with rfl|hc
  ·rw [hfree] at e;cases e
  ·rw [hfree] at hc;cases hc
 rcases hx with hk|hk
 ·refine wpAny_storeName_local hk hn (fun h' hn' hs=>?_) hcls
  obtain ⟨oL,_,_,hoL,_⟩:=id hn
  refine h _ ⟨I.ok,I.os,I.bare,⟨fun b o e n hb hx=>?_,fun b o e n hb hx=>?_,I.base.free,fun b o e hx=>?_,I.base.tups,I.base.frzs,I.base.tbls⟩,⟨_,hn',fun j y v' e1 e2 e3=>?_⟩,fun y c e=>?_,I.free,I.freeC,fun p hp=>?_,tracked ⟨oL,hoL,I.free⟩ hs,by simpa using I.len⟩ ⟨_,hs,.inl rfl⟩
  ·exact (hs.2 b (Nat.ne_of_lt (Nat.lt_of_lt_of_le (Heap.lt_size e) I.ok.above))).trans (I.base.keep b o e n hb hx)
  ·obtain ⟨sl,e1⟩:=I.base.slot b o e n hb hx
   exact ⟨sl,(hs.2 b (Nat.ne_of_lt (Nat.lt_of_lt_of_le (Heap.lt_size e) I.ok.above))).trans e1⟩
  ·obtain ⟨o',e1⟩:=I.base.there b o e hx
   exact ⟨o',(hs.2 b (Nat.ne_of_lt (Nat.lt_of_lt_of_le (Heap.lt_size e) I.ok.above))).trans e1⟩
  ·by_cases hj:j=i
   ·subst hj
    rw [hi] at e1;cases e1
    rw [List.getElem?_set_self hiσ] at e2
    cases e2
    exact ⟨u,r,.inl ⟨hk,by simp⟩⟩
   ·rw [List.getElem?_set_ne (Ne.symm hj)] at e2
    obtain ⟨u',r',q⟩:=hl j y v' e1 e2 e3
    refine ⟨u',r',?_⟩
    rcases q with ⟨k,e⟩|⟨k,c,e,z⟩
    ·refine .inl ⟨k,?_⟩
     have:y≠x:=fun e=>hj (tD hN e1 (e▸hi))
     simp [this,e]
    ·exact .inr ⟨k,c,e,z.sameBut hs (cne y c e)⟩
  ·obtain ⟨w',z⟩:=I.cell y c e
   exact ⟨w',z.sameBut hs (cne y c e)⟩
  ·obtain ⟨e,n,ne,nf,d⟩:=I.pin p hp
   exact ⟨(hs.2 p.1 ne).trans e,n,ne,nf,d⟩
 ·have hfn:X.fn x=true:=by
   rcases hf with z|z
   ·exact z
   ·rw [z] at hk;cases hk
  obtain ⟨c,hc⟩:=I.ok.has x (.inl hk)
  obtain ⟨w',z⟩:=I.cell x c hc
  refine wpAny_storeName_cell I.ok.kind hk hc z (fun h' hc' hs=>?_)
  obtain ⟨oc,hoc,hocd⟩:=id z
  refine h {s with heap:=h'} ⟨I.ok,I.os,I.bare,⟨fun b o e n hb hx=>?_,fun b o e n hb hx=>?_,I.base.free,fun b o e hx=>?_,I.base.tups,I.base.frzs,I.base.tbls⟩,⟨m,hn.sameBut hs (Ne.symm (cne x c hc)),fun j y v' e1 e2 e3=>?_⟩,fun y c' e=>?_,I.free,I.freeC,fun p hp=>?_,tracked ⟨oc,hoc,I.freeC x c hc⟩ hs,by simpa using I.len⟩ ⟨c,hs,.inr hc⟩
  ·exact (hs.2 b (Nat.ne_of_lt (Nat.lt_of_lt_of_le (Heap.lt_size e) (I.ok.cab x c hfn hc)))).trans (I.base.keep b o e n hb hx)
  ·obtain ⟨sl,e1⟩:=I.base.slot b o e n hb hx
   exact ⟨sl,(hs.2 b (Nat.ne_of_lt (Nat.lt_of_lt_of_le (Heap.lt_size e) (I.ok.cab x c hfn hc)))).trans e1⟩
  ·obtain ⟨o',e1⟩:=I.base.there b o e hx
   exact ⟨o',(hs.2 b (Nat.ne_of_lt (Nat.lt_of_lt_of_le (Heap.lt_size e) (I.ok.cab x c hfn hc)))).trans e1⟩
  ·by_cases hj:j=i
   ·subst hj
    rw [hi] at e1;cases e1
    rw [List.getElem?_set_self hiσ] at e2
    cases e2
    exact ⟨u,r,.inr ⟨.inl hk,c,hc,hc'⟩⟩
   ·rw [List.getElem?_set_ne (Ne.symm hj)] at e2
    obtain ⟨u',r',q⟩:=hl j y v' e1 e2 e3
    refine ⟨u',r',?_⟩
    rcases q with q|⟨k,c',e,z'⟩
    ·exact .inl q
    ·refine .inr ⟨k,c',e,z'.sameBut hs ?_⟩
     rintro rfl
     exact hj (tD hN e1 (I.ok.inj _ _ _ e hc▸hi))
  ·by_cases hcc:c'=c
   ·subst hcc;exact ⟨_,hc'⟩
   ·obtain ⟨w2,z2⟩:=I.cell y c' e
    exact ⟨w2,z2.sameBut hs hcc⟩
  ·obtain ⟨e,n,ne,nf,d⟩:=I.pin p hp
   refine ⟨(hs.2 p.1 ?_).trans e,n,ne,nf,d⟩
   intro q
   rw [q,hoc] at e
   have q':oc=p.2:=Option.some.inj e
   exact d w' (by rw [← q'];exact hocd)
theorem sL {M:Model} {A:Around} {E:Value→Shared→Prop} {i:Nat} {x:Str} {v:V} {u:Value} {Q:Unit→Shared→Prop} (I:Inv X pins σ H s) (hN:X.N.Nodup) (hi:X.N[i]?=some x) (hx:gG X.env.scope x) (r:RelV v u)
  (h:∀s',Inv X pins (σ.set i (some v)) H s'→Q () s') (hf:X.fn x=true∨X.env.scope.names.lookup x=some .local:=by first|exact .inl rfl|exact .inr rfl|assumption):wpAny M A (storeName X.env x u) Q E s :=
 rM I hN hi hx r (fun s' I' _=>h s' I') hf
theorem Inv.call' {s':Shared} {ch:List Addr} (I:Inv X pins σ H s) (ho:s'.os=s.os) (u:Un (kI X.stack) ch H H' s.heap s'.heap) (hok:HOk X.prog X.w H' s'.heap) (hg:AllBare s'.gens)
  (hch:∀b∈ch,(b∈X.ex∨X.s₀.heap.objs.size≤b)∧b≠X.env.locals∧(∀x c,X.env.cells.lookup x=some c→c≠b)∧∀p∈X.pn++pins,p.1≠b):Inv X pins σ H' s':=by
 obtain ⟨h',g',d',t',o'⟩:=s'
 have e:o'=s.os:=ho
 subst e
 exact I.call (g':=g') (t':=t') (d':=d') u hok hg hch
end
abbrev XK:=Value→Option Addr→Hp→Prop
abbrev St:=List (Option V)
abbrev VK:=V→Hp→Prop
abbrev TE:=St→Hp→VK→Prop
abbrev TT:=St→Hp→(Bool→Hp→Prop)→Prop
abbrev TA:=St→Hp→(List V→Hp→Prop)→Prop
structure Ends where
 nx:St→Hp→Prop
 rt:VK
 bk:St→Hp→Prop:=fun _ _=>False
 ct:St→Hp→Prop:=fun _ _=>False
abbrev TS:=Ends→St→Hp→Prop
def EP (X:Cx) (pins:List (Addr×Obj)) (σ:St) (Q:VK) (u:Value) (s':Shared):Prop:=∃v H',Inv X pins σ H' s'∧RelV v u∧Q v H'
def TP (X:Cx) (pins:List (Addr×Obj)) (σ:St) (Q:Bool→Hp→Prop) (b:Bool) (s':Shared):Prop:=∃H',Inv X pins σ H' s'∧Q b H'
def AP (X:Cx) (pins:List (Addr×Obj)) (σ:St) (Q:List V→Hp→Prop) (us:List Value) (s':Shared):Prop:=∃vs H',Inv X pins σ H' s'∧Vals vs us∧Q vs H'
def SP (X:Cx) (pins:List (Addr×Obj)) (D:Ends) (f:Flow) (s':Shared):Prop :=
 match f with
 |.next=>∃σ' H',Inv X pins σ' H' s'∧D.nx σ' H'
 |.brk=>∃σ' H',Inv X pins σ' H' s'∧D.bk σ' H'
 |.cont=>∃σ' H',Inv X pins σ' H' s'∧D.ct σ' H'
 |.ret u=>∃v σ' H',Inv X pins σ' H' s'∧RelV v u∧D.rt v H'
def PE (X:Cx) (e:Expr) (t:TE):Prop :=
 ∀(pins:List (Addr×Obj)) (s:Shared) (σ:St) (H:Hp) (Q:VK),Inv X pins σ H s→t σ H Q→wpAny (model X.prog X.w) X.A (eval e X.env) (EP X pins σ Q) X.xe s
def PT (X:Cx) (e:Expr) (t:TT):Prop :=
 ∀(pins:List (Addr×Obj)) (s:Shared) (σ:St) (H:Hp) (Q:Bool→Hp→Prop),Inv X pins σ H s→t σ H Q→wpAny (model X.prog X.w) X.A (isTrue e X.env (eval e X.env)) (TP X pins σ Q) X.xe s
def PW (X:Cx) (e:Expr) (t:TT):Prop :=
 ∀(whole:Sem Value) (pins:List (Addr×Obj)) (s:Shared) (σ:St) (H:Hp) (Q:Bool→Hp→Prop),Inv X pins σ H s→t σ H Q→wpAny (model X.prog X.w) X.A (isTrue e X.env whole) (TP X pins σ Q) X.xe s
theorem PW.pt {X:Cx} {e:Expr} {t:TT} (h:PW X e t):PT X e t:=h _
def PA (X:Cx) (es:List Expr) (t:TA):Prop :=
 ∀(pos:Pos) (pins:List (Addr×Obj)) (s:Shared) (σ:St) (H:Hp) (Q:List V→Hp→Prop),Inv X pins σ H s→t σ H Q→wpAny (model X.prog X.w) X.A (spliced (backTo pos (starEach es X.env))) (AP X pins σ Q) X.xe s
def PS (X:Cx) (st:Stmt) (t:TS):Prop :=
 ∀(pins:List (Addr×Obj)) (s:Shared) (σ:St) (H:Hp) (D:Ends),Inv X pins σ H s→t D σ H→wpAny (model X.prog X.w) X.A (exec st X.env) (SP X pins D) X.xe s
def PSs (X:Cx) (st:List Stmt) (t:TS):Prop :=
 ∀(pins:List (Addr×Obj)) (s:Shared) (σ:St) (H:Hp) (D:Ends),Inv X pins σ H s→t D σ H→wpAny (model X.prog X.w) X.A (execs st X.env) (SP X pins D) X.xe s
theorem jN {α:Type} {t:Sem α} {Q Q':α→Shared→Prop} {M:Model} {A:Around} {E:Value→Shared→Prop} {s:Shared} (h:wpAny M A t Q E s) (hQ:∀a s,Q a s→Q' a s):wpAny M A t Q' E s:=wpAny_mono h hQ fun _ _ x=>x
end L2
namespace L2
open PySem PySem.Spec PyProof.Rows
section
variable {X:Cx}
theorem bin {a b:Expr} {ta tb:TE} (ha:PE X a ta) (hb:PE X b tb) {pins:List (Addr×Obj)} {s:Shared} {σ:St} {H:Hp} {R:V→V→Hp→Prop} (I:Inv X pins σ H s) (h:ta σ H fun x H1=>tb σ H1 fun y H2=>R x y H2)
  {α:Type} {Q:α→Shared→Prop} {f:Value→Value→Sem α}
  (hf:∀v u s2 x y H2,Inv X pins σ H2 s2→RelV x v→RelV y u→R x y H2→wpAny (model X.prog X.w) X.A (f v u) Q X.xe s2) :
  wpAny (model X.prog X.w) X.A (eval a X.env) (fun v s₁=>wpAny (model X.prog X.w) X.A (eval b X.env) (fun u s₂=>wpAny (model X.prog X.w) X.A (f v u) Q X.xe s₂) X.xe s₁) X.xe s:=by
 refine jN (ha pins s σ H _ I h) fun v s1 ⟨x,H1,I1,r1,q1⟩=>?_
 refine jN (hb pins s1 σ H1 _ I1 q1) fun u s2 ⟨y,H2,I2,r2,q2⟩=>?_
 exact hf v u s2 x y H2 I2 r1 r2 q2
def wR (i:Nat):TE:=fun σ H Q=>∃v,σ[i]?=some (some v)∧Q v H
def tC (v:V):TE:=fun _ H Q=>Q v H
theorem KF {i:Nat} {x:Str} {pos:Pos} (hN:X.N[i]?=some x) (hv:lB X.env.scope x) (hd:(x == ("__debug__":Str))=false:=by decide) (hcd:(x == ("__classdict__":Str))=false:=by decide):PE X (.Name x pos) (wR i):=by
 intro pins s σ H Q I h
 obtain ⟨v,e,h⟩:=h
 obtain ⟨m,hn,hl⟩:=I.loc
 obtain ⟨u,r,l⟩:=hl i x v hN e hv
 have fin:EP X pins σ Q u s:=⟨v,H,I,r,h⟩
 rcases l with ⟨hk,hm⟩|⟨hk,c,hc,hcell⟩
 ·exact wpAny_Name (wpAny_loadName_local I.ok.kind hk hn hm fin) hd
 ·rcases hk with hk|hk
  ·exact wpAny_Name (wpAny_loadName_cell I.ok.kind hk hc hcell fin) hd
  ·exact wpAny_Name (wpAny_loadName_free I.ok.kind hk hc hcell fin hcd) hd
theorem jC {i j pos}:PE X (.Constant (.int i) j pos) (tC (.int i)):=fun _ _ _ H _ I h=>wpAny_Constant_int ⟨.int i,H,I.tok _,⟨_,rfl⟩,h⟩
theorem yM {b j pos}:PE X (.Constant (.bool b) j pos) (tC (.bl b)):=fun _ _ _ H _ I h=>Constant_bool ⟨.bl b,H,I,rfl,h⟩
theorem KG {j pos}:PE X (.Constant .none j pos) (tC .non):=fun _ _ _ H _ I h=>Constant_none ⟨.non,H,I,rfl,h⟩
theorem jR {x j pos}:PE X (.Constant (.str x) j pos) (tC (.str x)):=fun _ _ _ H _ I h=>Calls.Constant_str ⟨.str x,H,I.tok _,⟨_,rfl⟩,h⟩
def Gl (X:Cx) (x:Str):Prop:=X.env.kindOf x=some .globalImplicit
theorem dQ {E:Value→Shared→Prop} {pins:List (Addr×Obj)} {s:Shared} {σ:St} {H:Hp} {x:Str} {u:Value} {pos:Pos} {Q:Value→Shared→Prop} (I:Inv X pins σ H s) (hg:Gl X x) (hm:X.mg x=some u) (h:Q u s)
  (hd:(x == ("__debug__":Str))=false:=by decide):wpAny (model X.prog X.w) X.A (eval (.Name x pos) X.env) Q E s :=
 Calls.Name_function_global I.ok.kind hg (Calls.loadGlobal_global (by rw [I.ok.glob];exact I.mod.glob.keeps I.bk) hm h) hd
theorem eC {E:Value→Shared→Prop} {pins:List (Addr×Obj)} {s:Shared} {σ:St} {H:Hp} {x:Str} {u:Value} {pos:Pos} {Q:Value→Shared→Prop} (I:Inv X pins σ H s) (hg:Gl X x) (hm:X.mg x=none) (hv:bootBuiltins x=some u) (h:Q u s)
  (hn:x≠"__name__":=by decide) (hd:(x == ("__debug__":Str))=false:=by decide):wpAny (model X.prog X.w) X.A (eval (.Name x pos) X.env) Q E s:=by
 obtain ⟨mb,h1,h2⟩:=I.mod.blt
 exact Calls.Name_function_global I.ok.kind hg (Calls.loadGlobal_builtin (by rw [I.ok.glob];exact I.mod.glob.keeps I.bk) hm (by rw [I.ok.blt];exact h1.keeps I.bk) ((h2 x hn).trans hv) h) hd
theorem vQ {x:Str} {v:V} {u:Value} {pos:Pos} (hg:Gl X x) (hm:X.mg x=some u) (r:RelV v u) (hd:(x == ("__debug__":Str))=false:=by decide):PE X (.Name x pos) (tC v) :=
 fun _ _ _ H _ I h=>dQ I hg hm ⟨v,H,I,r,h⟩ hd
variable {a b:Expr} {ta tb:TE} {pos:Pos}
def PC (X:Cx) (op:CmpOp) (a b:Expr) (t:TE):Prop :=
 ∀(pins:List (Addr×Obj)) (s:Shared) (σ:St) (H:Hp) (Q:VK),Inv X pins σ H s→t σ H Q→
  wpAny (model X.prog X.w) X.A (eval a X.env) (fun v s₁=>wpAny (model X.prog X.w) X.A (eval b X.env) (fun u s₂=>wpAny (model X.prog X.w) X.A (compareOp op v u) (EP X pins σ Q) X.xe s₂) X.xe s₁) X.xe s
theorem GV (b:Expr) {op:CmpOp} (h:op≠.In) (h2:op≠.NotIn):behindInMarks op b=false:=by
 have e1:(op == CmpOp.In)=false:=by cases op<;>first|rfl|exact absurd rfl h
 have e2:(op == CmpOp.NotIn)=false:=by cases op<;>first|rfl|exact absurd rfl h2
 cases b<;>simp [behindInMarks,e1,e2]
def tB (t:TE):TT:=fun σ H Q=>t σ H fun x H1=>∃c,x=.bl c∧Q c H1
theorem KA {op:CmpOp} {t:TE} (h:PC X op a b t) (h1:behindInMarks op b=false:=by first|exact GV _ (by decide) (by decide)|rfl):PT X (.Compare a [op] [b] pos) (tB t):=by
 intro pins s σ H Q I hw
 refine wpAny_isTrue_Compare1 (jN (h pins s σ H _ I hw) fun v s1 h1=>jN h1 fun u s2 h2=>jN h2 fun c s3 ⟨x,H1,I1,r1,q1⟩=>?_) h1
 obtain ⟨d,rfl,q⟩:=q1
 cases r1
 exact wpAny_truthy_bool ⟨H1,I1,q⟩
theorem v6 {e:Expr} {t:TE} (h:PE X e t) (he:∀whole,isTrue e X.env whole=(do let v ← whole;standAt e.pos;holding [v] (truthy v)):=by intro _;rfl):PT X e (tB t):=by
 intro pins s σ H Q I hw
 refine isTrue_plain (jN (h pins s σ H _ I hw) fun v s1 ⟨x,H1,I1,r1,q1⟩=>?_) (he _)
 obtain ⟨d,rfl,q⟩:=q1
 cases r1
 exact wpAny_truthy_bool ⟨H1,I1,q⟩
variable {tA tB':TT} {rest:List Expr}
def L8 (t u:TT):TT:=fun σ H Q=>t σ H fun c H1=>if c=true then u σ H1 Q else Q false H1
def MQ (t u:TT):TT:=fun σ H Q=>t σ H fun c H1=>if c=true then Q true H1 else u σ H1 Q
def L3 (t:TT):TT:=fun σ H Q=>t σ H fun c H1=>Q (!c) H1
theorem tZ (ha:PT X a tA):PW X (.BoolOp .And [a] pos) tA:=by
 intro wh pins s σ H Q I h
 refine isTrue_and (jN (ha pins s σ H Q I h) fun c s1 e=>?_)
 cases c with
 |true=>exact isTrue_and_nil e
 |false=>exact e
theorem oE (ha:PT X a tA):PW X (.BoolOp .Or [a] pos) tA:=by
 intro wh pins s σ H Q I h
 refine isTrue_or (jN (ha pins s σ H Q I h) fun c s1 e=>?_)
 cases c with
 |false=>exact isTrue_or_nil e
 |true=>exact e
theorem uT (ha:PT X a tA) (hb:PW X (.BoolOp .And (b::rest) pos) tB'):PW X (.BoolOp .And (a::b::rest) pos) (L8 tA tB'):=by
 intro wh pins s σ H Q I h
 refine isTrue_and (jN (ha pins s σ H _ I h) fun c s1 ⟨H1,I1,q1⟩=>?_)
 cases c with
 |true=>exact hb wh pins s1 σ H1 Q I1 q1
 |false=>exact ⟨H1,I1,q1⟩
theorem iR (ha:PT X a tA) (hb:PW X (.BoolOp .Or (b::rest) pos) tB'):PW X (.BoolOp .Or (a::b::rest) pos) (MQ tA tB'):=by
 intro wh pins s σ H Q I h
 refine isTrue_or (jN (ha pins s σ H _ I h) fun c s1 ⟨H1,I1,q1⟩=>?_)
 cases c with
 |true=>exact ⟨H1,I1,q1⟩
 |false=>exact hb wh pins s1 σ H1 Q I1 q1
theorem iI (ha:PT X a tA):PT X (.UnaryOp .Not a pos) (L3 tA):=by
 intro pins s σ H Q I h
 exact isTrue_not (ha pins s σ H (fun c H1=>Q (!c) H1) I h)
def LB (ta tb:TE):TE:=fun σ H Q=>ta σ H fun x H1=>∃c,x=.bl c∧if c=true then tb σ H1 Q else Q (.bl false) H1
theorem uV {op} {t:TE} (h:PE X a t):PE X (.BoolOp op [a] pos) t:=fun pins s σ H Q I hw=>BoolOp_one (h pins s σ H Q I hw)
theorem uW (ha:PE X a ta) (hb:PE X (.BoolOp .And (b::rest) pos) tb):PE X (.BoolOp .And (a::b::rest) pos) (LB ta tb):=by
 intro pins s σ H Q I h
 refine BoolOp_and (jN (ha pins s σ H _ I h) fun v s1 ⟨x,H1,I1,r1,q1⟩=>?_)
 obtain ⟨c,rfl,q1⟩:=q1
 cases r1
 refine wpAny_truthy_bool ?_
 cases c with
 |true=>exact hb pins s1 σ H1 Q I1 q1
 |false=>exact ⟨.bl false,H1,I1,rfl,q1⟩
def MR (t:TT) (ta tb:TE):TE:=fun σ H Q=>t σ H fun c H1=>if c=true then ta σ H1 Q else tb σ H1 Q
theorem zB {c:Expr} (hc:PT X c tA) (ha:PE X a ta) (hb:PE X b tb):PE X (.IfExp c a b pos) (MR tA ta tb):=by
 intro pins s σ H Q I h
 refine wpAny_IfExp (jN (hc pins s σ H _ I h) fun d s1 ⟨H1,I1,q1⟩=>?_)
 cases d with
 |true=>exact ha pins s1 σ H1 Q I1 q1
 |false=>exact hb pins s1 σ H1 Q I1 q1
end
end L2
namespace L2
open PySem PySem.Spec PyProof.Rows
def SqL (K:PySem.W.Frag) (H:Hp) (a:Addr) (xs:List V):Prop :=
 Rd H a (.lst xs)∨
  ∃(o:Obj) (its:Array Value) (n:Nat),K.lookup a=some o∧o.cls=.type "list"∧o.dict=none∧o.data=.seq its n∧its.size≤sizeLine∧Vals xs its.toList
def SqT (K:PySem.W.Frag) (H:Hp) (a:Addr) (xs:List V):Prop :=
 Rd H a (.tup xs)∨
  ∃(o:Obj) (its:Array Value) (n:Nat),K.lookup a=some o∧o.cls=.type "tuple"∧o.data=.seq its n∧its.size≤sizeLine∧Vals xs its.toList
def MJ:Value→Option V
 |.none=>some .non
 |.bool b=>some (.bl b)
 |.int i _=>some (.int i)
 |.str x _=>some (.str x)
 |.bytes b _=>some (.byt b)
 |.float b _=>some (.flt b)
 |.ref a=>some (.ref a)
 |.type n=>some (.ty n)
 |_=>none
theorem RelV.abs {x:V} {u:Value} (r:RelV x u):MJ u=some x:=by
 cases x with
 |non=>cases r;rfl
 |bl _=>cases r;rfl
 |int _=>obtain ⟨t,rfl⟩:=r;rfl
 |str _=>obtain ⟨t,rfl⟩:=r;rfl
 |byt _=>obtain ⟨t,rfl⟩:=r;rfl
 |flt _=>obtain ⟨t,rfl⟩:=r;rfl
 |ref _=>cases r;rfl
 |ty _=>cases r;rfl
theorem RelV.inj {x y:V} {u:Value} (r:RelV x u) (q:RelV y u):x=y:=Option.some.inj (r.abs.symm.trans q.abs)
theorem Vals.inj:∀{xs ys:List V} {us:List Value},Vals xs us→Vals ys us→xs=ys
 |_,_,_,.nil,.nil=>rfl
 |_,_,_,.cons r t,.cons r' t'=>by rw [r.inj r',Vals.inj t t']
section
variable {X:Cx} {pins:List (Addr×Obj)} {σ:St} {H:Hp} {s:Shared} {a:Addr} {xs ys:List V}
theorem SqL.of {K:PySem.W.Frag} (h:H a=some (.lst xs)):SqL K H a xs:=.inl (.inl h)
theorem SqT.of {K:PySem.W.Frag} (h:H a=some (.tup xs)):SqT K H a xs:=.inl (.inl h)
theorem Inv.list (I:Inv X pins σ H s) (h:SqL X.K H a xs):∃its:List Value,Vals xs its∧PlainL s.heap a its.toArray∧xs.length≤sizeLine:=by
 rcases h with h|⟨o,its,n,hk,hc,hd,hs,hz,r⟩
 ·obtain ⟨z,its,n,r,e⟩:=h.ok I.hok
  exact ⟨its,r,⟨_,n,e,rfl,rfl,rfl⟩,z⟩
 ·refine ⟨its.toList,r,⟨o,n,I.kIn a o hk,hc,hd,by simpa using hs⟩,?_⟩
  have e:=r.length
  simp only [Array.length_toList] at e
  omega
theorem Inv.tuple (I:Inv X pins σ H s) (h:SqT X.K H a xs):∃its:List Value,Vals xs its∧IsTup s.heap a its.toArray∧xs.length≤sizeLine:=by
 rcases h with h|⟨o,its,n,hk,hc,hs,hz,r⟩
 ·obtain ⟨z,its,r,p⟩:=h.ok I.hok
  exact ⟨its,r,p,z⟩
 ·refine ⟨its.toList,r,⟨o,I.kIn a o hk,hc,n,by simpa using hs⟩,?_⟩
  have e:=r.length
  simp only [Array.length_toList] at e
  omega
theorem Inv.list_inj (I:Inv X pins σ H s) (h:SqL X.K H a xs) (h':SqL X.K H a ys):xs=ys:=by
 obtain ⟨its,r,⟨o,n,e,_,_,d⟩,_⟩:=I.list h
 obtain ⟨its',r',⟨o',n',e',_,_,d'⟩,_⟩:=I.list h'
 rw [e] at e';cases e'
 rw [d] at d'
 injection d' with d1 _
 have:its=its':=by simpa using congrArg Array.toList d1
 subst this
 exact r.inj r'
theorem Inv.tuple_inj (I:Inv X pins σ H s) (h:SqT X.K H a xs) (h':SqT X.K H a ys):xs=ys:=by
 obtain ⟨its,r,⟨o,e,_,n,d⟩,_⟩:=I.tuple h
 obtain ⟨its',r',⟨o',e',_,n',d'⟩,_⟩:=I.tuple h'
 rw [e] at e';cases e'
 rw [d] at d'
 injection d' with d1 _
 have:its=its':=by simpa using congrArg Array.toList d1
 subst this
 exact r.inj r'
end
abbrev Cx.wish (X:Cx) (E:Value→Shared→Prop):Cx:={X with xe:=E}
abbrev Cx.nox (X:Cx):Cx:=X.wish fun _ _=>False
theorem Cx.Ok.wish {X:Cx} (ok:X.Ok) (E:Value→Shared→Prop):(X.wish E).Ok :=
 ⟨ok.mod,ok.kind,ok.glob,ok.blt,ok.above,ok.inj,ok.has,ok.cab,ok.hd,ok.frames,ok.stk,ok.exf,ok.bs,ok.bsz,ok.noex,ok.exfs,ok.funs,ok.frf⟩
theorem Cx.Ok.unwish {X:Cx} {E:Value→Shared→Prop} (ok:(X.wish E).Ok):X.Ok :=
 ⟨ok.mod,ok.kind,ok.glob,ok.blt,ok.above,ok.inj,ok.has,ok.cab,ok.hd,ok.frames,ok.stk,ok.exf,ok.bs,ok.bsz,ok.noex,ok.exfs,ok.funs,ok.frf⟩
section
variable {X:Cx} {pins:List (Addr×Obj)} {σ:St} {H:Hp} {s:Shared} {E:Value→Shared→Prop}
theorem Inv.wish (I:Inv X pins σ H s) (E:Value→Shared→Prop):Inv (X.wish E) pins σ H s:=⟨I.ok.wish E,I.os,I.bare,I.base,I.loc,I.cell,I.free,I.freeC,I.pin,I.hok,I.len⟩
theorem Inv.unwish (I:Inv (X.wish E) pins σ H s):Inv X pins σ H s:=⟨I.ok.unwish,I.os,I.bare,I.base,I.loc,I.cell,I.free,I.freeC,I.pin,I.hok,I.len⟩
theorem SP.unwish {D:Ends} {f:Flow} {s':Shared} (h:SP (X.wish E) pins D f s'):SP X pins D f s':=by
 cases f with
 |next=>obtain ⟨σ',H',I,q⟩:=h;exact ⟨σ',H',I.unwish,q⟩
 |brk=>obtain ⟨σ',H',I,q⟩:=h;exact ⟨σ',H',I.unwish,q⟩
 |cont=>obtain ⟨σ',H',I,q⟩:=h;exact ⟨σ',H',I.unwish,q⟩
 |ret u=>obtain ⟨v,σ',H',I,r,q⟩:=h;exact ⟨v,σ',H',I.unwish,r,q⟩
theorem PSs.nox {st:List Stmt} {t:TS} (h:PSs X.nox st t):PSs X st t:=fun pins s σ H D I hw =>
 wpAny_mono (h pins s σ H D (I.wish _) hw) (fun _ _ q=>q.unwish) fun _ _ z=>False.elim z
end
section
variable {X:Cx} {st:Stmt} {rest:List Stmt} {t u:TS} {e:Expr} {te:TE} {pos:Pos}
def K4:TS:=fun D σ H=>D.nx σ H
def L0 (t u:TS):TS:=fun D σ H=>t {D with nx:=u D} σ H
theorem kR:PSs X [] K4:=fun _ _ σ H _ I h=>wpAny_execs_nil ⟨σ,H,I,h⟩
theorem jG (h1:PS X st t) (h2:PSs X rest u):PSs X (st::rest) (L0 t u):=by
 intro pins s σ H D I h
 refine wpAny_execs_cons (jN (h1 pins s σ H {D with nx:=u D} I h) fun f s1 q=>?_)
 cases f with
 |next =>
  obtain ⟨σ',H',I',q⟩:=q
  exact h2 pins s1 σ' H' D I' q
 |ret v=>exact q
 |brk=>exact q
 |cont=>exact q
theorem jH (h1:PS X st t):PSs X [st] t:=by
 intro pins s σ H D I h
 refine wpAny_execs_cons (jN (h1 pins s σ H D I h) fun f s1 q=>?_)
 cases f with
 |next=>exact wpAny_execs_nil q
 |ret v=>exact q
 |brk=>exact q
 |cont=>exact q
theorem Inv.quiet {pins:List (Addr×Obj)} {σ:St} {H:Hp} {s:Shared} (I:Inv X pins σ H s):interactive X.env=false:=by simp [interactive,I.ok.kind]
def K5 (te:TE):TS:=fun D σ H=>te σ H fun _ H1=>D.nx σ H1
theorem qL (he:PE X e te) (hs:swapsWith e none pos.line X.env=pure false:=by rfl):PS X (.Expr e pos) (K5 te):=by
 intro pins s σ H D I h
 exact wpAny_Expr_any (jN (he pins s σ H _ I h) fun v s1 ⟨x,H1,I1,r1,q1⟩=>⟨σ,H1,I1,q1⟩) I.quiet hs
def L1 (te:TE):TS:=fun D σ H=>te σ H D.rt
theorem jS (he:PE X e te):PS X (.Return (some e) pos) (L1 te):=by
 intro pins s σ H D I h
 exact wpAny_Return_some (jN (he pins s σ H _ I h) fun v s1 ⟨x,H1,I1,r1,q1⟩=>⟨x,σ,H1,I1,r1,q1⟩)
def L5 (c:TT) (t u:TS):TS:=fun D σ H=>c σ H fun b H1=>if b=true then t D σ H1 else u D σ H1
theorem kF {c:Expr} {a b:List Stmt} {tc:TT} (hc:PT X c tc) (ha:PSs X a t) (hb:PSs X b u):PS X (.If c a b pos) (L5 tc t u):=by
 intro pins s σ H D I h
 refine wpAny_If (jN (hc pins s σ H _ I h) fun d s1 ⟨H1,I1,q1⟩=>?_)
 cases d with
 |true=>exact ha pins s1 σ H1 D I1 q1
 |false=>exact hb pins s1 σ H1 D I1 q1
end
abbrev TG:=V→St→Hp→(St→Hp→Prop)→Prop
abbrev QE:=List V→St→Hp→(St→Hp→Prop)→Prop
def PG (X:Cx) (target:Expr) (t:TG):Prop :=
 ∀(pins:List (Addr×Obj)) (s:Shared) (σ:St) (H:Hp) (v:V) (u:Value) (Q:St→Hp→Prop),Inv X pins σ H s→RelV v u→t v σ H Q→
  wpAny (model X.prog X.w) X.A (assign target X.env u) (fun _ s'=>∃σ' H',Inv X pins σ' H' s'∧Q σ' H') X.xe s
def gE (X:Cx) (ts:List Expr) (t:QE):Prop :=
 ∀(pins:List (Addr×Obj)) (s:Shared) (σ:St) (H:Hp) (vs:List V) (us:List Value) (Q:St→Hp→Prop),Inv X pins σ H s→Vals vs us→t vs σ H Q→
  wpAny (model X.prog X.w) X.A (assignInOrder ((assignEach ts X.env).map (·.2)) us) (fun _ s'=>∃σ' H',Inv X pins σ' H' s'∧Q σ' H') X.xe s
abbrev fZ:=V→V→V→Hp→(Hp→Prop)→Prop
def o8 (X:Cx) (t:fZ):Prop :=
 ∀(pins:List (Addr×Obj)) (s:Shared) (σ:St) (H:Hp) (o i v:V) (ov iv u:Value) (Q:Hp→Prop),Inv X pins σ H s→RelV o ov→RelV i iv→RelV v u→t o i v H Q→
  wpAny (model X.prog X.w) X.A (setItem ov iv u) (fun _ s'=>∃H',Inv X pins σ H' s'∧Q H') X.xe s
abbrev lC:=V→V→Hp→VK→Prop
def pG (X:Cx) (op:Operator) (t:lC):Prop :=
 ∀(pins:List (Addr×Obj)) (s:Shared) (σ:St) (H:Hp) (x y:V) (v u:Value) (Q:VK),Inv X pins σ H s→RelV x v→RelV y u→t x y H Q→
  wpAny (model X.prog X.w) X.A (inplaceOp op v u) (EP X pins σ Q) X.xe s
section
variable {X:Cx} {pos:Pos}
def iU (i:Nat):TG:=fun v σ H Q=>Q (σ.set i (some v)) H
theorem j8 {i:Nat} {x:Str} (hN:X.N.Nodup) (hi:X.N[i]?=some x) (hx:gG X.env.scope x) (hf:X.fn x=true∨X.env.scope.names.lookup x=some .local:=by first|exact .inl rfl|exact .inr rfl|assumption):PG X (.Name x pos) (iU i):=by
 intro pins s σ H v u Q I r h
 exact wpAny_assign_Name (sL I hN hi hx r (fun s' I'=>⟨_,H,I',h⟩) hf)
def MI:QE:=fun vs σ H Q=>vs=[]∧Q σ H
def LQ (t:TG) (u:QE):QE:=fun vs σ H Q=>∃v r,vs=v::r∧t v σ H fun σ' H'=>u r σ' H' Q
theorem yV:gE X [] MI:=by
 intro pins s σ H vs us Q I r h
 obtain ⟨e,h⟩:=h
 subst e
 cases r
 exact assignInOrder_nil ⟨σ,H,I,h⟩
theorem kY {e:Expr} {es:List Expr} {t:TG} {u:QE} (h1:PG X e t) (h2:gE X es u)
  (hs:(assignEach (e::es) X.env).map (·.2)=assign e X.env::(assignEach es X.env).map (·.2):=by rfl):gE X (e::es) (LQ t u):=by
 intro pins s σ H vs us Q I r h
 obtain ⟨v,vr,e1,h⟩:=h
 subst e1
 cases r with
 |cons r rr =>
  rw [hs]
  refine assignInOrder_cons (jN (h1 pins s σ H _ _ _ I r h) fun _ s1 ⟨σ1,H1,I1,q1⟩=>?_)
  exact h2 pins s1 σ1 H1 _ _ Q I1 rr q1
def w5 (K:PySem.W.Frag) (n:Nat) (t:QE):TG:=fun v σ H Q=>∃a xs,v=.ref a∧SqT K H a xs∧xs.length=n∧t xs σ H Q
theorem iJ {es:List Expr} {k:Nat} {t:QE} {n:Nat} (hc:X.calm=true) (h:gE X es t)
  (hn:(assignEach es X.env).length=n:=by rfl) (hst:(assignEach es X.env).findIdx? (·.1)=none:=by rfl):PG X (.Tuple es k pos) (w5 X.K n t):=by
 intro pins s σ H v u Q I r hw
 obtain ⟨a,xs,e1,hq,hl,hw⟩:=hw
 subst e1
 cases r
 obtain ⟨its,rv,ht,hz⟩:=I.tuple hq
 refine assign_Tuple_tuple (I.ok.hd hc) ht (by simp [hn,← hl,rv.length]) hst fun h' hx=>?_
 have I1:Inv X pins σ H {s with heap:=h'}:=I.kept (t':=s.toks) fun b o e=>hx b o (Nat.ne_of_lt (Heap.lt_size e)) e
 exact h pins _ σ H xs _ Q I1 (by simpa using rv) hw
def MH (to ti:TE) (t:fZ):TG:=fun v σ H Q=>to σ H fun o H1=>ti σ H1 fun i H2=>t o i v H2 fun H3=>Q σ H3
theorem oG {o i:Expr} {to ti:TE} {t:fZ} (ho:PE X o to) (hi:PE X i ti) (hs:o8 X t)
  (ha:∀v,assign (.Subscript o i pos) X.env v=(do
   let ov ← holding [v] (eval o X.env)
   let iv ← holding [v,ov] (eval i X.env)
   standAt pos
   holding [v,ov,iv] (setItem ov iv v)
   release [v,ov,iv] []):=by intro _;rfl):PG X (.Subscript o i pos) (MH to ti t):=by
 intro pins s σ H v u Q I r h
 rw [ha]
 refine wpAny_bind (wpAny_holding (jN (ho pins s σ H _ I h) fun ov s1 ⟨x,H1,I1,r1,q1⟩=>?_))
 refine wpAny_bind (wpAny_holding (jN (hi pins s1 σ H1 _ I1 q1) fun iv s2 ⟨y,H2,I2,r2,q2⟩=>?_))
 refine wpAny_bind (wpAny_standAt (wpAny_bind (wpAny_holding (jN (hs pins s2 σ H2 x y v ov iv u _ I2 r1 r2 r q2) fun _ s3 ⟨H3,I3,q3⟩=>?_))))
 exact wpAny_release ⟨σ,H3,I3,q3⟩
def wT (te:TE) (g:TG):TS:=fun D σ H=>te σ H fun x H1=>g x σ H1 D.nx
theorem oF {tg e:Expr} {te:TE} {g:TG} (he:PE X e te) (hg:PG X tg g) (hs:swapsWithSole [tg] e pos.line X.env=pure false:=by rfl) (hw:swappedStores [tg] e X.env=pure none:=by rfl)
  (h1:(assignEach [tg] X.env).map (·.2)=[assign tg X.env]:=by rfl):PS X (.Assign [tg] e pos) (wT te g):=by
 intro pins s σ H D I h
 refine wpAny_Assign_stores (jN (he pins s σ H _ I h) fun v s1 ⟨x,H1,I1,r1,q1⟩=>?_) hs hw
 rw [h1]
 exact jN (hg pins s1 σ H1 x v _ I1 r1 q1) fun _ s2 q=>q
theorem jZ {i:Nat} {x:Str} {e:Expr} {te:TE} {pos':Pos} (hN:X.N.Nodup) (hi:X.N[i]?=some x) (hx:gG X.env.scope x) (he:PE X e te) (hs:swapsWith e (some (.Name x pos')) pos.line X.env=pure false:=by rfl) (hf:X.fn x=true∨X.env.scope.names.lookup x=some .local:=by first|exact .inl rfl|exact .inr rfl|assumption) :
  PS X (.Assign [.Name x pos'] e pos) (wT te (iU i)):=by
 intro pins s σ H D I h
 refine wpAny_Assign_Name (jN (he pins s σ H _ I h) fun v s1 ⟨y,H1,I1,r1,q1⟩=>?_) hs
 exact sL I1 hN hi hx r1 (fun s2 I2=>⟨_,H1,I2,q1⟩) hf
def LA (to ti te:TE) (tget:V→V→Hp→VK→Prop) (tip:lC) (tset:fZ):TS:=fun D σ H=>to σ H fun o H1=>ti σ H1 fun i H2=>tget o i H2 fun x H3=>te σ H3 fun y H4=>tip x y H4 fun z H5=>tset o i z H5 fun H6=>D.nx σ H6
def w6 (X:Cx) (t:V→V→Hp→VK→Prop):Prop :=
 ∀(pins:List (Addr×Obj)) (s:Shared) (σ:St) (H:Hp) (o i:V) (ov iv:Value) (Q:VK),Inv X pins σ H s→RelV o ov→RelV i iv→t o i H Q→
  wpAny (model X.prog X.w) X.A (getItem ov iv) (EP X pins σ Q) X.xe s
theorem nP {o i e:Expr} {to ti te:TE} {tget:V→V→Hp→VK→Prop} {tip:lC} {tset:fZ} {op:Operator} {tpos:Pos} (ho:PE X o to) (hi:PE X i ti) (hg:w6 X tget) (he:PE X e te) (hp:pG X op tip) (hs:o8 X tset)
  (ha:∀ov iv new,augStore i ov iv new=(do holding [new,ov,iv] (setItem ov iv new);release [new,ov,iv] [];pure .next):=by intros;rfl):PS X (.AugAssign (.Subscript o i tpos) op e pos) (LA to ti te tget tip tset):=by
 intro pins s σ H D I h
 refine wpAny_AugAssign_SubscriptAny (jN (ho pins s σ H _ I h) fun ov s1 ⟨x1,H1,I1,r1,q1⟩=>?_) ha
 refine jN (hi pins s1 σ H1 _ I1 q1) fun iv s2 ⟨x2,H2,I2,r2,q2⟩=>?_
 refine jN (hg pins s2 σ H2 x1 x2 ov iv _ I2 r1 r2 q2) fun old s3 ⟨x3,H3,I3,r3,q3⟩=>?_
 refine jN (he pins s3 σ H3 _ I3 q3) fun v s4 ⟨x4,H4,I4,r4,q4⟩=>?_
 refine jN (hp pins s4 σ H4 x3 x4 old v _ I4 r3 r4 q4) fun new s5 ⟨x5,H5,I5,r5,q5⟩=>?_
 exact jN (hs pins s5 σ H5 x1 x2 x5 ov iv new _ I5 r1 r2 r5 q5) fun _ s6 ⟨H6,I6,q6⟩=>⟨σ,H6,I6,q6⟩
def xC (f:Int→Int→Int):lC:=fun x y H Q=>∃i j,x=.int i∧y=.int j∧Q (.int (f i j)) H
theorem u5:pG X .Add (xC fun i j=>i+j):=by
 intro pins s σ H x y v u Q I r1 r2 h
 obtain ⟨i,j,e1,e2,q⟩:=h
 subst e1;subst e2
 obtain ⟨t,rfl⟩:=r1
 obtain ⟨t',rfl⟩:=r2
 exact iadd_int ⟨.int _,H,I.tok _,⟨_,rfl⟩,q⟩
theorem KW:pG X .Sub (xC fun i j=>i - j):=by
 intro pins s σ H x y v u Q I r1 r2 h
 obtain ⟨i,j,e1,e2,q⟩:=h
 subst e1;subst e2
 obtain ⟨t,rfl⟩:=r1
 obtain ⟨t',rfl⟩:=r2
 exact isub_int ⟨.int _,H,I.tok _,⟨_,rfl⟩,q⟩
end
section
variable {X:Cx} {pos:Pos}
end
structure It where
 go:Nat→Hp→Prop
 yld:Nat→Hp→V→Hp→Prop
 stop:Nat→Hp→Prop
def zG (X:Cx) (pins:List (Addr×Obj)) (H:Hp) (b:Addr):Prop :=
 H b=none∧b≠X.env.locals∧b∉X.fs∧(b∈X.ex∨X.s₀.heap.objs.size≤b)∧(∀x c,X.env.cells.lookup x=some c→c≠b)∧∀p∈X.pn++pins,p.1≠b
theorem Inv.fpOk {X:Cx} {pins:List (Addr×Obj)} {σ:St} {H H':Hp} {s:Shared} {b:Addr} (I:Inv X pins σ H s) (hb:s.heap.objs.size≤b) (hn:H' b=none):zG X pins H' b:=by
 refine ⟨hn,Nat.ne_of_gt (Nat.lt_of_lt_of_le I.lt hb),I.nofs hb,.inr (Nat.le_trans I.sz hb),fun x c e z=>?_,fun p hp z=>?_⟩
 ·obtain ⟨v,q⟩:=I.cell x c e
  exact absurd (Nat.lt_of_lt_of_le q.lt (by rw [z];exact hb)) (Nat.lt_irrefl _)
 ·exact absurd (Nat.lt_of_lt_of_le (Heap.lt_size (I.pin p hp).1) (by rw [z];exact hb)) (Nat.lt_irrefl _)
structure Turn (P:Program) (w:World) (K:PySem.W.Frag) (tg:Expr) (J:It) (fp:List Addr) (it:Addr) (tn:Nat→Heap→Prop):Prop where
 mem:it∈fp
 obj:∀i h,tn i h→∀b∈fp,∃o,h.get? b=some o∧∀v,o.data≠.cell v
 keep:∀i h h',tn i h→(∀b∈fp,∀o,h.get? b=some o→h'.get? b=some o)→tn i h'
 item:∀(X:Cx),X.prog=P→X.w=w→X.K=K→X.calm=true→∀(i:Nat) (pins:List (Addr×Obj)) (s:Shared) (σ:St) (H:Hp) (E:Value→Shared→Prop),Inv X pins σ H s→(∀b∈fp,zG X pins H b)→tn i s.heap→J.go i H→
  wpAny (model P w) X.A (pyNext (.ref it)) (fun r s1=>∃u,r=some u∧
   wpAny (model P w) X.A (letOwnedTupleGo tg (.ref it) u) (fun _ s2=>∃x H',Inv X pins σ H' s2∧RelV x u∧J.yld i H x H'∧tn (i+1) s2.heap∧∀b∈fp,H' b=none) E s1) E s
 done:∀(X:Cx),X.prog=P→X.w=w→X.K=K→X.calm=true→∀(i:Nat) (pins:List (Addr×Obj)) (s:Shared) (σ:St) (H:Hp) (E:Value→Shared→Prop),Inv X pins σ H s→(∀b∈fp,zG X pins H b)→tn i s.heap→J.stop i H→
  wpAny (model P w) X.A (pyNext (.ref it)) (fun r s1=>r=none∧Inv X pins σ H s1) E s
 self:∀(A:Around) (i:Nat) (s:Shared) (Q:Value→Shared→Prop) (E:Value→Shared→Prop),tn i s.heap→Q (.ref it) s→wpAny (model P w) A (pyIter (.ref it)) Q E s
abbrev TI:=St→Hp→(It→Hp→Prop)→Prop
def xD (X:Cx) (pins:List (Addr×Obj)) (σ:St) (tg:Expr) (R:It→Hp→Prop) (itv:Value) (s2:Shared):Prop :=
 ∃(it:Addr) (fp:List Addr) (tn:Nat→Heap→Prop) (J:It) (H':Hp),itv=.ref it∧Inv X pins σ H' s2∧Turn X.prog X.w X.K tg J fp it tn∧tn 0 s2.heap∧(∀b∈fp,zG X pins H' b)∧R J H'
def PI (X:Cx) (tg iter:Expr) (wi:TI):Prop :=
 ∀(pins:List (Addr×Obj)) (s:Shared) (σ:St) (H:Hp) (R:It→Hp→Prop),Inv X pins σ H s→wi σ H R→
  wpAny (model X.prog X.w) X.A (eval iter X.env) (fun v s1=>wpAny (model X.prog X.w) X.A (pyIter v) (xD X pins σ tg R) X.xe s1) X.xe s
theorem oS {M:Model} {A:Around} {E:Value→Shared→Prop} {s:Shared} {tg:Expr} {it:Addr} {u:Value} {o:Obj} {n:String} {vs:Array Value} {Q:Unit→Shared→Prop} (ho:s.heap.get? it=some o) (hc:o.cls=.type n) (hd:o.data=.fields vs)
    (hn:["enumerate","zip","dict_itemiterator","dict_reverseitemiterator","odict_iterator","itertools.zip_longest","itertools.pairwise"].contains n=false) (hQ:Q () s):wpAny M A (letOwnedTupleGo tg (.ref it) u) Q E s:=by
  unfold letOwnedTupleGo
  cases tg<;>first
    |exact wpAny_pure hQ
    | (cases u<;>first
        |exact wpAny_pure hQ
        | (refine wpAny_bind (wpAny_load ho ?_)
           rw [hc,hd]
           show wpAny M A (if (["enumerate","zip","dict_itemiterator","dict_reverseitemiterator","odict_iterator","itertools.zip_longest","itertools.pairwise"].contains n&&vs[0]? == some (rawInt _))=true then _ else _) Q E s
           rw [if_neg (by intro h;rw [hn,Bool.false_and] at h;cases h)]
           exact wpAny_pure hQ))
def ZH (K:PySem.W.Frag) (a:Addr):It :=
 ⟨fun i H=>∃xs x,SqL K H a xs∧xs[i]?=some x,fun i H x H'=>H'=H∧∀xs,SqL K H a xs→xs[i]?=some x,fun i H=>∃xs,SqL K H a xs∧xs.length≤i⟩
def gH (K:PySem.W.Frag) (a:Addr):It :=
 ⟨fun i H=>∃xs x,SqT K H a xs∧xs[i]?=some x,fun i H x H'=>H'=H∧∀xs,SqT K H a xs→xs[i]?=some x,fun i H=>∃xs,SqT K H a xs∧xs.length≤i⟩
def QF (lo:Int) (n:Nat):It:=⟨fun i _=>i<n,fun i H x H'=>H'=H∧x=.int (lo+i),fun i _=>n≤i⟩
theorem E5 {P:Program} {w:World} {K:PySem.W.Frag} {tg:Expr} (a it:Addr):Turn P w K tg (ZH K a) [it] it (fun i h=>h.IsListIter it a i) where
 mem:=by simp
 obj:=fun i h st b hb=>by
  have e:b=it:=by simpa using hb
  subst e
  obtain ⟨o,e,c,d⟩:=st
  exact ⟨o,e,fun v z=>by rw [d] at z;cases z⟩
 keep:=fun i h h' st k=>st.at fun o e=>k it (by simp) o e
 item:=by
  intro X hP hw hK hc i pins s σ H E I hf st hg
  subst hP hw hK
  obtain ⟨xs,x,hq,hx⟩:=hg
  obtain ⟨its,rv,p,hz⟩:=I.list hq
  obtain ⟨u,hu,ru⟩:=rv.get hx
  obtain ⟨f0,f1,f2,f3,f4,f5⟩:=hf it (by simp)
  refine wpAny_pyNext_list_item st p.isList (x:=u) (by simpa using hu) fun h' st' sb=>?_
  have I1:Inv X pins σ H {s with heap:=h'}:=I.turned (t':=s.toks) (fun b o hb e=>(sb.2 b hb).trans e) f0 f1 f3 f4 f5
  obtain ⟨o,e,c,d⟩:=id st'
  exact ⟨u,rfl,oS (s:={s with heap:=h'}) e c d (by decide) ⟨x,H,I1,ru,⟨rfl,fun ys hy=>by rw [I.list_inj hy hq];exact hx⟩,st',fun b hb=>(hf b hb).1⟩⟩
 done:=by
  intro X hP hw hK hc i pins s σ H E I hf st hg
  subst hP hw hK
  obtain ⟨xs,hq,hx⟩:=hg
  obtain ⟨its,rv,p,hz⟩:=I.list hq
  obtain ⟨f0,f1,f2,f3,f4,f5⟩:=hf it (by simp)
  have hl:=rv.length
  exact wpAny_pyNext_list_end (I.ok.hd hc) st p.isList (by simp;omega) fun h' eb=>⟨rfl,I.turned (t':=s.toks) (fun b o hb e=>eb b o hb e) f0 f1 f3 f4 f5⟩
 self:=fun _ _ _ _ _ st h=>wpAny_pyIter_listiter st h
theorem EE {P:Program} {w:World} {K:PySem.W.Frag} {tg:Expr} (a it:Addr):Turn P w K tg (gH K a) [it] it (fun i h=>h.IsTupleIter it a i) where
 mem:=by simp
 obj:=fun i h st b hb=>by
  have e:b=it:=by simpa using hb
  subst e
  obtain ⟨o,e,c,d⟩:=st
  exact ⟨o,e,fun v z=>by rw [d] at z;cases z⟩
 keep:=fun i h h' st k=>st.at fun o e=>k it (by simp) o e
 item:=by
  intro X hP hw hK hc i pins s σ H E I hf st hg
  subst hP hw hK
  obtain ⟨xs,x,hq,hx⟩:=hg
  obtain ⟨its,rv,p,hz⟩:=I.tuple hq
  obtain ⟨u,hu,ru⟩:=rv.get hx
  obtain ⟨f0,f1,f2,f3,f4,f5⟩:=hf it (by simp)
  refine wpAny_pyNext_tuple_item st (show s.heap.IsTuple a its.toArray from p) (x:=u) (by simpa using hu) fun h' st' sb=>?_
  have I1:Inv X pins σ H {s with heap:=h'}:=I.turned (t':=s.toks) (fun b o hb e=>(sb.2 b hb).trans e) f0 f1 f3 f4 f5
  obtain ⟨o,e,c,d⟩:=id st'
  exact ⟨u,rfl,oS (s:={s with heap:=h'}) e c d (by decide) ⟨x,H,I1,ru,⟨rfl,fun ys hy=>by rw [I.tuple_inj hy hq];exact hx⟩,st',fun b hb=>(hf b hb).1⟩⟩
 done:=by
  intro X hP hw hK hc i pins s σ H E I hf st hg
  subst hP hw hK
  obtain ⟨xs,hq,hx⟩:=hg
  obtain ⟨its,rv,p,hz⟩:=I.tuple hq
  obtain ⟨f0,f1,f2,f3,f4,f5⟩:=hf it (by simp)
  have hl:=rv.length
  exact wpAny_pyNext_tuple_end (I.ok.hd hc) st (show s.heap.IsTuple a its.toArray from p) (by simp;omega) fun h' eb=>⟨rfl,I.turned (t':=s.toks) (fun b o hb e=>eb b o hb e) f0 f1 f3 f4 f5⟩
 self:=fun _ _ _ _ _ st h=>wpAny_pyIter_tupleiter st h
theorem EF {P:Program} {w:World} {K:PySem.W.Frag} {tg:Expr} (it:Addr) (lo:Int) (n:Nat):Turn P w K tg (QF lo n) [it] it (fun i h=>IsRangeIter h it (lo+(i:Nat)*1) ((n:Int) - (i:Nat)) 1) where
 mem:=by simp
 obj:=fun i h st b hb=>by
  have e:b=it:=by simpa using hb
  subst e
  exact ⟨_,st,fun v z=>by
   have z':Data.fields _=Data.cell v:=z
   cases z'⟩
 keep:=fun i h h' st k=>k it (by simp) _ st
 item:=by
  intro X hP hw hK hc i pins s σ H E I hf st hg
  subst hP hw hK
  obtain ⟨f0,f1,f2,f3,f4,f5⟩:=hf it (by simp)
  have W:=Walks.range (prog:=X.prog) (w:=X.w) (I.ok.hd hc) it lo 1 n
  refine W.item i s _ _ hg st fun v h' tk hv st' kk=>?_
  obtain ⟨t,rfl⟩:=hv
  have I1:Inv X pins σ H {s with heap:=h',toks:=tk}:=I.turned (fun b o hb e=>kk b o (by simpa using hb) e) f0 f1 f3 f4 f5
  refine ⟨_,rfl,oS (s:={s with heap:=h',toks:=tk}) (n:="range_iterator") st' rfl rfl (by decide) ⟨.int (lo+i),H,I1,⟨t,?_⟩,⟨rfl,rfl⟩,st',fun b hb=>(hf b hb).1⟩⟩
  rw [Int.mul_one]
 done:=by
  intro X hP hw hK hc i pins s σ H E I hf st hg
  subst hP hw hK
  obtain ⟨f0,f1,f2,f3,f4,f5⟩:=hf it (by simp)
  exact wpAny_pyNext_range_end (I.ok.hd hc) st (by have:n≤i:=hg;omega) fun h' eb=>⟨rfl,I.turned (t':=s.toks) (fun b o hb e=>eb b o hb e) f0 f1 f3 f4 f5⟩
 self:=fun _ _ _ _ _ st h=>wpAny_pyIter_rangeiter st h
end L2
namespace L2
open PySem PySem.Spec PyProof.Rows
section
variable {X:Cx} {tg:Expr}
def LO (K:PySem.W.Frag) (tl:TE):TI:=fun σ H R=>tl σ H fun x H1=>∃a,x=.ref a∧(∃xs,SqL K H1 a xs)∧R (ZH K a) H1
def MG (K:PySem.W.Frag) (tl:TE):TI:=fun σ H R=>tl σ H fun x H1=>∃a,x=.ref a∧(∃xs,SqT K H1 a xs)∧R (gH K a) H1
theorem vK {l:Expr} {tl:TE} (hl:PE X l tl):PI X tg l (LO X.K tl):=by
 intro pins s σ H R I h
 refine jN (hl pins s σ H _ I h) fun v s1 ⟨x,H1,I1,r1,q1⟩=>?_
 obtain ⟨a,e,⟨xs,hq⟩,q⟩:=q1
 subst e
 cases r1
 obtain ⟨its,rv,p,hz⟩:=I1.list hq
 refine wpAny_pyIter_list p.isList ?_
 refine ⟨s1.heap.objs.size,[s1.heap.objs.size],_,_,H1,rfl,I1.kept (t':=s1.toks) fun b o e=>Heap.get?_push_of_some _ e,E5 a _,⟨_,Heap.get?_push_size _ rfl,rfl,rfl⟩,fun b hb=>?_,q⟩
 have e:b=s1.heap.objs.size:=by simpa using hb
 subst e
 exact I1.fpOk (Nat.le_refl _) (I1.hok.fresh (Nat.le_refl _))
theorem KD {l:Expr} {tl:TE} (hl:PE X l tl):PI X tg l (MG X.K tl):=by
 intro pins s σ H R I h
 refine jN (hl pins s σ H _ I h) fun v s1 ⟨x,H1,I1,r1,q1⟩=>?_
 obtain ⟨a,e,⟨xs,hq⟩,q⟩:=q1
 subst e
 cases r1
 obtain ⟨its,rv,p,hz⟩:=I1.tuple hq
 refine wpAny_pyIter_tuple (show s1.heap.IsTuple a its.toArray from p) ?_
 refine ⟨s1.heap.objs.size,[s1.heap.objs.size],_,_,H1,rfl,I1.kept (t':=s1.toks) fun b o e=>Heap.get?_push_of_some _ e,EE a _,⟨_,Heap.get?_push_size _ rfl,rfl,rfl⟩,fun b hb=>?_,q⟩
 have e:b=s1.heap.objs.size:=by simpa using hb
 subst e
 exact I1.fpOk (Nat.le_refl _) (I1.hok.fresh (Nat.le_refl _))
theorem GP {pins:List (Addr×Obj)} {σ:St} {H:Hp} {s:Shared} {R:It→Hp→Prop} {E:Value→Shared→Prop} {lo hi:Int} {t u v:Tok} {tk:Nat} (I:Inv X pins σ H s) (h1 : -(2 ^ 62)≤lo) (h2:lo<2 ^ 62) (h3 : -(2 ^ 62)≤hi) (h4:hi<2 ^ 62)
    (q:R (QF lo (hi - lo).toNat) H):wpAny (model X.prog X.w) X.A (pyIter (.ref s.heap.objs.size)) (xD X pins σ tg R) E {s with heap:=s.heap.push {cls:=.type "range",data:=.fields #[.int lo t,.int hi u,.int 1 v]},toks:=tk}:=by
  refine wpAny_pyIter_range (IsRange.new ..) (small_one h1 h2 h3 h4) ?_
  have I1:Inv X pins σ H {s with heap:=s.heap.push {cls:=.type "range",data:=.fields #[.int lo t,.int hi u,.int 1 v]},toks:=tk}:=I.kept fun b o e=>Heap.get?_push_of_some _ e
  refine ⟨(s.heap.push {cls:=.type "range",data:=.fields #[.int lo t,.int hi u,.int 1 v]}).objs.size,[(s.heap.push {cls:=.type "range",data:=.fields #[.int lo t,.int hi u,.int 1 v]}).objs.size],_,_,H,rfl,
    I1.kept (t':=tk) fun b o e=>Heap.get?_push_of_some _ e,EF _ lo (hi - lo).toNat,?_,fun b hb=>?_,q⟩
  · have e1:lo+((0:Nat):Int)*1=lo:=by simp
    have e2:(((hi - lo).toNat:Nat):Int) - ((0:Nat):Int)=Builtin.Range.rangeSize lo hi 1:=by rw [rangeSize_one];split<;>omega
    show IsRangeIter _ _ (lo+((0:Nat):Int)*1) ((((hi - lo).toNat:Nat):Int) - ((0:Nat):Int)) 1
    rw [e1,e2]
    exact Heap.get?_push_size _ rfl
  · have e:b=(s.heap.push {cls:=.type "range",data:=.fields #[.int lo t,.int hi u,.int 1 v]}).objs.size:=by simpa using hb
    subst e
    exact I1.fpOk (Nat.le_refl _) (I1.hok.fresh (Nat.le_refl _))
def LN (ta:TA):TI:=fun σ H R=>ta σ H fun vs H1=>∃j:Int,vs=[.int j]∧-(2 ^ 62)≤j∧j<2 ^ 62∧R (QF 0 j.toNat) H1
theorem yU {a:Expr} {ta:TA} {p pos:Pos} (hg:Gl X "range") (hm:X.mg "range"=none) (ha:PA X [a] ta) (hs:starEach [a] X.env=[(false,eval a X.env)]:=by rfl):PI X tg (.Call (.Name "range" p) [a] [] pos) (LN ta):=by
 intro pins s σ H R I h
 refine Call_ (eC I hg hm boot_range (PyProof.Rows.callWith_type1 (jN (ha pos pins s σ H _ I h) fun us s1 ⟨vs,H1,I1,r1,q1⟩=>?_) hs rfl))
 obtain ⟨j,e,q1,q2,q⟩:=q1
 subst e
 cases r1 with
 |cons r rr =>
  cases rr
  obtain ⟨t,rfl⟩:=r
  exact call_range_1 (GP I1 (by omega) (by omega) q1 q2 (by simpa using q))
def L6 (wi:TI) (g:TG) (tb:TS):TS:=fun D σ H=>wi σ H fun J H1=>∃W:Nat→Nat→St→Hp→Prop,(∃m,W 0 m σ H1)∧∀i m σ H,W i m σ H→
 (J.stop i H∧D.nx σ H)∨(J.go i H∧∃N:St→Hp→Prop,(∀σ' H',N σ' H'→∃m',m'<m∧W (i+1) m' σ' H')∧∀x H',J.yld i H x H'→g x σ H' fun σ2 H2=>tb {D with nx:=N,ct:=N,bk:=D.nx} σ2 H2)
def fS (fp:List Addr) (h:Heap):List (Addr×Obj):=fp.filterMap fun b=>(h.get? b).map fun o=>(b,o)
theorem gQ {fp:List Addr} {h:Heap} {b:Addr} {o:Obj} (hb:b∈fp) (e:h.get? b=some o):(b,o)∈fS fp h:=List.mem_filterMap.mpr ⟨b,hb,by rw [e];rfl⟩
theorem FK {fp:List Addr} {h:Heap} {p:Addr×Obj} (hp:p∈fS fp h):p.1∈fp∧h.get? p.1=some p.2:=by
 obtain ⟨b,hb,e⟩:=List.mem_filterMap.mp hp
 cases q:h.get? b with
 |none=>rw [q] at e;cases e
 |some o =>
  rw [q] at e
  have e':(b,o)=p:=Option.some.inj e
  subst e'
  exact ⟨hb,q⟩
theorem Inv.pinned {pins:List (Addr×Obj)} {σ:St} {H:Hp} {s:Shared} {fp:List Addr} (I:Inv X pins σ H s) (hf:∀b∈fp,zG X pins H b) (ho:∀b∈fp,∃o,s.heap.get? b=some o∧∀v,o.data≠.cell v):Inv X (pins++fS fp s.heap) σ H s :=
 I.pins_of fun p hp=>(List.mem_append.mp hp).elim (fun z=>I.pin p (List.mem_append_right _ z)) fun z=>by
  obtain ⟨hb,e⟩:=FK z
  obtain ⟨f0,f1,f2,_⟩:=hf p.1 hb
  obtain ⟨o,e',d⟩:=ho p.1 hb
  rw [e] at e';cases e'
  exact ⟨e,f0,f1,f2,d⟩
theorem Inv.unpinned {pins pl:List (Addr×Obj)} {σ:St} {H:Hp} {s:Shared} (I:Inv X (pins++pl) σ H s):Inv X pins σ H s:=I.pins_of fun p hp=>I.pin p (List.mem_append_right _ (List.mem_append_left _ hp))
theorem yK {iter:Expr} {body:List Stmt} {wi:TI} {g:TG} {tb:TS} {pos:Pos} (hp:PassesOwn (model X.prog X.w) X.A X.env X.xe) (hc:X.calm=true) (hi:PI X tg iter wi) (hg:PG X tg g) (hb:PSs X body tb)
  (hs:∀x,foldedSetIterable iter X.env x=pure x:=by intro _;rfl):PS X (.For tg iter body [] pos) (L6 wi g tb):=by
 intro pins s σ H D I h
 refine wpAny_For (jN (hi pins s σ H _ I h) fun v s1 h1=>jN h1 fun itv s2 h2=>?_) hs
 obtain ⟨it,fp,tn,J,H2,e,I2,T,st2,f2,W,⟨m0,w0⟩,turn⟩:=h2
 subst e
 have stat:∀{H':Hp},(∀b∈fp,H' b=none)→∀b∈fp,zG X pins H' b:=fun hn b hb=>⟨hn b hb,(f2 b hb).2⟩
 refine codeAny_forLoop_any (fun n s'=>∃i σ' H',Inv X pins σ' H' s'∧tn i s'.heap∧(∀b∈fp,H' b=none)∧W i n σ' H') ?_ m0 ⟨0,σ,H2,I2,st2,fun b hb=>(f2 b hb).1,w0⟩
 rintro n s3 ⟨i,σ3,H3,I3,st3,fr3,w3⟩
 rcases turn i n σ3 H3 w3 with ⟨stop,qn⟩|⟨go,N,hN,step⟩
 ·refine wpAny_passesOwn hp (jN (T.done X rfl rfl rfl hc i pins s3 σ3 H3 X.xe I3 (stat fr3) st3 stop) fun r s4 ⟨hr,I4⟩=>?_)
  subst hr
  exact wpAny_execs_nil ⟨σ3,H3,I4,qn⟩
 ·refine wpAny_passesOwn hp (jN (T.item X rfl rfl rfl hc i pins s3 σ3 H3 X.xe I3 (stat fr3) st3 go) fun r s4 ⟨u,hr,h4⟩=>?_)
  subst hr
  refine wpAny_passesOwn hp (jN h4 fun _ s5 ⟨x,H5,I5,r5,y5,st5,fr5⟩=>?_)
  have I5':=I5.pinned (stat fr5) (T.obj _ _ st5)
  refine wpAny_passesOwn hp (jN (hg _ s5 σ3 H5 x u _ I5' r5 (step x H5 y5)) fun _ s6 ⟨σ6,H6,I6,q6⟩=>?_)
  refine wpAny_passesOwn hp (jN (hb _ s6 σ6 H6 _ I6 q6) fun f s7 q7=>?_)
  have again:∀{σ7:St} {H7:Hp},Inv X (pins++fS fp s5.heap) σ7 H7 s7→N σ7 H7→∃m,m<n∧∃i σ' H',Inv X pins σ' H' s7∧tn i s7.heap∧(∀b∈fp,H' b=none)∧W i m σ' H':=fun {σ7 H7} I7 n7=>by
   obtain ⟨m',hm,w7⟩:=hN σ7 H7 n7
   refine ⟨m',hm,i+1,σ7,H7,I7.unpinned,T.keep _ _ _ st5 fun b hb o e=>(I7.pin (b,o) (List.mem_append_right _ (List.mem_append_right _ (gQ hb e)))).1,fun b hb=>?_,w7⟩
   obtain ⟨o,e,d⟩:=T.obj _ _ st5 b hb
   exact (I7.pin (b,o) (List.mem_append_right _ (List.mem_append_right _ (gQ hb e)))).2.1
  cases f with
  |next=>obtain ⟨σ7,H7,I7,n7⟩:=q7;exact again I7 n7
  |cont=>obtain ⟨σ7,H7,I7,n7⟩:=q7;exact again I7 n7
  |brk=>obtain ⟨σ7,H7,I7,q7⟩:=q7;exact ⟨σ7,H7,I7.unpinned,q7⟩
  |ret v=>obtain ⟨x7,σ7,H7,I7,r7,q7⟩:=q7;exact ⟨x7,σ7,H7,I7.unpinned,r7,q7⟩
end
theorem dM {K:PySem.W.Frag} {a:Addr} {xs:List V} {g:TG} {tb:TS} {D:Ends} {σ:St} {H:Hp} (Pv:Nat→St→Hp→Prop) (h0:Pv 0 σ H) (hl:∀i σ H,i≤xs.length→Pv i σ H→SqL K H a xs)
    (hs:∀i x σ H,xs[i]?=some x→Pv i σ H→g x σ H fun σ2 H2=>tb {D with nx:=Pv (i+1),ct:=Pv (i+1),bk:=D.nx} σ2 H2) (hd:∀σ H,Pv xs.length σ H→D.nx σ H) :
    ∃W:Nat→Nat→St→Hp→Prop,(∃m,W 0 m σ H)∧∀i m σ H,W i m σ H→
      ((ZH K a).stop i H∧D.nx σ H)∨((ZH K a).go i H∧∃N:St→Hp→Prop,(∀σ' H',N σ' H'→∃m',m'<m∧W (i+1) m' σ' H')∧∀x H',(ZH K a).yld i H x H'→g x σ H' fun σ2 H2=>tb {D with nx:=N,ct:=N,bk:=D.nx} σ2 H2):=by
  refine ⟨fun i m σ H=>m=xs.length - i∧i≤xs.length∧Pv i σ H,⟨xs.length,by simp,Nat.zero_le _,h0⟩,?_⟩
  rintro i m σ H ⟨rfl,hi,p⟩
  have q:=hl i σ H hi p
  by_cases hlt:i<xs.length
  · refine .inr ⟨⟨xs,xs[i],q,by simp [hlt]⟩,Pv (i+1),fun σ' H' p'=>⟨xs.length - (i+1),by omega,rfl,hlt,p'⟩,fun x H' y=>?_⟩
    obtain ⟨e,y⟩:=y
    subst e
    exact hs i x σ _ (y xs q) p
  · have e:i=xs.length:=by omega
    subst e
    exact .inl ⟨⟨xs,q,Nat.le_refl _⟩,hd σ H p⟩
theorem II {K:PySem.W.Frag} {a:Addr} {xs:List V} {g:TG} {tb:TS} {D:Ends} {σ:St} {H:Hp} (Pv:Nat→St→Hp→Prop) (h0:Pv 0 σ H) (hl:∀i σ H,i≤xs.length→Pv i σ H→SqT K H a xs)
    (hs:∀i x σ H,xs[i]?=some x→Pv i σ H→g x σ H fun σ2 H2=>tb {D with nx:=Pv (i+1),ct:=Pv (i+1),bk:=D.nx} σ2 H2) (hd:∀σ H,Pv xs.length σ H→D.nx σ H) :
    ∃W:Nat→Nat→St→Hp→Prop,(∃m,W 0 m σ H)∧∀i m σ H,W i m σ H→
      ((gH K a).stop i H∧D.nx σ H)∨((gH K a).go i H∧∃N:St→Hp→Prop,(∀σ' H',N σ' H'→∃m',m'<m∧W (i+1) m' σ' H')∧∀x H',(gH K a).yld i H x H'→g x σ H' fun σ2 H2=>tb {D with nx:=N,ct:=N,bk:=D.nx} σ2 H2):=by
  refine ⟨fun i m σ H=>m=xs.length - i∧i≤xs.length∧Pv i σ H,⟨xs.length,by simp,Nat.zero_le _,h0⟩,?_⟩
  rintro i m σ H ⟨rfl,hi,p⟩
  have q:=hl i σ H hi p
  by_cases hlt:i<xs.length
  · refine .inr ⟨⟨xs,xs[i],q,by simp [hlt]⟩,Pv (i+1),fun σ' H' p'=>⟨xs.length - (i+1),by omega,rfl,hlt,p'⟩,fun x H' y=>?_⟩
    obtain ⟨e,y⟩:=y
    subst e
    exact hs i x σ _ (y xs q) p
  · have e:i=xs.length:=by omega
    subst e
    exact .inl ⟨⟨xs,q,Nat.le_refl _⟩,hd σ H p⟩
theorem QY {lo:Int} {n:Nat} {g:TG} {tb:TS} {D:Ends} {σ:St} {H:Hp} (Pv:Nat→St→Hp→Prop) (h0:Pv 0 σ H)
  (hs:∀i σ H,i<n→Pv i σ H→g (.int (lo+i)) σ H fun σ2 H2=>tb {D with nx:=Pv (i+1),ct:=Pv (i+1),bk:=D.nx} σ2 H2) (hd:∀σ H,Pv n σ H→D.nx σ H) :
  ∃W:Nat→Nat→St→Hp→Prop,(∃m,W 0 m σ H)∧∀i m σ H,W i m σ H→
   ((QF lo n).stop i H∧D.nx σ H)∨((QF lo n).go i H∧∃N:St→Hp→Prop,(∀σ' H',N σ' H'→∃m',m'<m∧W (i+1) m' σ' H')∧∀x H',(QF lo n).yld i H x H'→g x σ H' fun σ2 H2=>tb {D with nx:=N,ct:=N,bk:=D.nx} σ2 H2):=by
 refine ⟨fun i m σ H=>m=n - i∧i≤n∧Pv i σ H,⟨n,by simp,Nat.zero_le _,h0⟩,?_⟩
 rintro i m σ H ⟨rfl,hi,p⟩
 by_cases hlt:i<n
 ·refine .inr ⟨hlt,Pv (i+1),fun σ' H' p'=>⟨n - (i+1),by omega,rfl,hlt,p'⟩,fun x H' y=>?_⟩
  obtain ⟨e,y⟩:=y
  subst e y
  exact hs i σ _ hlt p
 ·have e:i=n:=by omega
  subst e
  exact .inl ⟨Nat.le_refl _,hd σ H p⟩
end L2
namespace L2
open PySem PySem.Spec PyProof.Rows
abbrev R2:=V→V→Hp→VK→Prop
def q0 (X:Cx) (f:Value→Value→Sem Value) (r:R2):Prop :=
 ∀(pins:List (Addr×Obj)) (s:Shared) (σ:St) (H:Hp) (x y:V) (v u:Value) (Q:VK),Inv X pins σ H s→RelV x v→RelV y u→r x y H Q→
  wpAny (model X.prog X.w) X.A (f v u) (EP X pins σ Q) X.xe s
def pF (X:Cx) (f:Value→Sem Value) (r:V→Hp→VK→Prop):Prop :=
 ∀(pins:List (Addr×Obj)) (s:Shared) (σ:St) (H:Hp) (x:V) (v:Value) (Q:VK),Inv X pins σ H s→RelV x v→r x H Q→
  wpAny (model X.prog X.w) X.A (f v) (EP X pins σ Q) X.xe s
def yZ (X:Cx) (f:Value) (r:List V→Hp→VK→Prop):Prop :=
 ∀(pins:List (Addr×Obj)) (s:Shared) (σ:St) (H:Hp) (xs:List V) (us:List Value) (Q:VK),Inv X pins σ H s→Vals xs us→r xs H Q→
  wpAny (model X.prog X.w) X.A (call f us) (EP X pins σ Q) X.xe s
def i5 (r:R2) (ta tb:TE):TE:=fun σ H Q=>ta σ H fun x H1=>tb σ H1 fun y H2=>r x y H2 Q
def MP (r:V→Hp→VK→Prop) (ta:TE):TE:=fun σ H Q=>ta σ H fun x H1=>r x H1 Q
def rI (C:Int→Int→Prop) (g:Int→Int→V):R2:=fun x y H Q=>∃i j,x=.int i∧y=.int j∧C i j∧Q (g i j) H
def ZE (g:Int→Int→V):R2:=fun x y H Q=>∃i j,x=.int i∧y=.int j∧Q (g i j) H
def rU (g:Int→V):V→Hp→VK→Prop:=fun x H Q=>∃i,x=.int i∧Q (g i) H
section
variable {X:Cx} {a b c:Expr} {ta tb tc:TE} {pos:Pos}
theorem o6 (ha:PE X a ta) (hb:PE X b tb) {pins:List (Addr×Obj)} {s:Shared} {σ:St} {H:Hp} {R:V→V→Hp→Prop} (I:Inv X pins σ H s)
  (h:ta σ H fun x H1=>tb σ H1 fun y H2=>R x y H2) {Q:Value→Shared→Prop} {f:Value→Value→Sem Value}
  (hf:∀v u s2 x y H2,Inv X pins σ H2 s2→RelV x v→RelV y u→R x y H2→wpAny (model X.prog X.w) X.A (f v u) Q X.xe s2) :
  wpAny (model X.prog X.w) X.A (eval a X.env) (fun v s₁=>wpAny (model X.prog X.w) X.A (eval b X.env) (fun u s₂=>wpAny (model X.prog X.w) X.A (f v u) Q X.xe s₂) X.xe s₁) X.xe s:=by
 refine jN (ha pins s σ H _ I h) fun v s1 ⟨x,H1,I1,r1,q1⟩=>?_
 refine jN (hb pins s1 σ H1 _ I1 q1) fun u s2 ⟨y,H2,I2,r2,q2⟩=>?_
 exact hf v u s2 x y H2 I2 r1 r2 q2
theorem jJ {op:Operator} {r:R2} (ho:q0 X (binaryOp op) r) (ha:PE X a ta) (hb:PE X b tb):PE X (.BinOp a op b pos) (i5 r ta tb):=by
 intro pins s σ H Q I h
 exact wpAny_BinOp (o6 ha hb I h fun v u s2 x y H2 I2 rx ry q=>ho pins s2 σ H2 x y v u Q I2 rx ry q)
theorem oP {op:UnaryOp} {r:V→Hp→VK→Prop} (ho:pF X (unaryOp op) r) (ha:PE X a ta):PE X (.UnaryOp op a pos) (MP r ta):=by
 intro pins s σ H Q I h
 exact UnaryOp_ (jN (ha pins s σ H _ I h) fun v s1 ⟨x,H1,I1,r1,q1⟩=>ho pins s1 σ H1 x v Q I1 r1 q1)
theorem i6 {f:Value→Value→Sem Value} {C:Int→Int→Prop} {g:Int→Int→Int}
  (rule:∀(i j:Int) (t u:Tok) (s:Shared) (Q:Value→Shared→Prop) (E:Value→Shared→Prop),C i j→Q (.int (g i j) s.toks) {s with toks:=s.toks+1}→wpAny (model X.prog X.w) X.A (f (.int i t) (.int j u)) Q E s) :
  q0 X f (rI C fun i j=>.int (g i j)):=by
 intro pins s σ H x y v u Q I rx ry h
 obtain ⟨i,j,rfl,rfl,hc,q⟩:=h
 obtain ⟨t,rfl⟩:=rx
 obtain ⟨t',rfl⟩:=ry
 exact rule i j t t' s _ _ hc ⟨.int (g i j),H,I.tok _,⟨_,rfl⟩,q⟩
theorem wW {f:Value→Value→Sem Value} {g:Int→Int→Int}
  (rule:∀(i j:Int) (t u:Tok) (s:Shared) (Q:Value→Shared→Prop) (E:Value→Shared→Prop),Q (.int (g i j) s.toks) {s with toks:=s.toks+1}→wpAny (model X.prog X.w) X.A (f (.int i t) (.int j u)) Q E s) :
  q0 X f (ZE fun i j=>.int (g i j)):=by
 intro pins s σ H x y v u Q I rx ry h
 obtain ⟨i,j,rfl,rfl,q⟩:=h
 obtain ⟨t,rfl⟩:=rx
 obtain ⟨t',rfl⟩:=ry
 exact rule i j t t' s _ _ ⟨.int (g i j),H,I.tok _,⟨_,rfl⟩,q⟩
theorem o4 {f:Value→Value→Sem Value} {g:Int→Int→Bool}
  (rule:∀(i j:Int) (t u:Tok) (s:Shared) (Q:Value→Shared→Prop) (E:Value→Shared→Prop),Q (.bool (g i j)) s→wpAny (model X.prog X.w) X.A (f (.int i t) (.int j u)) Q E s) :
  q0 X f (ZE fun i j=>.bl (g i j)):=by
 intro pins s σ H x y v u Q I rx ry h
 obtain ⟨i,j,rfl,rfl,q⟩:=h
 obtain ⟨t,rfl⟩:=rx
 obtain ⟨t',rfl⟩:=ry
 exact rule i j t t' s _ _ ⟨.bl (g i j),H,I,rfl,q⟩
def MN (i j:Int):Prop:=0<j∧j<1073741824
def MM (i j:Int):Prop:=0≤j∧j≤1000000∧i.natAbs<2 ^ 64
def CMul (i j:Int):Prop:=(-(2 ^ 64)<i∧i<2 ^ 64)∨(-(2 ^ 64)<j∧j<2 ^ 64)
theorem CMul.ok {i j:Int} (h:CMul i j):IntMulOk i j:=by
 rcases h with ⟨h1,h2⟩|⟨h1,h2⟩
 ·exact .of_left (intBits_le_64 h1 h2)
 ·exact .of_right (intBits_le_64 h1 h2)
theorem j7:q0 X (binaryOp .Add) (ZE fun i j=>.int (i+j)):=wW fun _ _ _ _ _ _ _ q=>add_int q
theorem yL:q0 X (binaryOp .Sub) (ZE fun i j=>.int (i - j)):=wW fun _ _ _ _ _ _ _ q=>sub_int q
theorem kG:q0 X (binaryOp .Mult) (rI CMul fun i j=>.int (i*j)):=i6 fun _ _ _ _ _ _ _ hc q=>mul_int q hc.ok
theorem iG:q0 X (binaryOp .FloorDiv) (rI MN fun i j=>.int (i / j)):=i6 fun i j _ _ _ _ _ hc q=>by
 have h1:(0:Int)<j:=hc.1
 have h2:j<1073741824:=hc.2
 exact floordiv_int (by omega) (by rw [Int.fdiv_eq_ediv_of_nonneg i (by omega)];exact q) (.inl (PyProof.noPylong_small (by omega)))
theorem dX:q0 X (binaryOp .Mod) (rI (fun _ j=>0<j) fun i j=>.int (i%j)):=i6 fun i j _ _ _ _ _ hc q=>by
 have h1:(0:Int)<j:=hc
 exact mod_int' (by omega) (by rw [Int.fmod_eq_emod_of_nonneg i (by omega)];exact q)
theorem KI:q0 X (binaryOp .Pow) (rI MM fun i j=>.int (i ^ j.toNat)):=i6 fun _ _ _ _ _ _ _ hc q=>pow_int_small hc.1 hc.2.1 hc.2.2 q
theorem MO {f:Value→Sem Value} {g:Int→Int}
  (rule:∀(i:Int) (t:Tok) (s:Shared) (Q:Value→Shared→Prop) (E:Value→Shared→Prop),Q (.int (g i) s.toks) {s with toks:=s.toks+1}→wpAny (model X.prog X.w) X.A (f (.int i t)) Q E s) :
  pF X f (rU fun i=>.int (g i)):=by
 intro pins s σ H x v Q I rx h
 obtain ⟨i,rfl,q⟩:=h
 obtain ⟨t,rfl⟩:=rx
 exact rule i t s _ _ ⟨.int (g i),H,I.tok _,⟨_,rfl⟩,q⟩
theorem nZ:pF X (unaryOp .USub) (rU fun i=>.int (-i)):=MO fun _ _ _ _ _ q=>neg_int q
end
def wU:V→V→Bool
 |.non,.non=>true|.non,.int _=>true|.int _,.non=>true|.non,.bl _=>true|.bl _,.non=>true|.non,.str _=>true|.str _,.non=>true
 |.int _,.int _=>true|.bl _,.bl _=>true|.str _,.str _=>true|.byt _,.byt _=>true
 |.int _,.str _=>true|.str _,.int _=>true|.bl _,.str _=>true|.str _,.bl _=>true
 |_,_=>false
def MV:R2:=fun x y H Q=>wU x y=true∧Q (.bl (decide (x=y))) H
def MU:R2:=fun x y H Q=>wU x y=true∧Q (.bl (!decide (x=y))) H
theorem uF {i j:Int}:decide (V.int i=V.int j)=(i == j):=by
 rw [Bool.eq_iff_iff]
 simp
theorem u8 {i j:Bool}:decide (V.bl i=V.bl j)=(i == j):=by
 rw [Bool.eq_iff_iff]
 simp
theorem uE {i j:Str}:decide (V.str i=V.str j)=(i == j):=by
 rw [Bool.eq_iff_iff]
 simp
theorem uG {i j:Array UInt8}:decide (V.byt i=V.byt j)=(i.toList == j.toList):=by
 rw [Bool.eq_iff_iff]
 cases i
 cases j
 simp
section
variable {X:Cx} {a b c:Expr} {ta tb tc:TE} {pos:Pos}
theorem qA {pins:List (Addr×Obj)} {σ:St} {H:Hp} {s:Shared} {Q:VK} {k k':Bool} (I:Inv X pins σ H s) (q:Q (.bl k) H) (e:k=k'):EP X pins σ Q (.bool k') s:=by
 subst e
 exact ⟨.bl k,H,I,rfl,q⟩
theorem kK:q0 X (compareOp .Eq) MV:=by
 intro pins s σ H x y v u Q I rx ry h
 obtain ⟨hs,q⟩:=h
 cases x with
 |non =>
  cases rx
  cases y with
  |non=>cases ry;exact PySem.EqNone.eq_none_none (qA I q (by simp))
  |bl j=>cases ry;exact PySem.EqNone.eq_none_bool (qA I q (by simp))
  |int j=>obtain ⟨t',rfl⟩:=ry;exact PySem.EqNone.eq_none_int (qA I q (by simp))
  |str j=>obtain ⟨t',rfl⟩:=ry;exact PySem.EqNone.eq_none_str (qA I q (by simp))
  |_=>exact absurd (show false=true from hs) Bool.false_ne_true
 |bl i =>
  cases rx
  cases y with
  |non=>cases ry;exact PySem.EqNone.eq_bool_none (qA I q (by simp))
  |bl j=>cases ry;exact eq_bool (qA I q u8)
  |str j=>obtain ⟨t',rfl⟩:=ry;exact PySem.EqMixed.eq_bool_str (qA I q (by simp))
  |_=>exact absurd (show false=true from hs) Bool.false_ne_true
 |int i =>
  obtain ⟨t,rfl⟩:=rx
  cases y with
  |non=>cases ry;exact PySem.EqNone.eq_int_none (qA I q (by simp))
  |int j=>obtain ⟨t',rfl⟩:=ry;exact eq_int (qA I q uF)
  |str j=>obtain ⟨t',rfl⟩:=ry;exact PySem.EqMixed.eq_int_str (qA I q (by simp))
  |_=>exact absurd (show false=true from hs) Bool.false_ne_true
 |str i =>
  obtain ⟨t,rfl⟩:=rx
  cases y with
  |non=>cases ry;exact PySem.EqNone.eq_str_none (qA I q (by simp))
  |bl j=>cases ry;exact PySem.EqMixed.eq_str_bool (qA I q (by simp))
  |int j=>obtain ⟨t',rfl⟩:=ry;exact PySem.EqMixed.eq_str_int (qA I q (by simp))
  |str j=>obtain ⟨t',rfl⟩:=ry;exact eq_str (qA I q uE)
  |_=>exact absurd (show false=true from hs) Bool.false_ne_true
 |byt i =>
  obtain ⟨t,rfl⟩:=rx
  cases y with
  |byt j=>obtain ⟨t',rfl⟩:=ry;exact PySem.W.eq_bytes (qA I q uG)
  |_=>exact absurd (show false=true from hs) Bool.false_ne_true
 |_=>cases y<;>exact absurd (show false=true from hs) Bool.false_ne_true
theorem zZ:q0 X (compareOp .NotEq) MU:=by
 intro pins s σ H x y v u Q I rx ry h
 obtain ⟨hs,q⟩:=h
 cases x with
 |non =>
  cases rx
  cases y with
  |non=>cases ry;exact PySem.EqNone.ne_none_none (qA I q (by simp))
  |bl j=>cases ry;exact PySem.EqNone.ne_none_bool (qA I q (by simp))
  |int j=>obtain ⟨t',rfl⟩:=ry;exact PySem.EqNone.ne_none_int (qA I q (by simp))
  |str j=>obtain ⟨t',rfl⟩:=ry;exact PySem.EqNone.ne_none_str (qA I q (by simp))
  |_=>exact absurd (show false=true from hs) Bool.false_ne_true
 |bl i =>
  cases rx
  cases y with
  |non=>cases ry;exact PySem.EqNone.ne_bool_none (qA I q (by simp))
  |bl j=>cases ry;exact ne_bool (qA I q (congrArg not u8))
  |str j=>obtain ⟨t',rfl⟩:=ry;exact PySem.EqMixed.ne_bool_str (qA I q (by simp))
  |_=>exact absurd (show false=true from hs) Bool.false_ne_true
 |int i =>
  obtain ⟨t,rfl⟩:=rx
  cases y with
  |non=>cases ry;exact PySem.EqNone.ne_int_none (qA I q (by simp))
  |int j=>obtain ⟨t',rfl⟩:=ry;exact ne_int (qA I q (congrArg not uF))
  |str j=>obtain ⟨t',rfl⟩:=ry;exact PySem.EqMixed.ne_int_str (qA I q (by simp))
  |_=>exact absurd (show false=true from hs) Bool.false_ne_true
 |str i =>
  obtain ⟨t,rfl⟩:=rx
  cases y with
  |non=>cases ry;exact PySem.EqNone.ne_str_none (qA I q (by simp))
  |bl j=>cases ry;exact PySem.EqMixed.ne_str_bool (qA I q (by simp))
  |int j=>obtain ⟨t',rfl⟩:=ry;exact PySem.EqMixed.ne_str_int (qA I q (by simp))
  |str j=>obtain ⟨t',rfl⟩:=ry;exact ne_str (qA I q (congrArg not uE))
  |_=>exact absurd (show false=true from hs) Bool.false_ne_true
 |byt i =>
  obtain ⟨t,rfl⟩:=rx
  cases y with
  |byt j=>obtain ⟨t',rfl⟩:=ry;exact PySem.W.ne_bytes (qA I q (congrArg not uG))
  |_=>exact absurd (show false=true from hs) Bool.false_ne_true
 |_=>cases y<;>exact absurd (show false=true from hs) Bool.false_ne_true
theorem iS:q0 X (compareOp .Lt) (ZE fun i j=>.bl (decide (i<j))):=o4 fun _ _ _ _ _ _ _ q=>lt_int q
theorem wM:q0 X (compareOp .Gt) (ZE fun i j=>.bl (decide (j<i))):=o4 fun _ _ _ _ _ _ _ q=>gt_int q
theorem LE:q0 X (compareOp .GtE) (ZE fun i j=>.bl (decide (j≤i))):=o4 fun _ _ _ _ _ _ _ q=>ge_int q
theorem KJ:q0 X (compareOp .Is) (fun x y H Q=>y=.non∧Q (.bl (decide (x=.non))) H):=by
 intro pins s σ H x y v u Q I rx ry h
 obtain ⟨rfl,q⟩:=h
 cases ry
 refine is_none_gen (qA I q ?_)
 cases x<;>first
  | (cases rx;rfl)
  | (obtain ⟨t,rfl⟩:=rx;rfl)
theorem j3 (b:Expr) {op:CmpOp} (h:op≠.In:=by decide) (h2:op≠.NotIn:=by decide):behindInMarks op b=false:=by
 have e1:(op == CmpOp.In)=false:=by cases op<;>first|rfl|exact absurd rfl h
 have e2:(op == CmpOp.NotIn)=false:=by cases op<;>first|rfl|exact absurd rfl h2
 cases b<;>simp [behindInMarks,e1,e2]
theorem yI {op:CmpOp} {r:R2} (ho:q0 X (compareOp op) r) (ha:PE X a ta) (hb:PE X b tb) (hm:behindInMarks op b=false):PE X (.Compare a [op] [b] pos) (i5 r ta tb):=by
 intro pins s σ H Q I h
 exact wpAny_Compare1 (o6 ha hb I h fun v u s2 x y H2 I2 rx ry q=>ho pins s2 σ H2 x y v u Q I2 rx ry q) hm
def K3 (t:TE):TT:=fun σ H Q=>t σ H fun x H'=>∃k,x=.bl k∧Q k H'
theorem kC {op:CmpOp} {r:R2} (ho:q0 X (compareOp op) r) (ha:PE X a ta) (hb:PE X b tb) (hm:behindInMarks op b=false):PT X (.Compare a [op] [b] pos) (K3 (i5 r ta tb)):=by
 intro pins s σ H Q I h
 refine wpAny_isTrue_Compare1 (jN (ha pins s σ H _ I h) fun v s1 ⟨x,H1,I1,r1,q1⟩=>jN (hb pins s1 σ H1 _ I1 q1) fun u s2 ⟨y,H2,I2,r2,q2⟩ =>
  jN (ho pins s2 σ H2 x y v u _ I2 r1 r2 q2) fun c s3 ⟨z,H3,I3,r3,k,e,q3⟩=>?_) hm
 subst e
 cases r3
 exact wpAny_truthy_bool ⟨H3,I3,q3⟩
theorem eB:(sizeLine:Nat)<2 ^ 63:=by rw [sizeLine_eq];decide
theorem Q6 {x:V} {us:List Value} (r:Vals [x] us):∃u,us=[u]∧RelV x u:=by
 cases r with
 |cons r1 r2=>cases r2;exact ⟨_,rfl,r1⟩
theorem wF {x y:V} {us:List Value} (r:Vals [x,y] us):∃u w',us=[u,w']∧RelV x u∧RelV y w':=by
 cases r with
 |cons r1 r2 =>
  cases r2 with
  |cons r3 r4=>cases r4;exact ⟨_,_,rfl,r1,r3⟩
theorem GB (hc:X.calm=true):yZ X (.builtin "max") (fun xs H Q=>∃i j,xs=[.int i,.int j]∧Q (.int (if j>i then j else i)) H):=by
 intro pins s σ H xs us Q I r h
 obtain ⟨i,j,rfl,q⟩:=h
 obtain ⟨u,w',rfl,⟨t,rfl⟩,⟨t',rfl⟩⟩:=wF r
 refine max_two_ints (I.ok.hd hc) fun h' tk k=>⟨_,H,I.kept k,?_,q⟩
 by_cases hj:j>i
 ·rw [if_pos hj,if_pos hj];exact ⟨_,rfl⟩
 ·rw [if_neg hj,if_neg hj];exact ⟨_,rfl⟩
theorem sC (hc:X.calm=true):yZ X (.builtin "min") (fun xs H Q=>∃i j,xs=[.int i,.int j]∧Q (.int (if j<i then j else i)) H):=by
 intro pins s σ H xs us Q I r h
 obtain ⟨i,j,rfl,q⟩:=h
 obtain ⟨u,w',rfl,⟨t,rfl⟩,⟨t',rfl⟩⟩:=wF r
 refine min_two_ints (I.ok.hd hc) fun h' tk k=>⟨_,H,I.kept k,?_,q⟩
 by_cases hj:j<i
 ·rw [if_pos hj,if_pos hj];exact ⟨_,rfl⟩
 ·rw [if_neg hj,if_neg hj];exact ⟨_,rfl⟩
theorem sD:yZ X (.type "int") (fun xs H Q=>(∃i,xs=[.int i]∧Q (.int i) H)∨∃k,xs=[.bl k]∧Q (.int (if k then 1 else 0)) H):=by
 intro pins s σ H xs us Q I r h
 rcases h with ⟨i,rfl,q⟩|⟨k,rfl,q⟩
 ·obtain ⟨u,rfl,t,rfl⟩:=Q6 r
  exact call_int_int ⟨.int i,H,I,⟨_,rfl⟩,q⟩
 ·obtain ⟨u,rfl,r1⟩:=Q6 r
  cases r1
  exact call_int_bool ⟨.int (if k then 1 else 0),H,I.tok _,⟨_,rfl⟩,q⟩
end
end L2
namespace L2
open PySem PySem.Spec PyProof.Rows
structure ObjM (h:Heap) (x dx C:Addr) (mA:Str→Option Value):Prop where
 obj:h.get? x=some (PySem.W.instObj C dx)
 ns:h.Ns1 dx mA
 ne:dx≠x
theorem FN {h:Heap} {dx:Addr} {mA:Str→Option Value} (n:h.Ns1 dx mA):∃od,h.get? dx=some od∧∀name,PySem.W.lookIn name od=some (mA name):=by
 obtain ⟨o,es,ep,ho,hd,hk,_,hm⟩:=n
 refine ⟨o,ho,fun name=>?_⟩
 have e:=hm name
 unfold nsFind findBy at e
 rw [← Array.find?_toList] at e
 unfold PySem.W.lookIn
 rw [hd]
 dsimp only
 split
 ·rename_i y q
  rw [q] at e
  exact congrArg some e
 ·rename_i q
  rw [q] at e
  have a:es.toList.any (·.refKey)=false:=by
   rw [List.any_eq_false]
   intro y hy
   obtain ⟨z,t,hkey⟩:=hk y (Array.mem_toList_iff.mp hy)
   simp [DictEntry.refKey,hkey]
  have a':¬es.toList.any (·.refKey)=true:=by rw [a];exact Bool.false_ne_true
  rw [if_neg a']
  exact congrArg some e
theorem ObjM.look {h:Heap} {x dx C:Addr} {mA:Str→Option Value} (I:ObjM h x dx C mA):∃od,PySem.W.InstAt h x (PySem.W.instObj C dx) C (some od)∧∀name,PySem.W.lookIn name od=some (mA name) :=
 let ⟨od,ho,hl⟩:=FN I.ns
 ⟨od,⟨I.obj,rfl,rfl,ho⟩,hl⟩
section
variable {prog:Program} {w:World} {A:Around} {E:Value→Shared→Prop} {s:Shared} {K:PySem.W.Frag} {x dx C f:Addr} {mA:Str→Option Value} {name:Str} {v:Value}
theorem IG {expr:Bool} {Q:Value→Shared→Prop} (X:K.In s.heap) (I:ObjM s.heap x dx C mA) (hg:PySem.W.plainGet K C name=true) (hh:PySem.W.hasDictIn K C=true)
  (ha:PySem.W.findIn K (.ref C) name=some none) (hv:mA name=some v) (hv':PySem.W.handedIn v=true) (h:Q v {s with toks:=s.toks+1}) :
  wpAny (model prog w) A (getAttr (.ref x) name expr) Q E s:=by
 obtain ⟨od,J,hl⟩:=I.look
 exact PySem.W.get_value X J (PySem.W.plainGet_of hg).1 (PySem.W.findObj_own hh ha rfl (by rw [hl,hv])) hv' h
theorem G4 {pl:Sem Bool} {Q:Value×List Value→Shared→Prop} (X:K.In s.heap) (I:ObjM s.heap x dx C mA) (hg:PySem.W.plainGet K C name=true)
  (hf:PySem.W.findIn K (.ref C) name=some (some (.ref f))) (ht:PySem.W.isFn K (.ref f)=true) (hv:mA name=none) (h:Q (.ref f,[.ref x]) s) :
  wpAny (model prog w) A (getMethod (.ref x) name pl) Q E s:=by
 obtain ⟨od,J,hl⟩:=I.look
 exact PySem.W.method_fn X J (PySem.W.plainGet_of hg).1 (PySem.W.plainGet_of hg).2 hf (beq_iff_eq.mp ht) (by show (PySem.W.lookIn name od).map (·.isSome)=some false;rw [hl,hv];rfl) h
theorem HM {ns:List Str} {Q:Unit→Shared→Prop} (X:K.In s.heap) (I:ObjM s.heap x dx C mA)
  (hs:PySem.W.findIn K (.ref C) "__setattr__"=some (some (.builtin "object.__setattr__"))) (hp:PySem.W.plainOver K C=true) (ht:PySem.W.takerIn K C name=some none) (hh:PySem.W.hasDictIn K C=true)
  (hw:PySem.Within mA ns) (hsz:ns.length≤sizeLine)
  (h:∀h',ObjM h' x dx C (fun y=>if y=name then some v else mA y)→Heap.SameBut dx s.heap h'→Q () {s with heap:=h',toks:=s.toks+2}) :
  wpAny (model prog w) A (setAttr (.ref x) name v) Q E s:=by
 obtain ⟨od,J,hl⟩:=I.look
 refine PySem.W.set_plain X J hs (PySem.W.osa_open (s:={s with toks:=s.toks+1}) (r:=none) X J hp ht fun b=>?_)
 obtain ⟨cd,hc,hd'⟩:=PySem.W.any_some hh
 have hx:s.heap.get? x=some ⟨.ref C,some dx,.plain,#[]⟩:=I.obj
 refine wpAny_bind (wpAny_pure (wpAny_bind (wpAny_bind (wpAny_loadPart hx (wpAny_bind (PySem.W.Looks.here (s:={s with toks:=s.toks+1}) (PySem.W.looks_clsIn X hc) ?_))))))
 rw [hd']
 refine wpAny_pure (a:=some dx) (wpAny_bind (wpAny_pure (wpAny_bind ?_)))
 refine wpAny_nsSet1 (s:={s with toks:=s.toks+1}) I.ns fun h' hn2 hs2=>?_
 obtain ⟨oD,esD,epD,hoD,hdD,hcD⟩:=hn2.count (PySem.Within.cons name v hw)
 refine wpAny_bind (wpAny_lookBehind hoD (by rw [hdD];exact pastItsLine_dict (Nat.le_trans hcD (by rw [List.length_cons];omega))) ?_)
 exact wpAny_pure (h _ ⟨(hs2.2 _ (Ne.symm I.ne)).trans I.obj,hn2,I.ne⟩ hs2)
theorem GY {R:Result→Shared→Prop} {vs:List Value} {kw:List (Str×Value)} (X:K.In s.heap) (hm:PySem.W.makesIn K C=true)
  (hi:PySem.W.findIn K (.ref C) "__init__"=some (some (.ref f))) (hf:PySem.W.typeIn K (.ref f)=some (.type "function"))
  (h:codeAny (model prog w) (A.under (.builtin "type.__call__" ⟨.ref C::vs,kw⟩)) (.call (.ref f) ⟨.ref (s.heap.objs.size+1)::vs,kw⟩) (PySem.W.InitBack (s.heap.objs.size+1) R)
   {s with heap:=(s.heap.push PySem.W.emptyDict).push (PySem.W.instObj C s.heap.objs.size)}) :
  codeAny (model prog w) A (.call (.ref C) ⟨vs,kw⟩) R s:=by
 obtain ⟨hh,g,d,t,os⟩:=s
 exact PySem.W.make_core (PySem.W.makes_of X hm) (PySem.W.looks_findIn X hi) (fun self=>PySem.W.bind_fn X self hf) (.inl rfl) h
end
def jK (f:Str) (v:V):List (Str×V)→List (Str×V)
 |[]=>[(f,v)]
 | (g,x)::r=>if g=f then (g,v)::r else (g,x)::jK f v r
theorem vG (f g:Str) (v:V):∀fs:List (Str×V),(jK f v fs).lookup g=if g=f then some v else fs.lookup g
 |[]=>by
  show List.lookup g [(f,v)]=_
  by_cases h:g=f
  ·have hb:(g == f)=true:=beq_iff_eq.mpr h
   simp only [List.lookup,hb,if_pos h]
  ·have hb:(g == f)=false:=beq_eq_false_iff_ne.mpr h
   simp only [List.lookup,hb,if_neg h]
 | (k,x)::r=>by
  have ih:=vG f g v r
  rw [show jK f v ((k,x)::r)=(if k=f then (k,v)::r else (k,x)::jK f v r) from rfl]
  by_cases hk:k=f
  ·rw [if_pos hk]
   by_cases h:g=k
   ·have hb:(g == k)=true:=beq_iff_eq.mpr h
    simp only [List.lookup,hb,if_pos (h.trans hk)]
   ·have hb:(g == k)=false:=beq_eq_false_iff_ne.mpr h
    simp only [List.lookup,hb,if_neg (fun e:g=f=>h (e.trans hk.symm))]
  ·rw [if_neg hk]
   by_cases h:g=k
   ·have hb:(g == k)=true:=beq_iff_eq.mpr h
    simp only [List.lookup,hb,if_neg (fun e:g=f=>hk (h.symm.trans e))]
   ·have hb:(g == k)=false:=beq_eq_false_iff_ne.mpr h
    simp only [List.lookup,hb]
    exact ih
theorem mR (f:Str) (v:V):∀fs:List (Str×V),f∈(jK f v fs).map (·.1)∧∀g,g∈fs.map (·.1)→g∈(jK f v fs).map (·.1)
 |[]=>⟨by simp [jK],fun g h=>by simp at h⟩
 | (k,x)::r=>by
  obtain ⟨i1,i2⟩:=mR f v r
  rw [show jK f v ((k,x)::r)=(if k=f then (k,v)::r else (k,x)::jK f v r) from rfl]
  by_cases hk:k=f
  ·rw [if_pos hk]
   subst hk
   exact ⟨by simp,fun g h=>by simpa using h⟩
  ·rw [if_neg hk]
   refine ⟨?_,fun g h=>?_⟩
   ·rw [List.map_cons]
    exact List.mem_cons_of_mem _ i1
   ·rw [List.map_cons] at h ⊢
    rcases List.mem_cons.mp h with e|e
    ·exact List.mem_cons.mpr (.inl e)
    ·exact List.mem_cons_of_mem _ (i2 g e)
theorem zK (f:Str) (v:V):∀fs:List (Str×V),(jK f v fs).length≤fs.length+1
 |[]=>by simp [jK]
 | (k,x)::r=>by
  have ih:=zK f v r
  rw [show jK f v ((k,x)::r)=(if k=f then (k,v)::r else (k,x)::jK f v r) from rfl]
  by_cases hk:k=f
  ·rw [if_pos hk,List.length_cons,List.length_cons];omega
  ·rw [if_neg hk,List.length_cons,List.length_cons];omega
theorem RelO.some_of {v:V} {o:Option Value} (r:RelO (some v) o):∃u,o=some u∧RelV v u:=by
 cases o with
 |none=>exact (show False from r).elim
 |some u=>exact ⟨u,rfl,r⟩
theorem RelO.none_of {o:Option Value} (r:RelO none o):o=none:=by
 cases o with
 |none=>rfl
 |some u=>exact (show False from r).elim
theorem FV {v:V} {u:Value} (r:RelV v u):PySem.W.handedIn u=true:=by
 cases v with
 |non=>cases (show u=Value.none from r);rfl
 |bl b=>cases (show u=Value.bool b from r);rfl
 |int i=>obtain ⟨t,e⟩:=(show ∃t,u=Value.int i t from r);cases e;rfl
 |str x=>obtain ⟨t,e⟩:=(show ∃t,u=Value.str x t from r);cases e;rfl
 |byt b=>obtain ⟨t,e⟩:=(show ∃t,u=Value.bytes b t from r);cases e;rfl
 |flt b=>obtain ⟨t,e⟩:=(show ∃t,u=Value.float b t from r);cases e;rfl
 |ref a=>cases (show u=Value.ref a from r);rfl
 |ty n=>cases (show u=Value.type n from r);rfl
section
variable {P:Program} {w:World} {H H':Hp} {h h':Heap} {a C dx:Addr} {fs fs':List (Str×V)}
theorem nS (hok:HOk P w H h) (e:H a=some (.ins C dx fs)):∃mA,ObjM h a dx C mA∧(∀f,RelO (fs.lookup f) (mA f))∧PySem.Within mA (fs.map (·.1))∧fs.length≤1000∧H dx=some (.own a):=by
 obtain ⟨d,z,ne,ob,mA,n,r,q⟩:=(show ObjOk P w H h a (.ins C dx fs) from hok a _ e)
 exact ⟨mA,⟨ob,n,ne⟩,r,q,z,d⟩
end
structure Cls (K:PySem.W.Frag) (C:Addr):Prop where
 pg:PySem.W.plainGet K C Str.empty=true
 hd:PySem.W.hasDictIn K C=true
 po:PySem.W.plainOver K C=true
 sa:PySem.W.findIn K (.ref C) "__setattr__"=some (some (.builtin "object.__setattr__"))
theorem Cls.get {K:PySem.W.Frag} {C:Addr} (c:Cls K C) (f:Str):PySem.W.plainGet K C f=true:=c.pg
def NoAttr (K:PySem.W.Frag) (C:Addr) (f:Str):Prop:=PySem.W.findIn K (.ref C) f=some none
theorem NoAttr.taker {K:PySem.W.Frag} {C:Addr} {f:Str} (n:NoAttr K C f):PySem.W.takerIn K C f=some none:=by
 unfold PySem.W.takerIn
 rw [show PySem.W.findIn K (.ref C) f=some none from n]
 rfl
structure Meth (K:PySem.W.Frag) (C:Addr) (m:Str) (f:Addr):Prop where
 at_:PySem.W.findIn K (.ref C) m=some (some (.ref f))
 fn:PySem.W.isFn K (.ref f)=true
 kp:PySem.W.keepIn K (.ref f)=true
section
variable {X:Cx} {pins:List (Addr×Obj)} {σ:St} {H:Hp} {s:Shared} {a C dx:Addr} {fs:List (Str×V)} {f:Str} {v:V} {A:Around} {E:Value→Shared→Prop}
theorem ES {b:Bool} {Q:Value→Shared→Prop} (I:Inv X pins σ H s) (e:H a=some (.ins C dx fs)) (c:Cls X.K C) (n:NoAttr X.K C f) (l:fs.lookup f=some v)
  (h:∀u s',Inv X pins σ H s'→RelV v u→Q u s'):wpAny (model X.prog X.w) A (getAttr (.ref a) f b) Q E s:=by
 obtain ⟨mA,O,r,_,_,_⟩:=nS I.hok e
 obtain ⟨u,hu,ru⟩:=RelO.some_of (v:=v) (o:=mA f) (by rw [← l];exact r f)
 exact IG I.kIn O (c.get f) c.hd n hu (FV ru) (h u _ (I.tok _) ru)
theorem dF {m:Str} {g:Addr} {pl:Sem Bool} {Q:Value×List Value→Shared→Prop} (I:Inv X pins σ H s) (e:H a=some (.ins C dx fs)) (c:Cls X.K C) (k:Meth X.K C m g) (l:fs.lookup m=none)
  (h:Q (.ref g,[.ref a]) s):wpAny (model X.prog X.w) A (getMethod (.ref a) m pl) Q E s:=by
 obtain ⟨mA,O,r,_,_,_⟩:=nS I.hok e
 have hn:mA m=none:=RelO.none_of (by rw [← l];exact r m)
 exact G4 I.kIn O (c.get m) k.at_ k.fn hn h
theorem EI {y:V} {u:Value} {Q:Unit→Shared→Prop} (I:Inv X pins σ H s) (e:H a=some (.ins C dx fs)) (c:Cls X.K C) (n:NoAttr X.K C f) (hl:fs.length<1000) (ry:RelV y u)
  (h:∀s',Inv X pins σ (upd H a (.ins C dx (jK f y fs))) s'→Q () s'):wpAny (model X.prog X.w) A (setAttr (.ref a) f u) Q E s:=by
 obtain ⟨mA,O,r,wi,_,ho⟩:=nS I.hok e
 have hz:(fs.map (·.1)).length≤sizeLine:=by rw [List.length_map,sizeLine_eq];omega
 refine HM I.kIn O c.sa c.po n.taker c.hd wi hz fun h' O' sb=>h _ ?_
 have hd:∃o,h'.get? dx=some o:=let ⟨o,_,_,e',_⟩:=O'.ns;⟨o,e'⟩
 refine I.write (x:=a) (e:=dx) (by rw [e];exact True.intro) (.inr ho) (fun b q hb z=>(sb.2 b hb).trans z) hd ?_
 refine ⟨by rw [j4 O.ne];exact ho,?_,O.ne,O'.obj,_,O'.ns,fun g=>?_,fun g hg=>?_⟩
 ·have:=zK f y fs;omega
 ·show RelO ((jK f y fs).lookup g) (if g=f then some u else mA g)
  rw [vG]
  by_cases q:g=f
  ·rw [if_pos q,if_pos q];exact ry
  ·rw [if_neg q,if_neg q];exact r g
 ·by_cases q:g=f
  ·rw [q];exact (mR f y fs).1
  ·refine (mR f y fs).2 g (wi g fun z=>hg ?_)
   show (if g=f then some u else mA g)=none
   rw [if_neg q];exact z
theorem Inv.made (I:Inv X pins σ H s):Inv X pins σ (upd (upd H s.heap.objs.size (.own (s.heap.objs.size+1))) (s.heap.objs.size+1) (.ins C s.heap.objs.size []))
  {s with heap:=(s.heap.push PySem.W.emptyDict).push (PySem.W.instObj C s.heap.objs.size)}:=by
 have e1:(s.heap.push PySem.W.emptyDict).get? s.heap.objs.size=some PySem.W.emptyDict:=Heap.get?_push_size s.heap rfl
 have e2:((s.heap.push PySem.W.emptyDict).push (PySem.W.instObj C s.heap.objs.size)).get? (s.heap.objs.size+1)=some (PySem.W.instObj C s.heap.objs.size):=by
  have:=Heap.get?_push_size (s.heap.push PySem.W.emptyDict) (o:=PySem.W.instObj C s.heap.objs.size) rfl
  rwa [Heap.size_push] at this
 have e3:(s.heap.push PySem.W.emptyDict).Ns s.heap.objs.size (fun _=>none):=⟨PySem.W.emptyDict,#[],_,e1,rfl,(fun e he=>absurd he (by simp)),fun _=>rfl⟩
 have I1:=I.laid (a:=s.heap.objs.size) (o:=.own (s.heap.objs.size+1)) (h':=s.heap.push PySem.W.emptyDict) (t':=s.toks) (fun b u q=>Heap.get?_push_of_some _ q) (Nat.le_refl _) ⟨_,e1⟩
 refine I1.laid (a:=s.heap.objs.size+1) (o:=.ins C s.heap.objs.size []) (t':=s.toks) (fun b u q=>Heap.get?_push_of_some _ q) (Nat.le_of_eq (Heap.size_push _ _)) ?_
 have ne:s.heap.objs.size≠s.heap.objs.size+1:=Nat.ne_of_lt (Nat.lt_succ_self _)
 refine ⟨by rw [j4 ne,jF],Nat.zero_le _,ne,e2,fun _=>none,(Heap.Ns1.of_empty e3).at fun o q=>Heap.get?_push_of_some _ q,fun _=>True.intro,fun y hy=>absurd rfl hy⟩
theorem IQ {prog:Program} {w:World} {env:Env} {e:Expr} {f:Str} {pos:Pos} {s:Shared} {Q:Value→Shared→Prop} (hb:attributeBase e f env (eval e env)=eval e env)
  (h:wpAny (model prog w) A (eval e env) (fun o s₁=>wpAny (model prog w) A (getAttr o f true) Q E s₁) E s):wpAny (model prog w) A (eval (.Attribute e f pos) env) Q E s :=
 Attribute_any_ h (by rw [arm_eval_Attribute,hb])
end
def wS (K:PySem.W.Frag) (ta:TE) (f:Str):TE:=fun σ H Q=>ta σ H fun x H1=>∃a C dx fs v,x=.ref a∧H1 a=some (.ins C dx fs)∧Cls K C∧NoAttr K C f∧fs.lookup f=some v∧Q v H1
def L9 (K:PySem.W.Frag) (ta tv:TE) (f:Str):TS:=fun D σ H=>tv σ H fun y H1=>ta σ H1 fun x H2=>∃a C dx fs,x=.ref a∧H2 a=some (.ins C dx fs)∧Cls K C∧NoAttr K C f∧fs.length<1000∧
 D.nx σ (upd H2 a (.ins C dx (jK f y fs)))
section
variable {X:Cx} {o e value:Expr} {f:Str} {pos pos' tpos:Pos} {ta tv:TE}
theorem jU (he:PE X e ta) (hb:attributeBase e f X.env (eval e X.env)=eval e X.env):PE X (.Attribute e f pos) (wS X.K ta f):=by
 intro pins s σ H Q I h
 refine IQ hb (jN (he pins s σ H _ I h) fun u s1 ⟨x,H1,I1,rx,a,C,dx,fs,v,ex,ea,c,n,l,q⟩=>?_)
 subst ex
 obtain rfl:u=Value.ref a:=rx
 exact ES I1 ea c n l fun u' s2 I2 ru=>⟨v,H1,I2,ru,q⟩
theorem qM (ha:PE X o ta) (hv:PE X value tv) (hs:swapsWith value (some (.Attribute o f pos')) pos.line X.env=pure false):PS X (.Assign [.Attribute o f pos'] value pos) (L9 X.K ta tv f):=by
 intro pins s σ H D I h
 refine plainObj_wpAny_Assign_Attribute (jN (hv pins s σ H _ I h) fun u s1 ⟨y,H1,I1,ry,q⟩=>jN (ha pins s1 σ H1 _ I1 q) fun ov s2 ⟨x,H2,I2,rx,a,C,dx,fs,ex,ea,c,n,l,q2⟩=>?_) hs
 subst ex
 obtain rfl:ov=Value.ref a:=rx
 exact EI I2 ea c n l ry fun s3 I3=>⟨σ,_,I3,q2⟩
end
section
variable {X:Cx} {pins:List (Addr×Obj)} {σ:St} {H:Hp} {s:Shared} {A:Around} {E:Value→Shared→Prop} {Q:Value→Shared→Prop} {c:Value} {b:Bool}
end
end L2
namespace L2
open PySem PySem.Spec PyProof.Rows
structure Room (k:Nat) (A:Around):Prop where
 hd:A.handled=none
 dp:A.depth+3*k+5<recursionLimit
 un:A.units+16*k+200<cLine
theorem Room.mono {j k:Nat} {A:Around} (r:Room k A) (h:j≤k):Room j A:=⟨r.hd,by have:=r.dp;omega,by have:=r.un;omega⟩
theorem Room.deeper {k:Nat} {A:Around} (r:Room (k+1) A) (env:Env):Room k (A.deeper env) :=
 ⟨r.hd,by have:=r.dp;show A.depth+1+3*k+5<_;omega,by have:=r.un;show A.units+3+16*k+200<_;omega⟩
theorem EO {A:Around} {C:Addr} {us:List Value} {kw:List (Str×Value)}:(A.under (.builtin "type.__call__" ⟨.ref C::us,kw⟩)).depth=A.depth+1:=by
 first|rfl|simp [Around.under,Code.weight,Code.isCreation,Code.isGuard,Code.isCaller,Code.frames,Code.isFrame,guardIds]
theorem EN {A:Around} {C:Addr} {us:List Value} {kw:List (Str×Value)}:(A.under (.builtin "type.__call__" ⟨.ref C::us,kw⟩)).units=A.units+1:=by
 first|rfl|simp [Around.under,Code.cUnits,Code.frames,Code.isFrame]
theorem Room.make {k:Nat} {A:Around} (r:Room (k+1) A) (C:Addr) (us:List Value) (kw:List (Str×Value)):Room k (A.under (.builtin "type.__call__" ⟨.ref C::us,kw⟩)) :=
 ⟨r.hd,by have:=r.dp;rw [EO];omega,by have:=r.un;rw [EN];omega⟩
theorem Room.depth {k:Nat} {A:Around} (r:Room k A):A.depth<recursionLimit:=by have:=r.dp;omega
theorem Room.units {k:Nat} {A:Around} (r:Room k A):A.units+64<cLine:=by have:=r.un;omega
theorem Room.units0 {k:Nat} {A:Around} (r:Room k A):A.units<cLine:=by have:=r.un;omega
def fX:TA:=fun _ H Q=>Q [] H
def K8 (ta:TE) (tr:TA):TA:=fun σ H Q=>ta σ H fun x H1=>tr σ H1 fun xs H2=>Q (x::xs) H2
section
variable {X:Cx} {e:Expr} {es:List Expr} {te:TE} {t:TA} {pos:Pos}
theorem jB:PA X [] fX:=fun _ _ _ _ H Q I h=>Calls.spliced_nil ⟨[],H,I,.nil,h⟩
theorem jA (ha:PE X e te) (hr:PA X es t) (hs:starEach (e::es) X.env=(false,eval e X.env)::starEach es X.env:=by rfl):PA X (e::es) (K8 te t):=by
 intro pos pins s σ H Q I h
 rw [hs]
 show wpAny _ _ (spliced ((false,eval e X.env)::backTo pos (starEach es X.env))) _ _ s
 refine Calls.spliced_cons (jN (ha pins s σ H _ I h) fun u s1 ⟨x,H1,I1,r1,q1⟩=>?_)
 exact jN (hr pos pins s1 σ H1 _ I1 q1) fun us s2 ⟨xs,H2,I2,r2,q2⟩=>⟨x::xs,H2,I2,.cons r1 r2,q2⟩
def LX (t:TA):TE:=fun σ H Q=>t σ H fun xs H1=>xs.length≤sizeLine∧∀p,H1 p=none→Q (.ref p) (upd H1 p (.tup xs))
def L4 (t:TA):TE:=fun σ H Q=>t σ H fun xs H1=>xs.length≤sizeLine∧∀p,H1 p=none→Q (.ref p) (upd H1 p (.lst xs))
theorem kZ {x1} (h:PA X es t):PE X (.Tuple es x1 pos) (LX t):=by
 intro pins s σ H Q I hq
 refine wpAny_Tuple_spliced (jN (h pos pins s σ H _ I hq) fun us s1 ⟨xs,H1,I1,r,z,q⟩=>⟨by rw [← r.length];exact z,?_⟩)
 have hf:H1 s1.heap.objs.size=none:=I1.hok.fresh (Nat.le_refl _)
 refine ⟨.ref s1.heap.objs.size,upd H1 s1.heap.objs.size (.tup xs),I1.laid (t':=s1.toks) (fun b u e=>Heap.get?_push_of_some _ e) (Nat.le_refl _) ?_,rfl,q _ hf⟩
 exact ⟨z,us,r,⟨_,Heap.get?_push_size _ rfl,rfl,_,rfl⟩⟩
theorem qG (h:PA X es t):PE X (.List es pos) (L4 t):=by
 intro pins s σ H Q I hq
 refine wpAny_List_spliced (jN (h pos pins s σ H _ I hq) fun us s1 ⟨xs,H1,I1,r,z,q⟩=>⟨by rw [← r.length];exact z,?_⟩)
 have hf:H1 s1.heap.objs.size=none:=I1.hok.fresh (Nat.le_refl _)
 refine ⟨.ref s1.heap.objs.size,upd H1 s1.heap.objs.size (.lst xs),I1.laid (t':=s1.toks) (fun b u e=>Heap.get?_push_of_some _ e) (Nat.le_refl _) ?_,rfl,q _ hf⟩
 exact ⟨z,us,0,r,Heap.get?_push_size _ rfl⟩
end
abbrev Sp:=List V→Hp→VK→XK→Prop
abbrev yT:=List Env→Hp→Shared→XK→Value→Shared→Prop
structure Env0 (P:Program) (w:World) (K:PySem.W.Frag) (mg:Str→Option Value) (base:Heap) (A:Around) (outer:List Env) (s:Shared) (H:Hp):Prop where
 frames:A.frames=some outer
 mod:Mod K mg base
 bs:∀b o,base.get? b=some o→s.heap.get? b=some o∧H b=none
 bsz:base.objs.size≤s.heap.objs.size
 funs:s.heap.FunFrames base outer
 frf:∀b∈kI outer,H b=none
 hok:HOk P w H s.heap
 bare:AllBare s.gens
def CE (outer:List Env) (P:Program) (w:World) (H:Hp) (s:Shared) (Q:VK) (u:Value) (s':Shared):Prop :=
 ∃v H',s'.os=s.os∧AllBare s'.gens∧Un (kI outer) [] H H' s.heap s'.heap∧HOk P w H' s'.heap∧RelV v u∧Q v H'
def CR (CX:yT) (outer:List Env) (P:Program) (w:World) (H:Hp) (s:Shared) (Q:VK) (E:XK) (r:Result) (s':Shared):Prop :=
 match r with
 |.ok (.ret u)=>CE outer P w H s Q u s'
 |.ok _=>False
 |.error e=>CX outer H s E e s'
structure FnOk (P:Program) (w:World) (K:PySem.W.Frag) (mg:Str→Option Value) (base:Heap) (CX:yT) (k:Nat) (f:Addr) (fd:FuncData) (ps:List Str) (sp:Sp):Prop where
 len:∀vs H Q E,sp vs H Q E→vs.length=ps.length
 run:∀(A:Around) (outer:List Env) (s:Shared) (H:Hp) (args:Args) (us:List Value) (vs:List V) (Q:VK) (E:XK),Room k A→Env0 P w K mg base A outer s H→BindsTo s fd args (ps.zip us)→Vals vs us→sp vs H Q E→
  codeAny (model P w) A (.call (.ref f) args) (CR CX outer P w H s Q E) s
theorem FnOk.imp {P:Program} {w:World} {K:PySem.W.Frag} {mg:Str→Option Value} {base:Heap} {CX:yT} {k:Nat} {f:Addr} {fd:FuncData} {ps:List Str} {sp sp':Sp} (F:FnOk P w K mg base CX k f fd ps sp)
  (h:∀vs H Q E,sp' vs H Q E→sp vs H Q E):FnOk P w K mg base CX k f fd ps sp' :=
 ⟨fun vs H Q E q=>F.len vs H Q E (h _ _ _ _ q),fun A outer s H args us vs Q E hr he hb hv hs=>F.run A outer s H args us vs Q E hr he hb hv (h _ _ _ _ hs)⟩
theorem Env0.make {P:Program} {w:World} {K:PySem.W.Frag} {mg:Str→Option Value} {base:Heap} {A:Around} {outer:List Env} {s:Shared} {H:Hp} (e:Env0 P w K mg base A outer s H) (C:Addr) (us:List Value) (kw:List (Str×Value)) :
  Env0 P w K mg base (A.under (.builtin "type.__call__" ⟨.ref C::us,kw⟩)) outer s H:=⟨by first|exact e.frames|(simpa [Around.under,Code.envs,Code.isFrame,pushEnvs] using e.frames),e.mod,e.bs,e.bsz,e.funs,e.frf,e.hok,e.bare⟩
section
variable {X:Cx} {pins:List (Addr×Obj)} {σ:St} {H:Hp} {s s':Shared}
theorem Inv.env0 (I:Inv X pins σ H s):Env0 X.prog X.w X.K X.mg X.base X.A X.stack s H :=
 ⟨I.ok.frames,I.ok.mod,I.bs,Nat.le_trans I.ok.bsz I.sz,I.stack,I.stkFree,I.hok,I.bare⟩
theorem Inv.after {Q:VK} {u:Value} (I:Inv X pins σ H s) (h:CE X.stack X.prog X.w H s Q u s'):EP X pins σ Q u s':=by
 obtain ⟨v,H',os,bare,un,hok,r,q⟩:=h
 obtain ⟨hh,g,d,t,os'⟩:=s'
 obtain rfl:os'=s.os:=os
 exact ⟨v,H',I.call (h':=hh) (g':=g) (d':=d) (t':=t) (ch:=[]) un hok bare (fun b z=>absurd z (by simp)),r,q⟩
end
def oO (sp:Sp) (dvs:List V) (E:XK) (t:TA):TE:=fun σ H Q=>t σ H fun vs H1=>sp (vs++dvs) H1 Q E
def iO (C:Addr) (m:Str) (sp:Sp) (dvs:List V) (E:XK) (ta:TE) (t:TA):TE:=fun σ H Q=>ta σ H fun x H1=>∃a dx fs,x=.ref a∧H1 a=some (.ins C dx fs)∧fs.lookup m=none∧
 t σ H1 fun vs H2=>sp (x::(vs++dvs)) H2 Q E
def wH (C:Addr) (sp:Sp) (dvs:List V) (E:XK) (t:TA):TE:=fun σ H Q=>t σ H fun vs H1=>∀x dx,H1 x=none→H1 dx=none→dx≠x→
 sp (.ref x::(vs++dvs)) (upd (upd H1 dx (.own x)) x (.ins C dx [])) (fun v H2=>v=.non∧Q (.ref x) H2) E
def Binds (K:PySem.W.Frag) (fd:FuncData) (ps:List Str) (ds:List Value):Prop :=
 ∀(s:Shared) (us:List Value),K.In s.heap→(us++ds).length=ps.length→BindsTo s fd ⟨us,[]⟩ (ps.zip (us++ds))
theorem Binds.all {K:PySem.W.Frag} {fd:FuncData} {ps:List Str} (h:∀us:List Value,us.length=ps.length→bindArgs fd ⟨us,[]⟩=pure (ps.zip us)):Binds K fd ps []:=fun s us _ hl=>by
 rw [List.append_nil] at hl ⊢
 exact .of_eq (h us hl)
def Q5 (CX:yT) (X:Cx) (E:XK):Prop:=∀(pins:List (Addr×Obj)) (σ:St) (H:Hp) (s:Shared) (e:Value) (s':Shared),Inv X pins σ H s→CX X.stack H s E e s'→X.xe e s'
section
variable {X:Cx} {CX:yT} {k:Nat} {f C:Addr} {fd:FuncData} {ps:List Str} {sp:Sp} {dvs:List V} {ds:List Value} {E:XK} {x m:Str} {p pos apos:Pos} {e o:Expr} {es:List Expr} {ta:TE} {t:TA}
theorem dS {pins:List (Addr×Obj)} {σ:St} {H:Hp} {s:Shared} {Q:VK} {us:List Value} {vs:List V} (F:FnOk X.prog X.w X.K X.mg X.base CX k f fd ps sp) (hr:Room k X.A) (hb:Binds X.K fd ps ds) (hd:Vals dvs ds) (hx:Q5 CX X E)
  (I:Inv X pins σ H s) (r:Vals vs us) (h:sp (vs++dvs) H Q E):wpAny (model X.prog X.w) X.A (call (.ref f) us) (EP X pins σ Q) X.xe s:=by
 have r2:Vals (vs++dvs) (us++ds):=r.append hd
 have hl:(us++ds).length=ps.length:=by rw [← r2.length];exact F.len _ _ _ _ h
 refine wpAny_call (codeAny_mono (F.run X.A X.stack s H ⟨us,[]⟩ (us++ds) (vs++dvs) Q E hr I.env0 (hb s us I.kIn hl) r2 h) fun r s' hq=>?_)
 cases r with
 |error e=>exact hx pins σ H s e s' I hq
 |ok fl =>
  cases fl with
  |ret u=>exact I.after hq
  |next=>exact False.elim hq
  |brk=>exact False.elim hq
  |cont=>exact False.elim hq
theorem HV (F:FnOk X.prog X.w X.K X.mg X.base CX k f fd ps sp) (hr:Room k X.A) (hg:Gl X x) (hm:X.mg x=some (.ref f)) (hk:PySem.W.keepIn X.K (.ref f)=true) (hb:Binds X.K fd ps ds) (hd:Vals dvs ds) (hx:Q5 CX X E)
  (ha:PA X (e::es) t) (hdb:(x == ("__debug__":Str))=false:=by decide) (he:starEach (e::es) X.env=(false,eval e X.env)::starEach es X.env:=by rfl) (hpl:(backTo pos (starEach es X.env)).any (·.1)=false:=by rfl) :
  PE X (.Call (.Name x p) (e::es) [] pos) (oO sp dvs E t):=by
 intro pins s σ H Q I h
 refine wpAny_Call_Name_kw (dQ I hg hm ?_ hdb)
 refine PySem.W.callWith_K (h₀:=X.base) I.ok.mod.kin hk (jN (ha pos pins s σ H _ I h) fun us s1 ⟨vs,H1,I1,r,q⟩=>⟨I1.kIn,?_⟩) he hpl
 exact dS F hr hb hd hx I1 r q
theorem HR {pl:Sem Bool} (he:PE X o ta) (c:Cls X.K C) (hm:Meth X.K C m f) (F:FnOk X.prog X.w X.K X.mg X.base CX k f fd ps sp) (hr:Room k X.A) (hb:Binds X.K fd ps ds) (hd:Vals dvs ds) (hx:Q5 CX X E) (ha:PA X (e::es) t)
  (hst:starEach (e::es) X.env=(false,eval e X.env)::starEach es X.env:=by rfl) (hpl:(backTo pos (starEach es X.env)).any (·.1)=false:=by rfl)
  (ht:eval (.Call (.Attribute o m apos) (e::es) [] pos) X.env=(do
   let ov ← eval o X.env
   standAt apos.atName
   let (f,first) ← holding [ov] (getMethod ov m pl)
   callWith pos f first (backTo pos (starEach (e::es) X.env)) (backToKw pos (keywordEach [] X.env))):=by rfl) :
  PE X (.Call (.Attribute o m apos) (e::es) [] pos) (iO C m sp dvs E ta t):=by
 intro pins s σ H Q I h
 refine PySem.W.methodCall_KW (pl:=pl) (jN (he pins s σ H _ I h) fun u s1 ⟨x,H1,I1,rx,a,dx,fs,ex,ea,l,q⟩=>?_) ht
 subst ex
 obtain rfl:u=Value.ref a:=rx
 refine dF I1 ea c hm l ?_
 refine PySem.W.callWith_K (first:=[.ref a]) (h₀:=X.base) I.ok.mod.kin hm.kp (jN (ha pos pins s1 σ H1 _ I1 q) fun us s2 ⟨vs,H2,I2,r,q2⟩=>⟨I2.kIn,?_⟩) hst hpl
 exact dS (us:=.ref a::us) (vs:=.ref a::vs) F hr hb hd hx I2 (.cons rfl r) q2
theorem GS {pl:Sem Bool} (he:PE X o ta) (c:Cls X.K C) (hm:Meth X.K C m f) (F:FnOk X.prog X.w X.K X.mg X.base CX k f fd ps sp) (hr:Room k X.A) (hb:Binds X.K fd ps ds) (hd:Vals dvs ds) (hx:Q5 CX X E)
  (ht:eval (.Call (.Attribute o m apos) [] [] pos) X.env=(do
   let ov ← eval o X.env
   standAt apos.atName
   let (f,first) ← holding [ov] (getMethod ov m pl)
   callWith pos f first (backTo pos (starEach [] X.env)) (backToKw pos (keywordEach [] X.env))):=by rfl) :
  PE X (.Call (.Attribute o m apos) [] [] pos) (iO C m sp dvs E ta fX):=by
 intro pins s σ H Q I h
 refine PySem.W.methodCall_KW (pl:=pl) (jN (he pins s σ H _ I h) fun u s1 ⟨x,H1,I1,rx,a,dx,fs,ex,ea,l,q⟩=>?_) ht
 subst ex
 obtain rfl:u=Value.ref a:=rx
 refine dF I1 ea c hm l ?_
 exact PySem.W.callWith_K0 (first:=[.ref a]) I1.kIn hm.kp (dS (us:=[.ref a]) (vs:=[.ref a]) F hr hb hd hx I1 (.cons rfl .nil) q)
structure Mk (K:PySem.W.Frag) (C f:Addr):Prop where
 makes:PySem.W.makesIn K C=true
 init:PySem.W.findIn K (.ref C) "__init__"=some (some (.ref f))
 fn:PySem.W.isFn K (.ref f)=true
 kp:PySem.W.keepIn K (.ref C)=true
theorem GN {pins:List (Addr×Obj)} {σ:St} {H:Hp} {s:Shared} {Q:VK} {us:List Value} {vs:List V} (M:Mk X.K C f) (F:FnOk X.prog X.w X.K X.mg X.base CX k f fd ps sp) (hr:Room (k+1) X.A) (hb:Binds X.K fd ps ds) (hd:Vals dvs ds)
  (hx:Q5 CX X E) (I:Inv X pins σ H s) (r:Vals vs us)
  (h:∀x dx,H x=none→H dx=none→dx≠x→sp (.ref x::(vs++dvs)) (upd (upd H dx (.own x)) x (.ins C dx [])) (fun v H2=>v=.non∧Q (.ref x) H2) E) :
  wpAny (model X.prog X.w) X.A (call (.ref C) us) (EP X pins σ Q) X.xe s:=by
 have hq:=h (s.heap.objs.size+1) s.heap.objs.size (I.hok.fresh (Nat.le_succ _)) (I.hok.fresh (Nat.le_refl _)) (Nat.ne_of_lt (Nat.lt_succ_self _))
 have I2:=Inv.made (C:=C) I
 have r2:Vals (V.ref (s.heap.objs.size+1)::(vs++dvs)) (Value.ref (s.heap.objs.size+1)::(us++ds)):=.cons rfl (r.append hd)
 have hl:(Value.ref (s.heap.objs.size+1)::us++ds).length=ps.length:=by
  have e:=r2.length
  rw [F.len _ _ _ _ hq] at e
  exact e.symm
 refine wpAny_call (GY (f:=f) I.kIn M.makes M.init (beq_iff_eq.mp M.fn) (codeAny_mono (F.run _ X.stack _ _ ⟨Value.ref (s.heap.objs.size+1)::us,[]⟩ (Value.ref (s.heap.objs.size+1)::(us++ds)) _ _ E (hr.make C us [])
  (I2.env0.make C us []) (hb _ (Value.ref (s.heap.objs.size+1)::us) I2.kIn hl) r2 hq) fun r s' hq'=>?_))
 cases r with
 |error e=>exact hx pins σ _ _ e s' I2 hq'
 |ok fl =>
  cases fl with
  |ret u =>
   obtain ⟨v,H',I3,rv,ev,q3⟩:=I2.after hq'
   subst ev
   exact ⟨rv,⟨V.ref (s.heap.objs.size+1),H',I3,rfl,q3⟩⟩
  |next=>exact False.elim hq'
  |brk=>exact False.elim hq'
  |cont=>exact False.elim hq'
theorem HS (M:Mk X.K C f) (F:FnOk X.prog X.w X.K X.mg X.base CX k f fd ps sp) (hr:Room (k+1) X.A) (hg:Gl X x) (hm:X.mg x=some (.ref C)) (hb:Binds X.K fd ps ds) (hd:Vals dvs ds) (hx:Q5 CX X E)
  (ha:PA X (e::es) t) (hdb:(x == ("__debug__":Str))=false:=by decide) (he:starEach (e::es) X.env=(false,eval e X.env)::starEach es X.env:=by rfl) (hpl:(backTo pos (starEach es X.env)).any (·.1)=false:=by rfl) :
  PE X (.Call (.Name x p) (e::es) [] pos) (wH C sp dvs E t):=by
 intro pins s σ H Q I h
 refine wpAny_Call_Name_kw (dQ I hg hm ?_ hdb)
 refine PySem.W.callWith_K (h₀:=X.base) I.ok.mod.kin M.kp (jN (ha pos pins s σ H _ I h) fun us s1 ⟨vs,H1,I1,r,q⟩=>⟨I1.kIn,?_⟩) he hpl
 exact GN M F hr hb hd hx I1 r q
end
section
variable {X:Cx} {CX:yT} {k:Nat} {f C:Addr} {fd:FuncData} {ps ks:List Str} {sp:Sp} {E:XK} {x m:Str} {p pos apos kpos:Pos} {e o:Expr} {es:List Expr} {kws:List Keyword} {te ta:TE} {t tk:TA} {nm:Option Str}
variable {g:List Value→List Value→List Value} {gV:List V→List V→List V}
end
structure FnScope (N P:List Str) (sc:Scope):Prop where
 kind:sc.kind=.function
 co:sc.isCoroutine=false
 gen:sc.isGenerator=false
 nd:N.Nodup
 pre:N.take P.length=P
 par:∀x∈P,sc.names.lookup x=some .local∨sc.names.lookup x=some .cell
 nofree:∀y∈sc.names,y.2≠.free
theorem sE {kindOf:Str→Option NameKind} {x:Str}:∀{binds:List (Str×Value)} {m:Str→Option Value},(∀v,(x,v)∉binds)→bindL kindOf binds m x=m x
 |[],_,_=>rfl
 | (n,v)::r,m,h=>by
  unfold bindL
  rw [sE fun w hw=>h w (List.mem_cons_of_mem _ hw)]
  split
  ·have:x≠n:=by rintro rfl;exact h v List.mem_cons_self
   simp [this]
  ·rfl
theorem sH {kindOf:Str→Option NameKind} {x:Str}:∀{binds:List (Str×Value)} {m:Str→Option Value},(∀v,(x,v)∉binds)→bindC kindOf binds m x=m x
 |[],_,_=>rfl
 | (n,v)::r,m,h=>by
  unfold bindC
  rw [sH fun w hw=>h w (List.mem_cons_of_mem _ hw)]
  split
  ·rfl
  ·have:x≠n:=by rintro rfl;exact h v List.mem_cons_self
   simp [this]
theorem sF {kindOf:Str→Option NameKind} {x:Str} {v:Value}:∀{P:List Str} {vs:List Value} {i:Nat} {m:Str→Option Value},P.Nodup→P[i]?=some x→vs[i]?=some v→kindOf x=some .local→
  bindL kindOf (P.zip vs) m x=some v
 |[],_,_,_,_,h,_,_=>by simp at h
 |_::_,[],_,_,_,_,h,_=>by simp at h
 |p::P,w::vs,0,m,nd,h1,h2,hk=>by
  simp at h1 h2;subst h1;subst h2
  show bindL kindOf ((p,w)::P.zip vs) m p=_
  unfold bindL
  rw [sE fun v hv=>(List.nodup_cons.mp nd).1 (List.of_mem_zip hv).1,if_pos hk]
  simp
 |p::P,w::vs,i+1,m,nd,h1,h2,hk=>by
  show bindL kindOf ((p,w)::P.zip vs) m x=_
  unfold bindL
  exact sF (i:=i) (List.nodup_cons.mp nd).2 (by simpa using h1) (by simpa using h2) hk
theorem sI {kindOf:Str→Option NameKind} {x:Str} {v:Value}:∀{P:List Str} {vs:List Value} {i:Nat} {m:Str→Option Value},P.Nodup→P[i]?=some x→vs[i]?=some v→kindOf x≠some .local→
  bindC kindOf (P.zip vs) m x=some v
 |[],_,_,_,_,h,_,_=>by simp at h
 |_::_,[],_,_,_,_,h,_=>by simp at h
 |p::P,w::vs,0,m,nd,h1,h2,hk=>by
  simp at h1 h2;subst h1;subst h2
  show bindC kindOf ((p,w)::P.zip vs) m p=_
  unfold bindC
  rw [sH fun v hv=>(List.nodup_cons.mp nd).1 (List.of_mem_zip hv).1,if_neg hk]
  simp
 |p::P,w::vs,i+1,m,nd,h1,h2,hk=>by
  show bindC kindOf ((p,w)::P.zip vs) m x=_
  unfold bindC
  exact sI (i:=i) (List.nodup_cons.mp nd).2 (by simpa using h1) (by simpa using h2) hk
def start (N:List Str) (vs:List V):St:=vs.map some++List.replicate (N.length - vs.length) none
def v8 (CX:yT) (P:Program) (w:World) (K:PySem.W.Frag) (mg:Str→Option Value) (base:Heap) (N:List Str) (qual:Str) (scope:Scope) (f:Addr) (cd:Value) (A:Around) (outer:List Env) (s:Shared) (H:Hp) (E:XK):Cx where
 prog:=P
 w:=w
 K:=K
 mg:=mg
 base:=base
 A:=A.deeper (envOfC qual scope s.heap.objs.size f cd)
 N:=N
 s₀:=s
 H₀:=H
 env:=envOfC qual scope s.heap.objs.size f cd
 outer:=outer
 stack:=envOfC qual scope s.heap.objs.size f cd::outer
 ex:=[]
 calm:=true
 fn:=fun _=>true
 pn:=[]
 xe:=fun e s'=>wpAny (model P w) (A.deeper (envOfC qual scope s.heap.objs.size f cd)) (leaving (envOfC qual scope s.heap.objs.size f cd) e) (fun _ s''=>CX outer H s E e s'') (fun e' s''=>CX outer H s E e' s'') s'
theorem tL {sc:Scope} {n:Nat} {x:Str} (h:sc.names.lookup x=some .cell):∃c,(cellsFrom n sc.names []).lookup x=some c:=by
 have q:=PySem.W.cellsFrom_some sc.names n [] (.inl h)
 exact Option.isSome_iff_exists.mp q
theorem FS {CX:yT} {P:Program} {w:World} {K:PySem.W.Frag} {mg:Str→Option Value} {base:Heap} {N ps:List Str} {qual:Str} {scope:Scope} {f:Addr} {cd:Value} {A:Around} {outer:List Env} {s s1:Shared} {H:Hp} {E:XK} {us:List Value} {vs:List V}
  (S:FnScope N ps scope) (hd:A.handled=none) (e0:Env0 P w K mg base A outer s H) (hl:vs.length=ps.length) (r:Vals vs us)
  (x:InCallC s s.heap.objs.size (bindL (envOfC qual scope s.heap.objs.size f cd).kindOf (ps.zip us) fun _=>none) (cellsFrom (s.heap.objs.size+1) scope.names []) (bindC (envOfC qual scope s.heap.objs.size f cd).kindOf (ps.zip us) fun _=>none) s1) :
  Inv (v8 CX P w K mg base N qual scope f cd A outer s H E) [] (start N vs) H s1:=by
 have hpl:ps.length≤N.length:=by have:=congrArg List.length S.pre;rw [List.length_take] at this;omega
 obtain ⟨h1,tk,rfl,hk⟩:=x.done
 have noA:∀b:Addr,b∉(v8 CX P w K mg base N qual scope f cd A outer s H E).ex:=fun b z=>absurd (show b∈([]:List Addr) from z) (by simp)
 refine ⟨⟨e0.mod,S.kind,rfl,rfl,Nat.le_refl _,fun y z c h1 h2=>?_,fun y hy=>?_,fun y c _ h=>?_,fun _=>hd,Around.frames_deeper e0.frames,.inr ⟨rfl,rfl⟩,fun b z=>absurd z (noA b),e0.bs,e0.bsz,fun b _ _=>noA b,fun b z=>absurd z (noA b),e0.funs,e0.frf⟩,
  rfl,e0.bare,Un.kept hk,⟨_,x.toInCall.ns,fun i y v h1 h2 h3=>?_⟩,fun y c h=>⟨_,x.cell y c h⟩,e0.hok.fresh (Nat.le_refl _),fun y c h=>?_,fun p hp=>absurd (show p∈([]:List (Addr×Obj)) from hp) (by simp),e0.hok.kept hk,?_⟩
 ·exact name_of_addr x.apart (PySem.mem_of_lookup h1) (PySem.mem_of_lookup h2)
 ·have hy:scope.names.lookup y=some .cell∨scope.names.lookup y=some .free:=hy
  rcases hy with hy|hy
  ·exact tL hy
  ·exact absurd rfl (S.nofree _ (PySem.mem_of_lookup hy))
 ·exact Nat.le_of_lt (x.above y c (PySem.mem_of_lookup h))
 ·have hi:i<vs.length:=by
   unfold start at h2
   by_cases hi:i<vs.length
   ·exact hi
   ·rw [List.getElem?_append_right (by simpa using hi)] at h2
    rw [List.getElem?_replicate] at h2
    split at h2<;>cases h2
  have ha:vs[i]?=some v:=by
   unfold start at h2
   rw [List.getElem?_append_left (by simpa using hi),List.getElem?_map] at h2
   cases e:vs[i]? with
   |none=>rw [e] at h2;cases h2
   |some a=>rw [e] at h2;cases h2;rfl
  obtain ⟨u,hu,rv⟩:=r.get ha
  have hp:ps[i]?=some y:=by
   rw [← S.pre,List.getElem?_take_of_lt (by omega)];exact h1
  have ndP:ps.Nodup:=by rw [← S.pre];exact S.nd.sublist (List.take_sublist _ _)
  refine ⟨u,rv,?_⟩
  rcases S.par y (List.mem_of_getElem? hp) with k|k
  ·exact .inl ⟨k,sF ndP hp hu k⟩
  ·obtain ⟨c,e⟩:=tL (n:=s.heap.objs.size+1) k
   refine .inr ⟨.inl k,c,e,?_⟩
   have q:=x.cell y c e
   rw [sI ndP hp hu (by show scope.names.lookup y≠_;rw [k];decide)] at q
   exact q
 ·exact e0.hok.fresh (Nat.le_of_lt (x.above y c (PySem.mem_of_lookup h)))
 ·unfold start
  show _=N.length
  rw [List.length_append,List.length_map,List.length_replicate]
  omega
theorem oX {CX:yT} {P:Program} {w:World} {K:PySem.W.Frag} {mg:Str→Option Value} {base:Heap} {k:Nat} {f:Addr} {name qual:Str} {params:Arguments} {body:List Stmt} {scope:Scope} {dV kV doc pm cdv ct oc:Value} {an od:Option Addr}
  {osl:Array (Option Value)} {N ps:List Str} {sp:Sp} (lk:K.lookup f=some ⟨oc,od,.func (PySem.W.fnOf name qual params body scope dV kV doc pm an cdv ct),osl⟩) (hcd:PySem.W.codeIn K cdv qual=true) (S:FnScope N ps scope)
  (len:∀vs H Q E,sp vs H Q E→vs.length=ps.length)
  (hbody:∀(A:Around) (outer:List Env) (s:Shared) (H:Hp) (vs:List V) (Q:VK) (E:XK),Room k (A.deeper (envOfC qual scope s.heap.objs.size f cdv))→sp vs H Q E→
   ∃t,PSs (v8 CX P w K mg base N qual scope f cdv A outer s H E) body t∧t {nx:=fun _ H'=>Q .non H',rt:=Q} (start N vs) H) :
  FnOk P w K mg base CX (k+1) f (PySem.W.fnOf name qual params body scope dV kV doc pm an cdv ct) ps sp:=by
 refine ⟨len,fun A outer s H args us vs Q E hr e0 hb r hsp=>?_⟩
 have hl:=len _ _ _ _ hsp
 have KX:K.In s.heap:=e0.mod.kin.keeps fun b o e=>(e0.bs b o e).1
 have lim:s.heap.NoLimit:=e0.mod.nolimit.keeps fun b o e=>(e0.bs b o e).1
 have hkind:∀y∈ps.zip us,scope.names.lookup y.1=some .local∨(scope.names.lookup y.1=some .cell∧((cellsFrom (s.heap.objs.size+1) scope.names []).lookup y.1).isSome=true):=fun ⟨n,v⟩ hy=>by
  rcases S.par n (List.of_mem_zip hy).1 with q|q
  ·exact .inl q
  ·exact .inr ⟨q,PySem.W.cellsFrom_some _ _ _ (.inl q)⟩
 refine codeAny_call_function hr.depth (KX _ _ lk) rfl S.co S.gen rfl (PySem.W.codeRec_of KX hcd) (hb _ _ _ _ ?_)
 refine wpAny_newFunctionEnv_cells S.kind hkind fun env he s1 x=>?_
 subst he
 refine ⟨lim.keeps x.toInCall.keep,codeAny_func ?_⟩
 obtain ⟨t,ht,hq⟩:=hbody A outer s H vs Q E (hr.deeper _) hsp
 have I:Inv (v8 CX P w K mg base N qual scope f cdv A outer s H E) [] (start N vs) H s1:=FS S hr.hd e0 hl r x
 refine wpAny_mono (ht [] s1 (start N vs) H _ I hq) (fun fl s' hs=>?_) fun e s' hs=>hs
 have fin:∀{σ':St} {H':Hp} {v:V} {u:Value},Inv (v8 CX P w K mg base N qual scope f cdv A outer s H E) [] σ' H' s'→RelV v u→Q v H'→CE outer P w H s Q u s' :=
  fun {σ' H' v u} J rv q=>⟨v,H',J.os,J.bare,J.base,J.hok,rv,q⟩
 cases fl with
 |ret u =>
  obtain ⟨v,σ',H',J,rv,q⟩:=hs
  exact fin J rv q
 |next =>
  obtain ⟨σ',H',J,q⟩:=hs
  exact fin (v:=V.non) (u:=Value.none) J rfl q
 |brk =>
  obtain ⟨_,_,_,q⟩:=hs
  exact False.elim q
 |cont =>
  obtain ⟨_,_,_,q⟩:=hs
  exact False.elim q
end L2
namespace L2
open PySem PySem.Spec PyProof.Rows
section
variable {X:Cx} {x:Str} {p pos:Pos} {e:Expr} {es:List Expr} {t:TA} {id T:String} {r:List V→Hp→VK→Prop}
def xA (r:List V→Hp→VK→Prop) (t:TA):TE:=fun σ H Q=>t σ H fun vs H1=>r vs H1 Q
theorem qB (hc:yZ X (.builtin id) r) (hg:Gl X x) (hm:X.mg x=none) (hv:bootBuiltins x=some (.builtin id)) (ha:PA X (e::es) t) (hn:x≠"__name__":=by decide) (hdb:(x == ("__debug__":Str))=false:=by decide)
  (he:starEach (e::es) X.env=(false,eval e X.env)::starEach es X.env:=by rfl) (hpl:(backTo pos (starEach es X.env)).any (·.1)=false:=by rfl):PE X (.Call (.Name x p) (e::es) [] pos) (xA r t):=by
 intro pins s σ H Q I h
 refine wpAny_Call_Name_kw (eC I hg hm hv ?_ hn hdb)
 exact PyProof.Rows.callWith_builtin1 (jN (ha pos pins s σ H _ I h) fun us s1 ⟨vs,H1,I1,r1,q1⟩=>hc pins s1 σ H1 vs us Q I1 r1 q1) he hpl
theorem q8 (hc:yZ X (.type T) r) (hg:Gl X x) (hm:X.mg x=none) (hv:bootBuiltins x=some (.type T)) (ha:PA X (e::es) t) (hn:x≠"__name__":=by decide) (hdb:(x == ("__debug__":Str))=false:=by decide)
  (he:starEach (e::es) X.env=(false,eval e X.env)::starEach es X.env:=by rfl) (hpl:(backTo pos (starEach es X.env)).any (·.1)=false:=by rfl):PE X (.Call (.Name x p) (e::es) [] pos) (xA r t):=by
 intro pins s σ H Q I h
 refine wpAny_Call_Name_kw (eC I hg hm hv ?_ hn hdb)
 exact PyProof.Rows.callWith_type1 (jN (ha pos pins s σ H _ I h) fun us s1 ⟨vs,H1,I1,r1,q1⟩=>hc pins s1 σ H1 vs us Q I1 r1 q1) he hpl
end
end L2
namespace HT
open PySem PyProof.Rows
section
open PySem.SeqAt
open PySem.AutoSeq1 (wpAny_loadPart')
open PySem.MeetsSeq PySem.MeetsSeq2 PySem.MeetsSeq3
end
section
variable {prog:Program} {w:World} {A:Around} {E:Value→Shared→Prop} {s:Shared}
end
end HT
namespace L2
open PySem PySem.Spec PyProof.Rows
abbrev TO:=St→Hp→(Option Int→Hp→Prop)→Prop
section
variable {X:Cx} {e:Expr} {te:TE} {lo hi:Option Expr} {tl th:TO} {pos p2:Pos}
end
end L2
namespace L2
open PySem PySem.Spec PyProof.Rows
def y7 (n:Nat) (i:Int):Option Nat:=if 0≤i then (if i<n then some i.toNat else none) else if -(n:Int)≤i then some (i+n).toNat else none
def kQ {α:Type} (xs:List α) (i:Int):Option α:=(y7 xs.length i).bind fun j=>xs[j]?
theorem uB {n:Nat} {i:Int} {j:Nat} (h:y7 n i=some j):seqIndex? i n=some j∧j<n∧-(n:Int)≤i∧i<n:=by
 unfold y7 at h
 by_cases h0:0≤i
 ·rw [if_pos h0] at h
  by_cases h1:i<n
  ·rw [if_pos h1] at h
   have e:i.toNat=j:=Option.some.inj h
   exact ⟨by rw [seqIndex_of h0 h1,e],by omega,by omega,h1⟩
  ·rw [if_neg h1] at h;cases h
 ·rw [if_neg h0] at h
  by_cases h1 : -(n:Int)≤i
  ·rw [if_pos h1] at h
   have e:(i+n).toNat=j:=Option.some.inj h
   exact ⟨by rw [seqIndex_neg (by omega) h1,e],by omega,h1,by omega⟩
  ·rw [if_neg h1] at h;cases h
theorem iH {α:Type} {xs:List α} {i:Int} {v:α} (h:kQ xs i=some v):∃j,seqIndex? i xs.length=some j∧xs[j]?=some v∧j<xs.length∧-(xs.length:Int)≤i∧i<xs.length:=by
 unfold kQ at h
 cases e:y7 xs.length i with
 |none=>rw [e] at h;cases h
 |some j =>
  rw [e] at h
  obtain ⟨h1,h2,h3,h4⟩:=uB e
  exact ⟨j,h1,h,h2,h3,h4⟩
theorem kL {α:Type} {xs:List α} {j:Nat} {v:α} (h:xs[j]?=some v):kQ xs (j:Int)=some v:=by
 have hj:j<xs.length:=(List.getElem?_eq_some_iff.mp h).1
 have e:y7 xs.length (j:Int)=some j:=by
  unfold y7
  rw [if_pos (by omega),if_pos (by omega)];simp
 unfold kQ;rw [e];exact h
theorem atI_last {α:Type} (xs:List α) (v:α):kQ (xs++[v]) (-1)=some v:=by
 have hl:(xs++[v]).length=xs.length+1:=by simp
 have e:y7 (xs++[v]).length (-1)=some xs.length:=by
  unfold y7
  rw [hl,if_neg (by decide),if_pos (by omega)]
  congr 1
  omega
 unfold kQ
 rw [e]
 show (xs++[v])[xs.length]?=some v
 simp
def IU (b:Expr):Prop:=∀o i,subscripted b false o i=operate [o,i] (getItem o i)
def IxR (X:Cx) (r:R2):Prop :=
 ∀(value slice:Expr) (pins:List (Addr×Obj)) (s:Shared) (σ:St) (H:Hp) (x y:V) (v u:Value) (Q:VK),Inv X pins σ H s→RelV x v→RelV y u→r x y H Q→
  subscripted slice false v u=operate [v,u] (getItem v u)→wpAny (model X.prog X.w) X.A (subscriptTail value slice v u) (EP X pins σ Q) X.xe s
def xE (X:Cx) (id:String) (r:V→List V→Hp→VK→Prop):Prop :=
 ∀(pins:List (Addr×Obj)) (s:Shared) (σ:St) (H:Hp) (x:V) (xs:List V) (v:Value) (us:List Value) (Q:VK),Inv X pins σ H s→RelV x v→Vals xs us→r x xs H Q→
  wpAny (model X.prog X.w) X.A (call (.builtin id) (v::us)) (EP X pins σ Q) X.xe s
section
variable {X:Cx} {a b:Expr} {ta tb:TE} {pos:Pos}
theorem IxR.or {r r':R2} (h:IxR X r) (h':IxR X r'):IxR X (fun x y H Q=>r x y H Q∨r' x y H Q):=by
 intro value slice pins s σ H x y v u Q I rx ry q hs
 rcases q with q|q
 ·exact h value slice pins s σ H x y v u Q I rx ry q hs
 ·exact h' value slice pins s σ H x y v u Q I rx ry q hs
theorem jI {r:R2} (hr:IxR X r) (ha:PE X a ta) (hb:PE X b tb) (hs:IU b):PE X (.Subscript a b pos) (i5 r ta tb):=by
 intro pins s σ H Q I h
 exact Subscript_ (o6 ha hb I h fun v u s2 x y H2 I2 rx ry q=>hr a b pins s2 σ H2 x y v u Q I2 rx ry q (hs _ _))
def iW (K:PySem.W.Frag):R2:=fun x y H Q=>∃p xs i v,x=.ref p∧y=.int i∧SqL K H p xs∧kQ xs i=some v∧Q v H
def o3 (K:PySem.W.Frag):R2:=fun x y H Q=>∃p xs i v,x=.ref p∧y=.int i∧SqT K H p xs∧kQ xs i=some v∧Q v H
def wV:R2:=fun x y H Q=>∃z i c,x=.str z∧y=.int i∧z.length≤sizeLine∧kQ z.cps.toList i=some c∧Q (.str ⟨#[c]⟩) H
theorem kA:IxR X (iW X.K):=by
 intro value slice pins s σ H x y v u Q I rx ry h hs
 obtain ⟨p,xs,i,z,rfl,rfl,hq,he,q⟩:=h
 cases rx
 obtain ⟨t,rfl⟩:=ry
 obtain ⟨its,r,pl,hz⟩:=I.list hq
 obtain ⟨j,h1,h2,h3,h4,h5⟩:=iH he
 obtain ⟨w,ew,rw'⟩:=r.get h2
 have hl:=r.length
 have hn:=eB
 have fin:EP X pins σ Q w s:=⟨z,H,I,rw',q⟩
 by_cases h0:0≤i
 ·have hj:i.toNat=j:=by
   rw [seqIndex_of h0 h5] at h1
   exact Option.some.inj h1
  exact item_listR pl.isList h0 (by omega) (by rw [hj];simpa using ew) fin hs
 ·have hj:(i+(its.toArray.size:Int)).toNat=j:=by
   rw [seqIndex_neg (by omega) h4] at h1
   rw [List.size_toArray,← hl]
   exact Option.some.inj h1
  exact subscriptTail_builtinR (x:=w) pl.isList.typeIs slot_list_getitem.lookup
   (wpAny_getItem_list_neg (Q:=fun r s'=>r=w∧EP X pins σ Q r s') pl.isList (by omega) (by rw [List.size_toArray]<;>omega) (by omega) (by rw [hj];simpa using ew) ⟨rfl,fin⟩) hs
theorem ix_tup:IxR X (o3 X.K):=by
 intro value slice pins s σ H x y v u Q I rx ry h hs
 obtain ⟨p,xs,i,z,rfl,rfl,hq,he,q⟩:=h
 cases rx
 obtain ⟨t,rfl⟩:=ry
 obtain ⟨its,r,pl,hz⟩:=I.tuple hq
 obtain ⟨j,h1,h2,h3,h4,h5⟩:=iH he
 obtain ⟨w,ew,rw'⟩:=r.get h2
 have hl:=r.length
 have hn:=eB
 have fin:EP X pins σ Q w s:=⟨z,H,I,rw',q⟩
 exact subscriptTail_builtinR (x:=w) pl.typeIs slot_tuple_getitem.lookup
  (getItem_tuple (j:=j) (Q:=fun r s'=>r=w∧EP X pins σ Q r s') pl (by omega) (by omega) (by rw [List.size_toArray,← hl];exact h1) (by simpa using ew) ⟨rfl,fin⟩) hs
theorem KS:IxR X wV:=by
 intro value slice pins s σ H x y v u Q I rx ry h hs
 obtain ⟨z,i,c,rfl,rfl,hz,he,q⟩:=h
 obtain ⟨t,rfl⟩:=rx
 obtain ⟨t',rfl⟩:=ry
 obtain ⟨j,h1,h2,h3,h4,h5⟩:=iH he
 have hl:z.cps.toList.length=z.length:=by simp [Str.length]
 rw [hl] at h1 h4 h5
 have hn:=eB
 exact tail_any (typeIs_str s z t) slot_str_getitem.lookup (getItem_str (c:=c) (by
  have e1:decide (i < -(2 ^ 63:Int))=false:=decide_eq_false (by omega)
  have e2:decide (i≥2 ^ 63)=false:=decide_eq_false (by omega)
  rw [e1,e2,Bool.or_false]) (by rw [h1];simpa using h2) ⟨.str ⟨#[c]⟩,H,I.tok _,⟨_,rfl⟩,q⟩) hs
def xB (K:PySem.W.Frag):R2:=fun x y H Q=>iW K x y H Q∨o3 K x y H Q∨wV x y H Q
theorem KU:IxR X (xB X.K):=kA.or (ix_tup.or KS)
theorem EM (its:List Value) (n j:Nat) (u:Value):Obj.mapSeq (·.setIfInBounds j u) {cls:=.type "list",data:=.seq its.toArray n}={cls:=.type "list",data:=.seq (its.set j u).toArray n}:=by
 simp [Obj.mapSeq]
theorem Inv.lst {pins:List (Addr×Obj)} {σ:St} {H:Hp} {s:Shared} {p:Addr} {xs:List V} (I:Inv X pins σ H s) (h:H p=some (.lst xs)) :
  ∃(its:List Value) (n:Nat),Vals xs its∧s.heap.get? p=some {cls:=.type "list",data:=.seq its.toArray n}∧xs.length≤sizeLine:=by
 obtain ⟨z,its,n,r,e⟩:=I.hok p _ h
 exact ⟨its,n,r,e,z⟩
theorem Inv.lstUpd {pins:List (Addr×Obj)} {σ:St} {H:Hp} {s:Shared} {p:Addr} {xs ys:List V} {its its':List Value} {n n':Nat} {f:Obj→Obj} (I:Inv X pins σ H s) (h:H p=some (.lst xs))
  (ho:s.heap.get? p=some {cls:=.type "list",data:=.seq its.toArray n}) (hf:f {cls:=.type "list",data:=.seq its.toArray n}={cls:=.type "list",data:=.seq its'.toArray n'}) (r:Vals ys its') (hz:ys.length≤sizeLine) (t:Nat) :
  Inv X pins σ (upd H p (.lst ys)) {s with heap:=s.heap.update p f,toks:=t}:=by
 have e:(s.heap.update p f).get? p=some {cls:=.type "list",data:=.seq its'.toArray n'}:=by
  rw [Heap.get?_update_self f ho (by rw [hf]<;>rfl),hf]
 refine I.write (x:=p) (e:=p) (by rw [h];trivial) (.inl rfl) (fun b u hb q=>(Heap.get?_update_other _ _ (Ne.symm hb)).trans q) ⟨_,e⟩ ?_
 exact ⟨hz,its',n',r,e⟩
def LD:V→V→V→Hp→(Hp→Prop)→Prop:=fun o i v H Q=>∃p xs k j,o=.ref p∧i=.int k∧H p=some (.lst xs)∧y7 xs.length k=some j∧Q (upd H p (.lst (xs.set j v)))
theorem dJ:o8 X LD:=by
 intro pins s σ H o i v ov iv u Q I ro ri rv h
 obtain ⟨p,xs,k,j,rfl,rfl,hp,hj,q⟩:=h
 cases ro
 obtain ⟨t,rfl⟩:=ri
 obtain ⟨its,n,r,ho,hz⟩:=I.lst hp
 obtain ⟨h1,h2,h3,h4⟩:=uB hj
 have hl:=r.length
 have hn:=eB
 have I':Inv X pins σ (upd H p (.lst (xs.set j v))) {s with heap:=s.heap.update p (Obj.mapSeq (·.setIfInBounds j u))} :=
  I.lstUpd hp ho (EM its n j u) (r.set rv j) (by rw [List.length_set];exact hz) s.toks
 by_cases h0:0≤k
 ·have hk:k.toNat=j:=by
   rw [seqIndex_of h0 h4] at h1
   exact Option.some.inj h1
  exact PySem.W.ki_setAt ho h0 (by omega) (by rw [List.size_toArray,← hl];exact h4) (by rw [hk];exact ⟨_,I',q⟩)
 ·have hk:(k+(its.toArray.size:Int)).toNat=j:=by
   rw [seqIndex_neg (by omega) h3] at h1
   rw [List.size_toArray,← hl]
   exact Option.some.inj h1
  exact PySem.W.ki_setBack ho (by omega) (by rw [List.size_toArray,← hl];exact h3) (by omega) (by rw [hk];exact ⟨_,I',q⟩)
def vL:V→Bool
 |.non=>true
 |.bl _=>true
 |.int _=>true
 |.str _=>true
 |_=>false
def vF:V→V→Bool
 |.non,.non=>true
 |.bl a,.bl b=>a == b
 |.bl a,.int b=>(if a then 1 else 0) == b
 |.int a,.bl b=>a == (if b then 1 else 0)
 |.int a,.int b=>a == b
 |.str a,.str b=>a == b
 |_,_=>false
theorem u6 {A:Around} {s:Shared} {y x:V} {u v:Value} (ry:RelV y u) (rx:RelV x v) (fy:vL y=true) (fx:vL x=true):SeqAt.EqAt A s u v (vF y x):=by
 cases y with
 |non =>
  cases ry
  cases x with
  |non=>cases rx;exact SeqAt.EqAt.same _
  |bl b=>cases rx;exact SeqAt.EqAt.none_bool b
  |int b=>obtain ⟨t,rfl⟩:=rx;exact SeqAt.EqAt.none_int b t
  |str b=>obtain ⟨t,rfl⟩:=rx;exact SeqAt.EqAt.none_str b t
  |_=>exact absurd (show false=true from fx) Bool.false_ne_true
 |bl a =>
  cases ry
  cases x with
  |non=>cases rx;exact SeqAt.EqAt.bool_none a
  |bl b=>cases rx;exact SeqAt.EqAt.bool_bool a b
  |int b=>obtain ⟨t,rfl⟩:=rx;exact SeqAt.EqAt.bool_int a b t
  |str b=>obtain ⟨t,rfl⟩:=rx;exact SeqAt.EqAt.bool_str a b t
  |_=>exact absurd (show false=true from fx) Bool.false_ne_true
 |int a =>
  obtain ⟨t',rfl⟩:=ry
  cases x with
  |non=>cases rx;exact SeqAt.EqAt.int_none a t'
  |bl b=>cases rx;exact SeqAt.EqAt.int_bool a t' b
  |int b=>obtain ⟨t,rfl⟩:=rx;exact SeqAt.EqAt.int_int a t' b t
  |str b=>obtain ⟨t,rfl⟩:=rx;exact SeqAt.EqAt.int_str a t' b t
  |_=>exact absurd (show false=true from fx) Bool.false_ne_true
 |str a =>
  obtain ⟨t',rfl⟩:=ry
  cases x with
  |non=>cases rx;exact SeqAt.EqAt.str_none a t'
  |bl b=>cases rx;exact SeqAt.EqAt.str_bool a t' b
  |int b=>obtain ⟨t,rfl⟩:=rx;exact SeqAt.EqAt.str_int a t' b t
  |str b=>obtain ⟨t,rfl⟩:=rx;exact SeqAt.EqAt.str_str a t' b t
  |_=>exact absurd (show false=true from fx) Bool.false_ne_true
 |_=>exact absurd (show false=true from fy) Bool.false_ne_true
def eY (x:V) (u:Value):Bool:=match u with
 |.none=>vF .non x
 |.bool b=>vF (.bl b) x
 |.int i _=>vF (.int i) x
 |.str z _=>vF (.str z) x
 |_=>false
theorem oM {x y:V} {u:Value} (r:RelV y u) (f:vL y=true):eY x u=vF y x:=by
 cases y with
 |non=>cases r;rfl
 |bl b=>cases r;rfl
 |int i=>obtain ⟨t,rfl⟩:=r;rfl
 |str z=>obtain ⟨t,rfl⟩:=r;rfl
 |_=>exact absurd (show false=true from f) Bool.false_ne_true
theorem nA {A:Around} {s:Shared} {x:V} {v:Value} (rx:RelV x v) (fx:vL x=true):∀{xs:List V} {us:List Value},Vals xs us→xs.all vL=true→∀u∈us,SeqAt.EqAt A s u v (eY x u)
 |_,_,.nil,_=>fun u hu=>by cases hu
 |y::xs,u::us,.cons r t,f=>fun u' hu=>by
  rw [List.all_cons,Bool.and_eq_true] at f
  rcases List.mem_cons.mp hu with rfl|hu
  ·rw [oM r f.1];exact u6 r rx f.1 fx
  ·exact nA rx fx t f.2 u' hu
theorem qQ:yZ X (.builtin "len") (fun xs H Q=>∃p ys,xs=[.ref p]∧(SqL X.K H p ys∨SqT X.K H p ys)∧Q (.int ys.length) H):=by
 intro pins s σ H xs us Q I r h
 obtain ⟨p,ys,rfl,hq,q⟩:=h
 obtain ⟨u,rfl,rx⟩:=Q6 r
 cases rx
 have hn:=eB
 rcases hq with hq|hq
 ·obtain ⟨its,r',pl,hz⟩:=I.list hq
  have hlen:=r'.length
  exact Calls.call_len_list pl.isList (by simp only [List.size_toArray]<;>omega) ⟨.int ys.length,H,I.tok _,⟨s.toks+1,by rw [List.size_toArray,hlen]⟩,q⟩
 ·obtain ⟨its,r',pl,hz⟩:=I.tuple hq
  have hlen:=r'.length
  exact len_tuple pl (by simp only [List.size_toArray]<;>omega) ⟨.int ys.length,H,I.tok _,⟨s.toks+1,by rw [List.size_toArray,hlen]⟩,q⟩
theorem JP:yZ X (.type "list") (fun xs H Q=>∃p ys,xs=[.ref p]∧(SqL X.K H p ys∨SqT X.K H p ys)∧∀l,H l=none→Q (.ref l) (upd H l (.lst ys))):=by
 intro pins s σ H xs us Q I r h
 obtain ⟨p,ys,rfl,hq,q⟩:=h
 obtain ⟨u,rfl,rx⟩:=Q6 r
 cases rx
 have fin:∀(its:List Value),Vals ys its→ys.length≤sizeLine→∀(h':Heap) (c':Nat),(∀b o',s.heap.get? b=some o'→h'.get? b=some o')→
   h'.get? s.heap.objs.size=some {cls:=.type "list",dict:=none,data:=.seq its.toArray c',slots := #[]}→EP X pins σ Q (.ref s.heap.objs.size) {s with heap:=h'}:=fun its r' hz h' c' kp e =>
  ⟨.ref s.heap.objs.size,_,I.laid (t':=s.toks) kp (Nat.le_refl _) (show ObjOk X.prog X.w _ h' _ (.lst ys) from ⟨hz,its,c',r',e⟩),rfl,q _ (I.hok.fresh (Nat.le_refl _))⟩
 rcases hq with hq|hq
 ·obtain ⟨its,r',pl,hz⟩:=I.list hq
  have hlen:=r'.length
  obtain ⟨o,ho,hc,n,hd⟩:=pl.isList
  exact call_list_seq p (.inl rfl) ho hc hd (fun h' c' kp e=>fin its r' hz h' c' kp e) (by simp only [List.size_toArray]<;>omega)
 ·obtain ⟨its,r',pl,hz⟩:=I.tuple hq
  have hlen:=r'.length
  obtain ⟨o,ho,hc,n,hd⟩:=pl
  exact call_list_seq p (.inr rfl) ho hc hd (fun h' c' kp e=>fin its r' hz h' c' kp e) (by simp only [List.size_toArray]<;>omega)
theorem JF:yZ X (.type "tuple") (fun xs H Q=>∃p ys,xs=[.ref p]∧((SqL X.K H p ys∧∀l,H l=none→Q (.ref l) (upd H l (.tup ys)))∨(SqT X.K H p ys∧Q (.ref p) H))):=by
 intro pins s σ H xs us Q I r h
 obtain ⟨p,ys,rfl,h⟩:=h
 obtain ⟨u,rfl,rx⟩:=Q6 r
 cases rx
 rcases h with ⟨hq,q⟩|⟨hq,q⟩
 ·obtain ⟨its,r',pl,hz⟩:=I.list hq
  have hlen:=r'.length
  refine call_tuple_list pl.isList (fun h' kp=>?_) (by simp only [List.size_toArray]<;>omega)
  have I1:Inv X pins σ H {s with heap:=h'}:=I.kept (t':=s.toks) kp
  have I2:Inv X pins σ (upd H h'.objs.size (.tup ys)) {s with heap:=h'.push {cls:=.type "tuple",data:=.seq its.toArray}} :=
   I1.laid (t':=s.toks) (fun b o e=>Heap.get?_push_of_some _ e) (Nat.le_refl _) (show ObjOk X.prog X.w _ _ _ (.tup ys) from ⟨hz,its,r',IsTup.new _ _⟩)
  exact ⟨.ref h'.objs.size,_,I2,rfl,q _ (I1.hok.fresh (Nat.le_refl _))⟩
 ·obtain ⟨its,r',pl,hz⟩:=I.tuple hq
  exact call_tuple_same pl ⟨.ref p,H,I,rfl,q⟩
def w9 (K:PySem.W.Frag) (T:String) (x:V) (H:Hp):Prop:=match x with
 |.str _=>T="str"
 |.int _=>T="int"
 |.ref p=>(T="list"∧∃xs,SqL K H p xs)∨(T="tuple"∧∃o,K.lookup p=some o∧o.cls=.type "tuple"∧o.dict=none)∨
   (T="dict"∧((∃kvs,H p=some (.dK kvs))∨∃kvs,H p=some (.dT kvs)))∨(T="set"∧∃S n,H p=some (.set S n))
 |_=>False
theorem IW {pins:List (Addr×Obj)} {σ:St} {H:Hp} {s:Shared} {T:String} {x:V} {v:Value} (I:Inv X pins σ H s) (r:RelV x v) (ty:w9 X.K T x H) :
  s.TypeIs v T∧∀a,v=.ref a→∃ob,s.heap.get? a=some ob∧ob.dict=none:=by
 cases x with
 |str z =>
  obtain ⟨t,rfl⟩:=r
  cases (show T="str" from ty)
  exact ⟨typeIs_str s z t,fun _ e=>nomatch e⟩
 |int i =>
  obtain ⟨t,rfl⟩:=r
  cases (show T="int" from ty)
  exact ⟨typeIs_int s i t,fun _ e=>nomatch e⟩
 |ref p =>
  cases r
  rcases ty with ⟨rfl,xs,hq⟩|⟨rfl,o,hk,hc,hd⟩|⟨rfl,hk⟩|⟨rfl,S,n,hk⟩
  ·obtain ⟨its,_,pl,_⟩:=I.list hq
   refine ⟨pl.isList.typeIs,fun a e=>?_⟩
   cases e
   obtain ⟨o,n,e,c,hd,_⟩:=pl
   exact ⟨o,e,hd⟩
  ·refine ⟨⟨o,I.kIn p o hk,hc⟩,fun a e=>?_⟩
   cases e
   exact ⟨o,I.kIn _ o hk,hd⟩
  ·have z:∃o,s.heap.get? p=some o∧o.ExactDict:=by
    rcases hk with ⟨kvs,hk⟩|⟨kvs,hk⟩
    ·obtain ⟨_,_,_,_,o,_,_,e,ex,_⟩:=I.hok p _ hk
     exact ⟨o,e,ex⟩
    ·obtain ⟨_,_,_,_,o,_,_,e,ex,_⟩:=I.hok p _ hk
     exact ⟨o,e,ex⟩
   obtain ⟨o,e,ex⟩:=z
   refine ⟨⟨o,e,ex.1⟩,fun a e2=>?_⟩
   cases e2
   exact ⟨o,e,ex.2.1⟩
  ·obtain ⟨o,_,_,_,e,ex,_⟩:=I.hok p _ hk
   refine ⟨⟨o,e,ex.1⟩,fun a e2=>?_⟩
   cases e2
   exact ⟨o,e,ex.2.1⟩
 |_=>exact False.elim ty
def MS (K:PySem.W.Frag) (T:String) (r:V→List V→Hp→VK→Prop) (to:TE) (t:TA):TE:=fun σ H Q=>to σ H fun x H1=>w9 K T x H1∧t σ H1 fun xs H2=>r x xs H2 Q
variable {o e:Expr} {es:List Expr} {to:TE} {t:TA} {name:Str} {apos cpos:Pos} {T id:String} {r:V→List V→Hp→VK→Prop}
theorem yF (pa:PlainAttrs T) (slot:Slot T name id) (hty:typeOf (.builtin id)=pure (.type "method_descriptor")) (hm:xE X id r) (ho:PE X o to) (ha:PA X (e::es) t)
  (hbase:attributeBase o name X.env (eval o X.env)=eval o X.env:=by rfl)
  (hfew:((backTo cpos (starEach (e::es) X.env)).all (fun x => !x.1)&&(backToKw cpos (keywordEach [] X.env)).all (fun x=>x.1.isSome)
   && decide ((e::es).length+([]:List Keyword).length+(if ([]:List Keyword).isEmpty then 0 else 1)<30))=true:=by rfl)
  (hline:(apos.endLine == cpos.line)=true:=by rfl) (hs:starEach (e::es) X.env=(false,eval e X.env)::starEach es X.env:=by rfl) (hplain:(backTo cpos (starEach es X.env)).any (·.1)=false:=by rfl) :
  PE X (.Call (.Attribute o name apos) (e::es) [] cpos) (MS X.K T r to t):=by
 intro pins s σ H Q I h
 refine wpAny_Call_method_late hbase hfew hline rfl (jN (ho pins s σ H _ I h) fun v s1 ⟨x,H1,I1,r1,ty,q1⟩=>?_)
 obtain ⟨h1,h2⟩:=IW I1 r1 ty
 refine ⟨T,id,pa,slot,hty,h1,h2,?_⟩
 have hA:=ha cpos pins s1 σ H1 _ I1 q1
 rw [hs] at hA ⊢
 refine Calls.callWith_builtin (by show (false||(backTo cpos (starEach es X.env)).any (·.1))=false;rw [hplain]<;>rfl) (Calls.evalArgs_plain ?_)
 exact jN hA fun us s2 ⟨vs,H2,I2,r2,q2⟩=>hm pins s2 σ H2 x vs v us Q I2 r1 r2 q2
/- xs.append(e),list.index on a module's tuple .. are xE facts of 06m -/
end
end L2
namespace L2
open PySem PySem.Spec PyProof.Rows
def pH (X:Cx) (id:String) (r:V→List V→Hp→VK→Prop):Prop :=
 ∀(pins:List (Addr×Obj)) (s:Shared) (σ:St) (H:Hp) (x:V) (xs:List V) (v:Value) (us:List Value) (Q:VK),Inv X pins σ H s→RelV x v→Vals xs us→r x xs H Q→
  wpAny (model X.prog X.w) X.A (call (.builtin id) (v::us)) (EP X pins σ Q) X.xe s
theorem Vals.one:∀{x:V} {us:List Value},Vals [x] us→∃u,us=[u]∧RelV x u
 |_,_,.cons r .nil=>⟨_,rfl,r⟩
theorem Vals.two:∀{x y:V} {us:List Value},Vals [x,y] us→∃u v,us=[u,v]∧RelV x u∧RelV y v
 |_,_,_,.cons r (.cons q .nil)=>⟨_,_,rfl,r,q⟩
theorem Vals.rep {xs:List V} {us:List Value} (h:Vals xs us):∀k:Nat,Vals (List.replicate k xs).flatten (List.replicate k us).flatten
 |0=>.nil
 |k+1=>by
  rw [List.replicate_succ,List.replicate_succ,List.flatten_cons,List.flatten_cons]
  exact Vals.append h (Vals.rep h k)
theorem rW (its:List Value):∀(k:Nat) (acc:List Value),
  List.foldl (fun x1 x2=>x1++x2) acc.toArray (List.replicate k its.toArray)=(acc++(List.replicate k its).flatten).toArray
 |0,acc=>by simp
 |k+1,acc=>by
  have e:acc.toArray++its.toArray=(acc++its).toArray:=by simp
  have e2:(acc++its)++(List.replicate k its).flatten=acc++(List.replicate (k+1) its).flatten:=by
   rw [List.replicate_succ,List.flatten_cons,List.append_assoc]
  rw [← e2,← rW its k (acc++its),← e,List.replicate_succ,List.foldl_cons]
section
variable {X:Cx} {pins:List (Addr×Obj)} {σ:St} {H:Hp} {s:Shared} {l b:Addr} {xs ys zs:List V}
theorem Inv.lset {its its':List Value} {n:Nat} {f:Array Value→Array Value} {t':Nat} (I:Inv X pins σ H s) (hH:H l=some (.lst xs))
  (e:s.heap.get? l=some {cls:=.type "list",data:=.seq its.toArray n}) (hf:f its.toArray=its'.toArray) (hv:Vals ys its') (hz:ys.length≤sizeLine) :
  Inv X pins σ (upd H l (.lst ys)) {s with heap:=s.heap.update l (Obj.mapSeq f),toks:=t'}:=by
 have q:=PySem.IsL.update e f
 rw [hf] at q
 refine I.write (x:=l) (e:=l) (by rw [hH];exact trivial) (.inl rfl) (fun b' u hb hu=>(Heap.get?_update_other s.heap (Obj.mapSeq f) (Ne.symm hb)).trans hu) ⟨_,q⟩ ?_
 exact ⟨hz,its',_,hv,q⟩
theorem Inv.lnew {its:List Value} {t':Nat} (I:Inv X pins σ H s) (hv:Vals ys its) (hz:ys.length≤sizeLine) :
  Inv X pins σ (upd H s.heap.objs.size (.lst ys)) {s with heap:=s.heap.push {cls:=.type "list",data:=.seq its.toArray},toks:=t'} :=
 I.laid (fun _ _ q=>Heap.get?_push_of_some _ q) (Nat.le_refl _) ⟨hz,its,0,hv,Heap.get?_push_size _ rfl⟩
theorem Inv.fresh (I:Inv X pins σ H s):H s.heap.objs.size=none:=I.hok.fresh (Nat.le_refl _)
theorem Inv.lstM (I:Inv X pins σ H s) (hH:H l=some (.lst xs)):xs.length≤sizeLine∧∃(its:List Value) (n:Nat),Vals xs its∧xs.length=its.length∧s.heap.get? l=some {cls:=.type "list",data:=.seq its.toArray n}:=by
 obtain ⟨z,its,n,r,e⟩:=I.hok l _ hH
 exact ⟨z,its,n,r,r.length,e⟩
theorem GU {n:Nat} (h:n≤sizeLine):Builtin.List.listTooLong n=false:=by
 unfold Builtin.List.listTooLong
 exact decide_eq_false (by omega)
end
section
variable {X:Cx}
def HN:V→List V→Hp→VK→Prop:=fun x vs H Q=>∃l xs y,x=.ref l∧vs=[y]∧H l=some (.lst xs)∧xs.length<sizeLine∧Q .non (upd H l (.lst (xs++[y])))
theorem zL:pH X "list.append" HN:=by
 intro pins s σ H x vs v us Q I rx rv h
 obtain ⟨l,xs,y,rfl,rfl,hH,hz,q⟩:=h
 cases rx
 obtain ⟨u,rfl,ru⟩:=rv.one
 obtain ⟨z,its,n,r,hl,e⟩:=I.lstM hH
 refine call_meets F.slot_list_append ⟨_,e,rfl⟩ F.entry_list_append (F.args_list_append_2 _ _) (PySem.list_append l its.toArray n u (by rw [List.size_toArray];omega)) ⟨e,?_⟩
 refine ⟨.non,_,I.lset (its':=its++[u]) hH e (by simp) (r.append (.cons ru .nil)) ?_,rfl,q⟩
 rw [List.length_append,List.length_singleton]
 omega
def MC:R2:=fun x y H Q=>∃l b xs zs,x=.ref l∧y=.ref b∧H l=some (.lst xs)∧H b=some (.lst zs)∧xs.length+zs.length≤sizeLine∧∀p,H p=none→Q (.ref p) (upd H p (.lst (xs++zs)))
theorem dY:q0 X (binaryOp .Add) MC:=by
 intro pins s σ H x y v u Q I rx ry h
 obtain ⟨l,b,xs,zs,rfl,rfl,hH,hB,hz,q⟩:=h
 cases rx
 cases ry
 obtain ⟨z,its,n,r,hl,e⟩:=I.lstM hH
 obtain ⟨z2,its2,n2,r2,hl2,e2⟩:=I.lstM hB
 refine PySem.P.add_list e e2 ?_ (by rw [List.size_toArray,List.size_toArray];omega)
 have ea:its.toArray++its2.toArray=(its++its2).toArray:=by simp
 rw [ea]
 exact ⟨.ref _,_,I.lnew (t':=s.toks) (r.append r2) (by rw [List.length_append];omega),rfl,q _ I.fresh⟩
def MA:R2:=fun x y H Q=>∃l k xs,x=.ref l∧y=.int k∧H l=some (.lst xs)∧-(2 ^ 63)≤k∧k<2 ^ 63∧xs.length*k.toNat≤sizeLine∧
 ∀p,H p=none→Q (.ref p) (upd H p (.lst (List.replicate k.toNat xs).flatten))
theorem IB {α:Type} (xs:List α) (k:Nat):(List.replicate k xs).flatten.length=k*xs.length:=by
 induction k with
 |zero=>simp
 |succ k ih=>rw [List.replicate_succ,List.flatten_cons,List.length_append,ih,Nat.succ_mul,Nat.add_comm]
theorem KH:q0 X (binaryOp .Mult) MA:=by
 intro pins s σ H x y v u Q I rx ry h
 obtain ⟨l,k,xs,rfl,rfl,hH,h1,h2,hz,q⟩:=h
 cases rx
 obtain ⟨t,rfl⟩:=ry
 obtain ⟨z,its,n,r,hl,e⟩:=I.lstM hH
 have hlen:its.toArray.size*k.toNat≤sizeLine:=by rw [List.size_toArray,← hl];exact hz
 have hcap:¬its.toArray.size*k.toNat>(2 ^ 63 - 1) / 8:=by
  have:(sizeLine:Nat)≤(2 ^ 63 - 1) / 8:=by decide
  omega
 have hfit:¬(!Builtin.List.listFitsIndex k)=true:=by
  rw [fitsIndex_both h1 h2]
  exact Bool.false_ne_true
 have hlong:¬Builtin.List.listTooLong (its.toArray.size*k.toNat)=true:=by
  rw [GU hlen]
  exact Bool.false_ne_true
 have hnew:List.foldl (fun x1 x2=>x1++x2) #[] (List.replicate (if its.toArray.isEmpty=true then 0 else k.toNat) its.toArray)=(List.replicate k.toNat its).flatten.toArray:=by
  have f0:∀m:Nat,List.foldl (fun x1 x2=>x1++x2) #[] (List.replicate m its.toArray)=(List.replicate m its).flatten.toArray:=fun m=>by
   have:=rW its m []
   rw [List.nil_append] at this
   exact this
  rw [f0]
  cases its with
  |nil=>simp
  |cons a r'=>rw [if_neg (by simp)]
 refine wpAny_binaryOp_repeat_ref (T:="list") (U:="int") (by decide) ⟨_,e,rfl⟩ (fun s'=>typeIs_int s' k t) noFill_list_mul F.fills_int_mul F.slot_int_rmul repeat_list F.slot_int_index.lookup
  (call_meets F.slot_int_rmul (typeIs_int s k t) F.entry_int_rmul (F.args_int_rmul_2 _ _) (int___rmul___int_list k t l its.toArray n)
   ⟨e,rfl,⟨_,e,rfl⟩,call_meets F.slot_list_mul ⟨_,e,rfl⟩ F.entry_list_mul (F.args_list_mul_2 _ _) (AutoListH.list___mul___list_int_3 l its.toArray n k t hfit hcap hlong) ⟨e,?_⟩⟩)
 rw [hnew]
 exact ⟨.ref _,_,I.lnew (t':=s.toks) (r.rep k.toNat) (by rw [IB,Nat.mul_comm];exact hz),rfl,q _ I.fresh⟩
end
section
variable {prog:Program} {w:World} {A:Around} {E:Value→Shared→Prop} {s:Shared}
end
section
variable {X:Cx}
end
end L2
namespace Att
open PySem PySem.W PySem.Calls PyProof.Rows
theorem DK {P:Params} {h:Heap}:∀(ns:List Int) (vs:List Value),WellAll P h vs (ns.map WData.int)→IntsAre vs ns:=by
 intro ns
 induction ns with
 |nil =>
  intro vs w
  rw [List.map_nil] at w
  cases w
  exact .nil
 |cons n ns ih =>
  intro vs w
  rw [List.map_cons] at w
  cases w with
  |cons a b =>
   cases a
   exact .cons _ _ (ih _ b)
theorem FC {l:OpenLaw} {n:Nat} (hn:l.most=some n) {P:Params} {h:Heap} {args:List WData} {vals:List Value}
  (hpre:l.row.toRowW.claim.pre args=true) (hwl:WellAll P h vals args) :
  ∃a vs ns,vals=[Value.ref a]∧args=[WData.list (ns.map WData.int)]∧h.get? a=some {cls:=.type "list",data:=.seq vs.toArray}∧IntsAre vs ns∧ns.length≤n:=by
 have hsh:WShape.hasAll [] args [.list .int]=true:=(pre_splitW hpre).1
 have hc:l.pre.holds [] {args:=args}=true:=(pre_splitW hpre).2
 obtain ⟨d,r,rfl,h1,h2⟩:=hasAllW_cons hsh
 obtain rfl:=hasAllW_nil h2
 obtain ⟨xs,rfl,h3⟩:=hasW_list h1
 obtain ⟨ns,rfl⟩:=items_int h3
 have hlen:ns.length≤n:=by
  unfold OpenLaw.pre at hc
  have h4:(WTm.not (.lt (.lit (.int (n:Int))) (.len (.arg 0)))).holds [] {args:=[.list (ns.map .int)]}=true:=by
   have h4:=(holds_andW hc).1
   rw [hn] at h4
   exact h4
  have h5:=condW_of h4 (w_not (w_lt w_lit (w_len_list (w_arg rfl))))
  rw [List.length_map] at h5
  refine Nat.le_of_not_lt fun q=>?_
  have q':(n:Int)<((ns.length:Nat):Int):=by omega
  first
   | (rw [decide_eq_true q'] at h5;exact absurd h5 (by decide))
   | (simp at h5;omega)
 cases hwl with
 |cons w1 w2 =>
  cases w2
  cases w1 with
  |list ho hall=>exact ⟨_,_,ns,rfl,rfl,ho,DK ns _ hall,hlen⟩
theorem FF (l:OpenLaw) (args:List WData):l.row.toRowW.claim.post args (.bool true) args=true :=
 postW_of (r:=l.row.toRowW) (X:=(true == true))
  (show WShape.has [] (.bool true) .bool=true by first|rfl|decide|simp [WShape.has,WShape.arms,WShape.armsAll])
  (show (WTm.eq .res (.lit (.bool true))).value [] {args:=args,res:=some (.bool true),after:=args}=some (.bool (true == true)) from w_eq_bool (w_res rfl) w_lit) rfl
theorem attach_call {l:OpenLaw} {n:Nat} {q:Program} {loose:List Str} {XP:(Str→Option Value)→Heap→Prop} {YP:World→Heap→Prop} {d:DefRec}
  (hn:l.most=some n) (hdf:d.params.defaults=[])
  (call:∀(w:World) (s₀ s₁:Shared) (mg mb:Str→Option Value) (fa:Addr) (o:Obj) (pm cd doc:Value) (a:Addr) (vs:List Value) (ns:List Int),
   Ground q loose [] XP w s₀ mg mb s₁.heap→YP w s₁.heap→
   s₁.heap.get? fa=some o→o.data=.func (docDef d.name d.params d.body d.scope pm cd doc)→s₁.heap.CodeRec cd d.name→mg d.name=some (.ref fa)→
   s₁.heap.get? a=some {cls:=.type "list",data:=.seq vs.toArray}→IntsAre vs ns→ns.length≤n→s₁.gens = #[]→
   codeAny (model l.prog w) callerA (.call (.ref fa) ⟨[.ref a],[]⟩) (fun r s'=>r=.ok (.ret (.bool true))∧OldK s₁.heap s'.heap∧s'.os=s₁.os∧AllBare s'.gens) s₁) :
  WalkO q loose XP YP l.row.toRowW d [] (fun f vs=>PySem.call f vs):=by
 intro w s₀ s₁ mg mb G Y fa o pm cd doc dV kV ho hd hcd hD hmg hg args vals as hpre hlay hrd hwl hlo
 obtain rfl:dV=.none:=Dflts.none hD hdf
 obtain rfl:kV=.none:=Dflts.noKw hD
 obtain ⟨a,vs,ns,rfl,rfl,hobj,hints,hlen⟩:=FC hn hpre hwl
 refine enter_call (codeAny_mono (call w s₀ s₁ mg mb fa o pm cd doc a vs ns G Y ho (fd_plain hd) hcd hmg hobj hints hlen hg) fun r s' hq=>?_)
 obtain ⟨rfl,h2,h3,h4⟩:=hq
 exact ⟨.inl ⟨.bool true,.bool true,[],rfl,fun _=>rfl,.bool true,FF l _,fun _=>⟨List.Pairwise.nil,fun _ hm=>(nomatch hm)⟩⟩,h2,h3,h4⟩
section
variable {prog:Program} {w:World} {A:Around} {E:Value→Shared→Prop} {s:Shared} {K:Frag}
def MY (h:Heap) (L d:Addr):List (Addr×Obj):=(List.range h.objs.size).filterMap fun a=>if a=L∨a=d then none else (h.get? a).map fun o=>(a,o)
end
end Att
namespace L2
open PySem PySem.Spec PyProof.Rows
theorem rL:∀{vs:List Value} {ns:List Int},IntsAre vs ns→Vals (ns.map V.int) vs
 |_,_,.nil=>.nil
 |_,_,.cons n t h=>.cons ⟨t,rfl⟩ (rL h)
def o9 (H:Hp):Prop:=∀b,H b=none∨∃o xs,H b=some (.frz o (.lst xs))
theorem G1 {P:Program} {w:World} {K:PySem.W.Frag} {mg mb:Str→Option Value} {CX:yT} {k:Nat} {fa a:Addr} {fd:FuncData} {x:Str} {sp:Sp} {s₁:Shared} {vs:List Value} {ns:List Int}
  (KX:K.In s₁.heap) (hns:s₁.heap.Ns mainGlobals mg) (hb:s₁.heap.Ns builtinsNs mb) (hbb:∀x:Str,x≠"__name__"→mb x=bootBuiltins x) (hlim:s₁.heap.NoLimit) (hg:s₁.gens = #[])
  (ha:s₁.heap.get? a=some {cls:=.type "list",data:=.seq vs.toArray}) (hi:IntsAre vs ns) (hl:ns.length≤sizeLine) (hr:Room k callerA)
  (F:∀base:Heap,K.In base→base.Ns mainGlobals mg→FnOk P w K mg base CX k fa fd [x] sp) (hbind:∀(s:Shared) (u:Value),BindsTo s fd ⟨[u],[]⟩ [(x,u)])
  (hsp:∀H:Hp,o9 H→SqL K H a (ns.map V.int)→sp [.ref a] H (fun v _=>v=.bl true) fun _ _ _=>False)
  (hCX:∀H e s',CX [] H s₁ (fun _ _ _=>False) e s'→False) :
  codeAny (model P w) callerA (.call (.ref fa) ⟨[.ref a],[]⟩) (fun r s'=>r=.ok (.ret (.bool true))∧OldK s₁.heap s'.heap∧s'.os=s₁.os∧AllBare s'.gens) s₁:=by
 have rv:=rL hi
 have lenV:=hi.length
 have core:∀H:Hp,o9 H→SqL K H a (ns.map V.int)→HOk P w H s₁.heap→(∀b,H b≠none→b=a)→(H a≠none→K.lookup a=none)→
   codeAny (model P w) callerA (.call (.ref fa) ⟨[.ref a],[]⟩) (fun r s'=>r=.ok (.ret (.bool true))∧OldK s₁.heap s'.heap∧s'.os=s₁.os∧AllBare s'.gens) s₁:=by
  intro H hO hS hok hA hK
  have base_of:∀{b:Addr} {o:Obj},s₁.heap.get? b=some o→H b=none→(JL s₁.heap H).get? b=some o:=fun e n=>G3 e n
  have noA:∀{b:Addr} {o:Obj} {es:Array DictEntry} {ep:Nat},s₁.heap.get? b=some o→o.data=.dict es ep→H b=none:=fun {b o es ep} e d=>by
   cases q:H b with
   |none=>rfl
   |some u =>
    have e':b=a:=hA b (by rw [q];simp)
    subst e'
    rw [ha] at e;cases e
    have d':Data.seq vs.toArray _=Data.dict es ep:=d
    cases d'
  have nsK:∀{b:Addr} {m:Str→Option Value},s₁.heap.Ns b m→(JL s₁.heap H).Ns b m:=fun {b m} ⟨o,es,ep,e,d,r⟩=>⟨o,es,ep,base_of e (noA e d),d,r⟩
  have hKb:K.In (JL s₁.heap H):=fun b o e=>base_of (KX b o e) (by
   cases q:H b with
   |none=>rfl
   |some u =>
    have e':b=a:=hA b (by rw [q];simp)
    subst e'
    rw [hK (by rw [q];simp)] at e;cases e)
  have hM:Mod K mg (JL s₁.heap H):=⟨hKb,nsK hns,⟨mb,nsK hb,hbb⟩,let ⟨mc,h1,h2⟩:=hlim;⟨mc,nsK h1,h2⟩⟩
  have e0:Env0 P w K mg (JL s₁.heap H) callerA [] s₁ H:=⟨rfl,hM,fun b o e=>HY e,Nat.le_of_eq (FT _ _),trivial,fun b hb=>absurd (show b∈([]:List Addr) from hb) (by simp),hok,.of_eq hg⟩
  refine codeAny_mono ((F _ hKb (nsK hns)).run callerA [] s₁ H ⟨[.ref a],[]⟩ [.ref a] [.ref a] _ _ hr e0 (hbind s₁ (.ref a)) (.cons rfl .nil) (hsp H hO hS)) fun r s' h=>?_
  cases r with
  |error e=>exact (hCX H e s' h).elim
  |ok fl =>
   cases fl with
   |next=>exact False.elim h
   |brk=>exact False.elim h
   |cont=>exact False.elim h
   |ret u =>
    obtain ⟨v,H',os,bare,un,hok',r',q⟩:=h
    have q':v=.bl true:=q
    subst q'
    obtain rfl:u=Value.bool true:=r'
    refine ⟨rfl,OldK.of_keep fun b o e=>?_,os,bare⟩
    cases q:H b with
    |none=>exact un.keep b o e q (by intro z;exact absurd (show b∈([]:List Addr) from z) (by simp)) (by simp)
    |some u =>
     rcases hO b with z|⟨ob,xs,z⟩
     ·rw [q] at z;cases z
     ·have z2:=un.frzs b ob _ z
      obtain ⟨e1,_⟩:=hok b _ z
      obtain ⟨e2,_⟩:=hok' b _ z2
      rw [e] at e1;cases e1
      exact e2
 cases hk:K.lookup a with
 |some o =>
  have e:=KX a o hk
  rw [ha] at e
  cases e
  refine core (fun _=>none) (fun _=>.inl rfl) (.inr ⟨_,vs.toArray,_,hk,rfl,rfl,rfl,by rw [List.size_toArray,lenV];exact hl,by simpa using rv⟩) (fun b u z=>by have z':(none:Option HO)=some u:=z;cases z') (fun b z=>absurd rfl z) fun z=>absurd rfl z
 |none =>
  refine core (fun b=>if b=a then some (.frz {cls:=.type "list",data:=.seq vs.toArray} (.lst (ns.map V.int))) else none) (fun b=>?_) (.inl (.inr ⟨{cls:=.type "list",data:=.seq vs.toArray},if_pos rfl⟩)) (fun b u z=>?_) (fun b z=>?_) fun _=>hk
  ·by_cases hb:b=a
   ·exact .inr ⟨_,_,if_pos hb⟩
   ·exact .inl (if_neg hb)
  ·by_cases hb:b=a
   ·have z':=(if_pos hb).symm.trans z
    cases z'
    subst hb
    exact ⟨ha,by rw [List.length_map];exact hl,vs,_,rv,ha⟩
   ·have z':=(if_neg hb).symm.trans z
    cases z'
  ·by_cases hb:b=a
   ·exact hb
   ·exact absurd (if_neg hb) z
end L2
namespace L2
open PySem PySem.Spec PyProof.Rows
abbrev KOf {K:PySem.W.Frag} {h:Heap} (_:K.In h):PySem.W.Frag:=K
theorem walk_of {l:PySem.W.OpenLaw} {n k:Nat} {q:Program} {loose:List Str} {XP:(Str→Option Value)→Heap→Prop} {YP:World→Heap→Prop} {d:DefRec} {K:Params→PySem.W.Frag} {CX:World→yT} {sp:World→Sp} {x:Str}
  (hn:l.most=some n) (hn2:n≤sizeLine) (hdf:d.params.defaults=[]) (hr:Room k callerA)
  (hY:∀(w:World) (h:Heap),YP w h→(K w.params).In h)
  (F:∀(w:World) (mg:Str→Option Value) (fa:Addr) (h:Heap),(K w.params).In h→h.Ns mainGlobals mg→mg d.name=some (.ref fa)→
   ∃fd:FuncData,(∀(s:Shared) (u:Value),BindsTo s fd ⟨[u],[]⟩ [(x,u)])∧
    ∀base:Heap,(K w.params).In base→base.Ns mainGlobals mg→FnOk l.prog w (K w.params) mg base (CX w) k fa fd [x] (sp w))
  (hsp:∀(w:World) (H:Hp) (a:Addr) (ns:List Int),ns.length≤n→o9 H→SqL (K w.params) H a (ns.map V.int)→sp w [.ref a] H (fun v _=>v=.bl true) fun _ _ _=>False)
  (hCX:∀(w:World) (H:Hp) (s:Shared) (e:Value) (s':Shared),CX w [] H s (fun _ _ _=>False) e s'→False) :
  PySem.W.WalkO q loose XP YP l.row.toRowW d [] (fun f vs=>PySem.call f vs):=by
 refine Att.attach_call hn hdf fun w s₀ s₁ mg mb fa o pm cd doc a vs ns G Y ho hd hcd hmg hobj hints hlen hg=>?_
 have KX:=hY w _ Y
 obtain ⟨fd,hb,hF⟩:=F w mg fa _ KX G.T.g hmg
 exact G1 KX G.T.g G.T.b G.T.builtins G.T.nolimit hg hobj hints (Nat.le_trans hlen hn2) hr hF hb (fun H hO hS=>hsp w H a ns hlen hO hS) fun H e s'=>hCX w H s₁ e s'
end L2
/- THE LAST THEOREM (shape;LID,My.* are yours):
  My.Adr: a structure of the addresses that your layer names (classes,functions);My.Txt K t: a structure (Prop) of the equations over K;
  My.txt_mk:{K} {implicit addresses ..} (e1:nsIn K mainGlobals "law"=some (some (.ref f))) (e2:K.lookup f=some ⟨oc,od,.func (fnOf "law" "law" params body scope dV kV doc pm an cdv ct),sl⟩) (e3:codeIn K cdv "law"=true) .. : ∃t,My.Txt K t
set_option maxRecDepth 100000 in
set_option maxHeartbeats 0 in
theorem PySem.Challenge.cw_LID_holds : PySem.Challenge.rw_LID.Holds := by
 w_on;o_law;k_head;(case hw=>w_witness2)
 k_fill
 refine L2.walk_of (l:=PySem.Challenge.rw_LID) (n:=63) (k:=40) (x:="script") (CX:=fun w=>..) (sp:=fun _=>My.sp_law) rfl (by decide) rfl ⟨rfl,by decide,by decide⟩ (fun w h Y=>PySem.W.kIn_of Y) ?F ?S ?C
 case F =>
  intro w mg fa h KX G hmg
  have T:∃t,My.Txt (L2.KOf KX) t:=by
   dsimp only [L2.KOf] -- K must stand as «<heap const> w.params» for k_is
   refine' My.txt_mk ?e1 ?e2 ?e3 ..
   (case e1=>PySem.W.k_is) -- in the order: a name -> its address -> its object -> its parts
   (case e2=>PySem.W.k_is)
   ..
  obtain ⟨t,T⟩:=T
  have e0:=hmg.symm.trans (PySem.W.mg_of KX G T.law)
  cases e0 -- fa is the law's own address
  exact ⟨_,fun s u=>.of_eq rfl,fun base kb nb=>My.law_fn T kb nb⟩ -- if «.of_eq rfl» comes too early: refine' ⟨_,?b,fun base kb nb=>My.law_fn T kb nb⟩;exact fun s u=>.of_eq rfl
 case S=>exact fun w H a ns hl hO hS=>..
 case C=>exact ..
(the tactic k_is has no namespace: write k_is) -/
namespace L2
open PySem PySem.Spec PyProof.Rows
def kN (s:Stmt) (j:Nat):Stmt:=match s with
 |.ClassDef _ _ _ body _ _ _ _ _ _ _=>body.getD j (.Pass ⟨0,0,0,0⟩)
 |_=>.Pass ⟨0,0,0,0⟩
def jP (s:Stmt):Arguments:=match s with
 |.FunctionDef _ a _ _ _ _ _ _ _ _=>a
 |_=>{posonlyargs:=[],args:=[],vararg:=none,kwonlyargs:=[],kw_defaults:=[],kwarg:=none,defaults:=[]}
def jO (s:Stmt):List Stmt:=match s with
 |.FunctionDef _ _ b _ _ _ _ _ _ _=>b
 |_=>[]
def jE (s:Stmt):Scope:=match s with
 |.FunctionDef _ _ _ _ _ _ sc _ _ _=>sc
 |_=>{kind:=.function,names:=[],isGenerator:=false,isCoroutine:=false}
abbrev jW:yT:=fun _ _ _ _ _ _=>False
abbrev E0:XK:=fun _ _ _=>False
theorem Q8 {X:Cx}:Q5 jW X E0:=fun _ _ _ _ _ _ _ h=>h.elim
structure Fun (K:PySem.W.Frag) (x qual:Str) (st:Stmt) (f:Addr) (fd:FuncData):Prop where
 ex:∃(oc:Value) (od:Option Addr) (kV doc pm:Value) (an:Option Addr) (cdv ct:Value) (osl:Array (Option Value)),
  fd=PySem.W.fnOf x qual (jP st) (jO st) (jE st) .none kV doc pm an cdv ct∧K.lookup f=some ⟨oc,od,.func fd,osl⟩∧PySem.W.codeIn K cdv qual=true
 kp:PySem.W.keepIn K (.ref f)=true
section
variable {P:Program} {w:World} {K:PySem.W.Frag} {mg:Str→Option Value} {base:Heap}
theorem Fun.ok {x qual:Str} {st:Stmt} {f:Addr} {fd:FuncData} {N ps:List Str} {k:Nat} {sp:Sp} (F:Fun K x qual st f fd) (S:FnScope N ps (jE st)) (len:∀vs H Q E,sp vs H Q E→vs.length=ps.length)
  (hbody:∀(cdv:Value) (A:Around) (outer:List Env) (s:Shared) (H:Hp) (vs:List V) (Q:VK) (E:XK),Room k (A.deeper (envOfC qual (jE st) s.heap.objs.size f cdv))→sp vs H Q E→
   ∃t,PSs (v8 jW P w K mg base N qual (jE st) f cdv A outer s H E).nox (jO st) t∧t {nx:=fun _ H'=>Q .non H',rt:=Q} (start N vs) H):FnOk P w K mg base jW (k+1) f fd ps sp:=by
 obtain ⟨oc,od,kV,doc,pm,an,cdv,ct,osl,rfl,lk,hcd⟩:=F.ex
 refine oX lk hcd S len fun A outer s H vs Q E hr hsp=>?_
 obtain ⟨t,h,q⟩:=hbody cdv A outer s H vs Q E hr hsp
 exact ⟨t,h.nox,q⟩
theorem Fun.binds {x qual:Str} {st:Stmt} {f:Addr} {fd:FuncData} {ps:List Str} (F:Fun K x qual st f fd)
  (h:∀(kV doc pm:Value) (an:Option Addr) (cdv ct:Value) (us:List Value),us.length=ps.length→bindArgs (PySem.W.fnOf x qual (jP st) (jO st) (jE st) .none kV doc pm an cdv ct) ⟨us,[]⟩=pure (ps.zip us)):Binds K fd ps []:=by
 obtain ⟨oc,od,kV,doc,pm,an,cdv,ct,osl,rfl,lk,hcd⟩:=F.ex
 exact .all (h kV doc pm an cdv ct)
theorem jX {x qual:Str} {st:Stmt} {f:Addr} {oc:Value} {od an:Option Addr} {osl:Array (Option Value)} {kV doc pm cdv ct:Value} (l:K.lookup f=some ⟨oc,od,.func (PySem.W.fnOf x qual (jP st) (jO st) (jE st) .none kV doc pm an cdv ct),osl⟩)
  (c:PySem.W.codeIn K cdv qual=true) (k:PySem.W.keepIn K (.ref f)=true):Fun K x qual st f (PySem.W.fnOf x qual (jP st) (jO st) (jE st) .none kV doc pm an cdv ct):=⟨⟨oc,od,kV,doc,pm,an,cdv,ct,osl,rfl,l,c⟩,k⟩
end
theorem jV {A:Around} {k:Nat} (hr:Room k A):A.units+1<cLine:=Nat.lt_of_le_of_lt (Nat.add_le_add_left (by decide:1≤64) _) hr.units
theorem qP {n:Nat} (h:n≤1000):n<sizeLine:=Nat.lt_of_le_of_lt h (by decide)
section
variable {X:Cx}
theorem pv (i:Nat) {x:Str} {pos:Pos} (hN:X.N[i]?=some x:=by rfl) (hv:lB X.env.scope x:=by first|exact Or.inl rfl|exact Or.inr (Or.inl rfl)|exact Or.inr (Or.inr rfl)) (hd:(x == ("__debug__":Str))=false:=by decide)
  (hcd:(x == ("__classdict__":Str))=false:=by decide):PE X (.Name x pos) (wR i):=KF hN hv hd hcd
end
theorem qI {A B:Prop} (h:B):if false=true then A else B:=by
 rw [if_neg Bool.false_ne_true]
 exact h
theorem kU {A B:Prop} (h:A):if true=true then A else B:=by
 rw [if_pos rfl]
 exact h
theorem wZ {c A B:Prop} [Decidable c] (h1:c→A) (h2:¬c→B):if c then A else B:=by
 by_cases h:c
 ·rw [if_pos h]
  exact h1 h
 ·rw [if_neg h]
  exact h2 h
theorem zO {c A B:Prop} [Decidable c] (hc:c) (h:B):if (!decide c)=true then A else B:=by
 rw [decide_eq_true hc]
 exact qI h
def Same (H H':Hp):Prop:=∀b o,H b=some o→H' b=some o
theorem Same.refl (H:Hp):Same H H:=fun _ _ h=>h
theorem Same.trans {H H1 H2:Hp} (a:Same H H1) (b:Same H1 H2):Same H H2:=fun c o h=>b c o (a c o h)
theorem Same.free {H H':Hp} (e:Same H H') {l:Addr} (h:H' l=Option.none):H l=Option.none:=by
 cases q:H l with
 |none=>rfl
 |some o =>
  rw [e l o q] at h
  cases h
theorem Same.seq {K:PySem.W.Frag} {H H':Hp} {a:Addr} {xs:List V} (e:Same H H') (h:SqL K H a xs):SqL K H' a xs:=by
 rcases h with (h|⟨o,h⟩)|h
 ·exact .inl (.inl (e _ _ h))
 ·exact .inl (.inr ⟨o,e _ _ h⟩)
 ·exact .inr h
end L2
namespace L2
open PySem PySem.Spec PyProof.Rows
def vX (cells:List (Str×Addr)):List (Str×NameKind)→List (Str×Addr)→List (Str×Addr)
 |[],cs=>cs
 | (n,k)::r,cs=>if (k == NameKind.free)=true then vX cells r ((n,(cells.lookup n).getD 0)::cs) else vX cells r cs
theorem pU {scope:Scope} {env:Env} (h:∀x∈scope.names,x.2=.free→∃c,env.cells.lookup x.1=some c):closureFor scope env=pure (vX env.cells scope.names []):=by
 simp only [closureFor]
 have go:∀(l:List (Str×NameKind)) (cs:List (Str×Addr)),(∀x∈l,x.2=.free→∃c,env.cells.lookup x.1=some c)→
   (forIn l cs fun x r=>match x with|(name,kind)=>if (kind == NameKind.free)=true then do let a ← cellOf env name;pure (ForInStep.yield ((name,a)::r)) else pure (ForInStep.yield r):Sem (List (Str×Addr)))=pure (vX env.cells l cs):=by
  intro l
  induction l with
  |nil=>intro cs _;rfl
  |cons p r ih =>
   intro cs hp
   obtain ⟨n,k⟩:=p
   rw [List.forIn_cons]
   have hr:=fun cs=>ih cs fun x hx=>hp x (List.mem_cons_of_mem _ hx)
   by_cases hk:(k == NameKind.free)=true
   ·have hk':k=NameKind.free:=by simpa using hk
    obtain ⟨c,hc⟩:=hp (n,k) List.mem_cons_self hk'
    have hc':env.cells.lookup n=some c:=hc
    simp only [hk,if_true,vX,cellOf,hc',Option.getD_some,pure_bind]
    exact hr _
   ·simp only [hk,if_false,vX,pure_bind]
    exact hr _
 rw [go scope.names [] h]
 rfl
theorem gO {cells:List (Str×Addr)}:∀{l:List (Str×NameKind)} {cs:List (Str×Addr)} {x:Str} {c:Addr},(∀y∈l,y.2=.free→∃c,cells.lookup y.1=some c)→(∀y d,cs.lookup y=some d→cells.lookup y=some d)→
  (vX cells l cs).lookup x=some c→cells.lookup x=some c
 |[],cs,x,c,_,hc,e=>hc x c e
 | (n,k)::r,cs,x,c,hl,hc,e=>by
  unfold vX at e
  by_cases hk:(k == NameKind.free)=true
  ·rw [if_pos hk] at e
   obtain ⟨d,hd⟩:=hl (n,k) List.mem_cons_self (by simpa using hk)
   have hd':cells.lookup n=some d:=hd
   refine gO (fun y hy=>hl y (List.mem_cons_of_mem _ hy)) (fun y d' q=>?_) e
   rw [List.lookup_cons] at q
   by_cases hy:(y == n)=true
   ·rw [hy] at q
    have hyn:y=n:=by simpa using hy
    subst hyn
    rw [hd'] at q ⊢
    exact q
   ·rw [Bool.not_eq_true] at hy
    rw [hy] at q
    exact hc y d' q
  ·rw [if_neg hk] at e
   exact gO (fun y hy=>hl y (List.mem_cons_of_mem _ hy)) hc e
theorem mE {cells:List (Str×Addr)}:∀{l:List (Str×NameKind)} {cs:List (Str×Addr)} {x:Str},(∃c,cs.lookup x=some c)→∃c,(vX cells l cs).lookup x=some c
 |[],_,_,h=>h
 | (n,k)::r,cs,x,h=>by
  unfold vX
  by_cases hk:(k == NameKind.free)=true
  ·rw [if_pos hk]
   refine mE ?_
   rw [List.lookup_cons]
   by_cases hy:(x == n)=true
   ·rw [hy];exact ⟨_,rfl⟩
   ·rw [Bool.not_eq_true] at hy
    rw [hy];exact h
  ·rw [if_neg hk];exact mE h
theorem gU {cells:List (Str×Addr)}:∀{l:List (Str×NameKind)} {cs:List (Str×Addr)} {x:Str},(x,NameKind.free)∈l→∃c,(vX cells l cs).lookup x=some c
 | (n,k)::r,cs,x,h=>by
  unfold vX
  rcases List.mem_cons.mp h with e|e
  ·cases e
   rw [if_pos (by rfl)]
   exact mE (by rw [List.lookup_cons,beq_self_eq_true];exact ⟨_,rfl⟩)
  ·by_cases hk:(k == NameKind.free)=true
   ·rw [if_pos hk];exact gU e
   ·rw [if_neg hk];exact gU e
theorem FZ {prog:Program} {w:World} {A:Around} {elt target iter:Expr} {ifs:List Expr} {scope:Scope} {pos:Pos} {it acc:Value} {env:Env} {R:Result→Shared→Prop} {s:Shared} (I:Nat→Shared→Prop)
  (turn:∀n s,I n s→wpAny (model prog w) A (pyNext it) (fun r s₁=>match r with
   |none=>R (.ok .next) s₁
   |some v=>wpAny (model prog w) A (letOwnedTupleGo target it v) (fun _ s₁'=>wpAny (model prog w) A (assign target env v) (fun _ s₂ =>
     wpAny (model prog w) A (forIn ifs true fun c r=>if r=true then do let ok ← isTrue c env (eval c env);pure (ForInStep.yield ok) else pure (ForInStep.yield r)) (fun ok s₃ =>
      if ok=true then wpAny (model prog w) A (eval elt env) (fun x s₄ =>
       wpAny (model prog w) A (call (.builtin "list.append") [acc,x]) (fun _ s₅=>∃m,m<n∧I m s₅) (fun _ _=>False) s₄) (fun _ _=>False) s₃
      else ∃m,m<n∧I m s₃) (fun _ _=>False) s₂) (fun _ _=>False) s₁') (fun _ _=>False) s₁) (fun _ _=>False) s)
  (n:Nat) (h:I n s):codeAny (model prog w) A (.compLoop (.ListComp elt [⟨target,iter,ifs,0⟩] scope pos) 0 it acc env) R s:=by
 refine codeAny_loop rfl I (fun n s hI=>?_) n h
 show wpAny _ A ((compTurn (.ListComp elt [⟨target,iter,ifs,0⟩] scope pos) 0 it acc env).onRaise (fun x=>do noteFrame x env;theTreesLotGoes x)) _ _ s
 refine wpAny_noted ?_
 rw [compTurn_list]
 refine wpAny_bind (wpAny_standAt (wpAny_bind (wpAny_mono (turn n s hI) (fun r s₁ h₁=>?_) fun _ _ h'=>h'.elim)))
 cases r with
 |none=>exact wpAny_pure h₁
 |some v =>
  refine wpAny_bind (wpAny_mono h₁ (fun _ s₁' h₁'=>?_) fun _ _ h'=>h'.elim)
  refine wpAny_bind (wpAny_mono h₁' (fun _ s₂ h₂=>wpAny_bind (wpAny_mono h₂ (fun ok s₃ h₃=>?_) fun _ _ h'=>h'.elim)) fun _ _ h'=>h'.elim)
  cases ok with
  |false=>exact wpAny_pure ⟨rfl,h₃⟩
  |true =>
   exact wpAny_bind (wpAny_bind (wpAny_mono h₃ (fun x s₄ h₄=>wpAny_bind (wpAny_mono h₄ (fun _ s₅ h₅=>wpAny_pure (wpAny_pure ⟨rfl,h₅⟩)) fun _ _ h'=>h'.elim)) fun _ _ h'=>h'.elim))
def vJ (X:Cx) (N:List Str) (scope:Scope) (C:Addr) (s:Shared) (H:Hp) (pins:List (Addr×Obj)) (fp:List Addr):Cx where
 prog:=X.prog
 w:=X.w
 K:=X.K
 mg:=X.mg
 base:=X.base
 A:=X.A
 N:=N
 s₀:=s
 H₀:=H
 env:=compEnvC scope (vX X.env.cells scope.names []) C X.env
 outer:=X.stack
 stack:=X.stack
 ex:=fp
 fn:=fun _=>false
 calm:=X.calm
 pn:=X.pn++pins
 xe:=fun _ _=>False
structure CompScope (X:Cx) (scope:Scope):Prop where
 kind:scope.kind=.function
 nocell:∀y∈scope.names,y.2≠.cell
 names:∀y∈scope.names,y.2=.local→scope.names.lookup y.1=some .local
 free:∀y∈scope.names,y.2=.free→X.env.kindOf y.1=some .cell∨X.env.kindOf y.1=some .free
theorem lO {env:Env} {x:Str}:∀{names:List (Str×NameKind)} {k:NameKind},(names.map fun (n,k)=>if (k == NameKind.free&&env.scope.kind == .function&&env.kindOf n == some .cell) then (n,NameKind.cell) else (n,k)).lookup x=some k→
  ∃k',names.lookup x=some k'∧(k'=k∨(k'=.free∧k=.cell∧env.kindOf x=some .cell))
 |[],k,h=>by simp at h
 | (n,k0)::r,k,h=>by
  have ih:=@lO env x r k
  have h':List.lookup x ((if (k0 == NameKind.free&&env.scope.kind == .function&&env.kindOf n == some .cell)=true then (n,NameKind.cell) else (n,k0))::r.map fun (n,k)=>if (k == NameKind.free&&env.scope.kind == .function&&env.kindOf n == some .cell)=true then (n,NameKind.cell) else (n,k))=some k:=h
  by_cases hc:(k0 == NameKind.free&&env.scope.kind == .function&&env.kindOf n == some .cell)=true
  ·rw [if_pos hc] at h'
   rw [List.lookup_cons] at h'
   cases hx:x == n with
   |true =>
    rw [hx] at h'
    have hk:NameKind.cell=k:=Option.some.inj h'
    simp only [Bool.and_eq_true,beq_iff_eq] at hc
    have hxn:x=n:=by simpa using hx
    refine ⟨k0,by rw [List.lookup_cons,hx],.inr ⟨hc.1.1,hk.symm,by rw [hxn];exact hc.2⟩⟩
   |false =>
    rw [hx] at h'
    obtain ⟨k',e1,e2⟩:=ih h'
    exact ⟨k',by rw [List.lookup_cons,hx];exact e1,e2⟩
  ·rw [if_neg hc] at h'
   rw [List.lookup_cons] at h'
   cases hx:x == n with
   |true =>
    rw [hx] at h'
    exact ⟨k0,by rw [List.lookup_cons,hx],.inl (Option.some.inj h')⟩
   |false =>
    rw [hx] at h'
    obtain ⟨k',e1,e2⟩:=ih h'
    exact ⟨k',by rw [List.lookup_cons,hx];exact e1,e2⟩
theorem mC {α:Type}:∀{l:List (Str×α)} {x:Str} {k:α},l.lookup x=some k→(x,k)∈l
 |[],_,_,h=>by simp at h
 | (n,a)::r,x,k,h=>by
  rw [List.lookup_cons] at h
  cases hx:x == n with
  |true =>
   rw [hx] at h
   have e:a=k:=Option.some.inj h
   have hxn:x=n:=by simpa using hx
   subst e;subst hxn
   exact List.mem_cons_self
  |false =>
   rw [hx] at h
   exact List.mem_cons_of_mem _ (mC h)
def gD (X:Cx) (ifs:List Expr) (t:TT):Prop :=
 ∀(pins:List (Addr×Obj)) (s:Shared) (σ:St) (H:Hp) (Q:Bool→Hp→Prop),Inv X pins σ H s→t σ H Q→
  wpAny (model X.prog X.w) X.A (forIn ifs true fun c r=>if r=true then do let ok ← isTrue c X.env (eval c X.env);pure (ForInStep.yield ok) else pure (ForInStep.yield r)) (TP X pins σ Q) X.xe s
def wQ:TT:=fun _ H Q=>Q true H
theorem vP {X:Cx}:gD X [] wQ:=fun _ _ _ H _ I h=>wpAny_tests_nil ⟨H,I,h⟩
theorem fP {X:Cx} {c:Expr} {t:TT} (hc:PT X c t):gD X [c] t:=fun pins s σ H Q I h=>wpAny_tests_one (hc pins s σ H Q I h)
def zY (D:Addr) (J:It) (g:TG) (tc:TT) (te:TE) (σ₀:St) (H:Hp) (Q:Hp→Prop):Prop :=
 ∃W:Nat→Nat→St→Hp→Prop,(∃m,W 0 m σ₀ (upd H D (.lst [])))∧∀i m σ' H',W i m σ' H'→
  (J.stop i H'∧Q H')∨(J.go i H'∧∃N:St→Hp→Prop,(∀σ'' H'',N σ'' H''→∃m',m'<m∧W (i+1) m' σ'' H'')∧∀x H2,J.yld i H' x H2→g x σ' H2 fun σ2 H3=>tc σ2 H3 fun b H4 =>
   if b=true then te σ2 H4 fun v H5=>∃xs,H5 D=some (.lst xs)∧xs.length<sizeLine∧N σ2 (upd H5 D (.lst (xs++[v]))) else N σ2 H4)
def K9 (wi:TI) (cap:St→St) (g:TG) (tc:TT) (te:TE):TE:=fun σ H Q=>wi σ H fun J H1=>∀D,H1 D=none→zY D J g tc te (cap σ) H1 fun H'=>Q (.ref D) H'
def GK (i:Nat) (wi:TI) (cap:St→St) (g:TG) (tc:TT) (te:TE):TS:=fun D σ H=>wi σ H fun J H1=>∀d,H1 d=none→zY d J g tc te (cap σ) H1 fun H'=>D.nx (σ.set i (some (.ref d))) H'
def gA (X:Cx) (N:List Str) (scope:Scope) (cap:St→St):Prop :=
 ∀σ:St,σ.length=X.N.length→(cap σ).length=N.length∧∀(i:Nat) (x:Str) (v:V),N[i]?=some x→(cap σ)[i]?=some (some v)→scope.names.lookup x=some .free∧∃j:Nat,X.N[j]?=some x∧σ[j]?=some (some v)
def qO (n:Nat) (js:List Nat):St→St:=fun σ=>List.replicate n none++js.map fun j=>(σ[j]?).join
theorem qX {X:Cx} {N:List Str} {scope:Scope} (n:Nat) (js:List Nat) (h1:N.length=n+js.length) (h2:js.map (fun j=>X.N[j]?)=(N.drop n).map some) (h3:∀x∈N.drop n,scope.names.lookup x=some .free):gA X N scope (qO n js):=by
 intro σ hσ
 refine ⟨by unfold qO;rw [List.length_append,List.length_replicate,List.length_map,h1],fun i x v e1 e2=>?_⟩
 unfold qO at e2
 by_cases hi:i<n
 ·rw [List.getElem?_append_left (by simpa using hi),List.getElem?_replicate,if_pos hi] at e2
  cases e2
 ·rw [List.getElem?_append_right (by simpa using hi),List.length_replicate,List.getElem?_map] at e2
  cases hj:js[i - n]? with
  |none=>rw [hj] at e2;cases e2
  |some j =>
   rw [hj] at e2
   have e3:(σ[j]?).join=some v:=Option.some.inj e2
   have e4:σ[j]?=some (some v):=by
    cases q:σ[j]? with
    |none=>rw [q] at e3;cases e3
    |some o =>
     rw [q] at e3
     have e5:o=some v:=e3
     rw [e5]
   have hd:(N.drop n)[i - n]?=some x:=by
    rw [List.getElem?_drop,show n+(i - n)=i by omega]
    exact e1
   have e5:=congrArg (fun l=>l[i - n]?) h2
   simp only [List.getElem?_map,hj,hd,Option.map_some] at e5
   exact ⟨h3 x (List.mem_of_getElem? hd),j,Option.some.inj e5,e4⟩
theorem qW {X:Cx} {scope:Scope} (sc:Scope) (hsc:X.env.scope=sc) (kind:scope.kind=.function) (nocell:∀y∈scope.names,y.2≠.cell) (names:∀y∈scope.names,y.2=.local→scope.names.lookup y.1=some .local)
  (free:∀y∈scope.names,y.2=.free→sc.names.lookup y.1=some .cell∨sc.names.lookup y.1=some .free):CompScope X scope:=⟨kind,nocell,names,fun y hy hf=>by
 subst hsc
 exact free y hy hf⟩
section
variable {X:Cx} {N:List Str} {scope:Scope} {pins:List (Addr×Obj)} {σ:St} {H:Hp} {s:Shared} {fp:List Addr}
theorem gS (S:CompScope X scope) (I:Inv X pins σ H s):∀y∈scope.names,y.2=.free→∃c,X.env.cells.lookup y.1=some c:=fun y hy hf=>I.ok.has y.1 (S.free y hy hf)
theorem HE {cap:St→St} {D C:Addr} {h₁:Heap} {t':Nat} {m:Str→Option Value} (S:CompScope X scope) (I:Inv X pins σ H s) (hcap:gA X N scope cap) (hf:∀b∈fp,zG X pins H b) (hfo:∀b∈fp,∃o,s.heap.get? b=some o)
  (hD:s.heap.objs.size≤D) (hC:s.heap.objs.size≤C) (hDC:D≠C) (old:∀b o,s.heap.get? b=some o→h₁.get? b=some o) (hns:h₁.Ns C m) (hl:h₁.get? D=some {cls:=.type "list",data:=.seq ([]:List Value).toArray}) :
  Inv (vJ X N scope C s H pins fp) [] (cap σ) (upd H D (.lst [])) {s with heap:=h₁,toks:=t'}:=by
 have cellsOk:=gS S I
 have look:∀x c,(vX X.env.cells scope.names []).lookup x=some c→X.env.cells.lookup x=some c:=fun x c e=>gO cellsOk (fun y d q=>by simp at q) e
 have lt:∀{b:Addr} {o:Obj},s.heap.get? b=some o→b<s.heap.objs.size:=fun e=>Heap.lt_size e
 have cellLt:∀x c,X.env.cells.lookup x=some c→c<s.heap.objs.size:=fun x c e=>by
  obtain ⟨v,o,ho,_⟩:=I.cell x c e
  exact lt ho
 have nD:H D=none:=I.hok.fresh hD
 have nC:H C=none:=I.hok.fresh hC
 have stkNe:∀b:Addr,b≠X.env.locals→b∉X.fs→b∉kI X.stack:=fun b h1 h2 z=>by
  rcases List.mem_cons.mp (I.stkSub b z) with e|e
  ·exact h1 e
  ·exact h2 e
 refine ⟨⟨I.ok.mod,S.kind,I.ok.glob,I.ok.blt,hC,fun x y c h1 h2=>I.ok.inj x y c (look x c h1) (look y c h2),fun x hx=>?_,fun x c hfn _=>(nomatch hfn),I.ok.hd,I.ok.frames,.inl rfl,fun b hb=>⟨?_,fun x c e=>(hf b hb).2.2.2.2.1 x c (look x c e)⟩,
   I.bs,Nat.le_trans I.ok.bsz I.sz,fun b o e hb=>?_,fun b hb=>stkNe b (hf b hb).2.1 (hf b hb).2.2.1,I.stack,I.stkFree⟩,
  rfl,I.bare,Un.laid old hD nD,⟨m,hns,fun i x v h1 h2 h3=>?_⟩,fun x c e=>?_,?_,fun x c e=>?_,fun p hp=>?_,?_,(hcap σ I.len).1⟩
 ·-- has
  have hx':∃k,(relabel scope X.env).names.lookup x=some k∧(k=.cell∨k=.free):=by
   rcases hx with e|e
   ·exact ⟨_,e,.inl rfl⟩
   ·exact ⟨_,e,.inr rfl⟩
  obtain ⟨k,e,hk⟩:=hx'
  obtain ⟨k',e1,e2⟩:=lO e
  have hm:=mC e1
  have hfree:k'=.free:=by
   rcases e2 with e2|e2
   ·subst e2
    rcases hk with hk|hk
    ·subst hk
     exact absurd rfl (S.nocell _ hm)
    ·exact hk
   ·exact e2.1
  subst hfree
  exact gU hm
 ·obtain ⟨o,ho⟩:=hfo b hb
  exact Nat.ne_of_lt (Nat.lt_of_lt_of_le (lt ho) hC)
 ·rcases (hf b hb).2.2.2.1 with z|z
  ·exact I.ok.noex b o e z
  ·exact absurd (Nat.lt_of_lt_of_le (Heap.lt_size e) (Nat.le_trans I.ok.bsz z)) (Nat.lt_irrefl _)
 ·-- names
  obtain ⟨hfr,j,hj,hv⟩:=(hcap σ I.len).2 i x v h1 h2
  have hm:=mC hfr
  have hk:=S.free _ hm rfl
  obtain ⟨m0,_,hl0⟩:=I.loc
  have vis:lB X.env.scope x:=by
   rcases hk with k|k
   ·exact .inr (.inl k)
   ·exact .inr (.inr k)
  obtain ⟨u,r,l⟩:=hl0 j x v hj hv vis
  refine ⟨u,r,.inr ⟨?_,?_⟩⟩
  ·have hvis:∃k,(relabel scope X.env).names.lookup x=some k:=by
    rcases h3 with e|e|e<;>exact ⟨_,e⟩
   obtain ⟨k,e⟩:=hvis
   obtain ⟨k',e1,e2⟩:=lO e
   rw [hfr] at e1
   cases e1
   rcases e2 with e2|e2
   ·subst e2;exact .inr e
   ·rw [e2.2.1] at e;exact .inl e
  ·rcases l with ⟨k,_⟩|⟨_,c,hc,hcell⟩
   ·exfalso
    rcases hk with q|q
    ·have q':X.env.kindOf x=some .cell:=q
     rw [k] at q';cases q'
    ·have q':X.env.kindOf x=some .free:=q
     rw [k] at q';cases q'
   ·obtain ⟨c',e'⟩:=gU (cells:=X.env.cells) (cs:=[]) hm
    have e2:=look x c' e'
    have e2':X.env.cells.lookup x=some c':=e2
    rw [hc] at e2'
    cases e2'
    obtain ⟨o,ho,hd⟩:=hcell
    exact ⟨c,e',o,old _ _ ho,hd⟩
 ·obtain ⟨v,o,ho,hd⟩:=I.cell x c (look x c e)
  exact ⟨v,o,old _ _ ho,hd⟩
 ·show upd H D (.lst []) C=none
  rw [j4 (Ne.symm hDC)]
  exact nC
 ·have hc:=look x c e
  rw [j4 (Nat.ne_of_lt (Nat.lt_of_lt_of_le (cellLt x c hc) hD))]
  exact I.freeC x c hc
 ·have hp':p∈X.pn++pins:=by
   rcases List.mem_append.mp hp with z|z
   ·exact z
   ·cases z
  obtain ⟨e,n,ne,nf,d⟩:=I.pin p hp'
  refine ⟨old _ _ e,?_,Nat.ne_of_lt (Nat.lt_of_lt_of_le (lt e) hC),stkNe p.1 ne nf,d⟩
  rw [j4 (Nat.ne_of_lt (Nat.lt_of_lt_of_le (lt e) hD))]
  exact n
 ·refine I.hok.laid old hD ?_
  exact ⟨Nat.zero_le _,[],0,.nil,hl⟩
theorem sA {σ':St} {H':Hp} {s':Shared} {C:Addr} {σc:St} {Nc:List Str} (I:Inv X pins σ H s) (hf:∀b∈fp,zG X pins H b) (J:Inv (vJ X Nc scope C s H pins fp) [] σc H' s'):Inv X pins σ H' s':=by
 refine I.call' (ch:=fp) J.os J.base J.hok J.bare fun b hb=>?_
 obtain ⟨_,h2,_,h4,h5,h6⟩:=hf b hb
 exact ⟨h4,h2,h5,h6⟩
theorem tK {σ':St} {H':Hp} {s':Shared} {C:Addr} {h':Heap} (I:Inv X pins σ H s) (hC:s.heap.objs.size≤C) (J:Inv X pins σ' H' s') (hn:H' C=none) (sb:Heap.SameBut C s'.heap h'):Inv X pins σ' H' {s' with heap:=h'}:=by
 refine J.turned (t':=s'.toks) (it:=C) (fun b o hb e=>(sb.2 b hb).trans e) hn (Nat.ne_of_gt (Nat.lt_of_lt_of_le I.lt hC)) (.inr (Nat.le_trans I.sz hC)) (fun x c e z=>?_) fun p hp z=>?_
 ·obtain ⟨v,q⟩:=I.cell x c e
  exact absurd (Nat.lt_of_lt_of_le q.lt (by rw [z];exact hC)) (Nat.lt_irrefl _)
 ·exact absurd (Nat.lt_of_lt_of_le (Heap.lt_size (I.pin p hp).1) (by rw [z];exact hC)) (Nat.lt_irrefl _)
theorem tJ {tg iter elt:Expr} {ifs:List Expr} {pos:Pos} {cap:St→St} {g:TG} {tc:TT} {te:TE} {J:It} {it:Addr} {tn:Nat→Heap→Prop} {Q:Addr→Hp→Prop} {RR:Value→Addr→Result→Shared→Prop}
  (hcalm:X.calm=true) (S:CompScope X scope) (hcap:gA X N scope cap) (I:Inv X pins σ H s) (T:Turn X.prog X.w X.K tg J fp it tn) (st:tn 0 s.heap) (hf:∀b∈fp,zG X pins H b)
  (hg:∀C,PG (vJ X N scope C s H pins fp) tg g) (hc:∀C,gD (vJ X N scope C s H pins fp) ifs tc) (he:∀C,PE (vJ X N scope C s H pins fp) elt te)
  (hq:∀D,H D=none→zY D J g tc te (cap σ) H (Q D))
  (hRR:∀D C σc H' s',s.heap.objs.size≤C→Inv (vJ X N scope C s H pins fp) [] σc H' s'→Q D H'→RR (.ref D) C (.ok .next) s') :
  wpAny (model X.prog X.w) X.A (newList []) (fun acc s₃=>wpAny (model X.prog X.w) X.A (newFunctionEnv scope X.env.globals (vX X.env.cells scope.names []) [] X.env.qual none .none (some X.env)) (fun cenv s₄ =>
   codeAny (model X.prog X.w) X.A (.compStart (.ListComp elt [⟨tg,iter,ifs,0⟩] scope pos) 0 (.ref it) acc {cenv with scope:=relabel scope X.env}) (RR acc cenv.locals) s₄) X.xe s₃) X.xe s:=by
 refine wpAny_newObj_type (wpAny_newFunctionEnv S.nocell (by intro y hy;simp at hy) (fun h₁ hns₁ hsb₁=>?_) S.kind)
 dsimp only at hns₁ hsb₁ ⊢
 generalize hH2:s.heap.push {cls:=.type "list",dict:=none,data:=.seq ([]:List Value).toArray}=H2 at hns₁ hsb₁ ⊢
 have hC:H2.objs.size=s.heap.objs.size+1:=by rw [← hH2,Heap.size_push]
 have hDC:s.heap.objs.size≠H2.objs.size:=by rw [hC];exact Nat.ne_of_lt (Nat.lt_succ_self _)
 have hCle:s.heap.objs.size≤H2.objs.size:=by rw [hC];exact Nat.le_succ _
 have below:∀b,b<s.heap.objs.size→b≠H2.objs.size:=fun b hb=>by rw [hC];exact Nat.ne_of_lt (Nat.lt_succ_of_lt hb)
 have old:∀b o,s.heap.get? b=some o→h₁.get? b=some o:=fun b o e=>hsb₁.extBut b o (below b (Heap.lt_size e)) (Heap.get?_push_of_some _ (hH2▸Heap.get?_push_of_some _ e))
 have hacc:h₁.get? s.heap.objs.size=some {cls:=.type "list",data:=.seq ([]:List Value).toArray}:=hsb₁.extBut _ _ hDC (Heap.get?_push_of_some _ (hH2▸Heap.get?_push_size _ rfl))
 have obj0:=T.obj 0 s.heap st
 have I1:∀t',Inv (vJ X N scope H2.objs.size s H pins fp) [] (cap σ) (upd H s.heap.objs.size (.lst [])) {s with heap:=h₁,toks:=t'}:=fun t' =>
  HE S I hcap hf (fun b hb=>let ⟨o,e,_⟩:=obj0 b hb;⟨o,e⟩) (Nat.le_refl _) hCle hDC old hns₁ hacc
 have st1:tn 0 h₁:=T.keep 0 s.heap h₁ st fun b _ o e=>old b o e
 have stat:∀{H':Hp},(∀b∈fp,H' b=none)→∀b∈fp,zG (vJ X N scope H2.objs.size s H pins fp) [] H' b:=fun hn b hb=>by
  obtain ⟨_,h2,h3,h4,h5,h6⟩:=hf b hb
  obtain ⟨o,ho,_⟩:=obj0 b hb
  refine ⟨hn b hb,below b (Heap.lt_size ho),?_,.inl hb,fun x c e=>h5 x c (gO (gS S I) (fun y d q=>by simp at q) e),fun p hp=>?_⟩
  ·intro z
   rcases List.mem_cons.mp (I.stkSub b z) with e|e
   ·exact h2 e
   ·exact h3 e
  ·rcases List.mem_append.mp hp with z|z
   ·exact h6 p z
   ·cases z
 have fr1:∀b∈fp,upd H s.heap.objs.size (.lst []) b=none:=fun b hb=>by
  obtain ⟨o,ho,_⟩:=obj0 b hb
  rw [j4 (Nat.ne_of_lt (Heap.lt_size ho))]
  exact (hf b hb).1
 obtain ⟨W,⟨m0,w0⟩,turn⟩:=hq s.heap.objs.size (I.hok.fresh (Nat.le_refl _))
 have loop:∀s₃:Shared,s₃={s with heap:=h₁,toks:=s.toks+([]:List (Str×Value)).length}→
   codeAny (model X.prog X.w) X.A (.compLoop (.ListComp elt [⟨tg,iter,ifs,0⟩] scope pos) 0 (.ref it) (.ref s.heap.objs.size) (compEnvC scope (vX X.env.cells scope.names []) H2.objs.size X.env))
    (RR (.ref s.heap.objs.size) H2.objs.size) s₃:=by
  rintro s₃ rfl
  refine FZ (fun n s'=>∃i σ' H',Inv (vJ X N scope H2.objs.size s H pins fp) [] σ' H' s'∧tn i s'.heap∧(∀b∈fp,H' b=none)∧W i n σ' H') ?_ m0 ⟨0,cap σ,_,I1 _,st1,fr1,w0⟩
  rintro n s3 ⟨i,σ3,H3,I3,st3,fr3,w3⟩
  rcases turn i n σ3 H3 w3 with ⟨stop,qn⟩|⟨go,Nn,hN,step⟩
  ·refine jN (T.done (vJ X N scope H2.objs.size s H pins fp) rfl rfl rfl hcalm i [] s3 σ3 H3 (fun _ _=>False) I3 (stat fr3) st3 stop) fun r s4 ⟨hr,I4⟩=>?_
   subst hr
   exact hRR _ _ σ3 H3 s4 hCle I4 qn
  ·refine jN (T.item (vJ X N scope H2.objs.size s H pins fp) rfl rfl rfl hcalm i [] s3 σ3 H3 (fun _ _=>False) I3 (stat fr3) st3 go) fun r s4 ⟨u,hr,h4⟩=>?_
   subst hr
   refine jN h4 fun _ s5 ⟨x,H5,I5,r5,y5,st5,fr5⟩=>?_
   have I5':=I5.pinned (stat fr5) (T.obj _ _ st5)
   have again:∀{σ7:St} {H7:Hp} {s7:Shared},Inv (vJ X N scope H2.objs.size s H pins fp) ([]++fS fp s5.heap) σ7 H7 s7→Nn σ7 H7→
     ∃m,m<n∧∃i σ' H',Inv (vJ X N scope H2.objs.size s H pins fp) [] σ' H' s7∧tn i s7.heap∧(∀b∈fp,H' b=none)∧W i m σ' H':=fun {σ7 H7 s7} I7 n7=>by
    obtain ⟨m',hm,w7⟩:=hN σ7 H7 n7
    refine ⟨m',hm,i+1,σ7,H7,I7.unpinned,T.keep _ _ _ st5 fun b hb o e=>(I7.pin (b,o) (List.mem_append_right _ (List.mem_append_right _ (gQ hb e)))).1,fun b hb=>?_,w7⟩
    obtain ⟨o,e,d⟩:=T.obj _ _ st5 b hb
    exact (I7.pin (b,o) (List.mem_append_right _ (List.mem_append_right _ (gQ hb e)))).2.1
   refine jN (hg _ _ s5 σ3 H5 x u _ I5' r5 (step x H5 y5)) fun _ s6 ⟨σ6,H6,I6,q6⟩=>?_
   refine jN (hc _ _ s6 σ6 H6 _ I6 q6) fun ok s7 ⟨H7,I7,q7⟩=>?_
   cases ok with
   |false=>exact again I7 q7
   |true =>
    refine jN (he _ _ s7 σ6 H7 _ I7 q7) fun v s8 ⟨y,H8,I8,r8,xs,hD8,hz8,n8⟩=>?_
    refine jN (zL _ s8 σ6 H8 (.ref s.heap.objs.size) [y] (.ref s.heap.objs.size) [v] (fun _ H9=>Nn σ6 H9) I8 rfl (.cons r8 .nil) ⟨_,_,_,rfl,rfl,hD8,hz8,n8⟩) fun _ s9 ⟨_,H9,I9,_,n9⟩=>?_
    exact again I9 n9
 exact codeAny_compStart_list (loop _ rfl) (wpAny_mono (T.self X.A 0 _ (fun v s'=>v=.ref it∧s'=_) (fun _ _=>False) st1 ⟨rfl,rfl⟩) (fun v s' ⟨e1,e2⟩=>by subst e1;subst e2;exact loop _ rfl) fun _ _ z=>z.elim)
theorem yB {tg iter elt:Expr} {ifs:List Expr} {pos:Pos} {wi:TI} {g:TG} {tc:TT} {te:TE} (N:List Str) (cap:St→St) (hcalm:X.calm=true) (S:CompScope X scope) (hcap:gA X N scope cap) (hi:PI X tg iter wi)
  (hg:∀C s H pins fp,PG (vJ X N scope C s H pins fp) tg g) (hc:∀C s H pins fp,gD (vJ X N scope C s H pins fp) ifs tc) (he:∀C s H pins fp,PE (vJ X N scope C s H pins fp) elt te)
  (hs:∀x,foldedSetIterable iter X.env x=pure x:=by intro _;rfl):PE X (.ListComp elt [⟨tg,iter,ifs,0⟩] scope pos) (K9 wi cap g tc te):=by
 intro pins s σ H Q I h
 rw [eval_ListComp]
 refine wpAny_comprehension_free (use:=none) rfl hs (pU (gS S I)) S.kind S.names (jN (hi pins s σ H _ I h) fun v s1 h1=>jN h1 fun itv s2 h2=>?_)
 obtain ⟨it,fp,tn,J,H2,e,I2,T,st2,f2,q2⟩:=h2
 subst e
 refine tJ (RR:=fun acc C=>compPost (model X.prog X.w) X.A X.xe none (EP X pins σ Q) acc C) (Q:=fun D H'=>Q (.ref D) H') hcalm S hcap I2 T st2 f2 (fun C=>hg C _ _ _ _) (fun C=>hc C _ _ _ _) (fun C=>he C _ _ _ _) q2 ?_
 intro D C σc H' s' hC Jc q
 obtain ⟨m,hn,_⟩:=Jc.loc
 refine ⟨m,hn,fun h' hs'=>?_⟩
 exact ⟨.ref D,H',tK I2 hC (sA (σ':=σ) I2 f2 Jc) Jc.free hs',rfl,q⟩
theorem QW {tg iter elt:Expr} {ifs:List Expr} {pos spos py:Pos} {i:Nat} {y:Str} {wi:TI} {g:TG} {tc:TT} {te:TE} (N:List Str) (cap:St→St) (hN:X.N.Nodup) (hy:X.N[i]?=some y) (hloc:gG X.env.scope y) (hcalm:X.calm=true) (S:CompScope X scope) (hcap:gA X N scope cap) (hi:PI X tg iter wi)
  (hg:∀C s H pins fp,PG (vJ X N scope C s H pins fp) tg g) (hc:∀C s H pins fp,gD (vJ X N scope C s H pins fp) ifs tc) (he:∀C s H pins fp,PE (vJ X N scope C s H pins fp) elt te)
  (hsw:swapsWith (.ListComp elt [⟨tg,iter,ifs,0⟩] scope pos) (some (.Name y py)) spos.line X.env=pure true:=by rfl)
  (hs:∀x,foldedSetIterable iter X.env x=pure x:=by intro _;rfl) (hfn:X.fn y=true∨X.env.scope.names.lookup y=some .local:=by first|exact .inl rfl|exact .inr rfl|assumption) :
  PS X (.Assign [.Name y py] (.ListComp elt [⟨tg,iter,ifs,0⟩] scope pos) spos) (GK i wi cap g tc te):=by
 intro pins s σ H D I h
 rw [exec_Assign_Name_used _ _ _ _ hsw]
 refine wpAny_bind (wpAny_standAt (wpAny_bind ?_))
 show wpAny _ X.A (do let _ ← comprehension (.ListComp elt [⟨tg,iter,ifs,0⟩] scope pos) scope X.env _ (newList []) false (eval iter X.env) (some (assign (.Name y py) X.env))) _ _ s
 refine wpAny_bind (wpAny_mono (wpAny_comprehension_free (use:=some (assign (.Name y py) X.env)) (Q:=fun _ s'=>SP X pins D .next s') rfl hs (pU (gS S I)) S.kind S.names
  (jN (hi pins s σ H _ I h) fun v s1 h1=>jN h1 fun itv s2 h2=>?_)) (fun _ s' hq=>wpAny_pure (wpAny_pure hq)) fun _ _ e=>e)
 obtain ⟨it,fp,tn,J,H2,e,I2,T,st2,f2,q2⟩:=h2
 subst e
 refine tJ (RR:=fun acc C=>compPost (model X.prog X.w) X.A X.xe (some (assign (.Name y py) X.env)) (fun _ s'=>SP X pins D .next s') acc C) (Q:=fun d H'=>D.nx (σ.set i (some (.ref d))) H') hcalm S hcap I2 T st2 f2 (fun C=>hg C _ _ _ _) (fun C=>hc C _ _ _ _) (fun C=>he C _ _ _ _) q2 ?_
 intro d C σc H' s' hC Jc q
 obtain ⟨m,hn,_⟩:=Jc.loc
 have J1:Inv X pins σ H' s':=sA (σ':=σ) I2 f2 Jc
 show wpAny _ X.A (assign (.Name y py) X.env (.ref d)) _ _ _
 refine wpAny_assign_Name (rM (v:=.ref d) J1 hN hy hloc rfl (fun s'' J2 hsb=>?_) hfn)
 obtain ⟨a,sb,ha⟩:=hsb
 have haC:C≠a:=by
  rcases ha with e|e
  ·rw [e];exact Nat.ne_of_gt (Nat.lt_of_lt_of_le I2.lt hC)
  ·obtain ⟨v,q'⟩:=I2.cell y a e
   exact Nat.ne_of_gt (Nat.lt_of_lt_of_le q'.lt hC)
 refine ⟨m,hn.sameBut sb haC,fun h' hs'=>?_⟩
 exact ⟨_,H',tK I2 hC J2 Jc.free hs',q⟩
end
end L2
namespace L2
open PySem PySem.Spec PyProof.Rows
theorem vS {σ:St} {H:Hp} {Q:Bool→Hp→Prop} (h:Q true H):wQ σ H Q:=h
theorem QU {K:PySem.W.Frag} {a D:Addr} {xs:List V} {g:TG} {tc:TT} {te:TE} {σ₀:St} {H:Hp} {Q:Hp→Prop} (Pv:Nat→St→Hp→Prop) (h0:Pv 0 σ₀ (upd H D (.lst []))) (hl:∀i σ H,i≤xs.length→Pv i σ H→SqL K H a xs)
    (hs:∀i x σ H,xs[i]?=some x→Pv i σ H→g x σ H fun σ2 H3=>tc σ2 H3 fun b H4=>if b=true then te σ2 H4 fun v H5=>∃ys,H5 D=some (.lst ys)∧ys.length<sizeLine∧Pv (i+1) σ2 (upd H5 D (.lst (ys++[v]))) else Pv (i+1) σ2 H4)
    (hd:∀σ H,Pv xs.length σ H→Q H):zY D (ZH K a) g tc te σ₀ H Q:=by
  refine ⟨fun i m σ H=>m=xs.length - i∧i≤xs.length∧Pv i σ H,⟨xs.length,by simp,Nat.zero_le _,h0⟩,?_⟩
  rintro i m σ H ⟨rfl,hi,p⟩
  have q:=hl i σ H hi p
  by_cases hlt:i<xs.length
  · refine .inr ⟨⟨xs,xs[i],q,by simp [hlt]⟩,Pv (i+1),fun σ' H' p'=>⟨xs.length - (i+1),by omega,rfl,hlt,p'⟩,fun x H' y=>?_⟩
    obtain ⟨e,y⟩:=y
    subst e
    exact hs i x σ _ (y xs q) p
  · have e:i=xs.length:=by omega
    subst e
    exact .inl ⟨⟨xs,q,Nat.le_refl _⟩,hd σ H p⟩
theorem DS {lo:Int} {n:Nat} {D:Addr} {g:TG} {tc:TT} {te:TE} {σ₀:St} {H:Hp} {Q:Hp→Prop} (Pv:Nat→St→Hp→Prop) (h0:Pv 0 σ₀ (upd H D (.lst [])))
  (hs:∀i σ H,i<n→Pv i σ H→g (.int (lo+i)) σ H fun σ2 H3=>tc σ2 H3 fun b H4=>if b=true then te σ2 H4 fun v H5=>∃ys,H5 D=some (.lst ys)∧ys.length<sizeLine∧Pv (i+1) σ2 (upd H5 D (.lst (ys++[v]))) else Pv (i+1) σ2 H4)
  (hd:∀σ H,Pv n σ H→Q H):zY D (QF lo n) g tc te σ₀ H Q:=by
 refine ⟨fun i m σ H=>m=n - i∧i≤n∧Pv i σ H,⟨n,by simp,Nat.zero_le _,h0⟩,?_⟩
 rintro i m σ H ⟨rfl,hi,p⟩
 by_cases hlt:i<n
 ·refine .inr ⟨hlt,Pv (i+1),fun σ' H' p'=>⟨n - (i+1),by omega,rfl,hlt,p'⟩,fun x H' y=>?_⟩
  obtain ⟨e,y⟩:=y
  subst e y
  exact hs i σ _ hlt p
 ·have e:i=n:=by omega
  subst e
  exact .inl ⟨Nat.le_refl _,hd σ H p⟩
theorem qC {H H':Hp} {D:Addr} {o:HO} (hD:H D=none) (s:Same H H'):Same H (upd H' D o):=fun b u q=>by
 rw [j4 (qF q hD)]
 exact s b u q
def JK (H:Hp) (D:Addr) (caps:St) (R:Nat→List V→Hp→Prop) (i:Nat) (σ:St) (Hi:Hp):Prop:=∃ys c,σ=c::caps∧Same H Hi∧Hi D=some (.lst ys)∧ys.length≤i∧R i ys Hi
theorem y8 {H Hi H5:Hp} {D:Addr} {caps:St} {R:Nat→List V→Hp→Prop} {i:Nat} {ys:List V} {c:Option V} {v:V} (hD:H D=none) (s:Same H Hi) (hY:Hi D=some (.lst ys)) (hl:ys.length≤i) (hi:i≤999) (s5:Same Hi H5)
  (r:R (i+1) (ys++[v]) (upd H5 D (.lst (ys++[v])))):∃zs,H5 D=some (.lst zs)∧zs.length<sizeLine∧JK H D caps R (i+1) (c::caps) (upd H5 D (.lst (zs++[v]))):=by
 refine ⟨ys,s5 _ _ hY,qP (by omega),ys++[v],c,rfl,qC hD (s.trans s5),jF,?_,r⟩
 rw [List.length_append,List.length_singleton];omega
theorem mV {H Hi H4:Hp} {D:Addr} {caps:St} {R:Nat→List V→Hp→Prop} {i:Nat} {ys:List V} {c:Option V} (s:Same H Hi) (hY:Hi D=some (.lst ys)) (hl:ys.length≤i) (s4:Same Hi H4) (r:R (i+1) ys H4) :
  JK H D caps R (i+1) (c::caps) H4:=⟨ys,c,rfl,s.trans s4,s4 _ _ hY,by omega,r⟩
theorem ZI {K:PySem.W.Frag} {a D:Addr} {xs:List V} {tc:TT} {te:TE} {caps:St} {H:Hp} {Q:Hp→Prop} (R:Nat→List V→Hp→Prop) (hD:H D=none) (hS:SqL K H a xs) (h0:R 0 [] (upd H D (.lst [])))
  (hs:∀i x ys Hi,xs[i]?=some x→i<xs.length→ys.length≤i→Same H Hi→Hi D=some (.lst ys)→R i ys Hi→tc (some x::caps) Hi fun b H4=>if b=true then te (some x::caps) H4 fun v H5=>∃zs,H5 D=some (.lst zs)∧zs.length<sizeLine∧JK H D caps R (i+1) (some x::caps) (upd H5 D (.lst (zs++[v])))
   else JK H D caps R (i+1) (some x::caps) H4)
  (hd:∀ys Hf,Same H Hf→Hf D=some (.lst ys)→ys.length≤xs.length→R xs.length ys Hf→Q Hf):zY D (ZH K a) (iU 0) tc te (none::caps) H Q:=by
 refine QU (xs:=xs) (JK H D caps R) ⟨[],none,rfl,qC hD (Same.refl H),jF,Nat.le_refl _,h0⟩ (fun i σ Hi _ ⟨_,_,_,s,_⟩=>s.seq hS) ?_ ?_
 ·rintro i x σ Hi hx ⟨ys,c,rfl,s,hY,hl,r⟩
  exact hs i x ys Hi hx (List.getElem?_eq_some_iff.mp hx).1 hl s hY r
 ·rintro σ Hf ⟨ys,c,rfl,s,hY,hl,r⟩
  exact hd ys Hf s hY hl r
theorem dE {lo:Int} {n:Nat} {D:Addr} {tc:TT} {te:TE} {caps:St} {H:Hp} {Q:Hp→Prop} (R:Nat→List V→Hp→Prop) (hD:H D=none) (h0:R 0 [] (upd H D (.lst [])))
  (hs:∀i ys Hi,i<n→ys.length≤i→Same H Hi→Hi D=some (.lst ys)→R i ys Hi→tc (some (.int (lo+i))::caps) Hi fun b H4=>if b=true then te (some (.int (lo+i))::caps) H4 fun v H5=>∃zs,H5 D=some (.lst zs)∧zs.length<sizeLine∧JK H D caps R (i+1) (some (.int (lo+i))::caps) (upd H5 D (.lst (zs++[v])))
   else JK H D caps R (i+1) (some (.int (lo+i))::caps) H4)
  (hd:∀ys Hf,Same H Hf→Hf D=some (.lst ys)→ys.length≤n→R n ys Hf→Q Hf):zY D (QF lo n) (iU 0) tc te (none::caps) H Q:=by
 refine DS (JK H D caps R) ⟨[],none,rfl,qC hD (Same.refl H),jF,Nat.le_refl _,h0⟩ ?_ ?_
 ·rintro i σ Hi hi ⟨ys,c,rfl,s,hY,hl,r⟩
  exact hs i ys Hi hi hl s hY r
 ·rintro σ Hf ⟨ys,c,rfl,s,hY,hl,r⟩
  exact hd ys Hf s hY hl r
section
variable {X:Cx}
end
def eX (xs ys:List V):Bool:=(List.range (min xs.length ys.length)).all (fun j=>vF (xs.getD j .non) (ys.getD j .non))&&xs.length == ys.length
theorem HA {x:V} (h:vL x=true):vF x x=true:=by
 cases x with
 |non=>rfl
 |bl b=>show (b == b)=true;simp
 |int i=>show (i == i)=true;simp
 |str z=>show (z == z)=true;simp
 |_=>exact absurd (show false=true from h) Bool.false_ne_true
theorem G6 {xs:List V} (h:xs.all vL=true):eX xs xs=true:=by
 unfold eX
 rw [Bool.and_eq_true]
 refine ⟨?_,by simp⟩
 rw [List.all_eq_true]
 intro j hj
 have hj':j<xs.length:=by simpa using hj
 refine HA ?_
 rw [List.getD_eq_getElem?_getD,List.getElem?_eq_getElem hj']
 exact List.all_eq_true.mp h _ (List.getElem_mem hj')
theorem mJ {xs:List V} {us:List Value} (r:Vals xs us) {j:Nat} (h:j<us.toArray.size):RelV (xs.getD j .non) us.toArray[j]:=by
 have hj:j<us.length:=by simpa using h
 have hx:j<xs.length:=by rw [r.length];exact hj
 obtain ⟨u,e,q⟩:=r.get (List.getElem?_eq_getElem hx)
 rw [List.getElem?_eq_getElem hj] at e
 have e':=Option.some.inj e
 rw [List.getD_eq_getElem?_getD,List.getElem?_eq_getElem hx]
 show RelV xs[j] us.toArray[j]
 rw [List.getElem_toArray,e']
 exact q
theorem mT {xs:List V} (h:xs.all vL=true) {j:Nat} (hj:j<xs.length):vL (xs.getD j .non)=true:=by
 rw [List.getD_eq_getElem?_getD,List.getElem?_eq_getElem hj]
 exact List.all_eq_true.mp h _ (List.getElem_mem hj)
section
variable {X:Cx}
def MB (K:PySem.W.Frag) (neg:Bool):R2:=fun x y H Q=>∃a b xs ys,x=.ref a∧y=.ref b∧SqT K H a xs∧SqT K H b ys∧xs.all vL=true∧ys.all vL=true∧Q (.bl (if neg then !eX xs ys else eX xs ys)) H
theorem uX (hu:X.A.units<cLine):q0 X (compareOp .NotEq) (MB X.K true):=by
 intro pins s σ H x y v u Q I rx ry h
 obtain ⟨a,b,xs,ys,rfl,rfl,ha,hb,fx,fy,q⟩:=h
 cases rx
 cases ry
 obtain ⟨its,r,pl,hz⟩:=I.tuple ha
 obtain ⟨its2,r2,pl2,hz2⟩:=I.tuple hb
 have hl:=r.length
 have hl2:=r2.length
 refine SeqAt.RcNeAt.tuples (e:=fun j=>vF (xs.getD j .non) (ys.getD j .non)) pl pl2 hu (fun j h1 h2=>?_) X.prog X.w X.xe _ ⟨.bl _,H,I,rfl,?_⟩
 ·exact u6 (mJ r h1) (mJ r2 h2) (mT fx (by rw [hl];simpa using h1)) (mT fy (by rw [hl2];simpa using h2))
 ·have e:(!((List.range (min its.toArray.size its2.toArray.size)).all (fun j=>vF (xs.getD j .non) (ys.getD j .non))&&its.toArray.size == its2.toArray.size)) = !eX xs ys:=by
   unfold eX
   rw [List.size_toArray,List.size_toArray,← hl,← hl2]
  rw [e]
  exact q
end
end L2
namespace L2
open PySem PySem.Spec PyProof.Rows
section
variable {X:Cx}
end
end L2
namespace L2
open PySem PySem.Spec PyProof.Rows
section
variable {X:Cx} (K:PySem.W.Frag)
theorem dL (h:X.K=K:=by rfl):IxR X (iW K):=by subst h;exact kA
theorem zW (h:X.K=K:=by rfl):IxR X (o3 K):=by subst h;exact ix_tup
theorem pV (h:X.K=K:=by rfl):yZ X (.builtin "len") (fun xs H Q=>∃p ys,xs=[.ref p]∧(SqL K H p ys∨SqT K H p ys)∧Q (.int ys.length) H):=by subst h;exact qQ
theorem zV {es:List Expr} {k:Nat} {t:QE} {n:Nat} {pos:Pos} (hc:X.calm=true) (h:gE X es t) (hK:X.K=K:=by rfl)
  (hn:(assignEach es X.env).length=n:=by rfl) (hst:(assignEach es X.env).findIdx? (·.1)=none:=by rfl):PG X (.Tuple es k pos) (w5 K n t):=by subst hK;exact iJ hc h hn hst
end
end L2
namespace L2
open PySem PySem.Spec PyProof.Rows
section
variable {X:Cx}
end
end L2
namespace L2
open PySem PySem.Spec PyProof.Rows
section
variable {X:Cx}
def L7 (t u:TS):TS:=fun D σ H=>∃P:St→Hp→Prop,t {D with nx:=P} σ H∧∀σ' H',P σ' H'→u D σ' H'
theorem t4 {st:Stmt} {rest:List Stmt} {t u:TS} (h1:PS X st t) (h2:PSs X rest u):PSs X (st::rest) (L7 t u):=by
 intro pins s σ H D I h
 obtain ⟨P,hP,hu⟩:=h
 refine wpAny_execs_cons (jN (h1 pins s σ H {D with nx:=P} I hP) fun f s1 q=>?_)
 cases f with
 |next =>
  obtain ⟨σ',H',I',q⟩:=q
  exact h2 pins s1 σ' H' D I' (hu σ' H' q)
 |ret v=>exact q
 |brk=>exact q
 |cont=>exact q
theorem FJ:q0 X (compareOp .IsNot) (fun x y H Q=>∃c d,x=.bl c∧y=.bl d∧Q (.bl (c != d)) H):=by
 intro pins s σ H x y v u Q I rx ry h
 obtain ⟨c,d,rfl,rfl,q⟩:=h
 cases rx
 cases ry
 exact isnot_bool ⟨.bl _,H,I,rfl,q⟩
end
end L2
namespace L2
open PySem PySem.Spec PyProof.Rows
structure Def (P:Program) (w:World) (K:PySem.W.Frag) (mg:Str→Option Value) (base:Heap) (k:Nat) (x:Str) (ps:List Str) (dvs:List V) (sp:Sp):Prop where
 ex:∃(f:Addr) (fd:FuncData) (ds:List Value),FnOk P w K mg base jW k f fd ps sp∧mg x=some (.ref f)∧PySem.W.keepIn K (.ref f)=true∧Vals dvs ds∧Binds K fd ps ds
theorem jM {X:Cx} {k k':Nat} {x:Str} {ps:List Str} {dvs:List V} {sp:Sp} {p pos:Pos} {e:Expr} {es:List Expr} {t:TA} (F:Def X.prog X.w X.K X.mg X.base k x ps dvs sp) (hr:Room k' X.A) (hg:Gl X x) (ha:PA X (e::es) t)
  (hk:k≤k':=by decide) (hdb:(x == ("__debug__":Str))=false:=by decide) (he:starEach (e::es) X.env=(false,eval e X.env)::starEach es X.env:=by rfl) (hpl:(backTo pos (starEach es X.env)).any (·.1)=false:=by rfl) :
  PE X (.Call (.Name x p) (e::es) [] pos) (oO sp dvs E0 t):=by
 obtain ⟨f,fd,ds,G,m,kp,hv,b⟩:=F.ex
 exact HV G (hr.mono hk) hg m kp b hv Q8 ha hdb he hpl
structure FunD (K:PySem.W.Frag) (x qual:Str) (st:Stmt) (f:Addr) (fd:FuncData) (ds:List Value):Prop where
 ex:∃(oc:Value) (od:Option Addr) (T:Addr) (kV doc pm:Value) (an:Option Addr) (cdv ct:Value) (osl:Array (Option Value)) (oT:Obj) (n:Nat),
  fd=PySem.W.fnOf x qual (jP st) (jO st) (jE st) (.ref T) kV doc pm an cdv ct∧K.lookup f=some ⟨oc,od,.func fd,osl⟩∧PySem.W.codeIn K cdv qual=true∧K.lookup T=some oT∧oT.data=.seq ds.toArray n
 kp:PySem.W.keepIn K (.ref f)=true
section
variable {P:Program} {w:World} {K:PySem.W.Frag} {mg:Str→Option Value} {base:Heap}
theorem FunD.ok {x qual:Str} {st:Stmt} {f:Addr} {fd:FuncData} {ds:List Value} {N ps:List Str} {k:Nat} {sp:Sp} (F:FunD K x qual st f fd ds) (S:FnScope N ps (jE st)) (len:∀vs H Q E,sp vs H Q E→vs.length=ps.length)
  (hbody:∀(cdv:Value) (A:Around) (outer:List Env) (s:Shared) (H:Hp) (vs:List V) (Q:VK) (E:XK),Room k (A.deeper (envOfC qual (jE st) s.heap.objs.size f cdv))→sp vs H Q E→
   ∃t,PSs (v8 jW P w K mg base N qual (jE st) f cdv A outer s H E).nox (jO st) t∧t {nx:=fun _ H'=>Q .non H',rt:=Q} (start N vs) H):FnOk P w K mg base jW (k+1) f fd ps sp:=by
 obtain ⟨oc,od,T,kV,doc,pm,an,cdv,ct,osl,oT,n,rfl,lk,hcd,_,_⟩:=F.ex
 refine oX lk hcd S len fun A outer s H vs Q E hr hsp=>?_
 obtain ⟨t,h,q⟩:=hbody cdv A outer s H vs Q E hr hsp
 exact ⟨t,h.nox,q⟩
theorem FunD.binds {x qual:Str} {st:Stmt} {f:Addr} {fd:FuncData} {ds:List Value} {ps:List Str} (ds':List Value) (m:Nat) (hm:m+ds'.length=ps.length) (F:FunD K x qual st f fd ds)
  (h:∀(T:Addr) (kV doc pm:Value) (an:Option Addr) (cdv ct:Value) (us:List Value),us.length=m→∃k,bindArgs (PySem.W.fnOf x qual (jP st) (jO st) (jE st) (.ref T) kV doc pm an cdv ct) ⟨us,[]⟩=seqItems? (.ref T) >>= k∧
   k (some ds.toArray)=pure (ps.zip (us++ds'))):Binds K fd ps ds':=by
 obtain ⟨oc,od,T,kV,doc,pm,an,cdv,ct,osl,oT,n,rfl,lk,hcd,lT,dT⟩:=F.ex
 intro s us hK hl
 obtain ⟨k,h1,h2⟩:=h T kV doc pm an cdv ct us (by rw [List.length_append] at hl;omega)
 exact BindsTo.of_defaults rfl (hK _ _ lT) dT h1 h2
theorem IH {x qual:Str} {st:Stmt} {f T:Addr} {oc:Value} {od an:Option Addr} {osl:Array (Option Value)} {kV doc pm cdv ct:Value} {oT:Obj} {n:Nat} {ds:List Value}
  (l:K.lookup f=some ⟨oc,od,.func (PySem.W.fnOf x qual (jP st) (jO st) (jE st) (.ref T) kV doc pm an cdv ct),osl⟩)
  (c:PySem.W.codeIn K cdv qual=true) (k:PySem.W.keepIn K (.ref f)=true) (lT:K.lookup T=some oT) (dT:oT.data=.seq ds.toArray n):FunD K x qual st f (PySem.W.fnOf x qual (jP st) (jO st) (jE st) (.ref T) kV doc pm an cdv ct) ds :=
 ⟨⟨oc,od,T,kV,doc,pm,an,cdv,ct,osl,oT,n,rfl,l,c,lT,dT⟩,k⟩
end
section
variable {X:Cx}
theorem nF:w6 X (iW X.K):=by
 intro pins s σ H o i ov iv Q I ro ri h
 obtain ⟨p,xs,k,z,rfl,rfl,hq,he,q⟩:=h
 cases ro
 obtain ⟨t,rfl⟩:=ri
 obtain ⟨its,r,pl,hz⟩:=I.list hq
 obtain ⟨j,h1,h2,h3,h4,h5⟩:=iH he
 obtain ⟨w,ew,rw'⟩:=r.get h2
 have hl:=r.length
 have hn:=eB
 have fin:EP X pins σ Q w s:=⟨z,H,I,rw',q⟩
 by_cases h0:0≤k
 ·have hj:k.toNat=j:=by
   rw [seqIndex_of h0 h5] at h1
   exact Option.some.inj h1
  exact wpAny_getItem_list pl.isList h0 (by omega) (by rw [hj];simpa using ew) fin
 ·have hj:(k+(its.toArray.size:Int)).toNat=j:=by
   rw [seqIndex_neg (by omega) h4] at h1
   rw [List.size_toArray,← hl]
   exact Option.some.inj h1
  exact wpAny_getItem_list_neg pl.isList (by omega) (by rw [List.size_toArray]<;>omega) (by omega) (by rw [hj];simpa using ew) fin
end
end L2
namespace L2
open PySem
theorem z0 {c A B:Prop} [Decidable c] (hc:¬c) (h:A):if (!decide c)=true then A else B:=by
 rw [decide_eq_false hc]
 exact kU h
theorem kB {c A B:Prop} [Decidable c] (hc:¬c) (h:B):if decide c=true then A else B:=by
 rw [decide_eq_false hc]
 exact qI h
theorem kT {c A B:Prop} [Decidable c] (hc:c) (h:A):if decide c=true then A else B:=by
 rw [decide_eq_true hc]
 exact kU h
end L2
namespace L2
open PySem PySem.Spec PyProof.Rows
end L2
namespace L2
open PySem PySem.Spec PyProof.Rows
structure MkD (P:Program) (w:World) (K:PySem.W.Frag) (mg:Str→Option Value) (base:Heap) (k:Nat) (x:Str) (C:Addr) (ps:List Str) (sp:Sp):Prop where
 ex:mg x=some (.ref C)∧∃(f:Addr) (fd:FuncData),Mk K C f∧FnOk P w K mg base jW k f fd ps sp∧Binds K fd ps []
structure MeD (P:Program) (w:World) (K:PySem.W.Frag) (mg:Str→Option Value) (base:Heap) (k:Nat) (C:Addr) (m:Str) (ps:List Str) (sp:Sp):Prop where
 ex:Cls K C∧∃(f:Addr) (fd:FuncData),Meth K C m f∧FnOk P w K mg base jW k f fd ps sp∧Binds K fd ps []
section
variable {X:Cx} {k k':Nat} {x m:Str} {C:Addr} {ps:List Str} {sp:Sp} {p pos apos:Pos} {o e:Expr} {es:List Expr} {ta:TE} {t:TA}
theorem eI (M:MkD X.prog X.w X.K X.mg X.base k x C ps sp) (hr:Room k' X.A) (hg:Gl X x) (ha:PA X (e::es) t)
  (hk:k+1≤k':=by decide) (hdb:(x == ("__debug__":Str))=false:=by decide) (he:starEach (e::es) X.env=(false,eval e X.env)::starEach es X.env:=by rfl) (hpl:(backTo pos (starEach es X.env)).any (·.1)=false:=by rfl) :
  PE X (.Call (.Name x p) (e::es) [] pos) (wH C sp [] E0 t):=by
 obtain ⟨hm,f,fd,M,G,b⟩:=M.ex
 exact HS M G (hr.mono hk) hg hm b .nil Q8 ha hdb he hpl
theorem yP {pl:Sem Bool} (M:MeD X.prog X.w X.K X.mg X.base k C m ps sp) (hr:Room k' X.A) (ho:PE X o ta) (ha:PA X (e::es) t) (hk:k≤k':=by decide)
  (hst:starEach (e::es) X.env=(false,eval e X.env)::starEach es X.env:=by rfl) (hpl:(backTo pos (starEach es X.env)).any (·.1)=false:=by rfl)
  (ht:eval (.Call (.Attribute o m apos) (e::es) [] pos) X.env=(do
   let ov ← eval o X.env
   standAt apos.atName
   let (f,first) ← holding [ov] (getMethod ov m pl)
   callWith pos f first (backTo pos (starEach (e::es) X.env)) (backToKw pos (keywordEach [] X.env))):=by rfl) :
  PE X (.Call (.Attribute o m apos) (e::es) [] pos) (iO C m sp [] E0 ta t):=by
 obtain ⟨c,f,fd,M,G,b⟩:=M.ex
 exact HR (pl:=pl) ho c M G (hr.mono hk) b .nil Q8 ha hst hpl ht
theorem J9 {pl:Sem Bool} (M:MeD X.prog X.w X.K X.mg X.base k C m ps sp) (hr:Room k' X.A) (ho:PE X o ta) (hk:k≤k':=by decide)
  (ht:eval (.Call (.Attribute o m apos) [] [] pos) X.env=(do
   let ov ← eval o X.env
   standAt apos.atName
   let (f,first) ← holding [ov] (getMethod ov m pl)
   callWith pos f first (backTo pos (starEach [] X.env)) (backToKw pos (keywordEach [] X.env))):=by rfl) :
  PE X (.Call (.Attribute o m apos) [] [] pos) (iO C m sp [] E0 ta fX):=by
 obtain ⟨c,f,fd,M,G,b⟩:=M.ex
 exact GS (pl:=pl) ho c M G (hr.mono hk) b .nil Q8 ht
end
end L2
namespace L2
open PySem PySem.Spec PyProof.Rows
structure ClsM (K:PySem.W.Frag) (C:Addr) (m:Str) (f:Addr):Prop where
 sp:PySem.W.specialIn K (.ref C) "__getattribute__"=some (some (.builtin "type.__getattribute__"))
 rd:PySem.W.readsIn K C (.type "type")=true
 fc:PySem.W.findCls K (.ref C) (.type "type") m=some (.val (.ref f))
 kp:PySem.W.keepIn K (.ref f)=true
structure CmD (P:Program) (w:World) (K:PySem.W.Frag) (mg:Str→Option Value) (base:Heap) (k:Nat) (x:Str) (C:Addr) (m:Str) (ps:List Str) (sp:Sp):Prop where
 ex:mg x=some (.ref C)∧∃(f:Addr) (fd:FuncData),ClsM K C m f∧FnOk P w K mg base jW k f fd ps sp∧Binds K fd ps []
theorem uA {X:Cx} {k k':Nat} {x m:Str} {C:Addr} {ps:List Str} {sp:Sp} {p pos apos:Pos} {e:Expr} {es:List Expr} {t:TA} {pl:Sem Bool} (M:CmD X.prog X.w X.K X.mg X.base k x C m ps sp) (hr:Room k' X.A) (hg:Gl X x) (ha:PA X (e::es) t) (hk:k≤k':=by decide)
  (hdb:(x == ("__debug__":Str))=false:=by decide) (hst:starEach (e::es) X.env=(false,eval e X.env)::starEach es X.env:=by rfl) (hpl:(backTo pos (starEach es X.env)).any (·.1)=false:=by rfl)
  (ht:eval (.Call (.Attribute (.Name x p) m apos) (e::es) [] pos) X.env=(do
   let ov ← eval (.Name x p) X.env
   standAt apos.atName
   let (f,first) ← holding [ov] (getMethod ov m pl)
   callWith pos f first (backTo pos (starEach (e::es) X.env)) (backToKw pos (keywordEach [] X.env))):=by rfl) :
  PE X (.Call (.Attribute (.Name x p) m apos) (e::es) [] pos) (oO sp [] E0 t):=by
 obtain ⟨hm,f,fd,c,G,b⟩:=M.ex
 intro pins s σ H Q I h
 refine PySem.W.methodCall_KW (pl:=pl) (jN ((vQ (v:=.ref C) hg hm rfl hdb:PE X (.Name x p) (tC (.ref C))) pins s σ H (fun v H1=>v=.ref C∧H1=H) I ⟨rfl,rfl⟩) fun u s1 ⟨v,H1,I1,rv,e1,e2⟩=>?_) ht
 subst e1 e2
 obtain rfl:u=Value.ref C:=rv
 refine PySem.W.method_cls I1.kIn c.sp (PySem.W.cls_value I1.kIn c.rd c.fc rfl ?_)
 have I2:=I1.tok (s1.toks+1)
 refine PySem.W.callWith_K (first:=[]) (h₀:=X.base) I.ok.mod.kin c.kp (jN (ha pos pins _ σ H1 _ I2 h) fun us s2 ⟨vs,H2,I3,r,q2⟩=>⟨I3.kIn,?_⟩) hst hpl
 exact dS (us:=us) (vs:=vs) G (hr.mono hk) b .nil Q8 I3 r q2
end L2
namespace L2
open PySem PySem.Spec PyProof.Rows
section
variable {X:Cx}
theorem DR {ns:List Int} {its:List Value} (rv:Vals (ns.map V.int) its) {i:Nat} {v:Value} (h:its.toArray[i]?=some v):∃t,v=Value.int (ns.getD i 0) t:=by
 have h':its[i]?=some v:=by simpa using h
 have hi:i<its.length:=(List.getElem?_eq_some_iff.mp h').1
 have hn:i<ns.length:=by have:=rv.length;rw [List.length_map] at this;omega
 obtain ⟨u,e,q⟩:=rv.get (x:=V.int (ns.getD i 0)) (i:=i) (by rw [List.getElem?_map,List.getElem?_eq_getElem hn,List.getD_eq_getElem?_getD,List.getElem?_eq_getElem hn];rfl)
 rw [h'] at e
 cases e
 exact q
theorem sB (hc:X.calm=true):yZ X (.builtin "sum") (fun xs H Q=>∃(p:Addr) (ns:List Int),xs=[.ref p]∧SqL X.K H p (ns.map V.int)∧Q (.int ns.sum) H):=by
 intro pins s σ H xs us Q I r h
 obtain ⟨p,ns,rfl,hq,q⟩:=h
 obtain ⟨u,rfl,rx⟩:=Q6 r
 cases rx
 obtain ⟨its,rv,pl,hz⟩:=I.list hq
 have hlen:=rv.length
 rw [List.length_map] at hlen
 have hp:p<s.heap.objs.size:=by obtain ⟨o,n,e,_⟩:=pl;exact Heap.lt_size e
 refine call_sum_walkAnyS (wpAny_pyIter_list pl.isList ?_)
 refine ⟨s.heap.objs.size,_,_,_,_,_,_,fun i=>ns.getD i 0,rfl,(Walks.list (A:=X.A.in1) (I.ok.hd hc) s.heap.objs.size p (Nat.ne_of_lt hp) its.toArray).toS,⟨⟨_,Heap.get?_push_size _ rfl,rfl,rfl⟩,pl.isList.at fun o e=>Heap.get?_push_of_some _ e⟩,fun b hb=>?_,fun i v h=>DR rv h,fun s' t' m=>?_⟩
 ·rw [Heap.size_push]
  rcases List.mem_cons.mp hb with e|e
  ·rw [e];exact Nat.lt_succ_self _
  ·have e':b=p:=by simpa using e
   rw [e'];exact Nat.lt_succ_of_lt hp
 ·obtain ⟨hh,g,d,t,os⟩:=s'
  obtain ⟨m1,m2,m3,m4,m5⟩:=m
  have m2':g=s.gens:=m2
  have m3':d=s.drawn:=m3
  have m4':os=s.os:=m4
  subst m2' m3' m4'
  have e:preSum (fun i=>ns.getD i 0) its.toArray.size=ns.sum:=by rw [preSum_getD,List.size_toArray,← hlen,List.take_length]
  rw [e]
  refine ⟨.int ns.sum,H,I.kept (t':=t) fun b o e=>m1 b o (fun hb=>?_) (Heap.get?_push_of_some _ e),⟨_,rfl⟩,q⟩
  have e':b=s.heap.objs.size:=by simpa using hb
  exact absurd (Heap.lt_size e) (by rw [e'];exact Nat.lt_irrefl _)
end
end L2
namespace L2
open PySem PySem.Spec PyProof.Rows
def o7 (p:Addr) (a b c:Int):HO:=.ext fun h=>∃t u v,IsRange h p a b c t u v
section
variable {X:Cx}
theorem EC:yZ X (.type "range") (fun xs H Q=>∃a b c:Int,xs=[.int a,.int b,.int c]∧c≠0∧c.natAbs<1073741824∧∀p,H p=none→Q (.ref p) (upd H p (o7 p a b c))):=by
 intro pins s σ H xs us Q I r h
 obtain ⟨a,b,c,rfl,hc,hs,q⟩:=h
 cases r with
 |cons r1 r2 =>
  cases r2 with
  |cons r3 r4 =>
   cases r4 with
   |cons r5 r6 =>
    cases r6
    obtain ⟨t,rfl⟩:=r1
    obtain ⟨u,rfl⟩:=r3
    obtain ⟨v,rfl⟩:=r5
    refine call_range_3 hc ?_ (.inl (PyProof.noPylong_small hs))
    refine ⟨.ref s.heap.objs.size,_,I.laid (t':=s.toks) (o:=o7 s.heap.objs.size a b c) (fun b o e=>Heap.get?_push_of_some _ e) (Nat.le_refl _) ?_,rfl,q _ (I.hok.fresh (Nat.le_refl _))⟩
    exact ⟨⟨t,u,v,Heap.get?_push_size _ rfl⟩,⟨_,Heap.get?_push_size _ rfl⟩,fun h1 h2 ⟨t,u,v,e⟩ k=>⟨t,u,v,k _ e⟩⟩
theorem pR {f:Nat→Int}:∀{n:Nat} {acc:List Value},acc.length=n→(∀i v,acc[i]?=some v→∃t,v=Value.int (f i) t)→Vals ((List.range n).map fun (i:Nat)=>V.int (f i)) acc
 |0,acc,hl,h=>by
  cases acc with
  |nil=>exact .nil
  |cons x r=>cases hl
 |n+1,acc,hl,h=>by
  obtain ⟨init,last,rfl⟩:∃init last,acc=init++[last]:=by
   have hne:acc≠[]:=by intro e;rw [e] at hl;cases hl
   exact ⟨acc.dropLast,acc.getLast hne,(List.dropLast_concat_getLast hne).symm⟩
  rw [List.length_append,List.length_singleton] at hl
  have hi:init.length=n:=by omega
  rw [List.range_succ,List.map_append]
  refine Vals.append (pR hi fun i v e=>h i v ?_) (.cons ?_ .nil)
  ·rw [List.getElem?_append_left (List.getElem?_eq_some_iff.mp e).1]
   exact e
  ·exact h n last (by rw [List.getElem?_append_right (by omega),hi,Nat.sub_self];rfl)
theorem DN (hc:X.calm=true):yZ X (.type "list") (fun xs H Q=>∃(p:Addr) (a b c:Int) (n:Nat),xs=[.ref p]∧H p=some (o7 p a b c)∧Builtin.Range.small a b c=true∧Builtin.Range.rangeSize a b c=n∧n≤1000∧
  ∀l,H l=none→Q (.ref l) (upd H l (.lst ((List.range n).map fun (i:Nat)=>V.int (a+(i:Int)*c))))):=by
 intro pins s σ H xs us Q I r h
 obtain ⟨p,a,b,c,n,rfl,hp,hsm,hn,hz,q⟩:=h
 obtain ⟨u,rfl,rx⟩:=Q6 r
 cases rx
 obtain ⟨⟨t,u,v,e⟩,_,_⟩:=I.hok p _ hp
 refine call_list_range (I.ok.hd hc) e hsm hn (by omega) fun h' tk acc' c' hk hS' hacc=>?_
 have hl:acc'.toList.length=n:=by have:=hacc.1;simpa using this
 refine ⟨.ref s.heap.objs.size,_,I.laid (t':=tk) (o:=.lst ((List.range n).map fun (i:Nat)=>V.int (a+(i:Int)*c))) hk (Nat.le_refl _) ?_,rfl,q _ (I.hok.fresh (Nat.le_refl _))⟩
 refine ⟨by rw [List.length_map,List.length_range];exact Nat.le_of_lt (qP hz),acc'.toList,c',pR hl fun i v e=>hacc.2 i v (by simpa using e),by simpa using hS'⟩
end
end L2
namespace L2
open PySem PySem.Spec PyProof.Rows
def yN (n:Nat):List Nat:=(List.range n).reverse
theorem EU (n:Nat):((List.range n).map fun (i:Nat)=>V.int (((n:Int) - 1)+(i:Int) * -1))=(yN n).map fun (i:Nat)=>V.int (i:Int):=by
 apply List.ext_getElem?
 intro k
 unfold yN
 rw [List.getElem?_map,List.getElem?_map]
 by_cases hk:k<n
 ·rw [List.getElem?_range hk,List.getElem?_reverse (by simpa using hk),List.length_range,List.getElem?_range (by omega)]
  show some (V.int ((n:Int) - 1+(k:Int) * -1))=some (V.int ((n - 1 - k:Nat):Int))
  congr 2
  omega
 ·rw [List.getElem?_eq_none (by simp;omega),List.getElem?_eq_none (by simp;omega)]
  rfl
theorem r9 (n:Nat):Builtin.Range.rangeSize ((n:Int) - 1) (-1) (-1)=n:=by
 unfold Builtin.Range.rangeSize
 rw [if_neg (by decide)]
 by_cases h:(n:Int) - 1 > -1
 ·rw [if_pos h]
  have e:((n:Int) - 1 - -1 - 1) / (- (-1:Int))=(n:Int) - 1:=by
   have e1:(-(-1:Int))=1:=rfl
   rw [e1,Int.ediv_one]
   omega
  rw [e]
  omega
 ·rw [if_neg h]
  omega
theorem EV {n:Nat} (h:n≤1000):Builtin.Range.small ((n:Int) - 1) (-1) (-1)=true:=by
 unfold Builtin.Range.small
 rw [r9]
 simp only [Builtin.Range.rangeFitsLong,Bool.and_eq_true,Bool.or_eq_true,decide_eq_true_eq,beq_iff_eq]
 simp
 omega
end L2
namespace L2
open PySem PySem.Spec PyProof.Rows
section
variable {P:Program} {w:World} {H:Hp} {h h':Heap} {a:Addr} {o:HO}
theorem ObjOk.there (x:ObjOk P w H h a o):∃u,h.get? a=some u:=by
 cases o with
 |lst xs=>obtain ⟨_,_,_,_,e⟩:=x;exact ⟨_,e⟩
 |tup xs=>obtain ⟨_,_,_,o,e,_⟩:=x;exact ⟨_,e⟩
 |dK kvs=>obtain ⟨_,_,_,_,o,_,_,e,_⟩:=x;exact ⟨_,e⟩
 |dT kvs=>obtain ⟨_,_,_,_,o,_,_,e,_⟩:=x;exact ⟨_,e⟩
 |set S n=>obtain ⟨o,_,_,_,e,_⟩:=x;exact ⟨_,e⟩
 |ins C dx fs=>obtain ⟨_,_,_,e,_⟩:=x;exact ⟨_,e⟩
 |own y=>obtain ⟨_,e⟩:=x;exact ⟨_,e⟩
 |xd fs=>obtain ⟨_,⟨_,_,_,e,_⟩,_⟩:=x;exact ⟨_,e⟩
 |rng lo hi=>obtain ⟨_,_,_,e⟩:=x;exact ⟨_,e⟩
 |frz ob u=>obtain ⟨e,_⟩:=x;exact ⟨_,e⟩
 |tbl ps=>exact ⟨_,(show h.get? a=some _ from x)⟩
 |met f y=>exact ⟨_,(show h.get? a=some _ from x)⟩
 |ext φ=>obtain ⟨_,e,_⟩:=x;exact e
theorem HOk.there (x:HOk P w H h) (e:H a=some o):∃u,h.get? a=some u:=(x a o e).there
theorem HOk.keepT (x:HOk P w H h) (k:∀b u,H b≠none→h.get? b=some u→h'.get? b=some u):HOk P w H h':=fun a o e =>
 (x a o e).stay (fun b u hb q=>k b u (by
  rcases hb with rfl|hb
  ·rw [e];exact fun z=>nomatch z
  ·rw [hb];exact fun z=>nomatch z) q) (fun _ q=>q) fun _ _ q=>q
end
theorem Un.go {fs ex:List Addr} {H H1:Hp} {h0 h h':Heap} (u:Un fs ex H H1 h0 h) (k:∀b o,h.get? b=some o→b∉fs→b∉ex→(∃o',h0.get? b=some o')→h'.get? b=some o)
  (ks:∀b o,h.get? b=some o→b∈fs→(∃o',h0.get? b=some o')→∃sl,h'.get? b=some {o with slots:=sl}):Un fs ex H H1 h0 h' where
 keep:=fun b o q n hb hx=>k b o (u.keep b o q n hb hx) hb hx ⟨o,q⟩
 slot:=fun b o q n hb hx=>by
  obtain ⟨sl,e⟩:=u.slot b o q n hb hx
  obtain ⟨sl',e'⟩:=ks b _ e hb ⟨o,q⟩
  exact ⟨sl',e'⟩
 free:=u.free
 there:=fun b o q hx=>by
  obtain ⟨o',e⟩:=u.there b o q hx
  by_cases hb:b∈fs
  ·obtain ⟨sl,e'⟩:=ks b o' e hb ⟨o,q⟩
   exact ⟨_,e'⟩
  ·exact ⟨o',k b o' e hb hx ⟨o,q⟩⟩
 tups:=u.tups
 frzs:=u.frzs
 tbls:=u.tbls
def xF (fr:List Env) (Z:Addr→Prop) (h:Heap) (a C:Addr):Prop :=
 ∃(B:Heap) (a0:Value),Heap.FlyingW B fr a (.ref C) a0 h∧∀b o,h.get? b=some o→b∉kI fr→Z b→B.get? b=some o
def qK (P:Program) (w:World):yT:=fun outer H s E e s'=>∃(a C:Addr) (H':Hp),e=.ref a∧s'.os=s.os∧AllBare s'.gens∧Un (kI outer) [] H H' s.heap s'.heap∧HOk P w H' s'.heap∧
 xF outer (fun b=>H' b≠none∨∃o',s.heap.get? b=some o') s'.heap a C∧H' a=none∧s.heap.get? a=none∧E (.ref C) none H'
def wC (X:Cx) (R:St→Value→Hp→Prop):Prop:=∀pins σ H s e h' C vs,Inv X pins σ H s→Heap.MadeExcOf s.heap h' e (.ref C) vs→R σ (.ref C) H→X.xe (.ref e) {s with heap:=h'}
def Q9 (X:Cx) (R:St→Value→Hp→Prop):Prop:=∀pins σ H s e s',Inv X pins σ H s→qK X.prog X.w X.stack H s (fun c _ H'=>R σ c H') e s'→X.xe e s'
theorem y9 {P:Program} {w:World} {K:PySem.W.Frag} {mg:Str→Option Value} {base:Heap} {N:List Str} {qual:Str} {scope:Scope} {f:Addr} {cd:Value} {A:Around} {outer:List Env} {s:Shared} {H:Hp} {E:XK} :
  wC (v8 (qK P w) P w K mg base N qual scope f cd A outer s H E) (fun _ c H'=>E c none H'):=by
 intro pins σ H1 s1 e h' C vs I hx q
 have hin:∀env∈(envOfC qual scope s.heap.objs.size f cd::outer),∀b,env.frame=some b→b∈kI (envOfC qual scope s.heap.objs.size f cd::outer):=fun env he b hb=>List.mem_filterMap.mpr ⟨env,he,hb⟩
 have hst:s1.heap.FunFrames base (envOfC qual scope s.heap.objs.size f cd::outer):=I.stack
 have hfrees:∀b∈kI (envOfC qual scope s.heap.objs.size f cd::outer),H1 b=none:=I.stkFree
 have hfs:kI (envOfC qual scope s.heap.objs.size f cd::outer)=s.heap.objs.size::kI outer:=rfl
 have ub:Un (kI outer) [] H H1 s.heap s1.heap:=I.base
 have hno:s1.heap.get? e=none:=hx.new
 show wpAny (model P w) (A.deeper (envOfC qual scope s.heap.objs.size f cd)) (leaving (envOfC qual scope s.heap.objs.size f cd) (.ref e)) (fun _ s''=>qK P w outer H s E (.ref e) s'') (fun e' s''=>qK P w outer H s E e' s'') {s1 with heap:=h'}
 refine wpAny_leaves_madeW (base:=PySem.W.hideAll s1.heap (kI (envOfC qual scope s.heap.objs.size f cd::outer))) I.ok.frames rfl (fun b o q=>PySem.W.of_hideAll _ q) (PySem.W.funFrames_hide hst hin) hx fun h2 t fl _ _ up=>?_
 dsimp only at up
 have keep:∀b o,s1.heap.get? b=some o→b∉kI (envOfC qual scope s.heap.objs.size f cd::outer)→(PySem.W.hideAll s1.heap (kI (envOfC qual scope s.heap.objs.size f cd::outer))).get? b=some o:=fun b o q n=>PySem.W.hideAll_get _ q n
 have old:∀b,(∃o',s.heap.get? b=some o')→b∉kI outer→b∉kI (envOfC qual scope s.heap.objs.size f cd::outer):=fun b ⟨o',q⟩ n z=>by
  rw [hfs] at z
  rcases List.mem_cons.mp z with z|z
  ·exact absurd (Heap.lt_size q) (by rw [z];exact Nat.lt_irrefl _)
  ·exact n z
 have zH:∀b,H1 b≠none→b∉kI (envOfC qual scope s.heap.objs.size f cd::outer):=fun b hb z=>hb (hfrees b z)
 refine ⟨e,C,H1,rfl,I.os,I.bare,ub.go (fun b o q n _ z=>fl.1 b o (keep b o q (old b z n))) (fun b o q n _=>?_),I.hok.keepT fun b u hb q=>fl.1 b u (keep b u q (zH b hb)),?_,?_,?_,q⟩
 ·obtain ⟨_,o',ho',hd⟩:=hst.mem (show b∈kI (envOfC qual scope s.heap.objs.size f cd::outer) from by rw [hfs];exact List.mem_cons_of_mem _ n)
  rw [q] at ho';cases ho'
  exact up b o (hx.keeps b o q) hd
 ·refine ⟨_,_,fl,fun b o q n z=>?_⟩
  have hn:b∉kI (envOfC qual scope s.heap.objs.size f cd::outer):=by
   rcases z with z|z
   ·exact zH b z
   ·exact old b z n
  have h1:∃u,s1.heap.get? b=some u:=by
   rcases z with z|⟨o',z⟩
   ·cases r:H1 b with
    |none=>exact absurd r z
    |some v=>exact I.hok.there r
   ·exact ub.there b o' z (by simp)
  obtain ⟨u,hu⟩:=h1
  have hB:=keep b u hu hn
  have:=fl.1 b u hB
  have q':h2.get? b=some o:=q
  rw [q'] at this
  cases this
  exact hB
 ·cases r:H1 e with
  |none=>rfl
  |some v =>
   obtain ⟨u,hu⟩:=I.hok.there r
   rw [hno] at hu;cases hu
 ·cases r:s.heap.get? e with
  |none=>rfl
  |some v =>
   obtain ⟨u,hu⟩:=ub.there e v r (by simp)
   rw [hno] at hu;cases hu
theorem yH {P:Program} {w:World} {K:PySem.W.Frag} {mg:Str→Option Value} {base:Heap} {N:List Str} {qual:Str} {scope:Scope} {f:Addr} {cd:Value} {A:Around} {outer:List Env} {s:Shared} {H:Hp} {E:XK} :
  Q9 (v8 (qK P w) P w K mg base N qual scope f cd A outer s H E) (fun _ c H'=>E c none H'):=by
 intro pins σ H1 s1 e s2 I hx
 obtain ⟨a,C,H2,rfl,os,bare,un,hok,⟨B,a0,fl,ground⟩,ha,hs,q⟩:=hx
 have fl':Heap.FlyingW B (envOfC qual scope s.heap.objs.size f cd::outer) a (.ref C) a0 s2.heap:=fl
 have J:Inv (v8 (qK P w) P w K mg base N qual scope f cd A outer s H E) pins σ H2 s2:=I.call' (ch:=[]) os un hok bare fun b z=>absurd z (by simp)
 have ub:Un (kI outer) [] H H2 s.heap s2.heap:=J.base
 have hfs:kI (envOfC qual scope s.heap.objs.size f cd::outer)=s.heap.objs.size::kI outer:=rfl
 have old:∀b,(∃o',s.heap.get? b=some o')→b∉kI outer→b∉kI (envOfC qual scope s.heap.objs.size f cd::outer):=fun b ⟨o',q⟩ n z=>by
  rw [hfs] at z
  rcases List.mem_cons.mp z with z|z
  ·exact absurd (Heap.lt_size q) (by rw [z];exact Nat.lt_irrefl _)
  ·exact n z
 have zH:∀b,H2 b≠none→b∉kI (envOfC qual scope s.heap.objs.size f cd::outer):=fun b hb z=>hb (J.stkFree b z)
 have u1:Un (kI outer) [] H H1 s.heap s1.heap:=I.base
 have in1:∀b,(∃o',s.heap.get? b=some o')→∃o',s1.heap.get? b=some o':=fun b ⟨o',z⟩=>u1.there b o' z (by simp)
 have hst:s2.heap.FunFrames base (envOfC qual scope s.heap.objs.size f cd::outer):=J.stack
 show wpAny (model P w) (A.deeper (envOfC qual scope s.heap.objs.size f cd)) (leaving (envOfC qual scope s.heap.objs.size f cd) (.ref a)) (fun _ s''=>qK P w outer H s E (.ref a) s'') (fun e' s''=>qK P w outer H s E e' s'') s2
 refine wpAny_leaves_onW J.ok.frames rfl fl' fun h3 fl3 up=>?_
 refine ⟨a,C,H2,rfl,J.os,J.bare,ub.go (fun b o q n _ z=>fl3.1 b o (ground b o q (old b z n) (.inr (in1 b z)))) (fun b o q n _=>?_),J.hok.keepT fun b u hb q=>fl3.1 b u (ground b u q (zH b hb) (.inl hb)),?_,ha,?_,q⟩
 ·obtain ⟨_,o',ho',hd⟩:=hst.mem (show b∈kI (envOfC qual scope s.heap.objs.size f cd::outer) from by rw [hfs];exact List.mem_cons_of_mem _ n)
  rw [q] at ho';cases ho'
  exact up b o q hd
 ·refine ⟨B,a0,fl3,fun b o q n z=>?_⟩
  have hn:b∉kI (envOfC qual scope s.heap.objs.size f cd::outer):=by
   rcases z with z|z
   ·exact zH b z
   ·exact old b z n
  have h1:∃u,s2.heap.get? b=some u:=by
   rcases z with z|⟨o',z⟩
   ·cases r:H2 b with
    |none=>exact absurd r z
    |some v=>exact J.hok.there r
   ·exact ub.there b o' z (by simp)
  obtain ⟨u,hu⟩:=h1
  have hB:=ground b u hu hn (by
   rcases z with z|z
   ·exact .inl z
   ·exact .inr (in1 b z))
  have:=fl3.1 b u hB
  have q':h3.get? b=some o:=q
  rw [q'] at this
  cases this
  exact hB
 ·cases r:s.heap.get? a with
  |none=>rfl
  |some v =>
   obtain ⟨u,hu⟩:=in1 a ⟨v,r⟩
   rw [hs] at hu;cases hu
end L2
namespace L2
open PySem PySem.Spec PyProof.Rows
theorem uD {K:PySem.W.Frag} {h:Heap} {C:Addr} {bmB:List Value} {newId:String} (X:K.In h) (q:PySem.W.excIn K C bmB newId=true) :
  ∃bm N nm qn bs hdct sn sub ab col dd k0 k1 k2 k3 k5 mN,K.lookup C=some (excClassObj nm qn C N bs bm hdct sn sub ab col dd k0 k1 k2 k3 k5 newId)∧h.get? C=some (excClassObj nm qn C N bs bm hdct sn sub ab col dd k0 k1 k2 k3 k5 newId)∧h.Ns N mN∧mN "__init__"=none∧OwnTail h bmB bm:=by
 unfold PySem.W.excIn at q
 split at q
 ·rename_i dd cd sl ho
  split at q
  ·rename_i C' bm k0 k1 k2 k3 n k5 hm hs
   simp only [Bool.and_eq_true,beq_iff_eq,Bool.not_eq_true'] at q
   obtain ⟨⟨⟨⟨⟨rfl,rfl⟩,hdel⟩,ht⟩,hok⟩,hni⟩:=q
   obtain ⟨nm,bs,mro,ns,qn,hd,sn,sub,ab,col,del⟩:=cd
   dsimp only at hm hdel hok hni
   subst hm hdel
   have hsl:sl = #[k0,k1,k2,k3,some (.builtin n),k5]:=by
    obtain ⟨l⟩:=sl
    simp only at hs
    rw [hs]
   subst hsl
   exact ⟨bm,ns,nm,qn,bs,hd,sn,sub,ab,col,dd,k0,k1,k2,k3,k5,_,ho,X _ _ ho,.of_isNs (PySem.W.isNs_of_in X hok),PySem.W.nsMap_none_of_in X hok hni,PySem.W.tail_of_in X ht⟩
  ·cases q
 ·cases q
abbrev MD:List Value:=[.type "ValueError",.type "Exception",.type "BaseException",.type "object"]
def JM (K:PySem.W.Frag) (C:Addr):Prop:=PySem.W.excIn K C MD "ValueError.__new__"=true
section
variable {X:Cx} {R:St→Value→Hp→Prop} {x:Str} {C:Addr} {np cpos pos p:Pos} {e:Expr} {es:List Expr} {t:TA}
theorem zA (hx:wC X R) (hcalm:X.calm=true) (hg:Gl X x) (hm:X.mg x=some (.ref C)) (hc:JM X.K C) (ha:PA X (e::es) t) (hdb:(x == ("__debug__":Str))=false:=by decide)
  (he:starEach (e::es) X.env=(false,eval e X.env)::starEach es X.env:=by rfl) (hpl:(backTo cpos (starEach es X.env)).any (·.1)=false:=by rfl) :
  PS X (.Raise (some (.Call (.Name x np) (e::es) [] cpos)) none pos) (fun _ σ H=>t σ H fun vs H1=>vs.length≤sizeLine∧R σ (.ref C) H1):=by
 intro pins s σ H D I h
 obtain ⟨tl,N,nm,q,bs,hdct,sn,sub,ab,col,dd,k0,k1,k2,k3,k5,mN,_,hC,hN,hni,T⟩:=uD I.ok.mod.kin hc
 refine wpAny_Raise_call_subT (C:=C) (nm:=nm) (q:=q) (N:=N) (bs:=bs) (bm:=tl) (hdct:=hdct) (sn:=sn) (sub:=sub) (ab:=ab) (col:=col) (dd:=dd) (k0:=k0) (k1:=k1) (k2:=k2) (k3:=k3) (k5:=k5)
  PySem.F.excBase_ValueError (mN:=mN) (T.hasType PySem.F.excBase_ValueError.hasBase) (I.ok.hd hcalm) (by rw [he];show (false||(backTo cpos (starEach es X.env)).any (·.1))=false;rw [hpl];rfl) hni (dQ I hg hm ⟨rfl,?_⟩ hdb)
 have h1:=ha cpos pins s σ H _ I h
 rw [he] at h1 ⊢
 refine Calls.evalArgs_plain (wpAny_mono h1 (fun us s2 ⟨vs,H2,I2,r2,hl,q2⟩=>⟨rfl,by rw [← r2.length];exact hl,I2.bk _ _ hC,hN.keeps I2.bk,T.keeps I2.bk,fun h' a hm=>hx pins σ H2 s2 a h' C us I2 hm q2⟩) fun _ _ y=>y)
def IX (sp:Sp) (dvs:List V) (R:St→Value→Hp→Prop) (t:TA):TE:=fun σ H Q=>t σ H fun vs H1=>sp (vs++dvs) H1 Q (fun c _ H'=>R σ c H')
theorem nO {k:Nat} {f:Addr} {fd:FuncData} {ps:List Str} {sp:Sp} {dvs:List V} {ds:List Value} {pins:List (Addr×Obj)} {σ:St} {H:Hp} {s:Shared} {Q:VK} {us:List Value} {vs:List V} (F:FnOk X.prog X.w X.K X.mg X.base (qK X.prog X.w) k f fd ps sp) (hr:Room k X.A) (hb:Binds X.K fd ps ds) (hd:Vals dvs ds) (hx:Q9 X R)
  (I:Inv X pins σ H s) (r:Vals vs us) (h:sp (vs++dvs) H Q (fun c _ H'=>R σ c H')):wpAny (model X.prog X.w) X.A (call (.ref f) us) (EP X pins σ Q) X.xe s:=by
 have r2:Vals (vs++dvs) (us++ds):=r.append hd
 have hl:(us++ds).length=ps.length:=by rw [← r2.length];exact F.len _ _ _ _ h
 refine wpAny_call (codeAny_mono (F.run X.A X.stack s H ⟨us,[]⟩ (us++ds) (vs++dvs) Q _ hr I.env0 (hb s us I.kIn hl) r2 h) fun r s' hq=>?_)
 cases r with
 |error e=>exact hx pins σ H s e s' I hq
 |ok fl =>
  cases fl with
  |ret u=>exact I.after hq
  |next=>exact False.elim hq
  |brk=>exact False.elim hq
  |cont=>exact False.elim hq
end
structure DefX (P:Program) (w:World) (K:PySem.W.Frag) (mg:Str→Option Value) (base:Heap) (k:Nat) (x:Str) (ps:List Str) (dvs:List V) (sp:Sp):Prop where
 ex:∃(f:Addr) (fd:FuncData) (ds:List Value),FnOk P w K mg base (qK P w) k f fd ps sp∧mg x=some (.ref f)∧PySem.W.keepIn K (.ref f)=true∧Vals dvs ds∧Binds K fd ps ds
theorem t9 {X:Cx} {R:St→Value→Hp→Prop} {k k':Nat} {x:Str} {ps:List Str} {dvs:List V} {sp:Sp} {p pos:Pos} {e:Expr} {es:List Expr} {t:TA} (F:DefX X.prog X.w X.K X.mg X.base k x ps dvs sp) (hx:Q9 X R) (hr:Room k' X.A) (hg:Gl X x) (ha:PA X (e::es) t)
  (hk:k≤k':=by decide) (hdb:(x == ("__debug__":Str))=false:=by decide) (he:starEach (e::es) X.env=(false,eval e X.env)::starEach es X.env:=by rfl) (hpl:(backTo pos (starEach es X.env)).any (·.1)=false:=by rfl) :
  PE X (.Call (.Name x p) (e::es) [] pos) (IX sp dvs R t):=by
 obtain ⟨f,fd,ds,G,m,kp,hv,b⟩:=F.ex
 intro pins s σ H Q I h
 refine wpAny_Call_Name_kw (dQ I hg m ?_ hdb)
 refine PySem.W.callWith_K (h₀:=X.base) I.ok.mod.kin kp (jN (ha pos pins s σ H _ I h) fun us s1 ⟨vs,H1,I1,r,q⟩=>⟨I1.kIn,?_⟩) he hpl
 exact nO G (hr.mono hk) b hv hx I1 r q
def LU (X:Cx) (pins:List (Addr×Obj)) (a:Addr):Prop:=X.s₀.heap.get? a=none∧a≠X.env.locals∧(∀x c,X.env.cells.lookup x=some c→c≠a)∧∀p∈X.pn++pins,p.1≠a
def J7 (X:Cx) (pins:List (Addr×Obj)) (R:St→Value→Hp→Prop):Cx:={X with
 pn:=X.pn++pins
 xe:=fun e s'=>∃(a C:Addr) (σ':St) (H':Hp),e=.ref a∧Inv X pins σ' H' s'∧xF X.stack (fun b=>H' b≠none∨(∃o,X.s₀.heap.get? b=some o)∨∃p∈X.pn++pins,p.1=b) s'.heap a C∧H' a=none∧LU X pins a∧R σ' (.ref C) H'}
theorem Cx.Ok.intoTry {X:Cx} {pins:List (Addr×Obj)} {R:St→Value→Hp→Prop} (ok:X.Ok):(J7 X pins R).Ok :=
 ⟨ok.mod,ok.kind,ok.glob,ok.blt,ok.above,ok.inj,ok.has,ok.cab,ok.hd,ok.frames,ok.stk,ok.exf,ok.bs,ok.bsz,ok.noex,ok.exfs,ok.funs,ok.frf⟩
theorem Cx.Ok.outTry {X:Cx} {pins:List (Addr×Obj)} {R:St→Value→Hp→Prop} (ok:(J7 X pins R).Ok):X.Ok :=
 ⟨ok.mod,ok.kind,ok.glob,ok.blt,ok.above,ok.inj,ok.has,ok.cab,ok.hd,ok.frames,ok.stk,ok.exf,ok.bs,ok.bsz,ok.noex,ok.exfs,ok.funs,ok.frf⟩
section
variable {X:Cx} {pins pins':List (Addr×Obj)} {σ:St} {H:Hp} {s:Shared} {R:St→Value→Hp→Prop}
theorem Inv.intoTry (I:Inv X pins σ H s):Inv (J7 X pins R) [] σ H s :=
 ⟨I.ok.intoTry,I.os,I.bare,I.base,I.loc,I.cell,I.free,I.freeC,fun p hp=>I.pin p (by have hp':p∈(X.pn++pins)++[]:=hp;rw [List.append_nil] at hp';exact hp'),I.hok,I.len⟩
theorem Inv.outTry (I:Inv (J7 X pins R) pins' σ H s):Inv X pins σ H s :=
 ⟨I.ok.outTry,I.os,I.bare,I.base,I.loc,I.cell,I.free,I.freeC,fun p hp=>I.pin p (List.mem_append_left _ hp),I.hok,I.len⟩
theorem SP.outTry {D:Ends} {f:Flow} {s':Shared} (h:SP (J7 X pins R) [] D f s'):SP X pins D f s':=by
 cases f with
 |next=>obtain ⟨σ',H',I,q⟩:=h;exact ⟨σ',H',I.outTry,q⟩
 |brk=>obtain ⟨σ',H',I,q⟩:=h;exact ⟨σ',H',I.outTry,q⟩
 |cont=>obtain ⟨σ',H',I,q⟩:=h;exact ⟨σ',H',I.outTry,q⟩
 |ret u=>obtain ⟨v,σ',H',I,r,q⟩:=h;exact ⟨v,σ',H',I.outTry,r,q⟩
theorem FU (hex:X.ex=[]):Q9 (J7 X pins R) R:=by
 intro pins' σ H1 s1 e s2 I hx
 obtain ⟨a,C,H2,rfl,os,bare,un,hok,⟨B,a0,fl,ground⟩,ha,hs,q⟩:=hx
 have I0:Inv X pins σ H1 s1:=I.outTry
 have J:Inv X pins σ H2 s2:=I0.call' (ch:=[]) os un hok bare fun b z=>absurd z (by simp)
 refine ⟨a,C,σ,H2,rfl,J,⟨B,a0,fl,fun b o q n z=>ground b o q n ?_⟩,ha,⟨?_,fun z=>?_,fun x c e z=>?_,fun p hp z=>?_⟩,q⟩
 ·rcases z with z|⟨o',z⟩|⟨p,hp,rfl⟩
  ·exact .inl z
  ·exact .inr (I0.base.there b o' z (by rw [hex];simp))
  ·exact .inr ⟨_,(I0.pin p hp).1⟩
 ·cases r:X.s₀.heap.get? a with
  |none=>rfl
  |some v =>
   obtain ⟨u,hu⟩:=I0.base.there a v r (by rw [hex];simp)
   rw [hs] at hu;cases hu
 ·obtain ⟨m,⟨o,_,_,ho,_⟩,_⟩:=I0.loc
  rw [← z,hs] at ho;cases ho
 ·obtain ⟨v,o,ho,_⟩:=I0.cell x c e
  rw [z,hs] at ho;cases ho
 ·have ho:=(I0.pin p hp).1
  rw [z,hs] at ho;cases ho
theorem Inv.fly {h':Heap} (I:Inv X pins σ H s) (hstk:X.stack=X.env::X.outer) (hf:X.env.frame=some X.env.locals)
  (k:∀b o,s.heap.get? b=some o→b∉kI X.stack→(H b≠none∨(∃o,X.s₀.heap.get? b=some o)∨∃p∈X.pn++pins,p.1=b)→h'.get? b=some o) (up:s.heap.UpToSlots h'):Inv X pins σ H {s with heap:=h'}:=by
 have hfs:kI X.stack=X.env.locals::X.fs:=by rw [hstk];unfold kI;rw [List.filterMap_cons,hf];rfl
 have cellK:∀c v,s.heap.IsCell c v→h'.IsCell c v:=fun c v ⟨o,ho,hd⟩=>by
  obtain ⟨sl,e⟩:=up c o ho (fun vs q=>by rw [hd] at q;cases q)
  exact ⟨_,e,hd⟩
 have zH:∀b,H b≠none→b∉kI X.stack:=fun b hb z=>hb (I.stkFree b z)
 refine ⟨I.ok,I.os,I.bare,I.base.go (fun b o q n _ z=>k b o q (fun m=>?_) (.inr (.inl z))) (fun b o q n z=>?_),?_,fun x c e=>?_,I.free,I.freeC,fun p hp=>?_,I.hok.keepT fun b u hb q=>k b u q (zH b hb) (.inl hb),I.len⟩
 ·rw [hfs] at m
  rcases List.mem_cons.mp m with m|m
  ·obtain ⟨o',z⟩:=z
   exact absurd (Nat.lt_of_lt_of_le (Heap.lt_size z) I.ok.above) (by rw [m];exact Nat.lt_irrefl _)
  ·exact n m
 ·obtain ⟨_,o',ho',hd⟩:=I.stack.mem (show b∈kI X.stack from by rw [hfs];exact List.mem_cons_of_mem _ n)
  rw [q] at ho';cases ho'
  exact up b o q hd
 ·obtain ⟨m,hn,hl⟩:=I.loc
  refine ⟨m,up.ns hn,fun i x v h1 h2 h3=>?_⟩
  obtain ⟨u,r,l⟩:=hl i x v h1 h2 h3
  refine ⟨u,r,?_⟩
  rcases l with l|⟨l1,c,l2,l3⟩
  ·exact .inl l
  ·exact .inr ⟨l1,c,l2,cellK c _ l3⟩
 ·obtain ⟨v,q⟩:=I.cell x c e
  exact ⟨v,cellK c v q⟩
 ·obtain ⟨h1,h2,h3,h4,h5⟩:=I.pin p hp
  refine ⟨k p.1 p.2 h1 (fun m=>?_) (.inr (.inr ⟨p,hp,rfl⟩)),h2,h3,h4,h5⟩
  rw [hfs] at m
  rcases List.mem_cons.mp m with m|m
  ·exact h3 m
  ·exact h4 m
end
def iE (X:Cx) (e:Value):Cx:={X with A:=X.A.mark (some e),calm:=false,xe:=fun _ _=>False}
section
variable {X:Cx} {pins:List (Addr×Obj)} {σ:St} {H:Hp} {s:Shared} {e:Value}
theorem Inv.intoSuite (I:Inv X pins σ H s) (e:Value):Inv (iE X e) pins σ H s :=
 ⟨⟨I.ok.mod,I.ok.kind,I.ok.glob,I.ok.blt,I.ok.above,I.ok.inj,I.ok.has,I.ok.cab,fun z=>absurd (show false=true from z) (by decide),I.ok.frames,I.ok.stk,I.ok.exf,I.ok.bs,I.ok.bsz,I.ok.noex,I.ok.exfs,I.ok.funs,I.ok.frf⟩,I.os,I.bare,I.base,I.loc,I.cell,I.free,I.freeC,I.pin,I.hok,I.len⟩
theorem Inv.outSuite (ok:X.Ok) (I:Inv (iE X e) pins σ H s):Inv X pins σ H s:=⟨ok,I.os,I.bare,I.base,I.loc,I.cell,I.free,I.freeC,I.pin,I.hok,I.len⟩
theorem SP.outSuite (ok:X.Ok) {D:Ends} {f:Flow} {s':Shared} (h:SP (iE X e) pins D f s'):SP X pins D f s':=by
 cases f with
 |next=>obtain ⟨σ',H',I,q⟩:=h;exact ⟨σ',H',I.outSuite ok,q⟩
 |brk=>obtain ⟨σ',H',I,q⟩:=h;exact ⟨σ',H',I.outSuite ok,q⟩
 |cont=>obtain ⟨σ',H',I,q⟩:=h;exact ⟨σ',H',I.outSuite ok,q⟩
 |ret u=>obtain ⟨v,σ',H',I,r,q⟩:=h;exact ⟨v,σ',H',I.outSuite ok,r,q⟩
end
def LY (C:Addr) (tb:(St→Value→Hp→Prop)→TS) (ts:TS):TS:=fun D σ H=>∃R:St→Value→Hp→Prop,tb R D σ H∧∀σ' c H',R σ' c H'→c=.ref C∧ts D σ' H'
theorem KB {X:Cx} {body:List Stmt} {x:Str} {C:Addr} {np hpos pos:Pos} {b₀:Stmt} {suite:List Stmt} {tb:(St→Value→Hp→Prop)→TS} {ts:TS} (hex:X.ex=[]) (hstk:X.stack=X.env::X.outer) (hf:X.env.frame=some X.env.locals)
  (hg:Gl X x) (hm:X.mg x=some (.ref C)) (hc:JM X.K C) (hb:∀pins R,Q9 (J7 X pins R) R→PSs (J7 X pins R) body (tb R)) (hs:∀e,PSs (iE X e) (b₀::suite) ts) (hdb:(x == ("__debug__":Str))=false:=by decide) :
  PS X (.Try body [.ExceptHandler (some (.Name x np)) none (b₀::suite) hpos] [] [] pos) (LY C tb ts):=by
 intro pins s σ H D I h
 obtain ⟨R,h1,h2⟩:=h
 refine wpAny_Try_except (wpAny_mono (hb pins R (FU hex) [] s σ H D I.intoTry h1) (fun f s1 q=>?_) (fun v s1 q=>?_))
 ·have q':=q.outTry
  cases f with
  |next=>exact wpAny_execs_nil q'
  |brk=>exact q'
  |cont=>exact q'
  |ret u=>exact q'
 ·obtain ⟨a,C',σ',H',rfl,J,⟨B,a0,fl,ground⟩,ha,_,r⟩:=q
  obtain ⟨e1,h3⟩:=h2 σ' (.ref C') H' r
  cases e1
  have fl0:Heap.FlyingW B (X.env::X.outer) a (.ref C) a0 s1.heap:=by rw [hstk] at fl;exact fl
  have hfr:X.A.frames=some (X.env::X.outer):=by rw [← hstk];exact J.ok.frames
  refine wpAny_looks_onW hfr hf fl0 fun h4 held4 up4=>?_
  refine wpAny_landsW held4 fun h5 fl5 up5=>?_
  have J5:Inv X pins σ' H' {s1 with heap:=h5}:=J.fly hstk hf (fun b o q n z=>fl5.1 b o (ground b o q n z)) (up4.trans up5)
  obtain ⟨ob,hob,hobc⟩:=fl5.there
  obtain ⟨tl,N,nm,q,bs,hdct,sn,sub,ab,col,dd,k0,k1,k2,k3,k5,mN,_,hC,hN,hni,T⟩:=uD J5.ok.mod.kin hc
  refine wpAny_handleBy_cons (codeAny_handlers_test (dQ (J5.intoSuite (.ref a)) hg hm ?_ hdb)) (by intro q;cases q)
  obtain ⟨hh,g,d,tk,os⟩:=s1
  refine wpAny_excMatches_sub_self (J5.bk _ _ hC) hob hobc (T.hasType PySem.F.excBase_ValueError.hasBase) (codeAny_handlers_suite ?_)
  refine lands_againW fl5 fun h6 fl6 up6=>?_
  have J6:Inv X pins σ' H' {heap:=h6,gens:=g,drawn:=d,toks:=tk,os:=os}:=J.fly hstk hf (fun b o q n z=>fl6.1 b o (ground b o q n z)) ((up4.trans up5).trans up6)
  exact wpAny_mono (hs (.ref a) pins _ σ' H' D (J6.intoSuite _) h3) (fun f s' q=>q.outSuite J6.ok) fun _ _ z=>False.elim z
end L2
namespace L2
open PySem PySem.Spec PyProof.Rows
section
variable {P:Program} {w:World} {K:PySem.W.Frag} {mg:Str→Option Value} {base:Heap}
theorem Fun.okX {x qual:Str} {st:Stmt} {f:Addr} {fd:FuncData} {N ps:List Str} {k:Nat} {sp:Sp} (F:Fun K x qual st f fd) (S:FnScope N ps (jE st)) (len:∀vs H Q E,sp vs H Q E→vs.length=ps.length)
  (hbody:∀(cdv:Value) (A:Around) (outer:List Env) (s:Shared) (H:Hp) (vs:List V) (Q:VK) (E:XK),Room k (A.deeper (envOfC qual (jE st) s.heap.objs.size f cdv))→sp vs H Q E→
   ∃t,PSs (v8 (qK P w) P w K mg base N qual (jE st) f cdv A outer s H E) (jO st) t∧t {nx:=fun _ H'=>Q .non H',rt:=Q} (start N vs) H):FnOk P w K mg base (qK P w) (k+1) f fd ps sp:=by
 obtain ⟨oc,od,kV,doc,pm,an,cdv,ct,osl,rfl,lk,hcd⟩:=F.ex
 exact oX lk hcd S len fun A outer s H vs Q E hr hsp=>hbody cdv A outer s H vs Q E hr hsp
theorem FnOk.noX {k:Nat} {f:Addr} {fd:FuncData} {ps:List Str} {sp sp':Sp} (F:FnOk P w K mg base (qK P w) k f fd ps sp) (h:∀vs H Q E,sp' vs H Q E→sp vs H Q (fun _ _ _=>False)):FnOk P w K mg base jW k f fd ps sp' :=
 ⟨fun vs H Q E q=>F.len vs H Q _ (h _ _ _ _ q),fun A outer s H args us vs Q E hr he hb hv hs=>codeAny_mono (F.run A outer s H args us vs Q _ hr he hb hv (h _ _ _ _ hs)) fun r s' hq=>by
  cases r with
  |ok fl=>cases fl<;>exact hq
  |error e=>obtain ⟨_,_,_,_,_,_,_,_,_,_,_,z⟩:=hq;exact z⟩
end
section
variable {X:Cx}
end
end L2
namespace L2
open PySem PySem.Spec PyProof.Rows
section
variable {X:Cx} {pins:List (Addr×Obj)} {σ:St} {H:Hp} {s:Shared}
end
end L2
namespace L2
open PySem PySem.Spec PySem.Calls PyProof.Rows PySem.W
section
variable {prog:Program} {w:World} {A:Around} {E:Value→Shared→Prop} {h:Heap} {g:Array GenState} {d:Drawn} {t:Nat} {os:OsState} {a C:Addr} {o:Obj} {K:PySem.W.Frag}
open PySem.Builtin PySem.Builtin.ObjectAttr PySem.Builtin.Getset_descriptor in
end
section
variable {X:Cx}
end
end L2
namespace L2
open PySem PySem.Spec PyProof.Rows
end L2
namespace L2
open PySem PySem.Spec PyProof.Rows
section
variable {X:Cx} {x:Str} {C:Addr} {pos p:Pos} {e:Expr} {es:List Expr} {t:TA}
end
end L2
namespace L2
open PySem PySem.Spec PyProof.Rows
section
variable {X:Cx}
end
end L2
namespace L2
open PySem PySem.Spec PyProof.Rows
def uK (C:Addr) (m:Str) (sp:Sp) (R:St→Value→Hp→Prop) (ta:TE) (t:TA):TE:=fun σ H Q=>ta σ H fun x H1=>∃a dx fs,x=.ref a∧H1 a=some (.ins C dx fs)∧fs.lookup m=none∧
 t σ H1 fun vs H2=>sp (x::vs) H2 Q (fun c _ H'=>R σ c H')
structure MeX (P:Program) (w:World) (K:PySem.W.Frag) (mg:Str→Option Value) (base:Heap) (k:Nat) (C:Addr) (m:Str) (ps:List Str) (sp:Sp):Prop where
 ex:Cls K C∧∃(f:Addr) (fd:FuncData),Meth K C m f∧FnOk P w K mg base (qK P w) k f fd ps sp∧Binds K fd ps []
section
variable {X:Cx} {R:St→Value→Hp→Prop} {k k':Nat} {x m:Str} {C:Addr} {ps:List Str} {sp:Sp} {p pos apos:Pos} {o e:Expr} {es:List Expr} {ta:TE} {t:TA}
theorem J8 {pl:Sem Bool} (M:MeX X.prog X.w X.K X.mg X.base k C m ps sp) (hx:Q9 X R) (hr:Room k' X.A) (ho:PE X o ta) (ha:PA X (e::es) t) (hk:k≤k':=by decide)
  (hst:starEach (e::es) X.env=(false,eval e X.env)::starEach es X.env:=by rfl) (hpl:(backTo pos (starEach es X.env)).any (·.1)=false:=by rfl)
  (ht:eval (.Call (.Attribute o m apos) (e::es) [] pos) X.env=(do
   let ov ← eval o X.env
   standAt apos.atName
   let (f,first) ← holding [ov] (getMethod ov m pl)
   callWith pos f first (backTo pos (starEach (e::es) X.env)) (backToKw pos (keywordEach [] X.env))):=by rfl) :
  PE X (.Call (.Attribute o m apos) (e::es) [] pos) (uK C m sp R ta t):=by
 obtain ⟨c,f,fd,hm,G,b⟩:=M.ex
 intro pins s σ H Q I h
 refine PySem.W.methodCall_KW (pl:=pl) (jN (ho pins s σ H _ I h) fun u s1 ⟨x,H1,I1,rx,a,dx,fs,ex,ea,l,q⟩=>?_) ht
 subst ex
 obtain rfl:u=Value.ref a:=rx
 refine dF I1 ea c hm l ?_
 refine PySem.W.callWith_K (first:=[.ref a]) (h₀:=X.base) I.ok.mod.kin hm.kp (jN (ha pos pins s1 σ H1 _ I1 q) fun us s2 ⟨vs,H2,I2,r,q2⟩=>⟨I2.kIn,?_⟩) hst hpl
 exact nO (us:=.ref a::us) (vs:=.ref a::vs) (dvs:=[]) G (hr.mono hk) b .nil hx I2 (.cons rfl r) (by rw [List.append_nil];exact q2)
theorem fT {pl:Sem Bool} (M:MeX X.prog X.w X.K X.mg X.base k C m ps sp) (hx:Q9 X R) (hr:Room k' X.A) (ho:PE X o ta) (hk:k≤k':=by decide)
  (ht:eval (.Call (.Attribute o m apos) [] [] pos) X.env=(do
   let ov ← eval o X.env
   standAt apos.atName
   let (f,first) ← holding [ov] (getMethod ov m pl)
   callWith pos f first (backTo pos (starEach [] X.env)) (backToKw pos (keywordEach [] X.env))):=by rfl) :
  PE X (.Call (.Attribute o m apos) [] [] pos) (uK C m sp R ta fX):=by
 obtain ⟨c,f,fd,hm,G,b⟩:=M.ex
 intro pins s σ H Q I h
 refine PySem.W.methodCall_KW (pl:=pl) (jN (ho pins s σ H _ I h) fun u s1 ⟨x,H1,I1,rx,a,dx,fs,ex,ea,l,q⟩=>?_) ht
 subst ex
 obtain rfl:u=Value.ref a:=rx
 refine dF I1 ea c hm l ?_
 exact PySem.W.callWith_K0 (first:=[.ref a]) I1.kIn hm.kp (nO (us:=[.ref a]) (vs:=[.ref a]) (dvs:=[]) G (hr.mono hk) b .nil hx I1 (.cons rfl .nil) q)
theorem oI {CX:yT} {P:Program} {w:World} {K:PySem.W.Frag} {mg:Str→Option Value} {base:Heap} {N:List Str} {qual:Str} {scope:Scope} {f:Addr} {cd:Value} {A:Around} {outer:List Env} {s:Shared} {H:Hp} {E:XK} :
  PassesOwn (model (v8 CX P w K mg base N qual scope f cd A outer s H E).prog (v8 CX P w K mg base N qual scope f cd A outer s H E).w) (v8 CX P w K mg base N qual scope f cd A outer s H E).A (v8 CX P w K mg base N qual scope f cd A outer s H E).env (v8 CX P w K mg base N qual scope f cd A outer s H E).xe:=by
 intro e s' h
 exact PassesOwn.leaving (Q₁:=fun e s''=>CX outer H s E e s'') (E₁:=fun e' s''=>CX outer H s E e' s'') e s' h
end
end L2
namespace L2
open PySem PySem.Spec PyProof.Rows
section
variable {κ:Type} [DecidableEq κ]
def qZ (kvs:List (κ×V)) (k:κ):Option V:=(kvs.find? fun kv=>decide (kv.1=k)).map (·.2)
def vN (kvs:List (κ×V)) (k:κ) (v:V):List (κ×V) :=
 if (kvs.any fun kv=>decide (kv.1=k))=true then kvs.map (fun kv=>if kv.1=k then (kv.1,v) else kv) else kvs++[(k,v)]
theorem valV_nil {k:κ}:qZ ([]:List (κ×V)) k=none:=rfl
theorem Q0 {p:κ×V} {r:List (κ×V)} {k:κ} (e:p.1=k):qZ (p::r) k=some p.2:=by simp [qZ,List.find?_cons,e]
theorem v9 {p:κ×V} {r:List (κ×V)} {k:κ} (e:¬p.1=k):qZ (p::r) k=qZ r k:=by simp [qZ,List.find?_cons,e]
theorem sK (k:κ):∀kvs:List (κ×V),(kvs.any fun kv=>decide (kv.1=k))=(qZ kvs k).isSome
 |[]=>rfl
 |p::r=>by
  rw [List.any_cons]
  by_cases e:p.1=k
  ·simp only [Q0 e,decide_eq_true e,Bool.true_or,Option.isSome_some]
  ·rw [v9 e,decide_eq_false e,Bool.false_or];exact sK k r
theorem D8 (kvs:List (κ×V)) (k:κ) (v:V):(vN kvs k v).length≤kvs.length+1:=by
 unfold vN
 split
 ·rw [List.length_map];omega
 ·rw [List.length_append,List.length_cons,List.length_nil];omega
theorem iA {kvs:List (κ×V)} {k:κ} (v:V) (h:qZ kvs k=none):vN kvs k v=kvs++[(k,v)]:=by
 unfold vN
 rw [sK,h]
 exact if_neg (by decide)
theorem RelO.getD {o:Option V} {u:Option Value} {d:V} {d':Value} (r:RelO o u) (rd:RelV d d'):RelV (o.getD d) (u.getD d'):=by
 cases o with
 |none=>cases u with
  |none=>exact rd
  |some _=>exact (show False from r).elim
 |some _=>cases u with
  |none=>exact (show False from r).elim
  |some _=>exact r
theorem KV.val {kvs:List (κ×V)} {vs:List (κ×Value)} (r:KV kvs vs) (k:κ):RelO (qZ kvs k) (valueAt vs k):=by
 unfold KV at r
 induction r with
 |nil=>exact True.intro
 |@cons p q ps qs h t ih =>
  obtain ⟨h1,h2⟩:=h
  by_cases e:p.1=k
  ·have e':q.1=k:=h1.symm.trans e
   have b:valueAt (q::qs) k=some q.2:=by simp [valueAt,List.find?_cons,e']
   rw [Q0 e,b];exact h2
  ·have e':¬q.1=k:=fun z=>e (h1.trans z)
   have b:valueAt (q::qs) k=valueAt qs k:=by simp [valueAt,List.find?_cons,e']
   rw [v9 e,b];exact ih
theorem KV.any {kvs:List (κ×V)} {vs:List (κ×Value)} (r:KV kvs vs) (k:κ):(kvs.any fun kv=>decide (kv.1=k))=vs.any fun kv=>decide (kv.1=k):=by
 unfold KV at r
 induction r with
 |nil=>rfl
 |cons h t ih=>rw [List.any_cons,List.any_cons,ih,h.1]
theorem KV.repl {kvs:List (κ×V)} {vs:List (κ×Value)} (r:KV kvs vs) (k:κ) {y:V} {u:Value} (ry:RelV y u) :
  KV (kvs.map fun kv=>if kv.1=k then (kv.1,y) else kv) (vs.map fun kv=>if kv.1=k then (kv.1,u) else kv):=by
 unfold KV at r ⊢
 induction r with
 |nil=>exact .nil
 |@cons p q ps qs h t ih =>
  rw [List.map_cons,List.map_cons]
  refine .cons ?_ ih
  obtain ⟨h1,h2⟩:=h
  by_cases e:p.1=k
  ·rw [if_pos e,if_pos (h1.symm.trans e)];exact ⟨h1,ry⟩
  ·rw [if_neg e,if_neg (fun z=>e (h1.trans z))];exact ⟨h1,h2⟩
theorem KV.put {kvs:List (κ×V)} {vs:List (κ×Value)} (r:KV kvs vs) (k:κ) {y:V} {u:Value} (ry:RelV y u):KV (vN kvs k y) (stored vs k u):=by
 unfold vN stored
 rw [r.any k]
 by_cases e:(vs.any fun kv=>decide (kv.1=k))=true
 ·rw [if_pos e,if_pos e];exact r.repl k ry
 ·rw [if_neg e,if_neg e];exact Paired.snoc r ⟨rfl,ry⟩
theorem KV.length {kvs:List (κ×V)} {vs:List (κ×Value)} (r:KV kvs vs):kvs.length=vs.length:=Paired.length r
end
theorem oR {P:Program} {w:World} {k:j6} {u:Value} (r:RelV (kV k) u):(yJ P w).is k u=true:=by
 cases k with
 |inl i=>obtain ⟨t,e⟩:=(show ∃t,u=Value.int i t from r);subst e;exact DZ P w i t
 |inr x=>obtain ⟨t,e⟩:=(show ∃t,u=Value.str x t from r);subst e;exact DY P w x t
theorem rV {P:Program} {w:World}:∀{ks:List j6} {us:List Value},Vals (ks.map kV) us→ItemsAre (yJ P w) ks us
 |[],_,r=>by rw [List.map_nil] at r;cases r;exact .nil
 |k::ks,_,r=>by
  rw [List.map_cons] at r
  cases r with
  |cons h t=>exact .cons (oR h) (rV t)
abbrev KT (H:Hp):List (List j6×V)→List (List j6×Addr×Value)→Prop:=Paired fun p q=>p.1=q.1∧H q.2.1=some (.tup (p.1.map kV))∧RelV p.2 q.2.2
theorem KT.val {H:Hp} {kvs:List (List j6×V)} {xs:List (List j6×Addr×Value)} (r:KT H kvs xs) (k:List j6):RelO (qZ kvs k) ((atKey xs k).map (·.2)):=by
 induction r with
 |nil=>exact True.intro
 |@cons p q ps qs h t ih =>
  obtain ⟨h1,_,h2⟩:=h
  by_cases e:p.1=k
  ·have e':q.1=k:=h1.symm.trans e
   have b:atKey (q::qs) k=some q.2:=by simp [atKey,List.find?_cons,e']
   rw [Q0 e,b];exact h2
  ·have e':¬q.1=k:=fun z=>e (h1.trans z)
   have b:atKey (q::qs) k=atKey qs k:=by simp [atKey,List.find?_cons,e']
   rw [v9 e,b];exact ih
section
variable {P:Program} {w:World} {H:Hp} {h:Heap} {a:Addr}
theorem wK {u:HO} (ok:HOk P w H h) (e:Rd H a u):ObjOk P w H h a u:=e.ok ok
theorem oY {kvs:List (j6×V)} (ok:HOk P w H h) (e:Rd H a (.dK kvs)):kvs.length≤sizeLine∧(a == sysModules)=false∧∃vs,KV kvs vs∧h.DictOf (yJ P w) a vs :=
 show ObjOk P w H h a (.dK kvs) from wK ok e
theorem LR {kvs:List (j6×V)} (ok:HOk P w H h) (e:H a=some (.dK kvs)):kvs.length≤sizeLine∧(a == sysModules)=false∧∃vs,KV kvs vs∧h.DictOf (yJ P w) a vs:=oY ok (.inl e)
theorem uY {ks:List j6} (ok:HOk P w H h) (e:H a=some (.tup (ks.map kV))):(tupleKind (yJ P w)).is h ks a:=by
 obtain ⟨_,its,r,o,h1,h2,n,h3⟩:=(show ObjOk P w H h a (.tup (ks.map kV)) from ok a _ e)
 exact ⟨o,its.toArray,n,h1,h2,h3,by simpa using rV r⟩
theorem wN {kvs:List (List j6×V)} (ok:HOk P w H h) (e:Rd H a (.dT kvs)):kvs.length≤sizeLine∧(a == sysModules)=false∧
  ∃xs,KT H kvs xs∧h.DictOfH (tupleKind (yJ P w)) a xs:=by
 obtain ⟨z,y,xs,r,o,es,ep,h1,h2,h3,h4,h5⟩:=(show ObjOk P w H h a (.dT kvs) from wK ok e)
 refine ⟨z,y,xs,r,o,es,ep,h1,h2,h3,h4,fun x hx=>?_,h5⟩
 have all:∀{l:List (List j6×V)} {m:List (List j6×Addr×Value)},KT H l m→∀x∈m,(tupleKind (yJ P w)).is h x.1 x.2.1:=by
  intro l m q
  induction q with
  |nil=>intro x hx;exact nomatch hx
  |@cons p q ps qs hq t ih =>
   intro x hx
   rcases List.mem_cons.mp hx with e|hx
   ·subst e
    exact uY ok (by rw [← hq.1];exact hq.2.1)
   ·exact ih x hx
 exact all r x hx
end
def DGet (H:Hp) (a:Addr) (y:V) (r:Option V):Prop :=
 (∃kvs k,Rd H a (.dK kvs)∧y=kV k∧r=qZ kvs k)∨∃kvs k b,Rd H a (.dT kvs)∧y=.ref b∧H b=some (.tup (k.map kV))∧r=qZ kvs k
def DPut (H:Hp) (a:Addr) (y v:V) (H':Hp):Prop :=
 (∃kvs k,H a=some (.dK kvs)∧y=kV k∧kvs.length<sizeLine∧H'=upd H a (.dK (vN kvs k v)))∨
 ∃kvs k b,H a=some (.dT kvs)∧y=.ref b∧H b=some (.tup (k.map kV))∧kvs.length<sizeLine∧H'=upd H a (.dT (vN kvs k v))
theorem DGet.k {H:Hp} {a:Addr} {kvs:List (j6×V)} {k:j6} (e:H a=some (.dK kvs)):DGet H a (kV k) (qZ kvs k):=.inl ⟨kvs,k,.inl e,rfl,rfl⟩
theorem DGet.t {H:Hp} {a b:Addr} {kvs:List (List j6×V)} {k:List j6} (e:H a=some (.dT kvs)) (eb:H b=some (.tup (k.map kV))):DGet H a (.ref b) (qZ kvs k):=.inr ⟨kvs,k,b,.inl e,rfl,eb,rfl⟩
theorem DPut.k {H:Hp} {a:Addr} {kvs:List (j6×V)} {k:j6} {v:V} (e:H a=some (.dK kvs)) (hl:kvs.length<sizeLine):DPut H a (kV k) v (upd H a (.dK (vN kvs k v))):=.inl ⟨kvs,k,e,rfl,hl,rfl⟩
theorem DPut.t {H:Hp} {a b:Addr} {kvs:List (List j6×V)} {k:List j6} {v:V} (e:H a=some (.dT kvs)) (eb:H b=some (.tup (k.map kV))) (hl:kvs.length<sizeLine) :
  DPut H a (.ref b) v (upd H a (.dT (vN kvs k v))):=.inr ⟨kvs,k,b,e,rfl,eb,hl,rfl⟩
section
variable {X:Cx} {pins:List (Addr×Obj)} {σ:St} {H:Hp} {s:Shared} {a:Addr} {y v:V} {u r:Value} {o:Option V} {A:Around} {E:Value→Shared→Prop}
theorem Inv.big (I:Inv X pins σ H s):sysModules<s.heap.objs.size:=by
 have h:mainGlobals<s.heap.objs.size:=(I.mod.glob.keeps I.bk).lt
 exact Nat.lt_trans (by decide) h
theorem FY {Q:Value→Shared→Prop} (hu:A.units+1<cLine) (I:Inv X pins σ H s) (g:DGet H a y (some v)) (ry:RelV y u) (h:∀w' s',Inv X pins σ H s'→RelV v w'→Q w' s') :
  wpAny (model X.prog X.w) A (getItem (.ref a) u) Q E s:=by
 rcases g with ⟨kvs,k,e,ey,l⟩|⟨kvs,k,b,e,ey,eb,l⟩
 ·subst ey
  obtain ⟨z,hd,vs,rel,dd⟩:=oY I.hok e
  obtain ⟨w',hw,rw'⟩:=RelO.some_of (v:=v) (o:=valueAt vs k) (by rw [l];exact rel.val k)
  exact wpAny_getItem_of (oR ry) dd.mapOf hw (h w' _ (I.tok _) rw')
 ·subst ey
  cases (show u=Value.ref b from ry)
  obtain ⟨z,hd,xs,rel,dd⟩:=wN I.hok e
  obtain ⟨w',hw,rw'⟩:=RelO.some_of (v:=v) (o:=(atKey xs k).map (·.2)) (by rw [l];exact rel.val k)
  obtain ⟨p,hp,hp2⟩:=Option.map_eq_some_iff.mp hw
  refine wpAny_getItem_heap (tupleKind_room_in1 hu) (uY I.hok eb) dd hp ?_
  rw [hp2]
  exact h w' _ (I.tok _) rw'
theorem IO {h':Heap} {t':Nat} {ob:HO} (I:Inv X pins σ H s) (mu:gF (H a)) (hs:Heap.SameBut a s.heap h') (he:∃q,h'.get? a=some q) (new:ObjOk X.prog X.w (upd H a ob) h' a ob) :
  Inv X pins σ (upd H a ob) {s with heap:=h',toks:=t'} :=
 I.write (x:=a) (e:=a) mu (.inl rfl) (fun b q hb z=>(hs.2 b hb).trans z) he new
theorem K0 {P:Program} {w:World} {H':Hp} {h':Heap} {kvs:List (j6×V)} {vs:List (j6×Value)} (z:kvs.length≤sizeLine) (hd:(a == sysModules)=false) (rel:KV kvs vs) (dd:h'.DictOf (yJ P w) a vs) :
  ObjOk P w H' h' a (.dK kvs):=⟨z,hd,vs,rel,dd⟩
end
section
variable {X:Cx} {pins:List (Addr×Obj)} {σ:St} {H:Hp} {s:Shared} {a:Addr} {kvs:List (j6×V)} {k:j6} {u:Value} {A:Around} {E:Value→Shared→Prop}
end
def pA (i:Expr):Prop:=∀ov iv,subscripted i false ov iv=operate [ov,iv] (getItem ov iv)
theorem tP {prog:Program} {w:World} {A:Around} {E:Value→Shared→Prop} {s:Shared} {env:Env} {value slice:Expr} {pos:Pos} {T id:String} {Q:Value→Shared→Prop}
  (hl:typeLookup (.type T) "__getitem__"=pure (some (.builtin id))) (hs:pA slice)
  (h:wpAny (model prog w) A (eval value env) (fun o s₁=>wpAny (model prog w) A (eval slice env) (fun i s₂=>s₂.TypeIs o T∧wpAny (model prog w) A (getItem o i) Q E s₂) E s₁) E s) :
  wpAny (model prog w) A (eval (.Subscript value slice pos) env) Q E s:=by
 refine Subscript_ (wpAny_mono h (fun o s₁ h₁=>wpAny_mono h₁ (fun i s₂ h₂=>?_) fun _ _ x=>x) fun _ _ x=>x)
 obtain ⟨hT,h₂⟩:=h₂
 unfold subscriptTail
 refine wpAny_bind ?_
 rw [getitemInPython_of_ne hT.not_modules]
 refine wpAny_bind (wpAny_specialOf hT hl ?_)
 have fin:wpAny (model prog w) A (subscripted slice false o i) (fun r s₃=>wpAny (model prog w) A (letTemporaryGo value o r >>= fun _=>pure r) Q E s₃) E s₂:=by
  rw [hs o i]
  exact wpAny_operating (wpAny_mono h₂ (fun r s₃ h₃=>wpAny_bind (wpAny_letTemporaryGo (wpAny_pure h₃))) fun _ _ x=>x)
 first
  |exact wpAny_pure (wpAny_bind fin)
  |exact wpAny_bind (wpAny_pure (wpAny_bind fin))
  |exact wpAny_bind fin
theorem EB {X:Cx} {pins:List (Addr×Obj)} {σ:St} {H:Hp} {s:Shared} {a:Addr} {y:V} {o:Option V} (I:Inv X pins σ H s) (g:DGet H a y o):s.TypeIs (.ref a) "dict":=by
 rcases g with ⟨kvs,k,e,_,_⟩|⟨kvs,k,b,e,_,_,_⟩
 ·obtain ⟨_,_,vs,_,dd⟩:=oY I.hok e
  exact dd.typeIs
 ·obtain ⟨_,_,xs,_,dd⟩:=wN I.hok e
  exact dd.typeIs
def K7 (td ty:TE):TE:=fun σ H Q=>td σ H fun x H1=>ty σ H1 fun y H2=>∃a v,x=.ref a∧DGet H2 a y (some v)∧Q v H2
section
variable {X:Cx} {o i e value:Expr} {pos pos' tpos:Pos} {td ty tv:TE}
theorem t7 (hu:X.A.units+1<cLine) (ho:PE X o td) (hi:PE X i ty) (hs:pA i):PE X (.Subscript o i pos) (K7 td ty):=by
 intro pins s σ H Q I h
 refine tP PySem.F.slot_dict_getitem.lookup hs (jN (ho pins s σ H _ I h) fun u s1 ⟨x,H1,I1,rx,q1⟩=>jN (hi pins s1 σ H1 _ I1 q1) fun iv s2 ⟨y,H2,I2,ry,a,v,ex,g,q2⟩=>?_)
 subst ex
 obtain rfl:u=Value.ref a:=rx
 exact ⟨EB I2 g,FY hu I2 g ry fun w' s3 I3 rw'=>⟨v,H2,I3,rw',q2⟩⟩
end
theorem HC {P:Program} {w:World} {H:Hp} (h:Heap) (hb:sysModules<h.objs.size):ObjOk P w H (h.push {cls:=.type "dict",data:=.dict #[]}) h.objs.size (.dK []) :=
 ⟨Nat.zero_le _,beq_eq_false_iff_ne.mpr (Ne.symm (Nat.ne_of_lt hb)),[],.nil,Heap.DictOf.new h⟩
section
variable {X:Cx} {pos:Pos}
end
def n3:List (TE×TE)→St→Hp→(List (V×V)→Hp→Prop)→Prop
 |[],_,H,Q=>Q [] H
 | (tk,tv)::r,σ,H,Q=>tk σ H fun x H1=>tv σ H1 fun y H2=>n3 r σ H2 fun ps H3=>Q ((x,y)::ps) H3
abbrev VV:List (V×V)→List (Value×Value)→Prop:=Paired fun p q=>RelV p.1 q.1∧RelV p.2 q.2
def lE (X:Cx) (pos:Pos) (keys:List (Option Expr)) (values:List Expr) (trs:List (TE×TE)):Prop :=
 ∀(pins:List (Addr×Obj)) (s:Shared) (σ:St) (H:Hp) (Q:List (V×V)→Hp→Prop),Inv X pins σ H s→n3 trs σ H Q→
  wpAny (model X.prog X.w) X.A (evalPairs (pairTrees keys values X.env pos)) (fun vs s'=>∃ps H',Inv X pins σ H' s'∧VV ps vs∧Q ps H') X.xe s
theorem HP {X:Cx} {pos:Pos}:lE X pos [] [] []:=fun pins s σ H Q I h=>pairTrees_nil_walk ⟨[],H,I,.nil,h⟩
theorem iB {X:Cx} {pos:Pos} {k v:Expr} {ks:List (Option Expr)} {vs:List Expr} {tk tv:TE} {trs:List (TE×TE)} (hk:PE X k tk) (hv:PE X v tv) (hr:lE X pos ks vs trs) :
  lE X pos (some k::ks) (v::vs) ((tk,tv)::trs):=fun pins s σ H Q I h =>
 pairTrees_cons_walk (jN (hk pins s σ H _ I h) fun u s1 ⟨x,H1,I1,rx,q1⟩=>jN (hv pins s1 σ H1 _ I1 q1) fun w2 s2 ⟨y,H2,I2,ry,q2⟩ =>
  jN (hr pins s2 σ H2 _ I2 q2) fun ws s3 ⟨ps,H3,I3,rel,q3⟩=>⟨(x,y)::ps,H3,I3,.cons ⟨rx,ry⟩ rel,q3⟩)
def d9 (kvs more:List (j6×V)):List (j6×V):=more.foldl (fun acc kv=>vN acc kv.1 kv.2) kvs
theorem KV.merge:∀{more:List (j6×V)} {rs:List (j6×Value)} {kvs:List (j6×V)} {vs:List (j6×Value)},KV more rs→KV kvs vs→KV (d9 kvs more) (merged vs rs):=by
 intro more rs kvs vs r
 unfold KV at r
 induction r generalizing kvs vs with
 |nil=>intro q;exact q
 |@cons p q ps qs h t ih =>
  intro r0
  have e:KV (vN kvs p.1 p.2) (stored vs q.1 q.2):=by
   have:=r0.put p.1 h.2
   rw [← h.1];exact this
  exact ih e
theorem pS:∀(more kvs:List (j6×V)),(d9 kvs more).length≤kvs.length+more.length
 |[],kvs=>by show kvs.length≤kvs.length+0;omega
 |p::r,kvs=>by
  have h1:=pS r (vN kvs p.1 p.2)
  have h2:=D8 kvs p.1 p.2
  show (d9 (vN kvs p.1 p.2) r).length≤_
  rw [List.length_cons];omega
theorem rH {P:Program} {w:World}:∀{kvs:List (j6×V)} {ws:List (Value×Value)},VV (kvs.map fun kv=>(kV kv.1,kv.2)) ws→∃rs,Carries (yJ P w) ws rs∧KV kvs rs
 |[],_,r=>by rw [List.map_nil] at r;cases r;exact ⟨[],True.intro,.nil⟩
 |p::kvs,_,r=>by
  rw [List.map_cons] at r
  cases r with
  |@cons a b as bs h t =>
   obtain ⟨rs,c,q⟩:=rH (P:=P) (w:=w) t
   obtain ⟨b1,b2⟩:=b
   exact ⟨(p.1,b2)::rs,⟨oR h.1,rfl,c⟩,.cons ⟨rfl,h.2⟩ q⟩
def K6 (trs:List (TE×TE)):TE:=fun σ H Q=>∀p,H p=none→n3 trs σ (upd H p (.dK [])) fun ps H2=>H2 p=some (.dK [])∧∃kvs:List (j6×V),ps=kvs.map (fun kv=>(kV kv.1,kv.2))∧kvs.length≤15∧Q (.ref p) (upd H2 p (.dK (d9 [] kvs)))
theorem HU {X:Cx} {pos:Pos} {keys:List (Option Expr)} {values:List Expr} {trs:List (TE×TE)} (h:lE X pos keys values trs) (hall:keys.all (·.isSome)=true) (hl:keys.length=values.length) (h0:keys≠[])
  (h15:keys.length≤15):PE X (.Dict keys values pos) (K6 trs):=by
 intro pins s σ H Q I q
 have hn:=I.hok.fresh (Nat.le_refl s.heap.objs.size)
 have I1:=I.laid (a:=s.heap.objs.size) (o:=.dK []) (h':=s.heap.push {cls:=.type "dict",data:=.dict #[]}) (t':=s.toks) (fun _ _ q=>Heap.get?_push_of_some _ q) (Nat.le_refl _) (HC s.heap I.big)
 refine wpAny_Dict_walk (knd:=yJ X.prog X.w) hall hl h0 h15 (jN (h pins _ σ _ _ I1 (q _ hn)) fun ws s2 ⟨ps,H2,I2,rel,e,kvs,ep,lk,q2⟩=>?_)
 subst ep
 obtain ⟨rs,c,rk⟩:=rH (P:=X.prog) (w:=X.w) rel
 obtain ⟨z,hd,vs0,r0,dd⟩:=LR I2.hok e
 cases r0
 refine ⟨rs,c,dd,fun h' dd' hs=>⟨.ref s.heap.objs.size,_,?_,rfl,q2⟩⟩
 have hz:(d9 [] kvs).length≤sizeLine:=by
  have h1:=pS kvs []
  rw [List.length_nil] at h1
  rw [sizeLine_eq];omega
 have he:∃q,h'.get? s.heap.objs.size=some q:=let ⟨q,_,_,hq,_⟩:=dd';⟨q,hq⟩
 exact IO I2 (by rw [e];exact True.intro) hs he (K0 hz hd (rk.merge .nil) dd')
end L2
namespace L2
open PySem PySem.Spec PyProof.Rows
section
variable {X:Cx} {tg:Expr}
end
section
variable {X:Cx}
end
end L2
namespace L2
open PySem PySem.Spec PyProof.Rows
inductive Kd where
 |plain|basin|pump
structure MeK (P:Program) (w:World) (K:PySem.W.Frag) (mg:Str→Option Value) (base:Heap) (k:Nat) (cs:Kd→Addr) (m:Str) (ps:List Str) (ss:Kd→Sp):Prop where
 ex:∀kd,MeD P w K mg base k (cs kd) m ps (ss kd)
def uL (cs:Kd→Addr) (m:Str) (ss:Kd→Sp) (ta:TE) (t:TA):TE:=fun σ H Q=>ta σ H fun x H1=>∃(kd:Kd) (a dx:Addr) (fs:List (Str×V)),x=.ref a∧H1 a=some (.ins (cs kd) dx fs)∧fs.lookup m=none∧
 t σ H1 fun vs H2=>ss kd (x::vs) H2 Q E0
section
variable {X:Cx} {k k':Nat} {x m:Str} {cs:Kd→Addr} {ps:List Str} {ss:Kd→Sp} {p pos apos:Pos} {o e:Expr} {es:List Expr} {ta:TE} {t:TA}
theorem wL {pl:Sem Bool} (M:MeK X.prog X.w X.K X.mg X.base k cs m ps ss) (hr:Room k' X.A) (ho:PE X o ta) (ha:PA X (e::es) t) (hk:k≤k':=by decide)
  (hst:starEach (e::es) X.env=(false,eval e X.env)::starEach es X.env:=by rfl) (hpl:(backTo pos (starEach es X.env)).any (·.1)=false:=by rfl)
  (ht:eval (.Call (.Attribute o m apos) (e::es) [] pos) X.env=(do
   let ov ← eval o X.env
   standAt apos.atName
   let (f,first) ← holding [ov] (getMethod ov m pl)
   callWith pos f first (backTo pos (starEach (e::es) X.env)) (backToKw pos (keywordEach [] X.env))):=by rfl) :
  PE X (.Call (.Attribute o m apos) (e::es) [] pos) (uL cs m ss ta t):=by
 intro pins s σ H Q I h
 refine PySem.W.methodCall_KW (pl:=pl) (jN (ho pins s σ H _ I h) fun u s1 ⟨x,H1,I1,rx,kd,a,dx,fs,ex,ea,l,q⟩=>?_) ht
 obtain ⟨c,f,fd,hm,G,b⟩:=(M.ex kd).ex
 subst ex
 obtain rfl:u=Value.ref a:=rx
 refine dF I1 ea c hm l ?_
 refine PySem.W.callWith_K (first:=[.ref a]) (h₀:=X.base) I.ok.mod.kin hm.kp (jN (ha pos pins s1 σ H1 _ I1 q) fun us s2 ⟨vs,H2,I2,r,q2⟩=>⟨I2.kIn,?_⟩) hst hpl
 exact dS (us:=.ref a::us) (vs:=.ref a::vs) (dvs:=[]) G (hr.mono hk) b .nil Q8 I2 (.cons rfl r) (by rw [List.append_nil];exact q2)
theorem oH {pl:Sem Bool} (M:MeK X.prog X.w X.K X.mg X.base k cs m ps ss) (hr:Room k' X.A) (ho:PE X o ta) (hk:k≤k':=by decide)
  (ht:eval (.Call (.Attribute o m apos) [] [] pos) X.env=(do
   let ov ← eval o X.env
   standAt apos.atName
   let (f,first) ← holding [ov] (getMethod ov m pl)
   callWith pos f first (backTo pos (starEach [] X.env)) (backToKw pos (keywordEach [] X.env))):=by rfl) :
  PE X (.Call (.Attribute o m apos) [] [] pos) (uL cs m ss ta fX):=by
 intro pins s σ H Q I h
 refine PySem.W.methodCall_KW (pl:=pl) (jN (ho pins s σ H _ I h) fun u s1 ⟨x,H1,I1,rx,kd,a,dx,fs,ex,ea,l,q⟩=>?_) ht
 obtain ⟨c,f,fd,hm,G,b⟩:=(M.ex kd).ex
 subst ex
 obtain rfl:u=Value.ref a:=rx
 refine dF I1 ea c hm l ?_
 exact PySem.W.callWith_K0 (first:=[.ref a]) I1.kIn hm.kp (dS (us:=[.ref a]) (vs:=[.ref a]) (dvs:=[]) G (hr.mono hk) b .nil Q8 I1 (.cons rfl .nil) q)
end
end L2
namespace L2
open PySem PySem.Spec PyProof.Rows
section
variable {X:Cx} {tg:Expr}
end
section
variable {X:Cx}
end
end L2
namespace L2
open PySem PySem.Spec PyProof.Rows
def iY (w:World) (K:PySem.W.Frag) (a:Addr):Prop:=∃es n,K.lookup a=some ⟨.type "dict",none,.dict es n,#[]⟩∧PySem.W.KeysLit w.params es.toList∧(a == sysModules)=false
def LZ (w:World) (K:PySem.W.Frag) (td ty:TE):TE:=fun σ H Q=>td σ H fun x H1=>ty σ H1 fun y H2=>∃(a:Addr) (z:Str) (u:Value) (v:V),x=.ref a∧iY w K a∧y=.str z∧PySem.W.nsIn K a z=some (some u)∧RelV v u∧Q v H2
def HK (w:World) (K:PySem.W.Frag) (ty td:TE):TE:=fun σ H Q=>ty σ H fun y H1=>td σ H1 fun x H2=>∃(a:Addr) (z:Str) (r:Option Value),x=.ref a∧iY w K a∧y=.str z∧PySem.W.nsIn K a z=some r∧Q (.bl (!r.isSome)) H2
section
variable {X:Cx} {K:PySem.W.Frag} {w:World} {o i:Expr} {pos:Pos} {td ty:TE}
theorem JH (ho:PE X o td) (hi:PE X i ty) (hs:pA i) (hK:X.K=K:=by rfl) (hw:X.w=w:=by rfl):PE X (.Subscript o i pos) (LZ w K td ty):=by
 subst hK hw
 intro pins s σ H Q I h
 refine tP PySem.F.slot_dict_getitem.lookup hs (jN (ho pins s σ H _ I h) fun u s1 ⟨x,H1,I1,rx,q1⟩=>jN (hi pins s1 σ H1 _ I1 q1) fun iv s2 ⟨y,H2,I2,ry,a,z,uv,v,ex,T,ey,e,rv,q2⟩=>?_)
 subst ex ey
 obtain rfl:u=Value.ref a:=rx
 obtain ⟨t,rfl⟩:=ry
 obtain ⟨es,n,hl,hk,_⟩:=T
 have hm:=PySem.W.mapOf_K (prog:=X.prog) I2.kIn hl hk
 exact ⟨hm.typeIs,wpAny_getItem_of (strKind_is X.prog X.w z t) hm (PySem.W.find_K hl e) ⟨v,H2,I2.tok _,rv,q2⟩⟩
theorem EK (hi:PE X i ty) (ho:PE X o td) (hK:X.K=K:=by rfl) (hw:X.w=w:=by rfl):PC X .NotIn i o (HK w K ty td):=by
 subst hK hw
 intro pins s σ H Q I h
 refine jN (hi pins s σ H _ I h) fun iv s1 ⟨y,H1,I1,ry,q1⟩=>jN (ho pins s1 σ H1 _ I1 q1) fun u s2 ⟨x,H2,I2,rx,a,z,r,ex,T,ey,e,q2⟩=>?_
 subst ex ey
 obtain rfl:u=Value.ref a:=rx
 obtain ⟨t,rfl⟩:=ry
 obtain ⟨es,n,hl,hk,lo⟩:=T
 have hm:=PySem.W.mapOf_K (prog:=X.prog) I2.kIn hl hk
 refine wpAny_notIn_of (strKind_is X.prog X.w z t) lo hm ?_
 rw [PySem.W.find_K hl e]
 exact ⟨.bl (!r.isSome),H2,I2.tok _,rfl,q2⟩
end
theorem zC {K:PySem.W.Frag} {H:Hp} {a:Addr} {o:Obj} {its:List Value} {n:Nat} {xs:List V} (l:K.lookup a=some o) (c:o.cls=.type "tuple") (d:o.data=.seq its.toArray n) (z:its.length≤sizeLine) (v:Vals xs its):SqT K H a xs :=
 .inr ⟨o,its.toArray,n,l,c,d,by rw [List.size_toArray];exact z,v⟩
end L2
namespace L2
open PySem PySem.Spec PyProof.Rows
section
variable {X:Cx} {pins:List (Addr×Obj)} {σ:St} {H:Hp} {s:Shared} {A:Around}
end
section
variable {X:Cx}
def IY:V→List V→Hp→VK→Prop:=fun x vs H Q=>∃(l:Addr) (xs:List V) (y:V) (j:Nat),x=.ref l∧vs=[y]∧H l=some (.lst xs)∧vL y=true∧xs.all vL=true∧j<xs.length∧j≤1000∧vF (xs.getD j .non) y=true∧(∀i,i<j→vF (xs.getD i .non) y=false)∧Q (.int (j:Int)) H
theorem iC:pH X "list.index" IY:=by
 intro pins s σ H x vs v us Q I rx rv h
 obtain ⟨l,xs,y,j,rfl,rfl,hH,fy,fx,hj,hj2,he,hno,q⟩:=h
 cases rx
 obtain ⟨u,rfl,ru⟩:=rv.one
 obtain ⟨z,its,n,r,hl,e⟩:=I.lstM hH
 have get:∀(m:Nat) (hm:m<its.toArray.size),eY y its.toArray[m]=vF (xs.getD m .non) y:=fun m hm=>oM (mJ r hm) (mT fx (by rw [hl];simpa using hm))
 have hjs:j<its.toArray.size:=by rw [List.size_toArray,← hl];exact hj
 refine call_meets F.slot_list_index ⟨_,e,rfl⟩ F.entry_list_index (F.args_list_index_2 _ _) (SeqAt.list_indexAt l its.toArray n none #[] u (eY y) j hjs (by omega) (by rw [get j hjs];exact he) (fun m hm hlt=>by rw [get m hm];exact hno m hlt)) ⟨e,fun w hw=>nA ru fy r fx w (by simpa using hw),⟨.int (j:Int),H,I.tok _,⟨_,rfl⟩,q⟩⟩
end
end L2
namespace L2
open PySem PySem.Spec PyProof.Rows
end L2
namespace L2
open PySem PySem.Spec PyProof.Rows
end L2
namespace L2
open PySem PySem.Spec PyProof.Rows
end L2
namespace L2
open PySem PySem.Spec PyProof.Rows
section
variable {X:Cx}
end
end L2
namespace L2
open PySem PySem.Spec PyProof.Rows
end L2
namespace L2
open PySem PySem.Spec PyProof.Rows
section
variable {X:Cx}
end
end L2
namespace L2
open PySem PySem.Spec PyProof.Rows
end L2
namespace L2
open PySem PySem.Spec PyProof.Rows
section
variable {X:Cx} {tg:Expr}
end
end L2
namespace L2
open PySem PySem.Spec PyProof.Rows
end L2
namespace L2
open PySem PySem.Spec PyProof.Rows
section
variable {X:Cx} {pins:List (Addr×Obj)} {σ:List (Option V)} {H:Hp} {s:Shared} {h':Heap}
theorem Inv.turnedN {t':Nat} {fp:List Addr} (I:Inv X pins σ H s) (k:∀b o,b∉fp→s.heap.get? b=some o→h'.get? b=some o) (hf:∀b∈fp,zG X pins H b):Inv X pins σ H {s with heap:=h',toks:=t'}:=by
 have nit:∀b u,H b=some u→b∉fp:=fun b u e z=>by rw [(hf b z).1] at e;cases e
 have hL:X.env.locals∉fp:=fun z=>(hf _ z).2.1 rfl
 refine I.step (g':=s.gens) (d':=s.drawn) (ch:=fp) (fun b hb=>?_) (fun b o _ _ hc e _=>k b o hc e) (fun b o _ _ hc e _=>⟨o.slots,k b o hc e⟩) (fun _ _ _ _ n=>n)
  (fun b o hc e=>⟨o,k b o hc e⟩) (fun _ _ e=>e) (fun _ _ _ e=>e) (fun b ps e=>⟨#[],by rw [e];simp⟩) (fun m hm=>?_) (fun b u e=>?_) I.bare
 ·obtain ⟨f0,f1,f2,f3,f4,f5⟩:=hf b hb
  exact ⟨f3,f1,f4,f5⟩
 ·obtain ⟨o,es,ep,ho,r⟩:=hm
  exact ⟨o,es,ep,k _ o hL ho,r⟩
 ·refine (I.hok b u e).stay (fun c v hc q=>k c v ?_ q) (fun _ q=>q) fun _ _ q=>q
  rcases hc with z|z
  ·rw [z];exact nit b u e
  ·exact nit c _ z
theorem Inv.laidN {t':Nat} {fp:List Addr} {a:Addr} {o:HO} (I:Inv X pins σ H s) (k:∀b u,b∉fp→s.heap.get? b=some u→h'.get? b=some u) (hf:∀b∈fp,zG X pins H b) (hp:s.heap.objs.size≤a) (new:ObjOk X.prog X.w (upd H a o) h' a o) :
  Inv X pins σ (upd H a o) {s with heap:=h',toks:=t'}:=by
 have hn:=I.hok.fresh hp
 have nit:∀b u,H b=some u→b∉fp:=fun b u e z=>by rw [(hf b z).1] at e;cases e
 have hL:X.env.locals∉fp:=fun z=>(hf _ z).2.1 rfl
 refine I.step (g':=s.gens) (d':=s.drawn) (ch:=fp) (fun b hb=>?_) (fun b o _ _ hc e _=>k b o hc e) (fun b o _ _ hc e _=>⟨o.slots,k b o hc e⟩) (fun b u _ e n=>?_)
  (fun b o hc e=>⟨o,k b o hc e⟩) (fun b xs e=>?_) (fun b u v e=>?_) (fun b ps e=>⟨#[],?_⟩) (fun m hm=>?_) (fun b u e=>?_) I.bare
 ·obtain ⟨f0,f1,f2,f3,f4,f5⟩:=hf b hb
  exact ⟨f3,f1,f4,f5⟩
 ·rw [j4 (Nat.ne_of_lt (Nat.lt_of_lt_of_le (Heap.lt_size e) hp))];exact n
 ·rw [j4 (qF e hn)];exact e
 ·rw [j4 (qF e hn)];exact e
 ·rw [j4 (qF e hn),e];simp
 ·obtain ⟨o,es,ep,ho,r⟩:=hm
  exact ⟨o,es,ep,k _ o hL ho,r⟩
 ·by_cases hb:b=a
  ·subst hb;rw [jF] at e;cases e;exact new
  ·rw [j4 hb] at e
   refine (I.hok b u e).stay (fun c v hc q=>k c v ?_ q) (fun c q=>by rw [j4 (qF q hn)];exact q) fun c xs q=>by rw [j4 (qF q hn)];exact q
   rcases hc with z|z
   ·rw [z];exact nit b u e
   ·exact nit c _ z
end
def pI (K:PySem.W.Frag) (a:Addr):It :=
 ⟨fun i H=>∃xs x,SqL K H a xs∧xs[i]?=some x,
  fun i H v H'=>∃T x,v=.ref T∧H T=none∧H'=upd H T (.tup [.int (i:Int),x])∧∀xs,SqL K H a xs→xs[i]?=some x,
  fun i H=>∃xs,SqL K H a xs∧xs.length≤i⟩
theorem E6 {P:Program} {w:World} {K:PySem.W.Frag} {elts:List Expr} {x1:Nat} {pos:Pos} {a e it:Addr} (hei:e≠it) :
  Turn P w K (.Tuple elts x1 pos) (pI K a) [e,it] e (fun i h=>(∃old,IsEnum h e it i old)∧h.IsListIter it a i) where
 mem:=by simp
 obj:=fun i h st b hb=>by
  obtain ⟨⟨old,he⟩,⟨o1,e1,c1,d1⟩⟩:=st
  simp only [List.mem_cons,List.mem_nil_iff,or_false] at hb
  rcases hb with rfl|rfl
  ·exact ⟨_,he,fun v y=>by have y':Data.fields _=Data.cell v:=y;cases y'⟩
  ·exact ⟨o1,e1,fun v y=>by rw [d1] at y;cases y⟩
 keep:=fun i h h' st k=>by
  obtain ⟨⟨old,he⟩,h1⟩:=st
  exact ⟨⟨old,k _ (by simp) _ he⟩,h1.at fun o e=>k _ (by simp) o e⟩
 item:=by
  intro X hP hw hK hc i pins s σ H E I hf st hg
  subst hP hw hK
  obtain ⟨⟨old,he⟩,h1⟩:=st
  obtain ⟨xs,x,hq1,hx⟩:=hg
  obtain ⟨its1,rv1,p1,_⟩:=I.list hq1
  obtain ⟨u,hu,ru⟩:=rv1.get hx
  refine wpAny_pyNext_enum_item he h1 p1.isList (x:=u) (by simpa using hu) hei fun h' he' h1' hT' hsz hk=>?_
  refine ⟨_,rfl,?_⟩
  refine wpAny_letOwnedTupleGo_enum he' fun h2 he2 hs2=>?_
  have lt:∀{b:Addr} {o:Obj},s.heap.get? b=some o→b<s.heap.objs.size:=fun e=>Heap.lt_size e
  have nT:s.heap.objs.size≠e:=Nat.ne_of_gt (lt he)
  have k2:∀b o,b∉[e,it]→s.heap.get? b=some o→h2.get? b=some o:=fun b o hb q=>by
   simp only [List.mem_cons,List.mem_nil_iff,or_false,not_or] at hb
   exact (hs2.2 b hb.1).trans (hk b o hb.1 hb.2 q)
  have hT2:=(hs2.2 _ nT).trans hT'
  refine ⟨.ref s.heap.objs.size,upd H s.heap.objs.size (.tup [.int (i:Int),x]),I.laidN (t':=s.toks+1) (fp:=[e,it]) k2 hf (Nat.le_refl _) ⟨(by show 2≤sizeLine;decide),[.int i s.toks,u],.cons ⟨_,rfl⟩ (.cons ru .nil),⟨_,hT2,rfl,_,rfl⟩⟩,rfl,?_,?_,?_⟩
  ·exact ⟨_,x,rfl,I.hok.fresh (Nat.le_refl _),rfl,fun zs hzs=>by rw [I.list_inj hzs hq1];exact hx⟩
  ·exact ⟨⟨_,he2⟩,h1'.at fun o q=>(hs2.2 _ hei.symm).trans q⟩
  ·intro b hb
   have:=(hf b hb).1
   rw [j4]
   ·exact this
   ·intro q
    simp only [List.mem_cons,List.mem_nil_iff,or_false] at hb
    obtain ⟨o1,e1,_⟩:=h1
    rcases hb with rfl|rfl
    ·exact nT q.symm
    ·exact Nat.ne_of_lt (lt e1) q
 done:=by
  intro X hP hw hK hc i pins s σ H E I hf st hg
  subst hP hw hK
  obtain ⟨⟨old,he⟩,h1⟩:=st
  obtain ⟨xs,hq1,hx⟩:=hg
  obtain ⟨its1,rv1,p1,_⟩:=I.list hq1
  have l1:=rv1.length
  refine wpAny_pyNext_enum_end (I.ok.hd hc) he h1 p1.isList (by simp;omega) fun h' hk=>⟨rfl,I.turnedN (t':=s.toks) (fp:=[e,it]) (fun b o hb q=>?_) hf⟩
  simp only [List.mem_cons,List.mem_nil_iff,or_false,not_or] at hb
  exact hk b o hb.2 q
 self:=fun _ _ _ _ _ st h=>by obtain ⟨⟨old,he⟩,_⟩:=st;exact wpAny_pyIter_enum he h
section
variable {X:Cx} {elts:List Expr} {x1:Nat} {tpos:Pos}
def LP (K:PySem.W.Frag) (ta:TA):TI:=fun σ H R=>ta σ H fun vs H1=>∃a,vs=[.ref a]∧(∃xs,SqL K H1 a xs)∧R (pI K a) H1
theorem t6 {a:Expr} {ta:TA} {p pos:Pos} (hg:Gl X "enumerate") (hm:X.mg "enumerate"=none) (ha:PA X [a] ta) (hs:starEach [a] X.env=[(false,eval a X.env)]:=by rfl) :
  PI X (.Tuple elts x1 tpos) (.Call (.Name "enumerate" p) [a] [] pos) (LP X.K ta):=by
 intro pins s σ H R I h
 refine Call_ (eC I hg hm boot_enumerate (PyProof.Rows.callWith_type1 (jN (ha pos pins s σ H _ I h) fun us s1 ⟨vs,H1,I1,r1,q1⟩=>?_) hs rfl))
 obtain ⟨a1,e,⟨xs,hq1⟩,q⟩:=q1
 subst e
 cases r1 with
 |cons r rr =>
  cases rr
  cases r
  obtain ⟨its1,rv1,p1,_⟩:=I1.list hq1
  refine call_enumerate_list p1.isList fun h' he hit hsz hk=>?_
  refine wpAny_pyIter_enum he ?_
  refine ⟨_,_,_,_,H1,rfl,I1.kept (t':=s1.toks) hk,E6 (Nat.succ_ne_self _),⟨⟨_,he⟩,hit⟩,fun b hb=>?_,q⟩
  simp only [List.mem_cons,List.mem_nil_iff,or_false] at hb
  have hb':s1.heap.objs.size≤b:=by rcases hb with rfl|rfl<;>simp only [Addr] at *<;>omega
  exact I1.fpOk hb' (I1.hok.fresh hb')
end
end L2
namespace L2
open PySem PySem.Spec PyProof.Rows
end L2
namespace L2
open PySem PySem.Spec PyProof.Rows
section
variable {X:Cx}
end
end L2
namespace L2
open PySem PySem.Spec PyProof.Rows
section
variable {prog:Program} {w:World} {A:Around} {s:Shared} {E:Value→Shared→Prop}
theorem rB {j p:Addr} {i:Nat} {vs:Array Value} {v:Value} {Q:Value→Shared→Prop} (hj:s.heap.IsTupleIter j p i) (hp:s.heap.IsTuple p vs) (hv:vs[i]?=some v) (q:∀h',h'.IsTupleIter j p (i+1)→Heap.SameBut j s.heap h'→Q v {s with heap:=h'}):wpAny (model prog w) A (Builtin.SmallTypes.nextOf (.ref j)) Q E s:=by
 obtain ⟨oj,ej,cj,dj⟩:=id hj;obtain ⟨op,ep,_,np,dp⟩:=hp;unfold Builtin.SmallTypes.nextOf
 refine wpAny_bind (wpAny_callSpecial?_slot (name:=Str.ofString "__next__") hj.typeIs F.slot_tuple_iterator_next (wpAny_call_entry F.slot_tuple_iterator_next hj.typeIs F.entry_tuple_iterator_next ?_ (F.args_tuple_iterator_next_1 _)))
 show wpAny _ _ (field (.ref j) 0 >>= _) _ _ s
 refine wpAny_bind (wpAny_field ej dj (x:=.ref p) rfl ?_)
 show wpAny _ _ (if (Value.ref p == Value.none)=true then _ else _) _ _ s
 rw [if_neg (show ¬((Value.ref p == Value.none)=true) from Bool.false_ne_true)]
 show wpAny _ _ (field (.ref j) 1 >>= _) _ _ s
 refine wpAny_bind (wpAny_field ej dj (x:=.int i 0) rfl ?_)
 show wpAny _ _ (seqItems? (.ref p) >>= _) _ _ s
 refine wpAny_bind (wpAny_seqItems ep dp ?_)
 simp only [Int.toNat_natCast,hv]
 refine wpAny_bind (wpAny_setField ej dj (by simp) (wpAny_pure ⟨v,rfl,wpAny_pure (q _ ?_ (Heap.SameBut.update ..))⟩))
 exact ⟨_,Heap.get?_update_self _ ej (Obj.isFreed_of_fields (Obj.data_mapFields dj _)),(Obj.cls_mapFields ..).trans cj,by rw [Obj.data_mapFields dj];simp [rawInt]⟩
theorem mQ {j p:Addr} {i:Nat} {vs:Array Value} {Q:Value→Shared→Prop} (hh:A.handled=none) (hj:s.heap.IsTupleIter j p i) (hp:s.heap.IsTuple p vs) (hv:vs[i]?=none)
  (q:∀h' e,Heap.ExtBut j s.heap h'→(∃o,h'.get? e=some o∧o.cls=.type "StopIteration")→E (.ref e) {s with heap:=h'}):wpAny (model prog w) A (Builtin.SmallTypes.nextOf (.ref j)) Q E s:=by
 obtain ⟨oj,ej,cj,dj⟩:=id hj;obtain ⟨op,ep,_,np,dp⟩:=hp;unfold Builtin.SmallTypes.nextOf
 refine wpAny_bind (wpAny_callSpecial?_slot (name:=Str.ofString "__next__") hj.typeIs F.slot_tuple_iterator_next (wpAny_call_entry F.slot_tuple_iterator_next hj.typeIs F.entry_tuple_iterator_next ?_ (F.args_tuple_iterator_next_1 _)))
 show wpAny _ _ (field (.ref j) 0 >>= _) _ _ s
 refine wpAny_bind (wpAny_field ej dj (x:=.ref p) rfl ?_)
 show wpAny _ _ (if (Value.ref p == Value.none)=true then _ else _) _ _ s
 rw [if_neg (show ¬((Value.ref p == Value.none)=true) from Bool.false_ne_true)]
 show wpAny _ _ (field (.ref j) 1 >>= _) _ _ s
 refine wpAny_bind (wpAny_field ej dj (x:=.int i 0) rfl ?_)
 show wpAny _ _ (seqItems? (.ref p) >>= _) _ _ s
 refine wpAny_bind (wpAny_seqItems ep dp ?_)
 simp only [Int.toNat_natCast,hv]
 refine wpAny_bind (wpAny_rule (wpAny_bind (wpAny_setField ej dj (by simp) ?_)));refine wpAny_bind ?_
 simp only [newExc,newTuple];refine wpAny_bind (wpAny_newObj_type ?_ (by size_fits))
 refine wpAny_bind (m:=firstArgMember _ _) (wpAny_of_eq (a:=Value.none) (by first|rfl|(simp only [firstArgMember];rfl)) ?_);refine wpAny_newObj_type ?_ (by size_fits)
 simp only [raiseNew];refine wpAny_bind (wpAny_handled ?_);(first|rw [show A.in1.handled=none from hh]|rw [hh])
 refine wpAny_bind (wpAny_pure (wpAny_throw ?_));exact q _ _ (((Heap.SameBut.update ..).extBut.push _).push _) ⟨_,Heap.get?_push_size _ rfl,rfl⟩
theorem E1 {z P1 P2 j1 j2 a b:Addr} {k:Nat} {us vs:Array Value} {u v g g':Value} {Q:Value→Shared→Prop} (D:ZipApart z P1 P2 j1 j2 a b)
  (hz:IsZip s.heap z P1 P2 .none) (hP1:IsPair s.heap P1 (.ref j1) (.ref j2)) (hP2:IsPair s.heap P2 g g') (n1:s.heap.IsListIter j1 a k) (n2:s.heap.IsTupleIter j2 b k) (la:s.heap.IsList a us) (tb:s.heap.IsTuple b vs) (hu:us[k]?=some u) (hv:vs[k]?=some v)
  (q:∀h',IsZip h' z P1 P2 (rawInt s.heap.objs.size)→IsPair h' P2 u v→h'.IsListIter j1 a (k+1)→h'.IsTupleIter j2 b (k+1)→IsPair h' s.heap.objs.size u v→(∀c o,c≠z→c≠P2→c≠j1→c≠j2→s.heap.get? c=some o→h'.get? c=some o)→Q (.ref s.heap.objs.size) {s with heap:=h'}):wpAny (model prog w) A (Builtin.«zip.__next__» ⟨[.ref z],[]⟩) (fun fin s'=>∃v,fin=.done (.ret v)∧Q v s') E s:=by
 show wpAny _ _ (field (.ref z) 2 >>= _) _ _ _;refine wpAny_bind (wpAny_field hz rfl (x:=.bool false) rfl ?_);show wpAny _ _ (field (.ref z) 3 >>= _) _ _ _
 refine wpAny_bind (wpAny_field hz rfl (x:=.ref P1) rfl ?_);refine wpAny_bind (wpAny_seqItems hP1 rfl ?_)
 show wpAny _ _ (Builtin.SmallTypes.ownedTupleIsFree (.ref z) >>= _) _ _ _;refine wpAny_bind ?_;unfold Builtin.SmallTypes.ownedTupleIsFree
 refine wpAny_bind (wpAny_field hz rfl (x:=.none) rfl (wpAny_pure ?_));simp only [if_true]
 refine wpAny_bind (wpAny_rule ?_);refine wpAny_bind (wpAny_field hz rfl (x:=.ref P2) rfl ?_)
 refine wpAny_bind (wpAny_setField_rec hz (by simp) fun m1 z1 d1=>?_)
 have z1:IsZip m1 z P1 P2 .ellipsis:=z1
 refine wpAny_bind ?_;simp only [List.zipIdx_cons,List.zipIdx_nil,List.forIn_cons,List.forIn_nil]
 refine wpAny_bind (wpAny_bind (wpAny_onRaise ?_));show wpAny _ _ (Builtin.SmallTypes.nextOf (.ref j1) >>= _) _ _ _
 refine wpAny_bind (wpAny_nextOf_list_item (n1.extBut d1.extBut D.i1z) (la.extBut d1.extBut D.l1z) hu fun m2 n12 d2=>wpAny_pure ?_)
 have p2:IsPair m2 P2 g g':=d2.extBut _ _ D.TOi1 (d1.extBut _ _ D.TOz hP2)
 refine wpAny_bind (wpAny_seqItems p2 rfl ?_);refine wpAny_bind (wpAny_updateSeq_pair p2 fun m3 p3 d3=>?_)
 have p3:IsPair m3 P2 u g':=p3
 refine wpAny_bind (wpAny_letGo (wpAny_pure ?_));refine wpAny_bind (wpAny_bind (wpAny_onRaise ?_));show wpAny _ _ (Builtin.SmallTypes.nextOf (.ref j2) >>= _) _ _ _
 refine wpAny_bind (rB (((n2.extBut d1.extBut D.i2z).extBut d2.extBut D.i12.symm).extBut d3.extBut D.TOi2.symm) (((tb.extBut d1.extBut D.l2z).extBut d2.extBut D.l2i1).extBut d3.extBut D.l2TO) hv fun m4 n24 d4=>wpAny_pure ?_)
 have p4:IsPair m4 P2 u g':=d4.extBut _ _ D.TOi2 p3
 refine wpAny_bind (wpAny_seqItems p4 rfl ?_);refine wpAny_bind (wpAny_updateSeq_pair p4 fun m5 p5 d5=>?_)
 have p5:IsPair m5 P2 u v:=p5
 refine wpAny_bind (wpAny_letGo (wpAny_pure (wpAny_pure ?_)));refine wpAny_bind (wpAny_seqItems p5 rfl ?_);refine wpAny_bind (wpAny_newTuple ?_)
 have sz:m5.objs.size=s.heap.objs.size:=by rw [d5.1,d4.1,d3.1,d2.1,d1.1]
 have z5:IsZip m5 z P1 P2 .ellipsis:=d5.extBut _ _ D.TOz.symm (d4.extBut _ _ D.i2z.symm (d3.extBut _ _ D.TOz.symm (d2.extBut _ _ D.i1z.symm z1)))
 have kk:∀c o,c≠z→c≠P2→c≠j1→c≠j2→s.heap.get? c=some o→m5.get? c=some o:=fun c o e1 e2 e3 e4 e=>d5.extBut _ _ e2 (d4.extBut _ _ e4 (d3.extBut _ _ e2 (d2.extBut _ _ e3 (d1.extBut _ _ e1 e))))
 have n15:m5.IsListIter j1 a (k+1):=((n12.extBut d3.extBut D.TOi1.symm).extBut d4.extBut D.i12).extBut d5.extBut D.TOi1.symm
 have n25:m5.IsTupleIter j2 b (k+1):=n24.extBut d5.extBut D.TOi2.symm
 have zl:z<m5.objs.size:=Heap.lt_size z5
 show wpAny _ _ (Builtin.SmallTypes.ownedTupleHandOut (.ref z) (.ref m5.objs.size) >>= _) _ _ _;refine wpAny_bind ?_;unfold Builtin.SmallTypes.ownedTupleHandOut
 have z6:IsZip (m5.push {cls:=.type "tuple",data:=.seq #[u,v]}) z P1 P2 .ellipsis:=Heap.get?_push_of_some _ z5
 refine wpAny_bind (wpAny_setField_rec z6 (by simp) fun m7 z7 d7=>?_)
 have z7:IsZip m7 z P1 P2 (rawInt m5.objs.size):=z7
 refine wpAny_setField_rec z7 (by simp) fun m8 z8 d8=>?_
 have z8:IsZip m8 z P1 P2 (rawInt m5.objs.size):=z8
 have up:∀c o,c≠z→m5.get? c=some o→m8.get? c=some o:=fun c o e1 e=>d8.extBut _ _ e1 (d7.extBut _ _ e1 (Heap.get?_push_of_some _ e))
 have t8:IsPair m8 m5.objs.size u v:=d8.extBut _ _ (Nat.ne_of_gt zl) (d7.extBut _ _ (Nat.ne_of_gt zl) (Heap.get?_push_size _ rfl))
 rw [sz] at z8 t8
 refine wpAny_pure ⟨_,rfl,?_⟩;show Q (.ref m5.objs.size) _;rw [sz]
 exact q m8 z8 (up _ _ D.TOz p5) (n15.at fun o e=>up _ o D.i1z e) (n25.at fun o e=>up _ o D.i2z e) t8 fun c o e1 e2 e3 e4 e=>up c o e1 (kk c o e1 e2 e3 e4 e)
theorem GF {z P1 P2 j1 j2 a b:Addr} {k:Nat} {us vs:Array Value} {g g':Value} {Q:Fin→Shared→Prop} (hh:A.handled=none) (D:ZipApart z P1 P2 j1 j2 a b)
  (hz:IsZip s.heap z P1 P2 .none) (hP1:IsPair s.heap P1 (.ref j1) (.ref j2)) (hP2:IsPair s.heap P2 g g') (n1:s.heap.IsListIter j1 a k) (n2:s.heap.IsTupleIter j2 b k) (la:s.heap.IsList a us) (tb:s.heap.IsTuple b vs) (he:us[k]?=none∨vs[k]?=none)
  (q:∀h' e,(∀c o,c≠z→c≠P2→c≠j1→c≠j2→s.heap.get? c=some o→h'.get? c=some o)→(∃o,h'.get? e=some o∧o.cls=.type "StopIteration")→E (.ref e) {s with heap:=h'}):wpAny (model prog w) A (Builtin.«zip.__next__» ⟨[.ref z],[]⟩) Q E s:=by
 show wpAny _ _ (field (.ref z) 2 >>= _) _ _ _;refine wpAny_bind (wpAny_field hz rfl (x:=.bool false) rfl ?_);show wpAny _ _ (field (.ref z) 3 >>= _) _ _ _
 refine wpAny_bind (wpAny_field hz rfl (x:=.ref P1) rfl ?_);refine wpAny_bind (wpAny_seqItems hP1 rfl ?_)
 show wpAny _ _ (Builtin.SmallTypes.ownedTupleIsFree (.ref z) >>= _) _ _ _;refine wpAny_bind ?_;unfold Builtin.SmallTypes.ownedTupleIsFree
 refine wpAny_bind (wpAny_field hz rfl (x:=.none) rfl (wpAny_pure ?_));simp only [if_true]
 refine wpAny_bind (wpAny_rule ?_);refine wpAny_bind (wpAny_field hz rfl (x:=.ref P2) rfl ?_)
 refine wpAny_bind (wpAny_setField_rec hz (by simp) fun m1 z1 d1=>?_)
 have z1:IsZip m1 z P1 P2 .ellipsis:=z1
 refine wpAny_bind ?_;simp only [List.zipIdx_cons,List.zipIdx_nil,List.forIn_cons,List.forIn_nil]
 refine wpAny_bind (wpAny_bind (wpAny_onRaise ?_));show wpAny _ _ (Builtin.SmallTypes.nextOf (.ref j1) >>= _) _ _ _
 cases hu:us[k]? with
 |none =>
  refine wpAny_bind (wpAny_nextOf_list_end hh (n1.extBut d1.extBut D.i1z) (la.extBut d1.extBut D.l1z) hu fun m2 e d2 st=>?_);obtain ⟨oe,ee,ce⟩:=st
  have z2:IsZip m2 z P1 P2 .ellipsis:=d2 _ _ D.i1z.symm z1
  have ne:e≠z:=fun x=>by subst x;rw [z2] at ee;cases ee;simp at ce
  refine wpAny_setField_rec z2 (by simp) fun m3 _ d3=>q m3 e (fun c o e1 _ e3 _ x=>d3.extBut _ _ e1 (d2 _ _ e3 (d1.extBut _ _ e1 x))) ⟨oe,d3.extBut _ _ ne ee,ce⟩
 |some u =>
  have hv:vs[k]?=none:=by rcases he with h|h;rw [hu] at h;cases h;exact h
  refine wpAny_bind (wpAny_nextOf_list_item (n1.extBut d1.extBut D.i1z) (la.extBut d1.extBut D.l1z) hu fun m2 n12 d2=>wpAny_pure ?_)
  have p2:IsPair m2 P2 g g':=d2.extBut _ _ D.TOi1 (d1.extBut _ _ D.TOz hP2)
  refine wpAny_bind (wpAny_seqItems p2 rfl ?_);refine wpAny_bind (wpAny_updateSeq_pair p2 fun m3 p3 d3=>?_)
  refine wpAny_bind (wpAny_letGo (wpAny_pure ?_));refine wpAny_bind (wpAny_bind (wpAny_onRaise ?_));show wpAny _ _ (Builtin.SmallTypes.nextOf (.ref j2) >>= _) _ _ _
  refine wpAny_bind (mQ hh (((n2.extBut d1.extBut D.i2z).extBut d2.extBut D.i12.symm).extBut d3.extBut D.TOi2.symm) (((tb.extBut d1.extBut D.l2z).extBut d2.extBut D.l2i1).extBut d3.extBut D.l2TO) hv fun m4 e d4 st=>?_);obtain ⟨oe,ee,ce⟩:=st
  have z4:IsZip m4 z P1 P2 .ellipsis:=d4 _ _ D.i2z.symm (d3.extBut _ _ D.TOz.symm (d2.extBut _ _ D.i1z.symm z1))
  have ne:e≠z:=fun x=>by subst x;rw [z4] at ee;cases ee;simp at ce
  refine wpAny_setField_rec z4 (by simp) fun m5 _ d5=>q m5 e (fun c o e1 e2 e3 e4 x=>d5.extBut _ _ e1 (d4 _ _ e4 (d3.extBut _ _ e2 (d2.extBut _ _ e3 (d1.extBut _ _ e1 x))))) ⟨oe,d5.extBut _ _ ne ee,ce⟩
end
def pB (K:PySem.W.Frag) (a1 a2:Addr):It :=
 ⟨fun i H=>∃xs ys x y,SqL K H a1 xs∧SqT K H a2 ys∧xs[i]?=some x∧ys[i]?=some y,
  fun i H v H'=>∃T x y,v=.ref T∧H T=none∧H'=upd H T (.tup [x,y])∧(∀xs,SqL K H a1 xs→xs[i]?=some x)∧(∀ys,SqT K H a2 ys→ys[i]?=some y),
  fun i H=>∃xs ys,SqL K H a1 xs∧SqT K H a2 ys∧(xs.length≤i∨ys.length≤i)⟩
theorem E4 {P:Program} {w:World} {K:PySem.W.Frag} {elts:List Expr} {x1:Nat} {pos:Pos} {a1 a2 z TI TO i1 i2:Addr} (D:ZipApart z TI TO i1 i2 a1 a2) :
  Turn P w K (.Tuple elts x1 pos) (pB K a1 a2) [z,TI,TO,i1,i2] z (fun i h=>IsZip h z TI TO .none∧IsPair h TI (.ref i1) (.ref i2)∧(∃a b,IsPair h TO a b)∧h.IsListIter i1 a1 i∧h.IsTupleIter i2 a2 i) where
 mem:=by simp
 obj:=fun i h st b hb=>by
  obtain ⟨hz,hTI,⟨p,q,hTO⟩,⟨o1,e1,c1,d1⟩,⟨o2,e2,c2,d2⟩⟩:=st
  simp only [List.mem_cons,List.mem_nil_iff,or_false] at hb
  rcases hb with rfl|rfl|rfl|rfl|rfl
  ·exact ⟨_,hz,fun v y=>by have y':Data.fields _=Data.cell v:=y;cases y'⟩
  ·exact ⟨_,hTI,fun v y=>by have y':Data.seq _ _=Data.cell v:=y;cases y'⟩
  ·exact ⟨_,hTO,fun v y=>by have y':Data.seq _ _=Data.cell v:=y;cases y'⟩
  ·exact ⟨o1,e1,fun v y=>by rw [d1] at y;cases y⟩
  ·exact ⟨o2,e2,fun v y=>by rw [d2] at y;cases y⟩
 keep:=fun i h h' st k=>by
  obtain ⟨hz,hTI,⟨p,q,hTO⟩,h1,h2⟩:=st
  exact ⟨k _ (by simp) _ hz,k _ (by simp) _ hTI,⟨p,q,k _ (by simp) _ hTO⟩,h1.at fun o e=>k _ (by simp) o e,h2.at fun o e=>k _ (by simp) o e⟩
 item:=by
  intro X hP hw hK hc i pins s σ H E I hf st hg
  subst hP hw hK
  obtain ⟨hz,hTI,⟨p,q,hTO⟩,h1,h2⟩:=st
  obtain ⟨xs,ys,x,y,hq1,hq2,hx,hy⟩:=hg
  obtain ⟨its1,rv1,p1,_⟩:=I.list hq1
  obtain ⟨its2,rv2,p2,_⟩:=I.tuple hq2
  obtain ⟨u,hu,ru⟩:=rv1.get hx
  obtain ⟨v,hv,rv⟩:=rv2.get hy
  have hTz:s.TypeIs (.ref z) "zip":=⟨_,hz,rfl⟩
  unfold pyNext
  refine wpAny_bind (wpAny_attempt (wpAny_callSpecial?_slot (name:=Str.ofString "__next__") hTz F.slot_zip_next (wpAny_call_entry F.slot_zip_next hTz F.entry_zip_next (E1 D hz hTI hTO h1 h2 p1.isList (show s.heap.IsTuple a2 its2.toArray from p2) (u:=u) (v:=v) (by simpa using hu) (by simpa using hv) fun h' hz' hTO' h1' h2' hT' hk=>wpAny_pure ?_) (F.args_zip_next_1 _))))
  refine ⟨_,rfl,?_⟩
  refine wpAny_letOwnedTupleGo_zip hz' fun hp2 hz2 hs2=>?_
  have lt:∀{b:Addr} {o:Obj},s.heap.get? b=some o→b<s.heap.objs.size:=fun e=>Heap.lt_size e
  have nT:s.heap.objs.size≠z:=Nat.ne_of_gt (lt hz)
  have k2:∀b o,b∉[z,TI,TO,i1,i2]→s.heap.get? b=some o→hp2.get? b=some o:=fun b o hb e=>by
   simp only [List.mem_cons,List.mem_nil_iff,or_false,not_or] at hb
   exact (hs2.2 b hb.1).trans (hk b o hb.1 hb.2.2.1 hb.2.2.2.1 hb.2.2.2.2 e)
  have hT2:IsPair hp2 s.heap.objs.size u v:=(hs2.2 _ nT).trans hT'
  refine ⟨.ref s.heap.objs.size,upd H s.heap.objs.size (.tup [x,y]),I.laidN (t':=s.toks) (fp:=[z,TI,TO,i1,i2]) k2 hf (Nat.le_refl _) ⟨(by show 2≤sizeLine;decide),[u,v],.cons ru (.cons rv .nil),⟨_,hT2,rfl,_,rfl⟩⟩,rfl,?_,?_,?_⟩
  ·exact ⟨_,x,y,rfl,I.hok.fresh (Nat.le_refl _),rfl,fun zs hzs=>by rw [I.list_inj hzs hq1];exact hx,fun zs hzs=>by rw [I.tuple_inj hzs hq2];exact hy⟩
  ·refine ⟨hz2,(hs2.2 _ D.TIz).trans (hk _ _ D.TIz D.TITO D.TIi1 D.TIi2 hTI),⟨_,_,(hs2.2 _ D.TOz).trans hTO'⟩,h1'.at fun o e=>(hs2.2 _ D.i1z).trans e,h2'.at fun o e=>(hs2.2 _ D.i2z).trans e⟩
  ·intro b hb
   have:=(hf b hb).1
   rw [j4]
   ·exact this
   ·intro e
    simp only [List.mem_cons,List.mem_nil_iff,or_false] at hb
    obtain ⟨o1,e1,_⟩:=h1
    obtain ⟨o2,e2,_⟩:=h2
    rcases hb with rfl|rfl|rfl|rfl|rfl
    ·exact nT e.symm
    ·exact Nat.ne_of_lt (lt hTI) e
    ·exact Nat.ne_of_lt (lt hTO) e
    ·exact Nat.ne_of_lt (lt e1) e
    ·exact Nat.ne_of_lt (lt e2) e
 done:=by
  intro X hP hw hK hc i pins s σ H E I hf st hg
  subst hP hw hK
  obtain ⟨hz,hTI,⟨p,q,hTO⟩,h1,h2⟩:=st
  obtain ⟨xs,ys,hq1,hq2,he⟩:=hg
  obtain ⟨its1,rv1,p1,_⟩:=I.list hq1
  obtain ⟨its2,rv2,p2,_⟩:=I.tuple hq2
  have l1:=rv1.length
  have l2:=rv2.length
  have hTz:s.TypeIs (.ref z) "zip":=⟨_,hz,rfl⟩
  unfold pyNext
  refine wpAny_bind (wpAny_attempt (wpAny_callSpecial?_slot (name:=Str.ofString "__next__") hTz F.slot_zip_next (wpAny_call_entry F.slot_zip_next hTz F.entry_zip_next (GF (I.ok.hd hc) D hz hTI hTO h1 h2 p1.isList (show s.heap.IsTuple a2 its2.toArray from p2) (he.imp (fun e=>by simp;omega) (fun e=>by simp;omega)) fun h' e hk ho=>?_) (F.args_zip_next_1 _))))
  obtain ⟨o,ho,hco⟩:=ho
  refine wpAny_bind (wpAny_isInstance (T:="StopIteration") (b:=true) ⟨o,ho,hco⟩ isSubtype_stop (wpAny_pure ⟨rfl,I.turnedN (t':=s.toks) (fp:=[z,TI,TO,i1,i2]) (fun b o hb e=>?_) hf⟩))
  simp only [List.mem_cons,List.mem_nil_iff,or_false,not_or] at hb
  exact hk b o hb.1 hb.2.2.1 hb.2.2.2.1 hb.2.2.2.2 e
 self:=fun _ _ _ _ _ st h=>wpAny_pyIter_zip st.1 h
section
variable {X:Cx} {elts:List Expr} {x1:Nat} {tpos:Pos}
abbrev i4 (h:Heap) (a:Addr):Heap:=h.push {cls:=.type "list_iterator",data:=.fields #[.ref a,.int 0 0]}
abbrev i3 (h:Heap) (a b:Addr):Heap:=(i4 h a).push {cls:=.type "tuple_iterator",data:=.fields #[.ref b,.int 0 0]}
abbrev i0 (h:Heap) (a b:Addr):Heap:=(i3 h a b).push {cls:=.type "tuple",data:=.seq #[.ref h.objs.size,.ref (i4 h a).objs.size]}
abbrev iZ (h:Heap) (a b:Addr):Heap:=(i0 h a b).push {cls:=.type "tuple",data:=.seq #[.none,.none]}
abbrev eV (h:Heap) (a b:Addr):Heap:=(iZ h a b).push {cls:=.type "zip",data:=.fields #[.none,.bool false,.bool false,.ref (i3 h a b).objs.size,.ref (i0 h a b).objs.size]}
theorem EL (a b:Addr) (us vs:Array Value):Meets (Builtin.«zip.__new__» ⟨[.type "zip",.ref a,.ref b],[]⟩) (fun _ R s=>s.heap.IsList a us∧s.heap.IsTuple b vs∧R (.ok (.ret (.ref (iZ s.heap a b).objs.size))) {s with heap:=eV s.heap a b}):=.of_wp fun prog w A R s h=>by
  obtain ⟨hp,g,d,tk,os⟩:=s;obtain ⟨la,tb,h⟩:=h;have hsub:=sub_zip
  have A1:Heap.IsList (Shared.heap ⟨hp,g,d,tk,os⟩) a us:=la
  have A2:Heap.IsTuple (Shared.heap ⟨hp.push {cls:=.type "list_iterator",data:=.fields #[.ref a,.int 0 0]},g,d,tk,os⟩) b vs:=Heap.IsTuple.push tb _
  wp_walk using wpAny_pyIter_list A1,wpAny_pyIter_tuple A2
  exact ⟨_,rfl,h⟩
theorem GA {prog:Program} {w:World} {A:Around} {s:Shared} {E:Value→Shared→Prop} {a b:Addr} {us vs:Array Value} {Q:Value→Shared→Prop} (la:s.heap.IsList a us) (tb:s.heap.IsTuple b vs)
  (q:∀h',IsZip h' (s.heap.objs.size+4) (s.heap.objs.size+2) (s.heap.objs.size+3) .none→IsPair h' (s.heap.objs.size+2) (.ref s.heap.objs.size) (.ref (s.heap.objs.size+1))→IsPair h' (s.heap.objs.size+3) .none .none→h'.IsListIter s.heap.objs.size a 0→h'.IsTupleIter (s.heap.objs.size+1) b 0→(∀c o,s.heap.get? c=some o→h'.get? c=some o)→Q (.ref (s.heap.objs.size+4)) {s with heap:=h'}) :
  wpAny (model prog w) A (call (.type "zip") [.ref a,.ref b]) Q E s:=by
 refine callType_new F.called_zip (by decide) (F.typeCall_zip_2 _ _) (F.newCall_zip_2 _ _) (fun obj=>F.args_object_init_3 obj _ _) F.entry_zip_new (EL a b us vs) ⟨la,tb,?_⟩
 have y1:(i4 s.heap a).objs.size=s.heap.objs.size+1:=Heap.size_push ..
 have y2:(i3 s.heap a b).objs.size=s.heap.objs.size+2:=by rw [Heap.size_push,y1]
 have y3:(i0 s.heap a b).objs.size=s.heap.objs.size+3:=by rw [Heap.size_push,y2]
 have y4:(iZ s.heap a b).objs.size=s.heap.objs.size+4:=by rw [Heap.size_push,y3]
 have up:∀{h:Heap} {o:Obj} {c:Addr} {v:Obj},h.get? c=some v→(h.push o).get? c=some v:=fun e=>Heap.get?_push_of_some _ e
 have g5:(eV s.heap a b).get? (iZ s.heap a b).objs.size=some _:=Heap.get?_push_size _ rfl
 have g4:(eV s.heap a b).get? (i0 s.heap a b).objs.size=some _:=up (Heap.get?_push_size _ rfl)
 have g3:(eV s.heap a b).get? (i3 s.heap a b).objs.size=some _:=up (up (Heap.get?_push_size _ rfl))
 have g2:(eV s.heap a b).get? (i4 s.heap a).objs.size=some _:=up (up (up (Heap.get?_push_size _ rfl)))
 have g1:(eV s.heap a b).get? s.heap.objs.size=some _:=up (up (up (up (Heap.get?_push_size _ rfl))))
 show _∧_
 rw [y2,y3,y4] at g5;rw [y1,y2] at g3;rw [y3] at g4;rw [y1] at g2;rw [y4]
 exact ⟨⟨_,g5,rfl⟩,q _ g5 g3 g4 ⟨_,g1,rfl,rfl⟩ ⟨_,g2,rfl,rfl⟩ fun c o x=>up (up (up (up (up x))))⟩
def LM (K:PySem.W.Frag) (ta:TA):TI:=fun σ H R=>ta σ H fun vs H1=>∃a1 a2,vs=[.ref a1,.ref a2]∧(∃xs,SqL K H1 a1 xs)∧(∃ys,SqT K H1 a2 ys)∧R (pB K a1 a2) H1
theorem HQ {a b:Expr} {ta:TA} {p pos:Pos} (hg:Gl X "zip") (hm:X.mg "zip"=none) (ha:PA X [a,b] ta) (hs:starEach [a,b] X.env=[(false,eval a X.env),(false,eval b X.env)]:=by rfl) (hs2:starEach [b] X.env=[(false,eval b X.env)]:=by rfl) :
  PI X (.Tuple elts x1 tpos) (.Call (.Name "zip" p) [a,b] [] pos) (LM X.K ta):=by
 intro pins s σ H R I h
 refine Call_ (eC I hg hm boot_zip (PyProof.Rows.callWith_type1 (jN (ha pos pins s σ H _ I h) fun us s1 ⟨vs,H1,I1,r1,q1⟩=>?_) (by rw [hs,hs2]) (by rw [hs2];rfl)))
 obtain ⟨a1,a2,e,⟨xs,hq1⟩,⟨ys,hq2⟩,q⟩:=q1
 subst e
 cases r1 with
 |cons r rr =>
  cases rr with
  |cons r' rr =>
   cases rr
   cases r
   cases r'
   obtain ⟨its1,rv1,p1,_⟩:=I1.list hq1
   obtain ⟨its2,rv2,p2,_⟩:=I1.tuple hq2
   have p2:s1.heap.IsTuple a2 its2.toArray:=p2
   have lt1:a1<s1.heap.objs.size:=by obtain ⟨o,e,_⟩:=p1.isList;exact Heap.lt_size e
   have lt2:a2<s1.heap.objs.size:=by obtain ⟨o,e,_⟩:=p2;exact Heap.lt_size e
   refine GA p1.isList p2 fun h' hz hTI hTO h1 h2 hk=>?_
   refine wpAny_pyIter_zip hz ?_
   have D:ZipApart (s1.heap.objs.size+4) (s1.heap.objs.size+2) (s1.heap.objs.size+3) s1.heap.objs.size (s1.heap.objs.size+1) a1 a2:=by
    constructor<;>(intro e;simp only [Addr] at *;omega)
   refine ⟨_,_,_,_,H1,rfl,I1.kept (t':=s1.toks) hk,E4 D,⟨hz,hTI,⟨_,_,hTO⟩,h1,h2⟩,fun b hb=>?_,q⟩
   simp only [List.mem_cons,List.mem_nil_iff,or_false] at hb
   have hb':s1.heap.objs.size≤b:=by rcases hb with rfl|rfl|rfl|rfl|rfl<;>simp only [Addr] at *<;>omega
   exact I1.fpOk hb' (I1.hok.fresh hb')
end
end L2
namespace L2
open PySem PySem.Spec PyProof.Rows
set_option maxRecDepth 100000
section
variable {X:Cx}
def IZ:V→List V→Hp→VK→Prop:=fun x vs H Q=>∃(l:Addr) (xs:List V) (y:V),x=.ref l∧vs=[y]∧H l=some (.lst xs)∧vL y=true∧xs.all vL=true∧Q (.int ((xs.countP fun z=>vF z y:Nat):Int)) H
theorem rG {y:V}:∀{xs:List V} {us:List Value},Vals xs us→xs.all vL=true→us.countP (eY y)=xs.countP fun z=>vF z y
 |[],_,r,_=>by cases r;rfl
 |x::xs,_,r,f=>by
  cases r with
  |@cons _ u _ us ru rt =>
   rw [List.all_cons,Bool.and_eq_true] at f
   have ih:=rG (y:=y) rt f.2
   rw [List.countP_cons,List.countP_cons,ih,oM ru f.1]
theorem GX:pH X "list.count" IZ:=by
 intro pins s σ H x vs v us Q I rx rv h
 obtain ⟨l,xs,y,rfl,rfl,hH,fy,fx,q⟩:=h
 cases rx
 obtain ⟨u,rfl,ru⟩:=rv.one
 obtain ⟨z,its,n,r,hl,e⟩:=I.lstM hH
 refine call_meets F.slot_list_count ⟨_,e,rfl⟩ F.entry_list_count (F.args_list_count_2 _ _) (SeqAt.list_countAt l its.toArray n none #[] u (eY y)) ⟨e,fun w hw=>nA ru fy r fx w (by simpa using hw),?_⟩
 rw [show its.toArray.toList=its from rfl,rG r fx]
 exact ⟨.int ((xs.countP fun z=>vF z y:Nat):Int),H,I.tok _,⟨_,rfl⟩,q⟩
theorem ED {K:PySem.W.Frag} {a1 a2 D:Addr} {xs ys:List V} {g:TG} {tc:TT} {te:TE} {σ₀:St} {H:Hp} {Q:Hp→Prop} (Pv:Nat→St→Hp→Prop) (h0:Pv 0 σ₀ (upd H D (.lst []))) (hl:∀i σ H,i≤xs.length→Pv i σ H→SqL K H a1 xs∧SqT K H a2 ys) (hn:xs.length=ys.length)
  (hs:∀i x y σ H T,xs[i]?=some x→ys[i]?=some y→Pv i σ H→H T=none→g (.ref T) σ (upd H T (.tup [x,y])) fun σ2 H3=>tc σ2 H3 fun b H4=>if b=true then te σ2 H4 fun v H5=>∃zs,H5 D=some (.lst zs)∧zs.length<sizeLine∧Pv (i+1) σ2 (upd H5 D (.lst (zs++[v]))) else Pv (i+1) σ2 H4)
  (hd:∀σ H,Pv xs.length σ H→Q H):zY D (pB K a1 a2) g tc te σ₀ H Q:=by
 refine ⟨fun i m σ H=>m=xs.length - i∧i≤xs.length∧Pv i σ H,⟨xs.length,by simp,Nat.zero_le _,h0⟩,?_⟩
 rintro i m σ H ⟨rfl,hi,p⟩
 obtain ⟨q1,q2⟩:=hl i σ H hi p
 by_cases hlt:i<xs.length
 ·have hlt2:i<ys.length:=by omega
  refine .inr ⟨⟨xs,ys,_,_,q1,q2,List.getElem?_eq_getElem hlt,List.getElem?_eq_getElem hlt2⟩,Pv (i+1),fun σ' H' p'=>⟨xs.length - (i+1),by omega,rfl,hlt,p'⟩,fun v H' hy=>?_⟩
  obtain ⟨T,x,y,rfl,hT,rfl,e1,e2⟩:=hy
  exact hs i x y σ H T (e1 xs q1) (e2 ys q2) p hT
 ·exact .inl ⟨⟨xs,ys,q1,q2,.inl (by omega)⟩,hd σ H (by rw [show xs.length=i by omega];exact p)⟩
end
end L2
namespace L2
open PySem PySem.Spec PyProof.Rows
section
variable {prog:Program} {w:World} {A:Around} {s:Shared} {E:Value→Shared→Prop}
end
end L2
namespace L2
open PySem PySem.Spec PyProof.Rows
section
variable {X:Cx} {pins:List (Addr×Obj)} {σ:List (Option V)} {H:Hp} {s:Shared} {h':Heap}
end
section
variable {X:Cx}
open Classical in
end
end L2
namespace L2
open PySem PySem.Spec PyProof.Rows
section
variable {prog:Program} {w:World} {A:Around} {s:Shared} {E:Value→Shared→Prop}
end
end L2
namespace L2
open PySem PySem.Spec PyProof.Rows
section
variable {X:Cx} {e se:Expr} {te:TE} {lo hi:Option Expr} {tl th tk:TO} {pos p2:Pos}
end
section
variable {X:Cx}
end
end L2
namespace L2
open PySem PySem.Spec PyProof.Rows
section
theorem p8 {K:PySem.W.Frag} {a D:Addr} {xs:List V} {g:TG} {tc:TT} {te:TE} {σ₀:St} {H:Hp} {Q:Hp→Prop} (Pv:Nat→St→Hp→Prop) (h0:Pv 0 σ₀ (upd H D (.lst []))) (hl:∀i σ H,i≤xs.length→Pv i σ H→SqL K H a xs)
  (hs:∀i x σ H T,xs[i]?=some x→Pv i σ H→H T=none→g (.ref T) σ (upd H T (.tup [.int (i:Int),x])) fun σ2 H3=>tc σ2 H3 fun b H4=>if b=true then te σ2 H4 fun v H5=>∃zs,H5 D=some (.lst zs)∧zs.length<sizeLine∧Pv (i+1) σ2 (upd H5 D (.lst (zs++[v]))) else Pv (i+1) σ2 H4)
  (hd:∀σ H,Pv xs.length σ H→Q H):zY D (pI K a) g tc te σ₀ H Q:=by
 refine ⟨fun i m σ H=>m=xs.length - i∧i≤xs.length∧Pv i σ H,⟨xs.length,by simp,Nat.zero_le _,h0⟩,?_⟩
 rintro i m σ H ⟨rfl,hi,p⟩
 have q1:=hl i σ H hi p
 by_cases hlt:i<xs.length
 ·refine .inr ⟨⟨xs,_,q1,List.getElem?_eq_getElem hlt⟩,Pv (i+1),fun σ' H' p'=>⟨xs.length - (i+1),by omega,rfl,hlt,p'⟩,fun v H' hy=>?_⟩
  obtain ⟨T,x,rfl,hT,rfl,e1⟩:=hy
  exact hs i x σ H T (e1 xs q1) p hT
 ·exact .inl ⟨⟨xs,q1,by omega⟩,hd σ H (by rw [show xs.length=i by omega];exact p)⟩
end
end L2
namespace L2
open PySem PySem.Spec PyProof.Rows
section
variable {prog:Program} {w:World} {A:Around} {s:Shared} {E:Value→Shared→Prop}
theorem pX {h h':Heap} {p:Addr} {vs:Array Value} (ht:h.IsTuple p vs) (k:∀o,h.get? p=some o→h'.get? p=some o):h'.IsTuple p vs:=by obtain ⟨o,e,c⟩:=ht;exact ⟨o,k o e,c⟩
theorem FX {it p:Addr} {vs:Array Value} (hh:A.handled=none) (hne:it≠p):Draws prog w A it [it,p] vs.size (fun i x=>vs[i]?=some x) (fun i h=>h.IsTupleIter it p i∧h.IsTuple p vs) where
 live:=fun i h st=>by obtain ⟨⟨o,e,_⟩,_⟩:=st;exact ⟨o,e⟩
 frame:=fun i h h' st k=>⟨st.1.at fun o e=>k _ (by simp) o e,pX st.2 fun o e=>k _ (by simp) o e⟩
 item:=fun i s Q E hi st hQ=>by
  refine rB st.1 st.2 (Array.getElem?_eq_getElem hi) fun h' h1 sb=>?_
  exact hQ _ h' s.toks (Array.getElem?_eq_getElem hi) ⟨h1,pX st.2 fun o e=>(sb.2 _ hne.symm).trans e⟩ sb
 done:=fun s Q E st hE=>mQ hh st.1 st.2 (by simp) hE
abbrev lA (h:Heap) (q:Addr):Heap:=h.push {cls:=.type "tuple_iterator",data:=.fields #[.ref q,.int 0 0]}
abbrev pE (h:Heap) (q:Addr):Heap:=(lA h q).push {cls:=.type "enumerate",data:=.fields #[.none,.bool false,.ref h.objs.size,rawInt 0,.none,.none]}
theorem D7 (q:Addr) (us:Array Value) (m:Nat) (dd:Option Addr) (ss:Array (Option Value)):Meets (Builtin.«enumerate.__new__» ⟨[.type "enumerate",.ref q],[]⟩) (fun _ R s=>s.heap.get? q=some {cls:=.type "tuple",dict:=dd,data:=.seq us m,slots:=ss}∧R (.ok (.ret (.ref (lA s.heap q).objs.size))) {s with heap:=pE s.heap q}):=.of_wp fun prog w A R s h=>by
 obtain ⟨hp,g,d,tk,os⟩:=s;obtain ⟨hq,h⟩:=h;have hsub:=sub_enumerate
 have B1:Heap.IsTuple (Shared.heap ⟨hp,g,d,tk,os⟩) q us:=⟨_,hq,rfl,m,rfl⟩
 wp_walk using AutoSeq1.wpAny_loadPart' hq
 refine wpAny_stack_any fun st=>wpAny_pure ?_;split
 ·rename_i c _ _ _ _ _;cases (c == Value.type "enumerate")<;>(wp_walk using AutoSeq1.wpAny_loadPart' hq,wpAny_pyIter_tuple B1;exact ⟨_,rfl,h⟩)
 ·wp_walk using AutoSeq1.wpAny_loadPart' hq,wpAny_pyIter_tuple B1;exact ⟨_,rfl,h⟩
theorem EW {q:Addr} {us:Array Value} {Q:Value→Shared→Prop} (hL:s.heap.IsTuple q us)
  (k:∀h',IsEnum h' (s.heap.objs.size+1) s.heap.objs.size 0 .none→h'.IsTupleIter s.heap.objs.size q 0→(∀b o,s.heap.get? b=some o→h'.get? b=some o)→Q (.ref (s.heap.objs.size+1)) {s with heap:=h'}):wpAny (model prog w) A (call (.type "enumerate") [.ref q]) Q E s:=by
 obtain ⟨⟨c,dd,dt,ss⟩,hq,hc,m,hd⟩:=hL
 have hc:c=.type "tuple":=hc;have hd:dt=.seq us m:=hd;subst hc;subst hd
 refine callType_new F.called_enumerate (by decide) (F.typeCall_enumerate_1 _) (F.newCall_enumerate_1 _) (fun obj=>F.args_object_init_2 obj _) F.entry_enumerate_new (D7 q us m dd ss) ⟨hq,?_⟩
 have y1:(lA s.heap q).objs.size=s.heap.objs.size+1:=Heap.size_push ..
 have g2:(pE s.heap q).get? (lA s.heap q).objs.size=some _:=Heap.get?_push_size _ rfl
 have g1:(pE s.heap q).get? s.heap.objs.size=some _:=Heap.get?_push_of_some _ (Heap.get?_push_size _ rfl)
 show _∧_
 rw [y1] at g2 ⊢
 exact ⟨⟨_,g2,rfl⟩,k _ g2 ⟨_,g1,rfl,rfl⟩ fun b o x=>Heap.get?_push_of_some _ (Heap.get?_push_of_some _ x)⟩
end
def pC (K:PySem.W.Frag) (a:Addr):It :=
 ⟨fun i H=>∃xs x,SqT K H a xs∧xs[i]?=some x,
  fun i H v H'=>∃T x,v=.ref T∧H T=none∧H'=upd H T (.tup [.int (i:Int),x])∧∀xs,SqT K H a xs→xs[i]?=some x,
  fun i H=>∃xs,SqT K H a xs∧xs.length≤i⟩
theorem EG {P:Program} {w:World} {K:PySem.W.Frag} {elts:List Expr} {x1:Nat} {pos:Pos} {a e it:Addr} (hei:e≠it) (hea:e≠a) (hia:it≠a) :
  Turn P w K (.Tuple elts x1 pos) (pC K a) [e,it] e (fun i h=>(∃old,IsEnum h e it i old)∧h.IsTupleIter it a i) where
 mem:=by simp
 obj:=fun i h st b hb=>by
  obtain ⟨⟨old,he⟩,⟨o1,e1,c1,d1⟩⟩:=st
  simp only [List.mem_cons,List.mem_nil_iff,or_false] at hb
  rcases hb with rfl|rfl
  ·exact ⟨_,he,fun v y=>by have y':Data.fields _=Data.cell v:=y;cases y'⟩
  ·exact ⟨o1,e1,fun v y=>by rw [d1] at y;cases y⟩
 keep:=fun i h h' st k=>by
  obtain ⟨⟨old,he⟩,h1⟩:=st
  exact ⟨⟨old,k _ (by simp) _ he⟩,h1.at fun o e=>k _ (by simp) o e⟩
 item:=by
  intro X hP hw hK hc i pins s σ H E I hf st hg
  subst hP hw hK
  obtain ⟨⟨old,he⟩,h1⟩:=st
  obtain ⟨xs,x,hq1,hx⟩:=hg
  obtain ⟨its1,rv1,p1,_⟩:=I.tuple hq1
  have p1:s.heap.IsTuple a its1.toArray:=p1
  obtain ⟨u,hu,ru⟩:=rv1.get hx
  have hlt:i<its1.toArray.size:=by rw [List.size_toArray];exact (List.getElem?_eq_some_iff.mp hu).1
  refine wpAny_pyNext_enum_itemD (FX (A:=X.A.in1) (I.ok.hd hc) hia) he ⟨h1,p1⟩ hlt hei (by simp [hei,hea]) fun u' h' tk hu' he' st' hT' hsz hk=>?_
  have eu:u'=u:=by
   have e1:its1.toArray[i]?=some u':=hu'
   rw [List.getElem?_toArray,hu] at e1
   exact (Option.some.inj e1).symm
  subst eu
  refine ⟨_,rfl,?_⟩
  refine wpAny_letOwnedTupleGo_enum he' fun h2 he2 hs2=>?_
  have lt:∀{b:Addr} {o:Obj},s.heap.get? b=some o→b<s.heap.objs.size:=fun e=>Heap.lt_size e
  have nT:s.heap.objs.size≠e:=Nat.ne_of_gt (lt he)
  have k2:∀b o,b∉[e,it]→s.heap.get? b=some o→h2.get? b=some o:=fun b o hb q=>by
   simp only [List.mem_cons,List.mem_nil_iff,or_false,not_or] at hb
   exact (hs2.2 b hb.1).trans (hk b o hb.1 hb.2 q)
  have hT2:=(hs2.2 _ nT).trans hT'
  refine ⟨.ref s.heap.objs.size,upd H s.heap.objs.size (.tup [.int (i:Int),x]),I.laidN (t':=tk+1) (fp:=[e,it]) k2 hf (Nat.le_refl _) ⟨(by show 2≤sizeLine;decide),[.int i tk,u'],.cons ⟨_,rfl⟩ (.cons ru .nil),⟨_,hT2,rfl,_,rfl⟩⟩,rfl,?_,?_,?_⟩
  ·exact ⟨_,x,rfl,I.hok.fresh (Nat.le_refl _),rfl,fun zs hzs=>by rw [I.tuple_inj hzs hq1];exact hx⟩
  ·exact ⟨⟨_,he2⟩,st'.1.at fun o q=>(hs2.2 _ hei.symm).trans q⟩
  ·intro b hb
   have:=(hf b hb).1
   rw [j4]
   ·exact this
   ·intro q
    simp only [List.mem_cons,List.mem_nil_iff,or_false] at hb
    obtain ⟨o1,e1,_⟩:=h1
    rcases hb with rfl|rfl
    ·exact nT q.symm
    ·exact Nat.ne_of_lt (lt e1) q
 done:=by
  intro X hP hw hK hc i pins s σ H E I hf st hg
  subst hP hw hK
  obtain ⟨⟨old,he⟩,h1⟩:=st
  obtain ⟨xs,hq1,hx⟩:=hg
  obtain ⟨its1,rv1,p1,_⟩:=I.tuple hq1
  have p1:s.heap.IsTuple a its1.toArray:=p1
  have l1:=rv1.length
  unfold pyNext
  refine wpAny_bind (wpAny_attempt (wpAny_callSpecial?_slot (name:=Str.ofString "__next__") ⟨_,he,rfl⟩ F.slot_enumerate_next (wpAny_call_entry F.slot_enumerate_next ⟨_,he,rfl⟩ F.entry_enumerate_next ?_ (F.args_enumerate_next_1 _))))
  show wpAny _ _ (field (.ref e) 2 >>= _) _ _ _
  refine wpAny_bind (wpAny_field he rfl (x:=.ref it) rfl ?_)
  refine wpAny_bind (mQ (A:=X.A.in1) (I.ok.hd hc) h1 p1 (by simp;omega) fun h' z hk hz=>?_)
  obtain ⟨oz,ez,cz⟩:=hz
  refine wpAny_bind (wpAny_isInstance (T:="StopIteration") (b:=true) ⟨oz,ez,cz⟩ isSubtype_stop ?_)
  refine wpAny_pure ⟨rfl,I.turnedN (t':=s.toks) (fp:=[e,it]) (fun b o hb q=>?_) hf⟩
  simp only [List.mem_cons,List.mem_nil_iff,or_false,not_or] at hb
  exact hk b o hb.2 q
 self:=fun _ _ _ _ _ st h=>by obtain ⟨⟨old,he⟩,_⟩:=st;exact wpAny_pyIter_enum he h
section
variable {X:Cx} {elts:List Expr} {x1:Nat} {tpos:Pos}
def KY (K:PySem.W.Frag) (ta:TA):TI:=fun σ H R=>ta σ H fun vs H1=>∃a,vs=[.ref a]∧(∃xs,SqT K H1 a xs)∧R (pC K a) H1
theorem GR {a:Expr} {ta:TA} {p pos:Pos} (hg:Gl X "enumerate") (hm:X.mg "enumerate"=none) (ha:PA X [a] ta) (hs:starEach [a] X.env=[(false,eval a X.env)]:=by rfl) :
  PI X (.Tuple elts x1 tpos) (.Call (.Name "enumerate" p) [a] [] pos) (KY X.K ta):=by
 intro pins s σ H R I h
 refine Call_ (eC I hg hm boot_enumerate (PyProof.Rows.callWith_type1 (jN (ha pos pins s σ H _ I h) fun us s1 ⟨vs,H1,I1,r1,q1⟩=>?_) hs rfl))
 obtain ⟨a1,e,⟨xs,hq1⟩,q⟩:=q1
 subst e
 cases r1 with
 |cons r rr =>
  cases rr
  cases r
  obtain ⟨its1,rv1,p1,_⟩:=I1.tuple hq1
  have p1:s1.heap.IsTuple a1 its1.toArray:=p1
  have lt1:a1<s1.heap.objs.size:=by obtain ⟨o,e,_⟩:=p1;exact Heap.lt_size e
  refine EW p1 fun h' he hit hk=>?_
  refine wpAny_pyIter_enum he ?_
  refine ⟨_,_,_,_,H1,rfl,I1.kept (t':=s1.toks) hk,EG (Nat.succ_ne_self _) (by intro z;simp only [Addr] at *;omega) (by intro z;simp only [Addr] at *;omega),⟨⟨_,he⟩,hit⟩,fun b hb=>?_,q⟩
  simp only [List.mem_cons,List.mem_nil_iff,or_false] at hb
  have hb':s1.heap.objs.size≤b:=by rcases hb with rfl|rfl<;>simp only [Addr] at *<;>omega
  exact I1.fpOk hb' (I1.hok.fresh hb')
theorem DT {K:PySem.W.Frag} {a D:Addr} {xs:List V} {g:TG} {tc:TT} {te:TE} {σ₀:St} {H:Hp} {Q:Hp→Prop} (Pv:Nat→St→Hp→Prop) (h0:Pv 0 σ₀ (upd H D (.lst []))) (hl:∀i σ H,i≤xs.length→Pv i σ H→SqT K H a xs)
  (hs:∀i x σ H T,xs[i]?=some x→Pv i σ H→H T=none→g (.ref T) σ (upd H T (.tup [.int (i:Int),x])) fun σ2 H3=>tc σ2 H3 fun b H4=>if b=true then te σ2 H4 fun v H5=>∃zs,H5 D=some (.lst zs)∧zs.length<sizeLine∧Pv (i+1) σ2 (upd H5 D (.lst (zs++[v]))) else Pv (i+1) σ2 H4)
  (hd:∀σ H,Pv xs.length σ H→Q H):zY D (pC K a) g tc te σ₀ H Q:=by
 refine ⟨fun i m σ H=>m=xs.length - i∧i≤xs.length∧Pv i σ H,⟨xs.length,by simp,Nat.zero_le _,h0⟩,?_⟩
 rintro i m σ H ⟨rfl,hi,p⟩
 have q1:=hl i σ H hi p
 by_cases hlt:i<xs.length
 ·refine .inr ⟨⟨xs,_,q1,List.getElem?_eq_getElem hlt⟩,Pv (i+1),fun σ' H' p'=>⟨xs.length - (i+1),by omega,rfl,hlt,p'⟩,fun v H' hy=>?_⟩
  obtain ⟨T,x,rfl,hT,rfl,e1⟩:=hy
  exact hs i x σ H T (e1 xs q1) p hT
 ·exact .inl ⟨⟨xs,q1,by omega⟩,hd σ H (by rw [show xs.length=i by omega];exact p)⟩
end
end L2
namespace L2
open PySem PySem.Spec PyProof.Rows
section
variable {X:Cx}
end
end L2
namespace L2
open PySem PySem.Spec PyProof.Rows
theorem j9 {K:PySem.W.Frag} {H:Hp} {p:Addr} {xs:List V} {i:Int} {v:V} {P:V→Prop} (h:SqL K H p xs) (t:kQ xs i=some v) (q:P v):∃p' xs' i' v',V.ref p=.ref p'∧V.int i=.int i'∧SqL K H p' xs'∧kQ xs' i'=some v'∧P v':=⟨p,xs,i,v,rfl,rfl,h,t,q⟩
theorem jQ {K:PySem.W.Frag} {H:Hp} {p:Addr} {xs:List V} {i:Int} {v:V} {P:V→Prop} (h:SqT K H p xs) (t:kQ xs i=some v) (q:P v):∃p' xs' i' v',V.ref p=.ref p'∧V.int i=.int i'∧SqT K H p' xs'∧kQ xs' i'=some v'∧P v':=⟨p,xs,i,v,rfl,rfl,h,t,q⟩
theorem jT {K:PySem.W.Frag} {H:Hp} {a C dx:Addr} {fs:List (Str×V)} {v:V} {f:Str} {P:V→Prop} (h:H a=some (.ins C dx fs)) (c:Cls K C) (n:NoAttr K C f) (l:fs.lookup f=some v) (q:P v):∃a' C' dx' fs' v',V.ref a=.ref a'∧H a'=some (.ins C' dx' fs')∧Cls K C'∧NoAttr K C' f∧fs'.lookup f=some v'∧P v':=⟨a,C,dx,fs,v,rfl,h,c,n,l,q⟩
theorem j0 {P:Int→Int→Prop} {i j:Int} (h:P i j):∃a b,V.int i=V.int a∧V.int j=V.int b∧P a b:=⟨i,j,rfl,rfl,h⟩
end L2
namespace L2
open PySem PySem.Spec PyProof.Rows
section
variable {X:Cx}
end
end L2
namespace My
open PySem L2
theorem zz0:0≤sizeLine:=by decide
theorem zz1:1≤sizeLine:=by decide
theorem zz2:2≤sizeLine:=by decide
theorem zz3:3≤sizeLine:=by decide
theorem zz4:4≤sizeLine:=by decide
theorem zz7:7≤sizeLine:=by decide
theorem zz8:8≤sizeLine:=by decide
def top (i:Nat):Stmt:=PySem.Challenge.pw_lockhouse_k50_whole_pass_by_the_machine.main.body.getD i (.Pass ⟨0,0,0,0⟩)
abbrev cH:Stmt:=top 20
abbrev bZ:Stmt:=top 22
abbrev bV:Stmt:=top 27
abbrev cL:Stmt:=top 26
abbrev QS:Stmt:=top 24
abbrev cW:Stmt:=top 25
abbrev QR:Stmt:=top 61
abbrev Z7:Stmt:=kN (top 62) 0
abbrev ZJ:Stmt:=kN (top 63) 0
abbrev bC:Stmt:=kN (top 64) 0
abbrev bG:Stmt:=kN (top 58) 0
abbrev bA:Stmt:=kN (top 62) 3
abbrev ZM:Stmt:=kN (top 63) 3
abbrev bF:Stmt:=kN (top 64) 2
abbrev Z8:Stmt:=kN (top 62) 4
abbrev ZK:Stmt:=kN (top 63) 4
abbrev bD:Stmt:=kN (top 64) 3
abbrev Z9:Stmt:=kN (top 62) 1
abbrev ZL:Stmt:=kN (top 63) 1
abbrev bE:Stmt:=kN (top 64) 1
abbrev bB:Stmt:=kN (top 62) 2
abbrev ZN:Stmt:=kN (top 63) 2
abbrev QG:Stmt:=kN (top 59) 0
abbrev ZR:Stmt:=kN (top 59) 6
abbrev ZS:Stmt:=kN (top 59) 7
abbrev ZP:Stmt:=kN (top 59) 4
abbrev ZO:Stmt:=kN (top 59) 5
abbrev QH:Stmt:=kN (top 59) 8
abbrev ZQ:Stmt:=kN (top 59) 10
abbrev QM:Stmt:=top 35
abbrev QO:Stmt:=top 36
abbrev QN:Stmt:=top 39
abbrev QK:Stmt:=top 38
abbrev cE:Stmt:=top 37
abbrev ZT:Stmt:=kN (top 55) 0
abbrev Z6:Stmt:=kN (top 55) 1
abbrev ZZ:Stmt:=kN (top 55) 2
abbrev ZU:Stmt:=kN (top 55) 3
abbrev Z5:Stmt:=kN (top 55) 13
abbrev QI:Stmt:=kN (top 55) 14
abbrev Z2:Stmt:=kN (top 55) 11
abbrev Z3:Stmt:=kN (top 55) 12
abbrev Z1:Stmt:=kN (top 55) 5
abbrev Z4:Stmt:=kN (top 55) 6
abbrev ZY:Stmt:=kN (top 55) 7
abbrev Z0:Stmt:=kN (top 55) 8
abbrev ZV:Stmt:=kN (top 55) 9
abbrev ZW:Stmt:=kN (top 55) 10
abbrev ZX:Stmt:=kN (top 55) 4
abbrev cX:Stmt:=top 34
abbrev cG:Stmt:=top 33
abbrev cM:Stmt:=top 13
abbrev bX:Stmt:=top 12
abbrev cQ:Stmt:=top 17
abbrev cJ:Stmt:=top 14
abbrev QP:Stmt:=top 15
abbrev JB:Stmt:=top 29
abbrev bT:Stmt:=top 16
abbrev bY:Stmt:=top 18
abbrev QQ:Stmt:=top 51
abbrev bR:Stmt:=top 50
abbrev QL:Stmt:=top 47
abbrev cD:Stmt:=top 45
abbrev bW:Stmt:=top 46
abbrev bU:Stmt:=top 44
abbrev bS:Stmt:=top 43
abbrev cT:Stmt:=top 42
abbrev cV:Stmt:=top 41
abbrev cI:Stmt:=top 48
abbrev bQ:Stmt:=top 49
abbrev bI:Stmt:=top 66
abbrev bN:Stmt:=top 67
abbrev bL:Stmt:=top 68
abbrev bJ:Stmt:=top 69
abbrev bP:Stmt:=top 70
abbrev JA:Stmt:=top 71
abbrev bM:Stmt:=top 72
abbrev bO:Stmt:=top 73
abbrev JN:Stmt:=top 74
abbrev bH:Stmt:=top 75
abbrev bK:Stmt:=top 76
abbrev QJ:Stmt:=top 77
abbrev zU:Stmt:=top 78
theorem iQ {K:W.Frag} {H H':Hp} {a:Addr} {xs:List V} (e:Same H H') (h:SqT K H a xs):SqT K H' a xs:=by
 rcases h with (h|⟨o,h⟩)|h
 ·exact .inl (.inl (e _ _ h))
 ·exact .inl (.inr ⟨o,e _ _ h⟩)
 ·exact .inr h
theorem jL {H:Hp} {p:Addr} (h:H p=none) (o:HO):Same H (upd H p o):=fun b u q=>by rw [j4 (qF q h)];exact q
theorem small {n:Nat} (h:n≤1000):n≤sizeLine:=Nat.le_of_lt (qP h)
def Ints (K:W.Frag) (H:Hp) (a:Addr) (ws:List Int):Prop:=SqL K H a (ws.map V.int)∨SqT K H a (ws.map V.int)
theorem Ints.same {K:W.Frag} {H H':Hp} {a:Addr} {ws:List Int} (e:Same H H') (h:Ints K H a ws):Ints K H' a ws:=by
 rcases h with h|h
 ·exact .inl (e.seq h)
 ·exact .inr (iQ e h)
theorem JU {n s:Nat} (h:s<n):y7 n (s:Int)=some s:=by
 unfold y7
 rw [if_pos (by omega),if_pos (by omega)]
 simp
theorem qD {ws:List Int} {s:Nat} (h:s<ws.length):kQ (ws.map V.int) (s:Int)=some (.int (ws.getD s 0)):=by
 refine kL ?_
 rw [List.getElem?_map,List.getElem?_eq_getElem h,List.getD_eq_getElem?_getD,List.getElem?_eq_getElem h]
 rfl
theorem GQ {K:W.Frag} {H:Hp} {p:Addr} {ws:List Int} {s:Nat} {Q:VK} (h:Ints K H p ws) (hs:s<ws.length) (q:Q (.int (ws.getD s 0)) H):xB K (.ref p) (.int s) H Q:=by
 rcases h with h|h
 ·exact .inl ⟨p,_,s,_,rfl,rfl,h,qD hs,q⟩
 ·exact .inr (.inl ⟨p,_,s,_,rfl,rfl,h,qD hs,q⟩)
theorem JQ (ws:List Int) (s:Nat) (z:Int):(ws.map V.int).set s (V.int z)=(ws.set s z).map V.int:=by rw [List.map_set]
theorem fG (ms:List Int) (z:Int):ms.map V.int++[V.int z]=(ms++[z]).map V.int:=by simp
theorem E8 {a b:Int} (h:0<b):∃k:Nat,a%b=(k:Int)∧(k:Int)<b:=by
 have h1:=Int.emod_nonneg a (by omega:b≠0)
 have h2:=Int.emod_lt_of_pos a h
 exact ⟨(a%b).toNat,by omega,by omega⟩
def iP (K:W.Frag):Sp:=fun vs H Q _=>∃(a:Addr) (ns:List Int),vs=[.ref a]∧SqL K H a (ns.map V.int)∧ns.length≤63∧∀H',Q (.bl true) H'
def pour (ws:List Int) (q:Nat×Nat×Int):List Int:=((ws.set q.1 (ws.getD q.1 0 - q.2.2))).set q.2.1 ((ws.set q.1 (ws.getD q.1 0 - q.2.2)).getD q.2.1 0+q.2.2)
theorem dC (ws:List Int) (q:Nat×Nat×Int):(pour ws q).length=ws.length:=by unfold pour;rw [List.length_set,List.length_set]
def jY (ws:List Int) (qs:List (Nat×Nat×Int)):List Int:=qs.foldl pour ws
theorem JE (qs:List (Nat×Nat×Int)):∀ws:List Int,(jY ws qs).length=ws.length:=by
 induction qs with
 |nil=>intro ws;rfl
 |cons q r ih=>intro ws;show (jY (pour ws q) r).length=_;rw [ih,dC]
theorem DQ (ws:List Int) (qs:List (Nat×Nat×Int)) (q:Nat×Nat×Int):jY ws (qs++[q])=pour (jY ws qs) q:=by
 unfold jY;rw [List.foldl_append];rfl
theorem lR (ws:List Int) (qs:List (Nat×Nat×Int)) (i:Nat) (q:Nat×Nat×Int) (h:qs[i]?=some q):jY ws (qs.take (i+1))=pour (jY ws (qs.take i)) q:=by
 rw [List.take_add_one,h];exact DQ ..
def PoursAt (K:W.Frag) (H:Hp) (rs:List V) (qs:List (Nat×Nat×Int)) (n:Nat):Prop :=
 rs.length=qs.length∧∀(i:Nat) (r:V),rs[i]?=some r→∃(a:Addr) (s t:Nat) (m:Int),r=.ref a∧qs[i]?=some (s,t,m)∧SqT K H a [.int s,.int t,.int m]∧s<n∧t<n
theorem PoursAt.same {K:W.Frag} {H H':Hp} {rs:List V} {qs:List (Nat×Nat×Int)} {n:Nat} (e:Same H H') (h:PoursAt K H rs qs n):PoursAt K H' rs qs n:=by
 refine ⟨h.1,fun i r hi=>?_⟩
 obtain ⟨a,s,t,m,h1,h2,h3,h4⟩:=h.2 i r hi
 exact ⟨a,s,t,m,h1,h2,iQ e h3,h4⟩
def fW (K:W.Frag):Sp:=fun vs H Q _=>∃(w p:Addr) (ws:List Int) (rs:List V) (qs:List (Nat×Nat×Int)),vs=[.ref w,.ref p]∧Ints K H w ws∧SqL K H p rs∧PoursAt K H rs qs ws.length∧ws.length≤1000∧
 ∀(r:Addr) (H':Hp),Same H H'→H r=none→H' r=some (.tup ((jY ws qs).map V.int))→Q (.ref r) H'
def Keep (d:Addr) (H H':Hp):Prop:=∀b o,b≠d→H b=some o→H' b=some o
theorem Keep.refl (d:Addr) (H:Hp):Keep d H H:=fun _ _ _ q=>q
theorem Keep.of {d:Addr} {H H':Hp} (s:Same H H'):Keep d H H':=fun b o _ q=>s b o q
theorem Keep.trans {d:Addr} {H H1 H2:Hp} (a:Keep d H H1) (b:Keep d H1 H2):Keep d H H2:=fun c o n q=>b c o n (a c o n q)
theorem Keep.upd {d:Addr} {H H':Hp} (k:Keep d H H') (o:HO):Keep d H (upd H' d o):=fun b u n q=>by rw [j4 n];exact k b u n q
theorem Keep.sqt {K:W.Frag} {d a:Addr} {H H':Hp} {xs:List V} {ys:List V} (k:Keep d H H') (hd:H d=some (.lst ys)) (h:SqT K H a xs):SqT K H' a xs:=by
 rcases h with (h|⟨o,h⟩)|h
 ·exact .inl (.inl (k _ _ (qV h hd (fun z=>nomatch z)) h))
 ·exact .inl (.inr ⟨o,k _ _ (qV h hd (fun z=>nomatch z)) h⟩)
 ·exact .inr h
theorem Keep.pours {K:W.Frag} {d:Addr} {H H':Hp} {rs ys:List V} {qs:List (Nat×Nat×Int)} {n:Nat} (k:Keep d H H') (hd:H d=some (.lst ys)) (h:PoursAt K H rs qs n):PoursAt K H' rs qs n:=by
 refine ⟨h.1,fun i r hi=>?_⟩
 obtain ⟨a,s,t,m,h1,h2,h3,h4⟩:=h.2 i r hi
 exact ⟨a,s,t,m,h1,h2,k.sqt hd h3,h4⟩
theorem PoursAt.snoc {K:W.Frag} {H:Hp} {rs:List V} {qs:List (Nat×Nat×Int)} {n s t:Nat} {m:Int} {a:Addr} (h:PoursAt K H rs qs n) (ht:SqT K H a [.int s,.int t,.int m]) (hs:s<n) (hn:t<n):PoursAt K H (rs++[.ref a]) (qs++[(s,t,m)]) n:=by
 refine ⟨by rw [List.length_append,List.length_append,h.1];rfl,fun i r hi=>?_⟩
 by_cases hl:i<rs.length
 ·rw [List.getElem?_append_left hl] at hi
  obtain ⟨b,s',t',m',h1,h2,h3⟩:=h.2 i r hi
  exact ⟨b,s',t',m',h1,by rw [List.getElem?_append_left (by rw [← h.1];exact hl)];exact h2,h3⟩
 ·rw [List.getElem?_append_right (by omega)] at hi
  have hz:i - rs.length=0:=by
   have:=(List.getElem?_eq_some_iff.mp hi).1
   rw [List.length_singleton] at this
   omega
  rw [hz] at hi
  have e:V.ref a=r:=Option.some.inj hi
  refine ⟨a,s,t,m,e.symm,?_,ht,hs,hn⟩
  rw [List.getElem?_append_right (by rw [← h.1];omega),← h.1,hz]
  rfl
def vT (n h l r:V):List (Str×V):=jK "room" r (jK "low" l (jK "high" h (jK "name" n [])))
theorem LH:¬(("name":Str)="high"):=by decide +kernel
theorem LG:¬(("name":Str)="low"):=by decide +kernel
theorem LF:¬(("name":Str)="room"):=by decide +kernel
theorem LK:¬(("high":Str)="low"):=by decide +kernel
theorem LJ:¬(("high":Str)="room"):=by decide +kernel
theorem LI:¬(("low":Str)="room"):=by decide +kernel
theorem H0 (n h l r:V):(vT n h l r).lookup ("name":Str)=some n:=by
 unfold vT
 rw [vG,if_neg LF,vG,if_neg LG,vG,if_neg LH,vG,if_pos rfl]
theorem IA (n h l r:V):(vT n h l r).lookup ("high":Str)=some h:=by
 unfold vT
 rw [vG,if_neg LJ,vG,if_neg LK,vG,if_pos rfl]
theorem KM (n h l r:V):(vT n h l r).lookup ("low":Str)=some l:=by
 unfold vT
 rw [vG,if_neg LI,vG,if_pos rfl]
theorem HZ (n h l r:V):(vT n h l r).lookup ("room":Str)=some r:=by
 unfold vT
 rw [vG,if_pos rfl]
theorem iT (n h l r:V) {m:Str} (h1:¬m="room") (h2:¬m="low") (h3:¬m="high") (h4:¬m="name"):(vT n h l r).lookup m=none:=by
 unfold vT
 rw [vG,if_neg h1,vG,if_neg h2,vG,if_neg h3,vG,if_neg h4]
 rfl
def PartsAt (H:Hp) (rs:List V) (ps:List (Str×Int)):Prop:=rs.length=ps.length∧∀(i:Nat) (r:V),rs[i]?=some r→∃(a:Addr) (s:Str) (n:Int),r=.ref a∧ps[i]?=some (s,n)∧H a=some (.tup [.str s,.int n])
theorem PartsAt.nil {H:Hp}:PartsAt H [] []:=⟨rfl,fun i r hi=>by cases hi⟩
theorem PartsAt.keep {H H':Hp} {d:Addr} {ys rs:List V} {ps:List (Str×Int)} (k:Keep d H H') (hd:H d=some (.lst ys)) (h:PartsAt H rs ps):PartsAt H' rs ps:=by
 refine ⟨h.1,fun i r hi=>?_⟩
 obtain ⟨a,s,n,h1,h2,h3⟩:=h.2 i r hi
 exact ⟨a,s,n,h1,h2,k _ _ (qV h3 hd (fun z=>nomatch z)) h3⟩
theorem PartsAt.snoc {H:Hp} {rs:List V} {ps:List (Str×Int)} {s:Str} {n:Int} {a:Addr} (h:PartsAt H rs ps) (ht:H a=some (.tup [.str s,.int n])):PartsAt H (rs++[.ref a]) (ps++[(s,n)]):=by
 refine ⟨by rw [List.length_append,List.length_append,h.1];rfl,fun i r hi=>?_⟩
 by_cases hl:i<rs.length
 ·rw [List.getElem?_append_left hl] at hi
  obtain ⟨b,s',n',h1,h2,h3⟩:=h.2 i r hi
  exact ⟨b,s',n',h1,by rw [List.getElem?_append_left (by rw [← h.1];exact hl)];exact h2,h3⟩
 ·rw [List.getElem?_append_right (by omega)] at hi
  have hz:i - rs.length=0:=by
   have:=(List.getElem?_eq_some_iff.mp hi).1
   rw [List.length_singleton] at this
   omega
  rw [hz] at hi
  have e:V.ref a=r:=Option.some.inj hi
  refine ⟨a,s,n,e.symm,?_,ht⟩
  rw [List.getElem?_append_right (by rw [← h.1];omega),← h.1,hz]
  rfl
def qY (q:Str×Int):Bool := !decide (q.2=0)
def eH (K:W.Frag):Sp:=fun vs H Q _=>∃(p:Addr) (rs:List V) (ps:List (Str×Int)),vs=[.ref p]∧SqL K H p rs∧PartsAt H rs ps∧rs.length≤10∧
 ∀(r:Addr) (H':Hp) (rs':List V),Same H H'→H r=none→H' r=some (.lst rs')→PartsAt H' rs' (ps.filter qY)→Q (.ref r) H'
def eG (e:Str) (n h l r v:V):List (Str×V):=jK e v (vT n h l r)
theorem fO (e:Str) (n h l r v:V):(eG e n h l r v).lookup e=some v:=by
 unfold eG
 rw [vG,if_pos rfl]
theorem tO {e m:Str} (ne:¬m=e) (n h l r v:V):(eG e n h l r v).lookup m=(vT n h l r).lookup m:=by
 unfold eG
 rw [vG,if_neg ne]
theorem rC (n h l r:V):(vT n h l r).length<1000:=by
 have h1:=zK "high" h (jK "name" n [])
 have h2:=zK "low" l (jK "high" h (jK "name" n []))
 have h3:=zK "room" r (jK "low" l (jK "high" h (jK "name" n [])))
 have h4:(jK ("name":Str) n []).length=1:=rfl
 unfold vT
 omega
def wv (b:Bool):V:=if b then .str "up" else .str "down"
theorem wG:¬(V.str "down"=V.str "up"):=fun h=>absurd (V.str.inj h) (by decide +kernel)
def jD (cP cB cU:Addr):Kd→Addr
 |.plain=>cP
 |.basin=>cB
 |.pump=>cU
def zM (kd:Kd) (n h l r v:V):List (Str×V):=match kd with
 |.plain=>vT n h l r
 |.basin=>eG "side" n h l r v
 |.pump=>eG "lift" n h l r v
theorem J0 (kd:Kd) (n h l r v:V) {m:Str} (h1:¬m="side") (h2:¬m="lift"):(zM kd n h l r v).lookup m=(vT n h l r).lookup m:=by
 cases kd
 ·rfl
 ·exact tO h1 _ _ _ _ _
 ·exact tO h2 _ _ _ _ _
theorem IJ (kd:Kd) (n h l r v:V):(zM kd n h l r v).lookup ("name":Str)=some n:=by rw [J0 kd _ _ _ _ _ (by decide +kernel) (by decide +kernel)];exact H0 ..
theorem JV (kd:Kd) (n h l r v:V):(zM kd n h l r v).lookup ("high":Str)=some h:=by rw [J0 kd _ _ _ _ _ (by decide +kernel) (by decide +kernel)];exact IA ..
theorem J3 (kd:Kd) (n h l r v:V):(zM kd n h l r v).lookup ("low":Str)=some l:=by rw [J0 kd _ _ _ _ _ (by decide +kernel) (by decide +kernel)];exact KM ..
theorem Q2 (kd:Kd) (n h l r v:V):(zM kd n h l r v).lookup ("room":Str)=some r:=by rw [J0 kd _ _ _ _ _ (by decide +kernel) (by decide +kernel)];exact HZ ..
theorem IL (kd:Kd) (n h l r v:V):(zM kd n h l r v).lookup ("fill_parts":Str)=none:=by rw [J0 kd _ _ _ _ _ (by decide +kernel) (by decide +kernel)];exact iT _ _ _ _ (by decide +kernel) (by decide +kernel) (by decide +kernel) (by decide +kernel)
theorem KZ (kd:Kd) (n h l r v:V):(zM kd n h l r v).lookup ("let_parts":Str)=none:=by rw [J0 kd _ _ _ _ _ (by decide +kernel) (by decide +kernel)];exact iT _ _ _ _ (by decide +kernel) (by decide +kernel) (by decide +kernel) (by decide +kernel)
theorem IK (kd:Kd) (n h l r v:V):(zM kd n h l r v).lookup ("kind":Str)=none:=by rw [J0 kd _ _ _ _ _ (by decide +kernel) (by decide +kernel)];exact iT _ _ _ _ (by decide +kernel) (by decide +kernel) (by decide +kernel) (by decide +kernel)
theorem tG (kd:Kd) (n h l r v:V):(zM kd n h l r v).lookup ("extra":Str)=none:=by rw [J0 kd _ _ _ _ _ (by decide +kernel) (by decide +kernel)];exact iT _ _ _ _ (by decide +kernel) (by decide +kernel) (by decide +kernel) (by decide +kernel)
def LockAt (cs:Kd→Addr) (H:Hp) (x:Addr) (kd:Kd) (n h l:V) (room v:Int):Prop:=∃dx:Addr,H x=some (.ins (cs kd) dx (zM kd n h l (.int room) (.int v)))
theorem LockAt.same {cs:Kd→Addr} {H H':Hp} {x:Addr} {kd:Kd} {n h l:V} {room v:Int} (e:Same H H') (a:LockAt cs H x kd n h l room v):LockAt cs H' x kd n h l room v:=by
 obtain ⟨dx,a⟩:=a
 exact ⟨dx,e _ _ a⟩
def yG (kd:Kd) (room v b:Int):List (Str×Int):=match kd with
 |.plain=>([("high",room)]:List (Str×Int)).filter qY
 |.basin=>([("basin",b),("high",room - b)]:List (Str×Int)).filter qY
 |.pump=>([("low",v),("high",room - v)]:List (Str×Int)).filter qY
def yR (kd:Kd) (room v b:Int):List (Str×Int):=match kd with
 |.basin=>([("basin",v - b),("low",room - (v - b))]:List (Str×Int)).filter qY
 |_=>([("low",room)]:List (Str×Int)).filter qY
theorem rY (kd:Kd) (room v b:Int):(yG kd room v b).length≤2:=by
 cases kd
 ·exact Nat.le_trans (List.length_filter_le _ _) (by show 1≤2;decide)
 ·exact Nat.le_trans (List.length_filter_le _ _) (by show 2≤2;decide)
 ·exact Nat.le_trans (List.length_filter_le _ _) (by show 2≤2;decide)
theorem tF (kd:Kd) (room v b:Int):(yR kd room v b).length≤2:=by
 cases kd
 ·exact Nat.le_trans (List.length_filter_le _ _) (by show 1≤2;decide)
 ·exact Nat.le_trans (List.length_filter_le _ _) (by show 2≤2;decide)
 ·exact Nat.le_trans (List.length_filter_le _ _) (by show 1≤2;decide)
def vY (cs:Kd→Addr) (F:Kd→Int→Int→Int→List (Str×Int)) (kd:Kd):Sp:=fun vs H Q _=>∃(x:Addr) (n h l:V) (room v b:Int),vs=[.ref x,.int b]∧LockAt cs H x kd n h l room v∧
 ∀(r:Addr) (H':Hp) (rs:List V),Same H H'→H r=none→H' r=some (.lst rs)→PartsAt H' rs (F kd room v b)→Q (.ref r) H'
def HL (cs:Kd→Addr):Sp:=fun vs H Q _=>∃(kd:Kd) (x:Addr) (n h l:V) (room v b:Int),vs=[.ref x,.int b]∧LockAt cs H x kd n h l room v∧
 ∀(r:Addr) (H':Hp) (rs:List V),Same H H'→H r=none→H' r=some (.lst rs)→PartsAt H' rs (([("low",room)]:List (Str×Int)).filter qY)→Q (.ref r) H'
def dO (cs:Kd→Addr):Sp:=fun vs H Q _=>∃(kd:Kd) (x dx:Addr) (n h l r:V),vs=[.ref x,n,h,l,r]∧H x=some (.ins (cs kd) dx [])∧∀H':Hp,Keep x H H'→H' x=some (.ins (cs kd) dx (vT n h l r))→Q .non H'
def dN (cs:Kd→Addr) (kd:Kd):Sp:=fun vs H Q _=>∃(x dx:Addr) (n h l r v:V),vs=[.ref x,n,h,l,r,v]∧H x=some (.ins (cs kd) dx [])∧∀H':Hp,Keep x H H'→H' x=some (.ins (cs kd) dx (zM kd n h l r v))→Q .non H'
def vZ (cs:Kd→Addr) (F:Kd→Int→V) (kd:Kd):Sp:=fun vs H Q _=>∃(x:Addr) (n h l:V) (room v:Int),vs=[.ref x]∧LockAt cs H x kd n h l room v∧Q (F kd v) H
def PoursS (H:Hp) (rs:List V) (ps:List (Str×Str×Int)):Prop:=rs.length=ps.length∧∀(i:Nat) (r:V),rs[i]?=some r→∃(a:Addr) (s t:Str) (n:Int),r=.ref a∧ps[i]?=some (s,t,n)∧H a=some (.tup [.str s,.str t,.int n])
theorem PoursS.nil {H:Hp}:PoursS H [] []:=⟨rfl,fun i r hi=>by cases hi⟩
theorem PoursS.same {H H':Hp} {rs:List V} {ps:List (Str×Str×Int)} (e:Same H H') (h:PoursS H rs ps):PoursS H' rs ps:=by
 refine ⟨h.1,fun i r hi=>?_⟩
 obtain ⟨a,s,t,n,h1,h2,h3⟩:=h.2 i r hi
 exact ⟨a,s,t,n,h1,h2,e _ _ h3⟩
theorem PoursS.keep {H H':Hp} {d:Addr} {ys rs:List V} {ps:List (Str×Str×Int)} (k:Keep d H H') (hd:H d=some (.lst ys)) (h:PoursS H rs ps):PoursS H' rs ps:=by
 refine ⟨h.1,fun i r hi=>?_⟩
 obtain ⟨a,s,t,n,h1,h2,h3⟩:=h.2 i r hi
 exact ⟨a,s,t,n,h1,h2,k _ _ (qV h3 hd (fun z=>nomatch z)) h3⟩
theorem PoursS.append {H:Hp} {rs rs':List V} {ps ps':List (Str×Str×Int)} (h:PoursS H rs ps) (h':PoursS H rs' ps'):PoursS H (rs++rs') (ps++ps'):=by
 refine ⟨by rw [List.length_append,List.length_append,h.1,h'.1],fun i r hi=>?_⟩
 by_cases hl:i<rs.length
 ·rw [List.getElem?_append_left hl] at hi
  obtain ⟨b,s',t',n',h1,h2,h3⟩:=h.2 i r hi
  exact ⟨b,s',t',n',h1,by rw [List.getElem?_append_left (by rw [← h.1];exact hl)];exact h2,h3⟩
 ·rw [List.getElem?_append_right (by omega)] at hi
  obtain ⟨b,s',t',n',h1,h2,h3⟩:=h'.2 _ r hi
  exact ⟨b,s',t',n',h1,by rw [List.getElem?_append_right (by rw [← h.1];omega),← h.1];exact h2,h3⟩
theorem PoursS.one {H:Hp} {s t:Str} {n:Int} {a:Addr} (ht:H a=some (.tup [.str s,.str t,.int n])):PoursS H [.ref a] [(s,t,n)]:=by
 refine ⟨rfl,fun i r hi=>?_⟩
 cases i with
 |zero=>exact ⟨a,s,t,n,(Option.some.inj hi).symm,rfl,ht⟩
 |succ i=>cases hi
def kH (kd:Kd) (room v b:Int):List (Str×Str×Int):=(yG kd room v b).map fun p=>(p.1,"chamber",p.2)
def kP (kd:Kd) (room v b:Int):List (Str×Str×Int):=(yR kd room v b).map fun p=>("chamber",p.1,p.2)
theorem dH (kd:Kd) (room v b:Int):(kH kd room v b).length≤2:=by unfold kH;rw [List.length_map];exact rY ..
theorem JS (kd:Kd) (room v b:Int):(kP kd room v b).length≤2:=by unfold kP;rw [List.length_map];exact tF ..
def vM (p:Str×Str×Int→Bool) (qs:List (Str×Str×Int)):List Int:=(qs.filter p).map (·.2.2)
theorem rJ (p:Str×Str×Int→Bool) (qs:List (Str×Str×Int)) (i:Nat) (q:Str×Str×Int) (h:qs[i]?=some q):vM p (qs.take (i+1))=vM p (qs.take i)++(if p q=true then [q.2.2] else []):=by
 unfold vM
 rw [List.take_add_one,h]
 simp only [Option.toList,List.filter_append,List.map_append]
 by_cases c:p q=true
 ·rw [if_pos c];simp [c]
 ·rw [if_neg c];simp [c]
theorem sJ (p:Str×Str×Int→Bool) (qs:List (Str×Str×Int)) (i:Nat):(vM p (qs.take i)).length≤i:=by
 unfold vM
 rw [List.length_map]
 exact Nat.le_trans (List.length_filter_le _ _) (List.length_take_le _ _)
def zT (s:Str) (q:Str×Str×Int):Bool:=decide (q.1=s)
def toS (s:Str) (q:Str×Str×Int):Bool:=decide (q.2.1=s)
def iL (s:Str) (qs:List (Str×Str×Int)):Int:=(vM (zT s) qs).sum
def vH (b:Int) (qs:List (Str×Str×Int)):Int:=b+(vM (toS "basin") qs).sum - iL "basin" qs
theorem nH (s t:Str):decide (V.str s=V.str t)=decide (s=t):=decide_eq_decide.mpr ⟨V.str.inj,fun e=>by rw [e]⟩
def Q1 (cs:Kd→Addr) (F:Kd→Int→Int→Int→List (Str×Str×Int)):Sp:=fun vs H Q _=>∃(x:Addr) (kd:Kd) (n h l:V) (room v b:Int),vs=[.ref x,.int b]∧LockAt cs H x kd n h l room v∧
 ∀(r:Addr) (H':Hp) (rs:List V),Same H H'→H r=none→H' r=some (.lst rs)→PoursS H' rs (F kd room v b)→Q (.ref r) H'
def tW:Sp:=fun vs H Q _=>∃(s:Str) (p:Addr) (rs:List V) (qs:List (Str×Str×Int)),vs=[.str s,.ref p]∧H p=some (.lst rs)∧PoursS H rs qs∧rs.length≤999∧∀H',Same H H'→Q (.int (iL s qs)) H'
def tY:Sp:=fun vs H Q _=>∃(b:Int) (p:Addr) (rs:List V) (qs:List (Str×Str×Int)),vs=[.int b,.ref p]∧H p=some (.lst rs)∧PoursS H rs qs∧rs.length≤999∧∀H',Same H H'→Q (.int (vH b qs)) H'
def vC (kd:Kd) (room v:Int) (f:Bool) (b:Int) (w:Bool):List (Str×Str×Int):=match w,f with
 |true,true=>kP kd room v b++kH kd room v (vH b (kP kd room v b))
 |true,false=>kH kd room v b
 |false,true=>kP kd room v b
 |false,false=>kH kd room v b++kP kd room v (vH b (kH kd room v b))
theorem rK (b:Int):vH b []=b:=by show b+0 - 0=b;omega
theorem rT (kd:Kd) (room v:Int) (f:Bool) (b:Int) (w:Bool):(vC kd room v f b w).length≤4:=by
 have h1:=fun b=>dH kd room v b
 have h2:=fun b=>JS kd room v b
 cases w<;>cases f
 ·show (kH kd room v b++kP kd room v (vH b (kH kd room v b))).length≤4
  rw [List.length_append];have:=h1 b;have:=h2 (vH b (kH kd room v b));omega
 ·exact Nat.le_trans (h2 b) (by decide)
 ·exact Nat.le_trans (h1 b) (by decide)
 ·show (kP kd room v b++kH kd room v (vH b (kP kd room v b))).length≤4
  rw [List.length_append];have:=h2 b;have:=h1 (vH b (kP kd room v b));omega
def rP (cs:Kd→Addr):Sp:=fun vs H Q _=>∃(x:Addr) (kd:Kd) (n h l:V) (room v b:Int) (f w:Bool),vs=[.ref x,.bl f,.int b,wv w]∧LockAt cs H x kd n h l room v∧
 ∀(r:Addr) (H':Hp) (rs:List V),Same H H'→H r=none→H' r=some (.lst rs)→PoursS H' rs (vC kd room v f b w)→Q (.ref r) H'
theorem lP {α β:Type} {f:α→β} {ps:List α} {i:Nat} {p:α} (h:ps[i]?=some p):(ps.take (i+1)).map f=(ps.take i).map f++[f p]:=by
 rw [List.take_add_one,h,List.map_append];rfl
def eM (c m:Int):Int:=if m - c>0 then m - c else 0
def JW (ws:List (Int×Nat)) (i:Nat):Int:=(ws.getD i (0,0)).1
def kJ (ws:List (Int×Nat)) (i:Nat):Nat:=(ws.getD i (0,0)).2
def WeirsAt (K:W.Frag) (H:Hp) (rs:List V) (ws:List (Int×Nat)) (n:Nat):Prop :=
 rs.length=ws.length∧∀(i:Nat) (r:V),rs[i]?=some r→∃(a:Addr) (c:Int) (t:Nat),r=.ref a∧ws[i]?=some (c,t)∧SqT K H a [.int c,.int t]∧t<n
def iV (R:Nat) (ws:List (Int×Nat)):Prop:=∀(i:Nat) (c:Int) (t:Nat),ws[i]?=some (c,t)→t<i∨R≤t
theorem WeirsAt.same {K:W.Frag} {H H':Hp} {rs:List V} {ws:List (Int×Nat)} {n:Nat} (e:Same H H') (h:WeirsAt K H rs ws n):WeirsAt K H' rs ws n:=by
 refine ⟨h.1,fun i r hi=>?_⟩
 obtain ⟨a,c,t,h1,h2,h3,h4⟩:=h.2 i r hi
 exact ⟨a,c,t,h1,h2,iQ e h3,h4⟩
theorem gT {K:W.Frag} {H:Hp} {rs:List V} {ws:List (Int×Nat)} {n i:Nat} (h:WeirsAt K H rs ws n) (hi:i<ws.length):∃a,kQ rs (i:Int)=some (V.ref a)∧SqT K H a [.int (JW ws i),.int (kJ ws i)]∧kJ ws i<n:=by
 have hk:i<rs.length:=by rw [h.1];exact hi
 obtain ⟨a,c,t,h1,h2,h3,h4⟩:=h.2 i rs[i] (List.getElem?_eq_getElem hk)
 have e:ws.getD i (0,0)=(c,t):=by rw [List.getD_eq_getElem?_getD,h2];rfl
 refine ⟨a,kL (by rw [List.getElem?_eq_getElem hk,h1]),?_,?_⟩
 ·unfold JW kJ;rw [e];exact h3
 ·unfold kJ;rw [e];exact h4
theorem HG {R:Nat} {ws:List (Int×Nat)} {i:Nat} (h:iV R ws) (hi:i<ws.length):kJ ws i<i∨R≤kJ ws i:=by
 have e:ws[i]?=some ((ws.getD i (0,0)).1,(ws.getD i (0,0)).2):=by rw [List.getD_eq_getElem?_getD,List.getElem?_eq_getElem hi];rfl
 exact h i _ _ e
def uO (K:W.Frag):Sp:=fun vs H Q _=>∃(wq wa:Addr) (rs:List V) (ws:List (Int×Nat)) (n:Nat) (ms:List Int) (at_:Nat),vs=[.ref wq,.ref wa,.int at_]∧SqL K H wq rs∧WeirsAt K H rs ws n∧Ints K H wa ms∧at_<ws.length∧at_<ms.length∧
 Q (.int (eM (JW ws at_) (ms.getD at_ 0))) H
def yW (t:Nat→Nat) (g:Nat→Int) (j:Nat):Nat→Int
 |0=>0
 |a+1=>yW t g j a+(if t a=j then g a else 0)
theorem p6 (t:Nat→Nat) (j:Nat):∀R:Nat,yW t (fun _=>0) j R=0
 |0=>rfl
 |R+1=>by
  show yW t (fun _=>0) j R+_=0
  rw [p6 t j R]
  split<;>rfl
theorem rD {t:Nat→Nat} {g g':Nat→Int} {i:Nat} (hg:∀a,a≠i→g' a=g a) (j:Nat):∀{R:Nat},yW t g' j R=yW t g j R+(if i<R∧t i=j then g' i - g i else 0)
 |0=>by
  show (0:Int)=0+_
  rw [if_neg (by omega)]
  rfl
 |R+1=>by
  show yW t g' j R+(if t R=j then g' R else 0)=yW t g j R+(if t R=j then g R else 0)+(if i<R+1∧t i=j then g' i - g i else 0)
  rw [rD hg j (R:=R)]
  by_cases hi:i=R
  ·subst hi
   repeat' split
   all_goals omega
  ·rw [hg R (fun e=>hi e.symm)]
   repeat' split
   all_goals omega
def IV (R:Nat) (c:Nat→Int) (t:Nat→Nat) (m:Nat→Int) (g:Nat→Int):Prop:=∀i,i<R→g i=eM (c i) (m i+yW t g i R)
def wD (R:Nat) (t:Nat→Nat):Prop:=∀a,a<R→t a<a∨R≤t a
def after (R:Nat) (t:Nat→Nat) (m g:Nat→Int) (j:Nat):Int:=m j+yW t g j R - (if j<R then g j else 0)
def vD:List (Nat×Nat×Int)→Nat→Int
 |[],_=>0
 |q::r,j=>(if q.2.1=j then q.2.2 else 0) - (if q.1=j then q.2.2 else 0)+vD r j
theorem e9 (l:List Int) (i j:Nat) (z:Int) (h:i<l.length):(l.set i z).getD j 0=if i=j then z else l.getD j 0:=by
 rw [List.getD_eq_getElem?_getD,List.getD_eq_getElem?_getD]
 by_cases e:i=j
 ·subst e
  rw [List.getElem?_set_self h,if_pos rfl]
  rfl
 ·rw [List.getElem?_set_ne e,if_neg e]
theorem mP (ms:List Int) (q:Nat×Nat×Int) (j:Nat) (h1:q.1<ms.length) (h2:q.2.1<ms.length):(pour ms q).getD j 0=ms.getD j 0+((if q.2.1=j then q.2.2 else 0) - (if q.1=j then q.2.2 else 0)):=by
 unfold pour
 rw [e9 _ _ _ _ (by rw [List.length_set];exact h2),e9 _ _ _ _ h1,e9 _ _ _ _ h1]
 by_cases a:q.2.1=j
 ·rw [if_pos a,if_pos a]
  rw [a]
  by_cases b:q.1=j
  ·rw [if_pos b,if_pos b];rw [b];omega
  ·rw [if_neg b,if_neg b];omega
 ·rw [if_neg a,if_neg a]
  by_cases b:q.1=j
  ·rw [if_pos b,if_pos b];rw [b];omega
  ·rw [if_neg b,if_neg b];omega
theorem e8:∀(qs:List (Nat×Nat×Int)) (ms:List Int) (j:Nat),(∀q∈qs,q.1<ms.length∧q.2.1<ms.length)→(jY ms qs).getD j 0=ms.getD j 0+vD qs j
 |[],ms,j,_=>by
  show ms.getD j 0=ms.getD j 0+0
  omega
 |q::r,ms,j,h=>by
  show (jY (pour ms q) r).getD j 0=_
  obtain ⟨h1,h2⟩:=h q List.mem_cons_self
  rw [e8 r (pour ms q) j (fun x hx=>by rw [dC];exact h x (List.mem_cons_of_mem _ hx)),mP ms q j h1 h2]
  show _=ms.getD j 0+((if q.2.1=j then q.2.2 else 0) - (if q.1=j then q.2.2 else 0)+vD r j)
  omega
theorem mem_downs {n a:Nat}:a∈yN n↔a<n:=by
 unfold yN
 rw [List.mem_reverse,List.mem_range]
theorem fA (n:Nat):(yN n).length=n:=by
 unfold yN
 rw [List.length_reverse,List.length_range]
theorem rZ {n k:Nat} (h:k<n):(yN n)[k]?=some (n - 1 - k):=by
 unfold yN
 rw [List.getElem?_reverse (by simpa using h),List.length_range,List.getElem?_range (by omega)]
def yA (t:Nat→Nat) (g:Nat→Int) (R:Nat):List (Nat×Nat×Int):=(yN R).map fun a=>(a,t a,g a)
def z9 (ws:List (Int×Nat)) (ms gs:List Int):Prop:=gs.length=ws.length∧IV ws.length (JW ws) (kJ ws) (fun j=>ms.getD j 0) (fun a=>gs.getD a 0)
theorem GC {ws:List (Int×Nat)} (h:iV ws.length ws):wD ws.length (kJ ws):=fun a ha=>HG h ha
theorem E2 {K:W.Frag} {H:Hp} {rs:List V} {ws:List (Int×Nat)} {n:Nat} (h:WeirsAt K H rs ws n):∀a,a<ws.length→kJ ws a<n:=fun a ha=>let ⟨_,_,_,q⟩:=gT h ha;q
structure SplInv (ws:List (Int×Nat)) (ms hs gs:List Int) (k:Nat):Prop where
 lh:hs.length=ms.length
 lg:gs.length=ws.length
 flow:∀j,j<ms.length→hs.getD j 0=ms.getD j 0+yW (kJ ws) (fun a=>gs.getD a 0) j ws.length
 zero:∀a,a<ws.length - k→gs.getD a 0=0
 done:∀a,ws.length - k≤a→a<ws.length→gs.getD a 0=eM (JW ws a) (ms.getD a 0+yW (kJ ws) (fun a=>gs.getD a 0) a ws.length)
theorem SplInv.start (ws:List (Int×Nat)) (ms:List Int):SplInv ws ms ms (List.replicate ws.length 0) 0:=by
 have ez:(fun a:Nat=>(List.replicate ws.length (0:Int)).getD a 0)=fun _=>0:=by
  funext a
  rw [List.getD_eq_getElem?_getD,List.getElem?_replicate]
  split<;>rfl
 refine ⟨rfl,by simp,fun j _=>?_,fun a _=>congrFun ez a,fun a h1 h2=>by omega⟩
 rw [ez,p6]
 omega
theorem SplInv.step {ws:List (Int×Nat)} {ms hs gs:List Int} {k:Nat} (hA:wD ws.length (kJ ws)) (hR:ws.length≤ms.length) (hk:k<ws.length) (ht:kJ ws (ws.length - 1 - k)<ms.length) (h:SplInv ws ms hs gs k) :
  SplInv ws ms (hs.set (kJ ws (ws.length - 1 - k)) (hs.getD (kJ ws (ws.length - 1 - k)) 0+(gs.set (ws.length - 1 - k) (eM (JW ws (ws.length - 1 - k)) (hs.getD (ws.length - 1 - k) 0))).getD (ws.length - 1 - k) 0))
   (gs.set (ws.length - 1 - k) (eM (JW ws (ws.length - 1 - k)) (hs.getD (ws.length - 1 - k) 0))) (k+1):=by
 obtain ⟨i,hi⟩:∃i,i=ws.length - 1 - k:=⟨_,rfl⟩
 rw [← hi] at ht ⊢
 obtain ⟨lh,lg,flow,zero,done⟩:=h
 have hil:i<gs.length:=by rw [lg];omega
 obtain ⟨v,hv⟩:∃v,v=eM (JW ws i) (hs.getD i 0):=⟨_,rfl⟩
 rw [← hv]
 have gset:∀a,(gs.set i v).getD a 0=if i=a then v else gs.getD a 0:=fun a=>e9 gs i a v hil
 have g0:gs.getD i 0=0:=zero i (by omega)
 have gi:(gs.set i v).getD i 0=v:=by rw [gset,if_pos rfl]
 have infl:∀j,yW (kJ ws) (fun a=>(gs.set i v).getD a 0) j ws.length=yW (kJ ws) (fun a=>gs.getD a 0) j ws.length+(if kJ ws i=j then v else 0):=fun j=>by
  rw [rD (g:=fun a=>gs.getD a 0) (i:=i) (fun a ha=>by show (gs.set i v).getD a 0=gs.getD a 0;rw [gset,if_neg (Ne.symm ha)]) j]
  show _+(if i<ws.length∧kJ ws i=j then (gs.set i v).getD i 0 - gs.getD i 0 else 0)=_
  rw [gi,g0]
  have hiw:i<ws.length:=by omega
  repeat' split
  all_goals omega
 have hti:=hA i (by omega)
 refine ⟨by rw [List.length_set,lh],by rw [List.length_set,lg],fun j hj=>?_,fun a ha=>?_,fun a h1 h2=>?_⟩
 ·rw [e9 _ _ _ _ (by rw [lh];exact ht),infl,gi]
  have:=flow j hj
  by_cases e:kJ ws i=j
  ·rw [if_pos e,if_pos e,e]
   omega
  ·rw [if_neg e,if_neg e]
   omega
 ·rw [gset,if_neg (by omega)]
  exact zero a (by omega)
 ·rw [infl]
  by_cases e:i=a
  ·subst e
   rw [gi,if_neg (by omega),Int.add_zero,hv,flow i (by omega)]
  ·rw [gset,if_neg e,if_neg (by omega),Int.add_zero]
   exact done a (by omega) h2
theorem SplInv.spl {ws:List (Int×Nat)} {ms hs gs:List Int} (h:SplInv ws ms hs gs ws.length):z9 ws ms gs:=⟨h.lg,fun i hi=>h.done i (by omega) hi⟩
theorem GO (n:Nat):(List.replicate n [V.int 0]).flatten=(List.replicate n (0:Int)).map V.int:=by
 induction n with
 |zero=>rfl
 |succ n ih =>
  rw [List.replicate_succ,List.flatten_cons,ih,List.replicate_succ,List.map_cons]
  rfl
structure Ready (K:W.Frag) (H:Hp) (wq wa:Addr) (rs:List V) (ws:List (Int×Nat)) (ms:List Int):Prop where
 w:SqL K H wq rs
 a:WeirsAt K H rs ws ms.length
 m:Ints K H wa ms
 ah:iV ws.length ws
 le:ws.length≤ms.length
 sm:ms.length≤1000
theorem Ready.same {K:W.Frag} {H H':Hp} {wq wa:Addr} {rs:List V} {ws:List (Int×Nat)} {ms:List Int} (e:Same H H') (h:Ready K H wq wa rs ws ms):Ready K H' wq wa rs ws ms:=⟨e.seq h.w,h.a.same e,h.m.same e,h.ah,h.le,h.sm⟩
def oC (K:W.Frag):Sp:=fun vs H Q _=>∃(wq:Addr) (rs:List V),vs=[.ref wq]∧SqL K H wq rs∧rs.length≤1000∧∀(r:Addr) (H':Hp),Same H H'→H r=none→H' r=some (.lst ((yN rs.length).map fun (i:Nat)=>V.int (i:Int)))→Q (.ref r) H'
def sO (K:W.Frag):Sp:=fun vs H Q _=>∃(wq wa:Addr) (rs:List V) (ws:List (Int×Nat)) (ms:List Int),vs=[.ref wq,.ref wa]∧Ready K H wq wa rs ws ms∧
 ∀(r:Addr) (H':Hp) (gs:List Int),Same H H'→H r=none→H' r=some (.lst (gs.map V.int))→z9 ws ms gs→Q (.ref r) H'
theorem tH {R i:Nat} {x:V} (h:((yN R).map fun (i:Nat)=>V.int (i:Int))[i]?=some x):i<R∧x=V.int ((R - 1 - i:Nat):Int):=by
 rw [List.getElem?_map] at h
 by_cases hi:i<R
 ·rw [rZ hi] at h
  exact ⟨hi,(Option.some.inj h).symm⟩
 ·rw [List.getElem?_eq_none (by rw [fA];omega)] at h
  cases h
theorem DV {t:Nat→Nat} {g:Nat→Int} {R i:Nat} (h:i<R):(yA t g R)[i]?=some (R - 1 - i,t (R - 1 - i),g (R - 1 - i)):=by
 unfold yA
 rw [List.getElem?_map,rZ h]
 rfl
def qH (q:Nat×Nat×Int):Bool := !decide (q.2.2=0)
theorem nX (j:Nat):∀qs:List (Nat×Nat×Int),vD (qs.filter qH) j=vD qs j
 |[]=>rfl
 |q::r=>by
  rw [List.filter_cons]
  by_cases h:q.2.2=0
  ·rw [if_neg (by unfold qH;rw [decide_eq_true h];decide)]
   show vD (r.filter qH) j=(if q.2.1=j then q.2.2 else 0) - (if q.1=j then q.2.2 else 0)+vD r j
   rw [nX j r,h]
   repeat' split
   all_goals omega
  ·rw [if_pos (by unfold qH;rw [decide_eq_false h];rfl)]
   show _+vD (r.filter qH) j=_+vD r j
   rw [nX j r]
theorem EH {ws:List (Int×Nat)} {g:Nat→Int} {n:Nat} (hR:ws.length≤n) (ht:∀a,a<ws.length→kJ ws a<n):∀q∈yA (kJ ws) g ws.length,q.1<n∧q.2.1<n:=fun q hq=>by
 obtain ⟨a,ha,rfl⟩:=List.mem_map.mp hq
 have:=mem_downs.mp ha
 exact ⟨by show a<n;omega,ht a this⟩
def PoursH (H:Hp) (rs:List V) (qs:List (Nat×Nat×Int)) (n:Nat):Prop:=rs.length=qs.length∧∀(i:Nat) (r:V),rs[i]?=some r→∃(a:Addr) (s t:Nat) (m:Int),r=.ref a∧qs[i]?=some (s,t,m)∧H a=some (.tup [.int s,.int t,.int m])∧s<n∧t<n
theorem PoursH.nil (H:Hp) (n:Nat):PoursH H [] [] n:=⟨rfl,fun i r hi=>by cases hi⟩
theorem PoursH.pa {K:W.Frag} {H:Hp} {rs:List V} {qs:List (Nat×Nat×Int)} {n:Nat} (h:PoursH H rs qs n):PoursAt K H rs qs n:=⟨h.1,fun i r hi=>by
 obtain ⟨a,s,t,m,h1,h2,h3,h4⟩:=h.2 i r hi
 exact ⟨a,s,t,m,h1,h2,SqT.of h3,h4⟩⟩
theorem PoursH.same {H H':Hp} {rs:List V} {qs:List (Nat×Nat×Int)} {n:Nat} (h:PoursH H rs qs n) (e:Same H H'):PoursH H' rs qs n:=⟨h.1,fun i r hi=>by
 obtain ⟨a,s,t,m,h1,h2,h3,h4⟩:=h.2 i r hi
 exact ⟨a,s,t,m,h1,h2,e _ _ h3,h4⟩⟩
theorem PoursH.put {H:Hp} {d:Addr} {ys:List V} {o:HO} {rs:List V} {qs:List (Nat×Nat×Int)} {n:Nat} (h:PoursH H rs qs n) (hd:H d=some (.lst ys)):PoursH (upd H d o) rs qs n:=⟨h.1,fun i r hi=>by
 obtain ⟨a,s,t,m,h1,h2,h3,h4⟩:=h.2 i r hi
 exact ⟨a,s,t,m,h1,h2,by rw [j4 (fun z=>by rw [z,hd] at h3;cases h3)];exact h3,h4⟩⟩
theorem PoursH.append {H:Hp} {rs rs':List V} {qs qs':List (Nat×Nat×Int)} {n:Nat} (h:PoursH H rs qs n) (h':PoursH H rs' qs' n):PoursH H (rs++rs') (qs++qs') n:=by
 refine ⟨by rw [List.length_append,List.length_append,h.1,h'.1],fun i r hi=>?_⟩
 by_cases hl:i<rs.length
 ·rw [List.getElem?_append_left hl] at hi
  obtain ⟨a,s,t,m,h1,h2,h3⟩:=h.2 i r hi
  exact ⟨a,s,t,m,h1,by rw [List.getElem?_append_left (by rw [← h.1];exact hl)];exact h2,h3⟩
 ·rw [List.getElem?_append_right (by omega)] at hi
  obtain ⟨a,s,t,m,h1,h2,h3⟩:=h'.2 _ r hi
  exact ⟨a,s,t,m,h1,by rw [List.getElem?_append_right (by rw [← h.1];omega),← h.1];exact h2,h3⟩
theorem PoursH.snoc {H:Hp} {rs:List V} {qs:List (Nat×Nat×Int)} {n s t:Nat} {m:Int} {a:Addr} (h:PoursH H rs qs n) (ha:H a=some (.tup [.int s,.int t,.int m])) (hs:s<n) (ht:t<n):PoursH H (rs++[.ref a]) (qs++[(s,t,m)]) n:=h.append ⟨rfl,fun i r hi=>by
 rcases i with _|i
 ·cases hi;exact ⟨a,s,t,m,rfl,rfl,ha,hs,ht⟩
 ·cases hi⟩
def sP (K:W.Frag):Sp:=fun vs H Q _=>∃(wq wa:Addr) (rs:List V) (ws:List (Int×Nat)) (ms:List Int),vs=[.ref wq,.ref wa]∧Ready K H wq wa rs ws ms∧
 ∀(r:Addr) (H':Hp) (gs:List Int) (ys:List V),Same H H'→H r=none→H' r=some (.lst ys)→PoursH H' ys ((yA (kJ ws) (fun a=>gs.getD a 0) ws.length).filter qH) ms.length→z9 ws ms gs→Q (.ref r) H'
def nJ (K:W.Frag):Sp:=fun vs H Q _=>∃(wq wa p:Addr) (rs ps:List V) (ws:List (Int×Nat)) (ms:List Int) (qs:List (Nat×Nat×Int)),vs=[.ref wq,.ref wa,.ref p]∧Ready K H wq wa rs ws ms∧H p=some (.lst ps)∧PoursH H ps qs ms.length∧ps.length≤500∧
 ∀(r:Addr) (H':Hp) (gs:List Int) (ys:List V),Same H H'→H r=none→H' r=some (.lst ys)→PoursH H' ys (qs++(yA (kJ ws) (fun a=>gs.getD a 0) ws.length).filter qH) ms.length→z9 ws (jY ms qs) gs→Q (.ref r) H'
theorem DW (ws:List (Int×Nat)) (g:Nat→Int):((yA (kJ ws) g ws.length).filter qH).length≤ws.length:=by
 refine Nat.le_trans (List.length_filter_le ..) ?_
 unfold yA
 rw [List.length_map,fA]
 exact Nat.le_refl _
structure RC where
 name:Str
 least:Int
 crest:Int
 berths:Int
 water:Int
 target:Int
def RC.good (r:RC) (n:Nat):Prop:=0≤r.least∧r.least≤r.crest∧r.crest≤999999999999∧1≤r.berths∧r.berths≤9∧0≤r.water∧r.water≤999999999999∧-1≤r.target∧r.target<(n:Int)
def MT (r:RC):List V:=[.str "reach",.str r.name,.int r.least,.int r.crest,.int r.berths,.int r.water,.int r.target]
structure LC where
 name:Str
 high:Int
 low:Int
 room:Int
 kd:Kd
 extra:Int
def MX:Kd→Str
 |.plain=>"plain"
 |.basin=>"basin"
 |.pump=>"pump"
def LC.good (l:LC) (n:Nat):Prop:=1≤l.high∧l.high<(n:Int)∧0≤l.low∧l.low<l.high∧1≤l.room∧l.room≤999999999999∧(l.kd=.plain→l.extra=0)∧(l.kd≠.plain→1≤l.extra∧l.extra≤l.room)
def MW (l:LC):List V:=[.str "lock",.str l.name,.int l.high,.int l.low,.int l.room,.str (MX l.kd),.int l.extra]
def IT (H:Hp) (rs:List V) (ts:List (Nat×Int×Int)):Prop:=rs.length=ts.length∧∀(i:Nat) (r:V),rs[i]?=some r→∃(a:Addr) (k:Nat) (x y:Int),r=.ref a∧ts[i]?=some (k,x,y)∧H a=some (.tup [.int (k:Int),.int x,.int y])
inductive PIt where
 |reach (r:RC)
 |lock (l:LC)
 |night (ts:List (Nat×Int×Int))
def ML (D:List Addr) (H:Hp) (v:V):PIt→Prop
 |.reach r=>∃t,v=.ref t∧H t=some (.tup (MT r))
 |.lock l=>∃t,v=.ref t∧H t=some (.tup (MW l))
 |.night ts=>∃(t l:Addr) (rs:List V),v=.ref t∧H t=some (.tup [.str "night",.ref l])∧H l=some (.lst rs)∧IT H rs ts∧l∉D
def PlanAt (D:List Addr) (H:Hp) (vs:List V) (its:List PIt):Prop:=vs.length=its.length∧∀(i:Nat) (v:V),vs[i]?=some v→∃it,its[i]?=some it∧ML D H v it
theorem PlanAt.nil {D:List Addr} {H:Hp}:PlanAt D H [] []:=⟨rfl,fun i v h=>by cases h⟩
def AllAt {α:Type} (P:V→α→Prop) (vs:List V) (xs:List α):Prop:=vs.length=xs.length∧∀(i:Nat) (v:V),vs[i]?=some v→∃x,xs[i]?=some x∧P v x
theorem AllAt.nil {α:Type} {P:V→α→Prop}:AllAt P [] ([]:List α):=⟨rfl,fun i v h=>by cases h⟩
theorem AllAt.mono {α:Type} {P P':V→α→Prop} {vs:List V} {xs:List α} (m:∀v x,P v x→P' v x) (h:AllAt P vs xs):AllAt P' vs xs:=⟨h.1,fun i v hv=>by obtain ⟨x,h1,h2⟩:=h.2 i v hv;exact ⟨x,h1,m v x h2⟩⟩
theorem AllAt.snoc {α:Type} {P:V→α→Prop} {vs:List V} {xs:List α} {v:V} {x:α} (h:AllAt P vs xs) (hv:P v x):AllAt P (vs++[v]) (xs++[x]):=by
 refine ⟨by rw [List.length_append,List.length_append,h.1];rfl,fun i w hw=>?_⟩
 by_cases hl:i<vs.length
 ·rw [List.getElem?_append_left hl] at hw
  rw [List.getElem?_append_left (by rw [← h.1];exact hl)]
  exact h.2 i w hw
 ·rw [List.getElem?_append_right (by omega)] at hw
  have e:i=vs.length:=by
   by_cases z:i - vs.length=0
   ·omega
   ·rw [List.getElem?_eq_none (by show 1≤i - vs.length;omega)] at hw;cases hw
  rw [e,Nat.sub_self] at hw
  cases hw
  refine ⟨x,?_,hv⟩
  rw [e,h.1,List.getElem?_append_right (Nat.le_refl _),Nat.sub_self]
  rfl
theorem AllAt.get {α:Type} {P:V→α→Prop} {vs:List V} {xs:List α} (h:AllAt P vs xs) {i:Nat} {x:α} (hx:xs[i]?=some x):∃v,vs[i]?=some v∧P v x:=by
 have hi:i<vs.length:=by rw [h.1];exact (List.getElem?_eq_some_iff.mp hx).1
 obtain ⟨y,h1,h2⟩:=h.2 i _ (List.getElem?_eq_getElem hi)
 rw [hx] at h1
 cases h1
 exact ⟨_,List.getElem?_eq_getElem hi,h2⟩
def QAt (H:Hp) (v:V) (p:Int×Int):Prop:=∃t,v=.ref t∧H t=some (.tup [.int p.1,.int p.2])
def NAt (D:List Addr) (H:Hp) (v:V) (ps:List (Int×Int)):Prop:=∃(l:Addr) (qs:List V),v=.ref l∧H l=some (.lst qs)∧AllAt (QAt H) qs ps∧l∉D
theorem QAt.same {H H':Hp} (e:Same H H') (v:V) (r:Int×Int):QAt H v r→QAt H' v r:=fun ⟨t,h1,h2⟩=>⟨t,h1,e _ _ h2⟩
theorem QAt.put {H:Hp} {d:Addr} {ys:List V} {o:HO} (hd:H d=some (.lst ys)) (v:V) (r:Int×Int):QAt H v r→QAt (upd H d o) v r:=fun ⟨t,h1,h2⟩=>⟨t,h1,by rw [j4 (fun z=>by rw [z,hd] at h2;cases h2)];exact h2⟩
theorem NAt.same {D:List Addr} {H H':Hp} (e:Same H H') (v:V) (r:List (Int×Int)):NAt D H v r→NAt D H' v r:=fun ⟨l,qs,h1,h2,h3,h4⟩=>⟨l,qs,h1,e _ _ h2,h3.mono (QAt.same e),h4⟩
theorem NAt.put {D:List Addr} {H:Hp} {d:Addr} {ys:List V} {o:HO} (hd:H d=some (.lst ys)) (hD:d∈D) (v:V) (r:List (Int×Int)):NAt D H v r→NAt D (upd H d o) v r:=fun ⟨l,qs,h1,h2,h3,h4⟩=>⟨l,qs,h1,by rw [j4 (fun z=>h4 (by rw [z];exact hD))];exact h2,h3.mono (QAt.put hd),h4⟩
theorem NAt.less {D D':List Addr} {H:Hp} (hD:∀d∈D',d∈D) (v:V) (r:List (Int×Int)):NAt D H v r→NAt D' H v r:=fun ⟨l,qs,h1,h2,h3,h4⟩=>⟨l,qs,h1,h2,h3,fun z=>h4 (hD _ z)⟩
theorem JJ {f:Str} {v:V} {fs:List (Str×V)}:(jK f v fs).lookup f=some v:=by rw [vG,if_pos rfl]
theorem vA {f g:Str} {v:V} {fs:List (Str×V)} (h:¬g=f):(jK f v fs).lookup g=fs.lookup g:=by rw [vG,if_neg h]
def nI (fs:List (Str×V)) (v_name v_least v_crest v_berths v_water v_target:V):Prop:=fs.lookup ("name":Str)=some v_name∧fs.lookup ("least":Str)=some v_least∧fs.lookup ("crest":Str)=some v_crest∧fs.lookup ("berths":Str)=some v_berths∧fs.lookup ("water":Str)=some v_water∧fs.lookup ("target":Str)=some v_target
theorem EY (v_name v_least v_crest v_berths v_water v_target:V):nI (jK "target" v_target (jK "water" v_water (jK "berths" v_berths (jK "crest" v_crest (jK "least" v_least (jK "name" v_name [])))))) v_name v_least v_crest v_berths v_water v_target:=by
 refine ⟨?_,?_,?_,?_,?_,?_⟩
 ·rw [vA (f:="target") (g:="name") (by decide +kernel),vA (f:="water") (g:="name") (by decide +kernel),vA (f:="berths") (g:="name") (by decide +kernel),vA (f:="crest") (g:="name") (by decide +kernel),vA (f:="least") (g:="name") (by decide +kernel),JJ]
 ·rw [vA (f:="target") (g:="least") (by decide +kernel),vA (f:="water") (g:="least") (by decide +kernel),vA (f:="berths") (g:="least") (by decide +kernel),vA (f:="crest") (g:="least") (by decide +kernel),JJ]
 ·rw [vA (f:="target") (g:="crest") (by decide +kernel),vA (f:="water") (g:="crest") (by decide +kernel),vA (f:="berths") (g:="crest") (by decide +kernel),JJ]
 ·rw [vA (f:="target") (g:="berths") (by decide +kernel),vA (f:="water") (g:="berths") (by decide +kernel),JJ]
 ·rw [vA (f:="target") (g:="water") (by decide +kernel),JJ]
 ·rw [JJ]
def lX (c:Addr):Sp:=fun vs H Q _=>∃(x dx:Addr) (v_name v_least v_crest v_berths v_water v_target:V),vs=[.ref x,v_name,v_least,v_crest,v_berths,v_water,v_target]∧H x=some (.ins c dx [])∧∀(H':Hp) (fs:List (Str×V)),Keep x H H'→H' x=some (.ins c dx fs)→nI fs v_name v_least v_crest v_berths v_water v_target→Q .non H'
def RcAt (cR:Addr) (H:Hp) (x:Addr) (r:RC):Prop:=∃(dx:Addr) (fs:List (Str×V)),H x=some (.ins cR dx fs)∧nI fs (.str r.name) (.int r.least) (.int r.crest) (.int r.berths) (.int r.water) (.int r.target)
theorem RcAt.same {cR:Addr} {H H':Hp} {x:Addr} {r:RC} (e:Same H H') (h:RcAt cR H x r):RcAt cR H' x r:=by
 obtain ⟨dx,fs,h1,h2⟩:=h
 exact ⟨dx,fs,e _ _ h1,h2⟩
theorem DO {X:Cx} (K:W.Frag) (h:X.K=K:=by rfl):yZ X (.type "list") (fun xs H Q=>∃p ys,xs=[.ref p]∧(SqL K H p ys∨SqT K H p ys)∧∀l,H l=none→Q (.ref l) (upd H l (.lst ys))):=by subst h;exact JP
theorem nQ {X:Cx} (K:W.Frag) {e:Expr} {f:Str} {pos:Pos} {ta:TE} (he:PE X e ta) (hb:attributeBase e f X.env (eval e X.env)=eval e X.env) (h:X.K=K:=by rfl):PE X (.Attribute e f pos) (wS K ta f):=by subst h;exact jU he hb
def CanalFld (fs:List (Str×V)) (r l n:V):Prop:=fs.lookup ("reaches":Str)=some r∧fs.lookup ("locks":Str)=some l∧fs.lookup ("nights":Str)=some n∧∀m:Str,¬m="reaches"→¬m="locks"→¬m="nights"→fs.lookup m=none
theorem EZ (r l n:V):CanalFld (jK "nights" n (jK "locks" l (jK "reaches" r []))) r l n:=by
 refine ⟨?_,?_,?_,fun m h1 h2 h3=>?_⟩
 ·rw [vA (f:="nights") (g:="reaches") (by decide +kernel),vA (f:="locks") (g:="reaches") (by decide +kernel),JJ]
 ·rw [vA (f:="nights") (g:="locks") (by decide +kernel),JJ]
 ·rw [JJ]
 ·rw [vA h3,vA h2,vA h1];rfl
theorem CanalFld.no {fs:List (Str×V)} {r l n:V} (h:CanalFld fs r l n) {m:Str} (h1:¬m="reaches") (h2:¬m="locks") (h3:¬m="nights"):fs.lookup m=none:=h.2.2.2 m h1 h2 h3
def RcO (cR:Addr) (H:Hp) (v:V) (r:RC):Prop:=∃x,v=.ref x∧RcAt cR H x r
def LkO (cs:Kd→Addr) (H:Hp) (v:V) (l:LC):Prop:=∃x,v=.ref x∧LockAt cs H x l.kd (.str l.name) (.int l.high) (.int l.low) l.room l.extra
theorem RcO.same {cR:Addr} {H H':Hp} (e:Same H H') (v:V) (r:RC):RcO cR H v r→RcO cR H' v r:=fun ⟨x,h1,h2⟩=>⟨x,h1,h2.same e⟩
theorem LkO.same {cs:Kd→Addr} {H H':Hp} (e:Same H H') (v:V) (l:LC):LkO cs H v l→LkO cs H' v l:=fun ⟨x,h1,h2⟩=>⟨x,h1,h2.same e⟩
theorem RcO.keep {cR y:Addr} {ys:List V} {H H':Hp} (k:Keep y H H') (hy:H y=some (.lst ys)) (v:V) (r:RC):RcO cR H v r→RcO cR H' v r:=fun ⟨x,h1,dx,fs,h2,h3⟩=>⟨x,h1,dx,fs,k _ _ (qV h2 hy (fun z=>nomatch z)) h2,h3⟩
theorem LkO.keep {cs:Kd→Addr} {y:Addr} {ys:List V} {H H':Hp} (k:Keep y H H') (hy:H y=some (.lst ys)) (v:V) (l:LC):LkO cs H v l→LkO cs H' v l:=fun ⟨x,h1,dx,h2⟩=>⟨x,h1,dx,k _ _ (qV h2 hy (fun z=>nomatch z)) h2⟩
theorem RcO.keepI {cR y c d:Addr} {H H':Hp} (k:Keep y H H') (hy:H y=some (.ins c d [])) (v:V) (r:RC):RcO cR H v r→RcO cR H' v r:=fun ⟨x,h1,dx,fs,h2,h3⟩=>⟨x,h1,dx,fs,k _ _ (fun z=>by rw [z,hy] at h2;cases h2;cases h3.1) h2,h3⟩
theorem LkO.keepI {cs:Kd→Addr} {y c d:Addr} {H H':Hp} (k:Keep y H H') (hy:H y=some (.ins c d [])) (v:V) (l:LC):LkO cs H v l→LkO cs H' v l:=fun ⟨x,h1,dx,h2⟩=>⟨x,h1,dx,k _ _ (fun z=>by
 rw [z,hy] at h2
 have e:=IJ l.kd (.str l.name) (.int l.high) (.int l.low) (.int l.room) (.int l.extra)
 injection h2 with h2;injection h2 with h2 h3 h4
 rw [← h4] at e;cases e) h2⟩
theorem QAt.keep {y:Addr} {H H':Hp} (k:Keep y H H') {o:HO} (hy:H y=some o) (ho:∀xs,o≠.tup xs) (v:V) (p:Int×Int):QAt H v p→QAt H' v p:=fun ⟨t,h1,h2⟩=>⟨t,h1,k _ _ (fun z=>by rw [z,hy] at h2;exact ho _ (Option.some.inj h2)) h2⟩
def CnAt (cs:Kd→Addr) (cR cN:Addr) (D:List Addr) (H:Hp) (x:Addr) (R:List RC) (L:List LC) (N:List (List (Int×Int))):Prop:=∃(dx rl ll nl:Addr) (fs:List (Str×V)) (rs ls ns:List V),H x=some (.ins cN dx fs)∧CanalFld fs (.ref rl) (.ref ll) (.ref nl)∧H rl=some (.lst rs)∧H ll=some (.lst ls)∧H nl=some (.lst ns)∧AllAt (RcO cR H) rs R∧AllAt (LkO cs H) ls L∧AllAt (NAt D H) ns N∧rl∉D∧ll∉D∧nl∉D
theorem CnAt.same {cs:Kd→Addr} {cR cN:Addr} {D:List Addr} {H H':Hp} {x:Addr} {R:List RC} {L:List LC} {N:List (List (Int×Int))} (e:Same H H') (h:CnAt cs cR cN D H x R L N):CnAt cs cR cN D H' x R L N:=by
 obtain ⟨dx,rl,ll,nl,fs,rs,ls,ns,h1,h2,h3,h4,h5,h6,h7,h8,h9⟩:=h
 exact ⟨dx,rl,ll,nl,fs,rs,ls,ns,e _ _ h1,h2,e _ _ h3,e _ _ h4,e _ _ h5,h6.mono (RcO.same e),h7.mono (LkO.same e),h8.mono (NAt.same e),h9⟩
def LT (H:Hp) (nv:V) (N:List (List (Int×Int))):Prop:=(nv=.non∧N=[])∨∃(nl:Addr) (ns:List V),nv=.ref nl∧H nl=some (.lst ns)∧AllAt (NAt [] H) ns N∧ns.length≤100
def lY (cs:Kd→Addr) (cR cN:Addr):Sp:=fun vs H Q _=>∃(x dx rl ll:Addr) (nv:V) (rs ls:List V) (R:List RC) (L:List LC) (N:List (List (Int×Int))),vs=[.ref x,.ref rl,.ref ll,nv]∧H x=some (.ins cN dx [])∧H rl=some (.lst rs)∧H ll=some (.lst ls)∧AllAt (RcO cR H) rs R∧AllAt (LkO cs H) ls L∧LT H nv N∧
 ∀H',Keep x H H'→(∀D:List Addr,(∀d∈D,H d≠none)→CnAt cs cR cN D H' x R L N)→Q .non H'
def ZB (cs:Kd→Addr) (cR cN:Addr) (F:Nat→Nat→Int):Sp:=fun vs H Q _=>∃(x:Addr) (D:List Addr) (R:List RC) (L:List LC) (N:List (List (Int×Int))),vs=[.ref x]∧CnAt cs cR cN D H x R L N∧Q (.int (F R.length L.length)) H
def zN (cs:Kd→Addr) (cR cN:Addr) (F:Nat→Nat→Int→Int):Sp:=fun vs H Q _=>∃(x:Addr) (D:List Addr) (R:List RC) (L:List LC) (N:List (List (Int×Int))) (k:Int),vs=[.ref x,.int k]∧CnAt cs cR cN D H x R L N∧Q (.int (F R.length L.length k)) H
def zE (sea:Int) (r:RC):Int×Int:=(r.crest,if r.target = -1 then sea else r.target)
def yO (n m:Nat):Int:=(n:Int)+2*(m:Int)
def fY (n m:Nat):Int:=(n:Int)+2*(m:Int)+1
def vU (n _m:Nat) (k:Int):Int:=(n:Int)+k
def vE (n m:Nat) (k:Int):Int:=(n:Int)+(m:Int)+k
def gY (cs:Kd→Addr) (cR cN:Addr):Sp:=fun vs H Q _=>∃(x:Addr) (D:List Addr) (R:List RC) (L:List LC) (N:List (List (Int×Int))),vs=[.ref x]∧CnAt cs cR cN D H x R L N∧R.length≤100∧
 ∀(l:Addr) (ws:List V) (H':Hp),Same H H'→H l=none→H' l=some (.lst ws)→AllAt (QAt H') ws (R.map (zE (yO R.length L.length)))→Q (.ref l) H'
structure Drawn (R:List RC) (L:List LC) (N:List (List (Int×Int))):Prop where
 r8:R.length≤8
 r1:1≤R.length
 l8:L.length≤8
 n6:N.length≤6
 good:∀(i:Nat) (r:RC),R[i]?=some r→r.good i
 lock:∀(i:Nat) (l:LC),L[i]?=some l→l.good R.length
 night:∀p∈N,p.length=R.length
theorem fQ {H:Hp} {x dx:Addr} {o o':HO} (nx:H x=none) (ndx:H dx=none):Same H (upd (upd H dx o) x o'):=fun b u e=>by rw [j4 (qF e nx),j4 (qF e ndx)];exact e
theorem fK {H H1 H2:Hp} {x:Addr} (nx:H x=none) (u:Same H H1) (k:Keep x H1 H2):Same H H2:=fun b o e=>k b o (qF e nx) (u b o e)
def oN (sea:Nat) (r:RC):Int×Nat:=(r.crest,if r.target = -1 then sea else r.target.toNat)
def qE (R:List RC) (m:Nat):List (Int×Nat):=R.map (oN (R.length+2*m))
def n4 (R:List RC) (m:Nat):List Int:=R.map (·.water)++List.replicate (2*m+2) 0
theorem QV (R:List RC) (m:Nat):(qE R m).length=R.length:=List.length_map _
theorem p9 (R:List RC) (m:Nat):(n4 R m).length=R.length+2*m+2:=by
 unfold n4
 rw [List.length_append,List.length_map,List.length_replicate]
 omega
def QA (R:List RC):Prop:=∀(i:Nat) (r:RC),R[i]?=some r→-1≤r.target∧r.target<(i:Int)
theorem DP {R:List RC} {m:Nat} (h:QA R):iV (qE R m).length (qE R m):=by
 intro i c t hi
 rw [QV]
 unfold qE at hi
 rw [List.getElem?_map] at hi
 cases hr:R[i]? with
 |none=>rw [hr] at hi;cases hi
 |some r =>
  rw [hr] at hi
  have e:oN (R.length+2*m) r=(c,t):=Option.some.inj hi
  obtain ⟨h1,h2⟩:=h i r hr
  unfold oN at e
  have e2:(if r.target = -1 then R.length+2*m else r.target.toNat)=t:=congrArg Prod.snd e
  by_cases ht:r.target = -1
  ·rw [if_pos ht] at e2;omega
  ·rw [if_neg ht] at e2;omega
theorem GI {K:W.Frag} {H:Hp} {ws:List V} {R:List RC} {m:Nat} (hT:QA R) (h:AllAt (QAt H) ws (R.map (zE (yO R.length m)))):WeirsAt K H ws (qE R m) (n4 R m).length:=by
 refine ⟨by rw [h.1,List.length_map,QV],fun i v hv=>?_⟩
 obtain ⟨p,hp,t,rfl,ht⟩:=h.2 i v hv
 rw [List.getElem?_map] at hp
 cases hr:R[i]? with
 |none=>rw [hr] at hp;cases hp
 |some r =>
  rw [hr] at hp
  cases hp
  obtain ⟨h1,h2⟩:=hT i r hr
  have hi:i<R.length:=(List.getElem?_eq_some_iff.mp hr).1
  refine ⟨t,r.crest,if r.target = -1 then R.length+2*m else r.target.toNat,rfl,?_,?_,?_⟩
  ·unfold qE;rw [List.getElem?_map,hr];rfl
  ·have e:(((if r.target = -1 then R.length+2*m else r.target.toNat):Nat):Int)=(zE (yO R.length m) r).2:=by
    unfold zE yO
    by_cases ht:r.target = -1
    ·rw [if_pos ht,if_pos ht];omega
    ·rw [if_neg ht,if_neg ht];omega
   rw [e]
   exact SqT.of ht
  ·rw [p9];split<;>omega
def iF (cs:Kd→Addr) (cR cN:Addr):Sp:=fun vs H Q _=>∃(x wa:Addr) (D:List Addr) (R:List RC) (L:List LC) (N:List (List (Int×Int))) (ms:List Int) (k:Nat),vs=[.ref x,.ref wa,.int (k:Int)]∧CnAt cs cR cN D H x R L N∧H wa=some (.tup (ms.map V.int))∧R.length+k<ms.length∧Q (.bl (decide (0<ms.getD (R.length+k) 0))) H
theorem gN {R:List RC} {L:List LC} {N:List (List (Int×Int))} (h:Drawn R L N):QA R:=fun i r hr=>by
 obtain ⟨g1,g2,g3,g4,g5,g6,g7,g8,g9⟩:=h.good i r hr
 exact ⟨g8,g9⟩
def JZ (K:W.Frag):Sp:=fun vs H Q _=>∃(s:Addr) (ns:List Int) (k:Int) (m:Int),vs=[.ref s,.int k,.int m]∧SqL K H s (ns.map V.int)∧ns.length≤63∧0≤k∧k≤100000∧1≤m∧∀z:Int,0≤z→z<m→Q (.int z) H
def oB (K:W.Frag):Sp:=fun vs H Q _=>∃(s:Addr) (ns:List Int),vs=[.ref s]∧SqL K H s (ns.map V.int)∧ns.length≤63∧∀z:Int,1≤z→z≤10000000000→Q (.int z) H
theorem LL {k:Int} (h0:0≤k) (h1:k≤100000):0≤k*k∧k*k≤10000000000:=by
 refine ⟨Int.mul_nonneg h0 h0,?_⟩
 have:=Int.mul_le_mul h1 h1 h0 (by decide:(0:Int)≤100000)
 omega
def sR (K:W.Frag) (cR:Addr):Sp:=fun vs H Q _=>∃(s:Addr) (ns:List Int) (k:Nat) (u:Int),vs=[.ref s,.int (k:Int),.int u]∧SqL K H s (ns.map V.int)∧ns.length≤63∧k<8∧1≤u∧u≤10000000000∧∀(x:Addr) (r:RC) (H':Hp),r.good k→Same H H'→H x=none→RcAt cR H' x r→Q (.ref x) H'
def tU (K:W.Frag) (cs:Kd→Addr):Sp:=fun vs H Q _=>∃(s:Addr) (ns:List Int) (k n:Nat) (u:Int),vs=[.ref s,.int (k:Int),.int (n:Int),.int u]∧SqL K H s (ns.map V.int)∧ns.length≤63∧k<4∧2≤n∧n≤8∧1≤u∧u≤10000000000∧∀(x:Addr) (l:LC) (H':Hp),l.good n→Same H H'→H x=none→LkO cs H' (.ref x) l→Q (.ref x) H'
def rN (K:W.Frag):Sp:=fun vs H Q _=>∃(s:Addr) (ns:List Int) (k n:Nat) (u:Int),vs=[.ref s,.int (k:Int),.int (n:Int),.int u]∧SqL K H s (ns.map V.int)∧ns.length≤63∧k<6∧n≤8∧1≤u∧u≤10000000000∧∀(l:Addr) (p:List (Int×Int)) (H':Hp),p.length=n→Same H H'→H l=none→NAt [] H' (.ref l) p→Q (.ref l) H'
def sW (K:W.Frag) (cs:Kd→Addr) (cR cN:Addr):Sp:=fun vs H Q _=>∃(s:Addr) (ns:List Int) (mr ml mn:Nat),vs=[.ref s,.int (mr:Int),.int (ml:Int),.int (mn:Int)]∧SqL K H s (ns.map V.int)∧ns.length≤63∧2≤mr∧mr≤8∧1≤ml∧ml≤4∧mn≤5∧∀(x:Addr) (R:List RC) (L:List LC) (N:List (List (Int×Int))) (H':Hp),Drawn R L N→2≤R.length→1≤L.length→Same H H'→H x=none→CnAt cs cR cN [] H' x R L N→Q (.ref x) H'
theorem wB (zs:List Str) {k:Nat} (h:k<zs.length):∃z:Str,kQ (zs.map V.str) (k:Int)=some (.str z):=⟨zs[k],kL (by rw [List.getElem?_map,List.getElem?_eq_getElem h];rfl)⟩
theorem iN (zs:List Int) {i:Int} (h0:0≤i) (h:i<(zs.length:Int)):∃z∈zs,kQ (zs.map V.int) i=some (.int z):=by
 have hl:i.toNat<zs.length:=by omega
 have:=kL (xs:=zs.map V.int) (j:=i.toNat) (v:=.int zs[i.toNat]) (by rw [List.getElem?_map,List.getElem?_eq_getElem hl];rfl)
 rw [show ((i.toNat:Nat):Int)=i by omega] at this
 exact ⟨_,List.getElem_mem hl,this⟩
theorem dZ {a u:Int} {m:Int} (h0:0≤a) (h1:a≤m) (u0:1≤u) (u1:u≤10000000000) (hm:0≤m):0≤a*u∧a*u≤m*10000000000:=by
 refine ⟨Int.mul_nonneg h0 (by omega),?_⟩
 exact Int.mul_le_mul h1 u1 (by omega) hm
def gB (b:Bool):Str:=if b then "up" else "down"
def vI (L:List LC) (p:Nat×Bool):Int×Int:=match L[p.1]? with
 |some l=>if p.2 then (l.low,l.high) else (l.high,l.low)
 |none=>(0,0)
theorem Q3 {L:List LC} {k:Nat} {l:LC} (h:L[k]?=some l):vI L (k,true)=(l.low,l.high):=by unfold vI;rw [h];rfl
theorem QZ {L:List LC} {k:Nat} {l:LC} (h:L[k]?=some l):vI L (k,false)=(l.high,l.low):=by unfold vI;rw [h];rfl
def PAt (H:Hp) (v:V) (p:Nat×Bool):Prop:=∃t,v=.ref t∧H t=some (.tup [.int (p.1:Int),.str (gB p.2)])
theorem PAt.same {H H':Hp} (e:Same H H') (v:V) (p:Nat×Bool):PAt H v p→PAt H' v p:=fun ⟨t,h1,h2⟩=>⟨t,h1,e _ _ h2⟩
theorem PAt.put {H:Hp} {d:Addr} {ys:List V} {o:HO} (hd:H d=some (.lst ys)) (v:V) (p:Nat×Bool):PAt H v p→PAt (upd H d o) v p:=fun ⟨t,h1,h2⟩=>⟨t,h1,by rw [j4 (fun z=>by rw [z,hd] at h2;cases h2)];exact h2⟩
def qJ (L:List LC) (s:Int) (ps:List (Nat×Bool)):List Int:=s::ps.map fun p=>(vI L p).2
def QC (L:List LC) (s:Int) (ps:List (Nat×Bool)):Prop:=∀(j:Nat) (p:Nat×Bool),ps[j]?=some p→(qJ L s ps)[j]?=some (vI L p).1
theorem mU (L:List LC) (s:Int) (ps:List (Nat×Bool)) (p:Nat×Bool):qJ L s (ps++[p])=qJ L s ps++[(vI L p).2]:=by unfold qJ;rw [List.map_append];rfl
theorem fL (L:List LC) (s:Int) (ps:List (Nat×Bool)):(qJ L s ps).length=ps.length+1:=by unfold qJ;rw [List.length_cons,List.length_map]
theorem FW (L:List LC) (s:Int) (ps:List (Nat×Bool)) (i:Nat):(qJ L s ps).take (i+1)=qJ L s (ps.take i):=by unfold qJ;rw [List.take_succ_cons,List.map_take]
theorem IM {L:List LC} {s:Int} {ps:List (Nat×Bool)} {j:Nat} (h:j<ps.length+1):(qJ L s ps)[j]?=(qJ L s (ps.take j))[j]?:=by
 rw [← FW,List.getElem?_take,if_pos (by omega)]
theorem rF {R:List RC} {L:List LC} {N:List (List (Int×Int))} (d:Drawn R L N) {p:Nat×Bool} (h:p.1<L.length):∃l,L[p.1]?=some l∧l.good R.length:=⟨_,List.getElem?_eq_getElem h,d.lock _ _ (List.getElem?_eq_getElem h)⟩
def J4 (L:List LC) (r:Int) (k:Nat):List (Nat×Bool):=match L[k]? with
 |some l=>(if l.low=r then [(k,true)] else [])++(if l.high=r then [(k,false)] else [])
 |none=>[]
def JT (L:List LC) (r:Int) (n:Nat):List (Nat×Bool):=(List.range n).flatMap (J4 L r)
def iD (L:List LC) (r:Int):List (Nat×Bool):=JT L r L.length
theorem lQ (L:List LC) (r:Int) (n:Nat):JT L r (n+1)=JT L r n++J4 L r n:=by unfold JT;rw [List.range_succ,List.flatMap_append];simp
theorem turnK_mem {L:List LC} {r:Int} {k:Nat} {p:Nat×Bool}:p∈J4 L r k↔p.1=k∧k<L.length∧(vI L p).1=r:=by
 unfold J4
 by_cases hk:k<L.length
 ·rw [List.getElem?_eq_getElem hk]
  show p∈(if L[k].low=r then [(k,true)] else [])++(if L[k].high=r then [(k,false)] else [])↔_
  rw [List.mem_append]
  have e1:=Q3 (List.getElem?_eq_getElem hk)
  have e2:=QZ (List.getElem?_eq_getElem hk)
  obtain ⟨pk,pb⟩:=p
  constructor
  ·rintro (h|h)
   ·split at h
    ·cases List.mem_singleton.mp h;rw [e1];exact ⟨rfl,hk,by assumption⟩
    ·cases h
   ·split at h
    ·cases List.mem_singleton.mp h;rw [e2];exact ⟨rfl,hk,by assumption⟩
    ·cases h
  ·rintro ⟨h1,_,h3⟩
   have h1:pk=k:=h1
   subst h1
   cases pb
   ·rw [e2] at h3;exact .inr (by rw [if_pos h3];simp)
   ·rw [e1] at h3;exact .inl (by rw [if_pos h3];simp)
 ·rw [List.getElem?_eq_none (by omega)]
  constructor
  ·intro h;cases h
  ·intro h;omega
theorem turns_mem {L:List LC} {r:Int} {p:Nat×Bool}:p∈iD L r↔p.1<L.length∧(vI L p).1=r:=by
 unfold iD JT
 rw [List.mem_flatMap]
 constructor
 ·rintro ⟨k,hk,h⟩
  obtain ⟨h1,h2,h3⟩:=turnK_mem.mp h
  exact ⟨by omega,h3⟩
 ·rintro ⟨h1,h2⟩
  exact ⟨p.1,List.mem_range.mpr h1,turnK_mem.mpr ⟨rfl,h1,h2⟩⟩
theorem E7 (L:List LC) (r:Int) (k:Nat):(J4 L r k).length≤2:=by
 unfold J4
 split
 ·rw [List.length_append];split<;>split<;>simp
 ·exact Nat.zero_le _
theorem DU (L:List LC) (r:Int) (n:Nat):(JT L r n).length≤2*n:=by
 induction n with
 |zero=>exact Nat.le_refl _
 |succ n ih=>rw [lQ,List.length_append];have:=E7 L r n;omega
def tR (cs:Kd→Addr) (cR cN:Addr):Sp:=fun vs H Q _=>∃(x:Addr) (r:Int) (D:List Addr) (R:List RC) (L:List LC) (N:List (List (Int×Int))),vs=[.ref x,.int r]∧CnAt cs cR cN D H x R L N∧L.length≤8∧∀(l:Addr) (us:List V) (H':Hp),Same H H'→H l=none→H' l=some (.lst us)→AllAt (PAt H') us (iD L r)→Q (.ref l) H'
def uQ (cs:Kd→Addr):Sp:=fun vs H Q _=>∃(y:Addr) (l:LC) (b:Bool),vs=[.ref y,.str (gB b)]∧LkO cs H (.ref y) l∧∀(t:Addr) (H':Hp),Same H H'→H t=none→H' t=some (.tup [.int (if b then l.low else l.high),.int (if b then l.high else l.low)])→Q (.ref t) H'
theorem u7 (b:Bool):decide (V.str (gB b)=V.str "up")=b:=by
 cases b
 ·exact decide_eq_false fun h=>absurd (V.str.inj h) (by decide +kernel)
 ·exact decide_eq_true rfl
theorem GT {L:List LC} {s:Int} {ps:List (Nat×Bool)} {p:Nat×Bool} {a:Int} (h:(qJ L s ps)[ps.length]?=some a):QC L s (ps++[p])↔QC L s ps∧(vI L p).1=a:=by
 have e:∀j,j≤ps.length→(qJ L s (ps++[p]))[j]?=(qJ L s ps)[j]?:=fun j hj=>by
  rw [mU,List.getElem?_append_left (by rw [fL];omega)]
 constructor
 ·intro ok
  refine ⟨fun j q hq=>?_,?_⟩
  ·have hj:j<ps.length:=(List.getElem?_eq_some_iff.mp hq).1
   have:=ok j q (by rw [List.getElem?_append_left hj];exact hq)
   rwa [e j (by omega)] at this
  ·have:=ok ps.length p (by rw [List.getElem?_append_right (Nat.le_refl _),Nat.sub_self];rfl)
   rw [e _ (Nat.le_refl _),h] at this
   exact (Option.some.inj this).symm
 ·rintro ⟨ok,ha⟩ j q hq
  by_cases hj:j<ps.length
  ·rw [List.getElem?_append_left hj] at hq
   rw [e j (by omega)]
   exact ok j q hq
  ·rw [List.getElem?_append_right (by omega)] at hq
   have hz:j - ps.length=0:=by
    have:=(List.getElem?_eq_some_iff.mp hq).1
    rw [List.length_singleton] at this
    omega
   rw [hz] at hq
   cases hq
   rw [show j=ps.length by omega,e _ (Nat.le_refl _),h,ha]
def eE (R:List RC) (L:List LC) (i:Nat) (z:Int):Prop:=(i<R.length→0≤z)∧(∀(k:Nat) (l:LC),i=R.length+k→L[k]?=some l→z=0∨z=l.room)∧(∀(k:Nat) (l:LC),i=R.length+L.length+k→L[k]?=some l→0≤z∧(l.kd=.basin→z≤l.extra)∧(l.kd≠.basin→z=0))∧(i=R.length+2*L.length→0≤z)
def StTo (R:List RC) (L:List LC) (ms:List Int):Prop:=∀(i:Nat) (z:Int),ms[i]?=some z→eE R L i z
structure StOk (R:List RC) (L:List LC) (ms:List Int):Prop where
 len:ms.length=R.length+2*L.length+2
 to:StTo R L ms
theorem StTo.snoc {R:List RC} {L:List LC} {ms:List Int} {z:Int} {n:Nat} (h:StTo R L ms) (hn:ms.length=n) (hz:eE R L n z):StTo R L (ms++[z]):=fun i w hw=>by
 by_cases hl:i<ms.length
 ·rw [List.getElem?_append_left hl] at hw
  exact h i w hw
 ·rw [List.getElem?_append_right (by omega)] at hw
  have h0:i - ms.length=0:=by
   have:=(List.getElem?_eq_some_iff.mp hw).1
   rw [List.length_singleton] at this
   omega
  rw [h0] at hw
  cases hw
  rw [show i=n by omega]
  exact hz
theorem StTo.nil (R:List RC) (L:List LC):StTo R L []:=fun i z h=>by cases h
theorem E3 {R:List RC} {L:List LC} {i:Nat} {z:Int} (h:i<R.length) (hz:0≤z):eE R L i z:=⟨fun _=>hz,fun k l e=>absurd e (by omega),fun k l e=>absurd e (by omega),fun _=>hz⟩
theorem GJ {R:List RC} {L:List LC} {i:Nat} {z:Int} {l:LC} (h:L[i]?=some l) (hz:z=0∨z=l.room):eE R L (R.length+i) z:=by
 have hi:=(List.getElem?_eq_some_iff.mp h).1
 refine ⟨fun h=>absurd h (by omega),fun k l' e hl=>?_,fun k l' e=>absurd e (by omega),fun e=>absurd e (by omega)⟩
 have:k=i:=by omega
 subst this
 rw [h] at hl
 cases hl
 exact hz
theorem HI {R:List RC} {L:List LC} {i:Nat} {z:Int} {l:LC} (h:L[i]?=some l) (hz:0≤z∧(l.kd=.basin→z≤l.extra)∧(l.kd≠.basin→z=0)):eE R L (R.length+L.length+i) z:=by
 have hi:=(List.getElem?_eq_some_iff.mp h).1
 refine ⟨fun h=>absurd h (by omega),fun k l' e hl=>?_,fun k l' e hl=>?_,fun e=>absurd e (by omega)⟩
 ·have:=(List.getElem?_eq_some_iff.mp hl).1
  omega
 have:k=i:=by omega
 subst this
 rw [h] at hl
 cases hl
 exact hz
theorem tM {R:List RC} {L:List LC} {i:Nat} {z:Int} (h:R.length+2*L.length≤i) (hz:i=R.length+2*L.length→0≤z):eE R L i z:=by
 refine ⟨fun h=>absurd h (by omega),fun k l' e hl=>?_,fun k l' e hl=>?_,hz⟩<;>(have:=(List.getElem?_eq_some_iff.mp hl).1;omega)
theorem uC {P:Prop} {i:Decidable P} (h:¬P):(if @decide P i=true then (1:Int) else 0)=0:=if_neg (fun z=>h (of_decide_eq_true z))
theorem IF {P:Prop} {i:Decidable P} (h:P):(if @decide P i=true then (1:Int) else 0)=1:=if_pos (decide_eq_true h)
theorem gR (zs:List Int):(zs.map V.int).all vL=true:=by
 rw [List.all_eq_true]
 intro x hx
 obtain ⟨z,_,rfl⟩:=List.mem_map.mp hx
 rfl
abbrev kE:=Int×List (Nat×Bool)
def WyAt (H:Hp) (v:V) (y:kE):Prop:=∃(t st:Addr) (us:List V),v=.ref t∧H t=some (.tup [.int y.1,.ref st])∧H st=some (.tup us)∧AllAt (PAt H) us y.2
theorem WyAt.same {H H':Hp} (e:Same H H') (v:V) (y:kE):WyAt H v y→WyAt H' v y:=fun ⟨t,st,us,h1,h2,h3,h4⟩=>⟨t,st,us,h1,e _ _ h2,e _ _ h3,h4.mono (PAt.same e)⟩
theorem WyAt.put {H:Hp} {d:Addr} {ys:List V} {o:HO} (hd:H d=some (.lst ys)) (v:V) (y:kE):WyAt H v y→WyAt (upd H d o) v y:=fun ⟨t,st,us,h1,h2,h3,h4⟩=>⟨t,st,us,h1,by rw [j4 (fun z=>by rw [z,hd] at h2;cases h2)];exact h2,by rw [j4 (fun z=>by rw [z,hd] at h3;cases h3)];exact h3,h4.mono (PAt.put hd)⟩
structure WyOk (L:List LC) (y:kE):Prop where
 lt:∀p∈y.2,p.1<L.length
 ok:QC L y.1 y.2
 le:y.2.length≤8
def StAt (H:Hp) (t:Addr) (d:Int) (ms:List Int) (pl:List Nat):Prop:=∃wt pt:Addr,H t=some (.tup [.int d,.ref wt,.ref pt])∧H wt=some (.tup (ms.map V.int))∧H pt=some (.tup (pl.map fun (p:Nat)=>V.int (p:Int)))
theorem StAt.same {H H':Hp} {t:Addr} {d:Int} {ms:List Int} {pl:List Nat} (e:Same H H') (h:StAt H t d ms pl):StAt H' t d ms pl:=by
 obtain ⟨wt,pt,h1,h2,h3⟩:=h
 exact ⟨wt,pt,e _ _ h1,e _ _ h2,e _ _ h3⟩
structure Fleet (L:List LC) (ys:List kE) (pl:List Nat):Prop where
 len:pl.length=ys.length
 n10:ys.length≤10
 ok:∀y∈ys,WyOk L y
 le:∀(i:Nat) (y:kE) (p:Nat),ys[i]?=some y→pl[i]?=some p→p≤y.2.length
def wI (K:W.Frag) (cs:Kd→Addr) (cR cN:Addr):Sp:=fun vs H Q _=>∃(s x:Addr) (ns:List Int) (k mo:Nat) (D:List Addr) (R:List RC) (L:List LC) (N:List (List (Int×Int))),vs=[.ref s,.int (k:Int),.ref x,.int (mo:Int)]∧SqL K H s (ns.map V.int)∧ns.length≤63∧k<20∧1≤mo∧mo≤8∧CnAt cs cR cN D H x R L N∧Drawn R L N∧1≤L.length∧∀(t:Addr) (y:kE) (H':Hp),WyOk L y→Same H H'→H t=none→WyAt H' (.ref t) y→Q (.ref t) H'
def EndAt (L:List LC) (r:Int):Prop:=∃p:Nat×Bool,p.1<L.length∧(vI L p).1=r
theorem EndAt.turns {L:List LC} {r:Int} (h:EndAt L r):0<(iD L r).length:=by
 obtain ⟨p,h1,h2⟩:=h
 exact List.length_pos_of_mem (turns_mem.mpr ⟨h1,h2⟩)
theorem EndAt.next {L:List LC} {p:Nat×Bool} (h:p.1<L.length):EndAt L (vI L p).2:=by
 obtain ⟨pk,pb⟩:=p
 have e:=List.getElem?_eq_getElem h
 cases pb
 ·exact ⟨(pk,true),h,by rw [Q3 e,QZ e]⟩
 ·exact ⟨(pk,false),h,by rw [Q3 e,QZ e]⟩
def tS (K:W.Frag) (cs:Kd→Addr) (cR cN:Addr):Sp:=fun vs H Q _=>∃(s x wl:Addr) (ns:List Int) (us:List V) (ys:List kE) (D:List Addr) (R:List RC) (L:List LC) (N:List (List (Int×Int))),vs=[.ref s,.ref x,.ref wl]∧SqL K H s (ns.map V.int)∧ns.length≤63∧CnAt cs cR cN D H x R L N∧Drawn R L N∧H wl=some (.lst us)∧AllAt (WyAt H) us ys∧ys.length≤10∧(∀y∈ys,WyOk L y)∧
 ∀(st:Addr) (d:Int) (ms:List Int) (pl:List Nat) (H':Hp),Same H H'→StAt H' st d ms pl→Fleet L ys pl→0≤d→d≤(N.length:Int)→StOk R L ms→Q (.ref st) H'
theorem HX (L:List LC) (s:Int):QC L s []:=fun j p hp=>by cases hp
theorem atI_last {xs:List V} {v:V} {n:Nat} (hn:xs.length=n+1) (h:xs[n]?=some v):kQ xs (-1)=some v:=by
 have e:y7 xs.length (-1)=some n:=by
  unfold y7
  rw [if_neg (by decide),if_pos (by omega)]
  congr 1
  omega
 unfold kQ
 rw [e]
 exact h
def sV (K:W.Frag) (cs:Kd→Addr) (cR cN eL:Addr):Sp:=fun vs H Q E=>∃(x st:Addr) (s:Int) (us:List V) (ps:List (Nat×Bool)) (D:List Addr) (R:List RC) (L:List LC) (N:List (List (Int×Int))),vs=[.ref x,.int s,.ref st]∧CnAt cs cR cN D H x R L N∧H st=some (.tup us)∧AllAt (PAt H) us ps∧(∀p∈ps,p.1<L.length)∧ps.length≤100∧
 (QC L s ps→∀(r:Addr) (H':Hp),Same H H'→H r=none→H' r=some (.lst ((qJ L s ps).map V.int))→Q (.ref r) H')∧(¬QC L s ps→∀H',Same H H'→E (.ref eL) none H')
def mL (K:W.Frag) (cs:Kd→Addr) (cR cN:Addr):Sp:=fun vs H Q _=>∃(x st:Addr) (s:Int) (us:List V) (ps:List (Nat×Bool)) (D:List Addr) (R:List RC) (L:List LC) (N:List (List (Int×Int))),vs=[.ref x,.int s,.ref st]∧CnAt cs cR cN D H x R L N∧H st=some (.tup us)∧AllAt (PAt H) us ps∧(∀p∈ps,p.1<L.length)∧ps.length≤100∧QC L s ps∧
 ∀(r:Addr) (H':Hp),Same H H'→H r=none→H' r=some (.lst ((qJ L s ps).map V.int))→Q (.ref r) H'
theorem EQ {K:W.Frag} {cs:Kd→Addr} {cR cN eL:Addr}:∀vs H Q E,mL K cs cR cN vs H Q E→sV K cs cR cN eL vs H Q (fun _ _ _=>False):=by
 rintro vs H Q E ⟨x,st,s,us,ps,D,R,L,N,e,h1,h2,h3,h4,h5,h6,q⟩
 exact ⟨x,st,s,us,ps,D,R,L,N,e,h1,h2,h3,h4,h5,fun _=>q,fun hno=>absurd h6 hno⟩
def StI (H:Hp) (t:Addr) (d:Int) (ms ps:List Int):Prop:=∃wt pt:Addr,H t=some (.tup [.int d,.ref wt,.ref pt])∧H wt=some (.tup (ms.map V.int))∧H pt=some (.tup (ps.map V.int))
theorem StI.same {H H':Hp} {t:Addr} {d:Int} {ms ps:List Int} (e:Same H H') (h:StI H t d ms ps):StI H' t d ms ps:=by
 obtain ⟨wt,pt,h1,h2,h3⟩:=h
 exact ⟨wt,pt,e _ _ h1,e _ _ h2,e _ _ h3⟩
theorem StAt.toI {H:Hp} {t:Addr} {d:Int} {ms:List Int} {pl:List Nat} (h:StAt H t d ms pl):StI H t d ms (pl.map fun (p:Nat)=>(p:Int)):=by
 obtain ⟨wt,pt,h1,h2,h3⟩:=h
 exact ⟨wt,pt,h1,h2,by rw [List.map_map];exact h3⟩
theorem fC (p:Str×Str×Int→Bool) (f:Str×Int→Str×Str×Int) (hf:∀q,(f q).2.2=q.2):∀ps:List (Str×Int),(vM p ((ps.filter qY).map f)).sum=(vM p (ps.map f)).sum
 |[]=>rfl
 |q::r=>by
  have ih:=fC p f hf r
  have e:∀(z:Str×Str×Int) (l:List (Str×Str×Int)),(vM p (z::l)).sum=(if p z=true then z.2.2 else 0)+(vM p l).sum:=by
   intro z l
   unfold vM
   rw [List.filter_cons]
   split
   ·rw [List.map_cons,List.sum_cons]
   ·rw [Int.zero_add]
  rw [List.map_cons,e,List.filter_cons]
  by_cases hz:q.2=0
  ·rw [if_neg (by unfold qY;rw [decide_eq_true hz];decide),ih,hf,hz]
   split<;>rw [Int.zero_add]
  ·rw [if_pos (by unfold qY;rw [decide_eq_false hz];rfl),List.map_cons,e,ih]
theorem GE (room v b:Int):vH b (kP .basin room v b)=v:=by
 unfold vH iL kP yR
 rw [fC _ _ (fun _=>rfl),fC _ _ (fun _=>rfl)]
 have e1:vM (toS "basin") (([("basin",v - b),("low",room - (v - b))]:List (Str×Int)).map fun p=>("chamber",p.1,p.2))=[v - b]:=by
  show List.map _ (List.filter _ [(("chamber":Str),("basin":Str),v - b),("chamber","low",room - (v - b))])=_
  rw [List.filter_cons,if_pos (show toS "basin" (("chamber":Str),("basin":Str),v - b)=true from decide_eq_true rfl),List.filter_cons,if_neg (show ¬toS "basin" (("chamber":Str),("low":Str),room - (v - b))=true from fun h=>absurd (of_decide_eq_true h) (show ¬("low":Str)="basin" by decide +kernel))]
  rfl
 have e2:vM (zT "basin") (([("basin",v - b),("low",room - (v - b))]:List (Str×Int)).map fun p=>("chamber",p.1,p.2))=[]:=by
  show List.map _ (List.filter _ [(("chamber":Str),("basin":Str),v - b),("chamber","low",room - (v - b))])=_
  have n0:¬("chamber":Str)="basin":=by decide +kernel
  rw [List.filter_cons,if_neg (show ¬zT "basin" (("chamber":Str),("basin":Str),v - b)=true from fun h=>n0 (of_decide_eq_true h)),List.filter_cons,if_neg (show ¬zT "basin" (("chamber":Str),("low":Str),room - (v - b))=true from fun h=>n0 (of_decide_eq_true h))]
  rfl
 rw [e1,e2]
 show b+(v - b+0) - 0=v
 omega
theorem EX (room v b:Int):vH b (kH .basin room v b)=0:=by
 unfold vH iL kH yG
 rw [fC _ _ (fun _=>rfl),fC _ _ (fun _=>rfl)]
 have e1:vM (zT "basin") (([("basin",b),("high",room - b)]:List (Str×Int)).map fun p=>(p.1,"chamber",p.2))=[b]:=by
  show List.map _ (List.filter _ [(("basin":Str),("chamber":Str),b),("high","chamber",room - b)])=_
  rw [List.filter_cons,if_pos (show zT "basin" (("basin":Str),("chamber":Str),b)=true from decide_eq_true rfl),List.filter_cons,if_neg (show ¬zT "basin" (("high":Str),("chamber":Str),room - b)=true from fun h=>absurd (of_decide_eq_true h) (show ¬("high":Str)="basin" by decide +kernel))]
  rfl
 have e2:vM (toS "basin") (([("basin",b),("high",room - b)]:List (Str×Int)).map fun p=>(p.1,"chamber",p.2))=[]:=by
  show List.map _ (List.filter _ [(("basin":Str),("chamber":Str),b),("high","chamber",room - b)])=_
  have n0:¬("chamber":Str)="basin":=by decide +kernel
  rw [List.filter_cons,if_neg (show ¬toS "basin" (("basin":Str),("chamber":Str),b)=true from fun h=>n0 (of_decide_eq_true h)),List.filter_cons,if_neg (show ¬toS "basin" (("high":Str),("chamber":Str),room - b)=true from fun h=>n0 (of_decide_eq_true h))]
  rfl
 rw [e1,e2]
 show b+0 - (b+0)=0
 omega
def eU (ms:List Int) (W:List (Int×Int)) (r:Nat):Int:=if ms.getD r 0<(W.getD r (0,0)).2 then ms.getD r 0 else (W.getD r (0,0)).2
def ZA (k:Nat) (ms:List Int) (W:List (Int×Int)) (n:Nat):List (Nat×Nat×Int):=(List.range n).map fun r=>(r,k,eU ms W r)
def Q7 (k:Nat) (W:List (Int×Int)) (n:Nat):List (Nat×Nat×Int):=(List.range n).map fun r=>(k,r,(W.getD r (0,0)).1)
def zX (k:Nat) (ms:List Int) (W:List (Int×Int)) (n:Nat):List (Nat×Nat×Int):=ZA k ms W n++Q7 k W n
theorem mW (k:Nat) (ms:List Int) (W:List (Int×Int)) (n:Nat):(ZA k ms W n).length=n:=by unfold ZA;rw [List.length_map,List.length_range]
theorem mO (k:Nat) (W:List (Int×Int)) (n:Nat):(Q7 k W n).length=n:=by unfold Q7;rw [List.length_map,List.length_range]
theorem E9 {k:Nat} {ms:List Int} {W:List (Int×Int)} {n i:Nat} (h:i<n):(ZA k ms W n).take (i+1)=(ZA k ms W n).take i++[(i,k,eU ms W i)]:=by
 rw [List.take_add_one]
 unfold ZA
 rw [List.getElem?_map,List.getElem?_range h]
 rfl
theorem EJ {k:Nat} {W:List (Int×Int)} {n i:Nat} (h:i<n):(Q7 k W n).take (i+1)=(Q7 k W n).take i++[(k,i,(W.getD i (0,0)).1)]:=by
 rw [List.take_add_one]
 unfold Q7
 rw [List.getElem?_map,List.getElem?_range h]
 rfl
theorem FL {k:Nat} {ms:List Int} {W:List (Int×Int)} {n m:Nat} (hk:k<m) (hn:n≤m):∀q∈zX k ms W n,q.1<m∧q.2.1<m:=fun q hq=>by
 rcases List.mem_append.mp hq with h|h
 ·obtain ⟨r,hr,rfl⟩:=List.mem_map.mp h
  have:=List.mem_range.mp hr
  exact ⟨by show r<m;omega,hk⟩
 ·obtain ⟨r,hr,rfl⟩:=List.mem_map.mp h
  have:=List.mem_range.mp hr
  exact ⟨hk,by show r<m;omega⟩
theorem w8 {W:List (Int×Int)} {i:Nat} {y:Int×Int} (h:W[i]?=some y):W.getD i (0,0)=y:=by rw [List.getD_eq_getElem?_getD,h];rfl
theorem tN {ms:List Int} {W:List (Int×Int)} {i:Nat} {y:Int×Int} (h:W[i]?=some y):eU ms W i=if ms.getD i 0<y.2 then ms.getD i 0 else y.2:=by unfold eU;rw [w8 h]
theorem GL {ms:List Int} {W:List (Int×Int)} {i:Nat} {y:Int×Int} (h:W[i]?=some y):eU ms W i=if y.2<ms.getD i 0 then y.2 else ms.getD i 0:=by rw [tN h];split<;>split<;>omega
def GW (R:List RC) (m:Nat) (ms:List Int) (W:List (Int×Int)) (gs:List Int):List (Nat×Nat×Int):=(zX (R.length+2*m+1) ms W R.length).filter qH++(yA (kJ (qE R m)) (fun a=>gs.getD a 0) (qE R m).length).filter qH
def KK (R:List RC) (m:Nat) (ms:List Int) (W:List (Int×Int)):List Int:=jY ms ((zX (R.length+2*m+1) ms W R.length).filter qH)
theorem lS {K:W.Frag} {H:Hp} {wq wa:Addr} {ws:List V} {R:List RC} {m:Nat} {ms:List Int} (hT:QA R) (h:AllAt (QAt H) ws (R.map (zE (yO R.length m)))) (hwq:H wq=some (.lst ws)) (hwa:Ints K H wa ms) (hms:ms.length=R.length+2*m+2) (h1:R.length≤100) (h2:m≤100):Ready K H wq wa ws (qE R m) ms :=
 ⟨SqL.of hwq,by have:=GI (K:=K) hT h;rw [p9] at this;rw [hms];exact this,hwa,DP hT,by rw [QV];omega,by omega⟩
def sU (K:W.Frag) (cs:Kd→Addr) (cR cN:Addr):Sp:=fun vs H Q _=>∃(x t wl:Addr) (d:Int) (ms ps:List Int) (us:List V) (W:List (Int×Int)) (D:List Addr) (R:List RC) (L:List LC) (N:List (List (Int×Int))),vs=[.ref x,.ref t,.ref wl]∧CnAt cs cR cN D H x R L N∧StI H t d ms ps∧H wl=some (.lst us)∧AllAt (QAt H) us W∧W.length=R.length∧ms.length=R.length+2*L.length+2∧R.length≤100∧L.length≤100∧QA R∧
 ∀(r:Addr) (H':Hp) (gs:List Int) (ys:List V),Same H H'→H r=none→H' r=some (.lst ys)→PoursH H' ys (GW R L.length ms W gs) ms.length→z9 (qE R L.length) (KK R L.length ms W) gs→Q (.ref r) H'
def qT (L:List LC) (y:kE) (p:Nat):Int:=if p=y.2.length then -1 else (qJ L y.1 y.2).getD p 0
def uN:Sp:=fun vs H Q _=>∃(t:Addr) (y:kE) (p:Int),vs=[.ref t,.int p]∧WyAt H (.ref t) y∧Q (.int ((y.2.length:Int) - p)) H
def mK (cs:Kd→Addr) (cR cN:Addr):Sp:=fun vs H Q _=>∃(x t:Addr) (y:kE) (p:Nat) (D:List Addr) (R:List RC) (L:List LC) (N:List (List (Int×Int))),vs=[.ref x,.ref t,.int (p:Int)]∧CnAt cs cR cN D H x R L N∧WyAt H (.ref t) y∧WyOk L y∧p≤y.2.length∧∀H',Same H H'→Q (.int (qT L y p)) H'
def y0 (L:List LC) (ys:List kE) (pl:List Nat):List Int:=(List.range ys.length).map fun i=>qT L (ys.getD i (0,[])) (pl.getD i 0)
def tT (cs:Kd→Addr) (cR cN:Addr):Sp:=fun vs H Q _=>∃(x wl st:Addr) (r:Int) (us:List V) (ys:List kE) (d:Int) (ms:List Int) (pl:List Nat) (D:List Addr) (R:List RC) (L:List LC) (N:List (List (Int×Int))),vs=[.ref x,.ref wl,.ref st,.int r]∧CnAt cs cR cN D H x R L N∧H wl=some (.lst us)∧AllAt (WyAt H) us ys∧StAt H st d ms pl∧Fleet L ys pl∧∀H',Same H H'→Q (.int (((y0 L ys pl).countP fun z=>decide (z=r):Nat):Int)) H'
theorem wE (b:Bool):wv b=.str (gB b):=by cases b<;>rfl
def vesOf (r l k:Nat) (lc:LC) (s:Str):Nat:=if s="high" then lc.high.toNat else if s="low" then lc.low.toNat else if s="chamber" then r+k else r+l+k
def v7 (r l k:Nat) (lc:LC) (q:Str×Str×Int):Nat×Nat×Int:=(vesOf r l k lc q.1,vesOf r l k lc q.2.1,q.2.2)
inductive okW:Str→Prop
 |high:okW "high"
 |low:okW "low"
 |cham:okW "chamber"
 |bas:okW "basin"
theorem fH (r l k:Nat) (lc:LC):vesOf r l k lc "high"=lc.high.toNat:=if_pos rfl
theorem fN (r l k:Nat) (lc:LC):vesOf r l k lc "low"=lc.low.toNat:=by unfold vesOf;rw [if_neg (show ¬("low":Str)="high" by decide +kernel),if_pos rfl]
theorem QX (r l k:Nat) (lc:LC):vesOf r l k lc "chamber"=r+k:=by unfold vesOf;rw [if_neg (show ¬("chamber":Str)="high" by decide +kernel),if_neg (show ¬("chamber":Str)="low" by decide +kernel),if_pos rfl]
theorem fD (r l k:Nat) (lc:LC):vesOf r l k lc "basin"=r+l+k:=by unfold vesOf;rw [if_neg (show ¬("basin":Str)="high" by decide +kernel),if_neg (show ¬("basin":Str)="low" by decide +kernel),if_neg (show ¬("basin":Str)="chamber" by decide +kernel)]
theorem dR {r l k:Nat} {lc:LC} {s:Str} (h:okW s) (hg:lc.good r) (hk:k<l):vesOf r l k lc s<r+2*l+2:=by
 obtain ⟨g1,g2,g3,g4,_⟩:=hg
 cases h
 ·rw [fH];omega
 ·rw [fN];omega
 ·rw [QX];omega
 ·rw [fD];omega
def d4 (a b c d:V):List (j6×V):=[(.inr "high",a),(.inr "low",b),(.inr "chamber",c),(.inr "basin",d)]
theorem zI {s t:Str} (h:¬s=t):¬((Sum.inr s:j6)=(Sum.inr t:j6)):=fun e=>h (Sum.inr.inj e)
theorem KL (a b c d:V):d9 [] [((.inr "high":j6),a),(.inr "low",b),(.inr "chamber",c),(.inr "basin",d)]=d4 a b c d:=by
 show vN (vN (vN (vN ([]:List (j6×V)) (Sum.inr "high") a) (Sum.inr "low") b) (Sum.inr "chamber") c) (Sum.inr "basin") d=_
 rw [iA a (valV_nil:qZ [] (Sum.inr "high":j6)=none)]
 rw [iA b (by show qZ [((.inr "high":j6),a)] (.inr "low")=none;rw [v9 (zI (by decide +kernel))];rfl)]
 rw [iA c (by show qZ [((.inr "high":j6),a),(.inr "low",b)] (.inr "chamber")=none;rw [v9 (zI (by decide +kernel)),v9 (zI (by decide +kernel))];rfl)]
 rw [iA d (by show qZ [((.inr "high":j6),a),(.inr "low",b),(.inr "chamber",c)] (.inr "basin")=none;rw [v9 (zI (by decide +kernel)),v9 (zI (by decide +kernel)),v9 (zI (by decide +kernel))];rfl)]
 rfl
theorem LS {H:Hp} {p:Addr} {a b c d:V} (h:H p=some (.dK (d4 a b c d))):DGet H p (.str "high") (some a)∧DGet H p (.str "low") (some b)∧DGet H p (.str "chamber") (some c)∧DGet H p (.str "basin") (some d):=by
 have e1:qZ (d4 a b c d) (.inr "high")=some a:=by unfold d4;rw [Q0 rfl]
 have e2:qZ (d4 a b c d) (.inr "low")=some b:=by unfold d4;rw [v9 (zI (by decide +kernel)),Q0 rfl]
 have e3:qZ (d4 a b c d) (.inr "chamber")=some c:=by unfold d4;rw [v9 (zI (by decide +kernel)),v9 (zI (by decide +kernel)),Q0 rfl]
 have e4:qZ (d4 a b c d) (.inr "basin")=some d:=by unfold d4;rw [v9 (zI (by decide +kernel)),v9 (zI (by decide +kernel)),v9 (zI (by decide +kernel)),Q0 rfl]
 refine ⟨?_,?_,?_,?_⟩
 ·rw [← e1];exact DGet.k (k:=.inr "high") h
 ·rw [← e2];exact DGet.k (k:=.inr "low") h
 ·rw [← e3];exact DGet.k (k:=.inr "chamber") h
 ·rw [← e4];exact DGet.k (k:=.inr "basin") h
theorem nG (kd:Kd) (room v b:Int):∀q∈kH kd room v b,okW q.1∧okW q.2.1:=fun q hq=>by
 obtain ⟨p,hp,rfl⟩:=List.mem_map.mp hq
 refine ⟨?_,.cham⟩
 cases kd
 ·have:=(List.mem_filter.mp hp).1
  rw [List.mem_singleton] at this
  rw [this];exact .high
 ·have:=(List.mem_filter.mp hp).1
  simp only [List.mem_cons,List.mem_nil_iff,or_false] at this
  rcases this with rfl|rfl
  ·exact .bas
  ·exact .high
 ·have:=(List.mem_filter.mp hp).1
  simp only [List.mem_cons,List.mem_nil_iff,or_false] at this
  rcases this with rfl|rfl
  ·exact .low
  ·exact .high
theorem fR (kd:Kd) (room v b:Int):∀q∈kP kd room v b,okW q.1∧okW q.2.1:=fun q hq=>by
 obtain ⟨p,hp,rfl⟩:=List.mem_map.mp hq
 refine ⟨.cham,?_⟩
 cases kd
 ·have:=(List.mem_filter.mp hp).1
  rw [List.mem_singleton] at this
  rw [this];exact .low
 ·have:=(List.mem_filter.mp hp).1
  simp only [List.mem_cons,List.mem_nil_iff,or_false] at this
  rcases this with rfl|rfl
  ·exact .bas
  ·exact .low
 ·have:=(List.mem_filter.mp hp).1
  rw [List.mem_singleton] at this
  rw [this];exact .low
theorem fJ (kd:Kd) (room v:Int) (f:Bool) (b:Int) (w:Bool):∀q∈vC kd room v f b w,okW q.1∧okW q.2.1:=fun q hq=>by
 cases w<;>cases f
 ·rcases List.mem_append.mp hq with h|h
  ·exact nG _ _ _ _ q h
  ·exact fR _ _ _ _ q h
 ·exact fR _ _ _ _ q hq
 ·exact nG _ _ _ _ q hq
 ·rcases List.mem_append.mp hq with h|h
  ·exact fR _ _ _ _ q h
  ·exact nG _ _ _ _ q h
def zP (r:Nat) (ms:List Int) (k:Nat):Bool:=decide (0<ms.getD (r+k) 0)
def qU (r:Nat) (L:List LC) (ms:List Int) (s:Nat×Bool):List (Nat×Nat×Int):=match L[s.1]? with
 |some l=>(vC l.kd l.room l.extra (zP r ms s.1) (ms.getD (r+L.length+s.1) 0) s.2).map (v7 r L.length s.1 l)
 |none=>[]
def ZC (r:Nat) (L:List LC) (ms:List Int) (k:Nat):List (Nat×Nat×Int):=match L[k]? with
 |some l=>(kP l.kd l.room l.extra (ms.getD (r+L.length+k) 0)).map (v7 r L.length k l)
 |none=>[]
def zR (R:List RC) (ms:List Int) (v:Nat):Bool:=match R[v]? with
 |some r=>decide (ms.getD v 0<r.least)
 |none=>false
def yD (R:List RC):List Int→List (Nat×Nat×Int)→Bool
 |_,[]=>false
 |ms,q::qs=>zR R (pour ms q) q.1||yD R (pour ms q) qs
def fM (R:List RC) (t:Int):Int:=match R[t.toNat]? with
 |some r=>r.berths
 |none=>0
def vV (R:List RC) (L:List LC) (ys:List kE) (ms:List Int) (pl:List Nat) (b:Nat):Str :=
 if pl.getD b 0=(ys.getD b (0,[])).2.length then "home" else
 if ¬qT L (ys.getD b (0,[])) (pl.getD b 0+1) = -1∧fM R (qT L (ys.getD b (0,[])) (pl.getD b 0+1))≤(((y0 L ys pl).countP fun z=>decide (z=qT L (ys.getD b (0,[])) (pl.getD b 0+1)):Nat):Int) then "berth" else
 if yD R ms (qU R.length L ms ((ys.getD b (0,[])).2.getD (pl.getD b 0) (0,true)))=true then "water" else ""
inductive Deed
 |pass (b:Nat)
 |let (k:Nat)
 |night
def eP:Deed→List V
 |.pass b=>[.str "pass",.int (b:Int)]
 |.let k=>[.str "let",.int (k:Int)]
 |.night=>[.str "night"]
def QB (R:List RC) (L:List LC) (n:Nat) (ys:List kE) (d:Int) (ms:List Int) (pl:List Nat):Deed→Str
 |.pass b=>vV R L ys ms pl b
 |.let k=>if zP R.length ms k=true then "" else "empty"
 |.night=>if d<(n:Int) then "" else "over"
def fV (nb nl:Nat):Deed→Prop
 |.pass b=>b<nb
 |.let k=>k<nl
 |.night=>True
def nM (cs:Kd→Addr) (cR cN:Addr):Sp:=fun vs H Q _=>∃(x p:Addr) (k:Nat) (l:LC) (rs:List V) (ps:List (Str×Str×Int)) (D:List Addr) (R:List RC) (L:List LC) (N:List (List (Int×Int))),vs=[.ref x,.int (k:Int),.ref p]∧CnAt cs cR cN D H x R L N∧L[k]?=some l∧l.good R.length∧H p=some (.lst rs)∧PoursS H rs ps∧(∀q∈ps,okW q.1∧okW q.2.1)∧ps.length≤10∧
 ∀(r:Addr) (H':Hp) (zs:List V),Same H H'→H r=none→H' r=some (.lst zs)→PoursH H' zs (ps.map (v7 R.length L.length k l)) (R.length+2*L.length+2)→Q (.ref r) H'
structure Stage (cs:Kd→Addr) (cR cN:Addr) (D:List Addr) (H:Hp) (x wl st:Addr) (us:List V) (R:List RC) (L:List LC) (N:List (List (Int×Int))) (ys:List kE) (d:Int) (ms:List Int) (pl:List Nat):Prop where
 cn:CnAt cs cR cN D H x R L N
 dr:Drawn R L N
 wls:H wl=some (.lst us)
 wys:AllAt (WyAt H) us ys
 sts:StAt H st d ms pl
 fl:Fleet L ys pl
 ml:ms.length=R.length+2*L.length+2
theorem Stage.same {cs:Kd→Addr} {cR cN:Addr} {D:List Addr} {H H':Hp} {x wl st:Addr} {us:List V} {R:List RC} {L:List LC} {N:List (List (Int×Int))} {ys:List kE} {d:Int} {ms:List Int} {pl:List Nat} (h:Stage cs cR cN D H x wl st us R L N ys d ms pl) (e:Same H H'):Stage cs cR cN D H' x wl st us R L N ys d ms pl:=⟨h.cn.same e,h.dr,e _ _ h.wls,h.wys.mono (WyAt.same e),h.sts.same e,h.fl,h.ml⟩
def uP:Sp:=fun vs H Q _=>∃(t:Addr) (y:kE) (p:Nat) (s:Nat×Bool),vs=[.ref t,.int (p:Int)]∧WyAt H (.ref t) y∧y.2[p]?=some s∧∀v,PAt H v s→Q v H
def rQ (cs:Kd→Addr) (cR cN:Addr):Sp:=fun vs H Q _=>∃(x wl st:Addr) (b:Nat) (r:RC) (us:List V) (ys:List kE) (d:Int) (ms:List Int) (pl:List Nat) (D:List Addr) (R:List RC) (L:List LC) (N:List (List (Int×Int))),vs=[.ref x,.ref wl,.ref st,.int (b:Int)]∧Stage cs cR cN D H x wl st us R L N ys d ms pl∧R[b]?=some r∧∀H',Same H H'→Q (.bl (decide (r.berths≤(((y0 L ys pl).countP fun z=>decide (z=(b:Int)):Nat):Int)))) H'
def nK (cs:Kd→Addr) (cR cN:Addr):Sp:=fun vs H Q _=>∃(x wl st:Addr) (b:Nat) (us:List V) (ys:List kE) (y:kE) (p:Nat) (s:Nat×Bool) (d:Int) (ms:List Int) (pl:List Nat) (D:List Addr) (R:List RC) (L:List LC) (N:List (List (Int×Int))),vs=[.ref x,.ref wl,.ref st,.int (b:Int)]∧Stage cs cR cN D H x wl st us R L N ys d ms pl∧ys[b]?=some y∧pl[b]?=some p∧y.2[p]?=some s∧
 ∀(r:Addr) (H':Hp) (zs:List V),Same H H'→H r=none→H' r=some (.lst zs)→PoursH H' zs (qU R.length L ms s) ms.length→Q (.ref r) H'
def tV (cs:Kd→Addr) (cR cN:Addr):Sp:=fun vs H Q _=>∃(x wl st:Addr) (k:Nat) (us:List V) (ys:List kE) (d:Int) (ms:List Int) (pl:List Nat) (D:List Addr) (R:List RC) (L:List LC) (N:List (List (Int×Int))),vs=[.ref x,.ref st,.int (k:Int)]∧Stage cs cR cN D H x wl st us R L N ys d ms pl∧k<L.length∧
 ∀(r:Addr) (H':Hp) (zs:List V),Same H H'→H r=none→H' r=some (.lst zs)→PoursH H' zs (ZC R.length L ms k) ms.length→Q (.ref r) H'
def wJ (cs:Kd→Addr) (cR cN:Addr):Sp:=fun vs H Q _=>∃(x w:Addr) (v:Nat) (ms:List Int) (D:List Addr) (R:List RC) (L:List LC) (N:List (List (Int×Int))),vs=[.ref x,.ref w,.int (v:Int)]∧CnAt cs cR cN D H x R L N∧H w=some (.tup (ms.map V.int))∧v<ms.length∧Q (.bl (zR R ms v)) H
def sQ (cs:Kd→Addr) (cR cN:Addr):Sp:=fun vs H Q _=>∃(x w p:Addr) (ms:List Int) (zs:List V) (qs:List (Nat×Nat×Int)) (D:List Addr) (R:List RC) (L:List LC) (N:List (List (Int×Int))),vs=[.ref x,.ref w,.ref p]∧CnAt cs cR cN D H x R L N∧H w=some (.tup (ms.map V.int))∧H p=some (.lst zs)∧PoursH H zs qs ms.length∧ms.length≤1000∧∀H',Same H H'→Q (.bl (yD R ms qs)) H'
def uM (cs:Kd→Addr) (cR cN:Addr):Sp:=fun vs H Q _=>∃(x wl st:Addr) (b:Nat) (us:List V) (ys:List kE) (d:Int) (ms:List Int) (pl:List Nat) (D:List Addr) (R:List RC) (L:List LC) (N:List (List (Int×Int))),vs=[.ref x,.ref wl,.ref st,.int (b:Int)]∧Stage cs cR cN D H x wl st us R L N ys d ms pl∧b<ys.length∧∀H',Same H H'→Q (.str (vV R L ys ms pl b)) H'
def oA (cs:Kd→Addr) (cR cN:Addr):Sp:=fun vs H Q _=>∃(x wl st dd:Addr) (de:Deed) (us:List V) (ys:List kE) (d:Int) (ms:List Int) (pl:List Nat) (D:List Addr) (R:List RC) (L:List LC) (N:List (List (Int×Int))),vs=[.ref x,.ref wl,.ref st,.ref dd]∧Stage cs cR cN D H x wl st us R L N ys d ms pl∧H dd=some (.tup (eP de))∧fV ys.length L.length de∧∀H',Same H H'→Q (.str (QB R L N.length ys d ms pl de)) H'
theorem KC {L:List LC} {y:kE} {p:Nat} {s:Nat×Bool} (ok:WyOk L y) (hs:y.2[p]?=some s):qT L y p=(vI L s).1:=by
 have hp:=(List.getElem?_eq_some_iff.mp hs).1
 unfold qT
 rw [if_neg (by omega),List.getD_eq_getElem?_getD,ok.ok p s hs]
 rfl
theorem HB {R:List RC} {L:List LC} {N:List (List (Int×Int))} (d:Drawn R L N) {s:Nat×Bool} (h:s.1<L.length):0≤(vI L s).1∧(vI L s).1<(R.length:Int):=by
 obtain ⟨l,hl,g1,g2,g3,g4,_⟩:=rF d h
 obtain ⟨k,b⟩:=s
 cases b
 ·rw [QZ hl];show 0≤l.high∧l.high<_;omega
 ·rw [Q3 hl];show 0≤l.low∧l.low<_;omega
theorem uU {R:List RC} {L:List LC} {N:List (List (Int×Int))} (d:Drawn R L N) {y:kE} (ok:WyOk L y) {p:Nat} (hp:p<y.2.length):0≤qT L y p∧qT L y p<(R.length:Int):=by
 have hs:=List.getElem?_eq_getElem hp
 rw [KC ok hs]
 exact HB d (ok.lt _ (List.mem_of_getElem? hs))
theorem t5 (L:List LC) (y:kE):qT L y y.2.length = -1:=if_pos rfl
def z3 (R:List RC) (L:List LC) (N:List (List (Int×Int))) (ys:List kE) (d:Int) (ms:List Int) (pl:List Nat):Deed→List (Nat×Nat×Int)
 |.pass b=>qU R.length L ms ((ys.getD b (0,[])).2.getD (pl.getD b 0) (0,true))
 |.let k=>ZC R.length L ms k
 |.night=>(zX (R.length+2*L.length+1) ms (N.getD d.toNat []) R.length).filter qH
def yC (R:List RC) (L:List LC) (N:List (List (Int×Int))) (ys:List kE) (d:Int) (ms:List Int) (pl:List Nat) (de:Deed) (gs:List Int):List (Nat×Nat×Int):=z3 R L N ys d ms pl de++(yA (kJ (qE R L.length)) (fun a=>gs.getD a 0) (qE R L.length).length).filter qH
def JY (pl:List Nat) (b:Nat):List Nat:=(List.range pl.length).map fun i=>if i=b then pl.getD i 0+1 else pl.getD i 0
def oZ (d:Int):Deed→Int
 |.night=>d+1
 |_=>d
def m9 (pl:List Nat):Deed→List Nat
 |.pass b=>JY pl b
 |_=>pl
def mX (cs:Kd→Addr) (cR cN eW:Addr):Sp:=fun vs H Q E=>∃(x wl st dd:Addr) (de:Deed) (us:List V) (ys:List kE) (d:Int) (ms:List Int) (pl:List Nat) (D:List Addr) (R:List RC) (L:List LC) (N:List (List (Int×Int))),vs=[.ref x,.ref wl,.ref st,.ref dd]∧Stage cs cR cN D H x wl st us R L N ys d ms pl∧H dd=some (.tup (eP de))∧fV ys.length L.length de∧0≤d∧
 (QB R L N.length ys d ms pl de=""→∀(r:Addr) (H':Hp) (gs:List Int) (zs:List V),Same H H'→H r=none→H' r=some (.lst zs)→PoursH H' zs (yC R L N ys d ms pl de gs) ms.length→z9 (qE R L.length) (jY ms (z3 R L N ys d ms pl de)) gs→Q (.ref r) H')∧
 (¬QB R L N.length ys d ms pl de=""→∀H',Same H H'→E (.ref eW) none H')
def sX (cs:Kd→Addr) (cR cN eW:Addr):Sp:=fun vs H Q E=>∃(x wl st dd:Addr) (de:Deed) (us:List V) (ys:List kE) (d:Int) (ms:List Int) (pl:List Nat) (D:List Addr) (R:List RC) (L:List LC) (N:List (List (Int×Int))),vs=[.ref x,.ref wl,.ref st,.ref dd]∧Stage cs cR cN D H x wl st us R L N ys d ms pl∧H dd=some (.tup (eP de))∧fV ys.length L.length de∧0≤d∧
 (QB R L N.length ys d ms pl de=""→∀(r:Addr) (H':Hp) (gs:List Int),Same H H'→H r=none→StAt H' r (oZ d de) (jY ms (yC R L N ys d ms pl de gs)) (m9 pl de)→z9 (qE R L.length) (jY ms (z3 R L N ys d ms pl de)) gs→Q (.ref r) H')∧
 (¬QB R L N.length ys d ms pl de=""→∀H',Same H H'→E (.ref eW) none H')
def sM:Sp:=fun vs H Q _=>∃(pt:Addr) (pl:List Nat) (b:Nat),vs=[.ref pt,.int (b:Int)]∧H pt=some (.tup (pl.map fun (p:Nat)=>V.int (p:Int)))∧pl.length≤100∧∀(r:Addr) (H':Hp),Same H H'→H r=none→H' r=some (.tup ((JY pl b).map fun (p:Nat)=>V.int (p:Int)))→Q (.ref r) H'
theorem GH {R:List RC} {L:List LC} {ys:List kE} {ms:List Int} {pl:List Nat} {b:Nat} (h:vV R L ys ms pl b=""):¬pl.getD b 0=(ys.getD b (0,[])).2.length:=fun e=>by
 unfold vV at h
 rw [if_pos e] at h
 exact absurd h (by decide +kernel)
theorem FI (r:Nat) (L:List LC) (ms:List Int) (s:Nat×Bool):(qU r L ms s).length≤4:=by
 unfold qU
 split
 ·rw [List.length_map];exact rT _ _ _ _ _ _
 ·exact Nat.zero_le _
theorem G0 (r:Nat) (L:List LC) (ms:List Int) (k:Nat):(ZC r L ms k).length≤4:=by
 unfold ZC
 split
 ·rw [List.length_map];exact Nat.le_trans (JS _ _ _ _) (by decide)
 ·exact Nat.zero_le _
theorem mF (pl:List Nat) (b:Nat):(JY pl b).length=pl.length:=by unfold JY;rw [List.length_map,List.length_range]
theorem pY {pl:List Nat} {b i:Nat} (h:i<pl.length):(JY pl b).take (i+1)=(JY pl b).take i++[if i=b then pl.getD i 0+1 else pl.getD i 0]:=by
 rw [List.take_add_one]
 unfold JY
 rw [List.getElem?_map,List.getElem?_range h]
 rfl
def rS:Sp:=fun vs H Q _=>∃(st dd wo:Addr) (de:Deed) (d:Int) (ms mo:List Int) (pl:List Nat),vs=[.ref st,.ref dd,.ref wo]∧StAt H st d ms pl∧H dd=some (.tup (eP de))∧H wo=some (.tup (mo.map V.int))∧pl.length≤100∧∀(r:Addr) (H':Hp),Same H H'→H r=none→StAt H' r (oZ d de) mo (m9 pl de)→Q (.ref r) H'
def mY (cs:Kd→Addr) (cR cN:Addr):Sp:=fun vs H Q _=>∃(x wl st dd:Addr) (de:Deed) (us:List V) (ys:List kE) (d:Int) (ms:List Int) (pl:List Nat) (D:List Addr) (R:List RC) (L:List LC) (N:List (List (Int×Int))),vs=[.ref x,.ref wl,.ref st,.ref dd]∧Stage cs cR cN D H x wl st us R L N ys d ms pl∧H dd=some (.tup (eP de))∧fV ys.length L.length de∧0≤d∧QB R L N.length ys d ms pl de=""∧
 ∀(r:Addr) (H':Hp) (gs:List Int) (zs:List V),Same H H'→H r=none→H' r=some (.lst zs)→PoursH H' zs (yC R L N ys d ms pl de gs) ms.length→z9 (qE R L.length) (jY ms (z3 R L N ys d ms pl de)) gs→Q (.ref r) H'
theorem FD {cs:Kd→Addr} {cR cN eW:Addr}:∀vs H Q E,mY cs cR cN vs H Q E→mX cs cR cN eW vs H Q (fun _ _ _=>False):=by
 rintro vs H Q E ⟨x,wl,st,dd,de,us,ys,d,ms,pl,D,R,L,N,e,h1,h2,h3,h4,h5,q⟩
 exact ⟨x,wl,st,dd,de,us,ys,d,ms,pl,D,R,L,N,e,h1,h2,h3,h4,fun _=>q,fun h=>absurd h5 h⟩
def mM (cs:Kd→Addr) (cR cN:Addr):Sp:=fun vs H Q _=>∃(x wl st dd:Addr) (de:Deed) (us:List V) (ys:List kE) (d:Int) (ms:List Int) (pl:List Nat) (D:List Addr) (R:List RC) (L:List LC) (N:List (List (Int×Int))),vs=[.ref x,.ref wl,.ref st,.ref dd]∧Stage cs cR cN D H x wl st us R L N ys d ms pl∧H dd=some (.tup (eP de))∧fV ys.length L.length de∧0≤d∧QB R L N.length ys d ms pl de=""∧
 ∀(r:Addr) (H':Hp) (gs:List Int),Same H H'→H r=none→StAt H' r (oZ d de) (jY ms (yC R L N ys d ms pl de gs)) (m9 pl de)→z9 (qE R L.length) (jY ms (z3 R L N ys d ms pl de)) gs→Q (.ref r) H'
theorem GD {cs:Kd→Addr} {cR cN eW:Addr}:∀vs H Q E,mM cs cR cN vs H Q E→sX cs cR cN eW vs H Q (fun _ _ _=>False):=by
 rintro vs H Q E ⟨x,wl,st,dd,de,us,ys,d,ms,pl,D,R,L,N,e,h1,h2,h3,h4,h5,q⟩
 exact ⟨x,wl,st,dd,de,us,ys,d,ms,pl,D,R,L,N,e,h1,h2,h3,h4,fun _=>q,fun h=>absurd h5 h⟩
theorem p7 (j:Nat):∀a b:List (Nat×Nat×Int),vD (a++b) j=vD a j+vD b j
 |[],b=>by show vD b j=0+vD b j;omega
 |q::r,b=>by
  show _+vD (r++b) j=_+vD r j+vD b j
  rw [p7 j r b]
  omega
theorem gW {j:Nat}:∀{qs:List (Nat×Nat×Int)},(∀q∈qs,q.1≠j∧q.2.1≠j)→vD qs j=0
 |[],_=>rfl
 |q::r,h=>by
  obtain ⟨h1,h2⟩:=h q List.mem_cons_self
  show (if q.2.1=j then q.2.2 else 0) - (if q.1=j then q.2.2 else 0)+vD r j=0
  rw [if_neg h1,if_neg h2,gW fun q hq=>h q (List.mem_cons_of_mem _ hq)]
  rfl
theorem mG {R:List RC} {m i:Nat} {r:RC} (h:R[i]?=some r):kJ (qE R m) i=if r.target = -1 then R.length+2*m else r.target.toNat:=by
 unfold kJ qE
 rw [List.getD_eq_getElem?_getD,List.getElem?_map,h]
 rfl
theorem FA {R:List RC} {m:Nat} (hT:QA R):∀a,a<(qE R m).length→kJ (qE R m) a<R.length+2*m+2:=fun a ha=>by
 rw [QV] at ha
 have hr:=List.getElem?_eq_getElem ha
 rw [mG hr]
 have:=hT a _ hr
 split<;>omega
theorem tI {R:List RC} {L:List LC} {N:List (List (Int×Int))} {ys:List kE} {d:Int} {ms:List Int} {pl:List Nat} (hd:Drawn R L N) (hm:ms.length=R.length+2*L.length+2):∀de,∀q∈z3 R L N ys d ms pl de,q.1<ms.length∧q.2.1<ms.length:=by
 have key:∀(k:Nat) (l:LC) (ps:List (Str×Str×Int)),L[k]?=some l→(∀q∈ps,okW q.1∧okW q.2.1)→∀q∈ps.map (v7 R.length L.length k l),q.1<ms.length∧q.2.1<ms.length:=fun k l ps hl ho q hq=>by
  obtain ⟨p,hp,rfl⟩:=List.mem_map.mp hq
  rw [hm]
  exact ⟨dR (ho p hp).1 (hd.lock _ _ hl) (List.getElem?_eq_some_iff.mp hl).1,dR (ho p hp).2 (hd.lock _ _ hl) (List.getElem?_eq_some_iff.mp hl).1⟩
 intro de q hq
 cases de with
 |pass b =>
  change q∈qU R.length L ms _ at hq
  unfold qU at hq
  split at hq
  ·rename_i l hl;exact key _ l _ hl (fJ _ _ _ _ _ _) q hq
  ·cases hq
 |«let» k =>
  change q∈ZC R.length L ms k at hq
  unfold ZC at hq
  split at hq
  ·rename_i l hl;exact key _ l _ hl (fR _ _ _ _) q hq
  ·cases hq
 |night=>exact FL (by omega) (by omega) q (List.mem_filter.mp hq).1
theorem FB {R:List RC} {m j:Nat} {g:Nat→Int} (hT:QA R) (h1:R.length≤j) (h2:j<R.length+2*m):vD ((yA (kJ (qE R m)) g (qE R m).length).filter qH) j=0:=by
 rw [nX]
 refine gW fun q hq=>?_
 obtain ⟨a,ha,rfl⟩:=List.mem_map.mp hq
 have ha:=mem_downs.mp ha
 rw [QV] at ha
 obtain ⟨r,hr⟩:∃r,R[a]?=some r:=⟨_,List.getElem?_eq_getElem ha⟩
 have ht:=hT a r hr
 refine ⟨by show a≠j;omega,?_⟩
 show kJ (qE R m) a≠j
 rw [mG hr]
 split<;>omega
theorem K1 {R:List RC} {L:List LC} {N:List (List (Int×Int))} {ys:List kE} {d:Int} {ms gs:List Int} {pl:List Nat} (hd:Drawn R L N) (hm:ms.length=R.length+2*L.length+2) (de:Deed):∀q∈yC R L N ys d ms pl de gs,q.1<ms.length∧q.2.1<ms.length:=fun q hq=>by
 rcases List.mem_append.mp hq with h|h
 ·exact tI hd hm de q h
 ·refine EH (by rw [QV];omega) ?_ q (List.mem_filter.mp h).1
  rw [hm]
  exact FA (gN hd)
theorem HF {R:List RC} {L:List LC} {N:List (List (Int×Int))} {ys:List kE} {d:Int} {ms gs:List Int} {pl:List Nat} {j:Nat} (hd:Drawn R L N) (hm:ms.length=R.length+2*L.length+2) (de:Deed) (h1:R.length≤j) (h2:j<R.length+2*L.length):(jY ms (yC R L N ys d ms pl de gs)).getD j 0=ms.getD j 0+vD (z3 R L N ys d ms pl de) j:=by
 rw [e8 _ _ _ (K1 hd hm de)]
 unfold yC
 rw [p7,FB (gN hd) h1 h2,Int.add_zero]
inductive Er where
 |against|notNow|short|full|noBoat|unknown
def yY (sd:Bool):Str:=if sd then "high" else "low"
def zS:Option Bool→Str
 |none=>""
 |some sd=>yY sd
def kX (cA cN cS cF cO cK:Addr):Er→Addr
 |.against=>cA
 |.notNow=>cN
 |.short=>cS
 |.full=>cF
 |.noBoat=>cO
 |.unknown=>cK
structure CSt where
 kd:Kd
 room:Int
 v:Int
 lh:Int
 ll:Int
 w:List Int
 op:Option Bool
 ins:Bool
theorem LW:¬("high":Str)="low":=by decide +kernel
theorem eR:¬("low":Str)="high":=by decide +kernel
theorem wP:¬("":Str)="high":=by decide +kernel
theorem wO:¬("":Str)="low":=by decide +kernel
theorem GM {a b:Bool} (h:yY a=yY b):a=b:=by
 cases a<;>cases b
 ·rfl
 ·exact absurd h eR
 ·exact absurd h LW
 ·rfl
theorem iM (o:Option Bool) (sd:Bool):decide (V.str (zS o)=V.str (yY sd))=decide (o=some sd):=by
 refine decide_eq_decide.mpr ⟨fun h=>?_,fun h=>by rw [h];rfl⟩
 have h:=V.str.inj h
 cases o with
 |none =>
  cases sd
  ·exact absurd h wO
  ·exact absurd h wP
 |some b=>rw [GM h]
theorem IN (o:Option Bool):decide (V.str (zS o)=V.str "")=decide (o=none):=by
 refine decide_eq_decide.mpr ⟨fun h=>?_,fun h=>by rw [h];rfl⟩
 have h:=V.str.inj h
 cases o with
 |none=>rfl
 |some b =>
  cases b
  ·exact absurd h.symm wO
  ·exact absurd h.symm wP
theorem HD (sd:Bool):decide (V.str (yY sd)=V.str "high")=sd:=by
 cases sd
 ·exact decide_eq_false fun h=>eR (V.str.inj h)
 ·exact decide_eq_true rfl
def kD (lk hd ls o i:V):List (Str×V):=[("lock",lk),("held",hd),("least",ls),("open_side",o),("inside",i)]
theorem f1:(("lock":Str)="held")=False:=eq_false (by decide +kernel)
theorem f2:(("lock":Str)="least")=False:=eq_false (by decide +kernel)
theorem f3:(("lock":Str)="open_side")=False:=eq_false (by decide +kernel)
theorem f4:(("lock":Str)="inside")=False:=eq_false (by decide +kernel)
theorem f5:(("held":Str)="least")=False:=eq_false (by decide +kernel)
theorem f6:(("held":Str)="open_side")=False:=eq_false (by decide +kernel)
theorem f7:(("held":Str)="inside")=False:=eq_false (by decide +kernel)
theorem f8:(("least":Str)="open_side")=False:=eq_false (by decide +kernel)
theorem f9:(("least":Str)="inside")=False:=eq_false (by decide +kernel)
theorem f10:(("open_side":Str)="inside")=False:=eq_false (by decide +kernel)
theorem IP (lk hd ls o i:V):jK "inside" i (jK "open_side" o (jK "least" ls (jK "held" hd (jK "lock" lk []))))=kD lk hd ls o i:=by
 simp only [jK,f1,f2,f3,f4,f5,f6,f7,f8,f9,f10,if_false,kD]
theorem uI (lk hd ls o i z:V):jK "held" z (kD lk hd ls o i)=kD lk z ls o i:=by simp only [kD,jK,f1,if_false,if_true]
theorem uH (lk hd ls o i z:V):jK "open_side" z (kD lk hd ls o i)=kD lk hd ls z i:=by simp only [kD,jK,f3,f6,f8,if_false,if_true]
theorem wA (lk hd ls o i z:V):jK "inside" z (kD lk hd ls o i)=kD lk hd ls o z:=by simp only [kD,jK,f4,f7,f9,f10,if_false,if_true]
theorem yE {g m:Str} {v:V} {r:List (Str×V)} (h:¬m=g):((g,v)::r).lookup m=r.lookup m:=by
 have hb:(m == g)=false:=beq_eq_false_iff_ne.mpr h
 simp only [List.lookup,hb]
theorem fU {m:Str} {v:V} {r:List (Str×V)}:((m,v)::r).lookup m=some v:=by
 have hb:(m == m)=true:=beq_iff_eq.mpr rfl
 simp only [List.lookup,hb]
theorem oJ (lk hd ls o i:V):(kD lk hd ls o i).lookup ("lock":Str)=some lk:=fU
theorem eD (lk hd ls o i:V):(kD lk hd ls o i).lookup ("held":Str)=some hd:=by unfold kD;rw [yE (by decide +kernel)];exact fU
theorem IC (lk hd ls o i:V):(kD lk hd ls o i).lookup ("least":Str)=some ls:=by unfold kD;rw [yE (by decide +kernel),yE (by decide +kernel)];exact fU
theorem fB (lk hd ls o i:V):(kD lk hd ls o i).lookup ("open_side":Str)=some o:=by unfold kD;rw [yE (by decide +kernel),yE (by decide +kernel),yE (by decide +kernel)];exact fU
theorem nB (lk hd ls o i:V):(kD lk hd ls o i).lookup ("inside":Str)=some i:=by unfold kD;rw [yE (by decide +kernel),yE (by decide +kernel),yE (by decide +kernel),yE (by decide +kernel)];exact fU
theorem yS (lk hd ls o i:V) {m:Str} (h1:¬m="lock") (h2:¬m="held") (h3:¬m="least") (h4:¬m="open_side") (h5:¬m="inside"):(kD lk hd ls o i).lookup m=none:=by
 unfold kD
 rw [yE h1,yE h2,yE h3,yE h4,yE h5]
 rfl
theorem G2 (lk hd ls o i:V):(kD lk hd ls o i).lookup ("waters":Str)=none:=yS _ _ _ _ _ (by decide +kernel) (by decide +kernel) (by decide +kernel) (by decide +kernel) (by decide +kernel)
theorem ID (lk hd ls o i:V):(kD lk hd ls o i).lookup ("gates":Str)=none:=yS _ _ _ _ _ (by decide +kernel) (by decide +kernel) (by decide +kernel) (by decide +kernel) (by decide +kernel)
theorem KN (lk hd ls o i:V):(kD lk hd ls o i).lookup ("boat":Str)=none:=yS _ _ _ _ _ (by decide +kernel) (by decide +kernel) (by decide +kernel) (by decide +kernel) (by decide +kernel)
theorem ME (lk hd ls o i:V):(kD lk hd ls o i).lookup ("do":Str)=none:=yS _ _ _ _ _ (by decide +kernel) (by decide +kernel) (by decide +kernel) (by decide +kernel) (by decide +kernel)
theorem EA (lk hd ls o i:V):(kD lk hd ls o i).lookup ("open_gate":Str)=none:=yS _ _ _ _ _ (by decide +kernel) (by decide +kernel) (by decide +kernel) (by decide +kernel) (by decide +kernel)
theorem D9 (lk hd ls o i:V):(kD lk hd ls o i).lookup ("shut_gate":Str)=none:=yS _ _ _ _ _ (by decide +kernel) (by decide +kernel) (by decide +kernel) (by decide +kernel) (by decide +kernel)
theorem DL (lk hd ls o i:V):(kD lk hd ls o i).lookup ("fill_chamber":Str)=none:=yS _ _ _ _ _ (by decide +kernel) (by decide +kernel) (by decide +kernel) (by decide +kernel) (by decide +kernel)
theorem DM (lk hd ls o i:V):(kD lk hd ls o i).lookup ("let_chamber":Str)=none:=yS _ _ _ _ _ (by decide +kernel) (by decide +kernel) (by decide +kernel) (by decide +kernel) (by decide +kernel)
theorem FP (lk hd ls o i:V):(kD lk hd ls o i).lookup ("boat_in":Str)=none:=yS _ _ _ _ _ (by decide +kernel) (by decide +kernel) (by decide +kernel) (by decide +kernel) (by decide +kernel)
theorem ER (lk hd ls o i:V):(kD lk hd ls o i).lookup ("boat_out":Str)=none:=yS _ _ _ _ _ (by decide +kernel) (by decide +kernel) (by decide +kernel) (by decide +kernel) (by decide +kernel)
theorem lN (lk hd ls o i:V):(kD lk hd ls o i).lookup ("refuse_open_gate":Str)=none:=yS _ _ _ _ _ (by decide +kernel) (by decide +kernel) (by decide +kernel) (by decide +kernel) (by decide +kernel)
theorem lM (lk hd ls o i:V):(kD lk hd ls o i).lookup ("refuse_shut_gate":Str)=none:=yS _ _ _ _ _ (by decide +kernel) (by decide +kernel) (by decide +kernel) (by decide +kernel) (by decide +kernel)
theorem mD (lk hd ls o i:V):(kD lk hd ls o i).lookup ("stands_at":Str)=none:=yS _ _ _ _ _ (by decide +kernel) (by decide +kernel) (by decide +kernel) (by decide +kernel) (by decide +kernel)
theorem pT (lk hd ls o i:V):(kD lk hd ls o i).lookup ("after_pours":Str)=none:=yS _ _ _ _ _ (by decide +kernel) (by decide +kernel) (by decide +kernel) (by decide +kernel) (by decide +kernel)
def ChAt (cs:Kd→Addr) (cC:Addr) (H:Hp) (x lk:Addr) (S:CSt):Prop:=∃(dx hd ls:Addr) (n h l:V),H x=some (.ins cC dx (kD (.ref lk) (.ref hd) (.ref ls) (.str (zS S.op)) (.bl S.ins)))∧H hd=some (.tup (S.w.map V.int))∧H ls=some (.tup [.int S.lh,.int S.ll])∧LockAt cs H lk S.kd n h l S.room S.v∧lk≠x∧S.w.length=4
theorem ChAt.same {cs:Kd→Addr} {cC:Addr} {H H':Hp} {x lk:Addr} {S:CSt} (e:Same H H') (a:ChAt cs cC H x lk S):ChAt cs cC H' x lk S:=by
 obtain ⟨dx,hd,ls,n,h,l,h1,h2,h3,h4,h5⟩:=a
 exact ⟨dx,hd,ls,n,h,l,e _ _ h1,e _ _ h2,e _ _ h3,h4.same e,h5⟩
def vIx (s:Str):Nat:=if s="high" then 0 else if s="low" then 1 else if s="chamber" then 2 else 3
def named (s:Str):Prop:=s="high"∨s="low"∨s="chamber"∨s="basin"
theorem zF:vIx "high"=0:=if_pos rfl
theorem yX:vIx "low"=1:=by unfold vIx;rw [if_neg eR,if_pos rfl]
theorem v_chamber:vIx "chamber"=2:=by unfold vIx;rw [if_neg (by decide +kernel),if_neg (by decide +kernel),if_pos rfl]
theorem v_basin:vIx "basin"=3:=by unfold vIx;rw [if_neg (by decide +kernel),if_neg (by decide +kernel),if_neg (by decide +kernel)]
theorem HJ {K:W.Frag} {dV:Addr} {t0 t1 t2 t3:Tok} (h0:W.nsIn K dV "high"=some (some (.int 0 t0))) (h1:W.nsIn K dV "low"=some (some (.int 1 t1))) (h2:W.nsIn K dV "chamber"=some (some (.int 2 t2))) (h3:W.nsIn K dV "basin"=some (some (.int 3 t3))) :
  ∀z:Str,named z→∃tk,W.nsIn K dV z=some (some (.int (vIx z:Int) tk)):=by
 intro z hz
 rcases hz with rfl|rfl|rfl|rfl
 ·rw [zF];exact ⟨_,h0⟩
 ·rw [yX];exact ⟨_,h1⟩
 ·rw [v_chamber];exact ⟨_,h2⟩
 ·rw [v_basin];exact ⟨_,h3⟩
theorem uJ (s:Str):vIx s<4:=by unfold vIx;repeat' split<;>try omega
def j5 (q:Str×Str×Int):Nat×Nat×Int:=(vIx q.1,vIx q.2.1,q.2.2)
theorem dG (kd:Kd) (room v b:Int):∀q∈kH kd room v b,(q.1="high"∨q.1="low"∨q.1="basin")∧q.2.1="chamber":=by
 intro q hq
 unfold kH at hq
 obtain ⟨p,hp,rfl⟩:=List.mem_map.mp hq
 refine ⟨?_,rfl⟩
 unfold yG at hp
 cases kd
 ·cases List.mem_singleton.mp (List.mem_filter.mp hp).1
  exact .inl rfl
 ·rcases List.mem_cons.mp (List.mem_filter.mp hp).1 with rfl|h
  ·exact .inr (.inr rfl)
  ·cases List.mem_singleton.mp h
   exact .inl rfl
 ·rcases List.mem_cons.mp (List.mem_filter.mp hp).1 with rfl|h
  ·exact .inr (.inl rfl)
  ·cases List.mem_singleton.mp h
   exact .inl rfl
theorem FO (kd:Kd) (room v b:Int):∀q∈kP kd room v b,q.1="chamber"∧(q.2.1="low"∨q.2.1="basin"):=by
 intro q hq
 unfold kP at hq
 obtain ⟨p,hp,rfl⟩:=List.mem_map.mp hq
 refine ⟨rfl,?_⟩
 unfold yR at hp
 cases kd
 ·cases List.mem_singleton.mp (List.mem_filter.mp hp).1
  exact .inl rfl
 ·rcases List.mem_cons.mp (List.mem_filter.mp hp).1 with rfl|h
  ·exact .inr rfl
  ·cases List.mem_singleton.mp h
   exact .inl rfl
 ·cases List.mem_singleton.mp (List.mem_filter.mp hp).1
  exact .inl rfl
def ZF (S:CSt) (sd:Bool):Int:=if sd=true then S.room else 0
def kS (S:CSt):List Int:=jY S.w ((kH S.kd S.room S.v (S.w.getD 3 0)).map j5)
def kO (S:CSt):List Int:=jY S.w ((kP S.kd S.room S.v (S.w.getD 3 0)).map j5)
def Q4 (S:CSt) (q:Str×Str×Int):Bool:=decide (¬q.1="basin")&&decide ((kS S).getD (vIx q.1) 0<[S.lh,S.ll].getD (vIx q.1) 0)
def v5 (S:CSt):Bool:=(kH S.kd S.room S.v (S.w.getD 3 0)).any (Q4 S)
inductive Wd where
 |opn (sd:Bool)|sht (sd:Bool)|fil|lt|bin (sd:Bool)|bout (sd:Bool)|odd (z:Str)
def kW (S:CSt):Wd→Sum Er CSt
 |.opn sd=>if S.op=some sd then .inl .notNow else if ¬S.op=none then .inl .against else if ¬S.w.getD 2 0=ZF S sd then .inl .against else .inr {S with op:=some sd}
 |.sht sd=>if S.op=some sd then .inr {S with op:=none} else .inl .notNow
 |.fil=>if ¬S.op=none then .inl .against else if S.w.getD 2 0=S.room then .inl .notNow else if v5 S=true then .inl .short else .inr {S with w:=kS S}
 |.lt=>if ¬S.op=none then .inl .against else if S.w.getD 2 0=0 then .inl .notNow else .inr {S with w:=kO S}
 |.bin sd=>if S.op=some sd then (if S.ins=true then .inl .full else .inr {S with ins:=true}) else .inl .notNow
 |.bout sd=>if S.op=some sd then (if S.ins=true then .inr {S with ins:=false} else .inl .noBoat) else .inl .notNow
 |.odd _=>.inl .unknown
def ZD:Wd→Str
 |.opn true=>"open high"
 |.opn false=>"open low"
 |.sht true=>"shut high"
 |.sht false=>"shut low"
 |.fil=>"fill"
 |.lt=>"let"
 |.bin true=>"in high"
 |.bin false=>"in low"
 |.bout true=>"out high"
 |.bout false=>"out low"
 |.odd z=>z
def K2:Wd→Str
 |.opn _=>"open"
 |.sht _=>"shut"
 |.fil=>"fill"
 |.lt=>"let"
 |.bin _=>"in"
 |.bout _=>"out"
 |.odd z=>z
def LV:Wd→Str
 |.opn sd=>yY sd
 |.sht sd=>yY sd
 |.fil=>""
 |.lt=>""
 |.bin sd=>yY sd
 |.bout sd=>yY sd
 |.odd z=>z
def ZG (K:W.Frag) (dW:Addr):Wd→Prop
 |.odd z=>W.nsIn K dW z=some none
 |_=>True
section
variable (cs:Kd→Addr) (cC:Addr) (ex:Er→Addr)
def nL:Sp:=fun vs H Q _=>∃(x dx lk wa le:Addr) (ws:List Int) (kd:Kd) (n h l:V) (room v lh ll:Int),vs=[.ref x,.ref lk,.ref wa,.ref le]∧H x=some (.ins cC dx [])∧H wa=some (.tup (ws.map V.int))∧ws.length=4∧H le=some (.tup [.int lh,.int ll])∧LockAt cs H lk kd n h l room v∧lk≠x∧
 ∀H':Hp,Keep x H H'→ChAt cs cC H' x lk ⟨kd,room,v,lh,ll,ws,none,false⟩→Q .non H'
def JI (F:CSt→V→Hp→Prop):Sp:=fun vs H Q _=>∃(x lk:Addr) (S:CSt),vs=[.ref x]∧ChAt cs cC H x lk S∧∀(v:V) (H':Hp),Same H H'→F S v H'→Q v H'
def nE (S:CSt) (v:V) (H:Hp):Prop:=∃a,v=.ref a∧H a=some (.tup (S.w.map V.int))
def nR (S:CSt) (v:V) (H:Hp):Prop:=∃a,v=.ref a∧H a=some (.tup [.bl (decide (S.op=some true)),.bl (decide (S.op=some false))])
def oK (S:CSt) (v:V) (_:Hp):Prop:=v=.bl S.ins
def fI:Sp:=fun vs H Q _=>∃(x lk:Addr) (S:CSt) (sd:Bool),vs=[.ref x,.str (yY sd)]∧ChAt cs cC H x lk S∧Q (.bl (decide (S.w.getD 2 0=ZF S sd))) H
def gZ (K:W.Frag):Sp:=fun vs H Q _=>∃(x lk p:Addr) (S:CSt) (rs:List V) (ps:List (Str×Str×Int)),vs=[.ref x,.ref p]∧ChAt cs cC H x lk S∧H p=some (.lst rs)∧PoursS H rs ps∧(∀q∈ps,named q.1∧named q.2.1)∧rs.length≤100∧
 ∀(r:Addr) (H':Hp),Same H H'→H r=none→H' r=some (.tup ((jY S.w (ps.map j5)).map V.int))→Q (.ref r) H'
def fF:Sp:=fun vs H Q E=>∃(x lk:Addr) (S:CSt),vs=[.ref x]∧ChAt cs cC H x lk S∧(¬S.op=none→E (.ref (ex .against)) none H)∧(S.op=none→Q .non H)
def fE:Sp:=fun vs H Q E=>∃(x lk:Addr) (S:CSt) (sd:Bool),vs=[.ref x,.str (yY sd)]∧ChAt cs cC H x lk S∧(¬S.op=some sd→E (.ref (ex .notNow)) none H)∧(S.op=some sd→Q .non H)
def pD (W:Wd) (x lk:Addr) (S:CSt) (H:Hp) (Q:VK) (E:XK):Prop:=(∀e,kW S W=.inl e→∀H',Same H H'→E (.ref (ex e)) none H')∧∀S',kW S W=.inr S'→∀H',Keep x H H'→ChAt cs cC H' x lk S'→Q .non H'
def zD (F:Bool→Wd):Sp:=fun vs H Q E=>∃(x lk:Addr) (S:CSt) (sd:Bool),vs=[.ref x,.str (yY sd)]∧ChAt cs cC H x lk S∧pD cs cC ex (F sd) x lk S H Q E
def dI (W:Wd):Sp:=fun vs H Q E=>∃(x lk:Addr) (S:CSt),vs=[.ref x]∧ChAt cs cC H x lk S∧pD cs cC ex W x lk S H Q E
def o0 (K:W.Frag) (dW:Addr):Sp:=fun vs H Q E=>∃(x lk:Addr) (S:CSt) (W:Wd),vs=[.ref x,.str (ZD W)]∧ChAt cs cC H x lk S∧ZG K dW W∧pD cs cC ex W x lk S H Q E
def n5 (K:W.Frag) (dW:Addr) (run:CSt→List Wd→Option Er×CSt):Sp:=fun vs H Q E=>∃(x lk p:Addr) (S:CSt) (Ws:List Wd),vs=[.ref x,.ref p]∧ChAt cs cC H x lk S∧H p=some (.lst (Ws.map fun W=>V.str (ZD W)))∧(∀W∈Ws,ZG K dW W)∧
 ∀(o:Option Er) (S':CSt),run S Ws=(o,S')→∀H',Keep x H H'→ChAt cs cC H' x lk S'→match o with|none=>Q .non H'|some e=>E (.ref (ex e)) none H'
def tQ (K:W.Frag) (dW:Addr) (run:CSt→List Wd→Option Er×CSt):Sp:=fun vs H Q _=>∃(x lk p:Addr) (S S':CSt) (Ws:List Wd),vs=[.ref x,.ref p]∧ChAt cs cC H x lk S∧H p=some (.lst (Ws.map fun W=>V.str (ZD W)))∧(∀W∈Ws,ZG K dW W)∧
 run S Ws=(none,S')∧∀H',Keep x H H'→ChAt cs cC H' x lk S'→Q .non H'
end
def qS (S:CSt):List Wd→Option Er×CSt
 |[]=>(none,S)
 |W::r=>match kW S W with
  |.inl e=>(some e,S)
  |.inr S'=>qS S' r
theorem q9 {S S':CSt} {W:Wd} {r:List Wd} (h:kW S W=.inr S'):qS S (W::r)=qS S' r:=by
 show (match kW S W with|.inl e=>(some e,S)|.inr S'=>qS S' r)=_
 rw [h]
theorem m6 {S:CSt} {W:Wd} {r:List Wd} {e:Er} (h:kW S W=.inl e):qS S (W::r)=(some e,S):=by
 show (match kW S W with|.inl e=>(some e,S)|.inr S'=>qS S' r)=_
 rw [h]
theorem GG {cs:Kd→Addr} {cC:Addr} {ex:Er→Addr} {K:W.Frag} {dW:Addr}:∀vs H Q E,tQ cs cC K dW qS vs H Q E→n5 cs cC ex K dW qS vs H Q (fun _ _ _=>False):=by
 rintro vs H Q E ⟨x,lk,p,S,S',Ws,e,h1,h2,h3,h4,h5⟩
 refine ⟨x,lk,p,S,Ws,e,h1,h2,h3,fun o S2 ho H' kp hc=>?_⟩
 rw [h4] at ho
 cases ho
 exact h5 H' kp hc
theorem mZ:∀(ws:List Int) (s:Nat),ws.set s (ws.getD s 0)=ws
 |[],_=>rfl
 |x::r,0=>rfl
 |x::r,s+1=>by
  show x::r.set s (r.getD s 0)=x::r
  rw [mZ r s]
theorem FE (ws:List Int) (s t:Nat):pour ws (s,t,0)=ws:=by
 unfold pour
 show (ws.set s (ws.getD s 0 - 0)).set t ((ws.set s (ws.getD s 0 - 0)).getD t 0+0)=ws
 rw [Int.sub_zero,Int.add_zero,mZ,mZ]
theorem JO (f:Str×Int→Str×Str×Int) (hf:∀q,(f q).2.2=q.2):∀(ps:List (Str×Int)) (ws:List Int),jY ws (((ps.filter qY).map f).map j5)=jY ws ((ps.map f).map j5)
 |[],_=>rfl
 |q::r,ws=>by
  rw [List.filter_cons]
  by_cases hz:q.2=0
  ·rw [if_neg (by unfold qY;rw [decide_eq_true hz];decide),JO f hf r ws]
   show _=jY (pour ws (j5 (f q))) ((r.map f).map j5)
   have e:j5 (f q)=(vIx (f q).1,vIx (f q).2.1,0):=by unfold j5;rw [hf,hz]
   rw [e,FE]
  ·rw [if_pos (by unfold qY;rw [decide_eq_false hz];rfl)]
   exact JO f hf r (pour ws (j5 (f q)))
def vR (kd:Kd) (room v h l c b:Int):List Int:=match kd with
 |.plain=>[h - room,l,c+room,b]
 |.basin=>[h - room+b,l,c+room,0]
 |.pump=>[h - room+v,l - v,c+room,b]
def yQ (kd:Kd) (room v h l c b:Int):List Int:=match kd with
 |.basin=>[h,l+(room - v+b),c - room,v]
 |_=>[h,l+room,c - room,b]
theorem l4 {a b c d a' b' c' d':Int} (h1:a=a') (h2:b=b') (h3:c=c') (h4:d=d'):[a,b,c,d]=[a',b',c',d']:=by rw [h1,h2,h3,h4]
theorem gX {S:CSt} {h l c b:Int} (hw:S.w=[h,l,c,b]):kS S=vR S.kd S.room S.v h l c b:=by
 unfold kS
 rw [hw]
 show jY [h,l,c,b] ((kH S.kd S.room S.v b).map j5)=_
 unfold kH yG
 cases S.kd
 ·rw [JO _ (fun _=>rfl)]
  show pour [h,l,c,b] (vIx "high",vIx "chamber",S.room)=_
  rw [zF,v_chamber]
  exact l4 rfl rfl rfl rfl
 ·rw [JO _ (fun _=>rfl)]
  show pour (pour [h,l,c,b] (vIx "basin",vIx "chamber",b)) (vIx "high",vIx "chamber",S.room - b)=_
  rw [zF,v_chamber,v_basin]
  show [h - (S.room - b),l,c+b+(S.room - b),b - b]=[h - S.room+b,l,c+S.room,0]
  exact l4 (by omega) rfl (by omega) (by omega)
 ·rw [JO _ (fun _=>rfl)]
  show pour (pour [h,l,c,b] (vIx "low",vIx "chamber",S.v)) (vIx "high",vIx "chamber",S.room - S.v)=_
  rw [zF,v_chamber,yX]
  show [h - (S.room - S.v),l - S.v,c+S.v+(S.room - S.v),b]=[h - S.room+S.v,l - S.v,c+S.room,b]
  exact l4 (by omega) rfl (by omega) rfl
theorem iK {S:CSt} {h l c b:Int} (hw:S.w=[h,l,c,b]):kO S=yQ S.kd S.room S.v h l c b:=by
 unfold kO
 rw [hw]
 show jY [h,l,c,b] ((kP S.kd S.room S.v b).map j5)=_
 unfold kP yR
 cases S.kd
 ·rw [JO _ (fun _=>rfl)]
  show pour [h,l,c,b] (vIx "chamber",vIx "low",S.room)=_
  rw [yX,v_chamber]
  exact l4 rfl rfl rfl rfl
 ·rw [JO _ (fun _=>rfl)]
  show pour (pour [h,l,c,b] (vIx "chamber",vIx "basin",S.v - b)) (vIx "chamber",vIx "low",S.room - (S.v - b))=_
  rw [yX,v_chamber,v_basin]
  show [h,l+(S.room - (S.v - b)),c - (S.v - b) - (S.room - (S.v - b)),b+(S.v - b)]=[h,l+(S.room - S.v+b),c - S.room,S.v]
  exact l4 rfl (by omega) (by omega) (by omega)
 ·rw [JO _ (fun _=>rfl)]
  show pour [h,l,c,b] (vIx "chamber",vIx "low",S.room)=_
  rw [yX,v_chamber]
  exact l4 rfl rfl rfl rfl
def y6:List Wd:=[.opn false,.bin false,.sht false,.fil,.opn true,.bout true,.sht true]
def zQ:List Wd:=[.opn true,.bin true,.sht true,.lt,.opn false,.bout false,.sht false]
def eJ (f w:Bool):List Wd:=match w,f with
 |true,true=>.lt::y6
 |true,false=>y6
 |false,true=>zQ
 |false,false=>.fil::zQ
theorem uS {S:CSt} (hop:S.op=none) (hins:S.ins=false) (hc:S.w.getD 2 0=0) (hr:¬S.room=0) (hs:¬v5 S=true) (hf:(kS S).getD 2 0=S.room):qS S y6=(none,{S with w:=kS S}):=by
 have s1:kW S (.opn false)=.inr {S with op:=some false}:=by
  show (if S.op=some false then _ else if ¬S.op=none then _ else if ¬S.w.getD 2 0=ZF S false then _ else _)=_
  rw [if_neg (by rw [hop];intro z;cases z),if_neg (fun z=>z hop),if_neg (fun z=>z hc)]
 have s2:kW {S with op:=some false} (.bin false)=.inr {S with op:=some false,ins:=true}:=by
  show (if (some false:Option Bool)=some false then (if S.ins=true then (Sum.inl Er.full:Sum Er CSt) else Sum.inr {S with op:=some false,ins:=true}) else Sum.inl Er.notNow)=_
  rw [if_pos rfl,if_neg (by rw [hins];decide)]
 have s3:kW {S with op:=some false,ins:=true} (.sht false)=.inr {S with op:=none,ins:=true}:=by
  show (if (some false:Option Bool)=some false then (Sum.inr {S with op:=none,ins:=true}:Sum Er CSt) else Sum.inl Er.notNow)=_
  rw [if_pos rfl]
 have s4:kW {S with op:=none,ins:=true} .fil=.inr {S with op:=none,ins:=true,w:=kS S}:=by
  show (if ¬(none:Option Bool)=none then (Sum.inl Er.against:Sum Er CSt) else if S.w.getD 2 0=S.room then Sum.inl Er.notNow else if v5 S=true then Sum.inl Er.short else Sum.inr {S with op:=none,ins:=true,w:=kS S})=_
  rw [if_neg (fun z=>z rfl),if_neg (by rw [hc];exact fun z=>hr z.symm),if_neg hs]
 have s5:kW {S with op:=none,ins:=true,w:=kS S} (.opn true)=.inr {S with op:=some true,ins:=true,w:=kS S}:=by
  show (if (none:Option Bool)=some true then (Sum.inl Er.notNow:Sum Er CSt) else if ¬(none:Option Bool)=none then Sum.inl Er.against else if ¬(kS S).getD 2 0=S.room then Sum.inl Er.against else Sum.inr {S with op:=some true,ins:=true,w:=kS S})=_
  rw [if_neg (fun z=>nomatch z),if_neg (fun z=>z rfl),if_neg (fun z=>z hf)]
 have s6:kW {S with op:=some true,ins:=true,w:=kS S} (.bout true)=.inr {S with op:=some true,ins:=false,w:=kS S}:=by
  show (if (some true:Option Bool)=some true then (if true=true then (Sum.inr {S with op:=some true,ins:=false,w:=kS S}:Sum Er CSt) else Sum.inl Er.noBoat) else Sum.inl Er.notNow)=_
  rw [if_pos rfl,if_pos rfl]
 have s7:kW {S with op:=some true,ins:=false,w:=kS S} (.sht true)=.inr {S with op:=none,ins:=false,w:=kS S}:=by
  show (if (some true:Option Bool)=some true then (Sum.inr {S with op:=none,ins:=false,w:=kS S}:Sum Er CSt) else Sum.inl Er.notNow)=_
  rw [if_pos rfl]
 unfold y6
 rw [q9 s1,q9 s2,q9 s3,q9 s4,q9 s5,q9 s6,q9 s7]
 show (none,_)=(none,_)
 rw [← hop,← hins]
theorem sZ {S:CSt} (hop:S.op=none) (hins:S.ins=false) (hc:S.w.getD 2 0=S.room) (hr:¬S.room=0) (hf:(kO S).getD 2 0=0):qS S zQ=(none,{S with w:=kO S}):=by
 have s1:kW S (.opn true)=.inr {S with op:=some true}:=by
  show (if S.op=some true then _ else if ¬S.op=none then _ else if ¬S.w.getD 2 0=ZF S true then _ else _)=_
  rw [if_neg (by rw [hop];intro z;cases z),if_neg (fun z=>z hop),if_neg (fun z=>z hc)]
 have s2:kW {S with op:=some true} (.bin true)=.inr {S with op:=some true,ins:=true}:=by
  show (if (some true:Option Bool)=some true then (if S.ins=true then (Sum.inl Er.full:Sum Er CSt) else Sum.inr {S with op:=some true,ins:=true}) else Sum.inl Er.notNow)=_
  rw [if_pos rfl,if_neg (by rw [hins];decide)]
 have s3:kW {S with op:=some true,ins:=true} (.sht true)=.inr {S with op:=none,ins:=true}:=by
  show (if (some true:Option Bool)=some true then (Sum.inr {S with op:=none,ins:=true}:Sum Er CSt) else Sum.inl Er.notNow)=_
  rw [if_pos rfl]
 have s4:kW {S with op:=none,ins:=true} .lt=.inr {S with op:=none,ins:=true,w:=kO S}:=by
  show (if ¬(none:Option Bool)=none then (Sum.inl Er.against:Sum Er CSt) else if S.w.getD 2 0=0 then Sum.inl Er.notNow else Sum.inr {S with op:=none,ins:=true,w:=kO S})=_
  rw [if_neg (fun z=>z rfl),if_neg (by rw [hc];exact hr)]
 have s5:kW {S with op:=none,ins:=true,w:=kO S} (.opn false)=.inr {S with op:=some false,ins:=true,w:=kO S}:=by
  show (if (none:Option Bool)=some false then (Sum.inl Er.notNow:Sum Er CSt) else if ¬(none:Option Bool)=none then Sum.inl Er.against else if ¬(kO S).getD 2 0=0 then Sum.inl Er.against else Sum.inr {S with op:=some false,ins:=true,w:=kO S})=_
  rw [if_neg (fun z=>nomatch z),if_neg (fun z=>z rfl),if_neg (fun z=>z hf)]
 have s6:kW {S with op:=some false,ins:=true,w:=kO S} (.bout false)=.inr {S with op:=some false,ins:=false,w:=kO S}:=by
  show (if (some false:Option Bool)=some false then (if true=true then (Sum.inr {S with op:=some false,ins:=false,w:=kO S}:Sum Er CSt) else Sum.inl Er.noBoat) else Sum.inl Er.notNow)=_
  rw [if_pos rfl,if_pos rfl]
 have s7:kW {S with op:=some false,ins:=false,w:=kO S} (.sht false)=.inr {S with op:=none,ins:=false,w:=kO S}:=by
  show (if (some false:Option Bool)=some false then (Sum.inr {S with op:=none,ins:=false,w:=kO S}:Sum Er CSt) else Sum.inl Er.notNow)=_
  rw [if_pos rfl]
 unfold zQ
 rw [q9 s1,q9 s2,q9 s3,q9 s4,q9 s5,q9 s6,q9 s7]
 show (none,_)=(none,_)
 rw [← hop,← hins]
def lv (f:Bool) (room:Int):Int:=if f=true then room else 0
def oQ (kd:Kd) (room v:Int) (f w:Bool) (h l b:Int):List Int:=match w,f with
 |true,true=>vR kd room v h ((yQ kd room v h l room b).getD 1 0) 0 ((yQ kd room v h l room b).getD 3 0)
 |true,false=>vR kd room v h l 0 b
 |false,true=>yQ kd room v h l room b
 |false,false=>yQ kd room v ((vR kd room v h l 0 b).getD 0 0) ((vR kd room v h l 0 b).getD 1 0) room ((vR kd room v h l 0 b).getD 3 0)
def JX (Ws:List Wd):List V:=Ws.map fun W=>V.str (ZD W)
def rO:Sp:=fun vs H Q _=>∃f w:Bool,vs=[.bl f,wv w]∧∀(l:Addr) (H':Hp),Same H H'→H l=none→H' l=some (.lst (JX (eJ f w)))→Q (.ref l) H'
theorem HW {K:W.Frag} {dW:Addr} (f w:Bool):∀W∈eJ f w,ZG K dW W:=by
 have hu:∀W∈y6,ZG K dW W:=by
  intro W hW
  simp only [y6,List.mem_cons,List.mem_nil_iff,or_false] at hW
  rcases hW with rfl|rfl|rfl|rfl|rfl|rfl|rfl<;>trivial
 have hd:∀W∈zQ,ZG K dW W:=by
  intro W hW
  simp only [zQ,List.mem_cons,List.mem_nil_iff,or_false] at hW
  rcases hW with rfl|rfl|rfl|rfl|rfl|rfl|rfl<;>trivial
 intro W hW
 cases w<;>cases f
 ·rcases List.mem_cons.mp hW with rfl|hW
  ·trivial
  ·exact hd W hW
 ·exact hd W hW
 ·exact hu W hW
 ·rcases List.mem_cons.mp hW with rfl|hW
  ·trivial
  ·exact hu W hW
theorem mB (ws:List Int) (xs ys:List (Nat×Nat×Int)):jY ws (xs++ys)=jY (jY ws xs) ys:=List.foldl_append
theorem lZ (kd:Kd) (room v h l c b:Int):jY [h,l,c,b] ((kH kd room v b).map j5)=vR kd room v h l c b:=gX (S:=⟨kd,room,v,0,0,[h,l,c,b],none,false⟩) rfl
theorem mI (kd:Kd) (room v h l c b:Int):jY [h,l,c,b] ((kP kd room v b).map j5)=yQ kd room v h l c b:=iK (S:=⟨kd,room,v,0,0,[h,l,c,b],none,false⟩) rfl
theorem rX {kd:Kd} {room v h l b:Int}:∃h' l' b',vR kd room v h l 0 b=[h',l',room,b']∧kP kd room v (vH b (kH kd room v b))=kP kd room v b':=by
 cases kd
 ·exact ⟨_,_,_,l4 rfl rfl (Int.zero_add _) rfl,rfl⟩
 ·exact ⟨_,_,_,l4 rfl rfl (Int.zero_add _) rfl,by rw [EX]⟩
 ·exact ⟨_,_,_,l4 rfl rfl (Int.zero_add _) rfl,rfl⟩
theorem tE {kd:Kd} {room v h l b:Int}:∃l' b',yQ kd room v h l room b=[h,l',0,b']∧kH kd room v (vH b (kP kd room v b))=kH kd room v b':=by
 cases kd
 ·exact ⟨_,_,l4 rfl rfl (Int.sub_self _) rfl,rfl⟩
 ·exact ⟨_,_,l4 rfl rfl (Int.sub_self _) rfl,by rw [GE]⟩
 ·exact ⟨_,_,l4 rfl rfl (Int.sub_self _) rfl,rfl⟩
theorem DX (kd:Kd) (room v b:Int) (f w:Bool) (h l:Int):jY [h,l,lv f room,b] ((vC kd room v f b w).map j5)=oQ kd room v f w h l b:=by
 cases w<;>cases f
 ·obtain ⟨h',l',b',e1,e2⟩:=rX (kd:=kd) (room:=room) (v:=v) (h:=h) (l:=l) (b:=b)
  show jY [h,l,0,b] ((kH kd room v b++kP kd room v (vH b (kH kd room v b))).map j5)=yQ kd room v ((vR kd room v h l 0 b).getD 0 0) ((vR kd room v h l 0 b).getD 1 0) room ((vR kd room v h l 0 b).getD 3 0)
  rw [List.map_append,mB,lZ,e1,e2,mI];rfl
 ·exact mI ..
 ·exact lZ ..
 ·obtain ⟨l',b',e1,e2⟩:=tE (kd:=kd) (room:=room) (v:=v) (h:=h) (l:=l) (b:=b)
  show jY [h,l,room,b] ((kP kd room v b++kH kd room v (vH b (kP kd room v b))).map j5)=vR kd room v h ((yQ kd room v h l room b).getD 1 0) 0 ((yQ kd room v h l room b).getD 3 0)
  rw [List.map_append,mB,mI,e1,e2,lZ];rfl
def vW (lh ll:Int) (ws:List Int) (s:Str):Bool:=if s="high" then decide (ws.getD 0 0<lh) else if s="low" then decide (ws.getD 1 0<ll) else false
def qN (lh ll:Int):List Int→List (Str×Str×Int)→Bool
 |_,[]=>false
 |ws,q::qs=>vW lh ll (pour ws (j5 q)) q.1||qN lh ll (pour ws (j5 q)) qs
theorem mH (lh ll:Int):∀(ps qs:List (Str×Str×Int)) (ws:List Int),qN lh ll ws (ps++qs)=(qN lh ll ws ps||qN lh ll (jY ws (ps.map j5)) qs)
 |[],_,_=>rfl
 |p::ps,qs,ws=>by
  show (vW lh ll (pour ws (j5 p)) p.1||qN lh ll (pour ws (j5 p)) (ps++qs))=((vW lh ll (pour ws (j5 p)) p.1||qN lh ll (pour ws (j5 p)) ps)||qN lh ll (jY (pour ws (j5 p)) (ps.map j5)) qs)
  rw [mH lh ll ps qs,Bool.or_assoc]
theorem wY:¬("chamber":Str)="high":=by decide +kernel
theorem wX:¬("chamber":Str)="low":=by decide +kernel
theorem iX:¬("basin":Str)="high":=by decide +kernel
theorem o5:¬("basin":Str)="low":=by decide +kernel
theorem FM (lh ll:Int) (ws:List Int):vW lh ll ws "chamber"=false:=by unfold vW;rw [if_neg wY,if_neg wX]
theorem gP (lh ll:Int):∀(ps:List (Str×Str×Int)) (ws:List Int),(∀q∈ps,q.1="chamber")→qN lh ll ws ps=false
 |[],_,_=>rfl
 |q::r,ws,h=>by
  show (vW lh ll (pour ws (j5 q)) q.1||qN lh ll (pour ws (j5 q)) r)=false
  rw [h q List.mem_cons_self,FM,gP lh ll r _ fun p hp=>h p (List.mem_cons_of_mem _ hp)]
  rfl
theorem dP (kd:Kd) (room v b:Int):∀q∈kP kd room v b,q.1="chamber":=fun q hq=>by
 obtain ⟨p,_,rfl⟩:=List.mem_map.mp hq
 rfl
theorem vB (s:Str):vIx s<4:=by
 unfold vIx
 split
 ·decide
 ·split
  ·decide
  ·split<;>decide
theorem uZ {ps:List (Str×Str×Int)} {ws:List Int} (h:ws.length=4):∀q∈ps.map j5,q.1<ws.length∧q.2.1<ws.length:=fun q hq=>by
 obtain ⟨p,_,rfl⟩:=List.mem_map.mp hq
 rw [h]
 exact ⟨vB _,vB _⟩
theorem GZ (lh ll:Int) {ws:List Int} {s:Str} {r:List (Str×Str×Int)} (h4:ws.length=4) (h:∀q∈r,(q.1="high"∨q.1="low"∨q.1="basin")∧q.2.1="chamber") (hs:∀q∈r,¬q.1=s):vW lh ll ws s=vW lh ll (jY ws (r.map j5)) s:=by
 unfold vW
 by_cases e:s="high"
 ·rw [if_pos e,if_pos e,e8 _ _ _ (uZ h4),gW fun q hq=>?_,Int.add_zero]
  obtain ⟨p,hp,rfl⟩:=List.mem_map.mp hq
  obtain ⟨h1,h2⟩:=h p hp
  refine ⟨?_,?_⟩
  ·show vIx p.1≠0
   rcases h1 with z|z|z
   ·exact absurd (z.trans e.symm) (hs p hp)
   ·rw [z,yX];decide
   ·rw [z,v_basin];decide
  ·show vIx p.2.1≠0
   rw [h2,v_chamber];decide
 ·rw [if_neg e,if_neg e]
  by_cases e2:s="low"
  ·rw [if_pos e2,if_pos e2,e8 _ _ _ (uZ h4),gW fun q hq=>?_,Int.add_zero]
   obtain ⟨p,hp,rfl⟩:=List.mem_map.mp hq
   obtain ⟨h1,h2⟩:=h p hp
   refine ⟨?_,?_⟩
   ·show vIx p.1≠1
    rcases h1 with z|z|z
    ·rw [z,zF];decide
    ·exact absurd (z.trans e2.symm) (hs p hp)
    ·rw [z,v_basin];decide
   ·show vIx p.2.1≠1
    rw [h2,v_chamber];decide
  ·rw [if_neg e2,if_neg e2]
theorem pZ (lh ll:Int):∀(ps:List (Str×Str×Int)) (ws:List Int),ws.length=4→(∀q∈ps,(q.1="high"∨q.1="low"∨q.1="basin")∧q.2.1="chamber")→(ps.map fun q=>q.1).Pairwise (fun a b=>¬a=b)→qN lh ll ws ps=ps.any fun q=>vW lh ll (jY ws (ps.map j5)) q.1
 |[],_,_,_,_=>rfl
 |q::r,ws,h4,h,hn=>by
  show (vW lh ll (pour ws (j5 q)) q.1||qN lh ll (pour ws (j5 q)) r)=(vW lh ll (jY (pour ws (j5 q)) (r.map j5)) q.1||r.any fun q'=>vW lh ll (jY (pour ws (j5 q)) (r.map j5)) q'.1)
  have hn:((q.1)::(r.map fun q=>q.1)).Pairwise (fun a b=>¬a=b):=hn
  obtain ⟨n1,n2⟩:=List.pairwise_cons.mp hn
  have h4':(pour ws (j5 q)).length=4:=by rw [dC];exact h4
  have hr:=fun p hp=>h p (List.mem_cons_of_mem q hp)
  rw [pZ lh ll r (pour ws (j5 q)) h4' hr n2,GZ lh ll h4' hr fun p hp z=>n1 p.1 (List.mem_map.mpr ⟨p,hp,rfl⟩) z.symm]
theorem IR {l:List (Str×Str×Int)} {f g:Str×Str×Int→Bool} (h:∀q∈l,f q=g q):l.any f=l.any g:=by
 induction l with
 |nil=>rfl
 |cons a r ih =>
  show (f a||r.any f)=(g a||r.any g)
  rw [h a List.mem_cons_self,ih fun q hq=>h q (List.mem_cons_of_mem _ hq)]
theorem ET (kd:Kd) (room v b:Int):((kH kd room v b).map fun q=>q.1).Pairwise (fun a b=>¬a=b):=by
 have key:∀l:List (Str×Int),(l.map fun q=>q.1).Pairwise (fun a b=>¬a=b)→(((l.filter qY).map fun p=>((p.1,"chamber",p.2):Str×Str×Int)).map fun q=>q.1).Pairwise (fun a b=>¬a=b):=fun l hl=>by
  rw [List.map_map]
  exact List.Pairwise.sublist (List.Sublist.map _ List.filter_sublist) hl
 unfold kH yG
 cases kd
 ·exact key [("high",room)] (List.pairwise_singleton _ _)
 ·exact key [("basin",b),("high",room - b)] (.cons (fun z hz=>by rw [List.mem_singleton.mp hz];exact iX) (List.pairwise_singleton _ _))
 ·exact key [("low",v),("high",room - v)] (.cons (fun z hz=>by rw [List.mem_singleton.mp hz];exact eR) (List.pairwise_singleton _ _))
theorem sY {S:CSt} (h4:S.w.length=4):v5 S=qN S.lh S.ll S.w (kH S.kd S.room S.v (S.w.getD 3 0)):=by
 rw [pZ _ _ _ _ h4 (dG _ _ _ _) (ET _ _ _ _)]
 unfold v5
 refine IR fun q hq=>?_
 obtain ⟨h1,_⟩:=dG _ _ _ _ q hq
 show (decide (¬q.1="basin")&&decide ((kS S).getD (vIx q.1) 0<[S.lh,S.ll].getD (vIx q.1) 0))=vW S.lh S.ll (kS S) q.1
 unfold vW
 rcases h1 with z|z|z
 ·rw [z,zF,if_pos rfl,decide_eq_true (fun z=>iX z.symm)];rfl
 ·rw [z,yX,if_neg eR,if_pos rfl,decide_eq_true (fun z=>o5 z.symm)];rfl
 ·rw [z,if_neg iX,if_neg o5,decide_eq_false (fun h=>h rfl)];rfl
theorem pW {S:CSt} (hop:S.op=none) (hins:S.ins=false) (hc:S.w.getD 2 0=0) (hr:¬S.room=0) (hs:v5 S=true):∃S',qS S y6=(some .short,S'):=by
 have s1:kW S (.opn false)=.inr {S with op:=some false}:=by
  show (if S.op=some false then _ else if ¬S.op=none then _ else if ¬S.w.getD 2 0=ZF S false then _ else _)=_
  rw [if_neg (by rw [hop];intro z;cases z),if_neg (fun z=>z hop),if_neg (fun z=>z hc)]
 have s2:kW {S with op:=some false} (.bin false)=.inr {S with op:=some false,ins:=true}:=by
  show (if (some false:Option Bool)=some false then (if S.ins=true then (Sum.inl Er.full:Sum Er CSt) else Sum.inr {S with op:=some false,ins:=true}) else Sum.inl Er.notNow)=_
  rw [if_pos rfl,if_neg (by rw [hins];decide)]
 have s3:kW {S with op:=some false,ins:=true} (.sht false)=.inr {S with op:=none,ins:=true}:=by
  show (if (some false:Option Bool)=some false then (Sum.inr {S with op:=none,ins:=true}:Sum Er CSt) else Sum.inl Er.notNow)=_
  rw [if_pos rfl]
 have s4:kW {S with op:=none,ins:=true} .fil=.inl .short:=by
  show (if ¬(none:Option Bool)=none then (Sum.inl Er.against:Sum Er CSt) else if S.w.getD 2 0=S.room then Sum.inl Er.notNow else if v5 S=true then Sum.inl Er.short else Sum.inr {S with op:=none,ins:=true,w:=kS S})=_
  rw [if_neg (fun z=>z rfl),if_neg (by rw [hc];exact fun z=>hr z.symm),if_pos hs]
 exact ⟨_,by unfold y6;rw [q9 s1,q9 s2,q9 s3,m6 s4]⟩
theorem FG {S:CSt} {h l b:Int} {f:Bool} (w:Bool) (hop:S.op=none) (hins:S.ins=false) (hw:S.w=[h,l,lv f S.room,b]) (hr:1≤S.room) :
  (qN S.lh S.ll S.w (vC S.kd S.room S.v f b w)=false→qS S (eJ f w)=(none,{S with w:=oQ S.kd S.room S.v f w h l b}))∧(qN S.lh S.ll S.w (vC S.kd S.room S.v f b w)=true→∃S',qS S (eJ f w)=(some .short,S')):=by
 have hr0:¬S.room=0:=by omega
 have hsC:v5 S=qN S.lh S.ll S.w (kH S.kd S.room S.v b):=by rw [sY (by rw [hw];rfl)];rw [hw];rfl
 cases w<;>cases f
 ·have hw0:S.w=[h,l,0,b]:=hw
  have e:qN S.lh S.ll S.w (vC S.kd S.room S.v false b false)=v5 S:=by
   show qN S.lh S.ll S.w (kH S.kd S.room S.v b++kP S.kd S.room S.v (vH b (kH S.kd S.room S.v b)))=_
   rw [mH,gP _ _ _ _ (dP _ _ _ _),Bool.or_false,hsC]
  rw [e]
  refine ⟨fun hs=>?_,fun hs=>⟨S,?_⟩⟩
  ·have s1:kW S .fil=.inr {S with w:=kS S}:=by
    show (if ¬S.op=none then _ else if S.w.getD 2 0=S.room then _ else if v5 S=true then _ else _)=_
    rw [if_neg (fun z=>z hop),if_neg (by rw [hw0];exact fun z=>hr0 z.symm),if_neg (by rw [hs];decide)]
   show qS S (.fil::zQ)=_
   rw [q9 s1]
   have e1:=gX hw0
   obtain ⟨h',l',b',e2,_⟩:=rX (kd:=S.kd) (room:=S.room) (v:=S.v) (h:=h) (l:=l) (b:=b)
   rw [← e1] at e2
   have e3:kO {S with w:=kS S}=yQ S.kd S.room S.v h' l' S.room b':=iK (S:={S with w:=kS S}) e2
   rw [sZ (S:={S with w:=kS S}) hop hins (by show (kS S).getD 2 0=S.room;rw [e2];rfl) hr0 (by rw [e3];cases S.kd<;>exact Int.sub_self _)]
   show (none,{S with w:=kO {S with w:=kS S}})=(none,{S with w:=yQ S.kd S.room S.v ((vR S.kd S.room S.v h l 0 b).getD 0 0) ((vR S.kd S.room S.v h l 0 b).getD 1 0) S.room ((vR S.kd S.room S.v h l 0 b).getD 3 0)})
   rw [e3,← e1,e2]
   rfl
  ·have s1:kW S .fil=.inl .short:=by
    show (if ¬S.op=none then _ else if S.w.getD 2 0=S.room then _ else if v5 S=true then _ else _)=_
    rw [if_neg (fun z=>z hop),if_neg (by rw [hw0];exact fun z=>hr0 z.symm),if_pos hs]
   exact m6 s1
 ·have hw0:S.w=[h,l,S.room,b]:=hw
  refine ⟨fun _=>?_,fun hs=>?_⟩
  ·have e1:=iK hw0
   show qS S zQ=_
   rw [sZ hop hins (by rw [hw0];rfl) hr0 (by rw [e1];cases S.kd<;>exact Int.sub_self _),e1]
   rfl
  ·have:qN S.lh S.ll S.w (kP S.kd S.room S.v b)=true:=hs
   rw [gP _ _ _ _ (dP _ _ _ _)] at this
   cases this
 ·have hw0:S.w=[h,l,0,b]:=hw
  have e1:=gX hw0
  have e:qN S.lh S.ll S.w (vC S.kd S.room S.v false b true)=v5 S:=hsC.symm
  rw [e]
  refine ⟨fun hs=>?_,fun hs=>pW hop hins (by rw [hw0];rfl) hr0 hs⟩
  show qS S y6=_
  rw [uS hop hins (by rw [hw0];rfl) hr0 (by rw [hs];decide) (by rw [e1];cases S.kd<;>exact Int.zero_add _),e1]
  rfl
 ·have hw0:S.w=[h,l,S.room,b]:=hw
  have s1:kW S .lt=.inr {S with w:=kO S}:=by
   show (if ¬S.op=none then _ else if S.w.getD 2 0=0 then _ else _)=_
   rw [if_neg (fun z=>z hop),if_neg (by rw [hw0];exact hr0)]
  have e1:=iK hw0
  obtain ⟨l',b',e2,e4⟩:=tE (kd:=S.kd) (room:=S.room) (v:=S.v) (h:=h) (l:=l) (b:=b)
  rw [← e1] at e2
  have e3:kS {S with w:=kO S}=vR S.kd S.room S.v h l' 0 b':=gX (S:={S with w:=kO S}) e2
  have e:qN S.lh S.ll S.w (vC S.kd S.room S.v true b true)=v5 {S with w:=kO S}:=by
   rw [sY (S:={S with w:=kO S}) (by show (kO S).length=4;rw [e2];rfl)]
   show qN S.lh S.ll S.w (kP S.kd S.room S.v b++kH S.kd S.room S.v (vH b (kP S.kd S.room S.v b)))=qN S.lh S.ll (kO S) (kH S.kd S.room S.v ((kO S).getD 3 0))
   rw [mH,gP _ _ _ _ (dP _ _ _ _),Bool.false_or,e4,e2]
   have e5:jY S.w ((kP S.kd S.room S.v b).map j5)=kO S:=by unfold kO;rw [hw0];rfl
   rw [e5,e2]
   rfl
  rw [e]
  refine ⟨fun hs=>?_,fun hs=>?_⟩
  ·show qS S (.lt::y6)=_
   rw [q9 s1,uS (S:={S with w:=kO S}) hop hins (by show (kO S).getD 2 0=0;rw [e2];rfl) hr0 (by rw [hs];decide) (by rw [e3];cases S.kd<;>exact Int.zero_add _)]
   show (none,{S with w:=kS {S with w:=kO S}})=(none,{S with w:=vR S.kd S.room S.v h ((yQ S.kd S.room S.v h l S.room b).getD 1 0) 0 ((yQ S.kd S.room S.v h l S.room b).getD 3 0)})
   rw [e3,← e1,e2]
   rfl
  ·obtain ⟨S',hS'⟩:=pW (S:={S with w:=kO S}) hop hins (by show (kO S).getD 2 0=0;rw [e2];rfl) hr0 hs
   exact ⟨S',(q9 s1).trans hS'⟩
def kM (r l k:Nat) (lc:LC) (ms:List Int):List Int:=[ms.getD lc.high.toNat 0,ms.getD lc.low.toNat 0,ms.getD (r+k) 0,ms.getD (r+l+k) 0]
theorem nY {r l k:Nat} {lc:LC} (hg:lc.good r) (hk:k<l) {s:Str} (o:okW s):(vesOf r l k lc s=lc.high.toNat↔vIx s=0)∧(vesOf r l k lc s=lc.low.toNat↔vIx s=1)∧(vesOf r l k lc s=r+k↔vIx s=2)∧(vesOf r l k lc s=r+l+k↔vIx s=3):=by
 obtain ⟨g1,g2,g3,g4,_⟩:=hg
 cases o
 ·rw [fH,zF];refine ⟨?_,?_,?_,?_⟩<;>omega
 ·rw [fN,yX];refine ⟨?_,?_,?_,?_⟩<;>omega
 ·rw [QX,v_chamber];refine ⟨?_,?_,?_,?_⟩<;>omega
 ·rw [fD,v_basin];refine ⟨?_,?_,?_,?_⟩<;>omega
theorem QD {a b:Prop} [Decidable a] [Decidable b] {x y:Int} (h:a↔b) (_:x=x) (_:y=y):(if a then x else y)=if b then x else y:=by
 by_cases e:a
 ·rw [if_pos e,if_pos (h.mp e)]
 ·rw [if_neg e,if_neg (fun z=>e (h.mpr z))]
theorem G5:∀{ws:List Int},ws.length=4→ws=[ws.getD 0 0,ws.getD 1 0,ws.getD 2 0,ws.getD 3 0]
 |[_,_,_,_],_=>rfl
theorem mS {r l k:Nat} {lc:LC} {ms:List Int} {q:Str×Str×Int} (hg:lc.good r) (hk:k<l) (hm:ms.length=r+2*l+2) (o1:okW q.1) (o2:okW q.2.1):kM r l k lc (pour ms (v7 r l k lc q))=pour (kM r l k lc ms) (j5 q):=by
 have v1:=dR o1 hg hk
 have v2:=dR o2 hg hk
 obtain ⟨a0,a1,a2,a3⟩:=nY hg hk o1
 obtain ⟨b0,b1,b2,b3⟩:=nY hg hk o2
 rw [G5 (ws:=pour (kM r l k lc ms) (j5 q)) (by rw [dC];rfl)]
 have L:∀j,(pour ms (v7 r l k lc q)).getD j 0=ms.getD j 0+((if vesOf r l k lc q.2.1=j then q.2.2 else 0) - (if vesOf r l k lc q.1=j then q.2.2 else 0)):=fun j=>mP ms _ j (by rw [hm];exact v1) (by rw [hm];exact v2)
 have M:∀j,(pour (kM r l k lc ms) (j5 q)).getD j 0=(kM r l k lc ms).getD j 0+((if vIx q.2.1=j then q.2.2 else 0) - (if vIx q.1=j then q.2.2 else 0)):=fun j=>mP _ _ j (vB _) (vB _)
 refine l4 ?_ ?_ ?_ ?_
 ·rw [L,M,QD a0 rfl rfl,QD b0 rfl rfl];rfl
 ·rw [L,M,QD a1 rfl rfl,QD b1 rfl rfl];rfl
 ·rw [L,M,QD a2 rfl rfl,QD b2 rfl rfl];rfl
 ·rw [L,M,QD a3 rfl rfl,QD b3 rfl rfl];rfl
theorem rE {r l k:Nat} {lc:LC} (hg:lc.good r) (hk:k<l):∀(ps:List (Str×Str×Int)) (ms:List Int),ms.length=r+2*l+2→(∀q∈ps,okW q.1∧okW q.2.1)→kM r l k lc (jY ms (ps.map (v7 r l k lc)))=jY (kM r l k lc ms) (ps.map j5)
 |[],_,_,_=>rfl
 |q::ps,ms,hm,h=>by
  obtain ⟨o1,o2⟩:=h q List.mem_cons_self
  show kM r l k lc (jY (pour ms (v7 r l k lc q)) (ps.map (v7 r l k lc)))=jY (pour (kM r l k lc ms) (j5 q)) (ps.map j5)
  rw [rE hg hk ps _ (by rw [dC];exact hm) fun p hp=>h p (List.mem_cons_of_mem _ hp),mS hg hk hm o1 o2]
theorem rA {R:List RC} {l k:Nat} {lc:LC} {rh rl:RC} (hg:lc.good R.length) (hk:k<l) (hh:R[lc.high.toNat]?=some rh) (hl:R[lc.low.toNat]?=some rl):∀(ps:List (Str×Str×Int)) (ms:List Int),ms.length=R.length+2*l+2→(∀q∈ps,okW q.1∧okW q.2.1)→yD R ms (ps.map (v7 R.length l k lc))=qN rh.least rl.least (kM R.length l k lc ms) ps
 |[],_,_,_=>rfl
 |q::ps,ms,hm,h=>by
  obtain ⟨o1,o2⟩:=h q List.mem_cons_self
  show (zR R (pour ms (v7 R.length l k lc q)) (vesOf R.length l k lc q.1)||yD R (pour ms (v7 R.length l k lc q)) (ps.map (v7 R.length l k lc)))=(vW rh.least rl.least (pour (kM R.length l k lc ms) (j5 q)) q.1||qN rh.least rl.least (pour (kM R.length l k lc ms) (j5 q)) ps)
  rw [rA hg hk hh hl ps _ (by rw [dC];exact hm) fun p hp=>h p (List.mem_cons_of_mem _ hp),mS hg hk hm o1 o2]
  congr 1
  rw [← mS hg hk hm o1 o2]
  generalize pour ms (v7 R.length l k lc q)=m2
  unfold zR vW
  generalize q.1=s at o1
  cases o1
  ·rw [fH,hh,if_pos rfl];rfl
  ·rw [fN,hl,if_neg eR,if_pos rfl];rfl
  ·rw [QX,List.getElem?_eq_none (by omega),if_neg wY,if_neg wX]
  ·rw [fD,List.getElem?_eq_none (by omega),if_neg iX,if_neg o5]
theorem FH (kd:Kd) (room v:Int) (f:Bool) (b:Int) (w:Bool):∀q∈vC kd room v f b w,q.1="chamber"∨q.2.1="chamber":=fun q hq=>by
 cases w<;>cases f
 ·rcases List.mem_append.mp hq with h|h
  ·exact .inr (dG _ _ _ _ q h).2
  ·exact .inl (dP _ _ _ _ q h)
 ·exact .inl (dP _ _ _ _ q hq)
 ·exact .inr (dG _ _ _ _ q hq).2
 ·rcases List.mem_append.mp hq with h|h
  ·exact .inl (dP _ _ _ _ q h)
  ·exact .inr (dG _ _ _ _ q h).2
structure Txt (K:W.Frag) (mg:Str→Option Value) (cP cB cU:Addr) (cR:Addr) (cN:Addr) (tkS:Tok) (eA eW eS eF eO eK eL:Addr) (tkH:Tok) (w:World) (cC dV dW:Addr) (aU aD:Addr):Prop where
 z_list:mg "list"=none
 z_tuple:mg "tuple"=none
 z_max:mg "max"=none
 z_range:mg "range"=none
 z_len:mg "len"=none
 z_sum:mg "sum"=none
 z_zip:mg "zip"=none
 z_enumerate:mg "enumerate"=none
 z_min:mg "min"=none
 z_int:mg "int"=none
 cl:∀kd,Cls K ((jD cP cB cU) kd)
 n_name:∀kd,NoAttr K ((jD cP cB cU) kd) "name"
 n_high:∀kd,NoAttr K ((jD cP cB cU) kd) "high"
 n_low:∀kd,NoAttr K ((jD cP cB cU) kd) "low"
 n_room:∀kd,NoAttr K ((jD cP cB cU) kd) "room"
 n_side:NoAttr K cB "side"
 n_lift:NoAttr K cU "lift"
 c_PlainLock:mg "PlainLock"=some (.ref cP)
 c_BasinLock:mg "BasinLock"=some (.ref cB)
 c_PumpLock:mg "PumpLock"=some (.ref cU)
 clR:Cls K cR
 nR_name:NoAttr K cR "name"
 nR_least:NoAttr K cR "least"
 nR_crest:NoAttr K cR "crest"
 nR_berths:NoAttr K cR "berths"
 nR_water:NoAttr K cR "water"
 nR_target:NoAttr K cR "target"
 c_Reach:mg "Reach"=some (.ref cR)
 clN:Cls K cN
 nN_reaches:NoAttr K cN "reaches"
 nN_locks:NoAttr K cN "locks"
 nN_nights:NoAttr K cN "nights"
 c_Canal:mg "Canal"=some (.ref cN)
 g_SEA:mg "SEA"=some (.int (-1) tkS)
 c_Against:mg "Against"=some (.ref eA)
 c_NotNow:mg "NotNow"=some (.ref eW)
 c_Short:mg "Short"=some (.ref eS)
 c_Full:mg "Full"=some (.ref eF)
 c_NoBoat:mg "NoBoat"=some (.ref eO)
 c_Unknown:mg "Unknown"=some (.ref eK)
 c_NotLinked:mg "NotLinked"=some (.ref eL)
 x_Against:JM K eA
 x_NotNow:JM K eW
 x_Short:JM K eS
 x_Full:JM K eF
 x_NoBoat:JM K eO
 x_Unknown:JM K eK
 x_NotLinked:JM K eL
 g_HOME:mg "HOME"=some (.int (-1) tkH)
 clC:Cls K cC
 nC_lock:NoAttr K cC "lock"
 nC_held:NoAttr K cC "held"
 nC_least:NoAttr K cC "least"
 nC_open_side:NoAttr K cC "open_side"
 nC_inside:NoAttr K cC "inside"
 c_Chamber:mg "Chamber"=some (.ref cC)
 g_VESSELS:mg "VESSELS"=some (.ref dV)
 g_WORDS:mg "WORDS"=some (.ref dW)
 topV:iY w K dV
 topW:iY w K dW
 v_at:∀z:Str,named z→∃tk,W.nsIn K dV z=some (some (.int (vIx z:Int) tk))
 w_at:∀wd:Wd,(∀z,wd≠.odd z)→∃tw:Addr,W.nsIn K dW (ZD wd)=some (some (.ref tw))∧∀H:Hp,SqT K H tw [.str (K2 wd),.str (LV wd)]
 zF:∃tk,W.nsIn K dV "high"=some (some (.int 0 tk))
 yX:∃tk,W.nsIn K dV "low"=some (some (.int 1 tk))
 v_chamber:∃tk,W.nsIn K dV "chamber"=some (some (.int 2 tk))
 v_basin:∃tk,W.nsIn K dV "basin"=some (some (.int 3 tk))
 g_UP:mg "UP"=some (.ref aU)
 g_DOWN:mg "DOWN"=some (.ref aD)
 up:∀H:Hp,SqT K H aU (JX y6)
 down:∀H:Hp,SqT K H aD (JX zQ)
set_option maxHeartbeats 4000000
section
variable {P:Program} {w:World} {K:W.Frag} {mg:Str→Option Value} {base:Heap} {cP cB cU:Addr} {cR:Addr} {cN:Addr} {tkS:Tok} {eA eW eS eF eO eK eL:Addr} {tkH:Tok} {cC dV dW:Addr} {aU aD:Addr}
theorem e7:FnScope ["waters","pours","held","source","target","amount"] ["waters","pours"] (jE cH):=⟨rfl,rfl,rfl,by decide +kernel,rfl,by decide +kernel,by decide +kernel⟩
theorem BP {f:Addr} {fd:FuncData} (F:Fun K "poured_all" "poured_all" cH f fd) (T:Txt K mg cP cB cU cR cN tkS eA eW eS eF eO eK eL tkH w cC dV dW aU aD) : FnOk P w K mg base jW 1 f fd ["waters","pours"] (fW K):=by
 refine F.ok e7 (fun vs H Q E h=>?_) (fun cdv A outer s H vs Q E hr h=>?_)
 ·obtain ⟨w,p,ws,rs,qs,rfl,hW,hP,hA,hn,q⟩:=h
  rfl
 obtain ⟨w,p,ws,rs,qs,rfl,hW,hP,hA,hn,q⟩:=h
 have hu:_<cLine:=hr.units0
 have hu1:=jV hr
 refine ⟨_,(@jG _ _ _ _ _ (jZ (i:=2) e7.nd rfl (by first|exact Or.inl rfl|exact Or.inr rfl) (q8 JP (by rfl) T.z_list PyProof.Rows.boot_list (jA (pv 0) jB)))
   (@jG _ _ _ _ _ (yK PassesOwn.never rfl (vK (pv 1)) (iJ rfl (kY (j8 (i:=3) e7.nd rfl (by first|exact Or.inl rfl|exact Or.inr rfl)) (kY (j8 (i:=4) e7.nd rfl (by first|exact Or.inl rfl|exact Or.inr rfl)) (kY (j8 (i:=5) e7.nd rfl (by first|exact Or.inl rfl|exact Or.inr rfl)) yV))))
    (@jG _ _ _ _ _ (nP (pv 2) (pv 3) nF (pv 5) KW dJ)
   (@jH _ _ _ (nP (pv 2) (pv 4) nF (pv 5) u5 dJ))))
   (@jH _ _ _ (@jS _ _ _ _ (q8 JF (by rfl) T.z_tuple PyProof.Rows.boot_tuple (jA (pv 2) jB)))))),?_⟩
 refine ⟨_,rfl,w,_,rfl,hW,fun l hl=>?_⟩
 have s0:Same H (upd H l (.lst (ws.map V.int))):=jL hl _
 refine ⟨_,rfl,p,rfl,⟨rs,s0.seq hP⟩,dM (K:=K) (a:=p) (xs:=rs) (fun i σ Hi=>∃c3 c4 c5,σ=[some (.ref w),some (.ref p),some (.ref l),c3,c4,c5]∧Hi l=some (.lst ((jY ws (qs.take i)).map V.int))∧Same H Hi)
  ⟨none,none,none,rfl,jF,s0⟩ (fun i σ Hi _ ⟨_,_,_,_,_,s⟩=>s.seq hP) ?_ ?_⟩
 ·rintro i x σ Hi hx ⟨c3,c4,c5,rfl,hH,sm⟩
  obtain ⟨a,s,t,m,rfl,hq,hT,hs,ht⟩:=hA.2 i x hx
  have e0:(jY ws (qs.take i)).length=ws.length:=JE _ _
  refine ⟨a,_,rfl,iQ sm hT,rfl,_,_,rfl,_,_,rfl,_,_,rfl,rfl,?_⟩
  refine ⟨_,rfl,_,rfl,_,_,_,_,rfl,rfl,SqL.of hH,qD (by rw [e0];exact hs),_,rfl,j0 (⟨_,_,_,_,rfl,rfl,hH,JU (by rw [List.length_map,e0];exact hs),?_⟩)⟩
  try dsimp only
  rw [JQ]
  refine ⟨_,rfl,_,rfl,_,_,_,_,rfl,rfl,SqL.of jF,qD (by rw [List.length_set,e0];exact ht),_,rfl,j0 (⟨_,_,_,_,rfl,rfl,jF,JU (by rw [List.length_map,List.length_set,e0];exact ht),?_⟩)⟩
  try dsimp only
  rw [JQ]
  refine ⟨_,_,_,rfl,?_,qC hl (qC hl sm)⟩
  rw [jF,lR ws qs i _ hq]
  rfl
 ·rintro σ Hi ⟨c3,c4,c5,rfl,hH,sm⟩
  refine ⟨_,rfl,_,_,rfl,.inl ⟨SqL.of hH,fun r hr=>?_⟩⟩
  refine q r _ (qC (sm.free hr) sm) (sm.free hr) ?_
  rw [jF,hA.1,List.take_length]
theorem pO:FnScope ["weirs","waters","at","crest"] ["weirs","waters","at"] (jE bZ):=⟨rfl,rfl,rfl,by decide +kernel,rfl,by decide +kernel,by decide +kernel⟩
theorem BK {f:Addr} {fd:FuncData} (F:Fun K "over" "over" bZ f fd) (T:Txt K mg cP cB cU cR cN tkS eA eW eS eF eO eK eL tkH w cC dV dW aU aD) : FnOk P w K mg base jW 1 f fd ["weirs","waters","at"] (uO K):=by
 refine F.ok pO (fun vs H Q E h=>?_) (fun cdv A outer s H vs Q E hr h=>?_)
 ·obtain ⟨wq,wa,rs,ws,n,ms,i₁,rfl,hW,hA,hM,h1,h2,q⟩:=h
  rfl
 obtain ⟨wq,wa,rs,ws,n,ms,i₁,rfl,hW,hA,hM,h1,h2,q⟩:=h
 have hu:_<cLine:=hr.units0
 have hu1:=jV hr
 refine ⟨_,(@jG _ _ _ _ _ (jZ (i:=3) pO.nd rfl (by first|exact Or.inl rfl|exact Or.inr rfl) (jI ix_tup (jI kA (pv 0) (pv 2) (fun _ _=>rfl)) jC (fun _ _=>rfl)))
   (@jH _ _ _ (@jS _ _ _ _ (qB (GB rfl) (by rfl) T.z_max PyProof.Rows.boot_max (jA jC (jA (@jJ _ _ _ _ _ _ _ _ yL (jI KU (pv 1) (pv 2) (fun _ _=>rfl)) (pv 3)) jB)))))),?_⟩
 obtain ⟨ta,hat,hT,_⟩:=gT hA h1
 refine ⟨_,rfl,_,rfl,wq,_,_,_,rfl,rfl,hW,hat,ta,_,_,_,rfl,rfl,hT,rfl,?_⟩
 refine ⟨_,rfl,_,rfl,GQ hM h2 ?_⟩
 exact ⟨_,rfl,j0 (⟨_,_,rfl,q⟩)⟩
theorem C8:FnScope ["weirs"] ["weirs"] (jE bV):=⟨rfl,rfl,rfl,by decide +kernel,rfl,by decide +kernel,by decide +kernel⟩
theorem BB {f:Addr} {fd:FuncData} (F:Fun K "last_first" "last_first" bV f fd) (T:Txt K mg cP cB cU cR cN tkS eA eW eS eF eO eK eL tkH w cC dV dW aU aD) : FnOk P w K mg base jW 1 f fd ["weirs"] (oC K):=by
 refine F.ok C8 (fun vs H Q E h=>?_) (fun cdv A outer s H vs Q E hr h=>?_)
 ·obtain ⟨wq,rs,rfl,hW,hn,q⟩:=h
  rfl
 obtain ⟨wq,rs,rfl,hW,hn,q⟩:=h
 have hu:_<cLine:=hr.units0
 have hu1:=jV hr
 refine ⟨_,(@jH _ _ _ (@jS _ _ _ _ (q8 (DN rfl) (by rfl) T.z_list PyProof.Rows.boot_list (jA (q8 EC (by rfl) T.z_range PyProof.Rows.boot_range (@jA _ _ _ _ _ (@jJ _ _ _ _ _ _ _ _ yL (qB qQ (by rfl) T.z_len PySem.boot_len (jA (pv 0) jB)) jC) (@jA _ _ _ _ _ (oP nZ jC) (@jA _ _ _ _ _ (oP nZ jC) jB (by rfl)) (by rfl)) (by rfl))) jB)))),?_⟩
 refine ⟨_,rfl,wq,_,rfl,.inl hW,_,_,rfl,rfl,_,rfl,_,rfl,_,_,_,rfl,(by decide),(by decide),fun p hp=>?_⟩
 refine ⟨p,_,_,_,rs.length,rfl,jF,EV hn,r9 _,hn,fun l hl=>?_⟩
 refine q l _ ((jL hp _).trans (jL hl _)) ((jL hp _).free hl) ?_
 rw [jF]
 exact congrArg (fun x=>some (HO.lst x)) (EU rs.length)
theorem gM:FnScope ["weirs","waters","held","given","at"] ["weirs","waters"] (jE cL):=⟨rfl,rfl,rfl,by decide +kernel,rfl,by decide +kernel,by decide +kernel⟩
theorem BT {f:Addr} {fd:FuncData} (F:Fun K "spills" "spills" cL f fd) (T:Txt K mg cP cB cU cR cN tkS eA eW eS eF eO eK eL tkH w cC dV dW aU aD) (D_last_first:Def P w K mg base 1 "last_first" ["weirs"] [] (oC K)) (D_over:Def P w K mg base 1 "over" ["weirs","waters","at"] [] (uO K)):FnOk P w K mg base jW 2 f fd ["weirs","waters"] (sO K):=by
 refine F.ok gM (fun vs H Q E h=>?_) (fun cdv A outer s H vs Q E hr h=>?_)
 ·obtain ⟨wq,wa,rs,ws,ms,rfl,hRd,q⟩:=h
  rfl
 obtain ⟨wq,wa,rs,ws,ms,rfl,hRd,q⟩:=h
 have hu:_<cLine:=hr.units0
 have hu1:=jV hr
 refine ⟨_,(@jG _ _ _ _ _ (jZ (i:=2) gM.nd rfl (by first|exact Or.inl rfl|exact Or.inr rfl) (q8 JP (by rfl) T.z_list PyProof.Rows.boot_list (jA (pv 1) jB)))
   (@jG _ _ _ _ _ (jZ (i:=3) gM.nd rfl (by first|exact Or.inl rfl|exact Or.inr rfl) (@jJ _ _ _ _ _ _ _ _ KH (qG (jA jC jB)) (qB qQ (by rfl) T.z_len PySem.boot_len (jA (pv 0) jB))))
   (@jG _ _ _ _ _ (yK PassesOwn.never rfl (vK (jM D_last_first hr rfl (jA (pv 0) jB))) (j8 (i:=4) gM.nd rfl (by first|exact Or.inl rfl|exact Or.inr rfl))
    (@jG _ _ _ _ _ (oF (jM D_over hr rfl (@jA _ _ _ _ _ (pv 0) (@jA _ _ _ _ _ (pv 2) (@jA _ _ _ _ _ (pv 4) jB (by rfl)) (by rfl)) (by rfl))) (oG (pv 3) (pv 4) dJ))
   (@jH _ _ _ (nP (pv 2) (jI ix_tup (jI kA (pv 0) (pv 4) (fun _ _=>rfl)) jC (fun _ _=>rfl)) nF (jI kA (pv 3) (pv 4) (fun _ _=>rfl)) u5 dJ))))
   (@jH _ _ _ (@jS _ _ _ _ (pv 3)))))),?_⟩
 obtain ⟨hW,hA,hM,hAh,hRn,hn⟩:=id hRd
 have hAF:=GC hAh
 refine ⟨_,rfl,wa,_,rfl,hM,fun hl hhl=>?_⟩
 have t1:=jL hhl (.lst (ms.map V.int))
 refine ⟨zz1,fun lp hlp=>?_⟩
 have t2:=jL hlp (.lst [V.int 0])
 refine ⟨_,rfl,wq,_,rfl,.inl ((t1.trans t2).seq hW),lp,_,_,rfl,rfl,jF,by omega,by rw [hA.1];omega,?_,fun gp hgp=>?_⟩
 ·rw [Int.toNat_natCast,List.length_singleton,Nat.one_mul,hA.1]
  exact small (by omega)
 rw [Int.toNat_natCast,GO,hA.1]
 have t3:=jL hgp (.lst ((List.replicate ws.length (0:Int)).map V.int))
 have u3:=(t1.trans t2).trans t3
 have hlp':hl≠gp:=qF (t2 _ _ jF) hgp
 refine ⟨_,rfl,wq,rs,rfl,u3.seq hW,by rw [hA.1];omega,fun df H1 s1 hdf0 hdf=>?_⟩
 have hl1:=s1 _ _ (t3 _ _ (t2 _ _ (jF:upd H hl (.lst (ms.map V.int)) hl=_)))
 have gp1:=s1 _ _ (jF:upd _ gp (.lst ((List.replicate ws.length (0:Int)).map V.int)) gp=_)
 have dhl:hl≠df:=qF (t3 _ _ (t2 _ _ jF)) hdf0
 have dgp:gp≠df:=qF jF hdf0
 have gf:H gp=none:=(t1.trans t2).free hgp
 refine ⟨df,rfl,⟨_,SqL.of hdf⟩,dM (K:=K) (a:=df) (xs:=(yN rs.length).map fun (i:Nat)=>V.int (i:Int)) (fun k σ Hi=>∃(hs gs:List Int) (c:Option V),σ=[some (.ref wq),some (.ref wa),some (.ref hl),some (.ref gp),c]∧Hi hl=some (.lst (hs.map V.int))∧Hi gp=some (.lst (gs.map V.int))∧
   Hi df=some (.lst ((yN rs.length).map fun (i:Nat)=>V.int (i:Int)))∧SplInv ws ms hs gs k∧Same H Hi)
  ⟨ms,List.replicate ws.length 0,none,rfl,hl1,gp1,hdf,SplInv.start ws ms,u3.trans s1⟩ (fun i σ Hi _ ⟨_,_,_,_,_,_,hd,_⟩=>SqL.of hd) ?_ ?_⟩
 ·rintro k x σ Hi hx ⟨hs,gs,c,rfl,hH,hG,hD,hI,sm⟩
  obtain ⟨hk,rfl⟩:=tH hx
  rw [hA.1] at hk ⊢
  obtain ⟨i₁,hi₁⟩:∃i,i=ws.length - 1 - k:=⟨_,rfl⟩
  have hi:i₁<ws.length:=by omega
  have hst:=hI.step hAF hRn hk (by rw [← hi₁];exact E2 hA i₁ hi)
  rw [← hi₁] at hst ⊢
  obtain ⟨ta,hat,hT,ht⟩:=gT (hA.same sm) hi
  have hAl:WeirsAt K Hi rs ws hs.length:=by rw [hI.lh];exact hA.same sm
  refine ⟨_,rfl,_,rfl,_,rfl,wq,hl,rs,ws,_,hs,i₁,rfl,sm.seq hW,hAl,.inl (SqL.of hH),hi,by rw [hI.lh];omega,?_⟩
  refine ⟨_,rfl,_,rfl,gp,_,_,_,rfl,rfl,hG,JU (by rw [List.length_map,hI.lg];exact hi),?_⟩
  rw [JQ]
  have k1:∀o,Keep gp Hi (upd Hi gp o):=fun o=>(Keep.refl gp Hi).upd o
  have sG:∀o,Same H (upd Hi gp o):=fun o=>qC gf sm
  have hH':∀o,upd Hi gp o hl=some (.lst (hs.map V.int)):=fun o=>(k1 o) hl _ hlp' hH
  refine ⟨_,rfl,_,rfl,_,rfl,wq,_,_,_,rfl,rfl,(sG _).seq hW,hat,ta,_,_,_,rfl,rfl,(k1 _).sqt hG hT,rfl,j9 (SqL.of (hH' _)) (qD (by rw [hI.lh];exact ht)) (⟨_,rfl,_,rfl,j9 (SqL.of jF) (qD (by rw [List.length_set,hI.lg];exact hi)) (j0 (⟨hl,_,_,_,rfl,rfl,hH' _,JU (by rw [List.length_map,hI.lh];exact ht),?_⟩))⟩)⟩
  rw [JQ]
  refine ⟨_,_,_,rfl,jF,?_,?_,hst,qC hhl (sG _)⟩
  ·rw [j4 (Ne.symm hlp'),jF]
  ·rw [j4 (Ne.symm dhl),j4 (Ne.symm dgp),hD,hA.1]
 ·rintro σ Hi ⟨hs,gs,c,rfl,hH,hG,hD,hI,sm⟩
  rw [List.length_map,fA,hA.1] at hI
  refine ⟨_,rfl,?_⟩
  exact q gp Hi gs sm gf hG hI.spl
theorem pP:FnScope ["weirs","waters","given"] ["weirs","waters"] (jE QS):=⟨rfl,rfl,rfl,by decide +kernel,rfl,by decide +kernel,by decide +kernel⟩
theorem BS {f:Addr} {fd:FuncData} (F:Fun K "spill_pours" "spill_pours" QS f fd) (T:Txt K mg cP cB cU cR cN tkS eA eW eS eF eO eK eL tkH w cC dV dW aU aD) (D_spills:Def P w K mg base 2 "spills" ["weirs","waters"] [] (sO K)) (D_last_first:Def P w K mg base 1 "last_first" ["weirs"] [] (oC K)):FnOk P w K mg base jW 3 f fd ["weirs","waters"] (sP K):=by
 refine F.ok pP (fun vs H Q E h=>?_) (fun cdv A outer s H vs Q E hr h=>?_)
 ·obtain ⟨wq,wa,rs,ws,ms,rfl,hRd,q⟩:=h
  rfl
 obtain ⟨wq,wa,rs,ws,ms,rfl,hRd,q⟩:=h
 have hu:_<cLine:=hr.units0
 have hu1:=jV hr
 refine ⟨_,(@jG _ _ _ _ _ (jZ (i:=2) pP.nd rfl (by first|exact Or.inl rfl|exact Or.inr rfl) (jM D_spills hr rfl (jA (pv 0) (jA (pv 1) jB))))
   (@jH _ _ _ (@jS _ _ _ _ (yB ["at","given","weirs"] (qO 1 [2,0]) rfl (qW (jE QS) rfl rfl (by decide +kernel) (by decide +kernel) (by decide +kernel)) (qX 1 [2,0] rfl rfl (by decide +kernel)) (vK (jM D_last_first hr rfl (jA (pv 0) jB))) (fun _ _ _ _ _=>(j8 (i:=0) (show List.Nodup (["at","given","weirs"]:List Str) from by decide +kernel) rfl (by first|exact Or.inl rfl|exact Or.inr rfl))) (fun _ _ _ _ _=>(fP (kC zZ (jI (dL K) (pv 1) (pv 0) (fun _ _=>rfl)) jC (j3 _)))) (fun _ _ _ _ _=>(kZ (@jA _ _ _ _ _ (pv 0) (@jA _ _ _ _ _ (jI (zW K) (jI (dL K) (pv 2) (pv 0) (fun _ _=>rfl)) jC (fun _ _=>rfl)) (@jA _ _ _ _ _ (jI (dL K) (pv 1) (pv 0) (fun _ _=>rfl)) jB (by rfl)) (by rfl)) (by rfl)))))))),?_⟩
 refine ⟨_,rfl,_,rfl,wq,wa,rs,ws,ms,rfl,hRd,fun gp H1 gs s1 hgp0 hgp hS=>?_⟩
 obtain ⟨hW,hA,hM,hAh,hRn,hn⟩:=hRd.same s1
 refine ⟨_,rfl,wq,rs,rfl,hW,by rw [hA.1];omega,fun df H2 s2 hdf0 hdf=>?_⟩
 refine ⟨df,rfl,⟨_,SqL.of hdf⟩,fun D hD=>?_⟩
 refine ZI (K:=K) (a:=df) (xs:=(yN rs.length).map fun (i:Nat)=>V.int (i:Int)) (caps:=[some (.ref gp),some (.ref wq)]) (fun i ys Hi=>PoursH Hi ys (((yA (kJ ws) (fun a=>gs.getD a 0) ws.length).take i).filter qH) ms.length) hD (SqL.of hdf) (PoursH.nil _ _) ?_ ?_
 ·rintro i x ys Hi hx hi hle sm hY hR
  obtain ⟨hk,rfl⟩:=tH hx
  rw [hA.1] at hk ⊢
  obtain ⟨i₁,hi₁⟩:∃i',i'=ws.length - 1 - i:=⟨_,rfl⟩
  have hi':i₁<ws.length:=by omega
  rw [← hi₁]
  have s12:=s2.trans sm
  obtain ⟨ta,hat,hT,ht⟩:=gT (hA.same s12) hi'
  have ef:((yA (kJ ws) (fun a=>gs.getD a 0) ws.length).take (i+1)).filter qH=((yA (kJ ws) (fun a=>gs.getD a 0) ws.length).take i).filter qH++[(i₁,kJ ws i₁,gs.getD i₁ 0)].filter qH:=by
   rw [List.take_add_one,DV hk,← hi₁,List.filter_append]
   rfl
  refine ⟨_,rfl,_,rfl,j9 (SqL.of (s12 _ _ hgp)) (qD (by rw [hS.1];exact hi')) (⟨rfl,_,rfl,?_⟩)⟩
  by_cases hz:gs.getD i₁ 0=0
  ·refine zO (congrArg V.int hz) (mV sm hY hle (Same.refl _) ?_)
   rw [ef,List.filter_cons,if_neg (by unfold qH;rw [decide_eq_true (show gs.getD i₁ 0=0 from hz)];decide)]
   show PoursH Hi ys (_++[]) _
   rw [List.append_nil]
   exact hR
  refine z0 (fun e=>hz (V.int.inj e)) ?_
  refine ⟨_,rfl,_,rfl,_,rfl,wq,_,_,_,rfl,rfl,s12.seq hW,hat,ta,_,_,_,rfl,rfl,hT,rfl,_,rfl,_,rfl,j9 (SqL.of (s12 _ _ hgp)) (qD (by rw [hS.1];exact hi')) (⟨zz3,fun tp htp=>?_⟩)⟩
  have st:=jL htp (.tup [.int (i₁:Int),.int (kJ ws i₁:Int),.int (gs.getD i₁ 0)])
  refine y8 hD sm hY hle (by omega) st ?_
  rw [ef,List.filter_cons,if_pos (by unfold qH;rw [decide_eq_false (show ¬gs.getD i₁ 0=0 from hz)];rfl)]
  exact ((hR.same st).snoc jF (by omega) ht).put (st _ _ hY)
 ·intro ys Hf sm hY hle hR
  rw [List.length_map,fA,hA.1,List.take_of_length_le (by unfold yA;rw [List.length_map,fA];exact Nat.le_refl _)] at hR
  have s12:=s2.trans sm
  exact q D Hf gs ys (s1.trans s12) ((s1.trans s2).free hD) hY hR hS
theorem DJ:FnScope ["weirs","waters","pours"] ["weirs","waters","pours"] (jE cW):=⟨rfl,rfl,rfl,by decide +kernel,rfl,by decide +kernel,by decide +kernel⟩
theorem BY {f:Addr} {fd:FuncData} (F:Fun K "with_spills" "with_spills" cW f fd) (T:Txt K mg cP cB cU cR cN tkS eA eW eS eF eO eK eL tkH w cC dV dW aU aD) (D_spill_pours:Def P w K mg base 3 "spill_pours" ["weirs","waters"] [] (sP K)) (D_poured_all:Def P w K mg base 1 "poured_all" ["waters","pours"] [] (fW K)):FnOk P w K mg base jW 4 f fd ["weirs","waters","pours"] (nJ K):=by
 refine F.ok DJ (fun vs H Q E h=>?_) (fun cdv A outer s H vs Q E hr h=>?_)
 ·obtain ⟨wq,wa,p,rs,ps,ws,ms,qs,rfl,hRd,hp,hP,h500,q⟩:=h
  rfl
 obtain ⟨wq,wa,p,rs,ps,ws,ms,qs,rfl,hRd,hp,hP,h500,q⟩:=h
 have hu:_<cLine:=hr.units0
 have hu1:=jV hr
 refine ⟨_,(@jH _ _ _ (@jS _ _ _ _ (@jJ _ _ _ _ _ _ _ _ dY (pv 2) (jM D_spill_pours hr rfl (jA (pv 0) (jA (jM D_poured_all hr rfl (jA (pv 1) (jA (pv 2) jB))) jB)))))),?_⟩
 obtain ⟨hW,hA,hM,hAh,hRn,hn⟩:=id hRd
 refine ⟨_,rfl,_,rfl,_,rfl,_,rfl,wa,p,ms,ps,qs,rfl,hM,SqL.of hp,hP.pa,hn,fun wt H1 s1 hwt0 hwt=>?_⟩
 have el:(jY ms qs).length=ms.length:=JE _ _
 refine ⟨wq,wt,rs,ws,jY ms qs,rfl,⟨s1.seq hW,by rw [el];exact hA.same s1,.inr (SqT.of hwt),hAh,by rw [el];exact hRn,by rw [el];exact hn⟩,fun sp H2 gs ys s2 hsp0 hsp hPs hS=>?_⟩
 rw [el] at hPs
 have hl:=DW ws (fun a=>gs.getD a 0)
 refine ⟨p,sp,_,_,rfl,rfl,s2 _ _ (s1 _ _ hp),hsp,Nat.le_trans (show ps.length+ys.length≤1500 by rw [hPs.1];omega) (by decide),fun al hal=>?_⟩
 have s3:=jL hal (.lst (ps++ys))
 have s12:=s1.trans s2
 exact q al _ gs _ (s12.trans s3) (s12.free hal) jF ((hP.same (s12.trans s3)).append (hPs.same s3)) hS
theorem DE:FnScope ["parts"] ["parts"] (jE QR):=⟨rfl,rfl,rfl,by decide +kernel,rfl,by decide +kernel,by decide +kernel⟩
theorem BL {f:Addr} {fd:FuncData} (F:Fun K "parts_not_nought" "parts_not_nought" QR f fd) (T:Txt K mg cP cB cU cR cN tkS eA eW eS eF eO eK eL tkH w cC dV dW aU aD) : FnOk P w K mg base jW 1 f fd ["parts"] (eH K):=by
  refine F.ok DE (fun vs H Q E h=>?_) (fun cdv A outer s H vs Q E hr h=>?_)
  · obtain ⟨p,rs,ps,rfl,hP,hA,hn,q⟩:=h
    rfl
  obtain ⟨p,rs,ps,rfl,hP,hA,hn,q⟩:=h
  have hu:_<cLine:=hr.units0
  have hu1:=jV hr
  refine ⟨_,(@jH _ _ _ (@jS _ _ _ _ (yB ["part"] (qO 1 []) rfl (qW (jE QR) rfl rfl (by decide +kernel) (by decide +kernel) (by decide +kernel)) (qX 1 [] rfl rfl (by decide +kernel)) (vK (pv 0)) (fun _ _ _ _ _=>(j8 (i:=0) (show List.Nodup (["part"]:List Str) from by decide +kernel) rfl (by first|exact Or.inl rfl|exact Or.inr rfl))) (fun _ _ _ _ _=>(fP (kC zZ (jI (zW K) (pv 0) jC (fun _ _=>rfl)) jC (j3 _)))) (fun _ _ _ _ _=>(pv 0))))),?_⟩
  refine ⟨_,rfl,p,rfl,⟨rs,hP⟩,fun l hl=>?_⟩
  refine ZI (K:=K) (a:=p) (xs:=rs) (caps:=[]) (fun i ys Hi=>PartsAt Hi ys ((ps.take i).filter qY)) hl hP PartsAt.nil ?_ ?_
  · rintro i x ys Hi hx hi hle sm hY hR
    obtain ⟨t,sN,nN,rfl,hps,hT⟩:=hA.2 i x hx
    have et:(ps.take (i+1)).filter qY=(ps.take i).filter qY++[(sN,nN)].filter qY:=by
      rw [List.take_add_one,hps,List.filter_append]
      rfl
    refine ⟨_,rfl,jQ (SqT.of (sm _ _ hT)) rfl (⟨rfl,_,rfl,?_⟩)⟩
    by_cases hz:nN=0
    · refine zO (by rw [hz]) ?_
      refine mV sm hY hle (Same.refl _) ?_
      have e2:[(sN,nN)].filter qY=[]:=by rw [hz];rfl
      rw [et,e2,List.append_nil]
      exact hR
    · refine z0 (fun e=>hz (V.int.inj e)) ?_
      refine ⟨_,rfl,y8 hl sm hY hle (by omega) (Same.refl _) ?_⟩
      have e2:[(sN,nN)].filter qY=[(sN,nN)]:=by
        rw [List.filter_cons,if_pos (show qY (sN,nN)=true by unfold qY;rw [decide_eq_false hz];rfl)]
        rfl
      rw [et,e2]
      exact (hR.snoc (sm _ _ hT)).keep ((Keep.refl l Hi).upd _) hY
  · intro ys Hf sm hY hle hR
    rw [hA.1,List.take_length] at hR
    exact q l Hf ys sm hl hY hR
theorem CO:FnScope ["self","name","high","low","room"] ["self","name","high","low","room"] (jE Z7):=⟨rfl,rfl,rfl,by decide +kernel,rfl,by decide +kernel,by decide +kernel⟩
theorem AD {f:Addr} {fd:FuncData} (F:Fun K "__init__" "PlainLock.__init__" Z7 f fd) (T:Txt K mg cP cB cU cR cN tkS eA eW eS eF eO eK eL tkH w cC dV dW aU aD) : FnOk P w K mg base jW 1 f fd ["self","name","high","low","room"] (dO (jD cP cB cU)):=by
 refine F.ok CO (fun vs H Q E h=>?_) (fun cdv A outer s H vs Q E hr h=>?_)
 ·obtain ⟨kd,x,dx,n,h₁,l,r,rfl,hx,q⟩:=h
  rfl
 obtain ⟨kd,x,dx,n,h₁,l,r,rfl,hx,q⟩:=h
 have hu:_<cLine:=hr.units0
 have hu1:=jV hr
 refine ⟨_,(@jG _ _ _ _ _ (qM (pv 0) (pv 1) rfl)
   (@jG _ _ _ _ _ (qM (pv 0) (pv 2) rfl)
   (@jG _ _ _ _ _ (qM (pv 0) (pv 3) rfl)
   (@jH _ _ _ (qM (pv 0) (pv 4) rfl))))),?_⟩
 refine ⟨_,rfl,_,rfl,x,_,dx,_,rfl,hx,T.cl kd,T.n_name kd,(by show 0<1000;decide),?_⟩
 refine ⟨_,rfl,_,rfl,x,_,dx,_,rfl,jF,T.cl kd,T.n_high kd,(by show 1<1000;decide),?_⟩
 refine ⟨_,rfl,_,rfl,x,_,dx,_,rfl,jF,T.cl kd,T.n_low kd,?_,?_⟩
 ·have:=zK "high" h₁ (jK "name" n [])
  have h2:(jK ("name":Str) n []).length=1:=rfl
  omega
 refine ⟨_,rfl,_,rfl,x,_,dx,_,rfl,jF,T.cl kd,T.n_room kd,?_,?_⟩
 ·have:=zK "low" l (jK "high" h₁ (jK "name" n []))
  have h1:=zK "high" h₁ (jK "name" n [])
  have h2:(jK ("name":Str) n []).length=1:=rfl
  omega
 exact q _ (((((Keep.refl x H).upd _).upd _).upd _).upd _) jF
theorem B0:FnScope ["self","name","high","low","room","side"] ["self","name","high","low","room","side"] (jE ZJ):=⟨rfl,rfl,rfl,by decide +kernel,rfl,by decide +kernel,by decide +kernel⟩
theorem xG {f:Addr} {fd:FuncData} (F:Fun K "__init__" "BasinLock.__init__" ZJ f fd) (T:Txt K mg cP cB cU cR cN tkS eA eW eS eF eO eK eL tkH w cC dV dW aU aD) (CM_PlainLock___init__:CmD P w K mg base 1 "PlainLock" cP "__init__" ["self","name","high","low","room"] (dO (jD cP cB cU))):FnOk P w K mg base jW 2 f fd ["self","name","high","low","room","side"] (dN (jD cP cB cU) .basin):=by
 refine F.ok B0 (fun vs H Q E h=>?_) (fun cdv A outer s H vs Q E hr h=>?_)
 ·obtain ⟨x,dx,n,h₁,l,r,v,rfl,hx,q⟩:=h
  rfl
 obtain ⟨x,dx,n,h₁,l,r,v,rfl,hx,q⟩:=h
 have hu:_<cLine:=hr.units0
 have hu1:=jV hr
 refine ⟨_,(@jG _ _ _ _ _ (qL (uA CM_PlainLock___init__ hr rfl (@jA _ _ _ _ _ (pv 0) (@jA _ _ _ _ _ (pv 1) (@jA _ _ _ _ _ (pv 2) (@jA _ _ _ _ _ (pv 3) (@jA _ _ _ _ _ (pv 4) jB (by rfl)) (by rfl)) (by rfl)) (by rfl)) (by rfl))))
   (@jH _ _ _ (qM (pv 0) (pv 5) rfl))),?_⟩
 refine ⟨_,rfl,_,rfl,_,rfl,_,rfl,_,rfl,.basin,x,dx,n,h₁,l,r,rfl,hx,fun H' kp hx'=>?_⟩
 refine ⟨_,rfl,_,rfl,x,_,dx,_,rfl,hx',T.cl .basin,T.n_side,rC _ _ _ _,?_⟩
 exact q _ (kp.upd _) jF
theorem CU:FnScope ["self","name","high","low","room","lift"] ["self","name","high","low","room","lift"] (jE bC):=⟨rfl,rfl,rfl,by decide +kernel,rfl,by decide +kernel,by decide +kernel⟩
theorem AI {f:Addr} {fd:FuncData} (F:Fun K "__init__" "PumpLock.__init__" bC f fd) (T:Txt K mg cP cB cU cR cN tkS eA eW eS eF eO eK eL tkH w cC dV dW aU aD) (CM_PlainLock___init__:CmD P w K mg base 1 "PlainLock" cP "__init__" ["self","name","high","low","room"] (dO (jD cP cB cU))):FnOk P w K mg base jW 2 f fd ["self","name","high","low","room","lift"] (dN (jD cP cB cU) .pump):=by
 refine F.ok CU (fun vs H Q E h=>?_) (fun cdv A outer s H vs Q E hr h=>?_)
 ·obtain ⟨x,dx,n,h₁,l,r,v,rfl,hx,q⟩:=h
  rfl
 obtain ⟨x,dx,n,h₁,l,r,v,rfl,hx,q⟩:=h
 have hu:_<cLine:=hr.units0
 have hu1:=jV hr
 refine ⟨_,(@jG _ _ _ _ _ (qL (uA CM_PlainLock___init__ hr rfl (@jA _ _ _ _ _ (pv 0) (@jA _ _ _ _ _ (pv 1) (@jA _ _ _ _ _ (pv 2) (@jA _ _ _ _ _ (pv 3) (@jA _ _ _ _ _ (pv 4) jB (by rfl)) (by rfl)) (by rfl)) (by rfl)) (by rfl))))
   (@jH _ _ _ (qM (pv 0) (pv 5) rfl))),?_⟩
 refine ⟨_,rfl,_,rfl,_,rfl,_,rfl,_,rfl,.pump,x,dx,n,h₁,l,r,rfl,hx,fun H' kp hx'=>?_⟩
 refine ⟨_,rfl,_,rfl,x,_,dx,_,rfl,hx',T.cl .pump,T.n_lift,rC _ _ _ _,?_⟩
 exact q _ (kp.upd _) jF
theorem CZ:FnScope ["self","name","least","crest","berths","water","target"] ["self","name","least","crest","berths","water","target"] (jE bG):=⟨rfl,rfl,rfl,by decide +kernel,rfl,by decide +kernel,by decide +kernel⟩
theorem AM {f:Addr} {fd:FuncData} (F:Fun K "__init__" "Reach.__init__" bG f fd) (T:Txt K mg cP cB cU cR cN tkS eA eW eS eF eO eK eL tkH w cC dV dW aU aD) : FnOk P w K mg base jW 1 f fd ["self","name","least","crest","berths","water","target"] (lX cR):=by
 refine F.ok CZ (fun vs H Q E h=>?_) (fun cdv A outer s H vs Q E hr h=>?_)
 ·obtain ⟨x,dx,v_name,v_least,v_crest,v_berths,v_water,v_target,rfl,hx,q⟩:=h
  rfl
 obtain ⟨x,dx,v_name,v_least,v_crest,v_berths,v_water,v_target,rfl,hx,q⟩:=h
 have hu:_<cLine:=hr.units0
 have hu1:=jV hr
 refine ⟨_,(@jG _ _ _ _ _ (qM (pv 0) (pv 1) rfl)
   (@jG _ _ _ _ _ (qM (pv 0) (pv 2) rfl)
   (@jG _ _ _ _ _ (qM (pv 0) (pv 3) rfl)
   (@jG _ _ _ _ _ (qM (pv 0) (pv 4) rfl)
   (@jG _ _ _ _ _ (qM (pv 0) (pv 5) rfl)
   (@jH _ _ _ (qM (pv 0) (pv 6) rfl))))))),?_⟩
 have ln:∀(f:Str) (z:V) (fs:List (Str×V)) (m:Nat),fs.length≤m→(jK f z fs).length≤m+1:=fun f z fs m h=>Nat.le_trans (zK f z fs) (by omega)
 have l0:([]:List (Str×V)).length≤0:=Nat.le_refl _
 refine ⟨_,rfl,_,rfl,x,cR,dx,_,rfl,hx,T.clR,T.nR_name,by omega,?_⟩
 have l1:=ln "name" v_name _ _ l0
 refine ⟨_,rfl,_,rfl,x,cR,dx,_,rfl,jF,T.clR,T.nR_least,by omega,?_⟩
 have l2:=ln "least" v_least _ _ l1
 refine ⟨_,rfl,_,rfl,x,cR,dx,_,rfl,jF,T.clR,T.nR_crest,by omega,?_⟩
 have l3:=ln "crest" v_crest _ _ l2
 refine ⟨_,rfl,_,rfl,x,cR,dx,_,rfl,jF,T.clR,T.nR_berths,by omega,?_⟩
 have l4:=ln "berths" v_berths _ _ l3
 refine ⟨_,rfl,_,rfl,x,cR,dx,_,rfl,jF,T.clR,T.nR_water,by omega,?_⟩
 have l5:=ln "water" v_water _ _ l4
 refine ⟨_,rfl,_,rfl,x,cR,dx,_,rfl,jF,T.clR,T.nR_target,by omega,?_⟩
 have l6:=ln "target" v_target _ _ l5
 exact q _ _ (((((((Keep.refl x H).upd _).upd _).upd _).upd _).upd _).upd _) jF (EY _ _ _ _ _ _)
theorem CS:FnScope ["self"] ["self"] (jE bA):=⟨rfl,rfl,rfl,by decide +kernel,rfl,by decide +kernel,by decide +kernel⟩
theorem AG {f:Addr} {fd:FuncData} (F:Fun K "kind" "PlainLock.kind" bA f fd) (T:Txt K mg cP cB cU cR cN tkS eA eW eS eF eO eK eL tkH w cC dV dW aU aD) : FnOk P w K mg base jW 1 f fd ["self"] (vZ (jD cP cB cU) (fun kd _=>V.str (match kd with|.plain=>"plain"|.basin=>"basin"|.pump=>"pump")) .plain):=by
 refine F.ok CS (fun vs H Q E h=>?_) (fun cdv A outer s H vs Q E hr h=>?_)
 ·obtain ⟨x,n,h₁,l,room,v,rfl,⟨dx,hx⟩,q⟩:=h
  rfl
 obtain ⟨x,n,h₁,l,room,v,rfl,⟨dx,hx⟩,q⟩:=h
 have hu:_<cLine:=hr.units0
 have hu1:=jV hr
 refine ⟨_,(@jH _ _ _ (@jS _ _ _ _ jR)),?_⟩
 exact q
theorem B4:FnScope ["self"] ["self"] (jE ZM):=⟨rfl,rfl,rfl,by decide +kernel,rfl,by decide +kernel,by decide +kernel⟩
theorem xJ {f:Addr} {fd:FuncData} (F:Fun K "kind" "BasinLock.kind" ZM f fd) (T:Txt K mg cP cB cU cR cN tkS eA eW eS eF eO eK eL tkH w cC dV dW aU aD) : FnOk P w K mg base jW 1 f fd ["self"] (vZ (jD cP cB cU) (fun kd _=>V.str (match kd with|.plain=>"plain"|.basin=>"basin"|.pump=>"pump")) .basin):=by
 refine F.ok B4 (fun vs H Q E h=>?_) (fun cdv A outer s H vs Q E hr h=>?_)
 ·obtain ⟨x,n,h₁,l,room,v,rfl,⟨dx,hx⟩,q⟩:=h
  rfl
 obtain ⟨x,n,h₁,l,room,v,rfl,⟨dx,hx⟩,q⟩:=h
 have hu:_<cLine:=hr.units0
 have hu1:=jV hr
 refine ⟨_,(@jH _ _ _ (@jS _ _ _ _ jR)),?_⟩
 exact q
theorem CY:FnScope ["self"] ["self"] (jE bF):=⟨rfl,rfl,rfl,by decide +kernel,rfl,by decide +kernel,by decide +kernel⟩
theorem AL {f:Addr} {fd:FuncData} (F:Fun K "kind" "PumpLock.kind" bF f fd) (T:Txt K mg cP cB cU cR cN tkS eA eW eS eF eO eK eL tkH w cC dV dW aU aD) : FnOk P w K mg base jW 1 f fd ["self"] (vZ (jD cP cB cU) (fun kd _=>V.str (match kd with|.plain=>"plain"|.basin=>"basin"|.pump=>"pump")) .pump):=by
 refine F.ok CY (fun vs H Q E h=>?_) (fun cdv A outer s H vs Q E hr h=>?_)
 ·obtain ⟨x,n,h₁,l,room,v,rfl,⟨dx,hx⟩,q⟩:=h
  rfl
 obtain ⟨x,n,h₁,l,room,v,rfl,⟨dx,hx⟩,q⟩:=h
 have hu:_<cLine:=hr.units0
 have hu1:=jV hr
 refine ⟨_,(@jH _ _ _ (@jS _ _ _ _ jR)),?_⟩
 exact q
theorem CP:FnScope ["self"] ["self"] (jE Z8):=⟨rfl,rfl,rfl,by decide +kernel,rfl,by decide +kernel,by decide +kernel⟩
theorem AE {f:Addr} {fd:FuncData} (F:Fun K "extra" "PlainLock.extra" Z8 f fd) (T:Txt K mg cP cB cU cR cN tkS eA eW eS eF eO eK eL tkH w cC dV dW aU aD) : FnOk P w K mg base jW 1 f fd ["self"] (vZ (jD cP cB cU) (fun kd v=>V.int (match kd with|.plain=>0|.basin=>v|.pump=>v)) .plain):=by
 refine F.ok CP (fun vs H Q E h=>?_) (fun cdv A outer s H vs Q E hr h=>?_)
 ·obtain ⟨x,n,h₁,l,room,v,rfl,⟨dx,hx⟩,q⟩:=h
  rfl
 obtain ⟨x,n,h₁,l,room,v,rfl,⟨dx,hx⟩,q⟩:=h
 have hu:_<cLine:=hr.units0
 have hu1:=jV hr
 refine ⟨_,(@jH _ _ _ (@jS _ _ _ _ jC)),?_⟩
 exact q
theorem B2:FnScope ["self"] ["self"] (jE ZK):=⟨rfl,rfl,rfl,by decide +kernel,rfl,by decide +kernel,by decide +kernel⟩
theorem xH {f:Addr} {fd:FuncData} (F:Fun K "extra" "BasinLock.extra" ZK f fd) (T:Txt K mg cP cB cU cR cN tkS eA eW eS eF eO eK eL tkH w cC dV dW aU aD) : FnOk P w K mg base jW 1 f fd ["self"] (vZ (jD cP cB cU) (fun kd v=>V.int (match kd with|.plain=>0|.basin=>v|.pump=>v)) .basin):=by
 refine F.ok B2 (fun vs H Q E h=>?_) (fun cdv A outer s H vs Q E hr h=>?_)
 ·obtain ⟨x,n,h₁,l,room,v,rfl,⟨dx,hx⟩,q⟩:=h
  rfl
 obtain ⟨x,n,h₁,l,room,v,rfl,⟨dx,hx⟩,q⟩:=h
 have hu:_<cLine:=hr.units0
 have hu1:=jV hr
 refine ⟨_,(@jH _ _ _ (@jS _ _ _ _ (jU (pv 0) rfl))),?_⟩
 exact ⟨_,rfl,jT hx (T.cl .basin) (T.n_side) (fO _ _ _ _ _ _) (q)⟩
theorem CV:FnScope ["self"] ["self"] (jE bD):=⟨rfl,rfl,rfl,by decide +kernel,rfl,by decide +kernel,by decide +kernel⟩
theorem AJ {f:Addr} {fd:FuncData} (F:Fun K "extra" "PumpLock.extra" bD f fd) (T:Txt K mg cP cB cU cR cN tkS eA eW eS eF eO eK eL tkH w cC dV dW aU aD) : FnOk P w K mg base jW 1 f fd ["self"] (vZ (jD cP cB cU) (fun kd v=>V.int (match kd with|.plain=>0|.basin=>v|.pump=>v)) .pump):=by
 refine F.ok CV (fun vs H Q E h=>?_) (fun cdv A outer s H vs Q E hr h=>?_)
 ·obtain ⟨x,n,h₁,l,room,v,rfl,⟨dx,hx⟩,q⟩:=h
  rfl
 obtain ⟨x,n,h₁,l,room,v,rfl,⟨dx,hx⟩,q⟩:=h
 have hu:_<cLine:=hr.units0
 have hu1:=jV hr
 refine ⟨_,(@jH _ _ _ (@jS _ _ _ _ (jU (pv 0) rfl))),?_⟩
 exact ⟨_,rfl,jT hx (T.cl .pump) (T.n_lift) (fO _ _ _ _ _ _) (q)⟩
theorem CQ:FnScope ["self","basin"] ["self","basin"] (jE Z9):=⟨rfl,rfl,rfl,by decide +kernel,rfl,by decide +kernel,by decide +kernel⟩
theorem AF {f:Addr} {fd:FuncData} (F:Fun K "fill_parts" "PlainLock.fill_parts" Z9 f fd) (T:Txt K mg cP cB cU cR cN tkS eA eW eS eF eO eK eL tkH w cC dV dW aU aD) (D_parts_not_nought:Def P w K mg base 1 "parts_not_nought" ["parts"] [] (eH K)):FnOk P w K mg base jW 2 f fd ["self","basin"] (vY (jD cP cB cU) yG .plain):=by
 refine F.ok CQ (fun vs H Q E h=>?_) (fun cdv A outer s H vs Q E hr h=>?_)
 ·obtain ⟨x,n,h₁,l,room,v,b,rfl,⟨dx,hx⟩,q⟩:=h
  rfl
 obtain ⟨x,n,h₁,l,room,v,b,rfl,⟨dx,hx⟩,q⟩:=h
 have hu:_<cLine:=hr.units0
 have hu1:=jV hr
 refine ⟨_,(@jH _ _ _ (@jS _ _ _ _ (jM D_parts_not_nought hr rfl (jA (qG (jA (kZ (jA jR (jA (jU (pv 0) rfl) jB))) jB)) jB)))),?_⟩
 refine ⟨_,rfl,jT hx (T.cl .plain) (T.n_room .plain) (Q2 .plain _ _ _ _ _) (⟨zz2,fun tp htp=>⟨zz1,fun lp hlp=>?_⟩⟩)⟩
 have s1:=jL htp (.tup [.str "high",.int room])
 have s2:=jL hlp (.lst [V.ref tp])
 refine ⟨lp,[.ref tp],[("high",room)],rfl,SqL.of jF,PartsAt.nil.snoc (s2 _ _ jF),(by show 1≤10;decide),fun rr H' rs' sm hrr0 hrr hP=>?_⟩
 exact q rr H' rs' ((s1.trans s2).trans sm) ((s1.trans s2).free hrr0) hrr hP
theorem B3:FnScope ["self","basin"] ["self","basin"] (jE ZL):=⟨rfl,rfl,rfl,by decide +kernel,rfl,by decide +kernel,by decide +kernel⟩
theorem xI {f:Addr} {fd:FuncData} (F:Fun K "fill_parts" "BasinLock.fill_parts" ZL f fd) (T:Txt K mg cP cB cU cR cN tkS eA eW eS eF eO eK eL tkH w cC dV dW aU aD) (D_parts_not_nought:Def P w K mg base 1 "parts_not_nought" ["parts"] [] (eH K)):FnOk P w K mg base jW 2 f fd ["self","basin"] (vY (jD cP cB cU) yG .basin):=by
 refine F.ok B3 (fun vs H Q E h=>?_) (fun cdv A outer s H vs Q E hr h=>?_)
 ·obtain ⟨x,n,h₁,l,room,v,b,rfl,⟨dx,hx0⟩,q⟩:=h
  rfl
 obtain ⟨x,n,h₁,l,room,v,b,rfl,⟨dx,hx0⟩,q⟩:=h
 have hu:_<cLine:=hr.units0
 have hu1:=jV hr
 refine ⟨_,(@jH _ _ _ (@jS _ _ _ _ (jM D_parts_not_nought hr rfl (jA (qG (jA (kZ (jA jR (jA (pv 1) jB))) (jA (kZ (jA jR (jA (@jJ _ _ _ _ _ _ _ _ yL (jU (pv 0) rfl) (pv 1)) jB))) jB))) jB)))),?_⟩
 refine ⟨_,rfl,zz2,fun tp htp=>?_⟩
 have s1:=jL htp (.tup [.str "basin",.int b])
 have hx:=s1 _ _ hx0
 refine ⟨_,rfl,jT hx (T.cl .basin) (T.n_room .basin) (Q2 .basin _ _ _ _ _) (⟨_,rfl,j0 (⟨zz2,fun tq htq=>⟨zz2,fun lp hlp=>?_⟩⟩)⟩)⟩
 have s2:=jL htq (.tup [.str "high",.int (room - b)])
 have s3:=jL hlp (.lst [V.ref tp,V.ref tq])
 refine ⟨lp,[.ref tp,.ref tq],[("basin",b),("high",room - b)],rfl,SqL.of jF,(PartsAt.nil.snoc (s3 _ _ (s2 _ _ jF))).snoc (s3 _ _ jF),(by show 2≤10;decide),fun rr H' rs' sm hrr0 hrr hP=>?_⟩
 exact q rr H' rs' (((s1.trans s2).trans s3).trans sm) (((s1.trans s2).trans s3).free hrr0) hrr hP
theorem CW:FnScope ["self","basin"] ["self","basin"] (jE bE):=⟨rfl,rfl,rfl,by decide +kernel,rfl,by decide +kernel,by decide +kernel⟩
theorem AK {f:Addr} {fd:FuncData} (F:Fun K "fill_parts" "PumpLock.fill_parts" bE f fd) (T:Txt K mg cP cB cU cR cN tkS eA eW eS eF eO eK eL tkH w cC dV dW aU aD) (D_parts_not_nought:Def P w K mg base 1 "parts_not_nought" ["parts"] [] (eH K)):FnOk P w K mg base jW 2 f fd ["self","basin"] (vY (jD cP cB cU) yG .pump):=by
 refine F.ok CW (fun vs H Q E h=>?_) (fun cdv A outer s H vs Q E hr h=>?_)
 ·obtain ⟨x,n,h₁,l,room,v,b,rfl,⟨dx,hx0⟩,q⟩:=h
  rfl
 obtain ⟨x,n,h₁,l,room,v,b,rfl,⟨dx,hx0⟩,q⟩:=h
 have hu:_<cLine:=hr.units0
 have hu1:=jV hr
 refine ⟨_,(@jH _ _ _ (@jS _ _ _ _ (jM D_parts_not_nought hr rfl (jA (qG (jA (kZ (jA jR (jA (jU (pv 0) rfl) jB))) (jA (kZ (jA jR (jA (@jJ _ _ _ _ _ _ _ _ yL (jU (pv 0) rfl) (jU (pv 0) rfl)) jB))) jB))) jB)))),?_⟩
 refine ⟨_,rfl,jT hx0 (T.cl .pump) (T.n_lift) (fO _ _ _ _ _ _) (⟨zz2,fun tp htp=>?_⟩)⟩
 have s1:=jL htp (.tup [.str "low",.int v])
 have hx:=s1 _ _ hx0
 refine ⟨_,rfl,jT hx (T.cl .pump) (T.n_room .pump) (Q2 .pump _ _ _ _ _) (⟨_,rfl,jT hx (T.cl .pump) (T.n_lift) (fO _ _ _ _ _ _) (j0 (⟨zz2,fun tq htq=>⟨zz2,fun lp hlp=>?_⟩⟩))⟩)⟩
 have s2:=jL htq (.tup [.str "high",.int (room - v)])
 have s3:=jL hlp (.lst [V.ref tp,V.ref tq])
 refine ⟨lp,[.ref tp,.ref tq],[("low",v),("high",room - v)],rfl,SqL.of jF,(PartsAt.nil.snoc (s3 _ _ (s2 _ _ jF))).snoc (s3 _ _ jF),(by show 2≤10;decide),fun rr H' rs' sm hrr0 hrr hP=>?_⟩
 exact q rr H' rs' (((s1.trans s2).trans s3).trans sm) (((s1.trans s2).trans s3).free hrr0) hrr hP
theorem CT:FnScope ["self","basin"] ["self","basin"] (jE bB):=⟨rfl,rfl,rfl,by decide +kernel,rfl,by decide +kernel,by decide +kernel⟩
theorem AH {f:Addr} {fd:FuncData} (F:Fun K "let_parts" "PlainLock.let_parts" bB f fd) (T:Txt K mg cP cB cU cR cN tkS eA eW eS eF eO eK eL tkH w cC dV dW aU aD) (D_parts_not_nought:Def P w K mg base 1 "parts_not_nought" ["parts"] [] (eH K)):FnOk P w K mg base jW 2 f fd ["self","basin"] (HL (jD cP cB cU)):=by
 refine F.ok CT (fun vs H Q E h=>?_) (fun cdv A outer s H vs Q E hr h=>?_)
 ·obtain ⟨kd,x,n,h₁,l,room,v,b,rfl,⟨dx,hx⟩,q⟩:=h
  rfl
 obtain ⟨kd,x,n,h₁,l,room,v,b,rfl,⟨dx,hx⟩,q⟩:=h
 have hu:_<cLine:=hr.units0
 have hu1:=jV hr
 refine ⟨_,(@jH _ _ _ (@jS _ _ _ _ (jM D_parts_not_nought hr rfl (jA (qG (jA (kZ (jA jR (jA (jU (pv 0) rfl) jB))) jB)) jB)))),?_⟩
 refine ⟨_,rfl,jT hx (T.cl kd) (T.n_room kd) (Q2 kd _ _ _ _ _) (⟨zz2,fun tp htp=>⟨zz1,fun lp hlp=>?_⟩⟩)⟩
 have s1:=jL htp (.tup [.str "low",.int room])
 have s2:=jL hlp (.lst [V.ref tp])
 refine ⟨lp,[.ref tp],[("low",room)],rfl,SqL.of jF,PartsAt.nil.snoc (s2 _ _ jF),(by show 1≤10;decide),fun rr H' rs' sm hrr0 hrr hP=>?_⟩
 exact q rr H' rs' ((s1.trans s2).trans sm) ((s1.trans s2).free hrr0) hrr hP
theorem pJ:FnScope ["self","basin","saved"] ["self","basin"] (jE ZN):=⟨rfl,rfl,rfl,by decide +kernel,rfl,by decide +kernel,by decide +kernel⟩
theorem xK {f:Addr} {fd:FuncData} (F:Fun K "let_parts" "BasinLock.let_parts" ZN f fd) (T:Txt K mg cP cB cU cR cN tkS eA eW eS eF eO eK eL tkH w cC dV dW aU aD) (D_parts_not_nought:Def P w K mg base 1 "parts_not_nought" ["parts"] [] (eH K)):FnOk P w K mg base jW 2 f fd ["self","basin"] (vY (jD cP cB cU) yR .basin):=by
 refine F.ok pJ (fun vs H Q E h=>?_) (fun cdv A outer s H vs Q E hr h=>?_)
 ·obtain ⟨x,n,h₁,l,room,v,b,rfl,⟨dx,hx0⟩,q⟩:=h
  rfl
 obtain ⟨x,n,h₁,l,room,v,b,rfl,⟨dx,hx0⟩,q⟩:=h
 have hu:_<cLine:=hr.units0
 have hu1:=jV hr
 refine ⟨_,(@jG _ _ _ _ _ (jZ (i:=2) pJ.nd rfl (by first|exact Or.inl rfl|exact Or.inr rfl) (@jJ _ _ _ _ _ _ _ _ yL (jU (pv 0) rfl) (pv 1)))
   (@jH _ _ _ (@jS _ _ _ _ (jM D_parts_not_nought hr rfl (jA (qG (jA (kZ (jA jR (jA (pv 2) jB))) (jA (kZ (jA jR (jA (@jJ _ _ _ _ _ _ _ _ yL (jU (pv 0) rfl) (pv 2)) jB))) jB))) jB))))),?_⟩
 have hx:=hx0
 refine ⟨_,rfl,jT hx (T.cl .basin) (T.n_side) (fO _ _ _ _ _ _) (⟨_,rfl,j0 (?_)⟩)⟩
 refine ⟨_,rfl,zz2,fun tp htp=>?_⟩
 have s1:=jL htp (.tup [.str "basin",.int (v - b)])
 have hx:=s1 _ _ hx0
 refine ⟨_,rfl,jT hx (T.cl .basin) (T.n_room .basin) (Q2 .basin _ _ _ _ _) (⟨_,rfl,j0 (⟨zz2,fun tq htq=>⟨zz2,fun lp hlp=>?_⟩⟩)⟩)⟩
 have s2:=jL htq (.tup [.str "low",.int (room - (v - b))])
 have s3:=jL hlp (.lst [V.ref tp,V.ref tq])
 refine ⟨lp,[.ref tp,.ref tq],[("basin",v - b),("low",room - (v - b))],rfl,SqL.of jF,(PartsAt.nil.snoc (s3 _ _ (s2 _ _ jF))).snoc (s3 _ _ jF),(by show 2≤10;decide),fun rr H' rs' sm hrr0 hrr hP=>?_⟩
 exact q rr H' rs' (((s1.trans s2).trans s3).trans sm) (((s1.trans s2).trans s3).free hrr0) hrr hP
theorem B5:FnScope ["self","reaches","locks","nights"] ["self","reaches","locks","nights"] (jE QG):=⟨rfl,rfl,rfl,by decide +kernel,rfl,by decide +kernel,by decide +kernel⟩
theorem xL {f:Addr} {fd:FuncData} {ds:List Value} (F:FunD K "__init__" "Canal.__init__" QG f fd ds) (T:Txt K mg cP cB cU cR cN tkS eA eW eS eF eO eK eL tkH w cC dV dW aU aD) : FnOk P w K mg base jW 1 f fd ["self","reaches","locks","nights"] (lY (jD cP cB cU) cR cN):=by
 refine F.ok B5 (fun vs H Q E h=>?_) (fun cdv A outer s H vs Q E hr h=>?_)
 ·obtain ⟨x,dx,rl,ll,nv,rs,ls,R,L,N,rfl,hx,hrl,hll,hR,hL,hN,q⟩:=h
  rfl
 obtain ⟨x,dx,rl,ll,nv,rs,ls,R,L,N,rfl,hx,hrl,hll,hR,hL,hN,q⟩:=h
 have hu:_<cLine:=hr.units0
 have hu1:=jV hr
 refine ⟨_,(@jG _ _ _ _ _ (qM (pv 0) (q8 JP (by rfl) T.z_list PyProof.Rows.boot_list (jA (pv 1) jB)) rfl)
   (@jG _ _ _ _ _ (qM (pv 0) (q8 JP (by rfl) T.z_list PyProof.Rows.boot_list (jA (pv 2) jB)) rfl)
   (@jH _ _ _ (qM (pv 0) (zB (kC KJ (pv 3) KG (j3 _)) (qG jB) (yB ["night"] (qO 1 []) rfl (qW (jE QG) rfl rfl (by decide +kernel) (by decide +kernel) (by decide +kernel)) (qX 1 [] rfl rfl (by decide +kernel)) (vK (pv 3)) (fun _ _ _ _ _=>(j8 (i:=0) (show List.Nodup (["night"]:List Str) from by decide +kernel) rfl (by first|exact Or.inl rfl|exact Or.inr rfl))) (fun _ _ _ _ _=>vP) (fun _ _ _ _ _=>(q8 (DO K) (by rfl) T.z_list PyProof.Rows.boot_list (jA (pv 0) jB))))) rfl)))),?_⟩
 have ln:∀(f:Str) (z:V) (fs:List (Str×V)) (m:Nat),fs.length≤m→(jK f z fs).length≤m+1:=fun f z fs m h=>Nat.le_trans (zK f z fs) (by omega)
 have nrx:rl≠x:=qV hrl hx (fun z=>nomatch z)
 have nlx:ll≠x:=qV hll hx (fun z=>nomatch z)
 refine ⟨_,rfl,rl,_,rfl,.inl (SqL.of hrl),fun r2 hr20=>?_⟩
 have s1:=jL hr20 (.lst rs)
 have nr2:r2≠x:=(qF hx hr20).symm
 refine ⟨_,rfl,x,cN,dx,_,rfl,s1 _ _ hx,T.clN,T.nN_reaches,(by show 0<1000;decide),?_⟩
 have k1:Keep x H (upd (upd H r2 (.lst rs)) x (.ins cN dx (jK "reaches" (.ref r2) []))):=(Keep.of s1).upd _
 have hr2:upd (upd H r2 (.lst rs)) x (.ins cN dx (jK "reaches" (.ref r2) [])) r2=some (.lst rs):=by rw [j4 nr2];exact jF
 have hx1:upd (upd H r2 (.lst rs)) x (.ins cN dx (jK "reaches" (.ref r2) [])) x=some (.ins cN dx (jK "reaches" (.ref r2) [])):=jF
 generalize upd (upd H r2 (.lst rs)) x (.ins cN dx (jK "reaches" (.ref r2) []))=H1 at k1 hr2 hx1 ⊢
 have l1:=ln "reaches" (.ref r2) [] 0 (Nat.le_refl _)
 refine ⟨_,rfl,ll,_,rfl,.inl (SqL.of (k1 _ _ nlx hll)),fun l2 hl20=>?_⟩
 have s2:=jL hl20 (.lst ls)
 have nl2:l2≠x:=(qF hx1 hl20).symm
 refine ⟨_,rfl,x,cN,dx,_,rfl,s2 _ _ hx1,T.clN,T.nN_locks,by omega,?_⟩
 have l2':=ln "locks" (.ref l2) _ _ l1
 have k2:Keep x H (upd (upd H1 l2 (.lst ls)) x (.ins cN dx (jK "locks" (.ref l2) (jK "reaches" (.ref r2) [])))):=(k1.trans (Keep.of s2)).upd _
 have hr2b:upd (upd H1 l2 (.lst ls)) x (.ins cN dx (jK "locks" (.ref l2) (jK "reaches" (.ref r2) []))) r2=some (.lst rs):=by rw [j4 nr2];exact s2 _ _ hr2
 have hl2:upd (upd H1 l2 (.lst ls)) x (.ins cN dx (jK "locks" (.ref l2) (jK "reaches" (.ref r2) []))) l2=some (.lst ls):=by rw [j4 nl2];exact jF
 have hx2:upd (upd H1 l2 (.lst ls)) x (.ins cN dx (jK "locks" (.ref l2) (jK "reaches" (.ref r2) []))) x=some (.ins cN dx (jK "locks" (.ref l2) (jK "reaches" (.ref r2) []))):=jF
 generalize upd (upd H1 l2 (.lst ls)) x (.ins cN dx (jK "locks" (.ref l2) (jK "reaches" (.ref r2) [])))=H2 at k2 hr2b hl2 hx2 ⊢
 have frR:∀D:List Addr,(∀d∈D,H d≠none)→r2∉D:=fun D hD z=>hD _ z hr20
 have frL:∀D:List Addr,(∀d∈D,H d≠none)→l2∉D:=fun D hD z=>by
  by_cases e:l2=x
  ·exact nl2 e
  ·cases hh:H l2 with
   |none=>exact hD _ z hh
   |some o=>rw [k1 _ _ e hh] at hl20;cases hl20
 have done:∀(n2:Addr) (ns:List V) (H3:Hp),Keep x H2 H3→H2 n2=none→H3 x=some (.ins cN dx (jK "locks" (.ref l2) (jK "reaches" (.ref r2) [])))→H3 n2=some (.lst ns)→(∀D:List Addr,(∀d∈D,H2 d≠none)→AllAt (NAt D H3) ns N)→Q .non (upd H3 x (.ins cN dx (jK "nights" (.ref n2) (jK "locks" (.ref l2) (jK "reaches" (.ref r2) []))))):=by
  intro n2 ns H3 k3 hn20 hx3 hn2 hNs
  have kf:Keep x H (upd H3 x (.ins cN dx (jK "nights" (.ref n2) (jK "locks" (.ref l2) (jK "reaches" (.ref r2) []))))):=(k2.trans k3).upd _
  have kl:Keep x H3 (upd H3 x (.ins cN dx (jK "nights" (.ref n2) (jK "locks" (.ref l2) (jK "reaches" (.ref r2) []))))):=(Keep.refl x H3).upd _
  have nn2:n2≠x:=fun z=>by rw [z,hx2] at hn20;cases hn20
  have old:∀d,H d≠none→H2 d≠none:=fun d hd=>by
   by_cases e:d=x
   ·rw [e,hx2];exact fun z=>nomatch z
   ·cases hh:H d with
    |none=>exact absurd hh hd
    |some o=>rw [k2 _ _ e hh];exact fun z=>nomatch z
  refine q _ kf fun D hD=>⟨dx,r2,l2,n2,_,rs,ls,ns,jF,EZ _ _ _,?_,?_,?_,hR.mono (RcO.keepI kf hx),hL.mono (LkO.keepI kf hx),?_,frR D hD,frL D hD,fun z=>old _ (hD _ z) hn20⟩
  ·rw [j4 nr2];exact k3 _ _ nr2 hr2b
  ·rw [j4 nl2];exact k3 _ _ nl2 hl2
  ·rw [j4 nn2];exact hn2
  ·refine (hNs D (fun d hd=>old d (hD d hd))).mono ?_
   rintro v p ⟨l,qs,e1,e2,e3,e4⟩
   exact ⟨l,qs,e1,kl _ _ (fun z=>by rw [z,hx3] at e2;cases e2) e2,e3.mono (QAt.keep kl hx3 (fun _ z=>nomatch z)),e4⟩
 refine ⟨_,rfl,rfl,_,rfl,?_⟩
 rcases hN with ⟨rfl,rfl⟩|⟨nl,ns,rfl,hnl,hN,hnl100⟩
 ·refine kT rfl ⟨zz0,fun n2 hn20=>?_⟩
  have s3:=jL hn20 (.lst [])
  refine ⟨_,rfl,x,cN,dx,_,rfl,s3 _ _ hx2,T.clN,T.nN_nights,by omega,?_⟩
  exact done n2 [] _ (Keep.of s3) hn20 (s3 _ _ hx2) jF (fun D _=>AllAt.nil)
 ·have nnx:nl≠x:=qV hnl hx (fun z=>nomatch z)
  have hnl2:=k2 _ _ nnx hnl
  have hN2:AllAt (NAt [] H2) ns N:=hN.mono fun v p=>by
   rintro ⟨l,qs,e1,e2,e3,e4⟩
   exact ⟨l,qs,e1,k2 _ _ (qV e2 hx (fun z=>nomatch z)) e2,e3.mono (QAt.keep k2 hx (fun _ z=>nomatch z)),e4⟩
  refine kB (fun z=>nomatch z) ⟨_,rfl,nl,rfl,⟨_,SqL.of hnl2⟩,fun n2 hn20=>?_⟩
  refine ZI (K:=K) (a:=nl) (xs:=ns) (caps:=[]) (fun i ys Hi=>(∀D:List Addr,n2∈D→(∀d∈D,d≠n2→H2 d≠none)→AllAt (NAt D Hi) ys (N.take i))) hn20 (SqL.of hnl2) (fun D _ _=>AllAt.nil) ?_ ?_
  ·rintro i v ys Hi hv hi hle sm hY hI
   obtain ⟨p,hp,l,qs,rfl,hl,hq,_⟩:=hN2.2 i v hv
   refine vS (kU ?_)
   refine ⟨_,rfl,l,qs,rfl,.inl (SqL.of (sm _ _ hl)),fun c hc0=>?_⟩
   have u:=jL hc0 (.lst qs)
   refine y8 hn20 sm hY hle (by omega) u ?_
   intro D hnD hD
   rw [List.take_add_one,hp]
   refine (((hI D hnD hD).mono (NAt.same u)).snoc (v:=.ref c) (x:=p) ⟨c,qs,rfl,jF,(hq.mono (QAt.same sm)).mono (QAt.same u),fun z=>?_⟩).mono (NAt.put (u _ _ hY) hnD)
   by_cases e:c=n2
   ·rw [e,hY] at hc0;cases hc0
   ·cases hh:H2 c with
    |none=>exact hD _ z e hh
    |some o=>rw [sm _ _ hh] at hc0;cases hc0
  rintro ys H3 s3 hY hle hI
  rw [hN2.1,List.take_length] at hI
  refine ⟨_,rfl,x,cN,dx,_,rfl,s3 _ _ hx2,T.clN,T.nN_nights,by omega,?_⟩
  exact done n2 ys H3 (Keep.of s3) hn20 (s3 _ _ hx2) hY (fun D hD=>(hI (n2::D) List.mem_cons_self (fun d hd ne=>(List.mem_cons.mp hd).elim (fun z=>absurd z ne) (hD d))).mono (NAt.less (fun d hd=>List.mem_cons_of_mem _ hd)))
theorem B9:FnScope ["self"] ["self"] (jE ZR):=⟨rfl,rfl,rfl,by decide +kernel,rfl,by decide +kernel,by decide +kernel⟩
theorem xP {f:Addr} {fd:FuncData} (F:Fun K "sea" "Canal.sea" ZR f fd) (T:Txt K mg cP cB cU cR cN tkS eA eW eS eF eO eK eL tkH w cC dV dW aU aD) : FnOk P w K mg base jW 1 f fd ["self"] (ZB (jD cP cB cU) cR cN yO):=by
 refine F.ok B9 (fun vs H Q E h=>?_) (fun cdv A outer s H vs Q E hr h=>?_)
 ·obtain ⟨x,D,R,L,N,rfl,⟨dx,rl,ll,nl,fs,rs,ls,ns,hx,hf,hrl,hll,hnl,hR,hL,hN,d1,d2,d3⟩,q⟩:=h
  rfl
 obtain ⟨x,D,R,L,N,rfl,⟨dx,rl,ll,nl,fs,rs,ls,ns,hx,hf,hrl,hll,hnl,hR,hL,hN,d1,d2,d3⟩,q⟩:=h
 have hu:_<cLine:=hr.units0
 have hu1:=jV hr
 refine ⟨_,(@jH _ _ _ (@jS _ _ _ _ (@jJ _ _ _ _ _ _ _ _ j7 (qB qQ (by rfl) T.z_len PySem.boot_len (jA (jU (pv 0) rfl) jB)) (@jJ _ _ _ _ _ _ _ _ kG jC (qB qQ (by rfl) T.z_len PySem.boot_len (jA (jU (pv 0) rfl) jB)))))),?_⟩
 refine ⟨_,rfl,jT hx (T.clN) (T.nN_reaches) (hf.1) (⟨_,_,rfl,.inl (SqL.of hrl),_,rfl,jT hx (T.clN) (T.nN_locks) (hf.2.1) (⟨_,_,rfl,.inl (SqL.of hll),_,_,rfl,rfl,.inl ⟨by decide,by decide⟩,_,_,rfl,rfl,?_⟩)⟩)⟩
 rw [hR.1,hL.1]
 exact q
theorem CA:FnScope ["self"] ["self"] (jE ZS):=⟨rfl,rfl,rfl,by decide +kernel,rfl,by decide +kernel,by decide +kernel⟩
theorem xQ {f:Addr} {fd:FuncData} (F:Fun K "sky" "Canal.sky" ZS f fd) (T:Txt K mg cP cB cU cR cN tkS eA eW eS eF eO eK eL tkH w cC dV dW aU aD) (MM_Canal_sea:MeD P w K mg base 1 cN "sea" ["self"] (ZB (jD cP cB cU) cR cN yO)):FnOk P w K mg base jW 2 f fd ["self"] (ZB (jD cP cB cU) cR cN fY):=by
 refine F.ok CA (fun vs H Q E h=>?_) (fun cdv A outer s H vs Q E hr h=>?_)
 ·obtain ⟨x,D,R,L,N,rfl,hc,q⟩:=h
  rfl
 obtain ⟨x,D,R,L,N,rfl,hc,q⟩:=h
 have hu:_<cLine:=hr.units0
 have hu1:=jV hr
 refine ⟨_,(@jH _ _ _ (@jS _ _ _ _ (@jJ _ _ _ _ _ _ _ _ j7 (J9 MM_Canal_sea hr (pv 0)) jC))),?_⟩
 have hc0:=hc
 obtain ⟨dx,rl,ll,nl,fs,rs,ls,ns,hx,hf,hrl,hll,hnl,hR,hL,hN,d1,d2,d3⟩:=hc
 exact ⟨_,rfl,x,dx,_,rfl,hx,hf.no (by decide +kernel) (by decide +kernel) (by decide +kernel),x,D,R,L,N,rfl,hc0,_,_,rfl,rfl,q⟩
theorem B7:FnScope ["self","k"] ["self","k"] (jE ZP):=⟨rfl,rfl,rfl,by decide +kernel,rfl,by decide +kernel,by decide +kernel⟩
theorem xN {f:Addr} {fd:FuncData} (F:Fun K "chamber" "Canal.chamber" ZP f fd) (T:Txt K mg cP cB cU cR cN tkS eA eW eS eF eO eK eL tkH w cC dV dW aU aD) : FnOk P w K mg base jW 1 f fd ["self","k"] (zN (jD cP cB cU) cR cN vU):=by
 refine F.ok B7 (fun vs H Q E h=>?_) (fun cdv A outer s H vs Q E hr h=>?_)
 ·obtain ⟨x,D,R,L,N,k,rfl,⟨dx,rl,ll,nl,fs,rs,ls,ns,hx,hf,hrl,hll,hnl,hR,hL,hN,d1,d2,d3⟩,q⟩:=h
  rfl
 obtain ⟨x,D,R,L,N,k,rfl,⟨dx,rl,ll,nl,fs,rs,ls,ns,hx,hf,hrl,hll,hnl,hR,hL,hN,d1,d2,d3⟩,q⟩:=h
 have hu:_<cLine:=hr.units0
 have hu1:=jV hr
 refine ⟨_,(@jH _ _ _ (@jS _ _ _ _ (@jJ _ _ _ _ _ _ _ _ j7 (qB qQ (by rfl) T.z_len PySem.boot_len (jA (jU (pv 0) rfl) jB)) (pv 1)))),?_⟩
 refine ⟨_,rfl,jT hx (T.clN) (T.nN_reaches) (hf.1) (⟨_,_,rfl,.inl (SqL.of hrl),_,rfl,j0 (?_)⟩)⟩
 rw [hR.1]
 exact q
theorem B6:FnScope ["self","k"] ["self","k"] (jE ZO):=⟨rfl,rfl,rfl,by decide +kernel,rfl,by decide +kernel,by decide +kernel⟩
theorem xM {f:Addr} {fd:FuncData} (F:Fun K "basin" "Canal.basin" ZO f fd) (T:Txt K mg cP cB cU cR cN tkS eA eW eS eF eO eK eL tkH w cC dV dW aU aD) : FnOk P w K mg base jW 1 f fd ["self","k"] (zN (jD cP cB cU) cR cN vE):=by
 refine F.ok B6 (fun vs H Q E h=>?_) (fun cdv A outer s H vs Q E hr h=>?_)
 ·obtain ⟨x,D,R,L,N,k,rfl,⟨dx,rl,ll,nl,fs,rs,ls,ns,hx,hf,hrl,hll,hnl,hR,hL,hN,d1,d2,d3⟩,q⟩:=h
  rfl
 obtain ⟨x,D,R,L,N,k,rfl,⟨dx,rl,ll,nl,fs,rs,ls,ns,hx,hf,hrl,hll,hnl,hR,hL,hN,d1,d2,d3⟩,q⟩:=h
 have hu:_<cLine:=hr.units0
 have hu1:=jV hr
 refine ⟨_,(@jH _ _ _ (@jS _ _ _ _ (@jJ _ _ _ _ _ _ _ _ j7 (@jJ _ _ _ _ _ _ _ _ j7 (qB qQ (by rfl) T.z_len PySem.boot_len (jA (jU (pv 0) rfl) jB)) (qB qQ (by rfl) T.z_len PySem.boot_len (jA (jU (pv 0) rfl) jB))) (pv 1)))),?_⟩
 refine ⟨_,rfl,jT hx (T.clN) (T.nN_reaches) (hf.1) (⟨_,_,rfl,.inl (SqL.of hrl),_,rfl,jT hx (T.clN) (T.nN_locks) (hf.2.1) (⟨_,_,rfl,.inl (SqL.of hll),_,_,rfl,rfl,_,rfl,j0 (?_)⟩)⟩)⟩
 rw [hR.1,hL.1]
 exact q
theorem CB:FnScope ["self"] ["self"] (jE QH):=⟨rfl,rfl,rfl,by decide +kernel,rfl,by decide +kernel,by decide +kernel⟩
theorem xR {f:Addr} {fd:FuncData} (F:Fun K "weirs" "Canal.weirs" QH f fd) (T:Txt K mg cP cB cU cR cN tkS eA eW eS eF eO eK eL tkH w cC dV dW aU aD) (MM_Canal_sea:MeD P w K mg base 1 cN "sea" ["self"] (ZB (jD cP cB cU) cR cN yO)):FnOk P w K mg base jW 2 f fd ["self"] (gY (jD cP cB cU) cR cN):=by
 refine F.ok CB (fun vs H Q E h=>?_) (fun cdv A outer s H vs Q E hr h=>?_)
 ·obtain ⟨x,D,R,L,N,rfl,hc,hR100,q⟩:=h
  rfl
 obtain ⟨x,D,R,L,N,rfl,hc,hR100,q⟩:=h
 have hu:_<cLine:=hr.units0
 have hu1:=jV hr
 refine ⟨_,(@jH _ _ _ (@jS _ _ _ _ (yB ["reach","self"] (qO 1 [0]) rfl (qW (jE QH) rfl rfl (by decide +kernel) (by decide +kernel) (by decide +kernel)) (qX 1 [0] rfl rfl (by decide +kernel)) (vK (jU (pv 0) rfl)) (fun _ _ _ _ _=>(j8 (i:=0) (show List.Nodup (["reach","self"]:List Str) from by decide +kernel) rfl (by first|exact Or.inl rfl|exact Or.inr rfl))) (fun _ _ _ _ _=>vP) (fun _ _ _ _ _=>(kZ (jA (nQ K (pv 0) rfl) (jA (zB (kC kK (nQ K (pv 0) rfl) (vQ (v:=.int (-1)) rfl T.g_SEA ⟨_,rfl⟩) (j3 _)) (J9 MM_Canal_sea hr (pv 1)) (nQ K (pv 0) rfl)) jB))))))),?_⟩
 have hc0:=hc
 obtain ⟨dx,rl,ll,nl,fs,rs,ls,ns,hx,hf,hrl,hll,hnl,hR,hL,hN,d1,d2,d3⟩:=hc
 refine ⟨_,rfl,jT hx (T.clN) (T.nN_reaches) (hf.1) (⟨rl,rfl,⟨_,SqL.of hrl⟩,fun wl hwl0=>?_⟩)⟩
 refine ZI (K:=K) (a:=rl) (xs:=rs) (caps:=[some (.ref x)]) (fun i ys Hi=>AllAt (QAt Hi) ys ((R.take i).map (zE (yO R.length L.length)))) hwl0 (SqL.of hrl) AllAt.nil ?_ ?_
 ·rintro i v ys Hi hv hi hle sm hY hW
  obtain ⟨r,hr,y,rfl,dy,gs,hy,hg⟩:=hR.2 i v hv
  have hy:=sm _ _ hy
  have hi100:i<100:=by rw [hR.1] at hi;omega
  refine vS (kU ?_)
  refine ⟨_,rfl,jT hy (T.clR) (T.nR_crest) (hg.2.2.1) (⟨_,rfl,jT hy (T.clR) (T.nR_target) (hg.2.2.2.2.2) (⟨rfl,_,rfl,?_⟩)⟩)⟩
  have put:∀z:Int,z=(zE (yO R.length L.length) r).2→∀tp,Hi tp=none→∃ys',upd Hi tp (.tup [.int r.crest,.int z]) wl=some (.lst ys')∧ys'.length<sizeLine∧JK H wl [some (.ref x)] (fun i ys Hi=>AllAt (QAt Hi) ys ((R.take i).map (zE (yO R.length L.length)))) (i+1) [some (.ref y),some (.ref x)] (upd (upd Hi tp (.tup [.int r.crest,.int z])) wl (.lst (ys'++[.ref tp]))):=by
   intro z hz tp htp
   have u:=jL htp (.tup [V.int r.crest,V.int z])
   exact y8 (R:=fun i ys Hi=>AllAt (QAt Hi) ys ((R.take i).map (zE (yO R.length L.length)))) (c:=some (.ref y)) (caps:=[some (.ref x)]) (v:=.ref tp) hwl0 sm hY hle (by omega) u (by
    rw [List.take_add_one,hr,List.map_append]
    exact ((hW.mono (QAt.same u)).snoc (v:=.ref tp) (x:=zE (yO R.length L.length) r) ⟨tp,rfl,by rw [← hz];exact jF⟩).mono (QAt.put (u _ _ hY)))
  by_cases ht:r.target = -1
  ·refine kT (congrArg V.int ht) ⟨_,rfl,x,dx,_,rfl,(sm _ _ hx),hf.no (by decide +kernel) (by decide +kernel) (by decide +kernel),x,D,R,L,N,rfl,hc0.same sm,zz2,fun tp htp=>?_⟩
   exact put _ (by unfold zE;rw [if_pos ht]) tp htp
  ·refine kB (fun z=>ht (V.int.inj z)) ⟨_,rfl,jT hy (T.clR) (T.nR_target) (hg.2.2.2.2.2) (⟨zz2,fun tp htp=>?_⟩)⟩
   exact put _ (by unfold zE;rw [if_neg ht]) tp htp
 rintro ys Hf sm hY hle hW
 rw [hR.1,List.take_length] at hW
 exact q wl ys Hf sm hwl0 hY hW
theorem B8:FnScope ["self","waters","k"] ["self","waters","k"] (jE ZQ):=⟨rfl,rfl,rfl,by decide +kernel,rfl,by decide +kernel,by decide +kernel⟩
theorem xO {f:Addr} {fd:FuncData} (F:Fun K "full" "Canal.full" ZQ f fd) (T:Txt K mg cP cB cU cR cN tkS eA eW eS eF eO eK eL tkH w cC dV dW aU aD) (MM_Canal_chamber:MeD P w K mg base 1 cN "chamber" ["self","k"] (zN (jD cP cB cU) cR cN vU)):FnOk P w K mg base jW 2 f fd ["self","waters","k"] (iF (jD cP cB cU) cR cN):=by
 refine F.ok B8 (fun vs H Q E h=>?_) (fun cdv A outer s H vs Q E hr h=>?_)
 ·obtain ⟨x,wa,D,R,L,N,ms,k,rfl,hc,hwa,hk,q⟩:=h
  rfl
 obtain ⟨x,wa,D,R,L,N,ms,k,rfl,hc,hwa,hk,q⟩:=h
 have hu:_<cLine:=hr.units0
 have hu1:=jV hr
 refine ⟨_,(@jH _ _ _ (@jS _ _ _ _ (yI wM (jI ix_tup (pv 1) (yP MM_Canal_chamber hr (pv 0) (jA (pv 2) jB)) (fun _ _=>rfl)) jC (j3 _)))),?_⟩
 have hc0:=hc
 obtain ⟨dx,rl,ll,nl,fs,rs,ls,ns,hx,hf,hrl,hll,hnl,hR,hL,hN,d1,d2,d3⟩:=hc
 have hat:kQ (ms.map V.int) (vU R.length L.length (k:Int))=some (.int (ms.getD (R.length+k) 0)):=by
  rw [show vU R.length L.length (k:Int)=((R.length+k:Nat):Int) by unfold vU;omega]
  exact qD hk
 exact ⟨_,rfl,_,rfl,x,dx,_,rfl,hx,hf.no (by decide +kernel) (by decide +kernel) (by decide +kernel),_,rfl,x,D,R,L,N,_,rfl,hc0,jQ (SqT.of hwa) hat (j0 (q))⟩
theorem C4:FnScope ["lock","basin"] ["lock","basin"] (jE QM):=⟨rfl,rfl,rfl,by decide +kernel,rfl,by decide +kernel,by decide +kernel⟩
theorem A7 {f:Addr} {fd:FuncData} (F:Fun K "filling" "filling" QM f fd) (T:Txt K mg cP cB cU cR cN tkS eA eW eS eF eO eK eL tkH w cC dV dW aU aD) (MP_fill_parts:MeK P w K mg base 2 (jD cP cB cU) "fill_parts" ["self","basin"] (vY (jD cP cB cU) yG)):FnOk P w K mg base jW 3 f fd ["lock","basin"] (Q1 (jD cP cB cU) kH):=by
 refine F.ok C4 (fun vs H Q E h=>?_) (fun cdv A outer s H vs Q E hr h=>?_)
 ·obtain ⟨x,kd,n,h₁,l,room,v,b,rfl,⟨dx,hx⟩,q⟩:=h
  rfl
 obtain ⟨x,kd,n,h₁,l,room,v,b,rfl,⟨dx,hx⟩,q⟩:=h
 have hu:_<cLine:=hr.units0
 have hu1:=jV hr
 refine ⟨_,(@jH _ _ _ (@jS _ _ _ _ (yB ["giver","amount"] (qO 2 []) rfl (qW (jE QM) rfl rfl (by decide +kernel) (by decide +kernel) (by decide +kernel)) (qX 2 [] rfl rfl (by decide +kernel)) (vK (wL MP_fill_parts hr (pv 0) (jA (pv 1) jB))) (fun _ _ _ _ _=>(zV (n:=2) K rfl (kY (j8 (i:=0) (show List.Nodup (["giver","amount"]:List Str) from by decide +kernel) rfl (by first|exact Or.inl rfl|exact Or.inr rfl)) (kY (j8 (i:=1) (show List.Nodup (["giver","amount"]:List Str) from by decide +kernel) rfl (by first|exact Or.inl rfl|exact Or.inr rfl)) yV)))) (fun _ _ _ _ _=>vP) (fun _ _ _ _ _=>(kZ (@jA _ _ _ _ _ (pv 0) (@jA _ _ _ _ _ jR (@jA _ _ _ _ _ (pv 1) jB (by rfl)) (by rfl)) (by rfl))))))),?_⟩
 refine ⟨_,rfl,kd,x,dx,_,rfl,hx,IL kd _ _ _ _ _,_,rfl,x,n,h₁,l,room,v,b,rfl,⟨dx,hx⟩,fun pl H1 rs s1 hpl0 hpl hP=>?_⟩
 have hplen:=rY kd room v b
 refine ⟨pl,rfl,⟨_,SqL.of hpl⟩,fun D hD=>?_⟩
 have u0:=jL hD (.lst [])
 refine QU (K:=K) (a:=pl) (xs:=rs) (fun i σ Hi=>∃(c1 c2:Option V) (ys:List V),σ=[c1,c2]∧Hi D=some (.lst ys)∧PoursS Hi ys ((yG kd room v b).take i |>.map (fun p=>(p.1,"chamber",p.2)))∧Same H1 Hi)
  ⟨none,none,[],rfl,jF,PoursS.nil,u0⟩ (fun i σ Hi _ ⟨_,_,_,_,_,_,s⟩=>SqL.of (s _ _ hpl)) ?_ ?_
 ·rintro i y σ Hi hy ⟨c1,c2,ys,rfl,hY,hA,sm⟩
  have hi:i<rs.length:=(List.getElem?_eq_some_iff.mp hy).1
  obtain ⟨t,sN,nN,rfl,hps,hT⟩:=hP.2 i y hy
  have hl:ys.length≤i:=by rw [hA.1,List.length_map];exact List.length_take_le _ _
  refine ⟨t,_,rfl,SqT.of (sm _ _ hT),rfl,_,_,rfl,_,_,rfl,rfl,?_⟩
  refine vS (kU ?_)
  refine ⟨_,rfl,_,rfl,zz3,fun tp htp=>?_⟩
  have v1:∀o,Same Hi (upd Hi tp o):=fun o=>jL htp o
  refine ⟨ys,v1 _ _ _ hY,qP (by rw [hP.1] at hi;omega),_,_,ys++[.ref tp],rfl,jF,?_,qC hD (sm.trans (v1 _))⟩
  rw [lP hps]
  exact PoursS.keep ((Keep.refl D _).upd _) (v1 _ _ _ hY) ((hA.same (v1 _)).append (PoursS.one jF))
 ·rintro σ Hi ⟨c1,c2,ys,rfl,hY,hA,sm⟩
  rw [hP.1,List.take_length] at hA
  exact q D Hi ys (s1.trans sm) (s1.free hD) hY hA
theorem DA:FnScope ["lock","basin"] ["lock","basin"] (jE QO):=⟨rfl,rfl,rfl,by decide +kernel,rfl,by decide +kernel,by decide +kernel⟩
theorem BE {f:Addr} {fd:FuncData} (F:Fun K "letting" "letting" QO f fd) (T:Txt K mg cP cB cU cR cN tkS eA eW eS eF eO eK eL tkH w cC dV dW aU aD) (MP_let_parts:MeK P w K mg base 2 (jD cP cB cU) "let_parts" ["self","basin"] (vY (jD cP cB cU) yR)):FnOk P w K mg base jW 3 f fd ["lock","basin"] (Q1 (jD cP cB cU) kP):=by
 refine F.ok DA (fun vs H Q E h=>?_) (fun cdv A outer s H vs Q E hr h=>?_)
 ·obtain ⟨x,kd,n,h₁,l,room,v,b,rfl,⟨dx,hx⟩,q⟩:=h
  rfl
 obtain ⟨x,kd,n,h₁,l,room,v,b,rfl,⟨dx,hx⟩,q⟩:=h
 have hu:_<cLine:=hr.units0
 have hu1:=jV hr
 refine ⟨_,(@jH _ _ _ (@jS _ _ _ _ (yB ["taker","amount"] (qO 2 []) rfl (qW (jE QO) rfl rfl (by decide +kernel) (by decide +kernel) (by decide +kernel)) (qX 2 [] rfl rfl (by decide +kernel)) (vK (wL MP_let_parts hr (pv 0) (jA (pv 1) jB))) (fun _ _ _ _ _=>(zV (n:=2) K rfl (kY (j8 (i:=0) (show List.Nodup (["taker","amount"]:List Str) from by decide +kernel) rfl (by first|exact Or.inl rfl|exact Or.inr rfl)) (kY (j8 (i:=1) (show List.Nodup (["taker","amount"]:List Str) from by decide +kernel) rfl (by first|exact Or.inl rfl|exact Or.inr rfl)) yV)))) (fun _ _ _ _ _=>vP) (fun _ _ _ _ _=>(kZ (@jA _ _ _ _ _ jR (@jA _ _ _ _ _ (pv 0) (@jA _ _ _ _ _ (pv 1) jB (by rfl)) (by rfl)) (by rfl))))))),?_⟩
 refine ⟨_,rfl,kd,x,dx,_,rfl,hx,KZ kd _ _ _ _ _,_,rfl,x,n,h₁,l,room,v,b,rfl,⟨dx,hx⟩,fun pl H1 rs s1 hpl0 hpl hP=>?_⟩
 have hplen:=tF kd room v b
 refine ⟨pl,rfl,⟨_,SqL.of hpl⟩,fun D hD=>?_⟩
 have u0:=jL hD (.lst [])
 refine QU (K:=K) (a:=pl) (xs:=rs) (fun i σ Hi=>∃(c1 c2:Option V) (ys:List V),σ=[c1,c2]∧Hi D=some (.lst ys)∧PoursS Hi ys ((yR kd room v b).take i |>.map (fun p=>("chamber",p.1,p.2)))∧Same H1 Hi)
  ⟨none,none,[],rfl,jF,PoursS.nil,u0⟩ (fun i σ Hi _ ⟨_,_,_,_,_,_,s⟩=>SqL.of (s _ _ hpl)) ?_ ?_
 ·rintro i y σ Hi hy ⟨c1,c2,ys,rfl,hY,hA,sm⟩
  have hi:i<rs.length:=(List.getElem?_eq_some_iff.mp hy).1
  obtain ⟨t,sN,nN,rfl,hps,hT⟩:=hP.2 i y hy
  have hl:ys.length≤i:=by rw [hA.1,List.length_map];exact List.length_take_le _ _
  refine ⟨t,_,rfl,SqT.of (sm _ _ hT),rfl,_,_,rfl,_,_,rfl,rfl,?_⟩
  refine vS (kU ?_)
  refine ⟨_,rfl,_,rfl,zz3,fun tp htp=>?_⟩
  have v1:∀o,Same Hi (upd Hi tp o):=fun o=>jL htp o
  refine ⟨ys,v1 _ _ _ hY,qP (by rw [hP.1] at hi;omega),_,_,ys++[.ref tp],rfl,jF,?_,qC hD (sm.trans (v1 _))⟩
  rw [lP hps]
  exact PoursS.keep ((Keep.refl D _).upd _) (v1 _ _ _ hY) ((hA.same (v1 _)).append (PoursS.one jF))
 ·rintro σ Hi ⟨c1,c2,ys,rfl,hY,hA,sm⟩
  rw [hP.1,List.take_length] at hA
  exact q D Hi ys (s1.trans sm) (s1.free hD) hY hA
theorem C5:FnScope ["vessel","pours"] ["vessel","pours"] (jE QN):=⟨rfl,rfl,rfl,by decide +kernel,rfl,by decide +kernel,by decide +kernel⟩
theorem A8 {f:Addr} {fd:FuncData} (F:Fun K "given_by" "given_by" QN f fd) (T:Txt K mg cP cB cU cR cN tkS eA eW eS eF eO eK eL tkH w cC dV dW aU aD) : FnOk P w K mg base jW 1 f fd ["vessel","pours"] (tW):=by
 refine F.ok C5 (fun vs H Q E h=>?_) (fun cdv A outer s H vs Q E hr h=>?_)
 ·obtain ⟨s₁,p,rs,qs,rfl,hP,hA,hn,q⟩:=h
  rfl
 obtain ⟨s₁,p,rs,qs,rfl,hP,hA,hn,q⟩:=h
 have hu:_<cLine:=hr.units0
 have hu1:=jV hr
 refine ⟨_,(@jH _ _ _ (@jS _ _ _ _ (qB (sB rfl) (by rfl) T.z_sum PyProof.Rows.boot_sum (jA (yB ["source","target","amount","vessel"] (qO 3 [0]) rfl (qW (jE QN) rfl rfl (by decide +kernel) (by decide +kernel) (by decide +kernel)) (qX 3 [0] rfl rfl (by decide +kernel)) (vK (pv 1)) (fun _ _ _ _ _=>(zV (n:=3) K rfl (kY (j8 (i:=0) (show List.Nodup (["source","target","amount","vessel"]:List Str) from by decide +kernel) rfl (by first|exact Or.inl rfl|exact Or.inr rfl)) (kY (j8 (i:=1) (show List.Nodup (["source","target","amount","vessel"]:List Str) from by decide +kernel) rfl (by first|exact Or.inl rfl|exact Or.inr rfl)) (kY (j8 (i:=2) (show List.Nodup (["source","target","amount","vessel"]:List Str) from by decide +kernel) rfl (by first|exact Or.inl rfl|exact Or.inr rfl)) yV))))) (fun _ _ _ _ _=>(fP (kC kK (pv 0) (pv 3) (j3 _)))) (fun _ _ _ _ _=>(pv 2))) jB)))),?_⟩
 refine ⟨_,rfl,p,rfl,⟨_,SqL.of hP⟩,fun D hD=>?_⟩
 have u0:=jL hD (.lst [])
 refine QU (K:=K) (a:=p) (xs:=rs) (fun i σ Hi=>∃(c1 c2 c3:Option V),σ=[c1,c2,c3,some (.str s₁)]∧Hi D=some (.lst ((vM (zT s₁) (qs.take i)).map V.int))∧Same H Hi)
  ⟨none,none,none,rfl,jF,u0⟩ (fun i σ Hi _ ⟨_,_,_,_,_,s⟩=>SqL.of (s _ _ hP)) ?_ ?_
 ·rintro i y σ Hi hy ⟨c1,c2,c3,rfl,hY,sm⟩
  have hi:i<rs.length:=(List.getElem?_eq_some_iff.mp hy).1
  obtain ⟨t,sS,sT,nN,rfl,hq,hT⟩:=hA.2 i y hy
  have hat:=rJ (zT s₁) qs i _ hq
  have hal:=sJ (zT s₁) qs i
  refine ⟨t,_,rfl,SqT.of (sm _ _ hT),rfl,_,_,rfl,_,_,rfl,_,_,rfl,rfl,?_⟩
  refine ⟨_,rfl,_,rfl,rfl,_,rfl,?_⟩
  rw [nH]
  by_cases c:(zT s₁) (sS,sT,nN)=true
  ·rw [if_pos c] at hat
   have c':=of_decide_eq_true c
   refine kT c' ⟨_,rfl,_,hY,qP (by rw [List.length_map];omega),_,_,_,rfl,?_,qC hD sm⟩
   rw [jF,hat,List.map_append]
   rfl
  ·rw [if_neg c,List.append_nil] at hat
   have c':¬_:=of_decide_eq_false (Bool.eq_false_iff.mpr c)
   refine kB c' ⟨_,_,_,rfl,?_,sm⟩
   rw [hY,hat]
 ·rintro σ Hi ⟨c1,c2,c3,rfl,hY,sm⟩
  rw [hA.1,List.take_length] at hY
  exact ⟨D,_,rfl,SqL.of hY,q Hi sm⟩
theorem pN:FnScope ["basin","pours","got"] ["basin","pours"] (jE QK):=⟨rfl,rfl,rfl,by decide +kernel,rfl,by decide +kernel,by decide +kernel⟩
theorem A3 {f:Addr} {fd:FuncData} (F:Fun K "basin_after" "basin_after" QK f fd) (T:Txt K mg cP cB cU cR cN tkS eA eW eS eF eO eK eL tkH w cC dV dW aU aD) (D_given_by:Def P w K mg base 1 "given_by" ["vessel","pours"] [] (tW)):FnOk P w K mg base jW 2 f fd ["basin","pours"] (tY):=by
 refine F.ok pN (fun vs H Q E h=>?_) (fun cdv A outer s H vs Q E hr h=>?_)
 ·obtain ⟨b,p,rs,qs,rfl,hP,hA,hn,q⟩:=h
  rfl
 obtain ⟨b,p,rs,qs,rfl,hP,hA,hn,q⟩:=h
 have hu:_<cLine:=hr.units0
 have hu1:=jV hr
 refine ⟨_,(@jG _ _ _ _ _ (jZ (i:=2) pN.nd rfl (by first|exact Or.inl rfl|exact Or.inr rfl) (qB (sB rfl) (by rfl) T.z_sum PyProof.Rows.boot_sum (jA (yB ["source","target","amount"] (qO 3 []) rfl (qW (jE QK) rfl rfl (by decide +kernel) (by decide +kernel) (by decide +kernel)) (qX 3 [] rfl rfl (by decide +kernel)) (vK (pv 1)) (fun _ _ _ _ _=>(zV (n:=3) K rfl (kY (j8 (i:=0) (show List.Nodup (["source","target","amount"]:List Str) from by decide +kernel) rfl (by first|exact Or.inl rfl|exact Or.inr rfl)) (kY (j8 (i:=1) (show List.Nodup (["source","target","amount"]:List Str) from by decide +kernel) rfl (by first|exact Or.inl rfl|exact Or.inr rfl)) (kY (j8 (i:=2) (show List.Nodup (["source","target","amount"]:List Str) from by decide +kernel) rfl (by first|exact Or.inl rfl|exact Or.inr rfl)) yV))))) (fun _ _ _ _ _=>(fP (kC kK (pv 1) jR (j3 _)))) (fun _ _ _ _ _=>(pv 2))) jB)))
   (@jH _ _ _ (@jS _ _ _ _ (@jJ _ _ _ _ _ _ _ _ yL (@jJ _ _ _ _ _ _ _ _ j7 (pv 0) (pv 2)) (jM D_given_by hr rfl (jA jR (jA (pv 1) jB))))))),?_⟩
 refine ⟨_,rfl,p,rfl,⟨_,SqL.of hP⟩,fun D hD=>?_⟩
 have u0:=jL hD (.lst [])
 refine QU (K:=K) (a:=p) (xs:=rs) (fun i σ Hi=>∃(c1 c2 c3:Option V),σ=[c1,c2,c3]∧Hi D=some (.lst ((vM (toS "basin") (qs.take i)).map V.int))∧Same H Hi)
  ⟨none,none,none,rfl,jF,u0⟩ (fun i σ Hi _ ⟨_,_,_,_,_,s⟩=>SqL.of (s _ _ hP)) ?_ ?_
 ·rintro i y σ Hi hy ⟨c1,c2,c3,rfl,hY,sm⟩
  have hi:i<rs.length:=(List.getElem?_eq_some_iff.mp hy).1
  obtain ⟨t,sS,sT,nN,rfl,hq,hT⟩:=hA.2 i y hy
  have hat:=rJ (toS "basin") qs i _ hq
  have hal:=sJ (toS "basin") qs i
  refine ⟨t,_,rfl,SqT.of (sm _ _ hT),rfl,_,_,rfl,_,_,rfl,_,_,rfl,rfl,?_⟩
  refine ⟨_,rfl,rfl,_,rfl,?_⟩
  rw [nH]
  by_cases c:(toS "basin") (sS,sT,nN)=true
  ·rw [if_pos c] at hat
   have c':=of_decide_eq_true c
   refine kT c' ⟨_,rfl,_,hY,qP (by rw [List.length_map];omega),_,_,_,rfl,?_,qC hD sm⟩
   rw [jF,hat,List.map_append]
   rfl
  ·rw [if_neg c,List.append_nil] at hat
   have c':¬_:=of_decide_eq_false (Bool.eq_false_iff.mpr c)
   refine kB c' ⟨_,_,_,rfl,?_,sm⟩
   rw [hY,hat]
 ·rintro σ Hi ⟨c1,c2,c3,rfl,hY,sm⟩
  rw [hA.1,List.take_length] at hY
  refine ⟨D,_,rfl,SqL.of hY,?_⟩
  refine ⟨_,rfl,_,rfl,j0 (⟨_,rfl,"basin",p,rs,qs,rfl,sm _ _ hP,hA.same sm,hn,fun H' s2=>⟨_,_,rfl,rfl,q H' (sm.trans s2)⟩⟩)⟩
theorem lJ:FnScope ["lock","full","basin","way","made_ready"] ["lock","full","basin","way"] (jE cE):=⟨rfl,rfl,rfl,by decide +kernel,rfl,by decide +kernel,by decide +kernel⟩
theorem BN {f:Addr} {fd:FuncData} (F:Fun K "passage" "passage" cE f fd) (T:Txt K mg cP cB cU cR cN tkS eA eW eS eF eO eK eL tkH w cC dV dW aU aD) (D_letting:Def P w K mg base 3 "letting" ["lock","basin"] [] (Q1 (jD cP cB cU) kP)) (D_filling:Def P w K mg base 3 "filling" ["lock","basin"] [] (Q1 (jD cP cB cU) kH)) (D_basin_after:Def P w K mg base 2 "basin_after" ["basin","pours"] [] (tY)):FnOk P w K mg base jW 4 f fd ["lock","full","basin","way"] (rP (jD cP cB cU)):=by
 refine F.ok lJ (fun vs H Q E h=>?_) (fun cdv A outer s H vs Q E hr h=>?_)
 ·obtain ⟨x,kd,n,h₁,l,room,v,b,f,w,rfl,hx,q⟩:=h
  rfl
 obtain ⟨x,kd,n,h₁,l,room,v,b,f,w,rfl,hx,q⟩:=h
 have hu:_<cLine:=hr.units0
 have hu1:=jV hr
 refine ⟨_,(@jG _ _ _ _ _ (kF (kC kK (pv 3) jR (j3 _)) (@jG _ _ _ _ _ (jZ (i:=4) lJ.nd rfl (by first|exact Or.inl rfl|exact Or.inr rfl) (zB (v6 (pv 1)) (jM D_letting hr rfl (jA (pv 0) (jA (pv 2) jB))) (qG jB)))
   (@jH _ _ _ (@jS _ _ _ _ (@jJ _ _ _ _ _ _ _ _ dY (pv 4) (jM D_filling hr rfl (jA (pv 0) (jA (jM D_basin_after hr rfl (jA (pv 2) (jA (pv 4) jB))) jB))))))) kR)
   (@jG _ _ _ _ _ (jZ (i:=4) lJ.nd rfl (by first|exact Or.inl rfl|exact Or.inr rfl) (zB (v6 (pv 1)) (qG jB) (jM D_filling hr rfl (jA (pv 0) (jA (pv 2) jB)))))
   (@jH _ _ _ (@jS _ _ _ _ (@jJ _ _ _ _ _ _ _ _ dY (pv 4) (jM D_letting hr rfl (jA (pv 0) (jA (jM D_basin_after hr rfl (jA (pv 2) (jA (pv 4) jB))) jB)))))))),?_⟩
 cases w with
 |true =>
  refine ⟨_,rfl,rfl,_,rfl,kT rfl ?_⟩
  cases f with
  |true =>
   refine ⟨_,rfl,_,rfl,kU ⟨_,rfl,_,rfl,x,kd,n,h₁,l,room,v,b,rfl,hx,fun m H1 rs s1 hm0 hm hA=>?_⟩⟩
   have hl:=JS kd room v b
   have hl2:=dH kd room v (vH b (kP kd room v b))
   refine ⟨_,rfl,_,rfl,_,rfl,_,rfl,b,m,rs,_,rfl,hm,hA,by rw [hA.1];omega,fun H2 s2=>?_⟩
   refine ⟨x,kd,n,h₁,l,room,v,_,rfl,(hx.same s1).same s2,fun z H3 rs3 s3 hz0 hz hA3=>?_⟩
   refine ⟨m,z,_,_,rfl,rfl,s3 _ _ (s2 _ _ hm),hz,small (by rw [hA.1,hA3.1];omega),fun y hy0=>?_⟩
   have s4:=jL hy0 (.lst (rs++rs3))
   exact q y _ (rs++rs3) (((s1.trans s2).trans s3).trans s4) (((s1.trans s2).trans s3).free hy0) jF ((((hA.same s2).same s3).append hA3).same s4)
  |false =>
   refine ⟨_,rfl,_,rfl,qI ⟨zz0,fun m hm0=>?_⟩⟩
   have s1:=jL hm0 (.lst [])
   have hm:upd H m (.lst []) m=some (.lst []):=jF
   generalize upd H m (.lst [])=H1 at s1 hm ⊢
   refine ⟨_,rfl,_,rfl,_,rfl,_,rfl,b,m,[],[],rfl,hm,PoursS.nil,by decide,fun H2 s2=>?_⟩
   rw [rK]
   refine ⟨x,kd,n,h₁,l,room,v,b,rfl,(hx.same s1).same s2,fun z H3 rs3 s3 hz0 hz hA3=>?_⟩
   refine ⟨m,z,_,_,rfl,rfl,s3 _ _ (s2 _ _ hm),hz,small (by rw [hA3.1];have:=dH kd room v b;have:=JS kd room v b;show 0+_≤1000;omega),fun y hy0=>?_⟩
   have s4:=jL hy0 (.lst ([]++rs3))
   exact q y _ rs3 (((s1.trans s2).trans s3).trans s4) (((s1.trans s2).trans s3).free hy0) jF (hA3.same s4)
 |false =>
  refine ⟨_,rfl,rfl,_,rfl,kB wG ?_⟩
  cases f with
  |false =>
   refine ⟨_,rfl,_,rfl,qI ⟨_,rfl,_,rfl,x,kd,n,h₁,l,room,v,b,rfl,hx,fun m H1 rs s1 hm0 hm hA=>?_⟩⟩
   have hl:=dH kd room v b
   have hl2:=JS kd room v (vH b (kH kd room v b))
   refine ⟨_,rfl,_,rfl,_,rfl,_,rfl,b,m,rs,_,rfl,hm,hA,by rw [hA.1];omega,fun H2 s2=>?_⟩
   refine ⟨x,kd,n,h₁,l,room,v,_,rfl,(hx.same s1).same s2,fun z H3 rs3 s3 hz0 hz hA3=>?_⟩
   refine ⟨m,z,_,_,rfl,rfl,s3 _ _ (s2 _ _ hm),hz,small (by rw [hA.1,hA3.1];omega),fun y hy0=>?_⟩
   have s4:=jL hy0 (.lst (rs++rs3))
   exact q y _ (rs++rs3) (((s1.trans s2).trans s3).trans s4) (((s1.trans s2).trans s3).free hy0) jF ((((hA.same s2).same s3).append hA3).same s4)
  |true =>
   refine ⟨_,rfl,_,rfl,kU ⟨zz0,fun m hm0=>?_⟩⟩
   have s1:=jL hm0 (.lst [])
   have hm:upd H m (.lst []) m=some (.lst []):=jF
   generalize upd H m (.lst [])=H1 at s1 hm ⊢
   refine ⟨_,rfl,_,rfl,_,rfl,_,rfl,b,m,[],[],rfl,hm,PoursS.nil,by decide,fun H2 s2=>?_⟩
   rw [rK]
   refine ⟨x,kd,n,h₁,l,room,v,b,rfl,(hx.same s1).same s2,fun z H3 rs3 s3 hz0 hz hA3=>?_⟩
   refine ⟨m,z,_,_,rfl,rfl,s3 _ _ (s2 _ _ hm),hz,small (by rw [hA3.1];have:=dH kd room v b;have:=JS kd room v b;show 0+_≤1000;omega),fun y hy0=>?_⟩
   have s4:=jL hy0 (.lst ([]++rs3))
   exact q y _ rs3 (((s1.trans s2).trans s3).trans s4) (((s1.trans s2).trans s3).free hy0) jF (hA3.same s4)
theorem CC:FnScope ["self","lock","waters","least"] ["self","lock","waters","least"] (jE ZT):=⟨rfl,rfl,rfl,by decide +kernel,rfl,by decide +kernel,by decide +kernel⟩
theorem xS {f:Addr} {fd:FuncData} (F:Fun K "__init__" "Chamber.__init__" ZT f fd) (T:Txt K mg cP cB cU cR cN tkS eA eW eS eF eO eK eL tkH w cC dV dW aU aD) : FnOk P w K mg base jW 1 f fd ["self","lock","waters","least"] (nL (jD cP cB cU) cC):=by
 refine F.ok CC (fun vs H Q E h=>?_) (fun cdv A outer s H vs Q E hr h=>?_)
 ·obtain ⟨x,dx,lk,wa,le,ws,kd,n,h₁,l,room,v,lh,ll,rfl,hx,hwa,hws,hle,hlk,hne,q⟩:=h
  rfl
 obtain ⟨x,dx,lk,wa,le,ws,kd,n,h₁,l,room,v,lh,ll,rfl,hx,hwa,hws,hle,hlk,hne,q⟩:=h
 have hu:_<cLine:=hr.units0
 have hu1:=jV hr
 refine ⟨_,(@jG _ _ _ _ _ (qM (pv 0) (pv 1) rfl)
   (@jG _ _ _ _ _ (qM (pv 0) (q8 JF (by rfl) T.z_tuple PyProof.Rows.boot_tuple (jA (pv 2) jB)) rfl)
   (@jG _ _ _ _ _ (qM (pv 0) (q8 JF (by rfl) T.z_tuple PyProof.Rows.boot_tuple (jA (pv 3) jB)) rfl)
   (@jG _ _ _ _ _ (qM (pv 0) jR rfl)
   (@jH _ _ _ (qM (pv 0) yM rfl)))))),?_⟩
 refine ⟨_,rfl,_,rfl,x,cC,dx,_,rfl,hx,T.clC,T.nC_lock,(by show 0<1000;decide),?_⟩
 have k1:Keep x H (upd H x (.ins cC dx (jK "lock" (.ref lk) []))):=(Keep.refl x H).upd _
 have nwa:wa≠x:=qV hwa hx (fun z=>nomatch z)
 have nle:le≠x:=qV hle hx (fun z=>nomatch z)
 refine ⟨_,rfl,wa,_,rfl,.inr ⟨SqT.of (k1 _ _ nwa hwa),?_⟩⟩
 refine ⟨_,rfl,x,cC,dx,_,rfl,jF,T.clC,T.nC_held,(by show 1<1000;decide),?_⟩
 have k2:=k1.upd (.ins cC dx (jK "held" (.ref wa) (jK "lock" (.ref lk) [])))
 have ln:∀(f:Str) (z:V) (fs:List (Str×V)) (m:Nat),fs.length≤m→(jK f z fs).length≤m+1:=fun f z fs m h=>Nat.le_trans (zK f z fs) (by omega)
 have l2:=ln "held" (.ref wa) (jK "lock" (.ref lk) []) 1 (Nat.le_refl _)
 refine ⟨_,rfl,le,_,rfl,.inr ⟨SqT.of (k2 _ _ nle hle),?_⟩⟩
 refine ⟨_,rfl,x,cC,dx,_,rfl,jF,T.clC,T.nC_least,by omega,?_⟩
 have l3:=ln "least" (.ref le) _ _ l2
 refine ⟨_,rfl,x,cC,dx,_,rfl,jF,T.clC,T.nC_open_side,by omega,?_⟩
 have l4:=ln "open_side" (.str "") _ _ l3
 refine ⟨_,rfl,x,cC,dx,_,rfl,jF,T.clC,T.nC_inside,by omega,?_⟩
 have kf:=((((k1.upd (.ins cC dx (jK "held" (.ref wa) (jK "lock" (.ref lk) [])))).upd (.ins cC dx (jK "least" (.ref le) (jK "held" (.ref wa) (jK "lock" (.ref lk) []))))).upd (.ins cC dx (jK "open_side" (.str "") (jK "least" (.ref le) (jK "held" (.ref wa) (jK "lock" (.ref lk) [])))))).upd (.ins cC dx (jK "inside" (.bl false) (jK "open_side" (.str "") (jK "least" (.ref le) (jK "held" (.ref wa) (jK "lock" (.ref lk) [])))))))
 obtain ⟨dl,hl⟩:=hlk
 refine q _ kf ⟨dx,wa,le,n,h₁,l,?_,kf _ _ nwa hwa,kf _ _ nle hle,⟨dl,kf _ _ hne hl⟩,hne,hws⟩
 rw [jF,IP]
 rfl
theorem CN:FnScope ["self"] ["self"] (jE Z6):=⟨rfl,rfl,rfl,by decide +kernel,rfl,by decide +kernel,by decide +kernel⟩
theorem AC {f:Addr} {fd:FuncData} (F:Fun K "waters" "Chamber.waters" Z6 f fd) (T:Txt K mg cP cB cU cR cN tkS eA eW eS eF eO eK eL tkH w cC dV dW aU aD) : FnOk P w K mg base jW 1 f fd ["self"] (JI (jD cP cB cU) cC nE):=by
 refine F.ok CN (fun vs H Q E h=>?_) (fun cdv A outer s H vs Q E hr h=>?_)
 ·obtain ⟨x,lk,S,rfl,⟨dx,hd,ls,n,h₁,l,hx,hhd,hls,hlk,hne,hlen⟩,q⟩:=h
  rfl
 obtain ⟨x,lk,S,rfl,⟨dx,hd,ls,n,h₁,l,hx,hhd,hls,hlk,hne,hlen⟩,q⟩:=h
 have hu:_<cLine:=hr.units0
 have hu1:=jV hr
 refine ⟨_,(@jH _ _ _ (@jS _ _ _ _ (jU (pv 0) rfl))),?_⟩
 exact ⟨_,rfl,jT hx (T.clC) (T.nC_held) (eD _ _ _ _ _) (q _ H (Same.refl _) ⟨hd,rfl,hhd⟩)⟩
theorem CH:FnScope ["self"] ["self"] (jE ZZ):=⟨rfl,rfl,rfl,by decide +kernel,rfl,by decide +kernel,by decide +kernel⟩
theorem xZ {f:Addr} {fd:FuncData} (F:Fun K "gates" "Chamber.gates" ZZ f fd) (T:Txt K mg cP cB cU cR cN tkS eA eW eS eF eO eK eL tkH w cC dV dW aU aD) : FnOk P w K mg base jW 1 f fd ["self"] (JI (jD cP cB cU) cC nR):=by
 refine F.ok CH (fun vs H Q E h=>?_) (fun cdv A outer s H vs Q E hr h=>?_)
 ·obtain ⟨x,lk,S,rfl,⟨dx,hd,ls,n,h₁,l,hx,hhd,hls,hlk,hne,hlen⟩,q⟩:=h
  rfl
 obtain ⟨x,lk,S,rfl,⟨dx,hd,ls,n,h₁,l,hx,hhd,hls,hlk,hne,hlen⟩,q⟩:=h
 have hu:_<cLine:=hr.units0
 have hu1:=jV hr
 refine ⟨_,(@jH _ _ _ (@jS _ _ _ _ (kZ (jA (yI kK (jU (pv 0) rfl) jR (j3 _)) (jA (yI kK (jU (pv 0) rfl) jR (j3 _)) jB))))),?_⟩
 refine ⟨_,rfl,jT hx (T.clC) (T.nC_open_side) (fB _ _ _ _ _) (⟨rfl,?_⟩)⟩
 rw [show decide (V.str (zS S.op)=V.str "high")=decide (S.op=some true) from iM S.op true]
 refine ⟨_,rfl,jT hx (T.clC) (T.nC_open_side) (fB _ _ _ _ _) (⟨rfl,?_⟩)⟩
 rw [show decide (V.str (zS S.op)=V.str "low")=decide (S.op=some false) from iM S.op false]
 exact ⟨zz2,fun t ht=>q _ _ (jL ht _) ⟨t,rfl,jF⟩⟩
theorem CD:FnScope ["self"] ["self"] (jE ZU):=⟨rfl,rfl,rfl,by decide +kernel,rfl,by decide +kernel,by decide +kernel⟩
theorem xU {f:Addr} {fd:FuncData} (F:Fun K "boat" "Chamber.boat" ZU f fd) (T:Txt K mg cP cB cU cR cN tkS eA eW eS eF eO eK eL tkH w cC dV dW aU aD) : FnOk P w K mg base jW 1 f fd ["self"] (JI (jD cP cB cU) cC oK):=by
 refine F.ok CD (fun vs H Q E h=>?_) (fun cdv A outer s H vs Q E hr h=>?_)
 ·obtain ⟨x,lk,S,rfl,⟨dx,hd,ls,n,h₁,l,hx,hhd,hls,hlk,hne,hlen⟩,q⟩:=h
  rfl
 obtain ⟨x,lk,S,rfl,⟨dx,hd,ls,n,h₁,l,hx,hhd,hls,hlk,hne,hlen⟩,q⟩:=h
 have hu:_<cLine:=hr.units0
 have hu1:=jV hr
 refine ⟨_,(@jH _ _ _ (@jS _ _ _ _ (jU (pv 0) rfl))),?_⟩
 exact ⟨_,rfl,jT hx (T.clC) (T.nC_inside) (nB _ _ _ _ _) (q _ H (Same.refl _) rfl)⟩
theorem pL:FnScope ["self","side","level"] ["self","side"] (jE Z5):=⟨rfl,rfl,rfl,by decide +kernel,rfl,by decide +kernel,by decide +kernel⟩
theorem AB {f:Addr} {fd:FuncData} (F:Fun K "stands_at" "Chamber.stands_at" Z5 f fd) (T:Txt K mg cP cB cU cR cN tkS eA eW eS eF eO eK eL tkH w cC dV dW aU aD) : FnOk P w K mg base jW 1 f fd ["self","side"] (fI (jD cP cB cU) cC):=by
 refine F.ok pL (fun vs H Q E h=>?_) (fun cdv A outer s H vs Q E hr h=>?_)
 ·obtain ⟨x,lk,S,sd,rfl,⟨dx,hd,ls,n,h₁,l,hx,hhd,hls,hlk,hne,hlen⟩,q⟩:=h
  rfl
 obtain ⟨x,lk,S,sd,rfl,⟨dx,hd,ls,n,h₁,l,hx,hhd,hls,hlk,hne,hlen⟩,q⟩:=h
 have hu:_<cLine:=hr.units0
 have hu1:=jV hr
 refine ⟨_,(@jG _ _ _ _ _ (jZ (i:=2) pL.nd rfl (by first|exact Or.inl rfl|exact Or.inr rfl) (zB (kC kK (pv 1) jR (j3 _)) (jU (jU (pv 0) rfl) rfl) jC))
   (@jH _ _ _ (@jS _ _ _ _ (yI kK (jI ix_tup (jU (pv 0) rfl) (JH (vQ (v:=.ref dV) rfl T.g_VESSELS rfl) jR (fun _ _=>rfl) (K:=K) (w:=w)) (fun _ _=>rfl)) (pv 2) (j3 _))))),?_⟩
 obtain ⟨dl,hl⟩:=hlk
 obtain ⟨tk2,tv_chamber⟩:=T.v_chamber
 have at2:kQ (S.w.map V.int) (2:Int)=some (.int (S.w.getD 2 0)):=qD (s:=2) (by omega)
 have e:∀a b:Int,decide (V.int a=V.int b)=decide (a=b):=fun a b=>decide_eq_decide.mpr ⟨V.int.inj,fun h=>by rw [h]⟩
 refine ⟨_,rfl,rfl,_,rfl,?_⟩
 rw [HD]
 cases sd with
 |true =>
  refine kU ⟨_,rfl,jT hx (T.clC) (T.nC_lock) (oJ _ _ _ _ _) (jT hl (T.cl S.kd) (T.n_room S.kd) (Q2 S.kd _ _ _ _ _) (?_))⟩
  refine ⟨_,rfl,jT hx (T.clC) (T.nC_held) (eD _ _ _ _ _) (⟨dV,"chamber",_,.int 2,rfl,T.topV,rfl,tv_chamber,⟨_,rfl⟩,jQ (SqT.of hhd) at2 (⟨_,rfl,rfl,?_⟩)⟩)⟩
  rw [e]
  exact q
 |false =>
  refine qI ?_
  refine ⟨_,rfl,jT hx (T.clC) (T.nC_held) (eD _ _ _ _ _) (⟨dV,"chamber",_,.int 2,rfl,T.topV,rfl,tv_chamber,⟨_,rfl⟩,jQ (SqT.of hhd) at2 (⟨_,rfl,rfl,?_⟩)⟩)⟩
  rw [e]
  exact q
theorem pK:FnScope ["self","pours","numbered"] ["self","pours"] (jE QI):=⟨rfl,rfl,rfl,by decide +kernel,rfl,by decide +kernel,by decide +kernel⟩
theorem xT {f:Addr} {fd:FuncData} (F:Fun K "after_pours" "Chamber.after_pours" QI f fd) (T:Txt K mg cP cB cU cR cN tkS eA eW eS eF eO eK eL tkH w cC dV dW aU aD) (D_poured_all:Def P w K mg base 1 "poured_all" ["waters","pours"] [] (fW K)):FnOk P w K mg base jW 2 f fd ["self","pours"] (gZ (jD cP cB cU) cC K):=by
 refine F.ok pK (fun vs H Q E h=>?_) (fun cdv A outer s H vs Q E hr h=>?_)
 ·obtain ⟨x,lk,p,S,rs,ps,rfl,⟨dx,hd,ls,n,h₁,l,hx,hhd,hls,hlk,hne,hlen⟩,hp,hA,hnm,hrl,q⟩:=h
  rfl
 obtain ⟨x,lk,p,S,rs,ps,rfl,⟨dx,hd,ls,n,h₁,l,hx,hhd,hls,hlk,hne,hlen⟩,hp,hA,hnm,hrl,q⟩:=h
 have hu:_<cLine:=hr.units0
 have hu1:=jV hr
 refine ⟨_,(@jG _ _ _ _ _ (QW (i:=2) ["source","target","amount"] (qO 3 []) pK.nd rfl (by first|exact Or.inl rfl|exact Or.inr rfl) rfl (qW (jE QI) rfl rfl (by decide +kernel) (by decide +kernel) (by decide +kernel)) (qX 3 [] rfl rfl (by decide +kernel)) (vK (pv 1)) (fun _ _ _ _ _=>(zV (n:=3) K rfl (kY (j8 (i:=0) (show List.Nodup (["source","target","amount"]:List Str) from by decide +kernel) rfl (by first|exact Or.inl rfl|exact Or.inr rfl)) (kY (j8 (i:=1) (show List.Nodup (["source","target","amount"]:List Str) from by decide +kernel) rfl (by first|exact Or.inl rfl|exact Or.inr rfl)) (kY (j8 (i:=2) (show List.Nodup (["source","target","amount"]:List Str) from by decide +kernel) rfl (by first|exact Or.inl rfl|exact Or.inr rfl)) yV))))) (fun _ _ _ _ _=>vP) (fun _ _ _ _ _=>(kZ (@jA _ _ _ _ _ (JH (vQ (v:=.ref dV) rfl T.g_VESSELS rfl) (pv 0) (fun _ _=>rfl) (K:=K) (w:=w)) (@jA _ _ _ _ _ (JH (vQ (v:=.ref dV) rfl T.g_VESSELS rfl) (pv 1) (fun _ _=>rfl) (K:=K) (w:=w)) (@jA _ _ _ _ _ (pv 2) jB (by rfl)) (by rfl)) (by rfl)))))
   (@jH _ _ _ (@jS _ _ _ _ (jM D_poured_all hr rfl (jA (jU (pv 0) rfl) (jA (pv 2) jB)))))),?_⟩
 refine ⟨_,rfl,p,rfl,⟨_,SqL.of hp⟩,fun D hD=>?_⟩
 have u0:=jL hD (.lst [])
 refine QU (K:=K) (a:=p) (xs:=rs) (fun i σ Hi=>∃(c1 c2 c3:Option V) (ys:List V),σ=[c1,c2,c3]∧Hi D=some (.lst ys)∧PoursAt K Hi ys ((ps.take i).map j5) 4∧Same H Hi)
  ⟨none,none,none,[],rfl,jF,⟨rfl,fun i r hi=>by cases hi⟩,u0⟩ (fun i σ Hi _ ⟨_,_,_,_,_,_,_,s⟩=>SqL.of (s _ _ hp)) ?_ ?_
 ·rintro i y σ Hi hy ⟨c1,c2,c3,ys,rfl,hY,hB,sm⟩
  have hi:i<rs.length:=(List.getElem?_eq_some_iff.mp hy).1
  obtain ⟨t,sS,sT,nN,rfl,hps,hT⟩:=hA.2 i y hy
  obtain ⟨hn1,hn2⟩:=hnm _ (List.mem_of_getElem? hps)
  obtain ⟨tkS,eS⟩:=T.v_at sS hn1
  obtain ⟨tkT,eT⟩:=T.v_at sT hn2
  have hl:ys.length≤i:=by rw [hB.1,List.length_map];exact List.length_take_le _ _
  refine ⟨t,_,rfl,SqT.of (sm _ _ hT),rfl,_,_,rfl,_,_,rfl,_,_,rfl,rfl,?_⟩
  refine vS (kU ?_)
  refine ⟨_,rfl,dV,sS,_,.int (vIx sS:Int),rfl,T.topV,rfl,eS,⟨_,rfl⟩,_,rfl,dV,sT,_,.int (vIx sT:Int),rfl,T.topV,rfl,eT,⟨_,rfl⟩,_,rfl,zz3,fun tp htp=>?_⟩
  have v1:∀o,Same Hi (upd Hi tp o):=fun o=>jL htp o
  refine ⟨ys,v1 _ _ _ hY,qP (by omega),_,_,_,ys++[.ref tp],rfl,jF,?_,qC hD (sm.trans (v1 _))⟩
  rw [lP hps]
  exact Keep.pours ((Keep.refl D _).upd _) (v1 _ _ _ hY) ((hB.same (v1 _)).snoc (SqT.of jF) (uJ sS) (uJ sT))
 ·rintro σ Hi ⟨c1,c2,c3,ys,rfl,hY,hB,sm⟩
  rw [hA.1,List.take_length] at hB
  refine ⟨_,rfl,jT ((sm _ _ hx)) (T.clC) (T.nC_held) (eD _ _ _ _ _) (⟨_,rfl,hd,D,S.w,ys,_,rfl,.inr (SqT.of (sm _ _ hhd)),SqL.of hY,by rw [hlen];exact hB,by omega,fun r H' s' hr0 hr=>?_⟩)⟩
  exact q r H' (sm.trans s') (sm.free hr0) hr
theorem CK:FnScope ["self"] ["self"] (jE Z2):=⟨rfl,rfl,rfl,by decide +kernel,rfl,by decide +kernel,by decide +kernel⟩
theorem x8 {f:Addr} {fd:FuncData} (F:Fun K "refuse_open_gate" "Chamber.refuse_open_gate" Z2 f fd) (T:Txt K mg cP cB cU cR cN tkS eA eW eS eF eO eK eL tkH w cC dV dW aU aD) : FnOk P w K mg base (qK P w) 1 f fd ["self"] (fF (jD cP cB cU) cC (kX eA eW eS eF eO eK)):=by
 refine F.okX CK (fun vs H Q E h=>?_) (fun cdv A outer s H vs Q E hr h=>?_)
 ·obtain ⟨x,lk,S,rfl,⟨dx,hd,ls,n,h₁,l,hx,hhd,hls,hlk,hne,hlen⟩,qe,q⟩:=h
  rfl
 obtain ⟨x,lk,S,rfl,⟨dx,hd,ls,n,h₁,l,hx,hhd,hls,hlk,hne,hlen⟩,qe,q⟩:=h
 have hu:_<cLine:=hr.units0
 have hu1:=jV hr
 refine ⟨_,(@jH _ _ _ (kF (kC zZ (jU (pv 0) rfl) jR (j3 _)) (@jH _ _ _ (zA y9 rfl rfl T.c_Against T.x_Against (jA jR jB))) kR)),?_⟩
 refine ⟨_,rfl,jT hx (T.clC) (T.nC_open_side) (fB _ _ _ _ _) (⟨rfl,_,rfl,?_⟩)⟩
 rw [IN]
 by_cases hop:S.op=none
 ·exact zO hop (q hop)
 ·exact z0 hop ⟨by show 1≤sizeLine;decide,qe hop⟩
theorem CL:FnScope ["self","side"] ["self","side"] (jE Z3):=⟨rfl,rfl,rfl,by decide +kernel,rfl,by decide +kernel,by decide +kernel⟩
theorem x9 {f:Addr} {fd:FuncData} (F:Fun K "refuse_shut_gate" "Chamber.refuse_shut_gate" Z3 f fd) (T:Txt K mg cP cB cU cR cN tkS eA eW eS eF eO eK eL tkH w cC dV dW aU aD) : FnOk P w K mg base (qK P w) 1 f fd ["self","side"] (fE (jD cP cB cU) cC (kX eA eW eS eF eO eK)):=by
 refine F.okX CL (fun vs H Q E h=>?_) (fun cdv A outer s H vs Q E hr h=>?_)
 ·obtain ⟨x,lk,S,sd,rfl,⟨dx,hd,ls,n,h₁,l,hx,hhd,hls,hlk,hne,hlen⟩,qe,q⟩:=h
  rfl
 obtain ⟨x,lk,S,sd,rfl,⟨dx,hd,ls,n,h₁,l,hx,hhd,hls,hlk,hne,hlen⟩,qe,q⟩:=h
 have hu:_<cLine:=hr.units0
 have hu1:=jV hr
 refine ⟨_,(@jH _ _ _ (kF (kC zZ (jU (pv 0) rfl) (pv 1) (j3 _)) (@jH _ _ _ (zA y9 rfl rfl T.c_NotNow T.x_NotNow (jA jR jB))) kR)),?_⟩
 refine ⟨_,rfl,jT hx (T.clC) (T.nC_open_side) (fB _ _ _ _ _) (⟨_,rfl,rfl,_,rfl,?_⟩)⟩
 rw [iM]
 by_cases hop:S.op=some sd
 ·exact zO hop (q hop)
 ·exact z0 hop ⟨by show 1≤sizeLine;decide,qe hop⟩
theorem CJ:FnScope ["self","side"] ["self","side"] (jE Z1):=⟨rfl,rfl,rfl,by decide +kernel,rfl,by decide +kernel,by decide +kernel⟩
theorem x6 {f:Addr} {fd:FuncData} (F:Fun K "open_gate" "Chamber.open_gate" Z1 f fd) (T:Txt K mg cP cB cU cR cN tkS eA eW eS eF eO eK eL tkH w cC dV dW aU aD) (MX_Chamber_refuse_open_gate:MeX P w K mg base 1 cC "refuse_open_gate" ["self"] (fF (jD cP cB cU) cC (kX eA eW eS eF eO eK))) (MM_Chamber_stands_at:MeD P w K mg base 1 cC "stands_at" ["self","side"] (fI (jD cP cB cU) cC)):FnOk P w K mg base (qK P w) 2 f fd ["self","side"] (zD (jD cP cB cU) cC (kX eA eW eS eF eO eK) Wd.opn):=by
 refine F.okX CJ (fun vs H Q E h=>?_) (fun cdv A outer s H vs Q E hr h=>?_)
 ·obtain ⟨x,lk,S,sd,rfl,hch,qe,q⟩:=h
  rfl
 obtain ⟨x,lk,S,sd,rfl,hch,qe,q⟩:=h
 have hu:_<cLine:=hr.units0
 have hu1:=jV hr
 refine ⟨_,(@jG _ _ _ _ _ (kF (kC kK (jU (pv 0) rfl) (pv 1) (j3 _)) (@jH _ _ _ (zA y9 rfl rfl T.c_NotNow T.x_NotNow (jA jR jB))) kR)
   (@jG _ _ _ _ _ (qL (fT MX_Chamber_refuse_open_gate yH hr (pv 0)))
   (@jG _ _ _ _ _ (kF (iI (v6 (yP MM_Chamber_stands_at hr (pv 0) (jA (pv 1) jB)))) (@jH _ _ _ (zA y9 rfl rfl T.c_Against T.x_Against (jA jR jB))) kR)
   (@jH _ _ _ (qM (pv 0) (pv 1) rfl))))),?_⟩
 have hch0:=hch
 obtain ⟨dx,hd,ls,n,h₁,l,hx,hhd,hls,hlk,hne,hlen⟩:=hch
 refine ⟨_,rfl,jT hx (T.clC) (T.nC_open_side) (fB _ _ _ _ _) (⟨_,rfl,rfl,_,rfl,?_⟩)⟩
 rw [iM]
 by_cases hop:S.op=some sd
 ·exact kT hop ⟨by show 1≤sizeLine;decide,qe .notNow (by show (if S.op=some sd then _ else _)=_;rw [if_pos hop]) H (Same.refl _)⟩
 refine kB hop ⟨_,rfl,x,dx,_,rfl,hx,lN _ _ _ _ _,x,lk,S,rfl,hch0,fun h0=>qe .against (by show (if S.op=some sd then _ else if ¬S.op=none then _ else _)=_;rw [if_neg hop,if_pos h0]) H (Same.refl _),fun h0=>?_⟩
 refine ⟨_,rfl,x,dx,_,rfl,hx,mD _ _ _ _ _,_,rfl,x,lk,S,sd,rfl,hch0,_,rfl,?_⟩
 have e0:∀c,kW S (.opn sd)=c↔(if ¬S.w.getD 2 0=ZF S sd then (.inl .against:Sum Er CSt) else .inr {S with op:=some sd})=c:=fun c=>by
  show (if S.op=some sd then _ else if ¬S.op=none then _ else _)=c↔_
  rw [if_neg hop,if_neg (fun z=>z h0)]
 by_cases hs:S.w.getD 2 0=ZF S sd
 ·refine zO hs ?_
  refine ⟨_,rfl,_,rfl,x,cC,dx,_,rfl,hx,T.clC,T.nC_open_side,(by show 5<1000;decide),?_⟩
  have kp:=(Keep.refl x H).upd (.ins cC dx (jK "open_side" (.str (yY sd)) (kD (.ref lk) (.ref hd) (.ref ls) (.str (zS S.op)) (.bl S.ins))))
  refine q _ ((e0 _).mpr (if_neg (fun z=>z hs))) _ kp ⟨dx,hd,ls,n,h₁,l,by rw [jF,uH];rfl,kp _ _ (qV hhd hx (fun z=>nomatch z)) hhd,kp _ _ (qV hls hx (fun z=>nomatch z)) hls,?_,hne,hlen⟩
  obtain ⟨dl,hl⟩:=hlk
  exact ⟨dl,kp _ _ hne hl⟩
 ·exact z0 hs ⟨by show 1≤sizeLine;decide,qe .against ((e0 _).mpr (if_pos hs)) H (Same.refl _)⟩
theorem CM:FnScope ["self","side"] ["self","side"] (jE Z4):=⟨rfl,rfl,rfl,by decide +kernel,rfl,by decide +kernel,by decide +kernel⟩
theorem AA {f:Addr} {fd:FuncData} (F:Fun K "shut_gate" "Chamber.shut_gate" Z4 f fd) (T:Txt K mg cP cB cU cR cN tkS eA eW eS eF eO eK eL tkH w cC dV dW aU aD) (MX_Chamber_refuse_shut_gate:MeX P w K mg base 1 cC "refuse_shut_gate" ["self","side"] (fE (jD cP cB cU) cC (kX eA eW eS eF eO eK))):FnOk P w K mg base (qK P w) 2 f fd ["self","side"] (zD (jD cP cB cU) cC (kX eA eW eS eF eO eK) Wd.sht):=by
 refine F.okX CM (fun vs H Q E h=>?_) (fun cdv A outer s H vs Q E hr h=>?_)
 ·obtain ⟨x,lk,S,sd,rfl,hch,qe,q⟩:=h
  rfl
 obtain ⟨x,lk,S,sd,rfl,hch,qe,q⟩:=h
 have hu:_<cLine:=hr.units0
 have hu1:=jV hr
 refine ⟨_,(@jG _ _ _ _ _ (qL (J8 MX_Chamber_refuse_shut_gate yH hr (pv 0) (jA (pv 1) jB)))
   (@jH _ _ _ (qM (pv 0) jR rfl))),?_⟩
 have hch0:=hch
 obtain ⟨dx,hd,ls,n,h₁,l,hx,hhd,hls,hlk,hne,hlen⟩:=hch
 refine ⟨_,rfl,x,dx,_,rfl,hx,lM _ _ _ _ _,_,rfl,x,lk,S,sd,rfl,hch0,fun h0=>qe .notNow (by show (if S.op=some sd then _ else _)=_;rw [if_neg h0]) H (Same.refl _),fun h0=>?_⟩
 ·refine ⟨_,rfl,x,cC,dx,_,rfl,hx,T.clC,T.nC_open_side,(by show 5<1000;decide),?_⟩
  have kp:=(Keep.refl x H).upd (.ins cC dx (jK "open_side" (.str "") (kD (.ref lk) (.ref hd) (.ref ls) (.str (zS S.op)) (.bl S.ins))))
  refine q {S with op:=none} (by show (if S.op=some sd then _ else _)=_;rw [if_pos h0]) _ kp ⟨dx,hd,ls,n,h₁,l,by rw [jF,uH];rfl,kp _ _ (qV hhd hx (fun z=>nomatch z)) hhd,kp _ _ (qV hls hx (fun z=>nomatch z)) hls,?_,hne,hlen⟩
  obtain ⟨dl,hl⟩:=hlk
  exact ⟨dl,kp _ _ hne hl⟩
theorem cY:FnScope ["self","pours","behind","source","target","amount"] ["self"] (jE ZY):=⟨rfl,rfl,rfl,by decide +kernel,rfl,by decide +kernel,by decide +kernel⟩
theorem xY {f:Addr} {fd:FuncData} (F:Fun K "fill_chamber" "Chamber.fill_chamber" ZY f fd) (T:Txt K mg cP cB cU cR cN tkS eA eW eS eF eO eK eL tkH w cC dV dW aU aD) (MX_Chamber_refuse_open_gate:MeX P w K mg base 1 cC "refuse_open_gate" ["self"] (fF (jD cP cB cU) cC (kX eA eW eS eF eO eK))) (MM_Chamber_stands_at:MeD P w K mg base 1 cC "stands_at" ["self","side"] (fI (jD cP cB cU) cC)) (D_filling:Def P w K mg base 3 "filling" ["lock","basin"] [] (Q1 (jD cP cB cU) kH)) (MM_Chamber_after_pours:MeD P w K mg base 2 cC "after_pours" ["self","pours"] (gZ (jD cP cB cU) cC K)):FnOk P w K mg base (qK P w) 5 f fd ["self"] (dI (jD cP cB cU) cC (kX eA eW eS eF eO eK) Wd.fil):=by
 refine F.okX cY (fun vs H Q E h=>?_) (fun cdv A outer s H vs Q E hr h=>?_)
 ·obtain ⟨x,lk,S,rfl,hch,qe,q⟩:=h
  rfl
 obtain ⟨x,lk,S,rfl,hch,qe,q⟩:=h
 have hu:_<cLine:=hr.units0
 have hu1:=jV hr
 refine ⟨_,(@jG _ _ _ _ _ (qL (fT MX_Chamber_refuse_open_gate yH hr (pv 0)))
   (@jG _ _ _ _ _ (kF (v6 (yP MM_Chamber_stands_at hr (pv 0) (jA jR jB))) (@jH _ _ _ (zA y9 rfl rfl T.c_NotNow T.x_NotNow (jA jR jB))) kR)
   (@jG _ _ _ _ _ (jZ (i:=1) cY.nd rfl (by first|exact Or.inl rfl|exact Or.inr rfl) (jM D_filling hr rfl (jA (jU (pv 0) rfl) (jA (jI ix_tup (jU (pv 0) rfl) (JH (vQ (v:=.ref dV) rfl T.g_VESSELS rfl) jR (fun _ _=>rfl) (K:=K) (w:=w)) (fun _ _=>rfl)) jB))))
   (@jG _ _ _ _ _ (jZ (i:=2) cY.nd rfl (by first|exact Or.inl rfl|exact Or.inr rfl) (yP MM_Chamber_after_pours hr (pv 0) (jA (pv 1) jB)))
   (@jG _ _ _ _ _ (yK oI rfl (vK (pv 1)) (iJ rfl (kY (j8 (i:=3) cY.nd rfl (by first|exact Or.inl rfl|exact Or.inr rfl)) (kY (j8 (i:=4) cY.nd rfl (by first|exact Or.inl rfl|exact Or.inr rfl)) (kY (j8 (i:=5) cY.nd rfl (by first|exact Or.inl rfl|exact Or.inr rfl)) yV))))
    (@jH _ _ _ (kF (PW.pt (uT (kC zZ (pv 3) jR (j3 _)) (tZ (kC iS (jI ix_tup (pv 2) (JH (vQ (v:=.ref dV) rfl T.g_VESSELS rfl) (pv 3) (fun _ _=>rfl) (K:=K) (w:=w)) (fun _ _=>rfl)) (jI ix_tup (jU (pv 0) rfl) (JH (vQ (v:=.ref dV) rfl T.g_VESSELS rfl) (pv 3) (fun _ _=>rfl) (K:=K) (w:=w)) (fun _ _=>rfl)) (j3 _))))) (@jH _ _ _ (zA y9 rfl rfl T.c_Short T.x_Short (jA jR jB))) kR)))
   (@jH _ _ _ (qM (pv 0) (pv 2) rfl))))))),?_⟩
 have hch0:=hch
 obtain ⟨dx,hd,ls,n,h₁,l,hx,hhd,hls,hlk,hne,hlen⟩:=hch
 refine ⟨_,rfl,x,dx,_,rfl,hx,lN _ _ _ _ _,x,lk,S,rfl,hch0,fun h0=>qe .against (by show (if ¬S.op=none then _ else _)=_;rw [if_pos h0]) H (Same.refl _),fun h0=>?_⟩
 obtain ⟨tk3,tv_basin⟩:=T.v_basin
 have at3:kQ (S.w.map V.int) (3:Int)=some (.int (S.w.getD 3 0)):=qD (s:=3) (by omega)
 refine ⟨_,rfl,x,dx,_,rfl,hx,mD _ _ _ _ _,x,lk,S,true,rfl,hch0,_,rfl,?_⟩
 by_cases hs:S.w.getD 2 0=S.room
 ·refine kT hs ⟨by show 1≤sizeLine;decide,qe .notNow (by show (if ¬S.op=none then _ else if S.w.getD 2 0=S.room then _ else _)=_;rw [if_neg (fun z=>z h0),if_pos hs]) H (Same.refl _)⟩
 refine kB hs ?_
 have e0:kW S .fil=if v5 S=true then .inl .short else .inr {S with w:=kS S}:=by show (if ¬S.op=none then _ else if S.w.getD 2 0=S.room then _ else _)=_;rw [if_neg (fun z=>z h0),if_neg hs]
 have hnm:=dG S.kd S.room S.v (S.w.getD 3 0)
 have hpl2:=dH S.kd S.room S.v (S.w.getD 3 0)
 refine ⟨_,rfl,jT hx (T.clC) (T.nC_lock) (oJ _ _ _ _ _) (⟨_,rfl,jT hx (T.clC) (T.nC_held) (eD _ _ _ _ _) (⟨dV,"basin",_,.int 3,rfl,T.topV,rfl,tv_basin,⟨_,rfl⟩,jQ (SqT.of hhd) at3 (⟨lk,S.kd,n,h₁,l,S.room,S.v,S.w.getD 3 0,rfl,hlk,fun pl H1 rs s1 hpl0 hpl hA=>?_⟩)⟩)⟩)⟩
 refine ⟨_,rfl,x,dx,_,rfl,(s1 _ _ hx),pT _ _ _ _ _,_,rfl,x,lk,pl,S,rs,_,rfl,hch0.same s1,hpl,hA,fun q hq=>⟨by rcases (hnm q hq).1 with h|h|h;exact .inl h;exact .inr (.inl h);exact .inr (.inr (.inr h)),.inr (.inr (.inl (hnm q hq).2))⟩,by rw [hA.1];omega,fun bh H2 s2 hbh0 hbh=>?_⟩
 have s12:=s1.trans s2
 have hfl:(kS S).length=4:=by unfold kS;rw [JE];exact hlen
 refine ⟨_,rfl,pl,rfl,⟨_,SqL.of (s2 _ _ hpl)⟩,dM (K:=K) (a:=pl) (xs:=rs) (fun i σ Hi=>∃c3 c4 c5:Option V,σ=[some (.ref x),some (.ref pl),some (.ref bh),c3,c4,c5]∧(∀q∈(kH S.kd S.room S.v (S.w.getD 3 0)).take i,Q4 S q=false)∧H2=Hi)
  ⟨none,none,none,rfl,(fun q hq=>by cases hq),rfl⟩ (fun i σ Hi _ ⟨_,_,_,_,_,e⟩=>by rw [← e];exact SqL.of (s2 _ _ hpl)) ?_ ?_⟩
 ·rintro i y σ Hi hy ⟨c3,c4,c5,rfl,hno,rfl⟩
  obtain ⟨t,sS,sT,nN,rfl,hps,hT⟩:=hA.2 i y hy
  obtain ⟨hn1,hn2⟩:=hnm _ (List.mem_of_getElem? hps)
  have hmem:(sS,sT,nN)∈kH S.kd S.room S.v (S.w.getD 3 0):=List.mem_of_getElem? hps
  have hsnoc:Q4 S (sS,sT,nN)=false→∀q∈(kH S.kd S.room S.v (S.w.getD 3 0)).take (i+1),Q4 S q=false:=fun hz q hq=>by
   rw [List.take_add_one,hps] at hq
   rcases List.mem_append.mp hq with hq|hq
   ·exact hno q hq
   ·cases List.mem_singleton.mp hq
    exact hz
  refine ⟨t,_,rfl,SqT.of (s2 _ _ hT),rfl,_,_,rfl,_,_,rfl,_,_,rfl,rfl,?_⟩
  refine ⟨_,rfl,rfl,_,rfl,?_⟩
  rw [nH]
  by_cases hb:sS="basin"
  ·exact zO hb (qI ⟨_,_,_,rfl,hsnoc (by unfold Q4;rw [decide_eq_false (fun z=>z hb)];rfl),rfl⟩)
  have hn3:sS="high"∨sS="low":=by rcases hn1 with h|h|h;exact .inl h;exact .inr h;exact absurd h hb
  have hv:vIx sS<2:=by rcases hn3 with h|h;rw [h,zF];decide;rw [h,yX];decide
  obtain ⟨tkS,eS⟩:=T.v_at sS (by rcases hn3 with h|h;exact .inl h;exact .inr (.inl h))
  have ha1:kQ ((kS S).map V.int) (vIx sS:Int)=some (.int ((kS S).getD (vIx sS) 0)):=qD (by omega)
  have ha2:kQ [V.int S.lh,V.int S.ll] (vIx sS:Int)=some (.int ([S.lh,S.ll].getD (vIx sS) 0)):=qD (ws:=[S.lh,S.ll]) hv
  refine z0 hb ⟨_,rfl,_,rfl,dV,sS,_,.int (vIx sS:Int),rfl,T.topV,rfl,eS,⟨_,rfl⟩,jQ (SqT.of hbh) ha1 (⟨_,rfl,jT ((s12 _ _ hx)) (T.clC) (T.nC_least) (IC _ _ _ _ _) (⟨_,rfl,dV,sS,_,.int (vIx sS:Int),rfl,T.topV,rfl,eS,⟨_,rfl⟩,jQ (SqT.of (s12 _ _ hls)) ha2 (j0 (⟨_,rfl,?_⟩))⟩)⟩)⟩
  by_cases hlt:(kS S).getD (vIx sS) 0<[S.lh,S.ll].getD (vIx sS) 0
  ·have hsh:v5 S=true:=List.any_eq_true.mpr ⟨_,hmem,by unfold Q4;rw [decide_eq_true hb,decide_eq_true hlt];rfl⟩
   rw [if_pos hsh] at e0
   exact kT hlt ⟨by show 1≤sizeLine;decide,qe .short e0 H2 s12⟩
  ·exact kB hlt ⟨_,_,_,rfl,hsnoc (by unfold Q4;rw [decide_eq_false hlt,Bool.and_false]),rfl⟩
 ·rintro σ Hi ⟨c3,c4,c5,rfl,hno,rfl⟩
  rw [hA.1,List.take_length] at hno
  have hsh:¬v5 S=true:=fun hz=>by
   obtain ⟨q',hq',hz'⟩:=List.any_eq_true.mp hz
   rw [hno q' hq'] at hz'
   cases hz'
  rw [if_neg hsh] at e0
  have hx2:=s12 _ _ hx
  refine ⟨_,rfl,_,rfl,x,cC,dx,_,rfl,hx2,T.clC,T.nC_held,(by show 5<1000;decide),?_⟩
  have kp:=(Keep.of s12:Keep x H H2).upd (.ins cC dx (jK "held" (.ref bh) (kD (.ref lk) (.ref hd) (.ref ls) (.str (zS S.op)) (.bl S.ins))))
  have nbh:bh≠x:=(qF (s1 _ _ hx) hbh0).symm
  refine q _ e0 _ kp ⟨dx,bh,ls,n,h₁,l,by rw [jF,uI],by rw [j4 nbh];exact hbh,kp _ _ (qV hls hx (fun z=>nomatch z)) hls,?_,hne,hfl⟩
  obtain ⟨dl,hl⟩:=hlk
  exact ⟨dl,kp _ _ hne hl⟩
theorem CI:FnScope ["self"] ["self"] (jE Z0):=⟨rfl,rfl,rfl,by decide +kernel,rfl,by decide +kernel,by decide +kernel⟩
theorem x0 {f:Addr} {fd:FuncData} (F:Fun K "let_chamber" "Chamber.let_chamber" Z0 f fd) (T:Txt K mg cP cB cU cR cN tkS eA eW eS eF eO eK eL tkH w cC dV dW aU aD) (MX_Chamber_refuse_open_gate:MeX P w K mg base 1 cC "refuse_open_gate" ["self"] (fF (jD cP cB cU) cC (kX eA eW eS eF eO eK))) (MM_Chamber_stands_at:MeD P w K mg base 1 cC "stands_at" ["self","side"] (fI (jD cP cB cU) cC)) (MM_Chamber_after_pours:MeD P w K mg base 2 cC "after_pours" ["self","pours"] (gZ (jD cP cB cU) cC K)) (D_letting:Def P w K mg base 3 "letting" ["lock","basin"] [] (Q1 (jD cP cB cU) kP)):FnOk P w K mg base (qK P w) 5 f fd ["self"] (dI (jD cP cB cU) cC (kX eA eW eS eF eO eK) Wd.lt):=by
 refine F.okX CI (fun vs H Q E h=>?_) (fun cdv A outer s H vs Q E hr h=>?_)
 ·obtain ⟨x,lk,S,rfl,hch,qe,q⟩:=h
  rfl
 obtain ⟨x,lk,S,rfl,hch,qe,q⟩:=h
 have hu:_<cLine:=hr.units0
 have hu1:=jV hr
 refine ⟨_,(@jG _ _ _ _ _ (qL (fT MX_Chamber_refuse_open_gate yH hr (pv 0)))
   (@jG _ _ _ _ _ (kF (v6 (yP MM_Chamber_stands_at hr (pv 0) (jA jR jB))) (@jH _ _ _ (zA y9 rfl rfl T.c_NotNow T.x_NotNow (jA jR jB))) kR)
   (@jH _ _ _ (qM (pv 0) (yP MM_Chamber_after_pours hr (pv 0) (jA (jM D_letting hr rfl (jA (jU (pv 0) rfl) (jA (jI ix_tup (jU (pv 0) rfl) (JH (vQ (v:=.ref dV) rfl T.g_VESSELS rfl) jR (fun _ _=>rfl) (K:=K) (w:=w)) (fun _ _=>rfl)) jB))) jB)) rfl)))),?_⟩
 have hch0:=hch
 obtain ⟨dx,hd,ls,n,h₁,l,hx,hhd,hls,hlk,hne,hlen⟩:=hch
 refine ⟨_,rfl,x,dx,_,rfl,hx,lN _ _ _ _ _,x,lk,S,rfl,hch0,fun h0=>qe .against (by show (if ¬S.op=none then _ else _)=_;rw [if_pos h0]) H (Same.refl _),fun h0=>?_⟩
 obtain ⟨tk3,tv_basin⟩:=T.v_basin
 have at3:kQ (S.w.map V.int) (3:Int)=some (.int (S.w.getD 3 0)):=qD (s:=3) (by omega)
 refine ⟨_,rfl,x,dx,_,rfl,hx,mD _ _ _ _ _,x,lk,S,false,rfl,hch0,_,rfl,?_⟩
 by_cases hs:S.w.getD 2 0=0
 ·refine kT hs ⟨by show 1≤sizeLine;decide,qe .notNow (by show (if ¬S.op=none then _ else if S.w.getD 2 0=0 then _ else _)=_;rw [if_neg (fun z=>z h0),if_pos hs]) H (Same.refl _)⟩
 refine kB hs ?_
 have e0:kW S .lt=.inr {S with w:=kO S}:=by show (if ¬S.op=none then _ else if S.w.getD 2 0=0 then _ else _)=_;rw [if_neg (fun z=>z h0),if_neg hs]
 have hnm:=FO S.kd S.room S.v (S.w.getD 3 0)
 have hpl2:=JS S.kd S.room S.v (S.w.getD 3 0)
 have hfl:(kO S).length=4:=by unfold kO;rw [JE];exact hlen
 refine ⟨_,rfl,x,dx,_,rfl,hx,pT _ _ _ _ _,_,rfl,jT hx (T.clC) (T.nC_lock) (oJ _ _ _ _ _) (⟨_,rfl,jT hx (T.clC) (T.nC_held) (eD _ _ _ _ _) (⟨dV,"basin",_,.int 3,rfl,T.topV,rfl,tv_basin,⟨_,rfl⟩,jQ (SqT.of hhd) at3 (⟨lk,S.kd,n,h₁,l,S.room,S.v,S.w.getD 3 0,rfl,hlk,fun pl H1 rs s1 hpl0 hpl hA=>?_⟩)⟩)⟩)⟩
 refine ⟨x,lk,pl,S,rs,_,rfl,hch0.same s1,hpl,hA,fun q hq=>⟨.inr (.inr (.inl (hnm q hq).1)),by rcases (hnm q hq).2 with h|h;exact .inr (.inl h);exact .inr (.inr (.inr h))⟩,by rw [hA.1];omega,fun bh H2 s2 hbh0 hbh=>?_⟩
 have s12:=s1.trans s2
 have hx2:=s12 _ _ hx
 refine ⟨_,rfl,x,cC,dx,_,rfl,hx2,T.clC,T.nC_held,(by show 5<1000;decide),?_⟩
 have kp:=(Keep.of s12:Keep x H H2).upd (.ins cC dx (jK "held" (.ref bh) (kD (.ref lk) (.ref hd) (.ref ls) (.str (zS S.op)) (.bl S.ins))))
 have nbh:bh≠x:=(qF (s1 _ _ hx) hbh0).symm
 refine q _ e0 _ kp ⟨dx,bh,ls,n,h₁,l,by rw [jF,uI],by rw [j4 nbh];exact hbh,kp _ _ (qV hls hx (fun z=>nomatch z)) hls,?_,hne,hfl⟩
 obtain ⟨dl,hl⟩:=hlk
 exact ⟨dl,kp _ _ hne hl⟩
theorem CF:FnScope ["self","side"] ["self","side"] (jE ZV):=⟨rfl,rfl,rfl,by decide +kernel,rfl,by decide +kernel,by decide +kernel⟩
theorem xV {f:Addr} {fd:FuncData} (F:Fun K "boat_in" "Chamber.boat_in" ZV f fd) (T:Txt K mg cP cB cU cR cN tkS eA eW eS eF eO eK eL tkH w cC dV dW aU aD) (MX_Chamber_refuse_shut_gate:MeX P w K mg base 1 cC "refuse_shut_gate" ["self","side"] (fE (jD cP cB cU) cC (kX eA eW eS eF eO eK))):FnOk P w K mg base (qK P w) 2 f fd ["self","side"] (zD (jD cP cB cU) cC (kX eA eW eS eF eO eK) Wd.bin):=by
 refine F.okX CF (fun vs H Q E h=>?_) (fun cdv A outer s H vs Q E hr h=>?_)
 ·obtain ⟨x,lk,S,sd,rfl,hch,qe,q⟩:=h
  rfl
 obtain ⟨x,lk,S,sd,rfl,hch,qe,q⟩:=h
 have hu:_<cLine:=hr.units0
 have hu1:=jV hr
 refine ⟨_,(@jG _ _ _ _ _ (qL (J8 MX_Chamber_refuse_shut_gate yH hr (pv 0) (jA (pv 1) jB)))
   (@jG _ _ _ _ _ (kF (v6 (jU (pv 0) rfl)) (@jH _ _ _ (zA y9 rfl rfl T.c_Full T.x_Full (jA jR jB))) kR)
   (@jH _ _ _ (qM (pv 0) yM rfl)))),?_⟩
 have hch0:=hch
 obtain ⟨dx,hd,ls,n,h₁,l,hx,hhd,hls,hlk,hne,hlen⟩:=hch
 refine ⟨_,rfl,x,dx,_,rfl,hx,lM _ _ _ _ _,_,rfl,x,lk,S,sd,rfl,hch0,fun h0=>qe .notNow (by show (if S.op=some sd then _ else _)=_;rw [if_neg h0]) H (Same.refl _),fun h0=>?_⟩
 refine ⟨_,rfl,jT hx (T.clC) (T.nC_inside) (nB _ _ _ _ _) (⟨_,rfl,?_⟩)⟩
 have e0:kW S (.bin sd)=if S.ins=true then .inl .full else .inr {S with ins:=true}:=by show (if S.op=some sd then _ else _)=_;rw [if_pos h0]
 by_cases hi:S.ins=true
 ·rw [if_pos hi] at e0
  rw [hi]
  exact kU ⟨by show 1≤sizeLine;decide,qe .full e0 H (Same.refl _)⟩
 ·rw [if_neg hi] at e0
  rw [Bool.eq_false_iff.mpr hi]
  refine qI ?_
  refine ⟨_,rfl,x,cC,dx,_,rfl,hx,T.clC,T.nC_inside,(by show 5<1000;decide),?_⟩
  have kp:=(Keep.refl x H).upd (.ins cC dx (jK "inside" (.bl true) (kD (.ref lk) (.ref hd) (.ref ls) (.str (zS S.op)) (.bl S.ins))))
  refine q {S with ins:=true} e0 _ kp ⟨dx,hd,ls,n,h₁,l,by rw [jF,wA],kp _ _ (qV hhd hx (fun z=>nomatch z)) hhd,kp _ _ (qV hls hx (fun z=>nomatch z)) hls,?_,hne,hlen⟩
  obtain ⟨dl,hl⟩:=hlk
  exact ⟨dl,kp _ _ hne hl⟩
theorem CG:FnScope ["self","side"] ["self","side"] (jE ZW):=⟨rfl,rfl,rfl,by decide +kernel,rfl,by decide +kernel,by decide +kernel⟩
theorem xW {f:Addr} {fd:FuncData} (F:Fun K "boat_out" "Chamber.boat_out" ZW f fd) (T:Txt K mg cP cB cU cR cN tkS eA eW eS eF eO eK eL tkH w cC dV dW aU aD) (MX_Chamber_refuse_shut_gate:MeX P w K mg base 1 cC "refuse_shut_gate" ["self","side"] (fE (jD cP cB cU) cC (kX eA eW eS eF eO eK))):FnOk P w K mg base (qK P w) 2 f fd ["self","side"] (zD (jD cP cB cU) cC (kX eA eW eS eF eO eK) Wd.bout):=by
 refine F.okX CG (fun vs H Q E h=>?_) (fun cdv A outer s H vs Q E hr h=>?_)
 ·obtain ⟨x,lk,S,sd,rfl,hch,qe,q⟩:=h
  rfl
 obtain ⟨x,lk,S,sd,rfl,hch,qe,q⟩:=h
 have hu:_<cLine:=hr.units0
 have hu1:=jV hr
 refine ⟨_,(@jG _ _ _ _ _ (qL (J8 MX_Chamber_refuse_shut_gate yH hr (pv 0) (jA (pv 1) jB)))
   (@jG _ _ _ _ _ (kF (iI (v6 (jU (pv 0) rfl))) (@jH _ _ _ (zA y9 rfl rfl T.c_NoBoat T.x_NoBoat (jA jR jB))) kR)
   (@jH _ _ _ (qM (pv 0) yM rfl)))),?_⟩
 have hch0:=hch
 obtain ⟨dx,hd,ls,n,h₁,l,hx,hhd,hls,hlk,hne,hlen⟩:=hch
 refine ⟨_,rfl,x,dx,_,rfl,hx,lM _ _ _ _ _,_,rfl,x,lk,S,sd,rfl,hch0,fun h0=>qe .notNow (by show (if S.op=some sd then _ else _)=_;rw [if_neg h0]) H (Same.refl _),fun h0=>?_⟩
 refine ⟨_,rfl,jT hx (T.clC) (T.nC_inside) (nB _ _ _ _ _) (⟨_,rfl,?_⟩)⟩
 have e0:kW S (.bout sd)=if S.ins=true then .inr {S with ins:=false} else .inl .noBoat:=by show (if S.op=some sd then _ else _)=_;rw [if_pos h0]
 by_cases hi:S.ins=true
 ·rw [if_pos hi] at e0
  rw [hi]
  refine qI ?_
  refine ⟨_,rfl,x,cC,dx,_,rfl,hx,T.clC,T.nC_inside,(by show 5<1000;decide),?_⟩
  have kp:=(Keep.refl x H).upd (.ins cC dx (jK "inside" (.bl false) (kD (.ref lk) (.ref hd) (.ref ls) (.str (zS S.op)) (.bl S.ins))))
  refine q {S with ins:=false} e0 _ kp ⟨dx,hd,ls,n,h₁,l,by rw [jF,wA],kp _ _ (qV hhd hx (fun z=>nomatch z)) hhd,kp _ _ (qV hls hx (fun z=>nomatch z)) hls,?_,hne,hlen⟩
  obtain ⟨dl,hl⟩:=hlk
  exact ⟨dl,kp _ _ hne hl⟩
 ·rw [if_neg hi] at e0
  rw [Bool.eq_false_iff.mpr hi]
  exact kU ⟨by show 1≤sizeLine;decide,qe .noBoat e0 H (Same.refl _)⟩
theorem lF:FnScope ["self","word","verb","side"] ["self","word"] (jE ZX):=⟨rfl,rfl,rfl,by decide +kernel,rfl,by decide +kernel,by decide +kernel⟩
theorem xX {f:Addr} {fd:FuncData} (F:Fun K "do" "Chamber.do" ZX f fd) (T:Txt K mg cP cB cU cR cN tkS eA eW eS eF eO eK eL tkH w cC dV dW aU aD) (MX_Chamber_open_gate:MeX P w K mg base 2 cC "open_gate" ["self","side"] (zD (jD cP cB cU) cC (kX eA eW eS eF eO eK) Wd.opn)) (MX_Chamber_shut_gate:MeX P w K mg base 2 cC "shut_gate" ["self","side"] (zD (jD cP cB cU) cC (kX eA eW eS eF eO eK) Wd.sht)) (MX_Chamber_fill_chamber:MeX P w K mg base 5 cC "fill_chamber" ["self"] (dI (jD cP cB cU) cC (kX eA eW eS eF eO eK) Wd.fil)) (MX_Chamber_let_chamber:MeX P w K mg base 5 cC "let_chamber" ["self"] (dI (jD cP cB cU) cC (kX eA eW eS eF eO eK) Wd.lt)) (MX_Chamber_boat_in:MeX P w K mg base 2 cC "boat_in" ["self","side"] (zD (jD cP cB cU) cC (kX eA eW eS eF eO eK) Wd.bin)) (MX_Chamber_boat_out:MeX P w K mg base 2 cC "boat_out" ["self","side"] (zD (jD cP cB cU) cC (kX eA eW eS eF eO eK) Wd.bout)):FnOk P w K mg base (qK P w) 6 f fd ["self","word"] (o0 (jD cP cB cU) cC (kX eA eW eS eF eO eK) K dW):=by
 refine F.okX lF (fun vs H Q E h=>?_) (fun cdv A outer s H vs Q E hr h=>?_)
 ·obtain ⟨x,lk,S,W,rfl,hch,hw,qe,qq⟩:=h
  rfl
 obtain ⟨x,lk,S,W,rfl,hch,hw,qe,qq⟩:=h
 have hu:_<cLine:=hr.units0
 have hu1:=jV hr
 refine ⟨_,(@jG _ _ _ _ _ (kF (KA (EK (pv 1) (vQ (v:=.ref dW) rfl T.g_WORDS rfl) (K:=K) (w:=w))) (@jH _ _ _ (zA y9 rfl rfl T.c_Unknown T.x_Unknown (jA jR jB))) kR)
   (@jG _ _ _ _ _ (jZ (i:=2) lF.nd rfl (by first|exact Or.inl rfl|exact Or.inr rfl) (jI ix_tup (JH (vQ (v:=.ref dW) rfl T.g_WORDS rfl) (pv 1) (fun _ _=>rfl) (K:=K) (w:=w)) jC (fun _ _=>rfl)))
   (@jG _ _ _ _ _ (jZ (i:=3) lF.nd rfl (by first|exact Or.inl rfl|exact Or.inr rfl) (jI ix_tup (JH (vQ (v:=.ref dW) rfl T.g_WORDS rfl) (pv 1) (fun _ _=>rfl) (K:=K) (w:=w)) jC (fun _ _=>rfl)))
   (@jH _ _ _ (kF (kC kK (pv 2) jR (j3 _)) (@jH _ _ _ (qL (J8 MX_Chamber_open_gate yH hr (pv 0) (jA (pv 3) jB)))) (@jH _ _ _ (kF (kC kK (pv 2) jR (j3 _)) (@jH _ _ _ (qL (J8 MX_Chamber_shut_gate yH hr (pv 0) (jA (pv 3) jB)))) (@jH _ _ _ (kF (kC kK (pv 2) jR (j3 _)) (@jH _ _ _ (qL (fT MX_Chamber_fill_chamber yH hr (pv 0)))) (@jH _ _ _ (kF (kC kK (pv 2) jR (j3 _)) (@jH _ _ _ (qL (fT MX_Chamber_let_chamber yH hr (pv 0)))) (@jH _ _ _ (kF (kC kK (pv 2) jR (j3 _)) (@jH _ _ _ (qL (J8 MX_Chamber_boat_in yH hr (pv 0) (jA (pv 3) jB)))) (@jH _ _ _ (qL (J8 MX_Chamber_boat_out yH hr (pv 0) (jA (pv 3) jB))))))))))))))))),?_⟩
 have hch0:=hch
 obtain ⟨dx,hd,ls,n,h₁,l,hx,hhd,hls,hlk,hne,hlen⟩:=hch
 cases W with
 |opn sd =>
  obtain ⟨tw,hns,htw⟩:=T.w_at (.opn sd) (fun z h=>nomatch h)
  refine ⟨_,rfl,dW,_,_,rfl,T.topW,rfl,hns,_,rfl,qI ?_⟩
  refine ⟨_,rfl,dW,_,_,.ref tw,rfl,T.topW,rfl,hns,rfl,tw,_,_,_,rfl,rfl,htw _,rfl,?_⟩
  refine ⟨_,rfl,dW,_,_,.ref tw,rfl,T.topW,rfl,hns,rfl,tw,_,_,_,rfl,rfl,htw _,rfl,?_⟩
  exact ⟨_,rfl,rfl,_,rfl,kT rfl ⟨_,rfl,x,dx,_,rfl,hx,EA _ _ _ _ _,_,rfl,x,lk,S,sd,rfl,hch0,qe,fun S' e H' kp hc=>qq S' e H' kp hc⟩⟩
 |sht sd =>
  obtain ⟨tw,hns,htw⟩:=T.w_at (.sht sd) (fun z h=>nomatch h)
  refine ⟨_,rfl,dW,_,_,rfl,T.topW,rfl,hns,_,rfl,qI ?_⟩
  refine ⟨_,rfl,dW,_,_,.ref tw,rfl,T.topW,rfl,hns,rfl,tw,_,_,_,rfl,rfl,htw _,rfl,?_⟩
  refine ⟨_,rfl,dW,_,_,.ref tw,rfl,T.topW,rfl,hns,rfl,tw,_,_,_,rfl,rfl,htw _,rfl,?_⟩
  exact ⟨_,rfl,rfl,_,rfl,kB (fun e=>absurd (show ("shut":Str)="open" from V.str.inj e) (by decide +kernel)) ⟨_,rfl,rfl,_,rfl,kT rfl ⟨_,rfl,x,dx,_,rfl,hx,D9 _ _ _ _ _,_,rfl,x,lk,S,sd,rfl,hch0,qe,fun S' e H' kp hc=>qq S' e H' kp hc⟩⟩⟩
 |fil =>
  obtain ⟨tw,hns,htw⟩:=T.w_at (.fil) (fun z h=>nomatch h)
  refine ⟨_,rfl,dW,_,_,rfl,T.topW,rfl,hns,_,rfl,qI ?_⟩
  refine ⟨_,rfl,dW,_,_,.ref tw,rfl,T.topW,rfl,hns,rfl,tw,_,_,_,rfl,rfl,htw _,rfl,?_⟩
  refine ⟨_,rfl,dW,_,_,.ref tw,rfl,T.topW,rfl,hns,rfl,tw,_,_,_,rfl,rfl,htw _,rfl,?_⟩
  exact ⟨_,rfl,rfl,_,rfl,kB (fun e=>absurd (show ("fill":Str)="open" from V.str.inj e) (by decide +kernel)) ⟨_,rfl,rfl,_,rfl,kB (fun e=>absurd (show ("fill":Str)="shut" from V.str.inj e) (by decide +kernel)) ⟨_,rfl,rfl,_,rfl,kT rfl ⟨_,rfl,x,dx,_,rfl,hx,DL _ _ _ _ _,x,lk,S,rfl,hch0,qe,fun S' e H' kp hc=>qq S' e H' kp hc⟩⟩⟩⟩
 |lt =>
  obtain ⟨tw,hns,htw⟩:=T.w_at (.lt) (fun z h=>nomatch h)
  refine ⟨_,rfl,dW,_,_,rfl,T.topW,rfl,hns,_,rfl,qI ?_⟩
  refine ⟨_,rfl,dW,_,_,.ref tw,rfl,T.topW,rfl,hns,rfl,tw,_,_,_,rfl,rfl,htw _,rfl,?_⟩
  refine ⟨_,rfl,dW,_,_,.ref tw,rfl,T.topW,rfl,hns,rfl,tw,_,_,_,rfl,rfl,htw _,rfl,?_⟩
  exact ⟨_,rfl,rfl,_,rfl,kB (fun e=>absurd (show ("let":Str)="open" from V.str.inj e) (by decide +kernel)) ⟨_,rfl,rfl,_,rfl,kB (fun e=>absurd (show ("let":Str)="shut" from V.str.inj e) (by decide +kernel)) ⟨_,rfl,rfl,_,rfl,kB (fun e=>absurd (show ("let":Str)="fill" from V.str.inj e) (by decide +kernel)) ⟨_,rfl,rfl,_,rfl,kT rfl ⟨_,rfl,x,dx,_,rfl,hx,DM _ _ _ _ _,x,lk,S,rfl,hch0,qe,fun S' e H' kp hc=>qq S' e H' kp hc⟩⟩⟩⟩⟩
 |bin sd =>
  obtain ⟨tw,hns,htw⟩:=T.w_at (.bin sd) (fun z h=>nomatch h)
  refine ⟨_,rfl,dW,_,_,rfl,T.topW,rfl,hns,_,rfl,qI ?_⟩
  refine ⟨_,rfl,dW,_,_,.ref tw,rfl,T.topW,rfl,hns,rfl,tw,_,_,_,rfl,rfl,htw _,rfl,?_⟩
  refine ⟨_,rfl,dW,_,_,.ref tw,rfl,T.topW,rfl,hns,rfl,tw,_,_,_,rfl,rfl,htw _,rfl,?_⟩
  exact ⟨_,rfl,rfl,_,rfl,kB (fun e=>absurd (show ("in":Str)="open" from V.str.inj e) (by decide +kernel)) ⟨_,rfl,rfl,_,rfl,kB (fun e=>absurd (show ("in":Str)="shut" from V.str.inj e) (by decide +kernel)) ⟨_,rfl,rfl,_,rfl,kB (fun e=>absurd (show ("in":Str)="fill" from V.str.inj e) (by decide +kernel)) ⟨_,rfl,rfl,_,rfl,kB (fun e=>absurd (show ("in":Str)="let" from V.str.inj e) (by decide +kernel)) ⟨_,rfl,rfl,_,rfl,kT rfl ⟨_,rfl,x,dx,_,rfl,hx,FP _ _ _ _ _,_,rfl,x,lk,S,sd,rfl,hch0,qe,fun S' e H' kp hc=>qq S' e H' kp hc⟩⟩⟩⟩⟩⟩
 |bout sd =>
  obtain ⟨tw,hns,htw⟩:=T.w_at (.bout sd) (fun z h=>nomatch h)
  refine ⟨_,rfl,dW,_,_,rfl,T.topW,rfl,hns,_,rfl,qI ?_⟩
  refine ⟨_,rfl,dW,_,_,.ref tw,rfl,T.topW,rfl,hns,rfl,tw,_,_,_,rfl,rfl,htw _,rfl,?_⟩
  refine ⟨_,rfl,dW,_,_,.ref tw,rfl,T.topW,rfl,hns,rfl,tw,_,_,_,rfl,rfl,htw _,rfl,?_⟩
  exact ⟨_,rfl,rfl,_,rfl,kB (fun e=>absurd (show ("out":Str)="open" from V.str.inj e) (by decide +kernel)) ⟨_,rfl,rfl,_,rfl,kB (fun e=>absurd (show ("out":Str)="shut" from V.str.inj e) (by decide +kernel)) ⟨_,rfl,rfl,_,rfl,kB (fun e=>absurd (show ("out":Str)="fill" from V.str.inj e) (by decide +kernel)) ⟨_,rfl,rfl,_,rfl,kB (fun e=>absurd (show ("out":Str)="let" from V.str.inj e) (by decide +kernel)) ⟨_,rfl,rfl,_,rfl,kB (fun e=>absurd (show ("out":Str)="in" from V.str.inj e) (by decide +kernel)) ⟨_,rfl,x,dx,_,rfl,hx,ER _ _ _ _ _,_,rfl,x,lk,S,sd,rfl,hch0,qe,fun S' e H' kp hc=>qq S' e H' kp hc⟩⟩⟩⟩⟩⟩
 |odd z=>exact ⟨_,rfl,dW,_,_,rfl,T.topW,rfl,hw,_,rfl,kU ⟨by show 1≤sizeLine;decide,qe .unknown rfl H (Same.refl _)⟩⟩
theorem pQ:FnScope ["chamber","words","word"] ["chamber","words"] (jE cX):=⟨rfl,rfl,rfl,by decide +kernel,rfl,by decide +kernel,by decide +kernel⟩
theorem BZ {f:Addr} {fd:FuncData} (F:Fun K "work" "work" cX f fd) (T:Txt K mg cP cB cU cR cN tkS eA eW eS eF eO eK eL tkH w cC dV dW aU aD) (MX_Chamber_do:MeX P w K mg base 6 cC "do" ["self","word"] (o0 (jD cP cB cU) cC (kX eA eW eS eF eO eK) K dW)):FnOk P w K mg base (qK P w) 7 f fd ["chamber","words"] (n5 (jD cP cB cU) cC (kX eA eW eS eF eO eK) K dW qS):=by
 refine F.okX pQ (fun vs H Q E h=>?_) (fun cdv A outer s H vs Q E hr h=>?_)
 ·obtain ⟨x,lk,p,S,Ws,rfl,hch,hp,hok,q⟩:=h
  rfl
 obtain ⟨x,lk,p,S,Ws,rfl,hch,hp,hok,q⟩:=h
 have hu:_<cLine:=hr.units0
 have hu1:=jV hr
 refine ⟨_,(@jH _ _ _ (yK oI rfl (vK (pv 1)) (j8 (i:=2) pQ.nd rfl (by first|exact Or.inl rfl|exact Or.inr rfl))
    (@jH _ _ _ (qL (J8 MX_Chamber_do yH hr (pv 0) (jA (pv 2) jB)))))),?_⟩
 have npx:p≠x:=by obtain ⟨dx,hd,ls,n,h₁,l,hx,_⟩:=hch;exact qV hp hx (fun z=>nomatch z)
 refine ⟨_,rfl,p,rfl,⟨_,SqL.of hp⟩,dM (K:=K) (a:=p) (xs:=Ws.map fun W=>V.str (ZD W)) (fun i σ Hi=>∃(Si:CSt) (c:Option V),σ=[some (.ref x),some (.ref p),c]∧ChAt (jD cP cB cU) cC Hi x lk Si∧qS Si (Ws.drop i)=qS S Ws∧Keep x H Hi)
  ⟨S,none,rfl,hch,rfl,Keep.refl _ _⟩ (fun i σ Hi _ ⟨_,_,_,_,_,k⟩=>SqL.of (k _ _ npx hp)) ?_ ?_⟩
 ·rintro i y σ Hi hy ⟨Si,c,rfl,hc,hr,kp⟩
  obtain ⟨W,rfl,hW⟩:∃W,y=V.str (ZD W)∧Ws[i]?=some W:=by
   rw [List.getElem?_map] at hy
   cases e:Ws[i]? with
   |none=>rw [e] at hy;cases hy
   |some W=>rw [e] at hy;exact ⟨W,(Option.some.inj hy).symm,rfl⟩
  have hi:=(List.getElem?_eq_some_iff.mp hW).1
  have hdrop:Ws.drop i=W::Ws.drop (i+1):=by rw [List.drop_eq_getElem_cons hi,(List.getElem?_eq_some_iff.mp hW).2]
  rw [hdrop] at hr
  have hc0:=hc
  obtain ⟨dx,hd,ls,n,h₁,l,hx,_⟩:=hc0
  refine ⟨_,rfl,x,dx,_,rfl,hx,ME _ _ _ _ _,_,rfl,x,lk,Si,W,rfl,hc,hok W (List.mem_of_getElem? hW),fun e he H' sm=>?_,fun S' he H' kp' hc'=>?_⟩
  ·rw [m6 he] at hr
   exact q (some e) Si hr.symm H' (kp.trans (Keep.of sm)) (hc.same sm)
  ·rw [q9 he] at hr
   exact ⟨S',_,rfl,hc',hr,kp.trans kp'⟩
 ·rintro σ Hi ⟨Si,c,rfl,hc,hr,kp⟩
  rw [List.length_map,List.drop_length] at hr
  exact q none Si hr.symm Hi kp hc
theorem lK:FnScope ["full","way","made_ready"] ["full","way"] (jE cG):=⟨rfl,rfl,rfl,by decide +kernel,rfl,by decide +kernel,by decide +kernel⟩
theorem BO {f:Addr} {fd:FuncData} (F:Fun K "passing" "passing" cG f fd) (T:Txt K mg cP cB cU cR cN tkS eA eW eS eF eO eK eL tkH w cC dV dW aU aD) : FnOk P w K mg base jW 1 f fd ["full","way"] (rO):=by
 refine F.ok lK (fun vs H Q E h=>?_) (fun cdv A outer s H vs Q E hr h=>?_)
 ·obtain ⟨f,w,rfl,q⟩:=h
  rfl
 obtain ⟨f,w,rfl,q⟩:=h
 have hu:_<cLine:=hr.units0
 have hu1:=jV hr
 refine ⟨_,(@jG _ _ _ _ _ (kF (kC kK (pv 1) jR (j3 _)) (@jG _ _ _ _ _ (jZ (i:=2) lK.nd rfl (by first|exact Or.inl rfl|exact Or.inr rfl) (zB (v6 (pv 0)) (qG (jA jR jB)) (qG jB)))
   (@jH _ _ _ (@jS _ _ _ _ (@jJ _ _ _ _ _ _ _ _ dY (pv 2) (q8 JP (by rfl) T.z_list PyProof.Rows.boot_list (jA (vQ (v:=.ref aU) rfl T.g_UP rfl) jB)))))) kR)
   (@jG _ _ _ _ _ (jZ (i:=2) lK.nd rfl (by first|exact Or.inl rfl|exact Or.inr rfl) (zB (v6 (pv 0)) (qG jB) (qG (jA jR jB))))
   (@jH _ _ _ (@jS _ _ _ _ (@jJ _ _ _ _ _ _ _ _ dY (pv 2) (q8 JP (by rfl) T.z_list PyProof.Rows.boot_list (jA (vQ (v:=.ref aD) rfl T.g_DOWN rfl) jB))))))),?_⟩
 cases w with
 |true =>
  refine ⟨_,rfl,rfl,_,rfl,kT rfl ?_⟩
  cases f with
  |true =>
   refine ⟨_,rfl,_,rfl,kU ?_⟩
   refine ⟨zz1,fun m hm0=>?_⟩
   have s1:=jL hm0 (.lst [V.str "let"])
   refine ⟨_,rfl,aU,_,rfl,.inr (T.up _),fun c hc=>?_⟩
   have s2:=jL hc (.lst (JX y6))
   refine ⟨m,c,_,_,rfl,rfl,s2 _ _ jF,jF,(by show _≤sizeLine;decide),fun r hr=>?_⟩
   exact q r _ ((s1.trans s2).trans (jL hr _)) ((s1.trans s2).free hr) jF
  |false =>
   refine ⟨_,rfl,_,rfl,qI ?_⟩
   refine ⟨zz0,fun m hm0=>?_⟩
   have s1:=jL hm0 (.lst [])
   refine ⟨_,rfl,aU,_,rfl,.inr (T.up _),fun c hc=>?_⟩
   have s2:=jL hc (.lst (JX y6))
   refine ⟨m,c,_,_,rfl,rfl,s2 _ _ jF,jF,(by show _≤sizeLine;decide),fun r hr=>?_⟩
   exact q r _ ((s1.trans s2).trans (jL hr _)) ((s1.trans s2).free hr) jF
 |false =>
  refine ⟨_,rfl,rfl,_,rfl,kB wG ?_⟩
  cases f with
  |true =>
   refine ⟨_,rfl,_,rfl,kU ?_⟩
   refine ⟨zz0,fun m hm0=>?_⟩
   have s1:=jL hm0 (.lst [])
   refine ⟨_,rfl,aD,_,rfl,.inr (T.down _),fun c hc=>?_⟩
   have s2:=jL hc (.lst (JX zQ))
   refine ⟨m,c,_,_,rfl,rfl,s2 _ _ jF,jF,(by show _≤sizeLine;decide),fun r hr=>?_⟩
   exact q r _ ((s1.trans s2).trans (jL hr _)) ((s1.trans s2).free hr) jF
  |false =>
   refine ⟨_,rfl,_,rfl,qI ?_⟩
   refine ⟨zz1,fun m hm0=>?_⟩
   have s1:=jL hm0 (.lst [V.str "fill"])
   refine ⟨_,rfl,aD,_,rfl,.inr (T.down _),fun c hc=>?_⟩
   have s2:=jL hc (.lst (JX zQ))
   refine ⟨m,c,_,_,rfl,rfl,s2 _ _ jF,jF,(by show _≤sizeLine;decide),fun r hr=>?_⟩
   exact q r _ ((s1.trans s2).trans (jL hr _)) ((s1.trans s2).free hr) jF
theorem DG:FnScope ["lock","side"] ["lock","side"] (jE cM):=⟨rfl,rfl,rfl,by decide +kernel,rfl,by decide +kernel,by decide +kernel⟩
theorem BU {f:Addr} {fd:FuncData} (F:Fun K "step_ends" "step_ends" cM f fd) (T:Txt K mg cP cB cU cR cN tkS eA eW eS eF eO eK eL tkH w cC dV dW aU aD) : FnOk P w K mg base jW 1 f fd ["lock","side"] (uQ (jD cP cB cU)):=by
 refine F.ok DG (fun vs H Q E h=>?_) (fun cdv A outer s H vs Q E hr h=>?_)
 ·obtain ⟨y,l,b,rfl,⟨y₂,e,dl,hl⟩,q⟩:=h
  rfl
 obtain ⟨y,l,b,rfl,⟨y₂,e,dl,hl⟩,q⟩:=h
 have hu:_<cLine:=hr.units0
 have hu1:=jV hr
 refine ⟨_,(@jH _ _ _ (@jS _ _ _ _ (zB (kC kK (pv 1) jR (j3 _)) (kZ (jA (jU (pv 0) rfl) (jA (jU (pv 0) rfl) jB))) (kZ (jA (jU (pv 0) rfl) (jA (jU (pv 0) rfl) jB)))))),?_⟩
 cases e
 refine ⟨_,rfl,rfl,_,rfl,?_⟩
 rw [u7]
 cases b with
 |true=>exact kU ⟨_,rfl,jT hl (T.cl l.kd) (T.n_low l.kd) (J3 l.kd _ _ _ _ _) (⟨_,rfl,jT hl (T.cl l.kd) (T.n_high l.kd) (JV l.kd _ _ _ _ _) (⟨zz2,fun t ht=>q t _ (jL ht _) ht jF⟩)⟩)⟩
 |false=>exact qI ⟨_,rfl,jT hl (T.cl l.kd) (T.n_high l.kd) (JV l.kd _ _ _ _ _) (⟨_,rfl,jT hl (T.cl l.kd) (T.n_low l.kd) (J3 l.kd _ _ _ _ _) (⟨zz2,fun t ht=>q t _ (jL ht _) ht jF⟩)⟩)⟩
theorem eZ:FnScope ["canal","start","steps","along","k","side","ends"] ["canal","start","steps"] (jE bX):=⟨rfl,rfl,rfl,by decide +kernel,rfl,by decide +kernel,by decide +kernel⟩
theorem BF {f:Addr} {fd:FuncData} (F:Fun K "linked" "linked" bX f fd) (T:Txt K mg cP cB cU cR cN tkS eA eW eS eF eO eK eL tkH w cC dV dW aU aD) (D_step_ends:Def P w K mg base 1 "step_ends" ["lock","side"] [] (uQ (jD cP cB cU))):FnOk P w K mg base (qK P w) 2 f fd ["canal","start","steps"] (sV K (jD cP cB cU) cR cN eL):=by
 refine F.okX eZ (fun vs H Q E h=>?_) (fun cdv A outer s H vs Q E hr h=>?_)
 ·obtain ⟨x,st,s₁,us,ps,D,R,L,N,rfl,⟨dx,rl,ll,nl,fs,rs,ls,ns,hx,hf,hrl,hll,hnl,hR,hL,hN,d1,d2,d3⟩,hst,hP,hlt,h100,qv,qe⟩:=h
  rfl
 obtain ⟨x,st,s₁,us,ps,D,R,L,N,rfl,⟨dx,rl,ll,nl,fs,rs,ls,ns,hx,hf,hrl,hll,hnl,hR,hL,hN,d1,d2,d3⟩,hst,hP,hlt,h100,qv,qe⟩:=h
 have hu:_<cLine:=hr.units0
 have hu1:=jV hr
 refine ⟨_,(@jG _ _ _ _ _ (jZ (i:=3) eZ.nd rfl (by first|exact Or.inl rfl|exact Or.inr rfl) (qG (jA (pv 1) jB)))
   (@jG _ _ _ _ _ (yK oI rfl (KD (pv 2)) (iJ rfl (kY (j8 (i:=4) eZ.nd rfl (by first|exact Or.inl rfl|exact Or.inr rfl)) (kY (j8 (i:=5) eZ.nd rfl (by first|exact Or.inl rfl|exact Or.inr rfl)) yV)))
    (@jG _ _ _ _ _ (jZ (i:=6) eZ.nd rfl (by first|exact Or.inl rfl|exact Or.inr rfl) (jM D_step_ends hr rfl (jA (jI kA (jU (pv 0) rfl) (pv 4) (fun _ _=>rfl)) (jA (pv 5) jB))))
   (@jG _ _ _ _ _ (kF (kC zZ (jI ix_tup (pv 6) jC (fun _ _=>rfl)) (jI kA (pv 3) (oP nZ jC) (fun _ _=>rfl)) (j3 _)) (@jH _ _ _ (zA y9 rfl rfl T.c_NotLinked T.x_NotLinked (jA jR jB))) kR)
   (@jH _ _ _ (qL (yF PySem.F.plainAttrs_list PySem.F.slot_list_append PySem.F.type_list_append zL (pv 3) (jA (jI ix_tup (pv 6) jC (fun _ _=>rfl)) jB)))))))
   (@jH _ _ _ (@jS _ _ _ _ (pv 3))))),?_⟩
 refine ⟨_,rfl,zz1,fun al hal0=>?_⟩
 have s1:=jL hal0 (.lst [V.int s₁])
 refine ⟨_,rfl,st,rfl,⟨_,SqT.of (s1 _ _ hst)⟩,II (K:=K) (a:=st) (xs:=us) (fun i σ Hi=>∃c4 c5 c6:Option V,σ=[some (.ref x),some (.int s₁),some (.ref st),some (.ref al),c4,c5,c6]∧Hi al=some (.lst ((qJ L s₁ (ps.take i)).map V.int))∧(∀(j:Nat) (p:Nat×Bool),j<i→ps[j]?=some p→(qJ L s₁ ps)[j]?=some (vI L p).1)∧Same H Hi)
  ⟨none,none,none,rfl,jF,fun j p hj=>absurd hj (Nat.not_lt_zero j),s1⟩ (fun i σ Hi _ ⟨_,_,_,_,_,_,s⟩=>SqT.of (s _ _ hst)) ?_ ?_⟩
 ·rintro i v σ Hi hv ⟨c4,c5,c6,rfl,hal,hok,sm⟩
  obtain ⟨⟨pk,pb⟩,hp,t,rfl,ht⟩:=hP.2 i v hv
  have hpl:pk<L.length:=hlt _ (List.mem_of_getElem? hp)
  have hi:i<ps.length:=(List.getElem?_eq_some_iff.mp hp).1
  obtain ⟨l,hl'⟩:∃l,L[pk]?=some l:=⟨_,List.getElem?_eq_getElem hpl⟩
  obtain ⟨w,hw,y,rfl,dl,hl⟩:=hL.get hl'
  have hdl:(qJ L s₁ (ps.take i)).length=i+1:=by rw [fL,List.length_take];omega
  obtain ⟨z,hz⟩:∃z,(qJ L s₁ (ps.take i))[i]?=some z:=⟨_,List.getElem?_eq_getElem (by omega)⟩
  have hlast:kQ ((qJ L s₁ (ps.take i)).map V.int) (-1)=some (.int z):=atI_last (n:=i) (by rw [List.length_map,hdl]) (by rw [List.getElem?_map,hz];rfl)
  refine ⟨t,_,rfl,SqT.of (sm _ _ ht),rfl,_,_,rfl,_,_,rfl,rfl,?_⟩
  refine ⟨_,rfl,jT ((sm _ _ hx)) (T.clN) (T.nN_locks) (hf.2.1) (⟨_,rfl,j9 (SqL.of (sm _ _ hll)) (kL hw) (⟨_,rfl,y,l,pb,rfl,⟨y,rfl,dl,sm _ _ hl⟩,fun te He se hte0 hte=>?_⟩)⟩)⟩
  have smE:=sm.trans se
  have halE:=se _ _ hal
  have ee:vI L (pk,pb)=(if pb then l.low else l.high,if pb then l.high else l.low):=by cases pb;exact QZ hl';exact Q3 hl'
  have hdue:(qJ L s₁ ps)[i]?=some z:=by rw [IM (by omega)];exact hz
  refine ⟨_,rfl,jQ (SqT.of hte) rfl (⟨_,rfl,_,rfl,j9 (SqL.of halE) hlast (⟨rfl,_,rfl,?_⟩)⟩)⟩
  by_cases h:(if pb then l.low else l.high)=z
  ·refine zO (congrArg V.int h) ?_
   refine ⟨_,rfl,.inl ⟨rfl,_,SqL.of halE⟩,_,rfl,jQ (SqT.of hte) rfl (⟨al,_,_,rfl,rfl,halE,qP (by rw [List.length_map,hdl];omega),?_⟩)⟩
   refine ⟨_,_,_,rfl,?_,fun j p hj hpj=>?_,qC hal0 smE⟩
   ·rw [jF,List.take_add_one,hp]
    show _=some (HO.lst ((qJ L s₁ (ps.take i++[(pk,pb)])).map V.int))
    rw [mU,List.map_append,ee]
    rfl
   ·by_cases c:j=i
    ·subst c
     rw [hp] at hpj
     cases hpj
     rw [hdue,ee,h]
    ·exact hok j p (by omega) hpj
  ·refine z0 (fun e=>h (V.int.inj e)) ⟨by show 1≤sizeLine;decide,qe (fun ok=>h ?_) _ smE⟩
   have:=ok i _ hp
   rw [hdue,ee] at this
   exact (Option.some.inj this).symm
 rintro σ Hi ⟨c4,c5,c6,rfl,hal,hok,sm⟩
 rw [hP.1,List.take_length] at hal
 exact ⟨_,rfl,qv (fun j p hp=>hok j p (by rw [hP.1];exact (List.getElem?_eq_some_iff.mp hp).1) hp) al Hi sm hal0 hal⟩
theorem DH:FnScope ["way","place"] ["way","place"] (jE cQ):=⟨rfl,rfl,rfl,by decide +kernel,rfl,by decide +kernel,by decide +kernel⟩
theorem BV {f:Addr} {fd:FuncData} (F:Fun K "steps_to_do" "steps_to_do" cQ f fd) (T:Txt K mg cP cB cU cR cN tkS eA eW eS eF eO eK eL tkH w cC dV dW aU aD) : FnOk P w K mg base jW 1 f fd ["way","place"] (uN):=by
 refine F.ok DH (fun vs H Q E h=>?_) (fun cdv A outer s H vs Q E hr h=>?_)
 ·obtain ⟨t,y,p,rfl,⟨t₂,st,us,e,h1,h2,h3⟩,q⟩:=h
  rfl
 obtain ⟨t,y,p,rfl,⟨t₂,st,us,e,h1,h2,h3⟩,q⟩:=h
 have hu:_<cLine:=hr.units0
 have hu1:=jV hr
 refine ⟨_,(@jH _ _ _ (@jS _ _ _ _ (@jJ _ _ _ _ _ _ _ _ yL (qB qQ (by rfl) T.z_len PySem.boot_len (jA (jI ix_tup (pv 0) jC (fun _ _=>rfl)) jB)) (pv 1)))),?_⟩
 cases e
 refine ⟨_,rfl,jQ (SqT.of h1) rfl (⟨st,_,rfl,.inr (SqT.of h2),_,rfl,j0 (?_)⟩)⟩
 rw [h3.1]
 exact q
theorem DF:FnScope ["canal","way","place"] ["canal","way","place"] (jE cJ):=⟨rfl,rfl,rfl,by decide +kernel,rfl,by decide +kernel,by decide +kernel⟩
theorem BR {f:Addr} {fd:FuncData} (F:Fun K "reach_of" "reach_of" cJ f fd) (T:Txt K mg cP cB cU cR cN tkS eA eW eS eF eO eK eL tkH w cC dV dW aU aD) (D_steps_to_do:Def P w K mg base 1 "steps_to_do" ["way","place"] [] (uN)) (D_linked:Def P w K mg base 2 "linked" ["canal","start","steps"] [] (mL K (jD cP cB cU) cR cN)):FnOk P w K mg base jW 3 f fd ["canal","way","place"] (mK (jD cP cB cU) cR cN):=by
 refine F.ok DF (fun vs H Q E h=>?_) (fun cdv A outer s H vs Q E hr h=>?_)
 ·obtain ⟨x,t,y,p,D,R,L,N,rfl,hc,hwy,ok,hp,q⟩:=h
  rfl
 obtain ⟨x,t,y,p,D,R,L,N,rfl,hc,hwy,ok,hp,q⟩:=h
 have hu:_<cLine:=hr.units0
 have hu1:=jV hr
 refine ⟨_,(@jG _ _ _ _ _ (kF (kC kK (jM D_steps_to_do hr rfl (jA (pv 1) (jA (pv 2) jB))) jC (j3 _)) (@jH _ _ _ (@jS _ _ _ _ (vQ (v:=.int (-1)) rfl T.g_HOME ⟨_,rfl⟩))) kR)
   (@jH _ _ _ (@jS _ _ _ _ (jI kA (jM D_linked hr rfl (@jA _ _ _ _ _ (pv 0) (@jA _ _ _ _ _ (jI ix_tup (pv 1) jC (fun _ _=>rfl)) (@jA _ _ _ _ _ (jI ix_tup (pv 1) jC (fun _ _=>rfl)) jB (by rfl)) (by rfl)) (by rfl))) (pv 2) (fun _ _=>rfl))))),?_⟩
 obtain ⟨t₂,st,us,e,h1,h2,h3⟩:=id hwy
 cases e
 refine ⟨_,rfl,_,rfl,t,y,_,rfl,hwy,rfl,_,rfl,?_⟩
 by_cases h:p=y.2.length
 ·refine kT (congrArg V.int (by omega)) ?_
  have:=q H (Same.refl _)
  rw [show qT L y p = -1 from if_pos h] at this
  exact this
 ·refine kB (fun z=>h (by have:=V.int.inj z;omega)) ?_
  have hle:=ok.le
  refine ⟨_,rfl,_,rfl,jQ (SqT.of h1) rfl (⟨_,rfl,jQ (SqT.of h1) rfl (⟨x,st,y.1,us,y.2,D,R,L,N,rfl,hc,h2,h3,ok.lt,by omega,ok.ok,fun r H' s' hr0 hr=>?_⟩)⟩)⟩
  have hl:p<(qJ L y.1 y.2).length:=by rw [fL];omega
  refine ⟨_,rfl,j9 (SqL.of hr) (qD hl) (?_)⟩
  have:=q H' s'
  rw [show qT L y p=(qJ L y.1 y.2).getD p 0 from if_neg h] at this
  exact this
theorem DB:FnScope ["canal","ways","state","reach"] ["canal","ways","state","reach"] (jE QP):=⟨rfl,rfl,rfl,by decide +kernel,rfl,by decide +kernel,by decide +kernel⟩
theorem BG {f:Addr} {fd:FuncData} (F:Fun K "lying" "lying" QP f fd) (T:Txt K mg cP cB cU cR cN tkS eA eW eS eF eO eK eL tkH w cC dV dW aU aD) (D_reach_of:Def P w K mg base 3 "reach_of" ["canal","way","place"] [] (mK (jD cP cB cU) cR cN)):FnOk P w K mg base jW 4 f fd ["canal","ways","state","reach"] (tT (jD cP cB cU) cR cN):=by
 refine F.ok DB (fun vs H Q E h=>?_) (fun cdv A outer s H vs Q E hr h=>?_)
 ·obtain ⟨x,wl,st,r,us,ys,d,ms,pl,D,R,L,N,rfl,hc,hwl,hA,⟨wt,pt,hst,hwt,hpt⟩,hfl,q⟩:=h
  rfl
 obtain ⟨x,wl,st,r,us,ys,d,ms,pl,D,R,L,N,rfl,hc,hwl,hA,⟨wt,pt,hst,hwt,hpt⟩,hfl,q⟩:=h
 have hu:_<cLine:=hr.units0
 have hu1:=jV hr
 refine ⟨_,(@jH _ _ _ (@jS _ _ _ _ (yF PySem.F.plainAttrs_list PySem.F.slot_list_count PySem.F.type_list_count GX (yB ["way","place","canal"] (qO 2 [0]) rfl (qW (jE QP) rfl rfl (by decide +kernel) (by decide +kernel) (by decide +kernel)) (qX 2 [0] rfl rfl (by decide +kernel)) (HQ (by rfl) T.z_zip (jA (pv 1) (jA (jI ix_tup (pv 2) jC (fun _ _=>rfl)) jB))) (fun _ _ _ _ _=>(zV (n:=2) K rfl (kY (j8 (i:=0) (show List.Nodup (["way","place","canal"]:List Str) from by decide +kernel) rfl (by first|exact Or.inl rfl|exact Or.inr rfl)) (kY (j8 (i:=1) (show List.Nodup (["way","place","canal"]:List Str) from by decide +kernel) rfl (by first|exact Or.inl rfl|exact Or.inr rfl)) yV)))) (fun _ _ _ _ _=>vP) (fun _ _ _ _ _=>(jM D_reach_of hr rfl (@jA _ _ _ _ _ (pv 2) (@jA _ _ _ _ _ (pv 0) (@jA _ _ _ _ _ (pv 1) jB (by rfl)) (by rfl)) (by rfl))))) (jA (pv 3) jB)))),?_⟩
 refine ⟨_,rfl,_,rfl,jQ (SqT.of hst) rfl (⟨wl,pt,rfl,⟨_,SqL.of hwl⟩,⟨_,SqT.of hpt⟩,fun D₁ hD₁=>?_⟩)⟩
 refine ED (K:=K) (a1:=wl) (a2:=pt) (xs:=us) (ys:=pl.map fun (p:Nat)=>V.int (p:Int)) (fun i σ Hi=>∃c1 c2:Option V,σ=[c1,c2,some (.ref x)]∧Hi D₁=some (.lst (((y0 L ys pl).take i).map V.int))∧Same H Hi)
  ⟨none,none,rfl,by rw [jF,List.take_zero];rfl,jL hD₁ _⟩ (fun i σ Hi _ ⟨_,_,_,_,s⟩=>⟨SqL.of (s _ _ hwl),SqT.of (s _ _ hpt)⟩) (by rw [hA.1,List.length_map,hfl.len]) ?_ ?_
 ·rintro i v z σ Hi T₁ hv hz ⟨c1,c2,rfl,hY,sm⟩ hT
  obtain ⟨y,hy,hwy⟩:=hA.2 i v hv
  have hi:i<ys.length:=(List.getElem?_eq_some_iff.mp hy).1
  obtain ⟨t,st₂,us₂,rfl,hw1,hw2,hw3⟩:=id hwy
  have hip:i<pl.length:=by rw [hfl.len];exact hi
  rw [List.getElem?_map,List.getElem?_eq_getElem hip] at hz
  cases hz
  have u:=jL hT (.tup [V.ref t,V.int ((pl[i]:Nat):Int)])
  have smu:=sm.trans u
  have hwy2:=WyAt.same smu _ _ hwy
  have hp:=hfl.le i y pl[i] hy (List.getElem?_eq_getElem hip)
  have hg1:ys.getD i (0,[])=y:=by rw [List.getD_eq_getElem?_getD,hy];rfl
  have hg2:pl.getD i 0=pl[i]:=by rw [List.getD_eq_getElem?_getD,List.getElem?_eq_getElem hip];rfl
  have h10:=hfl.n10
  have hYu:=u _ _ hY
  refine ⟨T₁,_,rfl,SqT.of jF,rfl,_,_,rfl,_,_,rfl,rfl,?_⟩
  generalize upd Hi T₁ (.tup [V.ref t,V.int ((pl[i]:Nat):Int)])=Hj at u smu hwy2 hYu ⊢
  refine vS (kU ?_)
  refine ⟨_,rfl,_,rfl,_,rfl,x,t,y,pl[i],D,R,L,N,rfl,hc.same smu,hwy2,hfl.ok y (List.mem_of_getElem? hy),hp,fun H' s'=>?_⟩
  refine ⟨_,s' _ _ hYu,qP (by rw [List.length_map,List.length_take];unfold y0;rw [List.length_map,List.length_range];omega),_,_,rfl,?_,qC hD₁ (smu.trans s')⟩
  rw [jF,List.take_add_one,show (y0 L ys pl)[i]?=some (qT L y pl[i]) by unfold y0;rw [List.getElem?_map,List.getElem?_range hi,← hg1,← hg2];rfl,List.map_append]
  rfl
 rintro σ Hf ⟨c1,c2,rfl,hY,sm⟩
 rw [hA.1,List.take_of_length_le (by unfold y0;rw [List.length_map,List.length_range];exact Nat.le_refl _)] at hY
 refine ⟨.inl ⟨rfl,_,SqL.of hY⟩,_,rfl,D₁,_,_,rfl,rfl,hY,rfl,gR _,?_⟩
 have e:((y0 L ys pl).map V.int).countP (fun z=>vF z (.int r))=(y0 L ys pl).countP fun z=>decide (z=r):=by rw [List.countP_map];rfl
 rw [e]
 exact q Hf sm
theorem e6:FnScope ["canal","state","weather","waters","sky","sun","rain"] ["canal","state","weather"] (jE JB):=⟨rfl,rfl,rfl,by decide +kernel,rfl,by decide +kernel,by decide +kernel⟩
theorem BI {f:Addr} {fd:FuncData} (F:Fun K "night_pours" "night_pours" JB f fd) (T:Txt K mg cP cB cU cR cN tkS eA eW eS eF eO eK eL tkH w cC dV dW aU aD) (MM_Canal_sky:MeD P w K mg base 2 cN "sky" ["self"] (ZB (jD cP cB cU) cR cN fY)) (D_with_spills:Def P w K mg base 4 "with_spills" ["weirs","waters","pours"] [] (nJ K)) (MM_Canal_weirs:MeD P w K mg base 2 cN "weirs" ["self"] (gY (jD cP cB cU) cR cN)):FnOk P w K mg base jW 5 f fd ["canal","state","weather"] (sU K (jD cP cB cU) cR cN):=by
 refine F.ok e6 (fun vs H Q E h=>?_) (fun cdv A outer s H vs Q E hr h=>?_)
 ·obtain ⟨x,t,wl,d,ms,ps,us,W,D,R,L,N,rfl,hc,⟨wt,pt,h1,h2,h3⟩,hwl,hA,hWR,hms,hR100,hL100,hTg,q⟩:=h
  rfl
 obtain ⟨x,t,wl,d,ms,ps,us,W,D,R,L,N,rfl,hc,⟨wt,pt,h1,h2,h3⟩,hwl,hA,hWR,hms,hR100,hL100,hTg,q⟩:=h
 have hu:_<cLine:=hr.units0
 have hu1:=jV hr
 refine ⟨_,(@jG _ _ _ _ _ (jZ (i:=3) e6.nd rfl (by first|exact Or.inl rfl|exact Or.inr rfl) (jI ix_tup (pv 1) jC (fun _ _=>rfl)))
   (@jG _ _ _ _ _ (jZ (i:=4) e6.nd rfl (by first|exact Or.inl rfl|exact Or.inr rfl) (J9 MM_Canal_sky hr (pv 0)))
   (@jG _ _ _ _ _ (QW (i:=5) ["at","pair","sky","waters"] (qO 2 [4,3]) e6.nd rfl (by first|exact Or.inl rfl|exact Or.inr rfl) rfl (qW (jE JB) rfl rfl (by decide +kernel) (by decide +kernel) (by decide +kernel)) (qX 2 [4,3] rfl rfl (by decide +kernel)) (t6 (by rfl) T.z_enumerate (jA (pv 2) jB)) (fun _ _ _ _ _=>(zV (n:=2) K rfl (kY (j8 (i:=0) (show List.Nodup (["at","pair","sky","waters"]:List Str) from by decide +kernel) rfl (by first|exact Or.inl rfl|exact Or.inr rfl)) (kY (j8 (i:=1) (show List.Nodup (["at","pair","sky","waters"]:List Str) from by decide +kernel) rfl (by first|exact Or.inl rfl|exact Or.inr rfl)) yV)))) (fun _ _ _ _ _=>vP) (fun _ _ _ _ _=>(kZ (@jA _ _ _ _ _ (pv 0) (@jA _ _ _ _ _ (pv 2) (@jA _ _ _ _ _ (qB (sC rfl) (by rfl) T.z_min PyProof.Rows.boot_min (jA (jI (zW K) (pv 1) jC (fun _ _=>rfl)) (jA (jI (zW K) (pv 3) (pv 0) (fun _ _=>rfl)) jB))) jB (by rfl)) (by rfl)) (by rfl)))))
   (@jG _ _ _ _ _ (QW (i:=6) ["at","pair","sky"] (qO 2 [4]) e6.nd rfl (by first|exact Or.inl rfl|exact Or.inr rfl) rfl (qW (jE JB) rfl rfl (by decide +kernel) (by decide +kernel) (by decide +kernel)) (qX 2 [4] rfl rfl (by decide +kernel)) (t6 (by rfl) T.z_enumerate (jA (pv 2) jB)) (fun _ _ _ _ _=>(zV (n:=2) K rfl (kY (j8 (i:=0) (show List.Nodup (["at","pair","sky"]:List Str) from by decide +kernel) rfl (by first|exact Or.inl rfl|exact Or.inr rfl)) (kY (j8 (i:=1) (show List.Nodup (["at","pair","sky"]:List Str) from by decide +kernel) rfl (by first|exact Or.inl rfl|exact Or.inr rfl)) yV)))) (fun _ _ _ _ _=>vP) (fun _ _ _ _ _=>(kZ (@jA _ _ _ _ _ (pv 2) (@jA _ _ _ _ _ (pv 0) (@jA _ _ _ _ _ (jI (zW K) (pv 1) jC (fun _ _=>rfl)) jB (by rfl)) (by rfl)) (by rfl)))))
   (@jH _ _ _ (@jS _ _ _ _ (jM D_with_spills hr rfl (@jA _ _ _ _ _ (J9 MM_Canal_weirs hr (pv 0)) (@jA _ _ _ _ _ (pv 3) (@jA _ _ _ _ _ (yB ["pour"] (qO 1 []) rfl (qW (jE JB) rfl rfl (by decide +kernel) (by decide +kernel) (by decide +kernel)) (qX 1 [] rfl rfl (by decide +kernel)) (vK (@jJ _ _ _ _ _ _ _ _ dY (pv 5) (pv 6))) (fun _ _ _ _ _=>(j8 (i:=0) (show List.Nodup (["pour"]:List Str) from by decide +kernel) rfl (by first|exact Or.inl rfl|exact Or.inr rfl))) (fun _ _ _ _ _=>(fP (kC zZ (jI (zW K) (pv 0) jC (fun _ _=>rfl)) jC (j3 _)))) (fun _ _ _ _ _=>(pv 0))) jB (by rfl)) (by rfl)) (by rfl))))))))),?_⟩
 have hc0:=hc
 obtain ⟨dx,rl,ll,nl,fs,rs,ls,nv,hx,hf,hrl,hll,hnl,hR,hL,hN,d1,d2,d3⟩:=hc
 obtain ⟨sk,hsk⟩:∃sk,sk=R.length+2*L.length+1:=⟨_,rfl⟩
 have esk:fY R.length L.length=(sk:Int):=by unfold fY;omega
 refine ⟨_,rfl,jQ (SqT.of h1) rfl (?_)⟩
 refine ⟨_,rfl,x,dx,_,rfl,hx,hf.no (by decide +kernel) (by decide +kernel) (by decide +kernel),x,D,R,L,N,rfl,hc0,?_⟩
 rw [esk]
 refine ⟨_,rfl,wl,rfl,⟨_,SqL.of hwl⟩,fun D₁ hD₁=>?_⟩
 refine p8 (K:=K) (a:=wl) (xs:=us) (fun i σ Hi=>∃c1 c2:Option V,σ=[c1,c2,some (.int (sk:Int)),some (.ref wt)]∧∃ys:List V,Hi D₁=some (.lst ys)∧PoursH Hi ys ((ZA sk ms W R.length).take i) ms.length∧Same H Hi) ⟨none,none,rfl,[],jF,PoursH.nil _ _,jL hD₁ _⟩ (fun i σ Hi _ ⟨_,_,_,_,_,_,s⟩=>SqL.of (s _ _ hwl)) ?_ ?_
 ·rintro i v σ Hi T₁ hv ⟨c1,c2,rfl,ys,hY,hP,sm⟩ hT
  have hi:i<us.length:=(List.getElem?_eq_some_iff.mp hv).1
  rw [hA.1] at hi
  obtain ⟨y,hy,t1,rfl,ht1⟩:=hA.2 i v hv
  have u:=jL hT (.tup [V.int (i:Int),V.ref t1])
  have smu:=sm.trans u
  have hYu:=u _ _ hY
  refine ⟨T₁,_,rfl,SqT.of jF,rfl,_,_,rfl,_,_,rfl,rfl,?_⟩
  generalize upd Hi T₁ (.tup [V.int (i:Int),V.ref t1])=Hj at u smu hYu ⊢
  refine vS (kU ?_)
  refine ⟨_,rfl,_,rfl,_,rfl,jQ (SqT.of (smu _ _ ht1)) rfl (⟨_,rfl,_,rfl,jQ (SqT.of (smu _ _ h2)) (qD (by omega)) (⟨_,_,rfl,?_⟩)⟩)⟩
  try dsimp only
  first|rw [← tN hy]|rw [← GL hy]
  refine ⟨zz3,fun tp htp=>?_⟩
  have u2:=jL htp (.tup [V.int (i:Int),V.int (sk:Int),V.int (eU ms W i)])
  have hY2:=u2 _ _ hYu
  have hlen:=hP.1
  rw [List.length_take,mW] at hlen
  refine ⟨ys,hY2,qP (by omega),_,_,rfl,ys++[.ref tp],jF,?_,qC hD₁ (smu.trans u2)⟩
  rw [E9 (by omega)]
  exact (((hP.same u).same u2).snoc jF (by omega) (by omega)).put hY2
 rintro σ H1 ⟨c1,c2,rfl,ys1,hY1,hP1,s1⟩
 rw [hA.1,hWR,List.take_of_length_le (by rw [mW];exact Nat.le_refl _)] at hP1
 refine ⟨_,rfl,wl,rfl,⟨_,SqL.of (s1 _ _ hwl)⟩,fun D₂ hD₂=>?_⟩
 refine p8 (K:=K) (a:=wl) (xs:=us) (fun i σ Hi=>∃c1 c2:Option V,σ=[c1,c2,some (.int (sk:Int))]∧∃ys:List V,Hi D₂=some (.lst ys)∧PoursH Hi ys ((Q7 sk W R.length).take i) ms.length∧Same H1 Hi) ⟨none,none,rfl,[],jF,PoursH.nil _ _,jL hD₂ _⟩ (fun i σ Hi _ ⟨_,_,_,_,_,_,s⟩=>SqL.of (s _ _ (s1 _ _ hwl))) ?_ ?_
 ·rintro i v σ Hi T₁ hv ⟨c1,c2,rfl,ys,hY,hP,sm⟩ hT
  have hi:i<us.length:=(List.getElem?_eq_some_iff.mp hv).1
  rw [hA.1] at hi
  obtain ⟨y,hy,t1,rfl,ht1⟩:=hA.2 i v hv
  have ht1:=s1 _ _ ht1
  have u:=jL hT (.tup [V.int (i:Int),V.ref t1])
  have smu:=sm.trans u
  have hYu:=u _ _ hY
  refine ⟨T₁,_,rfl,SqT.of jF,rfl,_,_,rfl,_,_,rfl,rfl,?_⟩
  generalize upd Hi T₁ (.tup [V.int (i:Int),V.ref t1])=Hj at u smu hYu ⊢
  refine vS (kU ?_)
  refine ⟨_,rfl,_,rfl,_,rfl,jQ (SqT.of (smu _ _ ht1)) rfl (?_)⟩
  rw [show y.1=(W.getD i (0,0)).1 by rw [w8 hy]]
  refine ⟨zz3,fun tp htp=>?_⟩
  have u2:=jL htp (.tup [V.int (sk:Int),V.int (i:Int),V.int (W.getD i (0,0)).1])
  have hY2:=u2 _ _ hYu
  have hlen:=hP.1
  rw [List.length_take,mO] at hlen
  refine ⟨ys,hY2,qP (by omega),_,_,rfl,ys++[.ref tp],jF,?_,qC hD₂ (smu.trans u2)⟩
  rw [EJ (by omega)]
  exact (((hP.same u).same u2).snoc jF (by omega) (by omega)).put hY2
 rintro σ H2 ⟨c1',c2',rfl,ys2,hY2,hP2,s2⟩
 rw [hA.1,hWR,List.take_of_length_le (by rw [mO];exact Nat.le_refl _)] at hP2
 have s12:=s1.trans s2
 have hl1:=hP1.1
 have hl2:=hP2.1
 rw [mW] at hl1
 rw [mO] at hl2
 refine ⟨_,rfl,x,dx,_,rfl,(s12 _ _ hx),hf.no (by decide +kernel) (by decide +kernel) (by decide +kernel),x,D,R,L,N,rfl,hc0.same s12,hR100,fun wq ws H3 s3 hwq0 hwq hW=>?_⟩
 have s13:=s12.trans s3
 refine ⟨_,rfl,_,rfl,_,rfl,D₁,D₂,_,_,rfl,rfl,s3 _ _ (s2 _ _ hY1),s3 _ _ hY2,small (by omega),fun al hal=>?_⟩
 have s4:=jL hal (.lst (ys1++ys2))
 have hal4:upd H3 al (.lst (ys1++ys2)) al=_:=jF
 have hP4:PoursH (upd H3 al (.lst (ys1++ys2))) (ys1++ys2) (zX sk ms W R.length) ms.length:=(((hP1.same s2).same s3).same s4).append ((hP2.same s3).same s4)
 have s14:=s13.trans s4
 have hwq4:=s4 _ _ hwq
 have hW4:=hW.mono (QAt.same s4)
 generalize upd H3 al (.lst (ys1++ys2))=H4 at s4 hal4 hP4 s14 hwq4 hW4 ⊢
 refine ⟨al,rfl,⟨_,SqL.of hal4⟩,fun Df hDf=>?_⟩
 refine ZI (K:=K) (a:=al) (xs:=ys1++ys2) (caps:=[]) (fun i ys Hi=>PoursH Hi ys (((zX sk ms W R.length).take i).filter qH) ms.length) hDf (SqL.of hal4) (PoursH.nil _ _) ?_ ?_
 ·rintro i v ys Hi hv hi hle sm hY hP
  rw [List.length_append] at hi
  obtain ⟨a,s,tt,m,rfl,hq,hT,hs,ht⟩:=hP4.2 i v hv
  have ef:((zX sk ms W R.length).take (i+1)).filter qH=((zX sk ms W R.length).take i).filter qH++[(s,tt,m)].filter qH:=by
   rw [List.take_add_one,hq,List.filter_append]
   rfl
  refine ⟨_,rfl,jQ (SqT.of (sm _ _ hT)) rfl (⟨rfl,_,rfl,?_⟩)⟩
  by_cases hz:m=0
  ·refine zO (congrArg V.int hz) (mV sm hY hle (Same.refl _) ?_)
   rw [ef,List.filter_cons,if_neg (by unfold qH;rw [decide_eq_true (show m=0 from hz)];decide)]
   show PoursH Hi ys (_++[]) _
   rw [List.append_nil]
   exact hP
  refine z0 (fun e=>hz (V.int.inj e)) ⟨_,rfl,y8 hDf sm hY hle (by omega) (Same.refl _) ?_⟩
  rw [ef,List.filter_cons,if_pos (by unfold qH;rw [decide_eq_false (show ¬m=0 from hz)];rfl)]
  exact (hP.snoc (sm _ _ hT) hs ht).put hY
 rintro ys H5 s5 hY5 hle5 hP5
 rw [hP4.1,List.take_of_length_le (Nat.le_refl _)] at hP5
 have s15:=s14.trans s5
 refine ⟨wq,wt,Df,ws,ys,qE R L.length,ms,_,rfl,lS hTg (hW4.mono (QAt.same s5)) (s5 _ _ hwq4) (.inr (SqT.of (s15 _ _ h2))) hms hR100 hL100,hY5,hP5,?_,fun r H' gs zs s' hr0 hr hP' hS=>?_⟩
 ·rw [List.length_append] at hle5
  omega
 subst hsk
 exact q r H' gs zs (s15.trans s') (s15.free hr0) hr hP' hS
theorem C6:FnScope ["canal","ways","state","reach"] ["canal","ways","state","reach"] (jE bT):=⟨rfl,rfl,rfl,by decide +kernel,rfl,by decide +kernel,by decide +kernel⟩
theorem A9 {f:Addr} {fd:FuncData} (F:Fun K "has_no_berth" "has_no_berth" bT f fd) (T:Txt K mg cP cB cU cR cN tkS eA eW eS eF eO eK eL tkH w cC dV dW aU aD) (D_lying:Def P w K mg base 4 "lying" ["canal","ways","state","reach"] [] (tT (jD cP cB cU) cR cN)):FnOk P w K mg base jW 5 f fd ["canal","ways","state","reach"] (rQ (jD cP cB cU) cR cN):=by
 refine F.ok C6 (fun vs H Q E h=>?_) (fun cdv A outer s H vs Q E hr h=>?_)
 ·obtain ⟨x,wl,st,b,r,us,ys,d,ms,pl,D,R,L,N,rfl,hG,hrc,q⟩:=h
  rfl
 obtain ⟨x,wl,st,b,r,us,ys,d,ms,pl,D,R,L,N,rfl,hG,hrc,q⟩:=h
 have hu:_<cLine:=hr.units0
 have hu1:=jV hr
 refine ⟨_,(@jH _ _ _ (@jS _ _ _ _ (yI LE (jM D_lying hr rfl (@jA _ _ _ _ _ (pv 0) (@jA _ _ _ _ _ (pv 1) (@jA _ _ _ _ _ (pv 2) (@jA _ _ _ _ _ (pv 3) jB (by rfl)) (by rfl)) (by rfl)) (by rfl))) (jU (jI kA (jU (pv 0) rfl) (pv 3) (fun _ _=>rfl)) rfl) (j3 _)))),?_⟩
 obtain ⟨hc,hdr,hwl,hA,hst,hfl,hml⟩:=id hG
 have hc0:=hc
 obtain ⟨dx,rl,ll,nl,fs,rs,ls,nv,hx,hf,hrl,hll,hnl,hR,hL,hN,d1,d2,d3⟩:=hc
 obtain ⟨z,hz,yr,rfl,dy,gs,hyr,hg⟩:=hR.get hrc
 refine ⟨_,rfl,_,rfl,_,rfl,_,rfl,x,wl,st,_,us,ys,d,ms,pl,D,R,L,N,rfl,hc0,hwl,hA,hst,hfl,fun H3 s3=>?_⟩
 exact ⟨_,rfl,jT ((s3 _ _ hx)) (T.clN) (T.nN_reaches) (hf.1) (⟨_,rfl,j9 (SqL.of (s3 _ _ hrl)) (kL hz) (jT ((s3 _ _ hyr)) (T.clR) (T.nR_berths) (hg.2.2.2.1) (j0 (q H3 s3)))⟩)⟩
theorem DC:FnScope ["way","place"] ["way","place"] (jE bY):=⟨rfl,rfl,rfl,by decide +kernel,rfl,by decide +kernel,by decide +kernel⟩
theorem BH {f:Addr} {fd:FuncData} (F:Fun K "next_step" "next_step" bY f fd) (T:Txt K mg cP cB cU cR cN tkS eA eW eS eF eO eK eL tkH w cC dV dW aU aD) : FnOk P w K mg base jW 1 f fd ["way","place"] (uP):=by
 refine F.ok DC (fun vs H Q E h=>?_) (fun cdv A outer s H vs Q E hr h=>?_)
 ·obtain ⟨t,y,p,s₁,rfl,⟨t₂,st₂,vs₂,e,hw1,hw2,hw3⟩,hs,q⟩:=h
  rfl
 obtain ⟨t,y,p,s₁,rfl,⟨t₂,st₂,vs₂,e,hw1,hw2,hw3⟩,hs,q⟩:=h
 have hu:_<cLine:=hr.units0
 have hu1:=jV hr
 refine ⟨_,(@jH _ _ _ (@jS _ _ _ _ (jI ix_tup (jI ix_tup (pv 0) jC (fun _ _=>rfl)) (pv 1) (fun _ _=>rfl)))),?_⟩
 cases e
 obtain ⟨v3,hv3,hP3⟩:=hw3.get hs
 exact ⟨_,rfl,jQ (SqT.of hw1) rfl (⟨_,rfl,jQ (SqT.of hw2) (kL hv3) (q _ hP3)⟩)⟩
theorem DD:FnScope ["places","boat"] ["places","boat"] (jE QQ):=⟨rfl,rfl,rfl,by decide +kernel,rfl,by decide +kernel,by decide +kernel⟩
theorem BJ {f:Addr} {fd:FuncData} (F:Fun K "one_step_on" "one_step_on" QQ f fd) (T:Txt K mg cP cB cU cR cN tkS eA eW eS eF eO eK eL tkH w cC dV dW aU aD) : FnOk P w K mg base jW 1 f fd ["places","boat"] (sM):=by
 refine F.ok DD (fun vs H Q E h=>?_) (fun cdv A outer s H vs Q E hr h=>?_)
 ·obtain ⟨pt,pl,b,rfl,hpt,h100,q⟩:=h
  rfl
 obtain ⟨pt,pl,b,rfl,hpt,h100,q⟩:=h
 have hu:_<cLine:=hr.units0
 have hu1:=jV hr
 refine ⟨_,(@jH _ _ _ (@jS _ _ _ _ (q8 JF (by rfl) T.z_tuple PyProof.Rows.boot_tuple (jA (yB ["at","place","boat"] (qO 2 [1]) rfl (qW (jE QQ) rfl rfl (by decide +kernel) (by decide +kernel) (by decide +kernel)) (qX 2 [1] rfl rfl (by decide +kernel)) (GR (by rfl) T.z_enumerate (jA (pv 0) jB)) (fun _ _ _ _ _=>(zV (n:=2) K rfl (kY (j8 (i:=0) (show List.Nodup (["at","place","boat"]:List Str) from by decide +kernel) rfl (by first|exact Or.inl rfl|exact Or.inr rfl)) (kY (j8 (i:=1) (show List.Nodup (["at","place","boat"]:List Str) from by decide +kernel) rfl (by first|exact Or.inl rfl|exact Or.inr rfl)) yV)))) (fun _ _ _ _ _=>vP) (fun _ _ _ _ _=>(zB (kC kK (pv 0) (pv 2) (j3 _)) (@jJ _ _ _ _ _ _ _ _ j7 (pv 1) jC) (pv 1)))) jB)))),?_⟩
 refine ⟨_,rfl,pt,rfl,⟨_,SqT.of hpt⟩,fun D₁ hD₁=>?_⟩
 refine DT (K:=K) (a:=pt) (xs:=pl.map fun (p:Nat)=>V.int (p:Int)) (fun i σ Hi=>∃c1 c2:Option V,σ=[c1,c2,some (.int (b:Int))]∧Hi D₁=some (.lst (((JY pl b).take i).map fun (p:Nat)=>V.int (p:Int)))∧Same H Hi) ⟨none,none,rfl,jF,jL hD₁ _⟩ (fun i σ Hi _ ⟨_,_,_,_,s⟩=>SqT.of (s _ _ hpt)) ?_ ?_
 ·rintro i v σ Hi T₁ hv ⟨c1,c2,rfl,hY,sm⟩ hT
  have hi:i<pl.length:=by have:=(List.getElem?_eq_some_iff.mp hv).1;rw [List.length_map] at this;exact this
  rw [List.getElem?_map,List.getElem?_eq_getElem hi] at hv
  cases hv
  have u:=jL hT (.tup [V.int (i:Int),V.int ((pl[i]:Nat):Int)])
  have smu:=sm.trans u
  have hYu:=u _ _ hY
  refine ⟨T₁,_,rfl,SqT.of jF,rfl,_,_,rfl,_,_,rfl,rfl,?_⟩
  generalize upd Hi T₁ (.tup [V.int (i:Int),V.int ((pl[i]:Nat):Int)])=Hj at u smu hYu ⊢
  have eg:pl.getD i 0=pl[i]:=by rw [List.getD_eq_getElem?_getD,List.getElem?_eq_getElem hi];rfl
  refine vS (kU ?_)
  refine ⟨_,rfl,_,rfl,rfl,_,rfl,?_⟩
  by_cases h:i=b
  ·refine kT (by rw [h]) ⟨_,rfl,j0 (⟨_,hYu,qP (by rw [List.length_map,List.length_take,mF];omega),_,_,rfl,?_,qC hD₁ smu⟩)⟩
   rw [jF,pY hi,if_pos h,eg,List.map_append]
   rfl
  ·refine kB (fun e=>h (by have:=V.int.inj e;omega)) ⟨_,rfl,_,hYu,qP (by rw [List.length_map,List.length_take,mF];omega),_,_,rfl,?_,qC hD₁ smu⟩
   rw [jF,pY hi,if_neg h,eg,List.map_append]
   rfl
 rintro σ Hf ⟨c1,c2,rfl,hY,sm⟩
 rw [List.length_map,List.take_of_length_le (by rw [mF];exact Nat.le_refl _)] at hY
 refine ⟨D₁,_,rfl,.inl ⟨SqL.of hY,fun r hr0=>?_⟩⟩
 exact q r _ (sm.trans (jL hr0 _)) (sm.free hr0) jF
theorem C3:FnScope ["state","deed","waters"] ["state","deed","waters"] (jE bR):=⟨rfl,rfl,rfl,by decide +kernel,rfl,by decide +kernel,by decide +kernel⟩
theorem A5 {f:Addr} {fd:FuncData} (F:Fun K "counted_on" "counted_on" bR f fd) (T:Txt K mg cP cB cU cR cN tkS eA eW eS eF eO eK eL tkH w cC dV dW aU aD) (D_one_step_on:Def P w K mg base 1 "one_step_on" ["places","boat"] [] (sM)):FnOk P w K mg base jW 2 f fd ["state","deed","waters"] (rS):=by
 refine F.ok C3 (fun vs H Q E h=>?_) (fun cdv A outer s H vs Q E hr h=>?_)
 ·obtain ⟨st,dd,wo,de,d,ms,mo,pl,rfl,hst,hdd,hwo,h100,q⟩:=h
  rfl
 obtain ⟨st,dd,wo,de,d,ms,mo,pl,rfl,hst,hdd,hwo,h100,q⟩:=h
 have hu:_<cLine:=hr.units0
 have hu1:=jV hr
 refine ⟨_,(@jG _ _ _ _ _ (kF (kC kK (jI ix_tup (pv 1) jC (fun _ _=>rfl)) jR (j3 _)) (@jH _ _ _ (@jS _ _ _ _ (kZ (@jA _ _ _ _ _ (@jJ _ _ _ _ _ _ _ _ j7 (jI ix_tup (pv 0) jC (fun _ _=>rfl)) jC) (@jA _ _ _ _ _ (pv 2) (@jA _ _ _ _ _ (jI ix_tup (pv 0) jC (fun _ _=>rfl)) jB (by rfl)) (by rfl)) (by rfl))))) kR)
   (@jG _ _ _ _ _ (kF (kC kK (jI ix_tup (pv 1) jC (fun _ _=>rfl)) jR (j3 _)) (@jH _ _ _ (@jS _ _ _ _ (kZ (@jA _ _ _ _ _ (jI ix_tup (pv 0) jC (fun _ _=>rfl)) (@jA _ _ _ _ _ (pv 2) (@jA _ _ _ _ _ (jM D_one_step_on hr rfl (jA (jI ix_tup (pv 0) jC (fun _ _=>rfl)) (jA (jI ix_tup (pv 1) jC (fun _ _=>rfl)) jB))) jB (by rfl)) (by rfl)) (by rfl))))) kR)
   (@jH _ _ _ (@jS _ _ _ _ (kZ (@jA _ _ _ _ _ (jI ix_tup (pv 0) jC (fun _ _=>rfl)) (@jA _ _ _ _ _ (pv 2) (@jA _ _ _ _ _ (jI ix_tup (pv 0) jC (fun _ _=>rfl)) jB (by rfl)) (by rfl)) (by rfl))))))),?_⟩
 obtain ⟨wt,pt,hst1,hwt,hpt⟩:=id hst
 cases de with
 |night =>
  refine ⟨_,rfl,jQ (SqT.of hdd) rfl (⟨rfl,_,rfl,kT rfl ?_⟩)⟩
  refine ⟨_,rfl,jQ (SqT.of hst1) rfl (j0 (⟨_,rfl,_,rfl,jQ (SqT.of hst1) rfl (⟨zz3,fun t3 ht3=>?_⟩)⟩))⟩
  have s3:=jL ht3 (.tup [V.int (d+1),V.ref wo,V.ref pt])
  exact q t3 _ s3 ht3 ⟨wo,pt,jF,s3 _ _ hwo,s3 _ _ hpt⟩
 |pass b =>
  refine ⟨_,rfl,jQ (SqT.of hdd) rfl (⟨rfl,_,rfl,kB (fun e=>absurd (V.str.inj e) (by decide +kernel)) ?_⟩)⟩
  refine ⟨_,rfl,jQ (SqT.of hdd) rfl (⟨rfl,_,rfl,kT rfl ?_⟩)⟩
  refine ⟨_,rfl,jQ (SqT.of hst1) rfl (⟨_,rfl,_,rfl,jQ (SqT.of hst1) rfl (⟨_,rfl,jQ (SqT.of hdd) rfl (⟨pt,pl,b,rfl,hpt,h100,fun po H3 s3 hpo0 hpo=>?_⟩)⟩)⟩)⟩
  refine ⟨zz3,fun t3 ht3=>?_⟩
  have s4:=jL ht3 (.tup [V.int d,V.ref wo,V.ref po])
  exact q t3 _ (s3.trans s4) (s3.free ht3) ⟨wo,po,jF,s4 _ _ (s3 _ _ hwo),s4 _ _ hpo⟩
 |«let» k =>
  refine ⟨_,rfl,jQ (SqT.of hdd) rfl (⟨rfl,_,rfl,kB (fun e=>absurd (V.str.inj e) (by decide +kernel)) ?_⟩)⟩
  refine ⟨_,rfl,jQ (SqT.of hdd) rfl (⟨rfl,_,rfl,kB (fun e=>absurd (V.str.inj e) (by decide +kernel)) ?_⟩)⟩
  refine ⟨_,rfl,jQ (SqT.of hst1) rfl (⟨_,rfl,_,rfl,jQ (SqT.of hst1) rfl (⟨zz3,fun t3 ht3=>?_⟩)⟩)⟩
  have s3:=jL ht3 (.tup [V.int d,V.ref wo,V.ref pt])
  exact q t3 _ s3 ht3 ⟨wo,pt,jF,s3 _ _ hwo,s3 _ _ hpt⟩
theorem lI:FnScope ["canal","k","named","lock","vessel"] ["canal","k","named"] (jE QL):=⟨rfl,rfl,rfl,by decide +kernel,rfl,by decide +kernel,by decide +kernel⟩
theorem A4 {f:Addr} {fd:FuncData} (F:Fun K "by_number" "by_number" QL f fd) (T:Txt K mg cP cB cU cR cN tkS eA eW eS eF eO eK eL tkH w cC dV dW aU aD) (MM_Canal_basin:MeD P w K mg base 1 cN "basin" ["self","k"] (zN (jD cP cB cU) cR cN vE)) (MM_Canal_chamber:MeD P w K mg base 1 cN "chamber" ["self","k"] (zN (jD cP cB cU) cR cN vU)):FnOk P w K mg base jW 2 f fd ["canal","k","named"] (nM (jD cP cB cU) cR cN):=by
 refine F.ok lI (fun vs H Q E h=>?_) (fun cdv A outer s H vs Q E hr h=>?_)
 ·obtain ⟨x,p,k,l,rp,ps,D,R,L,N,rfl,hc,hl',hg,hp,hP,hok,h10,q⟩:=h
  rfl
 obtain ⟨x,p,k,l,rp,ps,D,R,L,N,rfl,hc,hl',hg,hp,hP,hok,h10,q⟩:=h
 have hu:_<cLine:=hr.units0
 have hu1:=jV hr
 refine ⟨_,(@jG _ _ _ _ _ (jZ (i:=3) lI.nd rfl (by first|exact Or.inl rfl|exact Or.inr rfl) (jI kA (jU (pv 0) rfl) (pv 1) (fun _ _=>rfl)))
   (@jG _ _ _ _ _ (jZ (i:=4) lI.nd rfl (by first|exact Or.inl rfl|exact Or.inr rfl) (HU (iB jR (jU (pv 3) rfl) (iB jR (jU (pv 3) rfl) (iB jR (yP MM_Canal_chamber hr (pv 0) (jA (pv 1) jB)) (iB jR (yP MM_Canal_basin hr (pv 0) (jA (pv 1) jB)) HP)))) rfl rfl (List.cons_ne_nil _ _) (by decide)))
   (@jH _ _ _ (@jS _ _ _ _ (yB ["source","target","amount","vessel"] (qO 3 [4]) rfl (qW (jE QL) rfl rfl (by decide +kernel) (by decide +kernel) (by decide +kernel)) (qX 3 [4] rfl rfl (by decide +kernel)) (vK (pv 2)) (fun _ _ _ _ _=>(zV (n:=3) K rfl (kY (j8 (i:=0) (show List.Nodup (["source","target","amount","vessel"]:List Str) from by decide +kernel) rfl (by first|exact Or.inl rfl|exact Or.inr rfl)) (kY (j8 (i:=1) (show List.Nodup (["source","target","amount","vessel"]:List Str) from by decide +kernel) rfl (by first|exact Or.inl rfl|exact Or.inr rfl)) (kY (j8 (i:=2) (show List.Nodup (["source","target","amount","vessel"]:List Str) from by decide +kernel) rfl (by first|exact Or.inl rfl|exact Or.inr rfl)) yV))))) (fun _ _ _ _ _=>vP) (fun _ _ _ _ _=>(kZ (@jA _ _ _ _ _ (t7 hu1 (pv 3) (pv 0) (fun _ _=>rfl)) (@jA _ _ _ _ _ (t7 hu1 (pv 3) (pv 1) (fun _ _=>rfl)) (@jA _ _ _ _ _ (pv 2) jB (by rfl)) (by rfl)) (by rfl))))))))),?_⟩
 have hc0:=hc
 obtain ⟨dx,rl,ll,nl,fs,rs,ls,nv,hx,hf,hrl,hll,hnl,hR,hL,hN,d1,d2,d3⟩:=hc
 obtain ⟨v,hv,y,rfl,dl,hl⟩:=hL.get hl'
 have hkL:k<L.length:=(List.getElem?_eq_some_iff.mp hl').1
 refine ⟨_,rfl,jT hx (T.clN) (T.nN_locks) (hf.2.1) (⟨_,rfl,j9 (SqL.of hll) (kL hv) (?_)⟩)⟩
 refine fun w hw0=>?_
 have s0:=jL hw0 (.dK [])
 refine ⟨_,rfl,jT ((s0 _ _ hl)) (T.cl l.kd) (T.n_high l.kd) (JV l.kd _ _ _ _ _) (⟨_,rfl,jT ((s0 _ _ hl)) (T.cl l.kd) (T.n_low l.kd) (J3 l.kd _ _ _ _ _) (⟨_,rfl,x,dx,_,rfl,(s0 _ _ hx),hf.no (by decide +kernel) (by decide +kernel) (by decide +kernel),_,rfl,x,D,R,L,N,_,rfl,hc0.same s0,_,rfl,x,dx,_,rfl,(s0 _ _ hx),hf.no (by decide +kernel) (by decide +kernel) (by decide +kernel),_,rfl,x,D,R,L,N,_,rfl,hc0.same s0,?_⟩)⟩)⟩
 refine ⟨jF,[(.inr "high",.int l.high),(.inr "low",.int l.low),(.inr "chamber",.int (vU R.length L.length (k:Int))),(.inr "basin",.int (vE R.length L.length (k:Int)))],rfl,(by show 4≤15;decide),?_⟩
 rw [KL]
 have s1:Same H (upd (upd H w (.dK [])) w (.dK (d4 (.int l.high) (.int l.low) (.int (vU R.length L.length (k:Int))) (.int (vE R.length L.length (k:Int)))))):=qC hw0 s0
 have hw:upd (upd H w (.dK [])) w (.dK (d4 (.int l.high) (.int l.low) (.int (vU R.length L.length (k:Int))) (.int (vE R.length L.length (k:Int))))) w=_:=jF
 generalize upd (upd H w (.dK [])) w (.dK (d4 (.int l.high) (.int l.low) (.int (vU R.length L.length (k:Int))) (.int (vE R.length L.length (k:Int)))))=H1 at s1 hw ⊢
 have hdg:∀(Hi:Hp) (s:Str),Same H1 Hi→okW s→DGet Hi w (.str s) (some (.int ((vesOf R.length L.length k l s:Nat):Int))):=fun Hi s sm hs=>by
  obtain ⟨e1,e2,e3,e4⟩:=LS (sm _ _ hw)
  obtain ⟨g1,g2,g3,g4,_⟩:=hg
  cases hs
  ·rw [fH,show ((l.high.toNat:Nat):Int)=l.high by omega];exact e1
  ·rw [fN,show ((l.low.toNat:Nat):Int)=l.low by omega];exact e2
  ·rw [QX,show ((R.length+k:Nat):Int)=vU R.length L.length (k:Int) by unfold vU;omega];exact e3
  ·rw [fD,show ((R.length+L.length+k:Nat):Int)=vE R.length L.length (k:Int) by unfold vE;omega];exact e4
 refine ⟨_,rfl,p,rfl,⟨_,SqL.of (s1 _ _ hp)⟩,fun D₁ hD₁=>?_⟩
 refine QU (K:=K) (a:=p) (xs:=rp) (fun i σ Hi=>∃(c1 c2 c3:Option V) (zs:List V),σ=[c1,c2,c3,some (.ref w)]∧Hi D₁=some (.lst zs)∧PoursH Hi zs ((ps.take i).map (v7 R.length L.length k l)) (R.length+2*L.length+2)∧Same H1 Hi)
  ⟨none,none,none,[],rfl,jF,PoursH.nil _ _,jL hD₁ _⟩ (fun i σ Hi _ ⟨_,_,_,_,_,_,_,s⟩=>SqL.of (s _ _ (s1 _ _ hp))) ?_ ?_
 ·rintro i v σ Hi hv ⟨c1,c2,c3,zs,rfl,hY,hA,sm⟩
  have hi:i<rp.length:=(List.getElem?_eq_some_iff.mp hv).1
  rw [hP.1] at hi
  obtain ⟨t,sS,sT,nN,rfl,hps,hT⟩:=hP.2 i v hv
  obtain ⟨o1,o2⟩:=hok _ (List.mem_of_getElem? hps)
  have hlz:zs.length≤i:=by rw [hA.1,List.length_map];exact List.length_take_le _ _
  refine ⟨t,_,rfl,SqT.of (sm _ _ (s1 _ _ hT)),rfl,_,_,rfl,_,_,rfl,_,_,rfl,rfl,?_⟩
  refine vS (kU ?_)
  refine ⟨_,rfl,_,rfl,w,_,rfl,hdg Hi _ sm o1,_,rfl,_,rfl,w,_,rfl,hdg Hi _ sm o2,_,rfl,zz3,fun tp htp=>?_⟩
  have u:=jL htp (.tup [V.int ((vesOf R.length L.length k l sS:Nat):Int),V.int ((vesOf R.length L.length k l sT:Nat):Int),V.int nN])
  refine ⟨zs,u _ _ hY,qP (by omega),_,_,_,zs++[.ref tp],rfl,jF,?_,qC hD₁ (sm.trans u)⟩
  rw [List.take_add_one,hps,List.map_append]
  exact ((hA.same u).snoc jF (dR o1 hg hkL) (dR o2 hg hkL)).put (u _ _ hY)
 rintro σ Hf ⟨c1,c2,c3,zs,rfl,hY,hA,sm⟩
 rw [hP.1,List.take_length] at hA
 exact q D₁ Hf zs (s1.trans sm) (s1.free hD₁) hY hA
theorem gK:FnScope ["canal","ways","state","boat","step","k","basin"] ["canal","ways","state","boat"] (jE cD):=⟨rfl,rfl,rfl,by decide +kernel,rfl,by decide +kernel,by decide +kernel⟩
theorem BM {f:Addr} {fd:FuncData} (F:Fun K "pass_pours" "pass_pours" cD f fd) (T:Txt K mg cP cB cU cR cN tkS eA eW eS eF eO eK eL tkH w cC dV dW aU aD) (D_next_step:Def P w K mg base 1 "next_step" ["way","place"] [] (uP)) (MM_Canal_basin:MeD P w K mg base 1 cN "basin" ["self","k"] (zN (jD cP cB cU) cR cN vE)) (D_by_number:Def P w K mg base 2 "by_number" ["canal","k","named"] [] (nM (jD cP cB cU) cR cN)) (D_passage:Def P w K mg base 4 "passage" ["lock","full","basin","way"] [] (rP (jD cP cB cU))) (MM_Canal_full:MeD P w K mg base 2 cN "full" ["self","waters","k"] (iF (jD cP cB cU) cR cN)):FnOk P w K mg base jW 6 f fd ["canal","ways","state","boat"] (nK (jD cP cB cU) cR cN):=by
 refine F.ok gK (fun vs H Q E h=>?_) (fun cdv A outer s H vs Q E hr h=>?_)
 ·obtain ⟨x,wl,st,b,us,ys,y,p,s₁,d,ms,pl,D,R,L,N,rfl,hG,hy,hpp,hs,q⟩:=h
  rfl
 obtain ⟨x,wl,st,b,us,ys,y,p,s₁,d,ms,pl,D,R,L,N,rfl,hG,hy,hpp,hs,q⟩:=h
 have hu:_<cLine:=hr.units0
 have hu1:=jV hr
 refine ⟨_,(@jG _ _ _ _ _ (jZ (i:=4) gK.nd rfl (by first|exact Or.inl rfl|exact Or.inr rfl) (jM D_next_step hr rfl (jA (jI kA (pv 1) (pv 3) (fun _ _=>rfl)) (jA (jI ix_tup (jI ix_tup (pv 2) jC (fun _ _=>rfl)) (pv 3) (fun _ _=>rfl)) jB))))
   (@jG _ _ _ _ _ (jZ (i:=5) gK.nd rfl (by first|exact Or.inl rfl|exact Or.inr rfl) (jI ix_tup (pv 4) jC (fun _ _=>rfl)))
   (@jG _ _ _ _ _ (jZ (i:=6) gK.nd rfl (by first|exact Or.inl rfl|exact Or.inr rfl) (jI ix_tup (jI ix_tup (pv 2) jC (fun _ _=>rfl)) (yP MM_Canal_basin hr (pv 0) (jA (pv 5) jB)) (fun _ _=>rfl)))
   (@jH _ _ _ (@jS _ _ _ _ (jM D_by_number hr rfl (@jA _ _ _ _ _ (pv 0) (@jA _ _ _ _ _ (pv 5) (@jA _ _ _ _ _ (jM D_passage hr rfl (@jA _ _ _ _ _ (jI kA (jU (pv 0) rfl) (pv 5) (fun _ _=>rfl)) (@jA _ _ _ _ _ (yP MM_Canal_full hr (pv 0) (jA (jI ix_tup (pv 2) jC (fun _ _=>rfl)) (jA (pv 5) jB))) (@jA _ _ _ _ _ (pv 6) (@jA _ _ _ _ _ (jI ix_tup (pv 4) jC (fun _ _=>rfl)) jB (by rfl)) (by rfl)) (by rfl)) (by rfl))) jB (by rfl)) (by rfl)) (by rfl)))))))),?_⟩
 obtain ⟨hc,hdr,hwl,hA,⟨wt,pt,hst1,hwt,hpt⟩,hfl,hml⟩:=id hG
 have hc0:=hc
 obtain ⟨dx,rl,ll,nl,fs,rs,ls,nv,hx,hf,hrl,hll,hnl,hR,hL,hN,d1,d2,d3⟩:=hc
 obtain ⟨v,hvy,t,st₂,vs₂,rfl,hw1,hw2,hw3⟩:=hA.get hy
 have hyok:=hfl.ok y (List.mem_of_getElem? hy)
 have hkL:=hyok.lt s₁ (List.mem_of_getElem? hs)
 obtain ⟨l,hl'⟩:∃l,L[s₁.1]?=some l:=⟨_,List.getElem?_eq_getElem hkL⟩
 obtain ⟨v4,hv4,y4,rfl,dl,hl⟩:=hL.get hl'
 have hgd:=hdr.lock _ _ hl'
 have ebas:vE R.length L.length (s₁.1:Int)=((R.length+L.length+s₁.1:Nat):Int):=by unfold vE;omega
 have hat:kQ (ms.map V.int) (vE R.length L.length (s₁.1:Int))=some (.int (ms.getD (R.length+L.length+s₁.1) 0)):=by rw [ebas];exact qD (by omega)
 refine ⟨_,rfl,_,rfl,wl,_,_,_,rfl,rfl,SqL.of hwl,kL hvy,_,rfl,st,_,_,_,rfl,rfl,SqT.of hst1,rfl,_,rfl,pt,_,_,_,rfl,rfl,SqT.of hpt,kL (v:=.int (p:Int)) (by rw [List.getElem?_map,hpp];rfl),t,y,p,s₁,rfl,⟨t,st₂,vs₂,rfl,hw1,hw2,hw3⟩,hs,fun v3 ⟨t3,e3,ht3⟩=>?_⟩
 subst e3
 refine ⟨_,rfl,t3,_,_,_,rfl,rfl,SqT.of ht3,rfl,?_⟩
 refine ⟨_,rfl,st,_,_,_,rfl,rfl,SqT.of hst1,rfl,_,rfl,x,dx,_,rfl,hx,hf.no (by decide +kernel) (by decide +kernel) (by decide +kernel),_,rfl,x,D,R,L,N,_,rfl,hc0,wt,_,_,_,rfl,rfl,SqT.of hwt,hat,?_⟩
 refine ⟨_,rfl,_,rfl,_,rfl,x,cN,dx,_,_,rfl,hx,T.clN,T.nN_locks,hf.2.1,_,rfl,ll,_,_,_,rfl,rfl,SqL.of hll,kL hv4,_,rfl,x,dx,_,rfl,hx,hf.no (by decide +kernel) (by decide +kernel) (by decide +kernel),_,rfl,st,_,_,_,rfl,rfl,SqT.of hst1,rfl,_,rfl,x,wt,D,R,L,N,ms,s₁.1,rfl,hc0,hwt,by omega,_,rfl,_,rfl,t3,_,_,_,rfl,rfl,SqT.of ht3,rfl,y4,l.kd,_,_,_,l.room,l.extra,_,_,s₁.2,(by rw [wE];rfl),⟨dl,hl⟩,fun r H1 rs s1 hr0 hr hP=>?_⟩
 refine ⟨x,r,s₁.1,l,rs,_,D,R,L,N,rfl,hc0.same s1,hl',hgd,hr,hP,fJ _ _ _ _ _ _,Nat.le_trans (rT _ _ _ _ _ _) (by decide),fun r2 H2 zs s2 hr20 hr2 hP2=>?_⟩
 refine q r2 H2 zs (s1.trans s2) (s1.free hr20) hr2 ?_
 unfold qU zP
 rw [hl',hml]
 exact hP2
theorem C9:FnScope ["canal","state","k"] ["canal","state","k"] (jE bW):=⟨rfl,rfl,rfl,by decide +kernel,rfl,by decide +kernel,by decide +kernel⟩
theorem BD {f:Addr} {fd:FuncData} (F:Fun K "let_pours" "let_pours" bW f fd) (T:Txt K mg cP cB cU cR cN tkS eA eW eS eF eO eK eL tkH w cC dV dW aU aD) (D_by_number:Def P w K mg base 2 "by_number" ["canal","k","named"] [] (nM (jD cP cB cU) cR cN)) (D_letting:Def P w K mg base 3 "letting" ["lock","basin"] [] (Q1 (jD cP cB cU) kP)) (MM_Canal_basin:MeD P w K mg base 1 cN "basin" ["self","k"] (zN (jD cP cB cU) cR cN vE)):FnOk P w K mg base jW 4 f fd ["canal","state","k"] (tV (jD cP cB cU) cR cN):=by
 refine F.ok C9 (fun vs H Q E h=>?_) (fun cdv A outer s H vs Q E hr h=>?_)
 ·obtain ⟨x,wl,st,k,us,ys,d,ms,pl,D,R,L,N,rfl,hG,hkL,q⟩:=h
  rfl
 obtain ⟨x,wl,st,k,us,ys,d,ms,pl,D,R,L,N,rfl,hG,hkL,q⟩:=h
 have hu:_<cLine:=hr.units0
 have hu1:=jV hr
 refine ⟨_,(@jH _ _ _ (@jS _ _ _ _ (jM D_by_number hr rfl (@jA _ _ _ _ _ (pv 0) (@jA _ _ _ _ _ (pv 2) (@jA _ _ _ _ _ (jM D_letting hr rfl (jA (jI kA (jU (pv 0) rfl) (pv 2) (fun _ _=>rfl)) (jA (jI ix_tup (jI ix_tup (pv 1) jC (fun _ _=>rfl)) (yP MM_Canal_basin hr (pv 0) (jA (pv 2) jB)) (fun _ _=>rfl)) jB))) jB (by rfl)) (by rfl)) (by rfl))))),?_⟩
 obtain ⟨hc,hdr,hwl,hA,⟨wt,pt,hst1,hwt,hpt⟩,hfl,hml⟩:=id hG
 have hc0:=hc
 obtain ⟨dx,rl,ll,nl,fs,rs,ls,nv,hx,hf,hrl,hll,hnl,hR,hL,hN,d1,d2,d3⟩:=hc
 obtain ⟨l,hl'⟩:∃l,L[k]?=some l:=⟨_,List.getElem?_eq_getElem hkL⟩
 obtain ⟨v4,hv4,y4,rfl,dl,hl⟩:=hL.get hl'
 have hgd:=hdr.lock _ _ hl'
 have hat:kQ (ms.map V.int) (vE R.length L.length (k:Int))=some (.int (ms.getD (R.length+L.length+k) 0)):=by
  rw [show vE R.length L.length (k:Int)=((R.length+L.length+k:Nat):Int) by unfold vE;omega]
  exact qD (by omega)
 refine ⟨_,rfl,_,rfl,_,rfl,jT hx (T.clN) (T.nN_locks) (hf.2.1) (⟨_,rfl,j9 (SqL.of hll) (kL hv4) (⟨_,rfl,jQ (SqT.of hst1) rfl (⟨_,rfl,x,dx,_,rfl,hx,hf.no (by decide +kernel) (by decide +kernel) (by decide +kernel),_,rfl,x,D,R,L,N,_,rfl,hc0,jQ (SqT.of hwt) hat (⟨y4,l.kd,_,_,_,l.room,l.extra,_,rfl,⟨dl,hl⟩,fun r H1 rs s1 hr0 hr hP=>?_⟩)⟩)⟩)⟩)⟩
 refine ⟨x,r,k,l,rs,_,D,R,L,N,rfl,hc0.same s1,hl',hgd,hr,hP,fR _ _ _ _,Nat.le_trans (JS _ _ _ _) (by decide),fun r2 H2 zs s2 hr20 hr2 hP2=>?_⟩
 refine q r2 H2 zs (s1.trans s2) (s1.free hr20) hr2 ?_
 unfold ZC
 rw [hl',hml]
 exact hP2
theorem C7:FnScope ["canal","waters","vessel"] ["canal","waters","vessel"] (jE bU):=⟨rfl,rfl,rfl,by decide +kernel,rfl,by decide +kernel,by decide +kernel⟩
theorem BA {f:Addr} {fd:FuncData} (F:Fun K "is_below_least" "is_below_least" bU f fd) (T:Txt K mg cP cB cU cR cN tkS eA eW eS eF eO eK eL tkH w cC dV dW aU aD) : FnOk P w K mg base jW 1 f fd ["canal","waters","vessel"] (wJ (jD cP cB cU) cR cN):=by
 refine F.ok C7 (fun vs H Q E h=>?_) (fun cdv A outer s H vs Q E hr h=>?_)
 ·obtain ⟨x,w,v,ms,D,R,L,N,rfl,hc,hw,hv,q⟩:=h
  rfl
 obtain ⟨x,w,v,ms,D,R,L,N,rfl,hc,hw,hv,q⟩:=h
 have hu:_<cLine:=hr.units0
 have hu1:=jV hr
 refine ⟨_,(@jH _ _ _ (@jS _ _ _ _ (uW (yI iS (pv 2) (qB qQ (by rfl) T.z_len PySem.boot_len (jA (jU (pv 0) rfl) jB)) (j3 _)) (uV (yI iS (jI ix_tup (pv 1) (pv 2) (fun _ _=>rfl)) (jU (jI kA (jU (pv 0) rfl) (pv 2) (fun _ _=>rfl)) rfl) (j3 _)))))),?_⟩
 obtain ⟨dx,rl,ll,nl,fs,rs,ls,nv,hx,hf,hrl,hll,hnl,hR,hL,hN,d1,d2,d3⟩:=hc
 refine ⟨_,rfl,_,rfl,jT hx (T.clN) (T.nN_reaches) (hf.1) (⟨rl,_,rfl,.inl (SqL.of hrl),_,_,rfl,rfl,_,rfl,?_⟩)⟩
 rw [hR.1]
 by_cases h:v<R.length
 ·obtain ⟨r,hr⟩:∃r,R[v]?=some r:=⟨_,List.getElem?_eq_getElem h⟩
  obtain ⟨z,hz,y,rfl,dy,gs,hy,hg⟩:=hR.get hr
  refine kT (by omega) ⟨_,rfl,_,rfl,jQ (SqT.of hw) (qD hv) (⟨_,rfl,jT hx (T.clN) (T.nN_reaches) (hf.1) (⟨_,rfl,j9 (SqL.of hrl) (kL hz) (jT hy (T.clR) (T.nR_least) (hg.2.1) (j0 (?_)))⟩)⟩)⟩
  rw [show zR R ms v=decide (ms.getD v 0<r.least) by unfold zR;rw [hr]] at q
  exact q
 ·refine kB (by omega) ?_
  rw [show zR R ms v=false by unfold zR;rw [List.getElem?_eq_none (by omega)]] at q
  exact q
theorem gJ:FnScope ["canal","waters","moved","held","pour"] ["canal","waters","moved"] (jE bS):=⟨rfl,rfl,rfl,by decide +kernel,rfl,by decide +kernel,by decide +kernel⟩
theorem A6 {f:Addr} {fd:FuncData} (F:Fun K "falls_short" "falls_short" bS f fd) (T:Txt K mg cP cB cU cR cN tkS eA eW eS eF eO eK eL tkH w cC dV dW aU aD) (D_poured_all:Def P w K mg base 1 "poured_all" ["waters","pours"] [] (fW K)) (D_is_below_least:Def P w K mg base 1 "is_below_least" ["canal","waters","vessel"] [] (wJ (jD cP cB cU) cR cN)):FnOk P w K mg base jW 2 f fd ["canal","waters","moved"] (sQ (jD cP cB cU) cR cN):=by
 refine F.ok gJ (fun vs H Q E h=>?_) (fun cdv A outer s H vs Q E hr h=>?_)
 ·obtain ⟨x,w,p,ms,zs,qs,D,R,L,N,rfl,hc,hw,hp,hP,h1000,q⟩:=h
  rfl
 obtain ⟨x,w,p,ms,zs,qs,D,R,L,N,rfl,hc,hw,hp,hP,h1000,q⟩:=h
 have hu:_<cLine:=hr.units0
 have hu1:=jV hr
 refine ⟨_,(@jG _ _ _ _ _ (jZ (i:=3) gJ.nd rfl (by first|exact Or.inl rfl|exact Or.inr rfl) (pv 1))
   (@jG _ _ _ _ _ (yK PassesOwn.never rfl (vK (pv 2)) (j8 (i:=4) gJ.nd rfl (by first|exact Or.inl rfl|exact Or.inr rfl))
    (@jG _ _ _ _ _ (jZ (i:=3) gJ.nd rfl (by first|exact Or.inl rfl|exact Or.inr rfl) (jM D_poured_all hr rfl (jA (pv 3) (jA (qG (jA (pv 4) jB)) jB))))
   (@jH _ _ _ (kF (v6 (jM D_is_below_least hr rfl (@jA _ _ _ _ _ (pv 0) (@jA _ _ _ _ _ (pv 3) (@jA _ _ _ _ _ (jI ix_tup (pv 4) jC (fun _ _=>rfl)) jB (by rfl)) (by rfl)) (by rfl)))) (@jH _ _ _ (@jS _ _ _ _ yM)) kR))))
   (@jH _ _ _ (@jS _ _ _ _ yM)))),?_⟩
 refine ⟨_,rfl,?_⟩
 refine ⟨_,rfl,p,rfl,⟨_,SqL.of hp⟩,dM (K:=K) (a:=p) (xs:=zs) (fun i σ Hi=>∃(h:Addr) (c:Option V),σ=[some (.ref x),some (.ref w),some (.ref p),some (.ref h),c]∧Hi h=some (.tup ((jY ms (qs.take i)).map V.int))∧yD R ms qs=yD R (jY ms (qs.take i)) (qs.drop i)∧Same H Hi)
  ⟨w,none,rfl,hw,rfl,Same.refl _⟩ (fun i σ Hi _ ⟨_,_,_,_,_,s⟩=>SqL.of (s _ _ hp)) ?_ ?_⟩
 ·rintro i v σ Hi hv ⟨h,c,rfl,hh,he,sm⟩
  obtain ⟨a,s,t,m,rfl,hq,hT,hs,ht⟩:=hP.2 i v hv
  have el:(jY ms (qs.take i)).length=ms.length:=JE _ _
  refine ⟨_,rfl,_,rfl,zz1,fun lp hlp=>?_⟩
  have u:=jL hlp (.lst [V.ref a])
  refine ⟨h,lp,_,[.ref a],[(s,t,m)],rfl,.inr (SqT.of (u _ _ hh)),SqL.of jF,(PoursH.nil _ _ |>.snoc (u _ _ (sm _ _ hT)) (by rw [el];exact hs) (by rw [el];exact ht)).pa,by rw [el];exact h1000,fun r H' s' hr0 hr=>?_⟩
  have sm2:=(sm.trans u).trans s'
  have ep:jY (jY ms (qs.take i)) [(s,t,m)]=jY ms (qs.take (i+1)):=by rw [lR ms qs i _ hq];rfl
  rw [ep] at hr
  have ed:qs.drop i=(s,t,m)::qs.drop (i+1):=(List.drop_eq_getElem_cons (List.getElem?_eq_some_iff.mp hq).1).trans (by rw [(List.getElem?_eq_some_iff.mp hq).2])
  have he2:yD R ms qs=(zR R (jY ms (qs.take (i+1))) s||yD R (jY ms (qs.take (i+1))) (qs.drop (i+1))):=by
   rw [he,ed]
   show (zR R (pour (jY ms (qs.take i)) (s,t,m)) s||yD R (pour (jY ms (qs.take i)) (s,t,m)) (qs.drop (i+1)))=_
   rw [lR ms qs i _ hq]
  have el2:(jY ms (qs.take (i+1))).length=ms.length:=JE _ _
  refine ⟨_,rfl,_,rfl,_,rfl,jQ (SqT.of (sm2 _ _ hT)) rfl (⟨x,r,s,_,D,R,L,N,rfl,hc.same sm2,hr,by rw [el2];exact hs,_,rfl,?_⟩)⟩
  cases hb:zR R (jY ms (qs.take (i+1))) s with
  |true =>
   refine kU ?_
   have:=q H' sm2
   rw [he2,hb] at this
   exact this
  |false =>
   refine qI ⟨r,_,rfl,hr,?_,sm2⟩
   rw [he2,hb]
   rfl
 rintro σ Hi ⟨h,c,rfl,hh,he,sm⟩
 rw [hP.1,List.drop_length] at he
 have:=q Hi sm
 rw [he] at this
 exact this
theorem lL:FnScope ["canal","ways","state","boat","place","target"] ["canal","ways","state","boat"] (jE cT):=⟨rfl,rfl,rfl,by decide +kernel,rfl,by decide +kernel,by decide +kernel⟩
theorem BW {f:Addr} {fd:FuncData} (F:Fun K "why_no_pass" "why_no_pass" cT f fd) (T:Txt K mg cP cB cU cR cN tkS eA eW eS eF eO eK eL tkH w cC dV dW aU aD) (D_reach_of:Def P w K mg base 3 "reach_of" ["canal","way","place"] [] (mK (jD cP cB cU) cR cN)) (D_has_no_berth:Def P w K mg base 5 "has_no_berth" ["canal","ways","state","reach"] [] (rQ (jD cP cB cU) cR cN)) (D_falls_short:Def P w K mg base 2 "falls_short" ["canal","waters","moved"] [] (sQ (jD cP cB cU) cR cN)) (D_pass_pours:Def P w K mg base 6 "pass_pours" ["canal","ways","state","boat"] [] (nK (jD cP cB cU) cR cN)):FnOk P w K mg base jW 7 f fd ["canal","ways","state","boat"] (uM (jD cP cB cU) cR cN):=by
  refine F.ok lL (fun vs H Q E h=>?_) (fun cdv A outer s H vs Q E hr h=>?_)
  · obtain ⟨x,wl,st,b,us,ys,d,ms,pl,D,R,L,N,rfl,hG,hb,q⟩:=h
    rfl
  obtain ⟨x,wl,st,b,us,ys,d,ms,pl,D,R,L,N,rfl,hG,hb,q⟩:=h
  have hu:_<cLine:=hr.units0
  have hu1:=jV hr
  refine ⟨_,(@jG _ _ _ _ _ (jZ (i:=4) lL.nd rfl (by first|exact Or.inl rfl|exact Or.inr rfl) (jI ix_tup (jI ix_tup (pv 2) jC (fun _ _=>rfl)) (pv 3) (fun _ _=>rfl)))
      (@jG _ _ _ _ _ (kF (kC kK (jM D_reach_of hr rfl (@jA _ _ _ _ _ (pv 0) (@jA _ _ _ _ _ (jI kA (pv 1) (pv 3) (fun _ _=>rfl)) (@jA _ _ _ _ _ (pv 4) jB (by rfl)) (by rfl)) (by rfl))) (vQ (v:=.int (-1)) rfl T.g_HOME ⟨_,rfl⟩) (j3 _)) (@jH _ _ _ (@jS _ _ _ _ jR)) kR)
      (@jG _ _ _ _ _ (jZ (i:=5) lL.nd rfl (by first|exact Or.inl rfl|exact Or.inr rfl) (jM D_reach_of hr rfl (@jA _ _ _ _ _ (pv 0) (@jA _ _ _ _ _ (jI kA (pv 1) (pv 3) (fun _ _=>rfl)) (@jA _ _ _ _ _ (@jJ _ _ _ _ _ _ _ _ j7 (pv 4) jC) jB (by rfl)) (by rfl)) (by rfl))))
      (t4 (kF (PW.pt (uT (kC zZ (pv 5) (vQ (v:=.int (-1)) rfl T.g_HOME ⟨_,rfl⟩) (j3 _)) (tZ (v6 (jM D_has_no_berth hr rfl (@jA _ _ _ _ _ (pv 0) (@jA _ _ _ _ _ (pv 1) (@jA _ _ _ _ _ (pv 2) (@jA _ _ _ _ _ (pv 5) jB (by rfl)) (by rfl)) (by rfl)) (by rfl))))))) (@jH _ _ _ (@jS _ _ _ _ jR)) kR)
      (@jG _ _ _ _ _ (kF (v6 (jM D_falls_short hr rfl (@jA _ _ _ _ _ (pv 0) (@jA _ _ _ _ _ (jI ix_tup (pv 2) jC (fun _ _=>rfl)) (@jA _ _ _ _ _ (jM D_pass_pours hr rfl (@jA _ _ _ _ _ (pv 0) (@jA _ _ _ _ _ (pv 1) (@jA _ _ _ _ _ (pv 2) (@jA _ _ _ _ _ (pv 3) jB (by rfl)) (by rfl)) (by rfl)) (by rfl))) jB (by rfl)) (by rfl)) (by rfl)))) (@jH _ _ _ (@jS _ _ _ _ jR)) kR)
      (@jH _ _ _ (@jS _ _ _ _ jR))))))),?_⟩
  obtain ⟨hc,hdr,hwl,hA,hst,hfl,hml⟩:=id hG
  obtain ⟨wt,pt,hst1,hwt,hpt⟩:=id hst
  have hc0:=hc
  obtain ⟨dx,rl,ll,nl,fs,rs,ls,nv,hx,hf,hrl,hll,hnl,hR,hL,hN,d1,d2,d3⟩:=hc
  have b1:=hdr.r8
  have b2:=hdr.l8
  obtain ⟨y,hy⟩:∃y,ys[b]?=some y:=⟨_,List.getElem?_eq_getElem hb⟩
  obtain ⟨p,hp⟩:∃p,pl[b]?=some p:=⟨_,List.getElem?_eq_getElem (by rw [hfl.len];exact hb)⟩
  obtain ⟨v,hvy,hwy⟩:=hA.get hy
  obtain ⟨t,st₂,vs₂,rfl,hw1,hw2,hw3⟩:=id hwy
  have hple:=hfl.le b y p hy hp
  have hyok:=hfl.ok y (List.mem_of_getElem? hy)
  have ey:ys.getD b (0,[])=y:=by rw [List.getD_eq_getElem?_getD,hy];rfl
  have ep:pl.getD b 0=p:=by rw [List.getD_eq_getElem?_getD,hp];rfl
  unfold vV at q
  rw [ey,ep] at q
  refine ⟨_,rfl,jQ (SqT.of hst1) rfl (⟨_,rfl,jQ (SqT.of hpt) (kL (v:=.int (p:Int)) (by rw [List.getElem?_map,hp];rfl)) (?_)⟩)⟩
  refine ⟨_,rfl,_,rfl,_,rfl,j9 (SqL.of hwl) (kL hvy) (⟨_,rfl,x,t,y,p,D,R,L,N,rfl,hc0,hwy,hyok,hple,fun H1 s1=>⟨rfl,_,rfl,?_⟩⟩)⟩
  by_cases h0:p=y.2.length
  · refine kT (by rw [h0,t5]) ?_
    have:=q H1 s1
    rw [if_pos h0] at this
    exact this
  have hlt:p<y.2.length:=by omega
  have hpin:=uU hdr hyok hlt
  refine kB (fun e=>by have:=V.int.inj e;omega) ?_
  have q:∀H',Same H H'→Q (.str (if ¬qT L y (p+1) = -1∧fM R (qT L y (p+1))≤(((y0 L ys pl).countP fun z=>decide (z=qT L y (p+1)):Nat):Int) then "berth" else if yD R ms (qU R.length L ms (y.2.getD p (0,true)))=true then "water" else "")) H':=fun H' s'=>by
    have:=q H' s'
    rw [if_neg h0] at this
    exact this
  have s01:=s1
  refine ⟨_,rfl,_,rfl,_,rfl,j9 (SqL.of (s1 _ _ hwl)) (kL hvy) (⟨_,rfl,j0 (⟨x,t,y,p+1,D,R,L,N,rfl,hc0.same s1,WyAt.same s1 _ _ hwy,hyok,by omega,fun H2 s2=>?_⟩)⟩)⟩
  have s02:=s1.trans s2
  refine ⟨fun σ' Ha=>σ'=[some (.ref x),some (.ref wl),some (.ref st),some (.int (b:Int)),some (.int (p:Int)),some (.int (qT L y (p+1)))]∧Same H Ha∧¬(¬qT L y (p+1) = -1∧fM R (qT L y (p+1))≤(((y0 L ys pl).countP fun z=>decide (z=qT L y (p+1)):Nat):Int)),?_,?_⟩
  · refine ⟨_,rfl,rfl,_,rfl,?_⟩
    by_cases h1:qT L y (p+1) = -1
    · exact zO (congrArg V.int h1) (qI ⟨rfl,s02,fun z=>z.1 h1⟩)
    refine z0 (fun e=>h1 (V.int.inj e)) ?_
    have hlt2:p+1<y.2.length:=by
      by_cases e:p+1=y.2.length
      · rw [e,t5] at h1;exact absurd rfl h1
      · omega
    have hpin2:=uU hdr hyok hlt2
    obtain ⟨tn,htn⟩:∃tn:Nat,qT L y (p+1)=(tn:Int):=⟨(qT L y (p+1)).toNat,by omega⟩
    rw [htn] at h1 ⊢
    obtain ⟨r,hr⟩:∃r,R[tn]?=some r:=⟨_,List.getElem?_eq_getElem (by omega)⟩
    have eb:fM R (tn:Int)=r.berths:=by unfold fM;rw [show ((tn:Nat):Int).toNat=tn from rfl,hr]
    refine ⟨_,rfl,_,rfl,_,rfl,_,rfl,x,wl,st,tn,r,us,ys,d,ms,pl,D,R,L,N,rfl,hG.same s02,hr,fun H3 s3=>⟨_,rfl,?_⟩⟩
    have s03:=s02.trans s3
    by_cases h2:r.berths≤(((y0 L ys pl).countP fun z=>decide (z=(tn:Int)):Nat):Int)
    · rw [decide_eq_true h2]
      refine kU ?_
      have:=q H3 s03
      rw [htn,eb,if_pos ⟨h1,h2⟩] at this
      exact this
    · rw [decide_eq_false h2]
      exact qI ⟨rfl,s03,fun z=>h2 (by rw [eb] at z;exact z.2)⟩
  rintro σ' H3 ⟨rfl,s03,hno⟩
  obtain ⟨s₁,hs⟩:∃s,y.2[p]?=some s:=⟨_,List.getElem?_eq_getElem hlt⟩
  have es:y.2.getD p (0,true)=s₁:=by rw [List.getD_eq_getElem?_getD,hs];rfl
  refine ⟨_,rfl,_,rfl,jQ (SqT.of (s03 _ _ hst1)) rfl (⟨_,rfl,_,rfl,_,rfl,_,rfl,x,wl,st,b,us,ys,y,p,s₁,d,ms,pl,D,R,L,N,rfl,hG.same s03,hy,hp,hs,fun r H4 zs s4 hr0 hr hP=>?_⟩)⟩
  have s04:=s03.trans s4
  refine ⟨x,wt,r,ms,zs,_,D,R,L,N,rfl,hc0.same s04,s04 _ _ hwt,hr,hP,by omega,fun H5 s5=>⟨_,rfl,?_⟩⟩
  have:=q H5 (s04.trans s5)
  rw [if_neg hno,es] at this
  cases hsb:yD R ms (qU R.length L ms s₁) with
  |true =>
    refine kU ?_
    rw [hsb,if_pos rfl] at this
    exact this
  |false =>
    refine qI ?_
    rw [hsb,if_neg (by decide)] at this
    exact this
theorem DI:FnScope ["canal","ways","state","deed"] ["canal","ways","state","deed"] (jE cV):=⟨rfl,rfl,rfl,by decide +kernel,rfl,by decide +kernel,by decide +kernel⟩
theorem BX {f:Addr} {fd:FuncData} (F:Fun K "why_not" "why_not" cV f fd) (T:Txt K mg cP cB cU cR cN tkS eA eW eS eF eO eK eL tkH w cC dV dW aU aD) (D_why_no_pass:Def P w K mg base 7 "why_no_pass" ["canal","ways","state","boat"] [] (uM (jD cP cB cU) cR cN)) (MM_Canal_full:MeD P w K mg base 2 cN "full" ["self","waters","k"] (iF (jD cP cB cU) cR cN)):FnOk P w K mg base jW 8 f fd ["canal","ways","state","deed"] (oA (jD cP cB cU) cR cN):=by
 refine F.ok DI (fun vs H Q E h=>?_) (fun cdv A outer s H vs Q E hr h=>?_)
 ·obtain ⟨x,wl,st,dd,de,us,ys,d,ms,pl,D,R,L,N,rfl,hG,hdd,hin,q⟩:=h
  rfl
 obtain ⟨x,wl,st,dd,de,us,ys,d,ms,pl,D,R,L,N,rfl,hG,hdd,hin,q⟩:=h
 have hu:_<cLine:=hr.units0
 have hu1:=jV hr
 refine ⟨_,(@jG _ _ _ _ _ (kF (kC kK (jI ix_tup (pv 3) jC (fun _ _=>rfl)) jR (j3 _)) (@jH _ _ _ (@jS _ _ _ _ (jM D_why_no_pass hr rfl (@jA _ _ _ _ _ (pv 0) (@jA _ _ _ _ _ (pv 1) (@jA _ _ _ _ _ (pv 2) (@jA _ _ _ _ _ (jI ix_tup (pv 3) jC (fun _ _=>rfl)) jB (by rfl)) (by rfl)) (by rfl)) (by rfl))))) kR)
   (@jG _ _ _ _ _ (kF (kC kK (jI ix_tup (pv 3) jC (fun _ _=>rfl)) jR (j3 _)) (@jH _ _ _ (@jS _ _ _ _ (zB (v6 (yP MM_Canal_full hr (pv 0) (jA (jI ix_tup (pv 2) jC (fun _ _=>rfl)) (jA (jI ix_tup (pv 3) jC (fun _ _=>rfl)) jB)))) jR jR))) kR)
   (@jH _ _ _ (@jS _ _ _ _ (zB (kC iS (jI ix_tup (pv 2) jC (fun _ _=>rfl)) (qB qQ (by rfl) T.z_len PySem.boot_len (jA (jU (pv 0) rfl) jB)) (j3 _)) jR jR))))),?_⟩
 obtain ⟨hc,hdr,hwl,hA,hst,hfl,hml⟩:=id hG
 obtain ⟨wt,pt,hst1,hwt,hpt⟩:=id hst
 have hc0:=hc
 obtain ⟨dx,rl,ll,nl,fs,rs,ls,nv,hx,hf,hrl,hll,hnl,hR,hL,hN,d1,d2,d3⟩:=hc
 cases de with
 |pass b =>
  refine ⟨_,rfl,jQ (SqT.of hdd) rfl (⟨rfl,_,rfl,kT rfl ?_⟩)⟩
  exact ⟨_,rfl,_,rfl,_,rfl,_,rfl,jQ (SqT.of hdd) rfl (⟨x,wl,st,b,us,ys,d,ms,pl,D,R,L,N,rfl,hG,hin,q⟩)⟩
 |«let» k =>
  have hk:k<L.length:=hin
  refine ⟨_,rfl,jQ (SqT.of hdd) rfl (⟨rfl,_,rfl,kB (fun e=>absurd (V.str.inj e) (by decide +kernel)) ?_⟩)⟩
  refine ⟨_,rfl,jQ (SqT.of hdd) rfl (⟨rfl,_,rfl,kT rfl ?_⟩)⟩
  refine ⟨_,rfl,x,dx,_,rfl,hx,hf.no (by decide +kernel) (by decide +kernel) (by decide +kernel),_,rfl,jQ (SqT.of hst1) rfl (⟨_,rfl,jQ (SqT.of hdd) rfl (⟨x,wt,D,R,L,N,ms,k,rfl,hc0,hwt,by omega,_,rfl,?_⟩)⟩)⟩
  have:=q H (Same.refl _)
  change Q (.str (if zP R.length ms k=true then "" else "empty")) H at this
  unfold zP at this
  by_cases h:0<ms.getD (R.length+k) 0
  ·rw [if_pos (decide_eq_true h)] at this
   exact kT h this
  ·rw [if_neg (by rw [decide_eq_true_eq];exact h)] at this
   exact kB h this
 |night =>
  refine ⟨_,rfl,jQ (SqT.of hdd) rfl (⟨rfl,_,rfl,kB (fun e=>absurd (V.str.inj e) (by decide +kernel)) ?_⟩)⟩
  refine ⟨_,rfl,jQ (SqT.of hdd) rfl (⟨rfl,_,rfl,kB (fun e=>absurd (V.str.inj e) (by decide +kernel)) ?_⟩)⟩
  refine ⟨_,rfl,jQ (SqT.of hst1) rfl (⟨_,rfl,jT hx (T.clN) (T.nN_nights) (hf.2.2.1) (⟨nl,_,rfl,.inl (SqL.of hnl),_,_,rfl,rfl,_,rfl,?_⟩)⟩)⟩
  rw [hN.1]
  have:=q H (Same.refl _)
  change Q (.str (if d<(N.length:Int) then "" else "over")) H at this
  by_cases h:d<(N.length:Int)
  ·rw [if_pos h] at this
   exact kT h this
  ·rw [if_neg h] at this
   exact kB h this
theorem gL:FnScope ["canal","ways","state","deed","word","passes","moved"] ["canal","ways","state","deed"] (jE cI):=⟨rfl,rfl,rfl,by decide +kernel,rfl,by decide +kernel,by decide +kernel⟩
theorem BQ {f:Addr} {fd:FuncData} (F:Fun K "pours" "pours" cI f fd) (T:Txt K mg cP cB cU cR cN tkS eA eW eS eF eO eK eL tkH w cC dV dW aU aD) (D_why_not:Def P w K mg base 8 "why_not" ["canal","ways","state","deed"] [] (oA (jD cP cB cU) cR cN)) (D_night_pours:Def P w K mg base 5 "night_pours" ["canal","state","weather"] [] (sU K (jD cP cB cU) cR cN)) (D_pass_pours:Def P w K mg base 6 "pass_pours" ["canal","ways","state","boat"] [] (nK (jD cP cB cU) cR cN)) (D_let_pours:Def P w K mg base 4 "let_pours" ["canal","state","k"] [] (tV (jD cP cB cU) cR cN)) (D_with_spills:Def P w K mg base 4 "with_spills" ["weirs","waters","pours"] [] (nJ K)) (MM_Canal_weirs:MeD P w K mg base 2 cN "weirs" ["self"] (gY (jD cP cB cU) cR cN)):FnOk P w K mg base (qK P w) 9 f fd ["canal","ways","state","deed"] (mX (jD cP cB cU) cR cN eW):=by
 refine F.okX gL (fun vs H Q E h=>?_) (fun cdv A outer s H vs Q E hr h=>?_)
 ·obtain ⟨x,wl,st,dd,de,us,ys,d,ms,pl,D,R,L,N,rfl,hG,hdd,hin,hd0,qv,qe⟩:=h
  rfl
 obtain ⟨x,wl,st,dd,de,us,ys,d,ms,pl,D,R,L,N,rfl,hG,hdd,hin,hd0,qv,qe⟩:=h
 have hu:_<cLine:=hr.units0
 have hu1:=jV hr
 refine ⟨_,(@jG _ _ _ _ _ (jZ (i:=4) gL.nd rfl (by first|exact Or.inl rfl|exact Or.inr rfl) (jM D_why_not hr rfl (@jA _ _ _ _ _ (pv 0) (@jA _ _ _ _ _ (pv 1) (@jA _ _ _ _ _ (pv 2) (@jA _ _ _ _ _ (pv 3) jB (by rfl)) (by rfl)) (by rfl)) (by rfl))))
   (@jG _ _ _ _ _ (kF (kC zZ (pv 4) jR (j3 _)) (@jH _ _ _ (zA y9 rfl rfl T.c_NotNow T.x_NotNow (jA (pv 4) jB))) kR)
   (@jG _ _ _ _ _ (kF (kC kK (jI ix_tup (pv 3) jC (fun _ _=>rfl)) jR (j3 _)) (@jH _ _ _ (@jS _ _ _ _ (jM D_night_pours hr rfl (@jA _ _ _ _ _ (pv 0) (@jA _ _ _ _ _ (pv 2) (@jA _ _ _ _ _ (jI kA (jU (pv 0) rfl) (jI ix_tup (pv 2) jC (fun _ _=>rfl)) (fun _ _=>rfl)) jB (by rfl)) (by rfl)) (by rfl))))) kR)
   (@jG _ _ _ _ _ (jZ (i:=5) gL.nd rfl (by first|exact Or.inl rfl|exact Or.inr rfl) (yI kK (jI ix_tup (pv 3) jC (fun _ _=>rfl)) jR (j3 _)))
   (@jG _ _ _ _ _ (jZ (i:=6) gL.nd rfl (by first|exact Or.inl rfl|exact Or.inr rfl) (zB (v6 (pv 5)) (jM D_pass_pours hr rfl (@jA _ _ _ _ _ (pv 0) (@jA _ _ _ _ _ (pv 1) (@jA _ _ _ _ _ (pv 2) (@jA _ _ _ _ _ (jI ix_tup (pv 3) jC (fun _ _=>rfl)) jB (by rfl)) (by rfl)) (by rfl)) (by rfl))) (jM D_let_pours hr rfl (@jA _ _ _ _ _ (pv 0) (@jA _ _ _ _ _ (pv 2) (@jA _ _ _ _ _ (jI ix_tup (pv 3) jC (fun _ _=>rfl)) jB (by rfl)) (by rfl)) (by rfl)))))
   (@jH _ _ _ (@jS _ _ _ _ (jM D_with_spills hr rfl (@jA _ _ _ _ _ (J9 MM_Canal_weirs hr (pv 0)) (@jA _ _ _ _ _ (jI ix_tup (pv 2) jC (fun _ _=>rfl)) (@jA _ _ _ _ _ (pv 6) jB (by rfl)) (by rfl)) (by rfl)))))))))),?_⟩
 obtain ⟨hc,hdr,hwl,hA,hst,hfl,hml⟩:=id hG
 obtain ⟨wt,pt,hst1,hwt,hpt⟩:=id hst
 have hc0:=hc
 obtain ⟨dx,rl,ll,nl,fs,rs,ls,nv,hx,hf,hrl,hll,hnl,hR,hL,hN,d1,d2,d3⟩:=hc
 have b1:=hdr.r8
 have b2:=hdr.l8
 have hTg:=gN hdr
 refine ⟨_,rfl,_,rfl,_,rfl,_,rfl,x,wl,st,dd,de,us,ys,d,ms,pl,D,R,L,N,rfl,hG,hdd,hin,fun H1 s1=>?_⟩
 refine ⟨_,rfl,rfl,_,rfl,?_⟩
 by_cases hw:QB R L N.length ys d ms pl de=""
 rotate_left
 ·exact z0 (fun e=>hw (V.str.inj e)) ⟨_,rfl,by show 1≤sizeLine;decide,qe hw _ s1⟩
 refine zO (congrArg V.str hw) ?_
 have qv:=qv hw
 have hdd1:=s1 _ _ hdd
 have hst11:=s1 _ _ hst1
 cases de with
 |night =>
  have hdN:d<(N.length:Int):=by
   change (if d<(N.length:Int) then ("":Str) else "over")="" at hw
   by_cases h:d<(N.length:Int)
   ·exact h
   ·rw [if_neg h] at hw;exact absurd hw (by decide +kernel)
  obtain ⟨dn,hdn⟩:∃dn:Nat,d=(dn:Int):=⟨d.toNat,by omega⟩
  subst hdn
  obtain ⟨W,hWn⟩:∃W,N[dn]?=some W:=⟨_,List.getElem?_eq_getElem (by omega)⟩
  obtain ⟨v,hv,wn,qs,rfl,hwn,hqs,_⟩:=hN.get hWn
  have eW:N.getD (dn:Int).toNat []=W:=by rw [Int.toNat_natCast,List.getD_eq_getElem?_getD,hWn];rfl
  refine ⟨_,rfl,jQ (SqT.of hdd1) rfl (⟨rfl,_,rfl,kT rfl ?_⟩)⟩
  refine ⟨_,rfl,_,rfl,_,rfl,jT ((s1 _ _ hx)) (T.clN) (T.nN_nights) (hf.2.2.1) (⟨_,rfl,jQ (SqT.of hst11) rfl (j9 (SqL.of (s1 _ _ hnl)) (kL hv) (⟨x,st,wn,_,ms,_,qs,W,D,R,L,N,rfl,hc0.same s1,hst.toI.same s1,s1 _ _ hwn,hqs.mono (QAt.same s1),hdr.night W (List.mem_of_getElem? hWn),hml,by omega,by omega,hTg,fun r H2 gs zs s2 hr0 hr hP hS=>?_⟩))⟩)⟩
  refine qv r H2 gs zs (s1.trans s2) (s1.free hr0) hr ?_ ?_
  ·show PoursH H2 zs ((zX (R.length+2*L.length+1) ms (N.getD (dn:Int).toNat []) R.length).filter qH++_) _
   rw [eW]
   exact hP
  ·show z9 _ (jY ms ((zX (R.length+2*L.length+1) ms (N.getD (dn:Int).toNat []) R.length).filter qH)) gs
   rw [eW]
   exact hS
 |pass b =>
  have hb:b<ys.length:=hin
  obtain ⟨y,hy⟩:∃y,ys[b]?=some y:=⟨_,List.getElem?_eq_getElem hb⟩
  obtain ⟨p,hp⟩:∃p,pl[b]?=some p:=⟨_,List.getElem?_eq_getElem (by rw [hfl.len];exact hb)⟩
  have hple:=hfl.le b y p hy hp
  have ey:ys.getD b (0,[])=y:=by rw [List.getD_eq_getElem?_getD,hy];rfl
  have ep:pl.getD b 0=p:=by rw [List.getD_eq_getElem?_getD,hp];rfl
  have hne:=GH hw
  rw [ey,ep] at hne
  obtain ⟨s₁,hs⟩:∃s,y.2[p]?=some s:=⟨_,List.getElem?_eq_getElem (by omega)⟩
  have es:y.2.getD p (0,true)=s₁:=by rw [List.getD_eq_getElem?_getD,hs];rfl
  refine ⟨_,rfl,jQ (SqT.of hdd1) rfl (⟨rfl,_,rfl,kB (fun e=>absurd (V.str.inj e) (by decide +kernel)) ?_⟩)⟩
  refine ⟨_,rfl,jQ (SqT.of hdd1) rfl (⟨rfl,?_⟩)⟩
  rw [decide_eq_true rfl]
  refine ⟨_,rfl,_,rfl,kU ?_⟩
  refine ⟨_,rfl,_,rfl,_,rfl,_,rfl,jQ (SqT.of hdd1) rfl (⟨x,wl,st,b,us,ys,y,p,s₁,d,ms,pl,D,R,L,N,rfl,hG.same s1,hy,hp,hs,fun m H2 zs s2 hm0 hm hP=>?_⟩)⟩
  have s12:=s1.trans s2
  refine ⟨_,rfl,x,dx,_,rfl,(s12 _ _ hx),hf.no (by decide +kernel) (by decide +kernel) (by decide +kernel),x,D,R,L,N,rfl,hc0.same s12,by omega,fun wq ws H3 s3 hwq0 hwq hW=>?_⟩
  have s13:=s12.trans s3
  have hl:=hP.1
  refine ⟨_,rfl,jQ (SqT.of (s13 _ _ hst1)) rfl (⟨_,rfl,wq,wt,m,ws,zs,qE R L.length,ms,_,rfl,lS hTg hW hwq (.inr (SqT.of (s13 _ _ hwt))) hml (by omega) (by omega),s3 _ _ hm,hP.same s3,?_,fun r H4 gs zs4 s4 hr0 hr hP4 hS=>?_⟩)⟩
  ·rw [hl]
   exact Nat.le_trans (FI _ _ _ _) (by decide)
  have e:z3 R L N ys d ms pl (.pass b)=qU R.length L ms s₁:=by show qU R.length L ms _=_;rw [ey,ep,es]
  refine qv r H4 gs zs4 (s13.trans s4) (s13.free hr0) hr ?_ ?_
  ·unfold yC;rw [e];exact hP4
  ·rw [e];exact hS
 |«let» k =>
  have hk:k<L.length:=hin
  refine ⟨_,rfl,jQ (SqT.of hdd1) rfl (⟨rfl,_,rfl,kB (fun e=>absurd (V.str.inj e) (by decide +kernel)) ?_⟩)⟩
  refine ⟨_,rfl,jQ (SqT.of hdd1) rfl (⟨rfl,?_⟩)⟩
  rw [decide_eq_false (fun e=>absurd (V.str.inj e) (show ¬("let":Str)="pass" by decide +kernel))]
  refine ⟨_,rfl,_,rfl,qI ?_⟩
  refine ⟨_,rfl,_,rfl,_,rfl,jQ (SqT.of hdd1) rfl (⟨x,wl,st,k,us,ys,d,ms,pl,D,R,L,N,rfl,hG.same s1,hk,fun m H2 zs s2 hm0 hm hP=>?_⟩)⟩
  have s12:=s1.trans s2
  refine ⟨_,rfl,x,dx,_,rfl,(s12 _ _ hx),hf.no (by decide +kernel) (by decide +kernel) (by decide +kernel),x,D,R,L,N,rfl,hc0.same s12,by omega,fun wq ws H3 s3 hwq0 hwq hW=>?_⟩
  have s13:=s12.trans s3
  have hl:=hP.1
  refine ⟨_,rfl,jQ (SqT.of (s13 _ _ hst1)) rfl (⟨_,rfl,wq,wt,m,ws,zs,qE R L.length,ms,_,rfl,lS hTg hW hwq (.inr (SqT.of (s13 _ _ hwt))) hml (by omega) (by omega),s3 _ _ hm,hP.same s3,?_,fun r H4 gs zs4 s4 hr0 hr hP4 hS=>?_⟩)⟩
  ·rw [hl]
   exact Nat.le_trans (G0 _ _ _ _) (by decide)
  exact qv r H4 gs zs4 (s13.trans s4) (s13.free hr0) hr hP4 hS
theorem C2:FnScope ["canal","ways","state","deed"] ["canal","ways","state","deed"] (jE bQ):=⟨rfl,rfl,rfl,by decide +kernel,rfl,by decide +kernel,by decide +kernel⟩
theorem A0 {f:Addr} {fd:FuncData} (F:Fun K "after" "after" bQ f fd) (T:Txt K mg cP cB cU cR cN tkS eA eW eS eF eO eK eL tkH w cC dV dW aU aD) (D_counted_on:Def P w K mg base 2 "counted_on" ["state","deed","waters"] [] (rS)) (D_poured_all:Def P w K mg base 1 "poured_all" ["waters","pours"] [] (fW K)) (DX_pours:DefX P w K mg base 9 "pours" ["canal","ways","state","deed"] [] (mX (jD cP cB cU) cR cN eW)):FnOk P w K mg base (qK P w) 10 f fd ["canal","ways","state","deed"] (sX (jD cP cB cU) cR cN eW):=by
 refine F.okX C2 (fun vs H Q E h=>?_) (fun cdv A outer s H vs Q E hr h=>?_)
 ·obtain ⟨x,wl,st,dd,de,us,ys,d,ms,pl,D,R,L,N,rfl,hG,hdd,hin,hd0,qv,qe⟩:=h
  rfl
 obtain ⟨x,wl,st,dd,de,us,ys,d,ms,pl,D,R,L,N,rfl,hG,hdd,hin,hd0,qv,qe⟩:=h
 have hu:_<cLine:=hr.units0
 have hu1:=jV hr
 refine ⟨_,(@jH _ _ _ (@jS _ _ _ _ (jM D_counted_on hr rfl (@jA _ _ _ _ _ (pv 2) (@jA _ _ _ _ _ (pv 3) (@jA _ _ _ _ _ (jM D_poured_all hr rfl (jA (jI ix_tup (pv 2) jC (fun _ _=>rfl)) (jA (t9 DX_pours yH hr rfl (@jA _ _ _ _ _ (pv 0) (@jA _ _ _ _ _ (pv 1) (@jA _ _ _ _ _ (pv 2) (@jA _ _ _ _ _ (pv 3) jB (by rfl)) (by rfl)) (by rfl)) (by rfl))) jB))) jB (by rfl)) (by rfl)) (by rfl))))),?_⟩
 obtain ⟨hc,hdr,hwl,hA,hst,hfl,hml⟩:=id hG
 obtain ⟨wt,pt,hst1,hwt,hpt⟩:=id hst
 have b1:=hdr.r8
 have b2:=hdr.l8
 have h10:=hfl.n10
 have hln:=hfl.len
 refine ⟨_,rfl,_,rfl,_,rfl,jQ (SqT.of hst1) rfl (⟨_,rfl,_,rfl,_,rfl,_,rfl,x,wl,st,dd,de,us,ys,d,ms,pl,D,R,L,N,rfl,hG,hdd,hin,hd0,fun hw r H1 gs zs s1 hr0 hr hP hS=>?_,fun hw H1 s1=>qe hw _ s1⟩)⟩
 have qv:=qv hw
 refine ⟨wt,r,ms,zs,_,rfl,.inr (SqT.of (s1 _ _ hwt)),SqL.of hr,hP.pa,by omega,fun wo H2 s2 hwo0 hwo=>?_⟩
 have s12:=s1.trans s2
 exact ⟨st,dd,wo,de,d,ms,_,pl,rfl,hst.same s12,s12 _ _ hdd,hwo,by omega,fun r3 H3 s3 hr30 h3=>qv r3 H3 gs (s12.trans s3) (s12.free hr30) h3 hS⟩
theorem StOk.cham {R:List RC} {L:List LC} {ms:List Int} (h:StOk R L ms) {k:Nat} {l:LC} (hl:L[k]?=some l):ms.getD (R.length+k) 0=0∨ms.getD (R.length+k) 0=l.room:=by
 have hk:=(List.getElem?_eq_some_iff.mp hl).1
 have hm:=h.len
 have e:=List.getElem?_eq_getElem (l:=ms) (i:=R.length+k) (by omega)
 rw [List.getD_eq_getElem?_getD,e]
 exact (h.to _ _ e).2.1 k l rfl hl
theorem HH {R:List RC} {L:List LC} {ys:List kE} {ms:List Int} {pl:List Nat} {b:Nat} (h:vV R L ys ms pl b=""∨vV R L ys ms pl b="water"):¬pl.getD b 0=(ys.getD b (0,[])).2.length∧vV R L ys ms pl b=if yD R ms (qU R.length L ms ((ys.getD b (0,[])).2.getD (pl.getD b 0) (0,true)))=true then ("water":Str) else "":=by
 unfold vV at h ⊢
 by_cases h0:pl.getD b 0=(ys.getD b (0,[])).2.length
 ·rw [if_pos h0] at h
  rcases h with h|h
  ·exact absurd h (by decide +kernel)
  ·exact absurd h (by decide +kernel)
 rw [if_neg h0] at h ⊢
 refine ⟨h0,?_⟩
 split
 ·rename_i h1
  rw [if_pos h1] at h
  rcases h with h|h
  ·exact absurd h (by decide +kernel)
  ·exact absurd h (by decide +kernel)
 ·rfl
def gC (r l k:Nat) (lc:LC):List Nat:=[lc.high.toNat,lc.low.toNat,r+k,r+l+k]
def vO (r l k:Nat) (lc:LC):List V:=(gC r l k lc).map fun (n:Nat)=>V.int (n:Int)
theorem qR {r l k:Nat} {lc:LC} {s:Str} (hg:lc.good r) (hk:k<l) (o:okW s):vIx s<(vO r l k lc).length∧vF ((vO r l k lc).getD (vIx s) .non) (.int ((vesOf r l k lc s:Nat):Int))=true∧∀i,i<vIx s→vF ((vO r l k lc).getD i .non) (.int ((vesOf r l k lc s:Nat):Int))=false:=by
 obtain ⟨g1,g2,g3,g4,_⟩:=hg
 have ne:∀{a b:Nat},a≠b→vF (.int (a:Int)) (.int (b:Int))=false:=fun h=>decide_eq_false (fun z=>h (by omega))
 have eq:∀a:Nat,vF (.int (a:Int)) (.int (a:Int))=true:=fun a=>decide_eq_true rfl
 refine ⟨vB s,?_⟩
 cases o
 ·rw [fH,zF];exact ⟨eq _,fun i hi=>absurd hi (Nat.not_lt_zero _)⟩
 ·rw [fN,yX]
  refine ⟨eq _,fun i hi=>?_⟩
  rw [show i=0 by omega];exact ne (by omega)
 ·rw [QX,v_chamber]
  refine ⟨eq _,fun i hi=>?_⟩
  rcases i with _|_|i
  ·exact ne (by omega)
  ·exact ne (by omega)
  ·omega
 ·rw [fD,v_basin]
  refine ⟨eq _,fun i hi=>?_⟩
  rcases i with _|_|_|i
  ·exact ne (by omega)
  ·exact ne (by omega)
  ·exact ne (by omega)
  ·omega
def uR (cs:Kd→Addr) (cC:Addr) (K:W.Frag) (dW:Addr):Sp:=fun vs H Q _=>∃(x lk p:Addr) (S S':CSt) (Ws:List Wd) (o:Option Er),vs=[.ref x,.ref p]∧ChAt cs cC H x lk S∧H p=some (.lst (JX Ws))∧(∀W∈Ws,ZG K dW W)∧qS S Ws=(o,S')∧(o=none∨o=some .short)∧∀H',Keep x H H'→ChAt cs cC H' x lk S'→Q (.bl o.isNone) H'
def rR (cs:Kd→Addr) (cR cN:Addr):Sp:=fun vs H Q _=>∃(x wl st ps fo:Addr) (b:Nat) (us:List V) (ys:List kE) (d:Int) (ms:List Int) (pl:List Nat) (D:List Addr) (R:List RC) (L:List LC) (N:List (List (Int×Int))) (s:Nat×Bool) (lc:LC),vs=[.ref x,.ref wl,.ref st,.int (b:Int),.ref ps,.ref fo]∧Stage cs cR cN D H x wl st us R L N ys d ms pl∧b<ys.length∧0≤d∧vV R L ys ms pl b=""∧(ys.getD b (0,[])).2.getD (pl.getD b 0) (0,true)=s∧L[s.1]?=some lc∧H ps=some (.lst (vO R.length L.length s.1 lc))∧H fo=some (.tup ((kM R.length L.length s.1 lc ms).map V.int))∧
 ∀(r:Addr) (H':Hp),Same H H'→H' r=some (.tup ((jY (kM R.length L.length s.1 lc ms) ((vC lc.kd lc.room lc.extra (zP R.length ms s.1) (ms.getD (R.length+L.length+s.1) 0) s.2).map j5)).map V.int))→Q (.ref r) H'
def tX (cs:Kd→Addr) (cR cN:Addr):Sp:=fun vs H Q _=>∃(x wl st:Addr) (b:Nat) (us:List V) (ys:List kE) (d:Int) (ms:List Int) (pl:List Nat) (D:List Addr) (R:List RC) (L:List LC) (N:List (List (Int×Int))),vs=[.ref x,.ref wl,.ref st,.int (b:Int),.str (vV R L ys ms pl b)]∧Stage cs cR cN D H x wl st us R L N ys d ms pl∧StOk R L ms∧b<ys.length∧0≤d∧(vV R L ys ms pl b=""∨vV R L ys ms pl b="water")∧∀H',Same H H'→Q (.bl true) H'
theorem IE {R:List RC} {m:Nat} {gs:List Int} (hT:QA R) {q:Nat×Nat×Int} (hq:q∈(yA (kJ (qE R m)) (fun a=>gs.getD a 0) (qE R m).length).filter qH):q.1<R.length∧(q.2.1<R.length∨q.2.1=R.length+2*m):=by
 obtain ⟨i,hi,rfl⟩:=List.mem_map.mp (List.mem_filter.mp hq).1
 have hi:=mem_downs.mp hi
 rw [QV] at hi
 obtain ⟨r,hr⟩:∃r,R[i]?=some r:=⟨_,List.getElem?_eq_getElem hi⟩
 refine ⟨hi,?_⟩
 show kJ (qE R m) i<R.length∨kJ (qE R m) i=R.length+2*m
 have:=hT i r hr
 rw [mG hr]
 split<;>omega
theorem JR (r l k:Nat) (lc:LC):(vO r l k lc).all vL=true:=rfl
theorem pM:FnScope ["script","k","many","cell"] ["script","k","many"] (jE bI):=⟨rfl,rfl,rfl,by decide +kernel,rfl,by decide +kernel,by decide +kernel⟩
theorem AR {f:Addr} {fd:FuncData} (F:Fun K "_law_draw" "_law_draw" bI f fd) (T:Txt K mg cP cB cU cR cN tkS eA eW eS eF eO eK eL tkH w cC dV dW aU aD) : FnOk P w K mg base jW 1 f fd ["script","k","many"] (JZ K):=by
 refine F.ok pM (fun vs H Q E h=>?_) (fun cdv A outer s H vs Q E hr h=>?_)
 ·obtain ⟨s,ns,k,m,rfl,hS,h63,hk0,hk1,hm,q⟩:=h
  rfl
 obtain ⟨s,ns,k,m,rfl,hS,h63,hk0,hk1,hm,q⟩:=h
 have hu:_<cLine:=hr.units0
 have hu1:=jV hr
 refine ⟨_,(@jG _ _ _ _ _ (kF (kC kK (qB qQ (by rfl) T.z_len PySem.boot_len (jA (pv 0) jB)) jC (j3 _)) (@jH _ _ _ (@jS _ _ _ _ (@jJ _ _ _ _ _ _ _ _ dX (@jJ _ _ _ _ _ _ _ _ j7 (@jJ _ _ _ _ _ _ _ _ kG (@jJ _ _ _ _ _ _ _ _ kG (pv 1) (pv 1)) jC) (@jJ _ _ _ _ _ _ _ _ kG jC (pv 1))) (pv 2)))) kR)
   (@jG _ _ _ _ _ (jZ (i:=3) pM.nd rfl (by first|exact Or.inl rfl|exact Or.inr rfl) (@jJ _ _ _ _ _ _ _ _ dX (jI kA (pv 0) (@jJ _ _ _ _ _ _ _ _ dX (pv 1) (qB qQ (by rfl) T.z_len PySem.boot_len (jA (pv 0) jB))) (fun _ _=>rfl)) jC))
   (@jH _ _ _ (@jS _ _ _ _ (@jJ _ _ _ _ _ _ _ _ dX (@jJ _ _ _ _ _ _ _ _ dX (@jJ _ _ _ _ _ _ _ _ j7 (@jJ _ _ _ _ _ _ _ _ kG (pv 3) (@jJ _ _ _ _ _ _ _ _ j7 (@jJ _ _ _ _ _ _ _ _ kG (pv 1) (pv 1)) jC)) (@jJ _ _ _ _ _ _ _ _ kG (pv 1) jC)) jC) (pv 2)))))),?_⟩
 have hml:(ns.map V.int).length=ns.length:=List.length_map _
 obtain ⟨kk0,kk1⟩:=LL hk0 hk1
 have hm0:(0:Int)<m:=by omega
 refine ⟨_,rfl,s,_,rfl,.inl hS,rfl,_,rfl,?_⟩
 by_cases h0:ns.length=0
 ·refine kT (by rw [hml,h0];rfl) ?_
  refine ⟨_,rfl,_,rfl,j0 (⟨.inl ⟨by omega,by omega⟩,_,_,rfl,rfl,.inr ⟨by decide,by decide⟩,_,rfl,j0 (⟨.inl ⟨by decide,by decide⟩,_,_,rfl,rfl,_,rfl,j0 (⟨hm0,?_⟩)⟩)⟩)⟩
  exact q _ (Int.emod_nonneg _ (by omega)) (Int.emod_lt_of_pos _ hm0)
 refine kB (fun z=>h0 (by have:=V.int.inj z;rw [hml] at this;omega)) ?_
 have hl0:(0:Int)<(((ns.map V.int).length:Nat):Int):=by rw [hml];omega
 obtain ⟨j,ej,lj⟩:=E8 (a:=k) hl0
 have lj:j<ns.length:=by rw [hml] at lj;omega
 refine ⟨_,rfl,_,rfl,_,rfl,s,_,rfl,.inl hS,_,_,rfl,rfl,hl0,?_⟩
 try dsimp only
 rw [ej]
 refine ⟨s,_,_,_,rfl,rfl,hS,qD lj,_,_,rfl,rfl,(by show (0:Int)<1000003;decide),?_⟩
 have c0:=Int.emod_nonneg (ns.getD j 0) (by decide:(1000003:Int)≠0)
 have c1:=Int.emod_lt_of_pos (ns.getD j 0) (by decide:(0:Int)<1000003)
 try dsimp only
 generalize ns.getD j 0%1000003=cell at c0 c1 ⊢
 refine ⟨_,rfl,_,rfl,_,rfl,j0 (⟨.inl ⟨by omega,by omega⟩,_,_,rfl,rfl,_,_,rfl,rfl,.inl ⟨by omega,by omega⟩,_,rfl,j0 (⟨.inr ⟨by decide,by decide⟩,_,_,rfl,rfl,_,_,rfl,rfl,(by show (0:Int)<2147483647;decide),_,rfl,j0 (⟨hm0,?_⟩)⟩)⟩)⟩
 exact q _ (Int.emod_nonneg _ (by omega)) (Int.emod_lt_of_pos _ hm0)
theorem C1:FnScope ["script"] ["script"] (jE bN):=⟨rfl,rfl,rfl,by decide +kernel,rfl,by decide +kernel,by decide +kernel⟩
theorem AX {f:Addr} {fd:FuncData} (F:Fun K "_law_unit" "_law_unit" bN f fd) (T:Txt K mg cP cB cU cR cN tkS eA eW eS eF eO eK eL tkH w cC dV dW aU aD) : FnOk P w K mg base jW 1 f fd ["script"] (oB K):=by
 refine F.ok C1 (fun vs H Q E h=>?_) (fun cdv A outer s H vs Q E hr h=>?_)
 ·obtain ⟨s,ns,rfl,hS,h63,q⟩:=h
  rfl
 obtain ⟨s,ns,rfl,hS,h63,q⟩:=h
 have hu:_<cLine:=hr.units0
 have hu1:=jV hr
 refine ⟨_,(@jG _ _ _ _ _ (kF (kC kK (qB qQ (by rfl) T.z_len PySem.boot_len (jA (pv 0) jB)) jC (j3 _)) (@jH _ _ _ (@jS _ _ _ _ jC)) kR)
   (@jH _ _ _ (@jS _ _ _ _ (@jJ _ _ _ _ _ _ _ _ j7 jC (@jJ _ _ _ _ _ _ _ _ dX (jI kA (pv 0) jC (fun _ _=>rfl)) (@jJ _ _ _ _ _ _ _ _ KI jC jC)))))),?_⟩
 have hml:(ns.map V.int).length=ns.length:=List.length_map _
 refine ⟨_,rfl,s,_,rfl,.inl hS,rfl,_,rfl,?_⟩
 by_cases h0:ns.length=0
 ·exact kT (by rw [hml,h0];rfl) (q 1 (by decide) (by decide))
 refine kB (fun z=>h0 (by have:=V.int.inj z;rw [hml] at this;omega)) ?_
 have e10:(10:Int) ^ Int.toNat 10=10000000000:=by decide +kernel
 have u0:=Int.emod_nonneg (ns.getD 0 0) (show (10:Int) ^ Int.toNat 10≠0 from by decide +kernel)
 have u1:=Int.emod_lt_of_pos (ns.getD 0 0) (show (0:Int)<10 ^ Int.toNat 10 from by decide +kernel)
 refine ⟨_,rfl,s,_,_,_,rfl,rfl,hS,qD (s:=0) (by omega),_,_,rfl,rfl,⟨by decide,by decide,by decide⟩,_,_,rfl,rfl,(show (0:Int)<10 ^ Int.toNat 10 from by decide +kernel),_,_,rfl,rfl,?_⟩
 rw [e10] at u0 u1
 try dsimp only
 rw [e10]
 exact q _ (by omega) (by omega)
theorem dA:FnScope ["script","k","unit","named","least","crest","water","berths"] ["script","k","unit"] (jE bL):=⟨rfl,rfl,rfl,by decide +kernel,rfl,by decide +kernel,by decide +kernel⟩
theorem AU {f:Addr} {fd:FuncData} (F:Fun K "_law_reach" "_law_reach" bL f fd) (T:Txt K mg cP cB cU cR cN tkS eA eW eS eF eO eK eL tkH w cC dV dW aU aD) (D__law_draw:Def P w K mg base 1 "_law_draw" ["script","k","many"] [] (JZ K)) (M_Reach:MkD P w K mg base 1 "Reach" cR ["self","name","least","crest","berths","water","target"] (lX cR)):FnOk P w K mg base jW 3 f fd ["script","k","unit"] (sR K cR):=by
 refine F.ok dA (fun vs H Q E h=>?_) (fun cdv A outer s H vs Q E hr h=>?_)
 ·obtain ⟨s,ns,k,u,rfl,hS,h63,hk,hv0,hv1,q⟩:=h
  rfl
 obtain ⟨s,ns,k,u,rfl,hS,h63,hk,hv0,hv1,q⟩:=h
 have hu:_<cLine:=hr.units0
 have hu1:=jV hr
 refine ⟨_,(@jG _ _ _ _ _ (@jZ _ _ 3 _ _ _ _ dA.nd rfl (by first|exact Or.inl rfl|exact Or.inr rfl) (jI kA (qG (@jA _ _ _ _ _ jR (@jA _ _ _ _ _ jR (@jA _ _ _ _ _ jR (@jA _ _ _ _ _ jR (@jA _ _ _ _ _ jR (@jA _ _ _ _ _ jR (@jA _ _ _ _ _ jR (@jA _ _ _ _ _ jR jB (by rfl)) (by rfl)) (by rfl)) (by rfl)) (by rfl)) (by rfl)) (by rfl)) (by rfl))) (pv 1) (fun _ _=>rfl)) (by rfl) (by first|exact .inl rfl|exact .inr rfl|assumption))
   (@jG _ _ _ _ _ (jZ (i:=4) dA.nd rfl (by first|exact Or.inl rfl|exact Or.inr rfl) (@jJ _ _ _ _ _ _ _ _ kG (jM D__law_draw hr rfl (@jA _ _ _ _ _ (pv 0) (@jA _ _ _ _ _ (@jJ _ _ _ _ _ _ _ _ j7 (@jJ _ _ _ _ _ _ _ _ kG jC (pv 1)) jC) (@jA _ _ _ _ _ jC jB (by rfl)) (by rfl)) (by rfl))) (pv 2)))
   (@jG _ _ _ _ _ (jZ (i:=5) dA.nd rfl (by first|exact Or.inl rfl|exact Or.inr rfl) (@jJ _ _ _ _ _ _ _ _ j7 (@jJ _ _ _ _ _ _ _ _ j7 (pv 4) (@jJ _ _ _ _ _ _ _ _ kG (jM D__law_draw hr rfl (@jA _ _ _ _ _ (pv 0) (@jA _ _ _ _ _ (@jJ _ _ _ _ _ _ _ _ j7 (@jJ _ _ _ _ _ _ _ _ kG jC (pv 1)) jC) (@jA _ _ _ _ _ jC jB (by rfl)) (by rfl)) (by rfl))) (pv 2))) (jM D__law_draw hr rfl (@jA _ _ _ _ _ (pv 0) (@jA _ _ _ _ _ (@jJ _ _ _ _ _ _ _ _ j7 (@jJ _ _ _ _ _ _ _ _ kG jC (pv 1)) jC) (@jA _ _ _ _ _ jC jB (by rfl)) (by rfl)) (by rfl)))))
   (@jG _ _ _ _ _ (jZ (i:=6) dA.nd rfl (by first|exact Or.inl rfl|exact Or.inr rfl) (@jJ _ _ _ _ _ _ _ _ j7 (@jJ _ _ _ _ _ _ _ _ kG (jM D__law_draw hr rfl (@jA _ _ _ _ _ (pv 0) (@jA _ _ _ _ _ (@jJ _ _ _ _ _ _ _ _ j7 (@jJ _ _ _ _ _ _ _ _ kG jC (pv 1)) jC) (@jA _ _ _ _ _ jC jB (by rfl)) (by rfl)) (by rfl))) (pv 2)) (jM D__law_draw hr rfl (@jA _ _ _ _ _ (pv 0) (@jA _ _ _ _ _ (@jJ _ _ _ _ _ _ _ _ j7 (@jJ _ _ _ _ _ _ _ _ kG jC (pv 1)) jC) (@jA _ _ _ _ _ jC jB (by rfl)) (by rfl)) (by rfl)))))
   (@jG _ _ _ _ _ (jZ (i:=7) dA.nd rfl (by first|exact Or.inl rfl|exact Or.inr rfl) (jI kA (qG (@jA _ _ _ _ _ jC (@jA _ _ _ _ _ jC (@jA _ _ _ _ _ jC (@jA _ _ _ _ _ jC jB (by rfl)) (by rfl)) (by rfl)) (by rfl))) (jM D__law_draw hr rfl (@jA _ _ _ _ _ (pv 0) (@jA _ _ _ _ _ (@jJ _ _ _ _ _ _ _ _ j7 (@jJ _ _ _ _ _ _ _ _ kG jC (pv 1)) jC) (@jA _ _ _ _ _ jC jB (by rfl)) (by rfl)) (by rfl))) (fun _ _=>rfl)))
   (@jH _ _ _ (@jS _ _ _ _ (eI M_Reach hr rfl (@jA _ _ _ _ _ (pv 3) (@jA _ _ _ _ _ (pv 4) (@jA _ _ _ _ _ (pv 5) (@jA _ _ _ _ _ (pv 7) (@jA _ _ _ _ _ (pv 6) (@jA _ _ _ _ _ (@jJ _ _ _ _ _ _ _ _ yL (jM D__law_draw hr rfl (@jA _ _ _ _ _ (pv 0) (@jA _ _ _ _ _ (@jJ _ _ _ _ _ _ _ _ j7 (@jJ _ _ _ _ _ _ _ _ kG jC (pv 1)) jC) (@jA _ _ _ _ _ (@jJ _ _ _ _ _ _ _ _ j7 (pv 1) jC) jB (by rfl)) (by rfl)) (by rfl))) jC) jB (by rfl)) (by rfl)) (by rfl)) (by rfl)) (by rfl)) (by rfl)))))))))),?_⟩
 refine ⟨zz8,fun p hp=>?_⟩
 have s1:=jL hp (.lst ([("mere":Str),"merea","amere","me","pool","poolmereandp","z","sean"].map V.str))
 obtain ⟨nm,hnm⟩:=wB [("mere":Str),"merea","amere","me","pool","poolmereandp","z","sean"] (k:=k) hk
 refine ⟨_,rfl,j9 (SqL.of jF) hnm (?_)⟩
 have hS1:=s1.seq hS
 refine ⟨_,rfl,_,rfl,j0 (⟨.inl ⟨by decide,by decide⟩,_,_,rfl,rfl,s,ns,_,_,rfl,hS1,h63,by omega,by omega,by omega,fun d1 d10 d11=>?_⟩)⟩
 obtain ⟨a1,a2⟩:=dZ d10 (show d1≤3 by omega) hv0 hv1 (by decide)
 refine ⟨_,rfl,j0 (⟨.inl ⟨by omega,by omega⟩,?_⟩)⟩
 try dsimp only
 generalize d1*u=le at a1 a2 ⊢
 refine ⟨_,rfl,_,rfl,_,rfl,j0 (⟨.inl ⟨by decide,by decide⟩,_,_,rfl,rfl,s,ns,_,_,rfl,hS1,h63,by omega,by omega,by omega,fun d2 d20 d21=>?_⟩)⟩
 obtain ⟨b1,b2⟩:=dZ d20 (show d2≤8 by omega) hv0 hv1 (by decide)
 refine ⟨_,rfl,j0 (⟨.inl ⟨by omega,by omega⟩,_,_,rfl,rfl,?_⟩)⟩
 try dsimp only
 generalize d2*u=cr at b1 b2 ⊢
 refine ⟨_,rfl,_,rfl,j0 (⟨.inl ⟨by decide,by decide⟩,_,_,rfl,rfl,s,ns,_,_,rfl,hS1,h63,by omega,by omega,by omega,fun d3 d30 d31=>?_⟩)⟩
 refine ⟨_,_,rfl,rfl,?_⟩
 refine ⟨_,rfl,_,rfl,j0 (⟨.inl ⟨by decide,by decide⟩,_,_,rfl,rfl,s,ns,_,_,rfl,hS1,h63,by omega,by omega,by omega,fun d4 d40 d41=>?_⟩)⟩
 obtain ⟨c1,c2⟩:=dZ d40 (show d4≤12 by omega) hv0 hv1 (by decide)
 refine ⟨_,rfl,j0 (⟨.inl ⟨by omega,by omega⟩,?_⟩)⟩
 try dsimp only
 generalize d4*u=wa at c1 c2 ⊢
 refine ⟨_,rfl,_,rfl,j0 (⟨.inl ⟨by decide,by decide⟩,_,_,rfl,rfl,s,ns,_,_,rfl,hS1,h63,by omega,by omega,by omega,fun d5 d50 d51=>?_⟩)⟩
 refine ⟨_,_,rfl,rfl,?_⟩
 refine ⟨zz4,fun p2 hp2=>?_⟩
 have s2:=jL hp2 (.lst ([(1:Int),1,2,9].map V.int))
 have hS2:=s2.seq hS1
 refine ⟨_,rfl,_,rfl,j0 (⟨.inl ⟨by decide,by decide⟩,_,_,rfl,rfl,s,ns,_,_,rfl,hS2,h63,by omega,by omega,by omega,fun d6 d60 d61=>?_⟩)⟩
 obtain ⟨be,hbe,hat⟩:=iN [(1:Int),1,2,9] d60 d61
 refine (j9 (SqL.of jF) hat (?_))
 have hbe':1≤be∧be≤9:=by
  simp only [List.mem_cons,List.mem_nil_iff,or_false] at hbe
  rcases hbe with rfl|rfl|rfl|rfl<;>decide
 refine ⟨_,rfl,_,rfl,_,rfl,_,rfl,_,rfl,?_⟩
 refine ⟨_,rfl,_,rfl,j0 (⟨.inl ⟨by decide,by decide⟩,_,_,rfl,rfl,_,rfl,j0 (⟨s,ns,_,_,rfl,hS2,h63,by omega,by omega,by omega,fun d7 d70 d71=>?_⟩)⟩)⟩
 refine ⟨_,_,rfl,rfl,?_⟩
 intro x dx nx ndx nex
 refine ⟨x,dx,_,_,_,_,_,_,rfl,jF,fun H' fs kp hx hfl=>⟨rfl,?_⟩⟩
 have w12:=s1.trans s2
 exact q x ⟨nm,le,le+cr+d3,be,wa+d5,d7 - 1⟩ H' ⟨a1,by show le≤le+cr+d3;omega,by show le+cr+d3≤999999999999;omega,hbe'.1,hbe'.2,by show 0≤wa+d5;omega,by show wa+d5≤999999999999;omega,by show -1≤d7 - 1;omega,by show d7 - 1<(k:Int);omega⟩ (w12.trans (fK nx (fQ nx ndx) kp)) (w12.free nx) ⟨dx,fs,hx,hfl⟩
theorem QT:FnScope ["script","k","reaches","unit","named","high","low","room","part","made"] ["script","k","reaches","unit"] (jE bJ):=⟨rfl,rfl,rfl,by decide +kernel,rfl,by decide +kernel,by decide +kernel⟩
theorem AS {f:Addr} {fd:FuncData} (F:Fun K "_law_lock" "_law_lock" bJ f fd) (T:Txt K mg cP cB cU cR cN tkS eA eW eS eF eO eK eL tkH w cC dV dW aU aD) (D__law_draw:Def P w K mg base 1 "_law_draw" ["script","k","many"] [] (JZ K)) (M_BasinLock:MkD P w K mg base 2 "BasinLock" cB ["self","name","high","low","room","side"] (dN (jD cP cB cU) .basin)) (M_PumpLock:MkD P w K mg base 2 "PumpLock" cU ["self","name","high","low","room","lift"] (dN (jD cP cB cU) .pump)) (M_PlainLock:MkD P w K mg base 1 "PlainLock" cP ["self","name","high","low","room"] (dO (jD cP cB cU))):FnOk P w K mg base jW 4 f fd ["script","k","reaches","unit"] (tU K (jD cP cB cU)):=by
 refine F.ok QT (fun vs H Q E h=>?_) (fun cdv A outer s H vs Q E hr h=>?_)
 ·obtain ⟨s,ns,k,n,u,rfl,hS,h63,hk,hn2,hn8,hv0,hv1,q⟩:=h
  rfl
 obtain ⟨s,ns,k,n,u,rfl,hS,h63,hk,hn2,hn8,hv0,hv1,q⟩:=h
 have hu:_<cLine:=hr.units0
 have hu1:=jV hr
 refine ⟨_,(@jG _ _ _ _ _ (jZ (i:=4) QT.nd rfl (by first|exact Or.inl rfl|exact Or.inr rfl) (jI kA (qG (@jA _ _ _ _ _ jR (@jA _ _ _ _ _ jR (@jA _ _ _ _ _ jR (@jA _ _ _ _ _ jR jB (by rfl)) (by rfl)) (by rfl)) (by rfl))) (pv 1) (fun _ _=>rfl)))
   (@jG _ _ _ _ _ (jZ (i:=5) QT.nd rfl (by first|exact Or.inl rfl|exact Or.inr rfl) (@jJ _ _ _ _ _ _ _ _ j7 jC (jM D__law_draw hr rfl (@jA _ _ _ _ _ (pv 0) (@jA _ _ _ _ _ (@jJ _ _ _ _ _ _ _ _ j7 jC (@jJ _ _ _ _ _ _ _ _ kG jC (pv 1))) (@jA _ _ _ _ _ (@jJ _ _ _ _ _ _ _ _ yL (pv 2) jC) jB (by rfl)) (by rfl)) (by rfl)))))
   (@jG _ _ _ _ _ (jZ (i:=6) QT.nd rfl (by first|exact Or.inl rfl|exact Or.inr rfl) (jM D__law_draw hr rfl (@jA _ _ _ _ _ (pv 0) (@jA _ _ _ _ _ (@jJ _ _ _ _ _ _ _ _ j7 jC (@jJ _ _ _ _ _ _ _ _ kG jC (pv 1))) (@jA _ _ _ _ _ (pv 5) jB (by rfl)) (by rfl)) (by rfl))))
   (@jG _ _ _ _ _ (jZ (i:=7) QT.nd rfl (by first|exact Or.inl rfl|exact Or.inr rfl) (@jJ _ _ _ _ _ _ _ _ j7 (@jJ _ _ _ _ _ _ _ _ kG (@jJ _ _ _ _ _ _ _ _ j7 jC (jM D__law_draw hr rfl (@jA _ _ _ _ _ (pv 0) (@jA _ _ _ _ _ (@jJ _ _ _ _ _ _ _ _ j7 jC (@jJ _ _ _ _ _ _ _ _ kG jC (pv 1))) (@jA _ _ _ _ _ jC jB (by rfl)) (by rfl)) (by rfl)))) (pv 3)) (jM D__law_draw hr rfl (@jA _ _ _ _ _ (pv 0) (@jA _ _ _ _ _ (@jJ _ _ _ _ _ _ _ _ j7 jC (@jJ _ _ _ _ _ _ _ _ kG jC (pv 1))) (@jA _ _ _ _ _ jC jB (by rfl)) (by rfl)) (by rfl)))))
   (@jG _ _ _ _ _ (jZ (i:=8) QT.nd rfl (by first|exact Or.inl rfl|exact Or.inr rfl) (jI kA (qG (@jA _ _ _ _ _ jC (@jA _ _ _ _ _ (pv 7) (@jA _ _ _ _ _ (@jJ _ _ _ _ _ _ _ _ j7 jC (@jJ _ _ _ _ _ _ _ _ iG (pv 7) jC)) (@jA _ _ _ _ _ (@jJ _ _ _ _ _ _ _ _ yL (pv 7) (@jJ _ _ _ _ _ _ _ _ iG (pv 7) jC)) jB (by rfl)) (by rfl)) (by rfl)) (by rfl))) (jM D__law_draw hr rfl (@jA _ _ _ _ _ (pv 0) (@jA _ _ _ _ _ (@jJ _ _ _ _ _ _ _ _ j7 jC (@jJ _ _ _ _ _ _ _ _ kG jC (pv 1))) (@jA _ _ _ _ _ jC jB (by rfl)) (by rfl)) (by rfl))) (fun _ _=>rfl)))
   (@jG _ _ _ _ _ (jZ (i:=9) QT.nd rfl (by first|exact Or.inl rfl|exact Or.inr rfl) (jM D__law_draw hr rfl (@jA _ _ _ _ _ (pv 0) (@jA _ _ _ _ _ (@jJ _ _ _ _ _ _ _ _ j7 jC (@jJ _ _ _ _ _ _ _ _ kG jC (pv 1))) (@jA _ _ _ _ _ jC jB (by rfl)) (by rfl)) (by rfl))))
   (@jG _ _ _ _ _ (kF (kC kK (pv 9) jC (j3 _)) (@jH _ _ _ (@jS _ _ _ _ (eI M_BasinLock hr rfl (@jA _ _ _ _ _ (pv 4) (@jA _ _ _ _ _ (pv 5) (@jA _ _ _ _ _ (pv 6) (@jA _ _ _ _ _ (pv 7) (@jA _ _ _ _ _ (pv 8) jB (by rfl)) (by rfl)) (by rfl)) (by rfl)) (by rfl))))) kR)
   (@jG _ _ _ _ _ (kF (kC kK (pv 9) jC (j3 _)) (@jH _ _ _ (@jS _ _ _ _ (eI M_PumpLock hr rfl (@jA _ _ _ _ _ (pv 4) (@jA _ _ _ _ _ (pv 5) (@jA _ _ _ _ _ (pv 6) (@jA _ _ _ _ _ (pv 7) (@jA _ _ _ _ _ (pv 8) jB (by rfl)) (by rfl)) (by rfl)) (by rfl)) (by rfl))))) kR)
   (@jH _ _ _ (@jS _ _ _ _ (eI M_PlainLock hr rfl (@jA _ _ _ _ _ (pv 4) (@jA _ _ _ _ _ (pv 5) (@jA _ _ _ _ _ (pv 6) (@jA _ _ _ _ _ (pv 7) jB (by rfl)) (by rfl)) (by rfl)) (by rfl))))))))))))),?_⟩
 refine ⟨zz4,fun p hp=>?_⟩
 have s1:=jL hp (.lst ([("gate":Str),"gatea","mere","g"].map V.str))
 obtain ⟨nm,hnm⟩:=wB [("gate":Str),"gatea","mere","g"] (k:=k) hk
 refine ⟨_,rfl,j9 (SqL.of jF) hnm (?_)⟩
 have hS1:=s1.seq hS
 refine ⟨_,rfl,_,rfl,j0 (⟨.inl ⟨by decide,by decide⟩,_,_,rfl,rfl,_,rfl,j0 (⟨s,ns,_,_,rfl,hS1,h63,by omega,by omega,by omega,fun h1 h10 h11=>?_⟩)⟩)⟩
 refine ⟨_,_,rfl,rfl,?_⟩
 refine ⟨_,rfl,_,rfl,j0 (⟨.inl ⟨by decide,by decide⟩,_,_,rfl,rfl,_,rfl,s,ns,_,_,rfl,hS1,h63,by omega,by omega,by omega,fun lo lo0 lo1=>?_⟩)⟩
 refine ⟨_,rfl,_,rfl,j0 (⟨.inl ⟨by decide,by decide⟩,_,_,rfl,rfl,s,ns,_,_,rfl,hS1,h63,by omega,by omega,by omega,fun d2 d20 d21=>?_⟩)⟩
 obtain ⟨b1,b2⟩:=dZ (a:=1+d2) (by omega) (show 1+d2≤4 by omega) hv0 hv1 (by decide)
 refine ⟨_,_,rfl,rfl,_,rfl,j0 (⟨.inl ⟨by omega,by omega⟩,?_⟩)⟩
 have b3:1≤(1+d2)*u:=by
  have:=Int.mul_le_mul (show (1:Int)≤1+d2 by omega) hv0 (by decide) (by omega)
  omega
 try dsimp only
 generalize (1+d2)*u=r0 at b1 b2 b3 ⊢
 refine ⟨_,rfl,_,rfl,j0 (⟨.inl ⟨by decide,by decide⟩,_,_,rfl,rfl,s,ns,_,_,rfl,hS1,h63,by omega,by omega,by omega,fun d3 d30 d31=>?_⟩)⟩
 refine ⟨_,_,rfl,rfl,?_⟩
 have ro1:1≤r0+d3:=by omega
 have ro2:r0+d3≤999999999999:=by omega
 try dsimp only
 generalize r0+d3=ro at ro1 ro2 ⊢
 refine ⟨_,rfl,_,rfl,j0 (⟨⟨by decide,by decide⟩,_,_,rfl,rfl,_,rfl,_,rfl,j0 (⟨⟨by decide,by decide⟩,_,_,rfl,rfl,zz4,fun p2 hp2=>?_⟩)⟩)⟩
 have s2:=jL hp2 (.lst ([(1:Int),ro,1+ro / 2,ro - ro / 3].map V.int))
 have hS2:=s2.seq hS1
 refine ⟨_,rfl,_,rfl,j0 (⟨.inl ⟨by decide,by decide⟩,_,_,rfl,rfl,s,ns,_,_,rfl,hS2,h63,by omega,by omega,by omega,fun d4 d40 d41=>?_⟩)⟩
 obtain ⟨pa,hpa,hat⟩:=iN [(1:Int),ro,1+ro / 2,ro - ro / 3] d40 d41
 refine (j9 (SqL.of jF) hat (?_))
 have hpa:1≤pa∧pa≤ro:=by
  simp only [List.mem_cons,List.mem_nil_iff,or_false] at hpa
  rcases hpa with rfl|rfl|rfl|rfl<;>omega
 refine ⟨_,rfl,_,rfl,j0 (⟨.inl ⟨by decide,by decide⟩,_,_,rfl,rfl,s,ns,_,_,rfl,hS2,h63,by omega,by omega,by omega,fun d5 d50 d51=>?_⟩)⟩
 have w12:=s1.trans s2
 refine ⟨_,rfl,rfl,_,rfl,wZ (fun _=>?_) (fun _=>?_)⟩
 ·refine ⟨_,rfl,_,rfl,_,rfl,_,rfl,_,rfl,?_⟩
  intro x dx nx ndx nex
  refine ⟨x,dx,_,_,_,_,_,rfl,jF,fun H' kp hx=>⟨rfl,?_⟩⟩
  refine q x ⟨nm,1+h1,lo,ro,.basin,pa⟩ H' ⟨by show 1≤1+h1;omega,by show 1+h1<(n:Int);omega,lo0,by show lo<1+h1;omega,ro1,ro2,(fun z=>nomatch z),fun _=>hpa⟩ (w12.trans (fK nx (fQ nx ndx) kp)) (w12.free nx) ⟨x,rfl,dx,hx⟩
 refine ⟨_,rfl,rfl,_,rfl,wZ (fun _=>?_) (fun _=>?_)⟩
 ·refine ⟨_,rfl,_,rfl,_,rfl,_,rfl,_,rfl,?_⟩
  intro x dx nx ndx nex
  refine ⟨x,dx,_,_,_,_,_,rfl,jF,fun H' kp hx=>⟨rfl,?_⟩⟩
  refine q x ⟨nm,1+h1,lo,ro,.pump,pa⟩ H' ⟨by show 1≤1+h1;omega,by show 1+h1<(n:Int);omega,lo0,by show lo<1+h1;omega,ro1,ro2,(fun z=>nomatch z),fun _=>hpa⟩ (w12.trans (fK nx (fQ nx ndx) kp)) (w12.free nx) ⟨x,rfl,dx,hx⟩
 refine ⟨_,rfl,_,rfl,_,rfl,_,rfl,?_⟩
 intro x dx nx ndx nex
 refine ⟨.plain,x,dx,_,_,_,_,rfl,jF,fun H' kp hx=>⟨rfl,?_⟩⟩
 refine q x ⟨nm,1+h1,lo,ro,.plain,0⟩ H' ⟨by show 1≤1+h1;omega,by show 1+h1<(n:Int);omega,lo0,by show lo<1+h1;omega,ro1,ro2,fun _=>rfl,fun z=>absurd rfl z⟩ (w12.trans (fK nx (fQ nx ndx) kp)) (w12.free nx) ⟨x,rfl,dx,hx⟩
theorem gI:FnScope ["script","k","reaches","unit","some","r","comes"] ["script","k","reaches","unit"] (jE bP):=⟨rfl,rfl,rfl,by decide +kernel,rfl,by decide +kernel,by decide +kernel⟩
theorem AZ {f:Addr} {fd:FuncData} (F:Fun K "_law_weather" "_law_weather" bP f fd) (T:Txt K mg cP cB cU cR cN tkS eA eW eS eF eO eK eL tkH w cC dV dW aU aD) (D__law_draw:Def P w K mg base 1 "_law_draw" ["script","k","many"] [] (JZ K)):FnOk P w K mg base jW 2 f fd ["script","k","reaches","unit"] (rN K):=by
 refine F.ok gI (fun vs H Q E h=>?_) (fun cdv A outer s H vs Q E hr h=>?_)
 ·obtain ⟨s,ns,k,n,u,rfl,hS,h63,hk,hn8,hv0,hv1,q⟩:=h
  rfl
 obtain ⟨s,ns,k,n,u,rfl,hS,h63,hk,hn8,hv0,hv1,q⟩:=h
 have hu:_<cLine:=hr.units0
 have hu1:=jV hr
 refine ⟨_,(@jG _ _ _ _ _ (jZ (i:=4) gI.nd rfl (by first|exact Or.inl rfl|exact Or.inr rfl) (qG jB))
   (@jG _ _ _ _ _ (yK PassesOwn.never rfl (yU (by rfl) T.z_range (jA (pv 2) jB)) (j8 (i:=5) gI.nd rfl (by first|exact Or.inl rfl|exact Or.inr rfl))
    (@jG _ _ _ _ _ (jZ (i:=6) gI.nd rfl (by first|exact Or.inl rfl|exact Or.inr rfl) (@jJ _ _ _ _ _ _ _ _ kG (jM D__law_draw hr rfl (@jA _ _ _ _ _ (pv 0) (@jA _ _ _ _ _ (@jJ _ _ _ _ _ _ _ _ j7 (@jJ _ _ _ _ _ _ _ _ j7 jC (@jJ _ _ _ _ _ _ _ _ kG jC (pv 1))) (@jJ _ _ _ _ _ _ _ _ kG jC (pv 5))) (@jA _ _ _ _ _ jC jB (by rfl)) (by rfl)) (by rfl))) (pv 3)))
   (@jH _ _ _ (qL (yF PySem.F.plainAttrs_list PySem.F.slot_list_append PySem.F.type_list_append zL (pv 4) (jA (kZ (jA (pv 6) (jA (@jJ _ _ _ _ _ _ _ _ iG (@jJ _ _ _ _ _ _ _ _ kG (jM D__law_draw hr rfl (@jA _ _ _ _ _ (pv 0) (@jA _ _ _ _ _ (@jJ _ _ _ _ _ _ _ _ j7 (@jJ _ _ _ _ _ _ _ _ j7 jC (@jJ _ _ _ _ _ _ _ _ kG jC (pv 1))) (@jJ _ _ _ _ _ _ _ _ kG jC (pv 5))) (@jA _ _ _ _ _ jC jB (by rfl)) (by rfl)) (by rfl))) (pv 3)) jC) jB))) jB))))))
   (@jH _ _ _ (@jS _ _ _ _ (pv 4))))),?_⟩
 refine ⟨zz0,fun l hl0=>?_⟩
 refine ⟨_,rfl,_,rfl,by omega,by omega,QY (n:=((n:Nat):Int).toNat) (fun i σ Hi=>∃(us:List V) (p:List (Int×Int)) (c5 c6:Option V),σ=[some (.ref s),some (.int (k:Int)),some (.int (n:Int)),some (.int u),some (.ref l),c5,c6]∧Hi l=some (.lst us)∧AllAt (QAt Hi) us p∧p.length=i∧Same H Hi)
  ⟨[],[],none,none,rfl,jF,AllAt.nil,rfl,jL hl0 _⟩ ?_ ?_⟩
 ·rintro i σ Hi hi ⟨us,p,c5,c6,rfl,hl,hA,hp,sm⟩
  rw [Int.toNat_natCast] at hi
  rw [Int.zero_add]
  have hSi:=sm.seq hS
  refine ⟨_,rfl,_,rfl,j0 (⟨.inl ⟨by decide,by decide⟩,_,_,rfl,rfl,_,rfl,j0 (⟨.inl ⟨by decide,by decide⟩,_,_,rfl,rfl,s,ns,_,_,rfl,hSi,h63,by omega,by omega,by omega,fun d1 d10 d11=>?_⟩)⟩)⟩
  refine ⟨_,rfl,j0 (⟨.inl ⟨by omega,by omega⟩,?_⟩)⟩
  refine ⟨_,rfl,.inl ⟨rfl,_,SqL.of hl⟩,_,rfl,_,rfl,_,rfl,j0 (⟨.inl ⟨by decide,by decide⟩,_,_,rfl,rfl,_,rfl,j0 (⟨.inl ⟨by decide,by decide⟩,_,_,rfl,rfl,s,ns,_,_,rfl,hSi,h63,by omega,by omega,by omega,fun d2 d20 d21=>?_⟩)⟩)⟩
  refine ⟨_,rfl,j0 (⟨.inl ⟨by omega,by omega⟩,_,_,rfl,rfl,⟨by decide,by decide⟩,zz2,fun tp htp=>?_⟩)⟩
  have v:=jL htp (.tup [V.int (d1*u),V.int (d2*u / 2)])
  refine ⟨l,_,_,rfl,rfl,v _ _ hl,qP (by rw [hA.1];omega),?_⟩
  refine ⟨us++[.ref tp],p++[(d1*u,d2*u / 2)],_,_,rfl,jF,?_,by rw [List.length_append,hp];rfl,qC hl0 (sm.trans v)⟩
  exact ((hA.mono (QAt.same v)).snoc (v:=.ref tp) (x:=(d1*u,d2*u / 2)) ⟨tp,rfl,jF⟩).mono (QAt.put (v _ _ hl))
 rintro σ Hi ⟨us,p,c5,c6,rfl,hl,hA,hp,sm⟩
 rw [Int.toNat_natCast] at hp
 exact ⟨_,rfl,q l p Hi hp sm hl0 ⟨l,us,rfl,hl,hA,by simp⟩⟩
theorem cZ:FnScope ["script","most_reaches","most_locks","most_nights","unit","many","reaches","locks","nights"] ["script","most_reaches","most_locks","most_nights"] (jE JA):=⟨rfl,rfl,rfl,by decide +kernel,rfl,by decide +kernel,by decide +kernel⟩
theorem AO {f:Addr} {fd:FuncData} (F:Fun K "_law_canal" "_law_canal" JA f fd) (T:Txt K mg cP cB cU cR cN tkS eA eW eS eF eO eK eL tkH w cC dV dW aU aD) (D__law_unit:Def P w K mg base 1 "_law_unit" ["script"] [] (oB K)) (D__law_draw:Def P w K mg base 1 "_law_draw" ["script","k","many"] [] (JZ K)) (D__law_reach:Def P w K mg base 3 "_law_reach" ["script","k","unit"] [] (sR K cR)) (D__law_lock:Def P w K mg base 4 "_law_lock" ["script","k","reaches","unit"] [] (tU K (jD cP cB cU))) (D__law_weather:Def P w K mg base 2 "_law_weather" ["script","k","reaches","unit"] [] (rN K)) (M_Canal:MkD P w K mg base 1 "Canal" cN ["self","reaches","locks","nights"] (lY (jD cP cB cU) cR cN)):FnOk P w K mg base jW 6 f fd ["script","most_reaches","most_locks","most_nights"] (sW K (jD cP cB cU) cR cN):=by
 refine F.ok cZ (fun vs H Q E h=>?_) (fun cdv A outer s H vs Q E hr h=>?_)
 ·obtain ⟨s,ns,mr,ml,mn,rfl,hS,h63,hr2,hr8,hl1,hl4,hn5,q⟩:=h
  rfl
 obtain ⟨s,ns,mr,ml,mn,rfl,hS,h63,hr2,hr8,hl1,hl4,hn5,q⟩:=h
 have hu:_<cLine:=hr.units0
 have hu1:=jV hr
 refine ⟨_,(@jG _ _ _ _ _ (jZ (i:=4) cZ.nd rfl (by first|exact Or.inl rfl|exact Or.inr rfl) (jM D__law_unit hr rfl (jA (pv 0) jB)))
   (@jG _ _ _ _ _ (jZ (i:=5) cZ.nd rfl (by first|exact Or.inl rfl|exact Or.inr rfl) (@jJ _ _ _ _ _ _ _ _ j7 jC (jM D__law_draw hr rfl (@jA _ _ _ _ _ (pv 0) (@jA _ _ _ _ _ jC (@jA _ _ _ _ _ (@jJ _ _ _ _ _ _ _ _ yL (pv 1) jC) jB (by rfl)) (by rfl)) (by rfl)))))
   (@jG _ _ _ _ _ (QW (i:=6) ["k","script","unit"] (qO 1 [0,4]) cZ.nd rfl (by first|exact Or.inl rfl|exact Or.inr rfl) rfl (qW (jE JA) rfl rfl (by decide +kernel) (by decide +kernel) (by decide +kernel)) (qX 1 [0,4] rfl rfl (by decide +kernel)) (yU (by rfl) T.z_range (jA (pv 5) jB)) (fun _ _ _ _ _=>(j8 (i:=0) (show List.Nodup (["k","script","unit"]:List Str) from by decide +kernel) rfl (by first|exact Or.inl rfl|exact Or.inr rfl))) (fun _ _ _ _ _=>vP) (fun _ _ _ _ _=>(jM D__law_reach hr rfl (@jA _ _ _ _ _ (pv 1) (@jA _ _ _ _ _ (pv 0) (@jA _ _ _ _ _ (pv 2) jB (by rfl)) (by rfl)) (by rfl)))))
   (@jG _ _ _ _ _ (QW (i:=7) ["k","script","many","unit"] (qO 1 [0,5,4]) cZ.nd rfl (by first|exact Or.inl rfl|exact Or.inr rfl) rfl (qW (jE JA) rfl rfl (by decide +kernel) (by decide +kernel) (by decide +kernel)) (qX 1 [0,5,4] rfl rfl (by decide +kernel)) (yU (by rfl) T.z_range (jA (@jJ _ _ _ _ _ _ _ _ j7 jC (jM D__law_draw hr rfl (@jA _ _ _ _ _ (pv 0) (@jA _ _ _ _ _ jC (@jA _ _ _ _ _ (pv 2) jB (by rfl)) (by rfl)) (by rfl)))) jB)) (fun _ _ _ _ _=>(j8 (i:=0) (show List.Nodup (["k","script","many","unit"]:List Str) from by decide +kernel) rfl (by first|exact Or.inl rfl|exact Or.inr rfl))) (fun _ _ _ _ _=>vP) (fun _ _ _ _ _=>(jM D__law_lock hr rfl (@jA _ _ _ _ _ (pv 1) (@jA _ _ _ _ _ (pv 0) (@jA _ _ _ _ _ (pv 2) (@jA _ _ _ _ _ (pv 3) jB (by rfl)) (by rfl)) (by rfl)) (by rfl)))))
   (@jG _ _ _ _ _ (QW (i:=8) ["k","script","many","unit"] (qO 1 [0,5,4]) cZ.nd rfl (by first|exact Or.inl rfl|exact Or.inr rfl) rfl (qW (jE JA) rfl rfl (by decide +kernel) (by decide +kernel) (by decide +kernel)) (qX 1 [0,5,4] rfl rfl (by decide +kernel)) (yU (by rfl) T.z_range (jA (jM D__law_draw hr rfl (@jA _ _ _ _ _ (pv 0) (@jA _ _ _ _ _ jC (@jA _ _ _ _ _ (@jJ _ _ _ _ _ _ _ _ j7 (pv 3) jC) jB (by rfl)) (by rfl)) (by rfl))) jB)) (fun _ _ _ _ _=>(j8 (i:=0) (show List.Nodup (["k","script","many","unit"]:List Str) from by decide +kernel) rfl (by first|exact Or.inl rfl|exact Or.inr rfl))) (fun _ _ _ _ _=>vP) (fun _ _ _ _ _=>(jM D__law_weather hr rfl (@jA _ _ _ _ _ (pv 1) (@jA _ _ _ _ _ (pv 0) (@jA _ _ _ _ _ (pv 2) (@jA _ _ _ _ _ (pv 3) jB (by rfl)) (by rfl)) (by rfl)) (by rfl)))))
   (@jH _ _ _ (@jS _ _ _ _ (eI M_Canal hr rfl (@jA _ _ _ _ _ (pv 6) (@jA _ _ _ _ _ (pv 7) (@jA _ _ _ _ _ (pv 8) jB (by rfl)) (by rfl)) (by rfl)))))))))),?_⟩
 refine ⟨_,rfl,s,ns,rfl,hS,h63,fun u hv0 hv1=>?_⟩
 refine ⟨_,rfl,_,rfl,j0 (⟨s,ns,_,_,rfl,hS,h63,by omega,by omega,by omega,fun m0 m00 m01=>?_⟩)⟩
 refine ⟨_,_,rfl,rfl,?_⟩
 obtain ⟨n,hn⟩:∃n:Nat,2+m0=(n:Int):=⟨(2+m0).toNat,by omega⟩
 try dsimp only
 rw [hn]
 have hn2:2≤n:=by omega
 have hn8:n≤8:=by omega
 refine ⟨_,rfl,_,rfl,by omega,by omega,fun rl hrl0=>?_⟩
 refine dE (n:=((n:Nat):Int).toNat) (caps:=[some (.ref s),some (.int u)]) (fun i ys Hi=>∃R:List RC,AllAt (RcO cR Hi) ys R∧R.length=i∧∀(j:Nat) (r:RC),R[j]?=some r→r.good j) hrl0 ⟨[],AllAt.nil,rfl,fun j r hj=>by cases hj⟩ ?_ ?_
 ·rintro i ys Hi hi hle sm hY ⟨R,hR,hRl,hRg⟩
  rw [Int.toNat_natCast] at hi
  rw [Int.zero_add]
  refine vS (kU ⟨_,rfl,_,rfl,_,rfl,s,ns,i,u,rfl,sm.seq hS,h63,by omega,hv0,hv1,fun x r H' hg s' hx0 hx=>y8 hrl0 sm hY hle (by omega) s' ?_⟩)
  refine ⟨R++[r],((hR.mono (RcO.same s')).snoc (v:=.ref x) (x:=r) ⟨x,rfl,hx⟩).mono (RcO.keep ((Keep.refl rl H').upd _) (s' _ _ hY)),by rw [List.length_append,hRl];rfl,fun j r' hj=>?_⟩
  by_cases hl:j<R.length
  ·rw [List.getElem?_append_left hl] at hj;exact hRg j r' hj
  ·rw [List.getElem?_append_right (by omega)] at hj
   have hz:j - R.length=0:=by
    have:=(List.getElem?_eq_some_iff.mp hj).1
    rw [List.length_singleton] at this
    omega
   rw [hz] at hj
   cases hj
   rw [show j=i by omega]
   exact hg
 rintro rs H1 s1 hrl hle1 ⟨R,hR,hRl,hRg⟩
 rw [Int.toNat_natCast] at hRl
 refine ⟨_,rfl,_,rfl,s,ns,_,_,rfl,s1.seq hS,h63,by omega,by omega,by omega,fun m1 m10 m11=>?_⟩
 refine ⟨_,_,rfl,rfl,?_⟩
 obtain ⟨m,hm⟩:∃m:Nat,1+m1=(m:Int):=⟨(1+m1).toNat,by omega⟩
 try dsimp only
 rw [hm]
 refine ⟨_,rfl,by omega,by omega,fun ll hll0=>?_⟩
 refine dE (n:=((m:Nat):Int).toNat) (caps:=[some (.ref s),some (.int (n:Int)),some (.int u)]) (fun i ys Hi=>∃L:List LC,AllAt (LkO (jD cP cB cU) Hi) ys L∧L.length=i∧∀l∈L,l.good n) hll0 ⟨[],AllAt.nil,rfl,fun l hl=>by cases hl⟩ ?_ ?_
 ·rintro i ys Hi hi hle sm hY ⟨L,hL,hLl,hLg⟩
  rw [Int.toNat_natCast] at hi
  rw [Int.zero_add]
  refine vS (kU ⟨_,rfl,_,rfl,_,rfl,_,rfl,s,ns,i,n,u,rfl,(s1.trans sm).seq hS,h63,by omega,hn2,hn8,hv0,hv1,fun x l H' hg s' hx0 hx=>y8 hll0 sm hY hle (by omega) s' ?_⟩)
  refine ⟨L++[l],((hL.mono (LkO.same s')).snoc (v:=.ref x) (x:=l) hx).mono (LkO.keep ((Keep.refl ll H').upd _) (s' _ _ hY)),by rw [List.length_append,hLl];rfl,fun l' hl'=>?_⟩
  rcases List.mem_append.mp hl' with hl'|hl'
  ·exact hLg l' hl'
  ·rw [List.mem_singleton.mp hl'];exact hg
 rintro ls H2 s2 hll hle2 ⟨L,hL,hLl,hLg⟩
 rw [Int.toNat_natCast] at hLl
 have s12:=s1.trans s2
 refine ⟨_,rfl,_,rfl,j0 (⟨s,ns,_,_,rfl,s12.seq hS,h63,by omega,by omega,by omega,fun m2 m20 m21=>?_⟩)⟩
 obtain ⟨c,hc⟩:∃c:Nat,m2=(c:Int):=⟨m2.toNat,by omega⟩
 rw [hc]
 refine ⟨_,rfl,by omega,by omega,fun nl hnl0=>?_⟩
 refine dE (n:=((c:Nat):Int).toNat) (caps:=[some (.ref s),some (.int (n:Int)),some (.int u)]) (fun i ys Hi=>∃N:List (List (Int×Int)),AllAt (NAt [nl] Hi) ys N∧N.length=i∧∀p∈N,p.length=n) hnl0 ⟨[],AllAt.nil,rfl,fun l hl=>by cases hl⟩ ?_ ?_
 ·rintro i ys Hi hi hle sm hY ⟨N,hN,hNl,hNg⟩
  rw [Int.toNat_natCast] at hi
  rw [Int.zero_add]
  refine vS (kU ⟨_,rfl,_,rfl,_,rfl,_,rfl,s,ns,i,n,u,rfl,(s12.trans sm).seq hS,h63,by omega,hn8,hv0,hv1,fun l p H' hg s' hl0 hl=>y8 hnl0 sm hY hle (by omega) s' ?_⟩)
  obtain ⟨l',qs,e,h1,h2,_⟩:=hl
  cases e
  refine ⟨N++[p],((hN.mono (NAt.same s')).snoc (v:=.ref l) (x:=p) ⟨l,qs,rfl,h1,h2,fun z=>qF hY hl0 (List.mem_singleton.mp z).symm⟩).mono (NAt.put (s' _ _ hY) (by simp)),by rw [List.length_append,hNl];rfl,fun p' hp'=>?_⟩
  rcases List.mem_append.mp hp' with hp'|hp'
  ·exact hNg p' hp'
  ·rw [List.mem_singleton.mp hp'];exact hg
 rintro nv H3 s3 hnl hle3 ⟨N,hN,hNl,hNg⟩
 rw [Int.toNat_natCast] at hNl
 refine ⟨_,rfl,_,rfl,_,rfl,?_⟩
 intro x dx nx ndx nex
 have v:=fun o o'=>fQ (o:=o) (o':=o') nx ndx
 refine ⟨x,dx,rl,ll,_,rs,ls,R,L,N,rfl,jF,v _ _ _ _ (s3 _ _ (s2 _ _ hrl)),v _ _ _ _ (s3 _ _ hll),(hR.mono (RcO.same (s2.trans s3))).mono (RcO.same (v _ _)),(hL.mono (LkO.same s3)).mono (LkO.same (v _ _)),.inr ⟨nl,nv,rfl,v _ _ _ _ hnl,(hN.mono (NAt.same (v _ _))).mono (NAt.less (by simp)),by rw [hN.1];omega⟩,fun H' kp hC=>⟨rfl,?_⟩⟩
 have w:=s12.trans s3
 exact q x R L N H' ⟨by omega,by omega,by omega,by omega,hRg,fun i l hl=>by rw [hRl];exact hLg l (List.mem_of_getElem? hl),fun p hp=>by rw [hRl];exact hNg p hp⟩ (by omega) (by omega) (w.trans (fK nx (v _ _) kp)) (w.free nx) (hC [] (fun d hd=>nomatch hd))
theorem lH:FnScope ["canal","reach","some","k"] ["canal","reach"] (jE bM):=⟨rfl,rfl,rfl,by decide +kernel,rfl,by decide +kernel,by decide +kernel⟩
theorem AW {f:Addr} {fd:FuncData} (F:Fun K "_law_turns" "_law_turns" bM f fd) (T:Txt K mg cP cB cU cR cN tkS eA eW eS eF eO eK eL tkH w cC dV dW aU aD) : FnOk P w K mg base jW 1 f fd ["canal","reach"] (tR (jD cP cB cU) cR cN):=by
 refine F.ok lH (fun vs H Q E h=>?_) (fun cdv A outer s H vs Q E hr h=>?_)
 ·obtain ⟨x,r,D,R,L,N,rfl,⟨dx,rl,ll,nl,fs,rs,ls,ns,hx,hf,hrl,hll,hnl,hR,hL,hN,d1,d2,d3⟩,b8,q⟩:=h
  rfl
 obtain ⟨x,r,D,R,L,N,rfl,⟨dx,rl,ll,nl,fs,rs,ls,ns,hx,hf,hrl,hll,hnl,hR,hL,hN,d1,d2,d3⟩,b8,q⟩:=h
 have hu:_<cLine:=hr.units0
 have hu1:=jV hr
 refine ⟨_,(@jG _ _ _ _ _ (jZ (i:=2) lH.nd rfl (by first|exact Or.inl rfl|exact Or.inr rfl) (qG jB))
   (@jG _ _ _ _ _ (yK PassesOwn.never rfl (yU (by rfl) T.z_range (jA (qB qQ (by rfl) T.z_len PySem.boot_len (jA (jU (pv 0) rfl) jB)) jB)) (j8 (i:=3) lH.nd rfl (by first|exact Or.inl rfl|exact Or.inr rfl))
    (t4 (kF (kC kK (jU (jI kA (jU (pv 0) rfl) (pv 3) (fun _ _=>rfl)) rfl) (pv 1) (j3 _)) (@jH _ _ _ (qL (yF PySem.F.plainAttrs_list PySem.F.slot_list_append PySem.F.type_list_append zL (pv 2) (jA (kZ (jA (pv 3) (jA jR jB))) jB)))) kR)
   (@jH _ _ _ (kF (kC kK (jU (jI kA (jU (pv 0) rfl) (pv 3) (fun _ _=>rfl)) rfl) (pv 1) (j3 _)) (@jH _ _ _ (qL (yF PySem.F.plainAttrs_list PySem.F.slot_list_append PySem.F.type_list_append zL (pv 2) (jA (kZ (jA (pv 3) (jA jR jB))) jB)))) kR))))
   (@jH _ _ _ (@jS _ _ _ _ (pv 2))))),?_⟩
 refine ⟨zz0,fun ol hol0=>?_⟩
 have s1:=jL hol0 (.lst [])
 refine ⟨_,rfl,x,cN,dx,_,_,rfl,(s1 _ _ hx),T.clN,T.nN_locks,hf.2.1,ll,_,rfl,.inl (SqL.of (s1 _ _ hll)),_,rfl,by omega,by rw [hL.1];omega,QY (n:=((ls.length:Nat):Int).toNat) (fun i σ Hi=>∃(us:List V) (c:Option V),σ=[some (.ref x),some (.int r),some (.ref ol),c]∧Hi ol=some (.lst us)∧AllAt (PAt Hi) us (JT L r i)∧Same H Hi)
  ⟨[],none,rfl,jF,AllAt.nil,s1⟩ ?_ ?_⟩
 ·rintro i σ Hi hi ⟨us,c,rfl,hol,hA,sm⟩
  rw [Int.toNat_natCast,hL.1] at hi
  rw [Int.zero_add]
  obtain ⟨l,hl'⟩:∃l,L[i]?=some l:=⟨_,List.getElem?_eq_getElem hi⟩
  obtain ⟨v,hv,y,rfl,dl,hl⟩:=hL.get hl'
  have hlen:=DU L r i
  have ek:J4 L r i=(if l.low=r then [(i,true)] else [])++(if l.high=r then [(i,false)] else []):=by unfold J4;rw [hl']
  refine ⟨fun σ' H'=>∃us:List V,σ'=[some (.ref x),some (.int r),some (.ref ol),some (.int (i:Int))]∧H' ol=some (.lst us)∧AllAt (PAt H') us (JT L r i++(if l.low=r then [(i,true)] else []))∧Same H H',?_,?_⟩
  ·refine ⟨_,rfl,jT ((sm _ _ hx)) (T.clN) (T.nN_locks) (hf.2.1) (⟨_,rfl,j9 (SqL.of (sm _ _ hll)) (kL hv) (jT ((sm _ _ hl)) (T.cl l.kd) (T.n_low l.kd) (J3 l.kd _ _ _ _ _) (⟨_,rfl,rfl,_,rfl,?_⟩))⟩)⟩
   by_cases h:l.low=r
   ·refine kT (congrArg V.int h) ⟨_,rfl,.inl ⟨rfl,_,SqL.of hol⟩,_,rfl,zz2,fun tp htp=>?_⟩
    have u:=jL htp (.tup [V.int (i:Int),V.str "up"])
    refine ⟨ol,_,_,rfl,rfl,u _ _ hol,qP (by rw [hA.1];omega),_,rfl,jF,?_,qC hol0 (sm.trans u)⟩
    rw [if_pos h]
    exact ((hA.mono (PAt.same u)).snoc (v:=.ref tp) (x:=(i,true)) ⟨tp,rfl,jF⟩).mono (PAt.put (u _ _ hol))
   ·refine kB (fun z=>h (V.int.inj z)) ⟨us,rfl,hol,?_,sm⟩
    rw [if_neg h,List.append_nil]
    exact hA
  rintro σ' H' ⟨us,rfl,hol,hA,sm⟩
  have hl2:(if l.low=r then [(i,true)] else ([]:List (Nat×Bool))).length≤1:=by split<;>simp
  refine ⟨_,rfl,jT ((sm _ _ hx)) (T.clN) (T.nN_locks) (hf.2.1) (⟨_,rfl,j9 (SqL.of (sm _ _ hll)) (kL hv) (jT ((sm _ _ hl)) (T.cl l.kd) (T.n_high l.kd) (JV l.kd _ _ _ _ _) (⟨_,rfl,rfl,_,rfl,?_⟩))⟩)⟩
  by_cases h:l.high=r
  ·refine kT (congrArg V.int h) ⟨_,rfl,.inl ⟨rfl,_,SqL.of hol⟩,_,rfl,zz2,fun tp htp=>?_⟩
   have u:=jL htp (.tup [V.int (i:Int),V.str "down"])
   refine ⟨ol,_,_,rfl,rfl,u _ _ hol,qP (by rw [hA.1,List.length_append];omega),_,_,rfl,jF,?_,qC hol0 (sm.trans u)⟩
   rw [lQ,ek,if_pos h,← List.append_assoc]
   exact ((hA.mono (PAt.same u)).snoc (v:=.ref tp) (x:=(i,false)) ⟨tp,rfl,jF⟩).mono (PAt.put (u _ _ hol))
  ·refine kB (fun z=>h (V.int.inj z)) ⟨us,_,rfl,hol,?_,sm⟩
   rw [lQ,ek,if_neg h,List.append_nil]
   exact hA
 rintro σ Hi ⟨us,c,rfl,hol,hA,sm⟩
 rw [Int.toNat_natCast,hL.1] at hA
 exact ⟨_,rfl,q ol us Hi sm hol0 hol hA⟩
theorem JD:FnScope ["script","k","canal","most","lock","at","start","steps","j","some","step"] ["script","k","canal","most"] (jE bO):=⟨rfl,rfl,rfl,by decide +kernel,rfl,by decide +kernel,by decide +kernel⟩
theorem AY {f:Addr} {fd:FuncData} (F:Fun K "_law_way" "_law_way" bO f fd) (T:Txt K mg cP cB cU cR cN tkS eA eW eS eF eO eK eL tkH w cC dV dW aU aD) (D__law_draw:Def P w K mg base 1 "_law_draw" ["script","k","many"] [] (JZ K)) (D__law_turns:Def P w K mg base 1 "_law_turns" ["canal","reach"] [] (tR (jD cP cB cU) cR cN)):FnOk P w K mg base jW 2 f fd ["script","k","canal","most"] (wI K (jD cP cB cU) cR cN):=by
 refine F.ok JD (fun vs H Q E h=>?_) (fun cdv A outer s H vs Q E hr h=>?_)
 ·obtain ⟨s,x,ns,k,mo,D,R,L,N,rfl,hS,h63,hk,hm1,hm8,hc,hdr,b1,q⟩:=h
  rfl
 obtain ⟨s,x,ns,k,mo,D,R,L,N,rfl,hS,h63,hk,hm1,hm8,hc,hdr,b1,q⟩:=h
 have hu:_<cLine:=hr.units0
 have hu1:=jV hr
 refine ⟨_,(@jG _ _ _ _ _ (jZ (i:=4) JD.nd rfl (by first|exact Or.inl rfl|exact Or.inr rfl) (jI kA (jU (pv 2) rfl) (jM D__law_draw hr rfl (@jA _ _ _ _ _ (pv 0) (@jA _ _ _ _ _ (@jJ _ _ _ _ _ _ _ _ j7 jC (@jJ _ _ _ _ _ _ _ _ kG jC (pv 1))) (@jA _ _ _ _ _ (qB qQ (by rfl) T.z_len PySem.boot_len (jA (jU (pv 2) rfl) jB)) jB (by rfl)) (by rfl)) (by rfl))) (fun _ _=>rfl)))
   (@jG _ _ _ _ _ (jZ (i:=5) JD.nd rfl (by first|exact Or.inl rfl|exact Or.inr rfl) (jI kA (qG (jA (jU (pv 4) rfl) (jA (jU (pv 4) rfl) jB))) (jM D__law_draw hr rfl (@jA _ _ _ _ _ (pv 0) (@jA _ _ _ _ _ (@jJ _ _ _ _ _ _ _ _ j7 jC (@jJ _ _ _ _ _ _ _ _ kG jC (pv 1))) (@jA _ _ _ _ _ jC jB (by rfl)) (by rfl)) (by rfl))) (fun _ _=>rfl)))
   (@jG _ _ _ _ _ (jZ (i:=6) JD.nd rfl (by first|exact Or.inl rfl|exact Or.inr rfl) (pv 5))
   (@jG _ _ _ _ _ (jZ (i:=7) JD.nd rfl (by first|exact Or.inl rfl|exact Or.inr rfl) (qG jB))
   (@jG _ _ _ _ _ (yK PassesOwn.never rfl (yU (by rfl) T.z_range (jA (@jJ _ _ _ _ _ _ _ _ j7 jC (jM D__law_draw hr rfl (@jA _ _ _ _ _ (pv 0) (@jA _ _ _ _ _ (@jJ _ _ _ _ _ _ _ _ j7 jC (@jJ _ _ _ _ _ _ _ _ kG jC (pv 1))) (@jA _ _ _ _ _ (pv 3) jB (by rfl)) (by rfl)) (by rfl)))) jB)) (j8 (i:=8) JD.nd rfl (by first|exact Or.inl rfl|exact Or.inr rfl))
    (@jG _ _ _ _ _ (jZ (i:=9) JD.nd rfl (by first|exact Or.inl rfl|exact Or.inr rfl) (jM D__law_turns hr rfl (jA (pv 2) (jA (pv 5) jB))))
   (@jG _ _ _ _ _ (jZ (i:=10) JD.nd rfl (by first|exact Or.inl rfl|exact Or.inr rfl) (jI kA (pv 9) (jM D__law_draw hr rfl (@jA _ _ _ _ _ (pv 0) (@jA _ _ _ _ _ (@jJ _ _ _ _ _ _ _ _ j7 (@jJ _ _ _ _ _ _ _ _ j7 jC (@jJ _ _ _ _ _ _ _ _ kG jC (pv 1))) (pv 8)) (@jA _ _ _ _ _ (qB qQ (by rfl) T.z_len PySem.boot_len (jA (pv 9) jB)) jB (by rfl)) (by rfl)) (by rfl))) (fun _ _=>rfl)))
   (@jG _ _ _ _ _ (qL (yF PySem.F.plainAttrs_list PySem.F.slot_list_append PySem.F.type_list_append zL (pv 7) (jA (pv 10) jB)))
   (@jH _ _ _ (jZ (i:=5) JD.nd rfl (by first|exact Or.inl rfl|exact Or.inr rfl) (jI kA (qG (jA (jU (jI kA (jU (pv 2) rfl) (jI ix_tup (pv 10) jC (fun _ _=>rfl)) (fun _ _=>rfl)) rfl) (jA (jU (jI kA (jU (pv 2) rfl) (jI ix_tup (pv 10) jC (fun _ _=>rfl)) (fun _ _=>rfl)) rfl) jB))) (q8 sD (by rfl) T.z_int PyProof.Rows.boot_int (jA (yI kK (jI ix_tup (pv 10) jC (fun _ _=>rfl)) jR (j3 _)) jB)) (fun _ _=>rfl))))))))
   (@jH _ _ _ (@jS _ _ _ _ (kZ (jA (pv 6) (jA (q8 JF (by rfl) T.z_tuple PyProof.Rows.boot_tuple (jA (pv 7) jB)) jB)))))))))),?_⟩
 have hc0:=hc
 obtain ⟨dx,rl,ll,nl,fs,rs,ls,nv,hx,hf,hrl,hll,hnl,hR,hL,hN,d1,d2,d3⟩:=hc
 have b8:=hdr.l8
 refine ⟨_,rfl,jT hx (T.clN) (T.nN_locks) (hf.2.1) (⟨_,rfl,_,rfl,j0 (⟨.inl ⟨by decide,by decide⟩,_,_,rfl,rfl,_,rfl,jT hx (T.clN) (T.nN_locks) (hf.2.1) (⟨ll,_,rfl,.inl (SqL.of hll),s,ns,_,_,rfl,hS,h63,by omega,by omega,by rw [hL.1];omega,fun d1 d10 d11=>?_⟩)⟩)⟩)⟩
 obtain ⟨k1,hk1⟩:∃k1:Nat,d1=(k1:Int):=⟨d1.toNat,by omega⟩
 subst hk1
 have hk1L:k1<L.length:=by rw [hL.1] at d11;omega
 obtain ⟨l0,hl0⟩:∃l,L[k1]?=some l:=⟨_,List.getElem?_eq_getElem hk1L⟩
 obtain ⟨v,hv,yl,rfl,dl,hl⟩:=hL.get hl0
 refine (j9 (SqL.of hll) (kL hv) (?_))
 refine ⟨_,rfl,jT hl (T.cl l0.kd) (T.n_low l0.kd) (J3 l0.kd _ _ _ _ _) (⟨_,rfl,jT hl (T.cl l0.kd) (T.n_high l0.kd) (JV l0.kd _ _ _ _ _) (⟨zz2,fun p1 hp1=>?_⟩)⟩)⟩
 have s1:=jL hp1 (.lst [V.int l0.low,V.int l0.high])
 refine ⟨_,rfl,_,rfl,j0 (⟨.inl ⟨by decide,by decide⟩,_,_,rfl,rfl,s,ns,_,_,rfl,s1.seq hS,h63,by omega,by omega,by omega,fun d2 d20 d21=>?_⟩)⟩
 obtain ⟨a0,hat,hend⟩:∃a0:Int,kQ [V.int l0.low,V.int l0.high] d2=some (.int a0)∧EndAt L a0:=by
  obtain ⟨k2,hk2⟩:∃k2:Nat,d2=(k2:Int):=⟨d2.toNat,by omega⟩
  subst hk2
  rcases k2 with _|_|k2
  ·exact ⟨l0.low,rfl,(k1,true),hk1L,by rw [Q3 hl0]⟩
  ·exact ⟨l0.high,rfl,(k1,false),hk1L,by rw [QZ hl0]⟩
  ·omega
 refine (j9 (SqL.of jF) hat (?_))
 refine ⟨_,rfl,zz0,fun sp hsp0=>?_⟩
 have s2:=jL hsp0 (.lst [])
 have s12:=s1.trans s2
 have hsp:upd (upd H p1 (.lst [V.int l0.low,V.int l0.high])) sp (.lst []) sp=some (.lst []):=jF
 have hspf:=s1.free hsp0
 generalize upd (upd H p1 (.lst [V.int l0.low,V.int l0.high])) sp (.lst [])=H2 at s2 s12 hsp ⊢
 refine ⟨_,rfl,_,rfl,j0 (⟨.inl ⟨by decide,by decide⟩,_,_,rfl,rfl,_,rfl,s,ns,_,_,rfl,s12.seq hS,h63,by omega,by omega,by omega,fun m0 m00 m01=>?_⟩)⟩
 obtain ⟨n,hn⟩:∃n:Nat,1+m0=(n:Int):=⟨(1+m0).toNat,by omega⟩
 refine ⟨_,_,rfl,rfl,(n:Int),(by show [V.int (1+m0)]=_;rw [hn]),by omega,by omega,?_⟩
 refine QY (n:=((n:Nat):Int).toNat) (fun i σ Hi=>∃(a:Int) (ps:List (Nat×Bool)) (us:List V) (c8 c9 c10:Option V),σ=[some (.ref s),some (.int (k:Int)),some (.ref x),some (.int (mo:Int)),some (.ref yl),some (.int a),some (.int a0),some (.ref sp),c8,c9,c10]∧Hi sp=some (.lst us)∧AllAt (PAt Hi) us ps∧(∀p∈ps,p.1<L.length)∧ps.length=i∧(qJ L a0 ps)[ps.length]?=some a∧QC L a0 ps∧EndAt L a∧Same H Hi)
  ⟨a0,[],[],none,none,none,rfl,hsp,AllAt.nil,fun p hp=>(by cases hp),rfl,rfl,HX _ _,hend,s12⟩ ?_ ?_
 ·rintro i σ Hi hi ⟨a,ps,us,c8,c9,c10,rfl,hsp,hA,hlt,hpl,hlast,hok,hen,sm⟩
  rw [Int.toNat_natCast] at hi
  rw [Int.zero_add]
  refine ⟨_,rfl,_,rfl,x,a,_,R,L,N,rfl,hc0.same sm,b8,fun so tus H4 s4 hso0 hso hTA=>?_⟩
  have sm4:=sm.trans s4
  have htl:=hen.turns
  refine ⟨_,rfl,_,rfl,_,rfl,j0 (⟨.inl ⟨by decide,by decide⟩,_,_,rfl,rfl,_,rfl,j0 (⟨_,rfl,so,_,rfl,.inl (SqL.of hso),s,ns,_,_,rfl,sm4.seq hS,h63,by omega,by omega,by rw [hTA.1];omega,fun d4 d40 d41=>?_⟩)⟩)⟩
  obtain ⟨m,hm⟩:∃m:Nat,d4=(m:Int):=⟨d4.toNat,by omega⟩
  subst hm
  have hml:m<tus.length:=by omega
  obtain ⟨p,hp,t,et,ht⟩:=hTA.2 m _ (List.getElem?_eq_getElem hml)
  obtain ⟨hpL,hpe⟩:=turns_mem.mp (List.mem_of_getElem? hp)
  refine (j9 (SqL.of hso) (kL (v:=.ref t) (by rw [List.getElem?_eq_getElem hml,et])) (?_))
  have hsp4:=s4 _ _ hsp
  refine ⟨_,rfl,.inl ⟨rfl,_,SqL.of hsp4⟩,_,rfl,sp,_,_,rfl,rfl,hsp4,qP (by rw [hA.1];omega),?_⟩
  have hA5:AllAt (PAt (upd H4 sp (.lst (us++[.ref t])))) (us++[.ref t]) (ps++[p]):=((hA.mono (PAt.same s4)).snoc ⟨t,rfl,ht⟩).mono (PAt.put hsp4)
  have sm5:Same H (upd H4 sp (.lst (us++[.ref t]))):=qC hspf sm4
  have hsp5:upd H4 sp (.lst (us++[.ref t])) sp=some (.lst (us++[.ref t])):=jF
  have ht:upd H4 sp (.lst (us++[.ref t])) t=some (.tup [.int (p.1:Int),.str (gB p.2)]):=by rw [j4 (fun z=>by rw [z,hsp4] at ht;cases ht)];exact ht
  generalize upd H4 sp (.lst (us++[.ref t]))=H5 at hA5 sm5 hsp5 ht ⊢
  obtain ⟨l,hl',hlg⟩:=rF hdr hpL
  obtain ⟨w,hw,y,rfl,dl,hl⟩:=hL.get hl'
  refine ⟨_,rfl,jT ((sm5 _ _ hx)) (T.clN) (T.nN_locks) (hf.2.1) (⟨_,rfl,jQ (SqT.of ht) rfl (j9 (SqL.of (sm5 _ _ hll)) (kL hw) (jT ((sm5 _ _ hl)) (T.cl l.kd) (T.n_low l.kd) (J3 l.kd _ _ _ _ _) (⟨_,rfl,jT ((sm5 _ _ hx)) (T.clN) (T.nN_locks) (hf.2.1) (⟨_,rfl,jQ (SqT.of ht) rfl (j9 (SqL.of (sm5 _ _ hll)) (kL hw) (jT ((sm5 _ _ hl)) (T.cl l.kd) (T.n_high l.kd) (JV l.kd _ _ _ _ _) (⟨zz2,fun pl hpl0=>?_⟩)))⟩)⟩)))⟩)⟩
  have u:=jL hpl0 (.lst [V.int l.low,V.int l.high])
  refine ⟨_,rfl,jQ (SqT.of (u _ _ ht)) rfl (⟨rfl,.inr ⟨_,rfl,?_⟩⟩)⟩
  rw [u7]
  have hat:kQ [V.int l.low,V.int l.high] (if p.2=true then 1 else 0)=some (.int (vI L p).2):=by
   obtain ⟨pk,pb⟩:=p
   cases pb
   ·rw [QZ hl'];rfl
   ·rw [Q3 hl'];rfl
  refine (j9 (SqL.of jF) hat (?_))
  refine ⟨_,ps++[p],us++[.ref t],_,_,_,rfl,u _ _ hsp5,hA5.mono (PAt.same u),fun p' hp'=>?_,by rw [List.length_append,hpl];rfl,?_,(GT hlast).mpr ⟨hok,hpe⟩,EndAt.next hpL,sm5.trans u⟩
  ·rcases List.mem_append.mp hp' with h|h
   ·exact hlt p' h
   ·rw [List.mem_singleton.mp h];exact hpL
  ·rw [mU,List.length_append,List.getElem?_append_right (by rw [fL];exact Nat.le_refl _),fL]
   show [(vI L p).2][ps.length+1 - (ps.length+1)]?=_
   rw [Nat.sub_self]
   rfl
 rintro σ Hi ⟨a,ps,us,c8,c9,c10,rfl,hsp,hA,hlt,hpl,hlast,hok,hen,sm⟩
 rw [Int.toNat_natCast] at hpl
 refine ⟨_,rfl,_,rfl,sp,us,rfl,.inl ⟨SqL.of hsp,fun st hst0=>?_⟩⟩
 have v1:=jL hst0 (.tup us)
 refine ⟨zz2,fun t ht0=>?_⟩
 have v2:=jL ht0 (.tup [V.int a0,V.ref st])
 have w:=(sm.trans v1).trans v2
 exact q t (a0,ps) _ ⟨hlt,hok,by show ps.length≤8;omega⟩ w ((sm.trans v1).free ht0) ⟨t,st,us,rfl,jF,v2 _ _ jF,hA.mono (PAt.same (v1.trans v2))⟩
theorem zJ:FnScope ["script","canal","ways","unit","many","waters","r","near","k","held","places"] ["script","canal","ways"] (jE JN):=⟨rfl,rfl,rfl,by decide +kernel,rfl,by decide +kernel,by decide +kernel⟩
theorem AV {f:Addr} {fd:FuncData} (F:Fun K "_law_state" "_law_state" JN f fd) (T:Txt K mg cP cB cU cR cN tkS eA eW eS eF eO eK eL tkH w cC dV dW aU aD) (D__law_unit:Def P w K mg base 1 "_law_unit" ["script"] [] (oB K)) (D__law_draw:Def P w K mg base 1 "_law_draw" ["script","k","many"] [] (JZ K)) (MP_extra:MeK P w K mg base 1 (jD cP cB cU) "extra" ["self"] (vZ (jD cP cB cU) (fun kd v=>V.int (match kd with|.plain=>0|.basin=>v|.pump=>v)))) (MP_kind:MeK P w K mg base 1 (jD cP cB cU) "kind" ["self"] (vZ (jD cP cB cU) (fun kd _=>V.str (match kd with|.plain=>"plain"|.basin=>"basin"|.pump=>"pump")))):FnOk P w K mg base jW 2 f fd ["script","canal","ways"] (tS K (jD cP cB cU) cR cN):=by
 refine F.ok zJ (fun vs H Q E h=>?_) (fun cdv A outer s H vs Q E hr h=>?_)
 ·obtain ⟨s,x,wl,ns,us,ys,D,R,L,N,rfl,hS,h63,hc,hdr,hwl,hA,h10,hok,q⟩:=h
  rfl
 obtain ⟨s,x,wl,ns,us,ys,D,R,L,N,rfl,hS,h63,hc,hdr,hwl,hA,h10,hok,q⟩:=h
 have hu:_<cLine:=hr.units0
 have hu1:=jV hr
 refine ⟨_,(@jG _ _ _ _ _ (jZ (i:=3) zJ.nd rfl (by first|exact Or.inl rfl|exact Or.inr rfl) (jM D__law_unit hr rfl (jA (pv 0) jB)))
   (@jG _ _ _ _ _ (jZ (i:=4) zJ.nd rfl (by first|exact Or.inl rfl|exact Or.inr rfl) (qB qQ (by rfl) T.z_len PySem.boot_len (jA (jU (pv 1) rfl) jB)))
   (@jG _ _ _ _ _ (jZ (i:=5) zJ.nd rfl (by first|exact Or.inl rfl|exact Or.inr rfl) (qG jB))
   (@jG _ _ _ _ _ (yK PassesOwn.never rfl (yU (by rfl) T.z_range (jA (pv 4) jB)) (j8 (i:=6) zJ.nd rfl (by first|exact Or.inl rfl|exact Or.inr rfl))
    (@jG _ _ _ _ _ (jZ (i:=7) zJ.nd rfl (by first|exact Or.inl rfl|exact Or.inr rfl) (jI kA (qG (@jA _ _ _ _ _ jC (@jA _ _ _ _ _ (jU (jI kA (jU (pv 1) rfl) (pv 6) (fun _ _=>rfl)) rfl) (@jA _ _ _ _ _ (jU (jI kA (jU (pv 1) rfl) (pv 6) (fun _ _=>rfl)) rfl) jB (by rfl)) (by rfl)) (by rfl))) (jM D__law_draw hr rfl (@jA _ _ _ _ _ (pv 0) (@jA _ _ _ _ _ (@jJ _ _ _ _ _ _ _ _ j7 jC (@jJ _ _ _ _ _ _ _ _ kG jC (pv 6))) (@jA _ _ _ _ _ jC jB (by rfl)) (by rfl)) (by rfl))) (fun _ _=>rfl)))
   (@jH _ _ _ (qL (yF PySem.F.plainAttrs_list PySem.F.slot_list_append PySem.F.type_list_append zL (pv 5) (jA (@jJ _ _ _ _ _ _ _ _ j7 (@jJ _ _ _ _ _ _ _ _ j7 (pv 7) (@jJ _ _ _ _ _ _ _ _ kG (jM D__law_draw hr rfl (@jA _ _ _ _ _ (pv 0) (@jA _ _ _ _ _ (@jJ _ _ _ _ _ _ _ _ j7 jC (@jJ _ _ _ _ _ _ _ _ kG jC (pv 6))) (@jA _ _ _ _ _ jC jB (by rfl)) (by rfl)) (by rfl))) (pv 3))) (jM D__law_draw hr rfl (@jA _ _ _ _ _ (pv 0) (@jA _ _ _ _ _ (@jJ _ _ _ _ _ _ _ _ j7 jC (@jJ _ _ _ _ _ _ _ _ kG jC (pv 6))) (@jA _ _ _ _ _ jC jB (by rfl)) (by rfl)) (by rfl)))) jB))))))
   (@jG _ _ _ _ _ (yK PassesOwn.never rfl (yU (by rfl) T.z_range (jA (qB qQ (by rfl) T.z_len PySem.boot_len (jA (jU (pv 1) rfl) jB)) jB)) (j8 (i:=8) zJ.nd rfl (by first|exact Or.inl rfl|exact Or.inr rfl))
    (@jH _ _ _ (qL (yF PySem.F.plainAttrs_list PySem.F.slot_list_append PySem.F.type_list_append zL (pv 5) (jA (@jJ _ _ _ _ _ _ _ _ kG (jU (jI kA (jU (pv 1) rfl) (pv 8) (fun _ _=>rfl)) rfl) (jM D__law_draw hr rfl (@jA _ _ _ _ _ (pv 0) (@jA _ _ _ _ _ (@jJ _ _ _ _ _ _ _ _ j7 jC (pv 8)) (@jA _ _ _ _ _ jC jB (by rfl)) (by rfl)) (by rfl)))) jB)))))
   (@jG _ _ _ _ _ (yK PassesOwn.never rfl (yU (by rfl) T.z_range (jA (qB qQ (by rfl) T.z_len PySem.boot_len (jA (jU (pv 1) rfl) jB)) jB)) (j8 (i:=8) zJ.nd rfl (by first|exact Or.inl rfl|exact Or.inr rfl))
    (@jG _ _ _ _ _ (jZ (i:=9) zJ.nd rfl (by first|exact Or.inl rfl|exact Or.inr rfl) (jI kA (qG (@jA _ _ _ _ _ jC (@jA _ _ _ _ _ (oH MP_extra hr (jI kA (jU (pv 1) rfl) (pv 8) (fun _ _=>rfl))) (@jA _ _ _ _ _ (@jJ _ _ _ _ _ _ _ _ iG (oH MP_extra hr (jI kA (jU (pv 1) rfl) (pv 8) (fun _ _=>rfl))) jC) jB (by rfl)) (by rfl)) (by rfl))) (jM D__law_draw hr rfl (@jA _ _ _ _ _ (pv 0) (@jA _ _ _ _ _ (@jJ _ _ _ _ _ _ _ _ j7 jC (pv 8)) (@jA _ _ _ _ _ jC jB (by rfl)) (by rfl)) (by rfl))) (fun _ _=>rfl)))
   (@jH _ _ _ (qL (yF PySem.F.plainAttrs_list PySem.F.slot_list_append PySem.F.type_list_append zL (pv 5) (jA (jI kA (qG (jA jC (jA (pv 9) jB))) (q8 sD (by rfl) T.z_int PyProof.Rows.boot_int (jA (yI kK (oH MP_kind hr (jI kA (jU (pv 1) rfl) (pv 8) (fun _ _=>rfl))) jR (j3 _)) jB)) (fun _ _=>rfl)) jB))))))
   (@jG _ _ _ _ _ (qL (yF PySem.F.plainAttrs_list PySem.F.slot_list_append PySem.F.type_list_append zL (pv 5) (jA (@jJ _ _ _ _ _ _ _ _ kG (jM D__law_draw hr rfl (@jA _ _ _ _ _ (pv 0) (@jA _ _ _ _ _ jC (@jA _ _ _ _ _ jC jB (by rfl)) (by rfl)) (by rfl))) (pv 3)) jB)))
   (@jG _ _ _ _ _ (qL (yF PySem.F.plainAttrs_list PySem.F.slot_list_append PySem.F.type_list_append zL (pv 5) (jA (@jJ _ _ _ _ _ _ _ _ yL (jM D__law_draw hr rfl (@jA _ _ _ _ _ (pv 0) (@jA _ _ _ _ _ jC (@jA _ _ _ _ _ jC jB (by rfl)) (by rfl)) (by rfl))) (@jJ _ _ _ _ _ _ _ _ kG jC (pv 3))) jB)))
   (@jG _ _ _ _ _ (jZ (i:=10) zJ.nd rfl (by first|exact Or.inl rfl|exact Or.inr rfl) (yB ["k","script","ways"] (qO 1 [0,2]) rfl (qW (jE JN) rfl rfl (by decide +kernel) (by decide +kernel) (by decide +kernel)) (qX 1 [0,2] rfl rfl (by decide +kernel)) (yU (by rfl) T.z_range (jA (qB qQ (by rfl) T.z_len PySem.boot_len (jA (pv 2) jB)) jB)) (fun _ _ _ _ _=>(j8 (i:=0) (show List.Nodup (["k","script","ways"]:List Str) from by decide +kernel) rfl (by first|exact Or.inl rfl|exact Or.inr rfl))) (fun _ _ _ _ _=>vP) (fun _ _ _ _ _=>(jM D__law_draw hr rfl (@jA _ _ _ _ _ (pv 1) (@jA _ _ _ _ _ (@jJ _ _ _ _ _ _ _ _ j7 jC (pv 0)) (@jA _ _ _ _ _ (@jJ _ _ _ _ _ _ _ _ j7 jC (qB (pV K) (by rfl) T.z_len PySem.boot_len (jA (jI (zW K) (jI (dL K) (pv 2) (pv 0) (fun _ _=>rfl)) jC (fun _ _=>rfl)) jB))) jB (by rfl)) (by rfl)) (by rfl))))))
   (@jG _ _ _ _ _ (jZ (i:=10) zJ.nd rfl (by first|exact Or.inl rfl|exact Or.inr rfl) (yB ["k","places","ways"] (qO 1 [10,2]) rfl (qW (jE JN) rfl rfl (by decide +kernel) (by decide +kernel) (by decide +kernel)) (qX 1 [10,2] rfl rfl (by decide +kernel)) (yU (by rfl) T.z_range (jA (qB qQ (by rfl) T.z_len PySem.boot_len (jA (pv 2) jB)) jB)) (fun _ _ _ _ _=>(j8 (i:=0) (show List.Nodup (["k","places","ways"]:List Str) from by decide +kernel) rfl (by first|exact Or.inl rfl|exact Or.inr rfl))) (fun _ _ _ _ _=>vP) (fun _ _ _ _ _=>(qB (sC rfl) (by rfl) T.z_min PyProof.Rows.boot_min (jA (jI (dL K) (pv 1) (pv 0) (fun _ _=>rfl)) (jA (qB (pV K) (by rfl) T.z_len PySem.boot_len (jA (jI (zW K) (jI (dL K) (pv 2) (pv 0) (fun _ _=>rfl)) jC (fun _ _=>rfl)) jB)) jB))))))
   (@jH _ _ _ (@jS _ _ _ _ (kZ (@jA _ _ _ _ _ (jM D__law_draw hr rfl (@jA _ _ _ _ _ (pv 0) (@jA _ _ _ _ _ jC (@jA _ _ _ _ _ (@jJ _ _ _ _ _ _ _ _ j7 (qB qQ (by rfl) T.z_len PySem.boot_len (jA (jU (pv 1) rfl) jB)) jC) jB (by rfl)) (by rfl)) (by rfl))) (@jA _ _ _ _ _ (q8 JF (by rfl) T.z_tuple PyProof.Rows.boot_tuple (jA (pv 5) jB)) (@jA _ _ _ _ _ (q8 JF (by rfl) T.z_tuple PyProof.Rows.boot_tuple (jA (pv 10) jB)) jB (by rfl)) (by rfl)) (by rfl))))))))))))))),?_⟩
 have hc0:=hc
 obtain ⟨dx,rl,ll,nl,fs,rs,ls,nv,hx,hf,hrl,hll,hnl,hR,hL,hN,d1,d2,d3⟩:=hc
 have b1:=hdr.r8
 have b2:=hdr.l8
 have b3:=hdr.n6
 refine ⟨_,rfl,s,ns,rfl,hS,h63,fun un hv0 hv1=>?_⟩
 refine ⟨_,rfl,jT hx (T.clN) (T.nN_reaches) (hf.1) (⟨rl,_,rfl,.inl (SqL.of hrl),?_⟩)⟩
 rw [hR.1]
 refine ⟨zz0,fun wa hwa0=>?_⟩
 refine ⟨_,rfl,_,rfl,by omega,by omega,QY (n:=((R.length:Nat):Int).toNat) (fun i σ Hi=>∃(ms:List Int) (c6 c7:Option V),σ=[some (.ref s),some (.ref x),some (.ref wl),some (.int un),some (.int (R.length:Int)),some (.ref wa),c6,c7,none,none,none]∧Hi wa=some (.lst (ms.map V.int))∧ms.length=i∧StTo R L ms∧Same H Hi) ⟨[],none,none,rfl,jF,rfl,StTo.nil R L,jL hwa0 _⟩ ?_ ?_⟩
 ·rintro i σ Hi hi ⟨ms,c6,c7,rfl,hwa,hml,hto,sm⟩
  rw [Int.toNat_natCast] at hi
  rw [Int.zero_add]
  obtain ⟨r,hr⟩:∃r,R[i]?=some r:=⟨_,List.getElem?_eq_getElem hi⟩
  obtain ⟨v,hv,y,rfl,dy,gs,hy,hg⟩:=hR.get hr
  refine ⟨_,rfl,jT ((sm _ _ hx)) (T.clN) (T.nN_reaches) (hf.1) (⟨_,rfl,j9 (SqL.of (sm _ _ hrl)) (kL hv) (jT ((sm _ _ hy)) (T.clR) (T.nR_least) (hg.2.1) (⟨_,rfl,jT ((sm _ _ hx)) (T.clN) (T.nN_reaches) (hf.1) (⟨_,rfl,j9 (SqL.of (sm _ _ hrl)) (kL hv) (jT ((sm _ _ hy)) (T.clR) (T.nR_crest) (hg.2.2.1) (⟨zz3,fun p1 hp1=>?_⟩))⟩)⟩))⟩)⟩
  have u:=jL hp1 (.lst ([(0:Int),r.least,r.crest].map V.int))
  have smu:=sm.trans u
  refine ⟨_,rfl,_,rfl,j0 (⟨.inl ⟨by decide,by decide⟩,_,_,rfl,rfl,s,ns,_,_,rfl,smu.seq hS,h63,by omega,by omega,by omega,fun d1 d10 d11=>?_⟩)⟩
  obtain ⟨ne,hne,hat⟩:=iN [(0:Int),r.least,r.crest] d10 d11
  refine (j9 (SqL.of jF) hat (?_))
  have hwau:=u _ _ hwa
  refine ⟨_,rfl,.inl ⟨rfl,_,SqL.of hwau⟩,_,rfl,_,rfl,_,rfl,j0 (⟨.inl ⟨by decide,by decide⟩,_,_,rfl,rfl,s,ns,_,_,rfl,smu.seq hS,h63,by omega,by omega,by omega,fun d2 d20 d21=>?_⟩)⟩
  refine ⟨_,rfl,j0 (⟨.inl ⟨by omega,by omega⟩,_,_,rfl,rfl,_,rfl,_,rfl,j0 (⟨.inl ⟨by decide,by decide⟩,_,_,rfl,rfl,s,ns,_,_,rfl,smu.seq hS,h63,by omega,by omega,by omega,fun d3 d30 d31=>?_⟩)⟩)⟩
  refine ⟨_,_,rfl,rfl,wa,_,_,rfl,rfl,hwau,qP (by rw [List.length_map];omega),?_⟩
  have hgd:=hdr.good i r hr
  have hn0:0≤ne:=by
   obtain ⟨g1,g2,_⟩:=hgd
   simp only [List.mem_cons,List.mem_nil_iff,or_false] at hne
   rcases hne with rfl|rfl|rfl<;>omega
  have hm0:=(dZ d20 (show d2≤4 by omega) hv0 hv1 (by decide)).1
  exact ⟨ms++[ne+d2*un+d3],_,_,rfl,by rw [jF,fG],by rw [List.length_append,hml];rfl,hto.snoc hml (E3 hi (by omega)),qC hwa0 smu⟩
 rintro σ Hi ⟨ms,c6,c7,rfl,hwa,hml,hto,sm⟩
 rw [Int.toNat_natCast] at hml
 refine ⟨_,rfl,jT ((sm _ _ hx)) (T.clN) (T.nN_locks) (hf.2.1) (⟨ll,_,rfl,.inl (SqL.of (sm _ _ hll)),_,rfl,by omega,by rw [hL.1];omega,QY (n:=((ls.length:Nat):Int).toNat) (fun i σ Hi=>∃(ms:List Int) (c8:Option V),σ=[some (.ref s),some (.ref x),some (.ref wl),some (.int un),some (.int (R.length:Int)),some (.ref wa),c6,c7,c8,none,none]∧Hi wa=some (.lst (ms.map V.int))∧ms.length=R.length+i∧StTo R L ms∧Same H Hi) ⟨ms,none,rfl,hwa,by omega,hto,sm⟩ ?_ ?_⟩)⟩
 ·rintro i σ Hi hi ⟨ms,c8,rfl,hwa,hml,hto,sm⟩
  rw [Int.toNat_natCast,hL.1] at hi
  rw [Int.zero_add]
  obtain ⟨l,hl'⟩:∃l,L[i]?=some l:=⟨_,List.getElem?_eq_getElem hi⟩
  obtain ⟨v,hv,y,rfl,dl,hl⟩:=hL.get hl'
  refine ⟨_,rfl,.inl ⟨rfl,_,SqL.of hwa⟩,_,rfl,jT ((sm _ _ hx)) (T.clN) (T.nN_locks) (hf.2.1) (⟨_,rfl,j9 (SqL.of (sm _ _ hll)) (kL hv) (jT ((sm _ _ hl)) (T.cl l.kd) (T.n_room l.kd) (Q2 l.kd _ _ _ _ _) (⟨_,rfl,_,rfl,j0 (⟨s,ns,_,_,rfl,sm.seq hS,h63,by omega,by omega,by omega,fun d1 d10 d11=>?_⟩)⟩))⟩)⟩
  refine ⟨_,_,rfl,rfl,.inr ⟨by omega,by omega⟩,wa,_,_,rfl,rfl,hwa,qP (by rw [List.length_map];omega),?_⟩
  have hz:l.room*d1=0∨l.room*d1=l.room:=by
   rcases (show d1=0∨d1=1 by omega) with rfl|rfl
   ·exact .inl (Int.mul_zero _)
   ·exact .inr (Int.mul_one _)
  exact ⟨ms++[l.room*d1],_,rfl,by rw [jF,fG],by rw [List.length_append,hml];rfl,hto.snoc hml (GJ hl' hz),qC hwa0 sm⟩
 rintro σ Hi ⟨ms,c8,rfl,hwa,hml,hto,sm⟩
 rw [Int.toNat_natCast,hL.1] at hml
 refine ⟨_,rfl,jT ((sm _ _ hx)) (T.clN) (T.nN_locks) (hf.2.1) (⟨ll,_,rfl,.inl (SqL.of (sm _ _ hll)),_,rfl,by omega,by rw [hL.1];omega,QY (n:=((ls.length:Nat):Int).toNat) (fun i σ Hi=>∃(ms:List Int) (c8 c9:Option V),σ=[some (.ref s),some (.ref x),some (.ref wl),some (.int un),some (.int (R.length:Int)),some (.ref wa),c6,c7,c8,c9,none]∧Hi wa=some (.lst (ms.map V.int))∧ms.length=R.length+L.length+i∧StTo R L ms∧Same H Hi) ⟨ms,c8,none,rfl,hwa,by omega,hto,sm⟩ ?_ ?_⟩)⟩
 ·rintro i σ Hi hi ⟨ms,c8,c9,rfl,hwa,hml,hto,sm⟩
  rw [Int.toNat_natCast,hL.1] at hi
  rw [Int.zero_add]
  obtain ⟨l,hl'⟩:∃l,L[i]?=some l:=⟨_,List.getElem?_eq_getElem hi⟩
  obtain ⟨v,hv,y,rfl,dl,hl⟩:=hL.get hl'
  have hl2:=sm _ _ hl
  have key:∀e:Int,(match l.kd with|.plain=>(0:Int)|.basin=>l.extra|.pump=>l.extra)=e→∃f:Int,f=e:=fun e _=>⟨e,rfl⟩
  refine ⟨_,rfl,jT ((sm _ _ hx)) (T.clN) (T.nN_locks) (hf.2.1) (⟨_,rfl,j9 (SqL.of (sm _ _ hll)) (kL hv) (⟨l.kd,y,dl,_,rfl,hl2,tG l.kd _ _ _ _ _,y,_,_,_,_,_,rfl,⟨dl,hl2⟩,_,rfl,jT ((sm _ _ hx)) (T.clN) (T.nN_locks) (hf.2.1) (⟨_,rfl,j9 (SqL.of (sm _ _ hll)) (kL hv) (⟨l.kd,y,dl,_,rfl,hl2,tG l.kd _ _ _ _ _,y,_,_,_,_,_,rfl,⟨dl,hl2⟩,_,_,rfl,rfl,⟨by decide,by decide⟩,zz3,fun p1 hp1=>?_⟩)⟩)⟩)⟩)⟩
  try dsimp only
  generalize hex:(match l.kd with|.plain=>(0:Int)|.basin=>l.extra|.pump=>l.extra)=ex
  have u:=jL hp1 (.lst ([(0:Int),ex,ex / 2].map V.int))
  have smu:=sm.trans u
  refine ⟨_,rfl,_,rfl,j0 (⟨s,ns,_,_,rfl,smu.seq hS,h63,by omega,by omega,by omega,fun d1 d10 d11=>?_⟩)⟩
  obtain ⟨he,hhe,hat⟩:=iN [(0:Int),ex,ex / 2] d10 d11
  refine (j9 (SqL.of jF) hat (?_))
  have hwau:=u _ _ hwa
  have hl2:=smu _ _ hl
  refine ⟨_,rfl,.inl ⟨rfl,_,SqL.of hwau⟩,_,rfl,zz2,fun p2 hp2=>?_⟩
  have u2:=jL hp2 (.lst ([(0:Int),he].map V.int))
  have smv:=smu.trans u2
  have hl2:=u2 _ _ hl2
  refine ⟨_,rfl,jT ((smv _ _ hx)) (T.clN) (T.nN_locks) (hf.2.1) (⟨_,rfl,j9 (SqL.of (smv _ _ hll)) (kL hv) (⟨l.kd,y,dl,_,rfl,hl2,IK l.kd _ _ _ _ _,y,_,_,_,_,_,rfl,⟨dl,hl2⟩,rfl,.inr ⟨_,rfl,?_⟩⟩)⟩)⟩
  obtain ⟨he2,hat2,hb2⟩:∃he2:Int,kQ ([(0:Int),he].map V.int) (if decide (V.str (match l.kd with|.plain=>"plain"|.basin=>"basin"|.pump=>"pump")=V.str "basin")=true then 1 else 0)=some (.int he2)∧0≤he2∧(l.kd=.basin→he2≤l.extra)∧(l.kd≠.basin→he2=0):=by
   obtain ⟨_,_,_,_,_,_,g7,g8⟩:=hdr.lock i l hl'
   cases hkd:l.kd with
   |plain=>exact ⟨0,by rw [uC (fun z=>absurd (V.str.inj z) (show ¬("plain":Str)="basin" by decide +kernel))];rfl,Int.le_refl _,(fun z=>nomatch z),fun _=>rfl⟩
   |pump=>exact ⟨0,by rw [uC (fun z=>absurd (V.str.inj z) (show ¬("pump":Str)="basin" by decide +kernel))];rfl,Int.le_refl _,(fun z=>nomatch z),fun _=>rfl⟩
   |basin =>
    have g8:=g8 (by rw [hkd];exact fun z=>nomatch z)
    rw [hkd] at hex
    have hex:l.extra=ex:=hex
    have:0≤he∧he≤l.extra:=by
     simp only [List.mem_cons,List.mem_nil_iff,or_false] at hhe
     rcases hhe with rfl|rfl|rfl<;>omega
    exact ⟨he,by rw [IF rfl];rfl,this.1,fun _=>this.2,fun z=>absurd rfl z⟩
  refine (j9 (SqL.of jF) hat2 (⟨wa,_,_,rfl,rfl,u2 _ _ hwau,qP (by rw [List.length_map];omega),?_⟩))
  exact ⟨ms++[he2],_,_,rfl,by rw [jF,fG],by rw [List.length_append,hml];rfl,hto.snoc hml (HI hl' hb2),qC hwa0 smv⟩
 rintro σ Hi ⟨ms,c8,c9,rfl,hwa,hml,hto,sm⟩
 rw [Int.toNat_natCast,hL.1] at hml
 refine ⟨_,rfl,.inl ⟨rfl,_,SqL.of hwa⟩,_,rfl,s,ns,_,_,rfl,sm.seq hS,h63,by omega,by omega,by omega,fun d1 d10 d11=>?_⟩
 refine ⟨_,rfl,j0 (⟨.inl ⟨by omega,by omega⟩,wa,_,_,rfl,rfl,hwa,qP (by rw [List.length_map];omega),?_⟩)⟩
 try dsimp only
 rw [fG]
 have sm1:Same H (upd Hi wa (.lst ((ms++[d1*un]).map V.int))):=qC hwa0 sm
 have hwa1:upd Hi wa (.lst ((ms++[d1*un]).map V.int)) wa=_:=jF
 generalize upd Hi wa (.lst ((ms++[d1*un]).map V.int))=H1 at sm1 hwa1 ⊢
 refine ⟨_,rfl,.inl ⟨rfl,_,SqL.of hwa1⟩,_,rfl,s,ns,_,_,rfl,sm1.seq hS,h63,by omega,by omega,by omega,fun d2 d20 d21=>?_⟩
 refine ⟨_,rfl,j0 (⟨.inl ⟨by decide,by decide⟩,_,_,rfl,rfl,wa,_,_,rfl,rfl,hwa1,qP (by rw [List.length_map,List.length_append,List.length_singleton];omega),?_⟩)⟩
 try dsimp only
 rw [fG]
 have hml2:(ms++[d1*un]++[d2 - 4*un]).length=R.length+L.length+L.length+2:=by rw [List.length_append,List.length_append,hml];rfl
 have hm0:=(dZ d10 (show d1≤8 by omega) hv0 hv1 (by decide)).1
 have hto2:StTo R L (ms++[d1*un]++[d2 - 4*un]):=(hto.snoc hml (tM (by omega) fun _=>hm0)).snoc (n:=R.length+L.length+L.length+1) (by rw [List.length_append,hml];rfl) (tM (by omega) fun e=>absurd e (by omega))
 generalize ms++[d1*un]++[d2 - 4*un]=wt at hml2 hto2 ⊢
 have sm2:Same H (upd H1 wa (.lst (wt.map V.int))):=qC hwa0 sm1
 have hwa2:upd H1 wa (.lst (wt.map V.int)) wa=_:=jF
 generalize upd H1 wa (.lst (wt.map V.int))=H2 at sm2 hwa2 ⊢
 have hA2:=hA.mono (WyAt.same sm2)
 refine ⟨_,rfl,wl,_,rfl,.inl (SqL.of (sm2 _ _ hwl)),_,rfl,by omega,by rw [hA.1];omega,fun pa hpa0=>?_⟩
 refine dE (n:=((us.length:Nat):Int).toNat) (caps:=[some (.ref s),some (.ref wl)]) (fun i zs _=>∃ps:List Nat,zs=ps.map (fun (p:Nat)=>V.int (p:Int))∧ps.length=i) hpa0 ⟨[],rfl,rfl⟩ ?_ ?_
 ·rintro i zs Hj hi hle sj hY ⟨ps,rfl,hpl⟩
  rw [Int.toNat_natCast,hA.1] at hi
  rw [Int.zero_add]
  obtain ⟨v,hv,t,st,vs,rfl,h1,h2,h3⟩:=hA2.get (List.getElem?_eq_getElem hi)
  refine vS (kU ?_)
  refine ⟨_,rfl,_,rfl,j0 (⟨_,rfl,_,rfl,j9 (SqL.of (sj _ _ (sm2 _ _ hwl))) (kL hv) (jQ (SqT.of (sj _ _ h1)) rfl (⟨st,_,rfl,.inr (SqT.of (sj _ _ h2)),_,_,rfl,rfl,s,ns,_,_,rfl,(sm2.trans sj).seq hS,h63,by omega,by omega,by omega,fun d d0 d1=>?_⟩))⟩)⟩
  obtain ⟨m,hm⟩:∃m:Nat,d=(m:Int):=⟨d.toNat,by omega⟩
  subst hm
  exact y8 hpa0 sj hY hle (by omega) (Same.refl _) ⟨ps++[m],by rw [List.map_append];rfl,by rw [List.length_append,hpl];rfl⟩
 rintro zs H3 s3 hpa hle3 ⟨p0,rfl,hp0⟩
 rw [Int.toNat_natCast,hA.1] at hp0
 have sm3:=sm2.trans s3
 have hA3:=hA2.mono (WyAt.same s3)
 refine ⟨_,rfl,wl,_,rfl,.inl (SqL.of (sm3 _ _ hwl)),_,rfl,by omega,by rw [hA.1];omega,fun pb hpb0=>?_⟩
 refine dE (n:=((us.length:Nat):Int).toNat) (caps:=[some (.ref pa),some (.ref wl)]) (fun i zs _=>∃ps:List Nat,zs=ps.map (fun (p:Nat)=>V.int (p:Int))∧ps.length=i∧∀(j:Nat) (y:kE) (p:Nat),ys[j]?=some y→ps[j]?=some p→p≤y.2.length) hpb0 ⟨[],rfl,rfl,fun j y p _ h=>by cases h⟩ ?_ ?_
 ·rintro i zs Hj hi hle sj hY ⟨ps,rfl,hpl,hple⟩
  rw [Int.toNat_natCast,hA.1] at hi
  rw [Int.zero_add]
  obtain ⟨y,hy⟩:∃y,ys[i]?=some y:=⟨_,List.getElem?_eq_getElem hi⟩
  obtain ⟨v,hv,t,st,vs,rfl,h1,h2,h3⟩:=hA3.get hy
  obtain ⟨m,hm⟩:∃m,p0[i]?=some m:=⟨_,List.getElem?_eq_getElem (by omega)⟩
  refine vS (kU ?_)
  refine ⟨_,rfl,_,rfl,j9 (SqL.of (sj _ _ hpa)) (kL (v:=.int (m:Int)) (by rw [List.getElem?_map,hm];rfl)) (⟨_,rfl,_,rfl,j9 (SqL.of (sj _ _ (sm3 _ _ hwl))) (kL hv) (jQ (SqT.of (sj _ _ h1)) rfl (⟨st,_,rfl,.inr (SqT.of (sj _ _ h2)),_,_,rfl,?_⟩))⟩)⟩
  have em:(if (m:Int)<((vs.length:Nat):Int) then (m:Int) else ((vs.length:Nat):Int))=((min m y.2.length:Nat):Int):=by rw [h3.1];split<;>omega
  have em2:(if ((vs.length:Nat):Int)<(m:Int) then ((vs.length:Nat):Int) else (m:Int))=((min m y.2.length:Nat):Int):=by rw [h3.1];split<;>omega
  try dsimp only
  first|rw [em]|rw [em2]
  refine y8 hpb0 sj hY hle (by omega) (Same.refl _) ⟨ps++[min m y.2.length],by rw [List.map_append];rfl,by rw [List.length_append,hpl];rfl,fun j y' p hj hp=>?_⟩
  by_cases hl:j<ps.length
  ·rw [List.getElem?_append_left hl] at hp;exact hple j y' p hj hp
  ·rw [List.getElem?_append_right (by omega)] at hp
   have hz:j - ps.length=0:=by
    have:=(List.getElem?_eq_some_iff.mp hp).1
    rw [List.length_singleton] at this
    omega
   rw [hz] at hp
   cases hp
   rw [show j=i by omega,hy] at hj
   cases hj
   omega
 rintro zs H4 s4 hpb hle4 ⟨pl,rfl,hpl,hple⟩
 rw [Int.toNat_natCast,hA.1] at hpl
 have sm4:=sm3.trans s4
 refine ⟨_,rfl,_,rfl,jT ((sm4 _ _ hx)) (T.clN) (T.nN_nights) (hf.2.2.1) (⟨nl,_,rfl,.inl (SqL.of (sm4 _ _ hnl)),_,_,rfl,rfl,s,ns,_,_,rfl,sm4.seq hS,h63,by omega,by omega,by rw [hN.1];omega,fun dd dd0 dd1=>?_⟩)⟩
 rw [hN.1] at dd1
 refine ⟨_,rfl,wa,_,rfl,.inl ⟨SqL.of (s4 _ _ (s3 _ _ hwa2)),fun t1 ht10=>?_⟩⟩
 have v1:=jL ht10 (.tup (wt.map V.int))
 refine ⟨_,rfl,pb,_,rfl,.inl ⟨SqL.of (v1 _ _ hpb),fun t2 ht20=>?_⟩⟩
 have v2:=jL ht20 (.tup (pl.map fun (p:Nat)=>V.int (p:Int)))
 refine ⟨zz3,fun t3 ht30=>?_⟩
 have v3:=jL ht30 (.tup [V.int dd,V.ref t1,V.ref t2])
 exact q t3 dd wt pl _ (((sm4.trans v1).trans v2).trans v3) ⟨t1,t2,jF,v3 _ _ (v2 _ _ jF),v3 _ _ jF⟩ ⟨hpl,h10,hok,hple⟩ dd0 (by omega) ⟨by omega,hto2⟩
theorem C0:FnScope ["machine","words"] ["machine","words"] (jE bH):=⟨rfl,rfl,rfl,by decide +kernel,rfl,by decide +kernel,by decide +kernel⟩
theorem AQ {f:Addr} {fd:FuncData} (F:Fun K "_law_done" "_law_done" bH f fd) (T:Txt K mg cP cB cU cR cN tkS eA eW eS eF eO eK eL tkH w cC dV dW aU aD) (DX_work:DefX P w K mg base 7 "work" ["chamber","words"] [] (n5 (jD cP cB cU) cC (kX eA eW eS eF eO eK) K dW qS)):FnOk P w K mg base jW 8 f fd ["machine","words"] (uR (jD cP cB cU) cC K dW):=by
 refine F.ok C0 (fun vs H Q E h=>?_) (fun cdv A outer s H vs Q E hr h=>?_)
 ·obtain ⟨x,lk,p,S,S',Ws,o,rfl,hch,hp,hok,hrun,ho,q⟩:=h
  rfl
 obtain ⟨x,lk,p,S,S',Ws,o,rfl,hch,hp,hok,hrun,ho,q⟩:=h
 have hu:_<cLine:=hr.units0
 have hu1:=jV hr
 refine ⟨_,(@jG _ _ _ _ _ (KB rfl rfl rfl rfl T.c_Short T.x_Short (fun _ _ hx=>(jH (qL (t9 DX_work hx hr rfl (jA (pv 0) (jA (pv 1) jB)))))) (fun _=>(@jH _ _ _ (@jS _ _ _ _ yM))))
   (@jH _ _ _ (@jS _ _ _ _ yM))),?_⟩
 refine ⟨fun σ' c H'=>σ'=[some (.ref x),some (.ref p)]∧c=.ref eS∧o=some .short∧Keep x H H'∧ChAt (jD cP cB cU) cC H' x lk S',?_,?_⟩
 ·refine ⟨_,rfl,_,rfl,x,lk,p,S,Ws,rfl,hch,hp,hok,fun o2 S2 h2 H' kp hc=>?_⟩
  rw [hrun] at h2
  cases h2
  rcases ho with rfl|rfl
  ·exact q H' kp hc
  ·exact ⟨rfl,rfl,rfl,kp,hc⟩
 rintro σ' c H2 ⟨rfl,rfl,rfl,kp,hc⟩
 exact ⟨rfl,q H2 kp hc⟩
theorem lG:FnScope ["canal","ways","state","boat","places","four","held","one"] ["canal","ways","state","boat","places","four"] (jE bK):=⟨rfl,rfl,rfl,by decide +kernel,rfl,by decide +kernel,by decide +kernel⟩
theorem AT {f:Addr} {fd:FuncData} (F:Fun K "_law_moved" "_law_moved" bK f fd) (T:Txt K mg cP cB cU cR cN tkS eA eW eS eF eO eK eL tkH w cC dV dW aU aD) (D_pours:Def P w K mg base 9 "pours" ["canal","ways","state","deed"] [] (mY (jD cP cB cU) cR cN)):FnOk P w K mg base jW 12 f fd ["canal","ways","state","boat","places","four"] (rR (jD cP cB cU) cR cN):=by
  refine F.ok lG (fun vs H Q E h=>?_) (fun cdv A outer s H vs Q E hr h=>?_)
  · obtain ⟨x,wl,st,ps,fo,b,us,ys,d,ms,pl,D,R,L,N,s₁,lc,rfl,hG,hb,hd0,hw,es,hlc,hps,hfo,q⟩:=h
    rfl
  obtain ⟨x,wl,st,ps,fo,b,us,ys,d,ms,pl,D,R,L,N,s₁,lc,rfl,hG,hb,hd0,hw,es,hlc,hps,hfo,q⟩:=h
  have hu:_<cLine:=hr.units0
  have hu1:=jV hr
  refine ⟨_,(@jG _ _ _ _ _ (jZ (i:=6) lG.nd rfl (by first|exact Or.inl rfl|exact Or.inr rfl) (q8 JP (by rfl) T.z_list PyProof.Rows.boot_list (jA (pv 5) jB)))
      (@jG _ _ _ _ _ (yK PassesOwn.never rfl (vK (jM D_pours hr rfl (@jA _ _ _ _ _ (pv 0) (@jA _ _ _ _ _ (pv 1) (@jA _ _ _ _ _ (pv 2) (@jA _ _ _ _ _ (kZ (jA jR (jA (pv 3) jB))) jB (by rfl)) (by rfl)) (by rfl)) (by rfl)))) (j8 (i:=7) lG.nd rfl (by first|exact Or.inl rfl|exact Or.inr rfl))
        (@jH _ _ _ (kF (PW.pt (iR (kC kK (jI ix_tup (pv 7) jC (fun _ _=>rfl)) (jI kA (pv 4) jC (fun _ _=>rfl)) (j3 _)) (oE (kC kK (jI ix_tup (pv 7) jC (fun _ _=>rfl)) (jI kA (pv 4) jC (fun _ _=>rfl)) (j3 _))))) (@jG _ _ _ _ _ (oF (@jJ _ _ _ _ _ _ _ _ yL (jI kA (pv 6) (yF PySem.F.plainAttrs_list PySem.F.slot_list_index PySem.F.type_list_index iC (pv 4) (jA (jI ix_tup (pv 7) jC (fun _ _=>rfl)) jB)) (fun _ _=>rfl)) (jI ix_tup (pv 7) jC (fun _ _=>rfl))) (oG (pv 6) (yF PySem.F.plainAttrs_list PySem.F.slot_list_index PySem.F.type_list_index iC (pv 4) (jA (jI ix_tup (pv 7) jC (fun _ _=>rfl)) jB)) dJ))
      (@jH _ _ _ (oF (@jJ _ _ _ _ _ _ _ _ j7 (jI kA (pv 6) (yF PySem.F.plainAttrs_list PySem.F.slot_list_index PySem.F.type_list_index iC (pv 4) (jA (jI ix_tup (pv 7) jC (fun _ _=>rfl)) jB)) (fun _ _=>rfl)) (jI ix_tup (pv 7) jC (fun _ _=>rfl))) (oG (pv 6) (yF PySem.F.plainAttrs_list PySem.F.slot_list_index PySem.F.type_list_index iC (pv 4) (jA (jI ix_tup (pv 7) jC (fun _ _=>rfl)) jB)) dJ)))) kR)))
      (@jH _ _ _ (@jS _ _ _ _ (q8 JF (by rfl) T.z_tuple PyProof.Rows.boot_tuple (jA (pv 6) jB)))))),?_⟩
  obtain ⟨hc,hdr,hwl,hA,hst,hfl,hml⟩:=id hG
  have b1:=hdr.r8
  have b2:=hdr.l8
  have hkL:=(List.getElem?_eq_some_iff.mp hlc).1
  have hgd:=hdr.lock _ _ hlc
  generalize hpp:vC lc.kd lc.room lc.extra (zP R.length ms s₁.1) (ms.getD (R.length+L.length+s₁.1) 0) s₁.2=pp at q
  have hpo:=fJ lc.kd lc.room lc.extra (zP R.length ms s₁.1) (ms.getD (R.length+L.length+s₁.1) 0) s₁.2
  have hp1:=FH lc.kd lc.room lc.extra (zP R.length ms s₁.1) (ms.getD (R.length+L.length+s₁.1) 0) s₁.2
  rw [hpp] at hpo hp1
  have eQ:z3 R L N ys d ms pl (.pass b)=pp.map (v7 R.length L.length s₁.1 lc):=by
    show qU R.length L ms _=_
    unfold qU
    rw [es,hlc,← hpp]
  refine ⟨_,rfl,fo,_,rfl,.inr (SqT.of hfo),fun he hhe0=>?_⟩
  have u1:=jL hhe0 (.lst ((kM R.length L.length s₁.1 lc ms).map V.int))
  have hhe:upd H he (.lst ((kM R.length L.length s₁.1 lc ms).map V.int)) he=_:=jF
  generalize upd H he (.lst ((kM R.length L.length s₁.1 lc ms).map V.int))=H1 at u1 hhe ⊢
  refine ⟨_,rfl,_,rfl,_,rfl,_,rfl,zz2,fun tp htp0=>?_⟩
  have u2:=jL htp0 (.tup [V.str "pass",V.int (b:Int)])
  have htp:upd H1 tp (.tup [V.str "pass",V.int (b:Int)]) tp=_:=jF
  generalize upd H1 tp (.tup [V.str "pass",V.int (b:Int)])=H2 at u2 htp ⊢
  have u12:=u1.trans u2
  refine ⟨x,wl,st,tp,.pass b,us,ys,d,ms,pl,D,R,L,N,rfl,hG.same u12,htp,hb,hd0,hw,fun tl Hd gs zt sd htl0 htl hP hSp=>?_⟩
  have s1d:=u12.trans sd
  have hhed:=sd _ _ (u2 _ _ hhe)
  have hntl:tl≠he:=fun z=>by rw [z,u2 _ _ hhe] at htl0;cases htl0
  have hnps:ps≠he:=fun z=>by rw [z,hhe0] at hps;cases hps
  have hpsd:=s1d _ _ hps
  have f4:∀qs,(jY (kM R.length L.length s₁.1 lc ms) qs).length=4:=fun qs=>by rw [JE];rfl
  refine ⟨tl,rfl,⟨_,SqL.of htl⟩,dM (K:=K) (a:=tl) (xs:=zt) (fun i σ Hi=>∃c:Option V,σ=[some (.ref x),some (.ref wl),some (.ref st),some (.int (b:Int)),some (.ref ps),some (.ref fo),some (.ref he),c]∧Hi he=some (.lst ((jY (kM R.length L.length s₁.1 lc ms) ((pp.take i).map j5)).map V.int))∧Keep he Hd Hi)
    ⟨none,rfl,hhed,Keep.refl _ _⟩ (fun i σ Hi _ ⟨_,_,_,k⟩=>SqL.of (k _ _ hntl htl)) ?_ ?_⟩
  · rintro i v σ Hi hv ⟨c,rfl,hhi,kp⟩
    obtain ⟨a,sn,tn,m,rfl,hq,hT,hs',ht'⟩:=hP.2 i v hv
    have hna:a≠he:=fun z=>by rw [z,hhed] at hT;cases hT
    have hTi:=kp _ _ hna hT
    have hpsi:=kp _ _ hnps hpsd
    have e2:kQ (vO R.length L.length s₁.1 lc) 2=some (.int ((R.length+s₁.1:Nat):Int)):=rfl
    · unfold yC at hq
      rw [eQ] at hq
      by_cases hi:i<pp.length
      · rw [List.getElem?_append_left (by rw [List.length_map];exact hi),List.getElem?_map,List.getElem?_eq_getElem hi] at hq
        obtain ⟨p,hp⟩:∃p,pp[i]?=some p:=⟨_,List.getElem?_eq_getElem hi⟩
        rw [List.getElem?_eq_getElem hi] at hp
        have hp0:=Option.some.inj hp
        rw [hp0] at hq
        have hpm:p∈pp:=hp0▸List.getElem_mem hi
        obtain ⟨o_1,o_2⟩:=hpo p hpm
        obtain ⟨n1,n2,am⟩:=p
        change okW n1 at o_1
        change okW n2 at o_2
        injection hq with hq
        injection hq with q1 q2
        injection q2 with q2 q3
        change vesOf R.length L.length s₁.1 lc n1=sn at q1
        change vesOf R.length L.length s₁.1 lc n2=tn at q2
        change am=m at q3
        subst q1 q2 q3
        have o_n1:=o_1
        have o_n2:=o_2
        have et:pp.take (i+1)=pp.take i++[(n1,n2,am)]:=by rw [List.take_add_one,List.getElem?_eq_getElem hi,hp0];rfl
        rw [et,List.map_append,mB]
        generalize hw4:jY (kM R.length L.length s₁.1 lc ms) ((pp.take i).map j5)=w4 at hhi
        have l4':w4.length=4:=by rw [← hw4];exact f4 _
        refine ⟨_,rfl,jQ (SqT.of hTi) rfl (⟨_,rfl,j9 (SqL.of hpsi) e2 (⟨rfl,_,rfl,?_⟩)⟩)⟩
        have h12:=hp1 _ hpm
        try dsimp only at h12
        by_cases hc1:n1="chamber"
        · refine kT (by rw [hc1,QX]) (kU ?_)
          refine ⟨_,rfl,_,rfl,.inl ⟨rfl,_,SqL.of hpsi⟩,_,rfl,jQ (SqT.of hTi) rfl (⟨ps,_,_,vIx n1,rfl,rfl,hpsi,rfl,JR _ _ _ _,(qR hgd hkL o_n1).1,Nat.le_trans (Nat.le_of_lt (vB _)) (by decide),(qR hgd hkL o_n1).2.1,(qR hgd hkL o_n1).2.2,j9 (SqL.of hhi) (qD (by rw [l4'];exact vB _)) (⟨_,rfl,jQ (SqT.of hTi) rfl (j0 (⟨_,rfl,_,rfl,.inl ⟨rfl,_,SqL.of hpsi⟩,_,rfl,jQ (SqT.of hTi) rfl (⟨ps,_,_,vIx n1,rfl,rfl,hpsi,rfl,JR _ _ _ _,(qR hgd hkL o_n1).1,Nat.le_trans (Nat.le_of_lt (vB _)) (by decide),(qR hgd hkL o_n1).2.1,(qR hgd hkL o_n1).2.2,he,_,_,_,rfl,rfl,hhi,JU (by rw [List.length_map,l4'];exact vB _),?_⟩)⟩))⟩)⟩)⟩
          try dsimp only
          rw [JQ]
          have hT2:∀o,upd Hi he o a=some (.tup [V.int ((vesOf R.length L.length s₁.1 lc n1:Nat):Int),V.int ((vesOf R.length L.length s₁.1 lc n2:Nat):Int),V.int am]):=fun o=>by rw [j4 hna];exact hTi
          have hps2:∀o,upd Hi he o ps=some (.lst (vO R.length L.length s₁.1 lc)):=fun o=>by rw [j4 hnps];exact hpsi
          refine ⟨_,rfl,_,rfl,.inl ⟨rfl,_,SqL.of (hps2 _)⟩,_,rfl,jQ (SqT.of (hT2 _)) rfl (⟨ps,_,_,vIx n2,rfl,rfl,(hps2 _),rfl,JR _ _ _ _,(qR hgd hkL o_n2).1,Nat.le_trans (Nat.le_of_lt (vB _)) (by decide),(qR hgd hkL o_n2).2.1,(qR hgd hkL o_n2).2.2,j9 (SqL.of jF) (qD (by rw [List.length_set,l4'];exact vB _)) (⟨_,rfl,jQ (SqT.of (hT2 _)) rfl (j0 (⟨_,rfl,_,rfl,.inl ⟨rfl,_,SqL.of (hps2 _)⟩,_,rfl,jQ (SqT.of (hT2 _)) rfl (⟨ps,_,_,vIx n2,rfl,rfl,(hps2 _),rfl,JR _ _ _ _,(qR hgd hkL o_n2).1,Nat.le_trans (Nat.le_of_lt (vB _)) (by decide),(qR hgd hkL o_n2).2.1,(qR hgd hkL o_n2).2.2,he,_,_,_,rfl,rfl,jF,JU (by rw [List.length_map,List.length_set,l4'];exact vB _),?_⟩)⟩))⟩)⟩)⟩
          try dsimp only
          rw [JQ]
          exact ⟨_,rfl,jF,(kp.upd _).upd _⟩
        · have hc2:=h12.resolve_left hc1
          refine kB (fun z=>hc1 ?_) ⟨_,rfl,jQ (SqT.of hTi) rfl (⟨_,rfl,j9 (SqL.of hpsi) e2 (⟨rfl,_,rfl,kT (by rw [hc2,QX]) ?_⟩)⟩)⟩
          · have:=V.int.inj z
            have i1:=(nY hgd hkL o_n1).2.2.1.mp (by omega)
            cases o_n1
            · rw [zF] at i1;cases i1
            · rw [yX] at i1;cases i1
            · rfl
            · rw [v_basin] at i1;cases i1
          · refine ⟨_,rfl,_,rfl,.inl ⟨rfl,_,SqL.of hpsi⟩,_,rfl,jQ (SqT.of hTi) rfl (⟨ps,_,_,vIx n1,rfl,rfl,hpsi,rfl,JR _ _ _ _,(qR hgd hkL o_n1).1,Nat.le_trans (Nat.le_of_lt (vB _)) (by decide),(qR hgd hkL o_n1).2.1,(qR hgd hkL o_n1).2.2,j9 (SqL.of hhi) (qD (by rw [l4'];exact vB _)) (⟨_,rfl,jQ (SqT.of hTi) rfl (j0 (⟨_,rfl,_,rfl,.inl ⟨rfl,_,SqL.of hpsi⟩,_,rfl,jQ (SqT.of hTi) rfl (⟨ps,_,_,vIx n1,rfl,rfl,hpsi,rfl,JR _ _ _ _,(qR hgd hkL o_n1).1,Nat.le_trans (Nat.le_of_lt (vB _)) (by decide),(qR hgd hkL o_n1).2.1,(qR hgd hkL o_n1).2.2,he,_,_,_,rfl,rfl,hhi,JU (by rw [List.length_map,l4'];exact vB _),?_⟩)⟩))⟩)⟩)⟩
            try dsimp only
            rw [JQ]
            have hT2:∀o,upd Hi he o a=some (.tup [V.int ((vesOf R.length L.length s₁.1 lc n1:Nat):Int),V.int ((vesOf R.length L.length s₁.1 lc n2:Nat):Int),V.int am]):=fun o=>by rw [j4 hna];exact hTi
            have hps2:∀o,upd Hi he o ps=some (.lst (vO R.length L.length s₁.1 lc)):=fun o=>by rw [j4 hnps];exact hpsi
            refine ⟨_,rfl,_,rfl,.inl ⟨rfl,_,SqL.of (hps2 _)⟩,_,rfl,jQ (SqT.of (hT2 _)) rfl (⟨ps,_,_,vIx n2,rfl,rfl,(hps2 _),rfl,JR _ _ _ _,(qR hgd hkL o_n2).1,Nat.le_trans (Nat.le_of_lt (vB _)) (by decide),(qR hgd hkL o_n2).2.1,(qR hgd hkL o_n2).2.2,j9 (SqL.of jF) (qD (by rw [List.length_set,l4'];exact vB _)) (⟨_,rfl,jQ (SqT.of (hT2 _)) rfl (j0 (⟨_,rfl,_,rfl,.inl ⟨rfl,_,SqL.of (hps2 _)⟩,_,rfl,jQ (SqT.of (hT2 _)) rfl (⟨ps,_,_,vIx n2,rfl,rfl,(hps2 _),rfl,JR _ _ _ _,(qR hgd hkL o_n2).1,Nat.le_trans (Nat.le_of_lt (vB _)) (by decide),(qR hgd hkL o_n2).2.1,(qR hgd hkL o_n2).2.2,he,_,_,_,rfl,rfl,jF,JU (by rw [List.length_map,List.length_set,l4'];exact vB _),?_⟩)⟩))⟩)⟩)⟩
            try dsimp only
            rw [JQ]
            exact ⟨_,rfl,jF,(kp.upd _).upd _⟩
      · rw [List.getElem?_append_right (by rw [List.length_map];omega)] at hq
        obtain ⟨z1,z2⟩:=IE (gN hdr) (List.mem_of_getElem? hq)
        try dsimp only at z1 z2
        have et:pp.take (i+1)=pp.take i:=by rw [List.take_of_length_le (by omega),List.take_of_length_le (by omega)]
        rw [et]
        refine ⟨_,rfl,jQ (SqT.of hTi) rfl (⟨_,rfl,j9 (SqL.of hpsi) e2 (⟨rfl,_,rfl,kB (fun z=>by have:=V.int.inj z;omega) ?_⟩)⟩)⟩
        exact ⟨_,rfl,jQ (SqT.of hTi) rfl (⟨_,rfl,j9 (SqL.of hpsi) e2 (⟨rfl,_,rfl,kB (fun z=>by have:=V.int.inj z;omega) ⟨_,rfl,hhi,kp⟩⟩)⟩)⟩
  rintro σ Hi ⟨c,rfl,hhi,kp⟩
  have hz:=hP.1
  have hle:pp.length≤zt.length:=by
    rw [hz]
    unfold yC
    rw [eQ,List.length_append,List.length_map]
    omega
  rw [List.take_of_length_le hle] at hhi
  have sHi:Same H Hi:=fun b' o e=>kp b' o (qF e hhe0) (s1d _ _ e)
  refine ⟨_,rfl,he,_,rfl,.inl ⟨SqL.of hhi,fun r hr0=>?_⟩⟩
  exact q r _ (sHi.trans (jL hr0 _)) jF
theorem JC:FnScope ["canal","ways","state","boat","word","step","k","lock","places","four","machine","behind","waters"] ["canal","ways","state","boat","word"] (jE QJ):=⟨rfl,rfl,rfl,by decide +kernel,rfl,by decide +kernel,by decide +kernel⟩
theorem AN {f:Addr} {fd:FuncData} (F:Fun K "_law_alike" "_law_alike" QJ f fd) (T:Txt K mg cP cB cU cR cN tkS eA eW eS eF eO eK eL tkH w cC dV dW aU aD) (MM_Canal_basin:MeD P w K mg base 1 cN "basin" ["self","k"] (zN (jD cP cB cU) cR cN vE)) (MM_Canal_chamber:MeD P w K mg base 1 cN "chamber" ["self","k"] (zN (jD cP cB cU) cR cN vU)) (M_Chamber:MkD P w K mg base 1 "Chamber" cC ["self","lock","waters","least"] (nL (jD cP cB cU) cC)) (D__law_done:Def P w K mg base 8 "_law_done" ["machine","words"] [] (uR (jD cP cB cU) cC K dW)) (D_passing:Def P w K mg base 1 "passing" ["full","way"] [] (rO)) (MM_Chamber_boat:MeD P w K mg base 1 cC "boat" ["self"] (JI (jD cP cB cU) cC oK)) (MM_Chamber_gates:MeD P w K mg base 1 cC "gates" ["self"] (JI (jD cP cB cU) cC nR)) (MM_Chamber_waters:MeD P w K mg base 1 cC "waters" ["self"] (JI (jD cP cB cU) cC nE)) (D__law_moved:Def P w K mg base 12 "_law_moved" ["canal","ways","state","boat","places","four"] [] (rR (jD cP cB cU) cR cN)) (D_after:Def P w K mg base 10 "after" ["canal","ways","state","deed"] [] (mM (jD cP cB cU) cR cN)):FnOk P w K mg base jW 13 f fd ["canal","ways","state","boat","word"] (tX (jD cP cB cU) cR cN):=by
 refine F.ok JC (fun vs H Q E h=>?_) (fun cdv A outer s H vs Q E hr h=>?_)
 ·obtain ⟨x,wl,st,b,us,ys,d,ms,pl,D,R,L,N,rfl,hG,hok,hb,hd0,hw2,q⟩:=h
  rfl
 obtain ⟨x,wl,st,b,us,ys,d,ms,pl,D,R,L,N,rfl,hG,hok,hb,hd0,hw2,q⟩:=h
 have hu:_<cLine:=hr.units0
 have hu1:=jV hr
 refine ⟨_,(@jG _ _ _ _ _ (jZ (i:=5) JC.nd rfl (by first|exact Or.inl rfl|exact Or.inr rfl) (jI ix_tup (jI ix_tup (jI kA (pv 1) (pv 3) (fun _ _=>rfl)) jC (fun _ _=>rfl)) (jI ix_tup (jI ix_tup (pv 2) jC (fun _ _=>rfl)) (pv 3) (fun _ _=>rfl)) (fun _ _=>rfl)))
   (@jG _ _ _ _ _ (jZ (i:=6) JC.nd rfl (by first|exact Or.inl rfl|exact Or.inr rfl) (jI ix_tup (pv 5) jC (fun _ _=>rfl)))
   (@jG _ _ _ _ _ (jZ (i:=7) JC.nd rfl (by first|exact Or.inl rfl|exact Or.inr rfl) (jI kA (jU (pv 0) rfl) (pv 6) (fun _ _=>rfl)))
   (@jG _ _ _ _ _ (jZ (i:=8) JC.nd rfl (by first|exact Or.inl rfl|exact Or.inr rfl) (qG (@jA _ _ _ _ _ (jU (pv 7) rfl) (@jA _ _ _ _ _ (jU (pv 7) rfl) (@jA _ _ _ _ _ (yP MM_Canal_chamber hr (pv 0) (jA (pv 6) jB)) (@jA _ _ _ _ _ (yP MM_Canal_basin hr (pv 0) (jA (pv 6) jB)) jB (by rfl)) (by rfl)) (by rfl)) (by rfl))))
   (@jG _ _ _ _ _ (jZ (i:=9) JC.nd rfl (by first|exact Or.inl rfl|exact Or.inr rfl) (q8 JF (by rfl) T.z_tuple PyProof.Rows.boot_tuple (jA (yB ["v","state"] (qO 1 [2]) rfl (qW (jE QJ) rfl rfl (by decide +kernel) (by decide +kernel) (by decide +kernel)) (qX 1 [2] rfl rfl (by decide +kernel)) (vK (pv 8)) (fun _ _ _ _ _=>(j8 (i:=0) (show List.Nodup (["v","state"]:List Str) from by decide +kernel) rfl (by first|exact Or.inl rfl|exact Or.inr rfl))) (fun _ _ _ _ _=>vP) (fun _ _ _ _ _=>(jI (zW K) (jI (zW K) (pv 1) jC (fun _ _=>rfl)) (pv 0) (fun _ _=>rfl)))) jB)))
   (@jG _ _ _ _ _ (jZ (i:=10) JC.nd rfl (by first|exact Or.inl rfl|exact Or.inr rfl) (eI M_Chamber hr rfl (@jA _ _ _ _ _ (pv 7) (@jA _ _ _ _ _ (pv 9) (@jA _ _ _ _ _ (kZ (jA (jU (jI kA (jU (pv 0) rfl) (jU (pv 7) rfl) (fun _ _=>rfl)) rfl) (jA (jU (jI kA (jU (pv 0) rfl) (jU (pv 7) rfl) (fun _ _=>rfl)) rfl) jB))) jB (by rfl)) (by rfl)) (by rfl))))
   (@jG _ _ _ _ _ (kF (iI (v6 (jM D__law_done hr rfl (jA (pv 10) (jA (jM D_passing hr rfl (jA (yI wM (jI ix_tup (pv 9) jC (fun _ _=>rfl)) jC (j3 _)) (jA (jI ix_tup (pv 5) jC (fun _ _=>rfl)) jB))) jB))))) (@jH _ _ _ (@jS _ _ _ _ (yI kK (pv 4) jR (j3 _)))) kR)
   (@jG _ _ _ _ _ (kF (PW.pt (iR (kC zZ (pv 4) jR (j3 _)) (iR (kC (uX hu) (J9 MM_Chamber_gates hr (pv 10)) (kZ (jA yM (jA yM jB))) (j3 _)) (oE (kC FJ (J9 MM_Chamber_boat hr (pv 10)) yM (j3 _)))))) (@jH _ _ _ (@jS _ _ _ _ yM)) kR)
   (@jG _ _ _ _ _ (jZ (i:=11) JC.nd rfl (by first|exact Or.inl rfl|exact Or.inr rfl) (J9 MM_Chamber_waters hr (pv 10)))
   (@jG _ _ _ _ _ (kF (kC (uX hu) (pv 11) (jM D__law_moved hr rfl (@jA _ _ _ _ _ (pv 0) (@jA _ _ _ _ _ (pv 1) (@jA _ _ _ _ _ (pv 2) (@jA _ _ _ _ _ (pv 3) (@jA _ _ _ _ _ (pv 8) (@jA _ _ _ _ _ (pv 9) jB (by rfl)) (by rfl)) (by rfl)) (by rfl)) (by rfl)) (by rfl))) (j3 _)) (@jH _ _ _ (@jS _ _ _ _ yM)) kR)
   (@jG _ _ _ _ _ (jZ (i:=12) JC.nd rfl (by first|exact Or.inl rfl|exact Or.inr rfl) (jI ix_tup (jM D_after hr rfl (@jA _ _ _ _ _ (pv 0) (@jA _ _ _ _ _ (pv 1) (@jA _ _ _ _ _ (pv 2) (@jA _ _ _ _ _ (kZ (jA jR (jA (pv 3) jB))) jB (by rfl)) (by rfl)) (by rfl)) (by rfl))) jC (fun _ _=>rfl)))
   (@jH _ _ _ (@jS _ _ _ _ (uW (yI kK (jI ix_tup (pv 12) (jI kA (pv 8) jC (fun _ _=>rfl)) (fun _ _=>rfl)) (jI ix_tup (pv 11) jC (fun _ _=>rfl)) (j3 _)) (uV (yI kK (jI ix_tup (pv 12) (jI kA (pv 8) jC (fun _ _=>rfl)) (fun _ _=>rfl)) (jI ix_tup (pv 11) jC (fun _ _=>rfl)) (j3 _))))))))))))))))),?_⟩
 obtain ⟨hc,hdr,hwl,hA,⟨wt,pt,hst1,hwt,hpt⟩,hfl,hml⟩:=id hG
 have hc0:=hc
 obtain ⟨dx,rl,ll,nl,fs,rs,ls,nv,hx,hf,hrl,hll,hnl,hR,hL,hN,d1,d2,d3⟩:=hc
 have b1:=hdr.r8
 have b2:=hdr.l8
 obtain ⟨hne,hword⟩:=HH hw2
 obtain ⟨y,hy⟩:∃y,ys[b]?=some y:=⟨_,List.getElem?_eq_getElem hb⟩
 obtain ⟨p,hp⟩:∃p,pl[b]?=some p:=⟨_,List.getElem?_eq_getElem (by rw [hfl.len];exact hb)⟩
 have hple:=hfl.le b y p hy hp
 have ey:ys.getD b (0,[])=y:=by rw [List.getD_eq_getElem?_getD,hy];rfl
 have ep:pl.getD b 0=p:=by rw [List.getD_eq_getElem?_getD,hp];rfl
 rw [ey,ep] at hne hword
 obtain ⟨s₁,hs⟩:∃s,y.2[p]?=some s:=⟨_,List.getElem?_eq_getElem (by omega)⟩
 have es:y.2.getD p (0,true)=s₁:=by rw [List.getD_eq_getElem?_getD,hs];rfl
 rw [es] at hword
 obtain ⟨v,hvy,t,st₂,vs₂,rfl,hw1,hw2',hw3⟩:=hA.get hy
 obtain ⟨v3,hv3,t3,rfl,ht3⟩:=hw3.get hs
 have hyok:=hfl.ok y (List.mem_of_getElem? hy)
 have hkL:=hyok.lt s₁ (List.mem_of_getElem? hs)
 obtain ⟨l,hl'⟩:∃l,L[s₁.1]?=some l:=⟨_,List.getElem?_eq_getElem hkL⟩
 obtain ⟨v4,hv4,y4,rfl,dl,hl⟩:=hL.get hl'
 have hgd:=hdr.lock _ _ hl'
 have hgd0:=hgd
 obtain ⟨g1,g2,g3,g4,g5,_⟩:=hgd0
 have ehi:l.high=((l.high.toNat:Nat):Int):=by omega
 have elo:l.low=((l.low.toNat:Nat):Int):=by omega
 obtain ⟨rh,hrh⟩:∃r,R[l.high.toNat]?=some r:=⟨_,List.getElem?_eq_getElem (by omega)⟩
 obtain ⟨rw',hrw'⟩:∃r,R[l.low.toNat]?=some r:=⟨_,List.getElem?_eq_getElem (by omega)⟩
 refine ⟨_,rfl,_,rfl,wl,_,_,_,rfl,rfl,(SqL.of hwl),kL hvy,t,_,_,_,rfl,rfl,(SqT.of hw1),rfl,_,rfl,st,_,_,_,rfl,rfl,(SqT.of hst1),rfl,_,rfl,pt,_,_,_,rfl,rfl,(SqT.of hpt),kL (v:=.int (p:Int)) (by rw [List.getElem?_map,hp];rfl),st₂,_,_,_,rfl,rfl,(SqT.of hw2'),kL hv3,?_⟩
 refine ⟨_,rfl,jQ (SqT.of ht3) rfl (?_)⟩
 refine ⟨_,rfl,jT hx (T.clN) (T.nN_locks) (hf.2.1) (⟨_,rfl,j9 (SqL.of hll) (kL hv4) (?_)⟩)⟩
 refine ⟨_,rfl,jT hl (T.cl l.kd) (T.n_high l.kd) (JV l.kd _ _ _ _ _) (⟨_,rfl,jT hl (T.cl l.kd) (T.n_low l.kd) (J3 l.kd _ _ _ _ _) (⟨_,rfl,x,dx,_,rfl,hx,hf.no (by decide +kernel) (by decide +kernel) (by decide +kernel),_,rfl,x,D,R,L,N,_,rfl,hc0,_,rfl,x,dx,_,rfl,hx,hf.no (by decide +kernel) (by decide +kernel) (by decide +kernel),_,rfl,x,D,R,L,N,_,rfl,hc0,zz4,fun ps hps0=>?_⟩)⟩)⟩
 rw [show ([V.int l.high,V.int l.low,V.int (vU R.length L.length (s₁.1:Int)),V.int (vE R.length L.length (s₁.1:Int))]:List V)=vO R.length L.length s₁.1 l by
  show _=[V.int ((l.high.toNat:Nat):Int),V.int ((l.low.toNat:Nat):Int),V.int ((R.length+s₁.1:Nat):Int),V.int ((R.length+L.length+s₁.1:Nat):Int)]
  rw [← ehi,← elo,show vU R.length L.length (s₁.1:Int)=((R.length+s₁.1:Nat):Int) by unfold vU;omega,show vE R.length L.length (s₁.1:Int)=((R.length+L.length+s₁.1:Nat):Int) by unfold vE;omega]]
 have u1:=jL hps0 (.lst (vO R.length L.length s₁.1 l))
 have hps:upd H ps (.lst (vO R.length L.length s₁.1 l)) ps=_:=jF
 generalize upd H ps (.lst (vO R.length L.length s₁.1 l))=H1 at u1 hps ⊢
 refine ⟨_,rfl,ps,rfl,⟨_,SqL.of hps⟩,fun D₁ hD₁=>?_⟩
 refine ZI (K:=K) (a:=ps) (xs:=vO R.length L.length s₁.1 l) (caps:=[some (.ref st)]) (fun i zs _=>zs=(((gC R.length L.length s₁.1 l).take i).map fun n=>ms.getD n 0).map V.int) hD₁ (SqL.of hps) rfl ?_ ?_
 ·rintro i v zs Hi hv hi hle sm hY rfl
  unfold vO at hv
  rw [List.getElem?_map] at hv
  cases hn:(gC R.length L.length s₁.1 l)[i]? with
  |none=>rw [hn] at hv;cases hv
  |some n =>
   rw [hn] at hv
   cases hv
   have hnl:n<ms.length:=by
    have:=List.mem_of_getElem? hn
    unfold gC at this
    simp only [List.mem_cons,List.mem_nil_iff,or_false] at this
    omega
   have smu:=u1.trans sm
   refine vS (kU ⟨_,rfl,jQ (SqT.of (smu _ _ hst1)) rfl (⟨_,rfl,jQ (SqT.of (smu _ _ hwt)) (qD hnl) (y8 hD₁ sm hY hle (by have h4:(vO R.length L.length s₁.1 l).length=4:=rfl;omega) (Same.refl _) ?_)⟩)⟩)
   rw [List.take_add_one,hn,List.map_append,List.map_append]
   rfl
 rintro zs H2 s2 hD2 hle2 rfl
 have efo:((gC R.length L.length s₁.1 l).take (vO R.length L.length s₁.1 l).length).map (fun n=>ms.getD n 0)=kM R.length L.length s₁.1 l ms:=rfl
 rw [efo] at hD2
 refine ⟨D₁,_,rfl,.inl ⟨SqL.of hD2,fun fo hfo0=>?_⟩⟩
 have u3:=jL hfo0 (.tup ((kM R.length L.length s₁.1 l ms).map V.int))
 have hfo:upd H2 fo (.tup ((kM R.length L.length s₁.1 l ms).map V.int)) fo=_:=jF
 generalize upd H2 fo (.tup ((kM R.length L.length s₁.1 l ms).map V.int))=H3 at u3 hfo ⊢
 have s13:=s2.trans u3
 have s03:=u1.trans s13
 have hps3:=s13 _ _ hps
 obtain ⟨zh,hzh,yh,rfl,dyh,gsh,hyh,hgh⟩:=hR.get hrh
 obtain ⟨zl,hzl,yl,rfl,dyl,gsl,hyl,hgl⟩:=hR.get hrw'
 refine ⟨_,rfl,_,rfl,_,rfl,jT ((s03 _ _ hx)) (T.clN) (T.nN_reaches) (hf.1) (⟨_,rfl,jT ((s03 _ _ hl)) (T.cl l.kd) (T.n_high l.kd) (JV l.kd _ _ _ _ _) (j9 (SqL.of (s03 _ _ hrl)) ((by rw [ehi];exact kL hzh)) (jT ((s03 _ _ hyh)) (T.clR) (T.nR_least) (hgh.2.1) (⟨_,rfl,jT ((s03 _ _ hx)) (T.clN) (T.nN_reaches) (hf.1) (⟨_,rfl,jT ((s03 _ _ hl)) (T.cl l.kd) (T.n_low l.kd) (J3 l.kd _ _ _ _ _) (j9 (SqL.of (s03 _ _ hrl)) ((by rw [elo];exact kL hzl)) (jT ((s03 _ _ hyl)) (T.clR) (T.nR_least) (hgl.2.1) (⟨zz2,fun le hle0=>?_⟩)))⟩)⟩)))⟩)⟩
 have u4:=jL hle0 (.tup [V.int rh.least,V.int rw'.least])
 have hle4:upd H3 le (.tup [V.int rh.least,V.int rw'.least]) le=_:=jF
 generalize upd H3 le (.tup [V.int rh.least,V.int rw'.least])=H4 at u4 hle4 ⊢
 have s04:=s03.trans u4
 intro mx dxm nx ndx nex
 have uu:Same H4 (upd (upd H4 dxm (.own mx)) mx (.ins cC dxm [])):=fun b' o e=>by rw [j4 (qF e nx),j4 (qF e ndx)];exact e
 refine ⟨mx,dxm,y4,fo,le,_,l.kd,_,_,_,l.room,l.extra,rh.least,rw'.least,rfl,jF,uu _ _ (u4 _ _ hfo),rfl,uu _ _ hle4,⟨dl,uu _ _ (s04 _ _ hl)⟩,qF (s04 _ _ hl) nx,fun H5 kp hch=>⟨rfl,?_⟩⟩
 have s45:Same H4 H5:=fun b' o e=>kp b' o (qF e nx) (uu _ _ e)
 have s05:=s04.trans s45
 have hfo5:=s45 _ _ (u4 _ _ hfo)
 have hps5:=s45 _ _ (u4 _ _ hps3)
 have ht35:=s05 _ _ ht3
 obtain ⟨f,hf⟩:∃f,f=zP R.length ms s₁.1:=⟨_,rfl⟩
 have ecl:ms.getD (R.length+s₁.1) 0=lv f l.room:=by
  rw [hf]
  unfold zP lv
  rcases hok.cham hl' with h0|h0
  ·rw [h0];rfl
  ·rw [h0,decide_eq_true (by omega)];rfl
 have hw4:kM R.length L.length s₁.1 l ms=[ms.getD l.high.toNat 0,ms.getD l.low.toNat 0,lv f l.room,ms.getD (R.length+L.length+s₁.1) 0]:=by unfold kM;rw [ecl]
 have hrun:=FG (S:=⟨l.kd,l.room,l.extra,rh.least,rw'.least,kM R.length L.length s₁.1 l ms,none,false⟩) s₁.2 rfl rfl hw4 g5
 have esh:yD R ms (qU R.length L ms s₁)=qN rh.least rw'.least (kM R.length L.length s₁.1 l ms) (vC l.kd l.room l.extra f (ms.getD (R.length+L.length+s₁.1) 0) s₁.2):=by
  unfold qU
  rw [hl',← hf]
  exact rA hgd hkL hrh hrw' _ _ hml (fJ _ _ _ _ _ _)
 try dsimp only at hrun
 rw [← esh] at hrun
 have epn:oQ l.kd l.room l.extra f s₁.2 (ms.getD l.high.toNat 0) (ms.getD l.low.toNat 0) (ms.getD (R.length+L.length+s₁.1) 0)=jY (kM R.length L.length s₁.1 l ms) ((vC l.kd l.room l.extra f (ms.getD (R.length+L.length+s₁.1) 0) s₁.2).map j5):=by rw [hw4];exact (DX _ _ _ _ _ _ _ _).symm
 obtain ⟨o,S',hro,ho,hcase⟩:∃(o:Option Er) (S':CSt),qS ⟨l.kd,l.room,l.extra,rh.least,rw'.least,kM R.length L.length s₁.1 l ms,none,false⟩ (eJ f s₁.2)=(o,S')∧(o=none∨o=some .short)∧((o=some .short∧vV R L ys ms pl b="water")∨(o=none∧vV R L ys ms pl b=""∧S'=⟨l.kd,l.room,l.extra,rh.least,rw'.least,jY (kM R.length L.length s₁.1 l ms) ((vC l.kd l.room l.extra f (ms.getD (R.length+L.length+s₁.1) 0) s₁.2).map j5),none,false⟩)):=by
  cases hsb:yD R ms (qU R.length L ms s₁) with
  |true =>
   obtain ⟨S',h'⟩:=hrun.2 hsb
   exact ⟨_,S',h',.inr rfl,.inl ⟨rfl,by rw [hword,hsb,if_pos rfl]⟩⟩
  |false =>
   exact ⟨_,_,hrun.1 hsb,.inl rfl,.inr ⟨rfl,by rw [hword,hsb,if_neg (by decide)],by rw [epn]⟩⟩
 have efd:decide ((0:Int)<ms.getD (R.length+s₁.1) 0)=f:=hf.symm
 have e2:kQ ((kM R.length L.length s₁.1 l ms).map V.int) 2=some (.int (ms.getD (R.length+s₁.1) 0)):=rfl
 refine ⟨_,rfl,_,rfl,jQ (SqT.of hfo5) e2 (j0 (⟨_,rfl,jQ (SqT.of ht35) rfl (⟨f,s₁.2,(by rw [wE,← efd];rfl),fun lw H6 s6 hlw0 hlw=>?_⟩)⟩))⟩
 have hch6:=hch.same s6
 refine ⟨mx,y4,lw,_,S',eJ f s₁.2,o,rfl,hch6,hlw,HW f s₁.2,hro,ho,fun H7 k7 hch7=>⟨_,rfl,?_⟩⟩
 have nmx:H mx=none:=s04.free nx
 have s06:=s05.trans s6
 have s07:Same H H7:=fun b' o e=>k7 b' o (qF e nmx) (s06 _ _ e)
 have nfo:fo≠mx:=fun z=>by rw [← z,u4 _ _ hfo] at nx;cases nx
 have nps:ps≠mx:=fun z=>by rw [← z,u4 _ _ hps3] at nx;cases nx
 have hfo7:=k7 _ _ nfo (s6 _ _ hfo5)
 have hps7:=k7 _ _ nps (s6 _ _ hps5)
 rcases hcase with ⟨rfl,hwd⟩|⟨rfl,hwd,rfl⟩
 ·refine kU ⟨_,rfl,rfl,?_⟩
  rw [decide_eq_true (congrArg V.str hwd)]
  exact q _ s07
 refine qI ?_
 refine ⟨_,rfl,rfl,_,rfl,zO (congrArg V.str hwd) ?_⟩
 obtain ⟨dx,hd,ls,nn,hh₁,ll₁,hmx,hhd,hls,hlk,hnk,hlen4⟩:=id hch7
 refine ⟨_,rfl,mx,dx,_,rfl,hmx,ID _ _ _ _ _,mx,y4,_,rfl,hch7,fun gv H8 s8 hgv=>?_⟩
 obtain ⟨ga,rfl,hga⟩:=hgv
 refine ⟨zz2,fun tp htp0=>?_⟩
 have u9:=jL htp0 (.tup [V.bl false,V.bl false])
 have s79:=s8.trans u9
 refine ⟨ga,tp,_,_,rfl,rfl,SqT.of (u9 _ _ hga),SqT.of jF,rfl,rfl,_,rfl,?_⟩
 generalize upd H8 tp (.tup [V.bl false,V.bl false])=H9 at u9 s79 ⊢
 refine qI ?_
 refine ⟨_,rfl,mx,dx,_,rfl,(s79 _ _ hmx),KN _ _ _ _ _,mx,y4,_,rfl,hch7.same s79,fun bv Ha sa hbv=>?_⟩
 have hbv:bv=.bl false:=hbv
 subst hbv
 refine ⟨_,_,rfl,rfl,_,rfl,qI ?_⟩
 have s7a:=s79.trans sa
 refine ⟨_,rfl,mx,dx,_,rfl,(s7a _ _ hmx),G2 _ _ _ _ _,mx,y4,_,rfl,hch7.same s7a,fun wv₂ Hb sb hwv=>?_⟩
 obtain ⟨be,rfl,hbe⟩:=hwv
 have s7b:=s7a.trans sb
 have s0b:=s07.trans s7b
 have es2:(ys.getD b (0,[])).2.getD (pl.getD b 0) (0,true)=s₁:=by rw [ey,ep,es]
 refine ⟨_,rfl,_,rfl,_,rfl,_,rfl,_,rfl,_,rfl,_,rfl,x,wl,st,ps,fo,b,us,ys,d,ms,pl,D,R,L,N,s₁,l,rfl,hG.same s0b,hb,hd0,hwd,es2,hl',s7b _ _ hps7,s7b _ _ hfo7,fun mr Hc sc hmr=>?_⟩
 rw [← hf] at hmr
 refine ⟨be,mr,_,_,rfl,rfl,SqT.of (sc _ _ hbe),SqT.of hmr,gR _,gR _,_,rfl,?_⟩
 rw [G6 (gR _)]
 refine qI ?_
 have s0c:=s0b.trans sc
 refine ⟨_,rfl,_,rfl,_,rfl,_,rfl,zz2,fun tq htq0=>?_⟩
 have ud:=jL htq0 (.tup [V.str "pass",V.int (b:Int)])
 have htq:upd Hc tq (.tup [V.str "pass",V.int (b:Int)]) tq=_:=jF
 generalize upd Hc tq (.tup [V.str "pass",V.int (b:Int)])=Hd at ud htq ⊢
 have s0d:=s0c.trans ud
 refine ⟨x,wl,st,tq,.pass b,us,ys,d,ms,pl,D,R,L,N,rfl,hG.same s0d,htq,hb,hd0,hwd,fun ar He gs se har0 har hSp=>?_⟩
 obtain ⟨wa,pa,ha1,ha2,ha3⟩:=har
 refine (jQ (SqT.of ha1) rfl (?_))
 have s7e:=((s7b.trans sc).trans ud).trans se
 have hps9:=s7e _ _ hps7
 have hbe9:=se _ _ (ud _ _ (sc _ _ hbe))
 have efq:kM R.length L.length s₁.1 l (jY ms (qU R.length L ms s₁))=jY (kM R.length L.length s₁.1 l ms) ((vC l.kd l.room l.extra f (ms.getD (R.length+L.length+s₁.1) 0) s₁.2).map j5):=by
  unfold qU
  rw [hl',← hf]
  exact rE hgd hkL _ _ hml (fJ _ _ _ _ _ _)
 have edq:z3 R L N ys d ms pl (.pass b)=qU R.length L ms s₁:=by show qU R.length L ms _=_;rw [es2]
 have hdin:=tI (N:=N) (ys:=ys) (d:=d) (pl:=pl) hdr hml (.pass b)
 have emid:∀j,R.length≤j→j<R.length+2*L.length→(jY ms (yC R L N ys d ms pl (.pass b) gs)).getD j 0=(jY ms (qU R.length L ms s₁)).getD j 0:=fun j j1 j2=>by
  rw [HF hdr hml (.pass b) j1 j2,← edq,e8 _ _ _ hdin]
 have ec:(jY ms (yC R L N ys d ms pl (.pass b) gs)).getD (R.length+s₁.1) 0=(jY (kM R.length L.length s₁.1 l ms) ((vC l.kd l.room l.extra f (ms.getD (R.length+L.length+s₁.1) 0) s₁.2).map j5)).getD 2 0:=by rw [emid _ (by omega) (by omega),← efq];rfl
 have eb:(jY ms (yC R L N ys d ms pl (.pass b) gs)).getD (R.length+L.length+s₁.1) 0=(jY (kM R.length L.length s₁.1 l ms) ((vC l.kd l.room l.extra f (ms.getD (R.length+L.length+s₁.1) 0) s₁.2).map j5)).getD 3 0:=by rw [emid _ (by omega) (by omega),← efq];rfl
 have l4':(jY (kM R.length L.length s₁.1 l ms) ((vC l.kd l.room l.extra f (ms.getD (R.length+L.length+s₁.1) 0) s₁.2).map j5)).length=4:=by rw [JE];rfl
 have lm':(jY ms (yC R L N ys d ms pl (.pass b) gs)).length=ms.length:=JE _ _
 generalize jY (kM R.length L.length s₁.1 l ms) ((vC l.kd l.room l.extra f (ms.getD (R.length+L.length+s₁.1) 0) s₁.2).map j5)=w4 at ec eb l4' hbe9
 generalize jY ms (yC R L N ys d ms pl (.pass b) gs)=md at ec eb lm' ha2
 have p2:kQ (vO R.length L.length s₁.1 l) 2=some (.int ((R.length+s₁.1:Nat):Int)):=rfl
 have p3:kQ (vO R.length L.length s₁.1 l) 3=some (.int ((R.length+L.length+s₁.1:Nat):Int)):=rfl
 have a2:kQ (w4.map V.int) 2=some (.int (w4.getD 2 0)):=qD (s:=2) (by omega)
 have a3:kQ (w4.map V.int) 3=some (.int (w4.getD 3 0)):=qD (s:=3) (by omega)
 refine ⟨_,rfl,_,rfl,j9 (SqL.of hps9) p2 (jQ (SqT.of ha2) (qD (by omega)) (⟨_,rfl,jQ (SqT.of hbe9) a2 (⟨rfl,_,rfl,kT (congrArg V.int ec) ?_⟩)⟩))⟩
 refine ⟨_,rfl,_,rfl,j9 (SqL.of hps9) p3 (jQ (SqT.of ha2) (qD (by omega)) (⟨_,rfl,jQ (SqT.of hbe9) a3 (⟨rfl,?_⟩)⟩))⟩
 rw [decide_eq_true (congrArg V.int eb)]
 exact q _ (s07.trans s7e)
theorem dB:FnScope ["script","canal","ways","state","boat","word"] ["script"] (jE zU):=⟨rfl,rfl,rfl,by decide +kernel,rfl,by decide +kernel,by decide +kernel⟩
theorem BC {f:Addr} {fd:FuncData} (F:Fun K "law" "law" zU f fd) (T:Txt K mg cP cB cU cR cN tkS eA eW eS eF eO eK eL tkH w cC dV dW aU aD) (D__law_canal:Def P w K mg base 6 "_law_canal" ["script","most_reaches","most_locks","most_nights"] [] (sW K (jD cP cB cU) cR cN)) (D__law_draw:Def P w K mg base 1 "_law_draw" ["script","k","many"] [] (JZ K)) (D__law_way:Def P w K mg base 2 "_law_way" ["script","k","canal","most"] [] (wI K (jD cP cB cU) cR cN)) (D__law_state:Def P w K mg base 2 "_law_state" ["script","canal","ways"] [] (tS K (jD cP cB cU) cR cN)) (D_why_not:Def P w K mg base 8 "why_not" ["canal","ways","state","deed"] [] (oA (jD cP cB cU) cR cN)) (D__law_alike:Def P w K mg base 13 "_law_alike" ["canal","ways","state","boat","word"] [] (tX (jD cP cB cU) cR cN)):FnOk P w K mg base jW 14 f fd ["script"] (iP K):=by
 refine F.ok dB (fun vs H Q E h=>?_) (fun cdv A outer s H vs Q E hr h=>?_)
 ·obtain ⟨s,ns,rfl,hS,h63,q⟩:=h
  rfl
 obtain ⟨s,ns,rfl,hS,h63,q⟩:=h
 have hu:_<cLine:=hr.units0
 have hu1:=jV hr
 refine ⟨_,(@jG _ _ _ _ _ (jZ (i:=1) dB.nd rfl (by first|exact Or.inl rfl|exact Or.inr rfl) (jM D__law_canal hr rfl (@jA _ _ _ _ _ (pv 0) (@jA _ _ _ _ _ jC (@jA _ _ _ _ _ jC (@jA _ _ _ _ _ jC jB (by rfl)) (by rfl)) (by rfl)) (by rfl))))
   (@jG _ _ _ _ _ (QW (i:=2) ["k","script","canal"] (qO 1 [0,1]) dB.nd rfl (by first|exact Or.inl rfl|exact Or.inr rfl) rfl (qW (jE zU) rfl rfl (by decide +kernel) (by decide +kernel) (by decide +kernel)) (qX 1 [0,1] rfl rfl (by decide +kernel)) (yU (by rfl) T.z_range (jA (jM D__law_draw hr rfl (@jA _ _ _ _ _ (pv 0) (@jA _ _ _ _ _ jC (@jA _ _ _ _ _ jC jB (by rfl)) (by rfl)) (by rfl))) jB)) (fun _ _ _ _ _=>(j8 (i:=0) (show List.Nodup (["k","script","canal"]:List Str) from by decide +kernel) rfl (by first|exact Or.inl rfl|exact Or.inr rfl))) (fun _ _ _ _ _=>vP) (fun _ _ _ _ _=>(jM D__law_way hr rfl (@jA _ _ _ _ _ (pv 1) (@jA _ _ _ _ _ (pv 0) (@jA _ _ _ _ _ (pv 2) (@jA _ _ _ _ _ jC jB (by rfl)) (by rfl)) (by rfl)) (by rfl)))))
   (@jG _ _ _ _ _ (jZ (i:=3) dB.nd rfl (by first|exact Or.inl rfl|exact Or.inr rfl) (jM D__law_state hr rfl (@jA _ _ _ _ _ (pv 0) (@jA _ _ _ _ _ (pv 1) (@jA _ _ _ _ _ (pv 2) jB (by rfl)) (by rfl)) (by rfl))))
   (@jG _ _ _ _ _ (yK PassesOwn.never rfl (yU (by rfl) T.z_range (jA (qB qQ (by rfl) T.z_len PySem.boot_len (jA (pv 2) jB)) jB)) (j8 (i:=4) dB.nd rfl (by first|exact Or.inl rfl|exact Or.inr rfl))
    (@jG _ _ _ _ _ (jZ (i:=5) dB.nd rfl (by first|exact Or.inl rfl|exact Or.inr rfl) (jM D_why_not hr rfl (@jA _ _ _ _ _ (pv 1) (@jA _ _ _ _ _ (pv 2) (@jA _ _ _ _ _ (pv 3) (@jA _ _ _ _ _ (kZ (jA jR (jA (pv 4) jB))) jB (by rfl)) (by rfl)) (by rfl)) (by rfl))))
   (@jH _ _ _ (kF (PW.pt (iR (kC kK (pv 5) jR (j3 _)) (oE (kC kK (pv 5) jR (j3 _))))) (@jH _ _ _ (kF (iI (v6 (jM D__law_alike hr rfl (@jA _ _ _ _ _ (pv 1) (@jA _ _ _ _ _ (pv 2) (@jA _ _ _ _ _ (pv 3) (@jA _ _ _ _ _ (pv 4) (@jA _ _ _ _ _ (pv 5) jB (by rfl)) (by rfl)) (by rfl)) (by rfl)) (by rfl))))) (@jH _ _ _ (@jS _ _ _ _ yM)) kR)) kR))))
   (@jH _ _ _ (@jS _ _ _ _ yM)))))),?_⟩
 refine ⟨_,rfl,s,ns,5,4,2,rfl,hS,h63,by decide,by decide,by decide,by decide,by decide,fun x R L N H1 hdr hr2 hl1 s1 hx0 hcn=>?_⟩
 have b1:=hdr.r8
 have b2:=hdr.l8
 have b3:=hdr.n6
 have hS1:=s1.seq hS
 refine ⟨_,rfl,s,ns,_,_,rfl,hS1,h63,by omega,by omega,by omega,fun m0 m00 m01=>?_⟩
 obtain ⟨n,hn⟩:∃n:Nat,m0=(n:Int):=⟨m0.toNat,by omega⟩
 subst hn
 refine ⟨_,rfl,by omega,by omega,fun wl hwl0=>?_⟩
 refine dE (n:=((n:Nat):Int).toNat) (caps:=[some (.ref s),some (.ref x)]) (fun i us Hi=>∃ys:List kE,AllAt (WyAt Hi) us ys∧ys.length=i∧∀y∈ys,WyOk L y) hwl0 ⟨[],AllAt.nil,rfl,fun y hy=>by cases hy⟩ ?_ ?_
 ·rintro i us Hi hi hle sm hY ⟨ys,hA,hyl,hok⟩
  rw [Int.toNat_natCast] at hi
  rw [Int.zero_add]
  refine vS (kU ⟨_,rfl,_,rfl,_,rfl,s,x,ns,i,4,_,R,L,N,rfl,sm.seq hS1,h63,by omega,by decide,by decide,hcn.same sm,hdr,hl1,fun t y H' hyo s' ht0 hwy=>y8 hwl0 sm hY hle (by omega) s' ?_⟩)
  refine ⟨ys++[y],((hA.mono (WyAt.same s')).snoc hwy).mono (WyAt.put (s' _ _ hY)),by rw [List.length_append,hyl];rfl,fun y' hy'=>?_⟩
  rcases List.mem_append.mp hy' with h|h
  ·exact hok y' h
  ·rw [List.mem_singleton.mp h];exact hyo
 rintro us H2 s2 hwl hle2 ⟨ys,hA,hyl,hok⟩
 rw [Int.toNat_natCast] at hyl
 have hcn2:=hcn.same s2
 refine ⟨_,rfl,_,rfl,_,rfl,s,x,wl,ns,us,ys,_,R,L,N,rfl,s2.seq hS1,h63,hcn2,hdr,hwl,hA,by omega,hok,fun st d ms pl H3 s3 hst hfl hd0 hdN hms=>?_⟩
 have hG:Stage (jD cP cB cU) cR cN [] H3 x wl st us R L N ys d ms pl:=⟨hcn2.same s3,hdr,s3 _ _ hwl,hA.mono (WyAt.same s3),hst,hfl,hms.len⟩
 have hS3:=(s2.trans s3).seq hS1
 have eul:us.length=ys.length:=hA.1
 refine ⟨_,rfl,wl,_,rfl,.inl (SqL.of hG.wls),_,rfl,by omega,by rw [eul];omega,QY (n:=((us.length:Nat):Int).toNat) (fun i σ Hi=>∃c1 c2:Option V,σ=[some (.ref s),some (.ref x),some (.ref wl),some (.ref st),c1,c2]∧Same H3 Hi) ⟨none,none,rfl,Same.refl _⟩ ?_ ?_⟩
 ·rintro i σ Hi hi ⟨c1,c2,rfl,sm⟩
  rw [Int.toNat_natCast,eul] at hi
  rw [Int.zero_add]
  refine ⟨_,rfl,_,rfl,_,rfl,_,rfl,zz2,fun tp htp0=>?_⟩
  have u:=jL htp0 (.tup [V.str "pass",V.int (i:Int)])
  have htp:upd Hi tp (.tup [V.str "pass",V.int (i:Int)]) tp=_:=jF
  generalize upd Hi tp (.tup [V.str "pass",V.int (i:Int)])=Hj at u htp ⊢
  have smj:=sm.trans u
  refine ⟨x,wl,st,tp,.pass i,us,ys,d,ms,pl,_,R,L,N,rfl,hG.same smj,htp,hi,fun Hk sk=>?_⟩
  have smk:=smj.trans sk
  have hGk:=hG.same smk
  refine ⟨_,rfl,rfl,_,rfl,?_⟩
  by_cases h0:vV R L ys ms pl i=""
  ·exact kT (congrArg V.str h0) (kU ⟨_,rfl,_,rfl,_,rfl,_,rfl,_,rfl,x,wl,st,i,us,ys,d,ms,pl,_,R,L,N,rfl,hGk,hms,hi,hd0,.inl h0,fun Hm sn=>⟨_,rfl,qI ⟨_,_,rfl,smk.trans sn⟩⟩⟩)
  refine kB (fun z=>h0 (V.str.inj z)) ⟨_,rfl,rfl,_,rfl,?_⟩
  by_cases h1:vV R L ys ms pl i="water"
  ·exact kT (congrArg V.str h1) ⟨_,rfl,_,rfl,_,rfl,_,rfl,_,rfl,x,wl,st,i,us,ys,d,ms,pl,_,R,L,N,rfl,hGk,hms,hi,hd0,.inr h1,fun Hm sn=>⟨_,rfl,qI ⟨_,_,rfl,smk.trans sn⟩⟩⟩
  ·exact kB (fun z=>h1 (V.str.inj z)) ⟨_,_,rfl,smk⟩
 rintro σ Hi ⟨c1,c2,rfl,sm⟩
 exact q _
end
theorem all_mk {l:W.OpenLaw} {w:World} {K:W.Frag} {h:Heap} {mg:Str→Option Value} {fa f0 f1 f2 f3 f4 f5 f6 f7 f8 f9 f10 f11 f12 f13 f14 f15 f16 f17 f18 f19 f20 f21 f22 f23 f24 f25 f26 f27 f28 f29 f30 f31 f32 f33 f34 f35 f36 f37 f38 f39 f40 f41 f42 f43 f44 f45 f46 f47 f48 f49 f50 f51 f52 f53 f54 f55 f56 f57 f58 f59 f60 f61 f62 f63 f64 f65 f66 f67 f68 f69 f70 f71 f72 f73 f74 f75 f76 f77 f78 f79 f80 f81 f82:Addr} {cP cB cU:Addr} {cR:Addr} {cN:Addr} {dn0:Nat} {tkS:Tok} {eA eW eS eF eO eK eL:Addr} {tkH:Tok} {cC dV dW:Addr} {esV esW:Array DictEntry} {nV nW:Nat} {tv0 tv1 tv2 tv3:Tok} {tw0 tw1 tw2 tw3 tw4 tw5 tw6 tw7 tw8 tw9:Addr} {ow0 ow1 ow2 ow3 ow4 ow5 ow6 ow7 ow8 ow9:Obj} {ta0 tb0 ta1 tb1 ta2 tb2 ta3 tb3 ta4 tb4 ta5 tb5 ta6 tb6 ta7 tb7 ta8 tb8 ta9 tb9:Tok} {nw0 nw1 nw2 nw3 nw4 nw5 nw6 nw7 nw8 nw9:Nat} {aU aD:Addr} {oU oD:Obj} {nU nD:Nat} {tu0 td0 tu1 td1 tu2 td2 tu3 td3 tu4 td4 tu5 td5 tu6 td6:Tok} (X:K.In h) (G:h.Ns mainGlobals mg) (hfa:mg "law"=some (.ref fa))
 {od0 an0 od1 an1 od2 an2 od3 an3 od4 an4 od5 an5 od6 an6 od7 an7 od8 an8 od9 an9 od10 an10 od11 an11 od12 an12 od13 an13 od14 an14 od15 an15 od16 an16 od17 an17 od18 an18 od19 an19 od20 an20 od21 an21 od22 an22 od23 an23 od24 an24 od25 an25 od26 an26 od27 an27 od28 an28 od29 an29 od30 an30 od31 an31 od32 an32 od33 an33 od34 an34 od35 an35 od36 an36 od37 an37 od38 an38 od39 an39 od40 an40 od41 an41 od42 an42 od43 an43 od44 an44 od45 an45 od46 an46 od47 an47 od48 an48 od49 an49 od50 an50 od51 an51 od52 an52 od53 an53 od54 an54 od55 an55 od56 an56 od57 an57 od58 an58 od59 an59 od60 an60 od61 an61 od62 an62 od63 an63 od64 an64 od65 an65 od66 an66 od67 an67 od68 an68 od69 an69 od70 an70 od71 an71 od72 an72 od73 an73 od74 an74 od75 an75 od76 an76 od77 an77 od78 an78 od79 an79 od80 an80 od81 an81 od82 an82:Option Addr} {sl0 sl1 sl2 sl3 sl4 sl5 sl6 sl7 sl8 sl9 sl10 sl11 sl12 sl13 sl14 sl15 sl16 sl17 sl18 sl19 sl20 sl21 sl22 sl23 sl24 sl25 sl26 sl27 sl28 sl29 sl30 sl31 sl32 sl33 sl34 sl35 sl36 sl37 sl38 sl39 sl40 sl41 sl42 sl43 sl44 sl45 sl46 sl47 sl48 sl49 sl50 sl51 sl52 sl53 sl54 sl55 sl56 sl57 sl58 sl59 sl60 sl61 sl62 sl63 sl64 sl65 sl66 sl67 sl68 sl69 sl70 sl71 sl72 sl73 sl74 sl75 sl76 sl77 sl78 sl79 sl80 sl81 sl82:Array (Option Value)} {oc0 kV0 dc0 pm0 cd0 ct0 oc1 kV1 dc1 pm1 cd1 ct1 oc2 kV2 dc2 pm2 cd2 ct2 oc3 kV3 dc3 pm3 cd3 ct3 oc4 kV4 dc4 pm4 cd4 ct4 oc5 kV5 dc5 pm5 cd5 ct5 oc6 kV6 dc6 pm6 cd6 ct6 oc7 kV7 dc7 pm7 cd7 ct7 oc8 kV8 dc8 pm8 cd8 ct8 oc9 kV9 dc9 pm9 cd9 ct9 oc10 kV10 dc10 pm10 cd10 ct10 oc11 kV11 dc11 pm11 cd11 ct11 oc12 kV12 dc12 pm12 cd12 ct12 oc13 kV13 dc13 pm13 cd13 ct13 oc14 kV14 dc14 pm14 cd14 ct14 oc15 kV15 dc15 pm15 cd15 ct15 oc16 kV16 dc16 pm16 cd16 ct16 oc17 kV17 dc17 pm17 cd17 ct17 oc18 kV18 dc18 pm18 cd18 ct18 oc19 kV19 dc19 pm19 cd19 ct19 oc20 kV20 dc20 pm20 cd20 ct20 oc21 kV21 dc21 pm21 cd21 ct21 oc22 kV22 dc22 pm22 cd22 ct22 oc23 kV23 dc23 pm23 cd23 ct23 oc24 kV24 dc24 pm24 cd24 ct24 oc25 kV25 dc25 pm25 cd25 ct25 oc26 kV26 dc26 pm26 cd26 ct26 oc27 kV27 dc27 pm27 cd27 ct27 oc28 kV28 dc28 pm28 cd28 ct28 oc29 kV29 dc29 pm29 cd29 ct29 oc30 kV30 dc30 pm30 cd30 ct30 oc31 kV31 dc31 pm31 cd31 ct31 oc32 kV32 dc32 pm32 cd32 ct32 oc33 kV33 dc33 pm33 cd33 ct33 oc34 kV34 dc34 pm34 cd34 ct34 oc35 kV35 dc35 pm35 cd35 ct35 oc36 kV36 dc36 pm36 cd36 ct36 oc37 kV37 dc37 pm37 cd37 ct37 oc38 kV38 dc38 pm38 cd38 ct38 oc39 kV39 dc39 pm39 cd39 ct39 oc40 kV40 dc40 pm40 cd40 ct40 oc41 kV41 dc41 pm41 cd41 ct41 oc42 kV42 dc42 pm42 cd42 ct42 oc43 kV43 dc43 pm43 cd43 ct43 oc44 kV44 dc44 pm44 cd44 ct44 oc45 kV45 dc45 pm45 cd45 ct45 oc46 kV46 dc46 pm46 cd46 ct46 oc47 kV47 dc47 pm47 cd47 ct47 oc48 kV48 dc48 pm48 cd48 ct48 oc49 kV49 dc49 pm49 cd49 ct49 oc50 kV50 dc50 pm50 cd50 ct50 oc51 kV51 dc51 pm51 cd51 ct51 oc52 kV52 dc52 pm52 cd52 ct52 oc53 kV53 dc53 pm53 cd53 ct53 oc54 kV54 dc54 pm54 cd54 ct54 oc55 kV55 dc55 pm55 cd55 ct55 oc56 kV56 dc56 pm56 cd56 ct56 oc57 kV57 dc57 pm57 cd57 ct57 oc58 kV58 dc58 pm58 cd58 ct58 oc59 kV59 dc59 pm59 cd59 ct59 oc60 kV60 dc60 pm60 cd60 ct60 oc61 kV61 dc61 pm61 cd61 ct61 oc62 kV62 dc62 pm62 cd62 ct62 oc63 kV63 dc63 pm63 cd63 ct63 oc64 kV64 dc64 pm64 cd64 ct64 oc65 kV65 dc65 pm65 cd65 ct65 oc66 kV66 dc66 pm66 cd66 ct66 oc67 kV67 dc67 pm67 cd67 ct67 oc68 kV68 dc68 pm68 cd68 ct68 oc69 kV69 dc69 pm69 cd69 ct69 oc70 kV70 dc70 pm70 cd70 ct70 oc71 kV71 dc71 pm71 cd71 ct71 oc72 kV72 dc72 pm72 cd72 ct72 oc73 kV73 dc73 pm73 cd73 ct73 oc74 kV74 dc74 pm74 cd74 ct74 oc75 kV75 dc75 pm75 cd75 ct75 oc76 kV76 dc76 pm76 cd76 ct76 oc77 kV77 dc77 pm77 cd77 ct77 oc78 kV78 dc78 pm78 cd78 ct78 oc79 kV79 dc79 pm79 cd79 ct79 oc80 kV80 dc80 pm80 cd80 ct80 oc81 kV81 dc81 pm81 cd81 ct81 oc82 kV82 dc82 pm82 cd82 ct82:Value}
 {T22:Addr} {oT22:Obj}
  (aC_P:W.nsIn K mainGlobals "PlainLock"=some (some (.ref cP)))
  (aC_B:W.nsIn K mainGlobals "BasinLock"=some (some (.ref cB)))
  (aC_U:W.nsIn K mainGlobals "PumpLock"=some (some (.ref cU)))
  (aC_R:W.nsIn K mainGlobals "Reach"=some (some (.ref cR)))
  (aC_N:W.nsIn K mainGlobals "Canal"=some (some (.ref cN)))
  (aX_Against:W.nsIn K mainGlobals "Against"=some (some (.ref eA)))
  (aX_NotNow:W.nsIn K mainGlobals "NotNow"=some (some (.ref eW)))
  (aX_Short:W.nsIn K mainGlobals "Short"=some (some (.ref eS)))
  (aX_Full:W.nsIn K mainGlobals "Full"=some (some (.ref eF)))
  (aX_NoBoat:W.nsIn K mainGlobals "NoBoat"=some (some (.ref eO)))
  (aX_Unknown:W.nsIn K mainGlobals "Unknown"=some (some (.ref eK)))
  (aX_NotLinked:W.nsIn K mainGlobals "NotLinked"=some (some (.ref eL)))
  (aC_C:W.nsIn K mainGlobals "Chamber"=some (some (.ref cC)))
  (aV:W.nsIn K mainGlobals "VESSELS"=some (some (.ref dV)))
  (aW:W.nsIn K mainGlobals "WORDS"=some (some (.ref dW)))
  (lV:K.lookup dV=some ⟨.type "dict",none,.dict esV nV,#[]⟩)
  (lW:K.lookup dW=some ⟨.type "dict",none,.dict esW nW,#[]⟩)
  (a0:W.nsIn K mainGlobals "poured_all"=some (some (.ref f0)))
  (l0:K.lookup f0=some ⟨oc0,od0,.func (W.fnOf "poured_all" "poured_all" (jP cH) (jO cH) (jE cH) .none kV0 dc0 pm0 an0 cd0 ct0),sl0⟩)
  (c0:W.codeIn K cd0 "poured_all"=true)
  (k0:W.keepIn K (.ref f0)=true)
  (a1:W.nsIn K mainGlobals "over"=some (some (.ref f1)))
  (l1:K.lookup f1=some ⟨oc1,od1,.func (W.fnOf "over" "over" (jP bZ) (jO bZ) (jE bZ) .none kV1 dc1 pm1 an1 cd1 ct1),sl1⟩)
  (c1:W.codeIn K cd1 "over"=true)
  (k1:W.keepIn K (.ref f1)=true)
  (a2:W.nsIn K mainGlobals "last_first"=some (some (.ref f2)))
  (l2:K.lookup f2=some ⟨oc2,od2,.func (W.fnOf "last_first" "last_first" (jP bV) (jO bV) (jE bV) .none kV2 dc2 pm2 an2 cd2 ct2),sl2⟩)
  (c2:W.codeIn K cd2 "last_first"=true)
  (k2:W.keepIn K (.ref f2)=true)
  (a3:W.nsIn K mainGlobals "spills"=some (some (.ref f3)))
  (l3:K.lookup f3=some ⟨oc3,od3,.func (W.fnOf "spills" "spills" (jP cL) (jO cL) (jE cL) .none kV3 dc3 pm3 an3 cd3 ct3),sl3⟩)
  (c3:W.codeIn K cd3 "spills"=true)
  (k3:W.keepIn K (.ref f3)=true)
  (a4:W.nsIn K mainGlobals "spill_pours"=some (some (.ref f4)))
  (l4:K.lookup f4=some ⟨oc4,od4,.func (W.fnOf "spill_pours" "spill_pours" (jP QS) (jO QS) (jE QS) .none kV4 dc4 pm4 an4 cd4 ct4),sl4⟩)
  (c4:W.codeIn K cd4 "spill_pours"=true)
  (k4:W.keepIn K (.ref f4)=true)
  (a5:W.nsIn K mainGlobals "with_spills"=some (some (.ref f5)))
  (l5:K.lookup f5=some ⟨oc5,od5,.func (W.fnOf "with_spills" "with_spills" (jP cW) (jO cW) (jE cW) .none kV5 dc5 pm5 an5 cd5 ct5),sl5⟩)
  (c5:W.codeIn K cd5 "with_spills"=true)
  (k5:W.keepIn K (.ref f5)=true)
  (a6:W.nsIn K mainGlobals "parts_not_nought"=some (some (.ref f6)))
  (l6:K.lookup f6=some ⟨oc6,od6,.func (W.fnOf "parts_not_nought" "parts_not_nought" (jP QR) (jO QR) (jE QR) .none kV6 dc6 pm6 an6 cd6 ct6),sl6⟩)
  (c6:W.codeIn K cd6 "parts_not_nought"=true)
  (k6:W.keepIn K (.ref f6)=true)
  (a7:W.findIn K (.ref cP) "__init__"=some (some (.ref f7)))
  (i7:W.isFn K (.ref f7)=true)
  (ac7:W.findCls K (.ref cP) (.type "type") "__init__"=some (.val (.ref f7)))
  (l7:K.lookup f7=some ⟨oc7,od7,.func (W.fnOf "__init__" "PlainLock.__init__" (jP Z7) (jO Z7) (jE Z7) .none kV7 dc7 pm7 an7 cd7 ct7),sl7⟩)
  (c7:W.codeIn K cd7 "PlainLock.__init__"=true)
  (k7:W.keepIn K (.ref f7)=true)
  (a8:W.findIn K (.ref cB) "__init__"=some (some (.ref f8)))
  (i8:W.isFn K (.ref f8)=true)
  (l8:K.lookup f8=some ⟨oc8,od8,.func (W.fnOf "__init__" "BasinLock.__init__" (jP ZJ) (jO ZJ) (jE ZJ) .none kV8 dc8 pm8 an8 cd8 ct8),sl8⟩)
  (c8:W.codeIn K cd8 "BasinLock.__init__"=true)
  (k8:W.keepIn K (.ref f8)=true)
  (a9:W.findIn K (.ref cU) "__init__"=some (some (.ref f9)))
  (i9:W.isFn K (.ref f9)=true)
  (l9:K.lookup f9=some ⟨oc9,od9,.func (W.fnOf "__init__" "PumpLock.__init__" (jP bC) (jO bC) (jE bC) .none kV9 dc9 pm9 an9 cd9 ct9),sl9⟩)
  (c9:W.codeIn K cd9 "PumpLock.__init__"=true)
  (k9:W.keepIn K (.ref f9)=true)
  (a10:W.findIn K (.ref cR) "__init__"=some (some (.ref f10)))
  (i10:W.isFn K (.ref f10)=true)
  (l10:K.lookup f10=some ⟨oc10,od10,.func (W.fnOf "__init__" "Reach.__init__" (jP bG) (jO bG) (jE bG) .none kV10 dc10 pm10 an10 cd10 ct10),sl10⟩)
  (c10:W.codeIn K cd10 "Reach.__init__"=true)
  (k10:W.keepIn K (.ref f10)=true)
  (a11:W.findIn K (.ref cP) "kind"=some (some (.ref f11)))
  (i11:W.isFn K (.ref f11)=true)
  (l11:K.lookup f11=some ⟨oc11,od11,.func (W.fnOf "kind" "PlainLock.kind" (jP bA) (jO bA) (jE bA) .none kV11 dc11 pm11 an11 cd11 ct11),sl11⟩)
  (c11:W.codeIn K cd11 "PlainLock.kind"=true)
  (k11:W.keepIn K (.ref f11)=true)
  (a12:W.findIn K (.ref cB) "kind"=some (some (.ref f12)))
  (i12:W.isFn K (.ref f12)=true)
  (l12:K.lookup f12=some ⟨oc12,od12,.func (W.fnOf "kind" "BasinLock.kind" (jP ZM) (jO ZM) (jE ZM) .none kV12 dc12 pm12 an12 cd12 ct12),sl12⟩)
  (c12:W.codeIn K cd12 "BasinLock.kind"=true)
  (k12:W.keepIn K (.ref f12)=true)
  (a13:W.findIn K (.ref cU) "kind"=some (some (.ref f13)))
  (i13:W.isFn K (.ref f13)=true)
  (l13:K.lookup f13=some ⟨oc13,od13,.func (W.fnOf "kind" "PumpLock.kind" (jP bF) (jO bF) (jE bF) .none kV13 dc13 pm13 an13 cd13 ct13),sl13⟩)
  (c13:W.codeIn K cd13 "PumpLock.kind"=true)
  (k13:W.keepIn K (.ref f13)=true)
  (a14:W.findIn K (.ref cP) "extra"=some (some (.ref f14)))
  (i14:W.isFn K (.ref f14)=true)
  (l14:K.lookup f14=some ⟨oc14,od14,.func (W.fnOf "extra" "PlainLock.extra" (jP Z8) (jO Z8) (jE Z8) .none kV14 dc14 pm14 an14 cd14 ct14),sl14⟩)
  (c14:W.codeIn K cd14 "PlainLock.extra"=true)
  (k14:W.keepIn K (.ref f14)=true)
  (a15:W.findIn K (.ref cB) "extra"=some (some (.ref f15)))
  (i15:W.isFn K (.ref f15)=true)
  (l15:K.lookup f15=some ⟨oc15,od15,.func (W.fnOf "extra" "BasinLock.extra" (jP ZK) (jO ZK) (jE ZK) .none kV15 dc15 pm15 an15 cd15 ct15),sl15⟩)
  (c15:W.codeIn K cd15 "BasinLock.extra"=true)
  (k15:W.keepIn K (.ref f15)=true)
  (a16:W.findIn K (.ref cU) "extra"=some (some (.ref f16)))
  (i16:W.isFn K (.ref f16)=true)
  (l16:K.lookup f16=some ⟨oc16,od16,.func (W.fnOf "extra" "PumpLock.extra" (jP bD) (jO bD) (jE bD) .none kV16 dc16 pm16 an16 cd16 ct16),sl16⟩)
  (c16:W.codeIn K cd16 "PumpLock.extra"=true)
  (k16:W.keepIn K (.ref f16)=true)
  (a17:W.findIn K (.ref cP) "fill_parts"=some (some (.ref f17)))
  (i17:W.isFn K (.ref f17)=true)
  (l17:K.lookup f17=some ⟨oc17,od17,.func (W.fnOf "fill_parts" "PlainLock.fill_parts" (jP Z9) (jO Z9) (jE Z9) .none kV17 dc17 pm17 an17 cd17 ct17),sl17⟩)
  (c17:W.codeIn K cd17 "PlainLock.fill_parts"=true)
  (k17:W.keepIn K (.ref f17)=true)
  (a18:W.findIn K (.ref cB) "fill_parts"=some (some (.ref f18)))
  (i18:W.isFn K (.ref f18)=true)
  (l18:K.lookup f18=some ⟨oc18,od18,.func (W.fnOf "fill_parts" "BasinLock.fill_parts" (jP ZL) (jO ZL) (jE ZL) .none kV18 dc18 pm18 an18 cd18 ct18),sl18⟩)
  (c18:W.codeIn K cd18 "BasinLock.fill_parts"=true)
  (k18:W.keepIn K (.ref f18)=true)
  (a19:W.findIn K (.ref cU) "fill_parts"=some (some (.ref f19)))
  (i19:W.isFn K (.ref f19)=true)
  (l19:K.lookup f19=some ⟨oc19,od19,.func (W.fnOf "fill_parts" "PumpLock.fill_parts" (jP bE) (jO bE) (jE bE) .none kV19 dc19 pm19 an19 cd19 ct19),sl19⟩)
  (c19:W.codeIn K cd19 "PumpLock.fill_parts"=true)
  (k19:W.keepIn K (.ref f19)=true)
  (a20:W.findIn K (.ref cP) "let_parts"=some (some (.ref f20)))
  (a20_U:W.findIn K (.ref cU) "let_parts"=some (some (.ref f20)))
  (i20:W.isFn K (.ref f20)=true)
  (l20:K.lookup f20=some ⟨oc20,od20,.func (W.fnOf "let_parts" "PlainLock.let_parts" (jP bB) (jO bB) (jE bB) .none kV20 dc20 pm20 an20 cd20 ct20),sl20⟩)
  (c20:W.codeIn K cd20 "PlainLock.let_parts"=true)
  (k20:W.keepIn K (.ref f20)=true)
  (a21:W.findIn K (.ref cB) "let_parts"=some (some (.ref f21)))
  (i21:W.isFn K (.ref f21)=true)
  (l21:K.lookup f21=some ⟨oc21,od21,.func (W.fnOf "let_parts" "BasinLock.let_parts" (jP ZN) (jO ZN) (jE ZN) .none kV21 dc21 pm21 an21 cd21 ct21),sl21⟩)
  (c21:W.codeIn K cd21 "BasinLock.let_parts"=true)
  (k21:W.keepIn K (.ref f21)=true)
  (a22:W.findIn K (.ref cN) "__init__"=some (some (.ref f22)))
  (i22:W.isFn K (.ref f22)=true)
  (l22:K.lookup f22=some ⟨oc22,od22,.func (W.fnOf "__init__" "Canal.__init__" (jP QG) (jO QG) (jE QG) (.ref T22) kV22 dc22 pm22 an22 cd22 ct22),sl22⟩)
  (c22:W.codeIn K cd22 "Canal.__init__"=true)
  (k22:W.keepIn K (.ref f22)=true)
  (lT22:K.lookup T22=some oT22)
  (dT22:oT22.data=.seq ([.none]:List Value).toArray dn0)
  (a23:W.findIn K (.ref cN) "sea"=some (some (.ref f23)))
  (i23:W.isFn K (.ref f23)=true)
  (l23:K.lookup f23=some ⟨oc23,od23,.func (W.fnOf "sea" "Canal.sea" (jP ZR) (jO ZR) (jE ZR) .none kV23 dc23 pm23 an23 cd23 ct23),sl23⟩)
  (c23:W.codeIn K cd23 "Canal.sea"=true)
  (k23:W.keepIn K (.ref f23)=true)
  (a24:W.findIn K (.ref cN) "sky"=some (some (.ref f24)))
  (i24:W.isFn K (.ref f24)=true)
  (l24:K.lookup f24=some ⟨oc24,od24,.func (W.fnOf "sky" "Canal.sky" (jP ZS) (jO ZS) (jE ZS) .none kV24 dc24 pm24 an24 cd24 ct24),sl24⟩)
  (c24:W.codeIn K cd24 "Canal.sky"=true)
  (k24:W.keepIn K (.ref f24)=true)
  (a25:W.findIn K (.ref cN) "chamber"=some (some (.ref f25)))
  (i25:W.isFn K (.ref f25)=true)
  (l25:K.lookup f25=some ⟨oc25,od25,.func (W.fnOf "chamber" "Canal.chamber" (jP ZP) (jO ZP) (jE ZP) .none kV25 dc25 pm25 an25 cd25 ct25),sl25⟩)
  (c25:W.codeIn K cd25 "Canal.chamber"=true)
  (k25:W.keepIn K (.ref f25)=true)
  (a26:W.findIn K (.ref cN) "basin"=some (some (.ref f26)))
  (i26:W.isFn K (.ref f26)=true)
  (l26:K.lookup f26=some ⟨oc26,od26,.func (W.fnOf "basin" "Canal.basin" (jP ZO) (jO ZO) (jE ZO) .none kV26 dc26 pm26 an26 cd26 ct26),sl26⟩)
  (c26:W.codeIn K cd26 "Canal.basin"=true)
  (k26:W.keepIn K (.ref f26)=true)
  (a27:W.findIn K (.ref cN) "weirs"=some (some (.ref f27)))
  (i27:W.isFn K (.ref f27)=true)
  (l27:K.lookup f27=some ⟨oc27,od27,.func (W.fnOf "weirs" "Canal.weirs" (jP QH) (jO QH) (jE QH) .none kV27 dc27 pm27 an27 cd27 ct27),sl27⟩)
  (c27:W.codeIn K cd27 "Canal.weirs"=true)
  (k27:W.keepIn K (.ref f27)=true)
  (a28:W.findIn K (.ref cN) "full"=some (some (.ref f28)))
  (i28:W.isFn K (.ref f28)=true)
  (l28:K.lookup f28=some ⟨oc28,od28,.func (W.fnOf "full" "Canal.full" (jP ZQ) (jO ZQ) (jE ZQ) .none kV28 dc28 pm28 an28 cd28 ct28),sl28⟩)
  (c28:W.codeIn K cd28 "Canal.full"=true)
  (k28:W.keepIn K (.ref f28)=true)
  (a29:W.nsIn K mainGlobals "filling"=some (some (.ref f29)))
  (l29:K.lookup f29=some ⟨oc29,od29,.func (W.fnOf "filling" "filling" (jP QM) (jO QM) (jE QM) .none kV29 dc29 pm29 an29 cd29 ct29),sl29⟩)
  (c29:W.codeIn K cd29 "filling"=true)
  (k29:W.keepIn K (.ref f29)=true)
  (a30:W.nsIn K mainGlobals "letting"=some (some (.ref f30)))
  (l30:K.lookup f30=some ⟨oc30,od30,.func (W.fnOf "letting" "letting" (jP QO) (jO QO) (jE QO) .none kV30 dc30 pm30 an30 cd30 ct30),sl30⟩)
  (c30:W.codeIn K cd30 "letting"=true)
  (k30:W.keepIn K (.ref f30)=true)
  (a31:W.nsIn K mainGlobals "given_by"=some (some (.ref f31)))
  (l31:K.lookup f31=some ⟨oc31,od31,.func (W.fnOf "given_by" "given_by" (jP QN) (jO QN) (jE QN) .none kV31 dc31 pm31 an31 cd31 ct31),sl31⟩)
  (c31:W.codeIn K cd31 "given_by"=true)
  (k31:W.keepIn K (.ref f31)=true)
  (a32:W.nsIn K mainGlobals "basin_after"=some (some (.ref f32)))
  (l32:K.lookup f32=some ⟨oc32,od32,.func (W.fnOf "basin_after" "basin_after" (jP QK) (jO QK) (jE QK) .none kV32 dc32 pm32 an32 cd32 ct32),sl32⟩)
  (c32:W.codeIn K cd32 "basin_after"=true)
  (k32:W.keepIn K (.ref f32)=true)
  (a33:W.nsIn K mainGlobals "passage"=some (some (.ref f33)))
  (l33:K.lookup f33=some ⟨oc33,od33,.func (W.fnOf "passage" "passage" (jP cE) (jO cE) (jE cE) .none kV33 dc33 pm33 an33 cd33 ct33),sl33⟩)
  (c33:W.codeIn K cd33 "passage"=true)
  (k33:W.keepIn K (.ref f33)=true)
  (a34:W.findIn K (.ref cC) "__init__"=some (some (.ref f34)))
  (i34:W.isFn K (.ref f34)=true)
  (l34:K.lookup f34=some ⟨oc34,od34,.func (W.fnOf "__init__" "Chamber.__init__" (jP ZT) (jO ZT) (jE ZT) .none kV34 dc34 pm34 an34 cd34 ct34),sl34⟩)
  (c34:W.codeIn K cd34 "Chamber.__init__"=true)
  (k34:W.keepIn K (.ref f34)=true)
  (a35:W.findIn K (.ref cC) "waters"=some (some (.ref f35)))
  (i35:W.isFn K (.ref f35)=true)
  (l35:K.lookup f35=some ⟨oc35,od35,.func (W.fnOf "waters" "Chamber.waters" (jP Z6) (jO Z6) (jE Z6) .none kV35 dc35 pm35 an35 cd35 ct35),sl35⟩)
  (c35:W.codeIn K cd35 "Chamber.waters"=true)
  (k35:W.keepIn K (.ref f35)=true)
  (a36:W.findIn K (.ref cC) "gates"=some (some (.ref f36)))
  (i36:W.isFn K (.ref f36)=true)
  (l36:K.lookup f36=some ⟨oc36,od36,.func (W.fnOf "gates" "Chamber.gates" (jP ZZ) (jO ZZ) (jE ZZ) .none kV36 dc36 pm36 an36 cd36 ct36),sl36⟩)
  (c36:W.codeIn K cd36 "Chamber.gates"=true)
  (k36:W.keepIn K (.ref f36)=true)
  (a37:W.findIn K (.ref cC) "boat"=some (some (.ref f37)))
  (i37:W.isFn K (.ref f37)=true)
  (l37:K.lookup f37=some ⟨oc37,od37,.func (W.fnOf "boat" "Chamber.boat" (jP ZU) (jO ZU) (jE ZU) .none kV37 dc37 pm37 an37 cd37 ct37),sl37⟩)
  (c37:W.codeIn K cd37 "Chamber.boat"=true)
  (k37:W.keepIn K (.ref f37)=true)
  (a38:W.findIn K (.ref cC) "stands_at"=some (some (.ref f38)))
  (i38:W.isFn K (.ref f38)=true)
  (l38:K.lookup f38=some ⟨oc38,od38,.func (W.fnOf "stands_at" "Chamber.stands_at" (jP Z5) (jO Z5) (jE Z5) .none kV38 dc38 pm38 an38 cd38 ct38),sl38⟩)
  (c38:W.codeIn K cd38 "Chamber.stands_at"=true)
  (k38:W.keepIn K (.ref f38)=true)
  (a39:W.findIn K (.ref cC) "after_pours"=some (some (.ref f39)))
  (i39:W.isFn K (.ref f39)=true)
  (l39:K.lookup f39=some ⟨oc39,od39,.func (W.fnOf "after_pours" "Chamber.after_pours" (jP QI) (jO QI) (jE QI) .none kV39 dc39 pm39 an39 cd39 ct39),sl39⟩)
  (c39:W.codeIn K cd39 "Chamber.after_pours"=true)
  (k39:W.keepIn K (.ref f39)=true)
  (a40:W.findIn K (.ref cC) "refuse_open_gate"=some (some (.ref f40)))
  (i40:W.isFn K (.ref f40)=true)
  (l40:K.lookup f40=some ⟨oc40,od40,.func (W.fnOf "refuse_open_gate" "Chamber.refuse_open_gate" (jP Z2) (jO Z2) (jE Z2) .none kV40 dc40 pm40 an40 cd40 ct40),sl40⟩)
  (c40:W.codeIn K cd40 "Chamber.refuse_open_gate"=true)
  (k40:W.keepIn K (.ref f40)=true)
  (a41:W.findIn K (.ref cC) "refuse_shut_gate"=some (some (.ref f41)))
  (i41:W.isFn K (.ref f41)=true)
  (l41:K.lookup f41=some ⟨oc41,od41,.func (W.fnOf "refuse_shut_gate" "Chamber.refuse_shut_gate" (jP Z3) (jO Z3) (jE Z3) .none kV41 dc41 pm41 an41 cd41 ct41),sl41⟩)
  (c41:W.codeIn K cd41 "Chamber.refuse_shut_gate"=true)
  (k41:W.keepIn K (.ref f41)=true)
  (a42:W.findIn K (.ref cC) "open_gate"=some (some (.ref f42)))
  (i42:W.isFn K (.ref f42)=true)
  (l42:K.lookup f42=some ⟨oc42,od42,.func (W.fnOf "open_gate" "Chamber.open_gate" (jP Z1) (jO Z1) (jE Z1) .none kV42 dc42 pm42 an42 cd42 ct42),sl42⟩)
  (c42:W.codeIn K cd42 "Chamber.open_gate"=true)
  (k42:W.keepIn K (.ref f42)=true)
  (a43:W.findIn K (.ref cC) "shut_gate"=some (some (.ref f43)))
  (i43:W.isFn K (.ref f43)=true)
  (l43:K.lookup f43=some ⟨oc43,od43,.func (W.fnOf "shut_gate" "Chamber.shut_gate" (jP Z4) (jO Z4) (jE Z4) .none kV43 dc43 pm43 an43 cd43 ct43),sl43⟩)
  (c43:W.codeIn K cd43 "Chamber.shut_gate"=true)
  (k43:W.keepIn K (.ref f43)=true)
  (a44:W.findIn K (.ref cC) "fill_chamber"=some (some (.ref f44)))
  (i44:W.isFn K (.ref f44)=true)
  (l44:K.lookup f44=some ⟨oc44,od44,.func (W.fnOf "fill_chamber" "Chamber.fill_chamber" (jP ZY) (jO ZY) (jE ZY) .none kV44 dc44 pm44 an44 cd44 ct44),sl44⟩)
  (c44:W.codeIn K cd44 "Chamber.fill_chamber"=true)
  (k44:W.keepIn K (.ref f44)=true)
  (a45:W.findIn K (.ref cC) "let_chamber"=some (some (.ref f45)))
  (i45:W.isFn K (.ref f45)=true)
  (l45:K.lookup f45=some ⟨oc45,od45,.func (W.fnOf "let_chamber" "Chamber.let_chamber" (jP Z0) (jO Z0) (jE Z0) .none kV45 dc45 pm45 an45 cd45 ct45),sl45⟩)
  (c45:W.codeIn K cd45 "Chamber.let_chamber"=true)
  (k45:W.keepIn K (.ref f45)=true)
  (a46:W.findIn K (.ref cC) "boat_in"=some (some (.ref f46)))
  (i46:W.isFn K (.ref f46)=true)
  (l46:K.lookup f46=some ⟨oc46,od46,.func (W.fnOf "boat_in" "Chamber.boat_in" (jP ZV) (jO ZV) (jE ZV) .none kV46 dc46 pm46 an46 cd46 ct46),sl46⟩)
  (c46:W.codeIn K cd46 "Chamber.boat_in"=true)
  (k46:W.keepIn K (.ref f46)=true)
  (a47:W.findIn K (.ref cC) "boat_out"=some (some (.ref f47)))
  (i47:W.isFn K (.ref f47)=true)
  (l47:K.lookup f47=some ⟨oc47,od47,.func (W.fnOf "boat_out" "Chamber.boat_out" (jP ZW) (jO ZW) (jE ZW) .none kV47 dc47 pm47 an47 cd47 ct47),sl47⟩)
  (c47:W.codeIn K cd47 "Chamber.boat_out"=true)
  (k47:W.keepIn K (.ref f47)=true)
  (a48:W.findIn K (.ref cC) "do"=some (some (.ref f48)))
  (i48:W.isFn K (.ref f48)=true)
  (l48:K.lookup f48=some ⟨oc48,od48,.func (W.fnOf "do" "Chamber.do" (jP ZX) (jO ZX) (jE ZX) .none kV48 dc48 pm48 an48 cd48 ct48),sl48⟩)
  (c48:W.codeIn K cd48 "Chamber.do"=true)
  (k48:W.keepIn K (.ref f48)=true)
  (a49:W.nsIn K mainGlobals "work"=some (some (.ref f49)))
  (l49:K.lookup f49=some ⟨oc49,od49,.func (W.fnOf "work" "work" (jP cX) (jO cX) (jE cX) .none kV49 dc49 pm49 an49 cd49 ct49),sl49⟩)
  (c49:W.codeIn K cd49 "work"=true)
  (k49:W.keepIn K (.ref f49)=true)
  (a50:W.nsIn K mainGlobals "passing"=some (some (.ref f50)))
  (l50:K.lookup f50=some ⟨oc50,od50,.func (W.fnOf "passing" "passing" (jP cG) (jO cG) (jE cG) .none kV50 dc50 pm50 an50 cd50 ct50),sl50⟩)
  (c50:W.codeIn K cd50 "passing"=true)
  (k50:W.keepIn K (.ref f50)=true)
  (a51:W.nsIn K mainGlobals "step_ends"=some (some (.ref f51)))
  (l51:K.lookup f51=some ⟨oc51,od51,.func (W.fnOf "step_ends" "step_ends" (jP cM) (jO cM) (jE cM) .none kV51 dc51 pm51 an51 cd51 ct51),sl51⟩)
  (c51:W.codeIn K cd51 "step_ends"=true)
  (k51:W.keepIn K (.ref f51)=true)
  (a52:W.nsIn K mainGlobals "linked"=some (some (.ref f52)))
  (l52:K.lookup f52=some ⟨oc52,od52,.func (W.fnOf "linked" "linked" (jP bX) (jO bX) (jE bX) .none kV52 dc52 pm52 an52 cd52 ct52),sl52⟩)
  (c52:W.codeIn K cd52 "linked"=true)
  (k52:W.keepIn K (.ref f52)=true)
  (a53:W.nsIn K mainGlobals "steps_to_do"=some (some (.ref f53)))
  (l53:K.lookup f53=some ⟨oc53,od53,.func (W.fnOf "steps_to_do" "steps_to_do" (jP cQ) (jO cQ) (jE cQ) .none kV53 dc53 pm53 an53 cd53 ct53),sl53⟩)
  (c53:W.codeIn K cd53 "steps_to_do"=true)
  (k53:W.keepIn K (.ref f53)=true)
  (a54:W.nsIn K mainGlobals "reach_of"=some (some (.ref f54)))
  (l54:K.lookup f54=some ⟨oc54,od54,.func (W.fnOf "reach_of" "reach_of" (jP cJ) (jO cJ) (jE cJ) .none kV54 dc54 pm54 an54 cd54 ct54),sl54⟩)
  (c54:W.codeIn K cd54 "reach_of"=true)
  (k54:W.keepIn K (.ref f54)=true)
  (a55:W.nsIn K mainGlobals "lying"=some (some (.ref f55)))
  (l55:K.lookup f55=some ⟨oc55,od55,.func (W.fnOf "lying" "lying" (jP QP) (jO QP) (jE QP) .none kV55 dc55 pm55 an55 cd55 ct55),sl55⟩)
  (c55:W.codeIn K cd55 "lying"=true)
  (k55:W.keepIn K (.ref f55)=true)
  (a56:W.nsIn K mainGlobals "night_pours"=some (some (.ref f56)))
  (l56:K.lookup f56=some ⟨oc56,od56,.func (W.fnOf "night_pours" "night_pours" (jP JB) (jO JB) (jE JB) .none kV56 dc56 pm56 an56 cd56 ct56),sl56⟩)
  (c56:W.codeIn K cd56 "night_pours"=true)
  (k56:W.keepIn K (.ref f56)=true)
  (a57:W.nsIn K mainGlobals "has_no_berth"=some (some (.ref f57)))
  (l57:K.lookup f57=some ⟨oc57,od57,.func (W.fnOf "has_no_berth" "has_no_berth" (jP bT) (jO bT) (jE bT) .none kV57 dc57 pm57 an57 cd57 ct57),sl57⟩)
  (c57:W.codeIn K cd57 "has_no_berth"=true)
  (k57:W.keepIn K (.ref f57)=true)
  (a58:W.nsIn K mainGlobals "next_step"=some (some (.ref f58)))
  (l58:K.lookup f58=some ⟨oc58,od58,.func (W.fnOf "next_step" "next_step" (jP bY) (jO bY) (jE bY) .none kV58 dc58 pm58 an58 cd58 ct58),sl58⟩)
  (c58:W.codeIn K cd58 "next_step"=true)
  (k58:W.keepIn K (.ref f58)=true)
  (a59:W.nsIn K mainGlobals "one_step_on"=some (some (.ref f59)))
  (l59:K.lookup f59=some ⟨oc59,od59,.func (W.fnOf "one_step_on" "one_step_on" (jP QQ) (jO QQ) (jE QQ) .none kV59 dc59 pm59 an59 cd59 ct59),sl59⟩)
  (c59:W.codeIn K cd59 "one_step_on"=true)
  (k59:W.keepIn K (.ref f59)=true)
  (a60:W.nsIn K mainGlobals "counted_on"=some (some (.ref f60)))
  (l60:K.lookup f60=some ⟨oc60,od60,.func (W.fnOf "counted_on" "counted_on" (jP bR) (jO bR) (jE bR) .none kV60 dc60 pm60 an60 cd60 ct60),sl60⟩)
  (c60:W.codeIn K cd60 "counted_on"=true)
  (k60:W.keepIn K (.ref f60)=true)
  (a61:W.nsIn K mainGlobals "by_number"=some (some (.ref f61)))
  (l61:K.lookup f61=some ⟨oc61,od61,.func (W.fnOf "by_number" "by_number" (jP QL) (jO QL) (jE QL) .none kV61 dc61 pm61 an61 cd61 ct61),sl61⟩)
  (c61:W.codeIn K cd61 "by_number"=true)
  (k61:W.keepIn K (.ref f61)=true)
  (a62:W.nsIn K mainGlobals "pass_pours"=some (some (.ref f62)))
  (l62:K.lookup f62=some ⟨oc62,od62,.func (W.fnOf "pass_pours" "pass_pours" (jP cD) (jO cD) (jE cD) .none kV62 dc62 pm62 an62 cd62 ct62),sl62⟩)
  (c62:W.codeIn K cd62 "pass_pours"=true)
  (k62:W.keepIn K (.ref f62)=true)
  (a63:W.nsIn K mainGlobals "let_pours"=some (some (.ref f63)))
  (l63:K.lookup f63=some ⟨oc63,od63,.func (W.fnOf "let_pours" "let_pours" (jP bW) (jO bW) (jE bW) .none kV63 dc63 pm63 an63 cd63 ct63),sl63⟩)
  (c63:W.codeIn K cd63 "let_pours"=true)
  (k63:W.keepIn K (.ref f63)=true)
  (a64:W.nsIn K mainGlobals "is_below_least"=some (some (.ref f64)))
  (l64:K.lookup f64=some ⟨oc64,od64,.func (W.fnOf "is_below_least" "is_below_least" (jP bU) (jO bU) (jE bU) .none kV64 dc64 pm64 an64 cd64 ct64),sl64⟩)
  (c64:W.codeIn K cd64 "is_below_least"=true)
  (k64:W.keepIn K (.ref f64)=true)
  (a65:W.nsIn K mainGlobals "falls_short"=some (some (.ref f65)))
  (l65:K.lookup f65=some ⟨oc65,od65,.func (W.fnOf "falls_short" "falls_short" (jP bS) (jO bS) (jE bS) .none kV65 dc65 pm65 an65 cd65 ct65),sl65⟩)
  (c65:W.codeIn K cd65 "falls_short"=true)
  (k65:W.keepIn K (.ref f65)=true)
  (a66:W.nsIn K mainGlobals "why_no_pass"=some (some (.ref f66)))
  (l66:K.lookup f66=some ⟨oc66,od66,.func (W.fnOf "why_no_pass" "why_no_pass" (jP cT) (jO cT) (jE cT) .none kV66 dc66 pm66 an66 cd66 ct66),sl66⟩)
  (c66:W.codeIn K cd66 "why_no_pass"=true)
  (k66:W.keepIn K (.ref f66)=true)
  (a67:W.nsIn K mainGlobals "why_not"=some (some (.ref f67)))
  (l67:K.lookup f67=some ⟨oc67,od67,.func (W.fnOf "why_not" "why_not" (jP cV) (jO cV) (jE cV) .none kV67 dc67 pm67 an67 cd67 ct67),sl67⟩)
  (c67:W.codeIn K cd67 "why_not"=true)
  (k67:W.keepIn K (.ref f67)=true)
  (a68:W.nsIn K mainGlobals "pours"=some (some (.ref f68)))
  (l68:K.lookup f68=some ⟨oc68,od68,.func (W.fnOf "pours" "pours" (jP cI) (jO cI) (jE cI) .none kV68 dc68 pm68 an68 cd68 ct68),sl68⟩)
  (c68:W.codeIn K cd68 "pours"=true)
  (k68:W.keepIn K (.ref f68)=true)
  (a69:W.nsIn K mainGlobals "after"=some (some (.ref f69)))
  (l69:K.lookup f69=some ⟨oc69,od69,.func (W.fnOf "after" "after" (jP bQ) (jO bQ) (jE bQ) .none kV69 dc69 pm69 an69 cd69 ct69),sl69⟩)
  (c69:W.codeIn K cd69 "after"=true)
  (k69:W.keepIn K (.ref f69)=true)
  (a70:W.nsIn K mainGlobals "_law_draw"=some (some (.ref f70)))
  (l70:K.lookup f70=some ⟨oc70,od70,.func (W.fnOf "_law_draw" "_law_draw" (jP bI) (jO bI) (jE bI) .none kV70 dc70 pm70 an70 cd70 ct70),sl70⟩)
  (c70:W.codeIn K cd70 "_law_draw"=true)
  (k70:W.keepIn K (.ref f70)=true)
  (a71:W.nsIn K mainGlobals "_law_unit"=some (some (.ref f71)))
  (l71:K.lookup f71=some ⟨oc71,od71,.func (W.fnOf "_law_unit" "_law_unit" (jP bN) (jO bN) (jE bN) .none kV71 dc71 pm71 an71 cd71 ct71),sl71⟩)
  (c71:W.codeIn K cd71 "_law_unit"=true)
  (k71:W.keepIn K (.ref f71)=true)
  (a72:W.nsIn K mainGlobals "_law_reach"=some (some (.ref f72)))
  (l72:K.lookup f72=some ⟨oc72,od72,.func (W.fnOf "_law_reach" "_law_reach" (jP bL) (jO bL) (jE bL) .none kV72 dc72 pm72 an72 cd72 ct72),sl72⟩)
  (c72:W.codeIn K cd72 "_law_reach"=true)
  (k72:W.keepIn K (.ref f72)=true)
  (a73:W.nsIn K mainGlobals "_law_lock"=some (some (.ref f73)))
  (l73:K.lookup f73=some ⟨oc73,od73,.func (W.fnOf "_law_lock" "_law_lock" (jP bJ) (jO bJ) (jE bJ) .none kV73 dc73 pm73 an73 cd73 ct73),sl73⟩)
  (c73:W.codeIn K cd73 "_law_lock"=true)
  (k73:W.keepIn K (.ref f73)=true)
  (a74:W.nsIn K mainGlobals "_law_weather"=some (some (.ref f74)))
  (l74:K.lookup f74=some ⟨oc74,od74,.func (W.fnOf "_law_weather" "_law_weather" (jP bP) (jO bP) (jE bP) .none kV74 dc74 pm74 an74 cd74 ct74),sl74⟩)
  (c74:W.codeIn K cd74 "_law_weather"=true)
  (k74:W.keepIn K (.ref f74)=true)
  (a75:W.nsIn K mainGlobals "_law_canal"=some (some (.ref f75)))
  (l75:K.lookup f75=some ⟨oc75,od75,.func (W.fnOf "_law_canal" "_law_canal" (jP JA) (jO JA) (jE JA) .none kV75 dc75 pm75 an75 cd75 ct75),sl75⟩)
  (c75:W.codeIn K cd75 "_law_canal"=true)
  (k75:W.keepIn K (.ref f75)=true)
  (a76:W.nsIn K mainGlobals "_law_turns"=some (some (.ref f76)))
  (l76:K.lookup f76=some ⟨oc76,od76,.func (W.fnOf "_law_turns" "_law_turns" (jP bM) (jO bM) (jE bM) .none kV76 dc76 pm76 an76 cd76 ct76),sl76⟩)
  (c76:W.codeIn K cd76 "_law_turns"=true)
  (k76:W.keepIn K (.ref f76)=true)
  (a77:W.nsIn K mainGlobals "_law_way"=some (some (.ref f77)))
  (l77:K.lookup f77=some ⟨oc77,od77,.func (W.fnOf "_law_way" "_law_way" (jP bO) (jO bO) (jE bO) .none kV77 dc77 pm77 an77 cd77 ct77),sl77⟩)
  (c77:W.codeIn K cd77 "_law_way"=true)
  (k77:W.keepIn K (.ref f77)=true)
  (a78:W.nsIn K mainGlobals "_law_state"=some (some (.ref f78)))
  (l78:K.lookup f78=some ⟨oc78,od78,.func (W.fnOf "_law_state" "_law_state" (jP JN) (jO JN) (jE JN) .none kV78 dc78 pm78 an78 cd78 ct78),sl78⟩)
  (c78:W.codeIn K cd78 "_law_state"=true)
  (k78:W.keepIn K (.ref f78)=true)
  (a79:W.nsIn K mainGlobals "_law_done"=some (some (.ref f79)))
  (l79:K.lookup f79=some ⟨oc79,od79,.func (W.fnOf "_law_done" "_law_done" (jP bH) (jO bH) (jE bH) .none kV79 dc79 pm79 an79 cd79 ct79),sl79⟩)
  (c79:W.codeIn K cd79 "_law_done"=true)
  (k79:W.keepIn K (.ref f79)=true)
  (a80:W.nsIn K mainGlobals "_law_moved"=some (some (.ref f80)))
  (l80:K.lookup f80=some ⟨oc80,od80,.func (W.fnOf "_law_moved" "_law_moved" (jP bK) (jO bK) (jE bK) .none kV80 dc80 pm80 an80 cd80 ct80),sl80⟩)
  (c80:W.codeIn K cd80 "_law_moved"=true)
  (k80:W.keepIn K (.ref f80)=true)
  (a81:W.nsIn K mainGlobals "_law_alike"=some (some (.ref f81)))
  (l81:K.lookup f81=some ⟨oc81,od81,.func (W.fnOf "_law_alike" "_law_alike" (jP QJ) (jO QJ) (jE QJ) .none kV81 dc81 pm81 an81 cd81 ct81),sl81⟩)
  (c81:W.codeIn K cd81 "_law_alike"=true)
  (k81:W.keepIn K (.ref f81)=true)
  (a82:W.nsIn K mainGlobals "law"=some (some (.ref f82)))
  (l82:K.lookup f82=some ⟨oc82,od82,.func (W.fnOf "law" "law" (jP zU) (jO zU) (jE zU) .none kV82 dc82 pm82 an82 cd82 ct82),sl82⟩)
  (c82:W.codeIn K cd82 "law"=true)
  (k82:W.keepIn K (.ref f82)=true)
  (z_list:W.nsIn K mainGlobals "list"=some none)
  (z_tuple:W.nsIn K mainGlobals "tuple"=some none)
  (z_max:W.nsIn K mainGlobals "max"=some none)
  (z_range:W.nsIn K mainGlobals "range"=some none)
  (z_len:W.nsIn K mainGlobals "len"=some none)
  (z_sum:W.nsIn K mainGlobals "sum"=some none)
  (z_zip:W.nsIn K mainGlobals "zip"=some none)
  (z_enumerate:W.nsIn K mainGlobals "enumerate"=some none)
  (z_min:W.nsIn K mainGlobals "min"=some none)
  (z_int:W.nsIn K mainGlobals "int"=some none)
  (pg_P:W.plainGet K cP Str.empty=true)
  (hdd_P:W.hasDictIn K cP=true)
  (po_P:W.plainOver K cP=true)
  (sa_P:W.findIn K (.ref cP) "__setattr__"=some (some (.builtin "object.__setattr__")))
  (mk_P:W.makesIn K cP=true)
  (kc_P:W.keepIn K (.ref cP)=true)
  (n_name_P:W.findIn K (.ref cP) "name"=some none)
  (n_high_P:W.findIn K (.ref cP) "high"=some none)
  (n_low_P:W.findIn K (.ref cP) "low"=some none)
  (n_room_P:W.findIn K (.ref cP) "room"=some none)
  (pg_B:W.plainGet K cB Str.empty=true)
  (hdd_B:W.hasDictIn K cB=true)
  (po_B:W.plainOver K cB=true)
  (sa_B:W.findIn K (.ref cB) "__setattr__"=some (some (.builtin "object.__setattr__")))
  (mk_B:W.makesIn K cB=true)
  (kc_B:W.keepIn K (.ref cB)=true)
  (n_name_B:W.findIn K (.ref cB) "name"=some none)
  (n_high_B:W.findIn K (.ref cB) "high"=some none)
  (n_low_B:W.findIn K (.ref cB) "low"=some none)
  (n_room_B:W.findIn K (.ref cB) "room"=some none)
  (n_side_B:W.findIn K (.ref cB) "side"=some none)
  (pg_U:W.plainGet K cU Str.empty=true)
  (hdd_U:W.hasDictIn K cU=true)
  (po_U:W.plainOver K cU=true)
  (sa_U:W.findIn K (.ref cU) "__setattr__"=some (some (.builtin "object.__setattr__")))
  (mk_U:W.makesIn K cU=true)
  (kc_U:W.keepIn K (.ref cU)=true)
  (n_name_U:W.findIn K (.ref cU) "name"=some none)
  (n_high_U:W.findIn K (.ref cU) "high"=some none)
  (n_low_U:W.findIn K (.ref cU) "low"=some none)
  (n_room_U:W.findIn K (.ref cU) "room"=some none)
  (n_lift_U:W.findIn K (.ref cU) "lift"=some none)
  (g1:W.specialIn K (.ref cP) "__getattribute__"=some (some (.builtin "type.__getattribute__")))
  (g2:W.readsIn K cP (.type "type")=true)
  (pg_R:W.plainGet K cR Str.empty=true)
  (hdd_R:W.hasDictIn K cR=true)
  (po_R:W.plainOver K cR=true)
  (sa_R:W.findIn K (.ref cR) "__setattr__"=some (some (.builtin "object.__setattr__")))
  (mk_R:W.makesIn K cR=true)
  (kc_R:W.keepIn K (.ref cR)=true)
  (nR_name:W.findIn K (.ref cR) "name"=some none)
  (nR_least:W.findIn K (.ref cR) "least"=some none)
  (nR_crest:W.findIn K (.ref cR) "crest"=some none)
  (nR_berths:W.findIn K (.ref cR) "berths"=some none)
  (nR_water:W.findIn K (.ref cR) "water"=some none)
  (nR_target:W.findIn K (.ref cR) "target"=some none)
  (pg_N:W.plainGet K cN Str.empty=true)
  (hdd_N:W.hasDictIn K cN=true)
  (po_N:W.plainOver K cN=true)
  (sa_N:W.findIn K (.ref cN) "__setattr__"=some (some (.builtin "object.__setattr__")))
  (mk_N:W.makesIn K cN=true)
  (kc_N:W.keepIn K (.ref cN)=true)
  (nN_reaches:W.findIn K (.ref cN) "reaches"=some none)
  (nN_locks:W.findIn K (.ref cN) "locks"=some none)
  (nN_nights:W.findIn K (.ref cN) "nights"=some none)
  (gSEA:W.nsIn K mainGlobals "SEA"=some (some (.int (-1) tkS)))
  (xX_Against:W.excIn K eA [.type "ValueError",.type "Exception",.type "BaseException",.type "object"] "ValueError.__new__"=true)
  (xX_NotNow:W.excIn K eW [.type "ValueError",.type "Exception",.type "BaseException",.type "object"] "ValueError.__new__"=true)
  (xX_Short:W.excIn K eS [.type "ValueError",.type "Exception",.type "BaseException",.type "object"] "ValueError.__new__"=true)
  (xX_Full:W.excIn K eF [.type "ValueError",.type "Exception",.type "BaseException",.type "object"] "ValueError.__new__"=true)
  (xX_NoBoat:W.excIn K eO [.type "ValueError",.type "Exception",.type "BaseException",.type "object"] "ValueError.__new__"=true)
  (xX_Unknown:W.excIn K eK [.type "ValueError",.type "Exception",.type "BaseException",.type "object"] "ValueError.__new__"=true)
  (xX_NotLinked:W.excIn K eL [.type "ValueError",.type "Exception",.type "BaseException",.type "object"] "ValueError.__new__"=true)
  (gHOME:W.nsIn K mainGlobals "HOME"=some (some (.int (-1) tkH)))
  (pg_C:W.plainGet K cC Str.empty=true)
  (hdd_C:W.hasDictIn K cC=true)
  (po_C:W.plainOver K cC=true)
  (sa_C:W.findIn K (.ref cC) "__setattr__"=some (some (.builtin "object.__setattr__")))
  (mk_C:W.makesIn K cC=true)
  (kc_C:W.keepIn K (.ref cC)=true)
  (nC_lock:W.findIn K (.ref cC) "lock"=some none)
  (nC_held:W.findIn K (.ref cC) "held"=some none)
  (nC_least:W.findIn K (.ref cC) "least"=some none)
  (nC_open_side:W.findIn K (.ref cC) "open_side"=some none)
  (nC_inside:W.findIn K (.ref cC) "inside"=some none)
  (ksV:W.KeysLit w.params esV.toList)
  (ksW:W.KeysLit w.params esW.toList)
  (oV:(dV == sysModules)=false)
  (oW:(dW == sysModules)=false)
  (v0:W.nsIn K dV "high"=some (some (.int 0 tv0)))
  (v1:W.nsIn K dV "low"=some (some (.int 1 tv1)))
  (v2:W.nsIn K dV "chamber"=some (some (.int 2 tv2)))
  (v3:W.nsIn K dV "basin"=some (some (.int 3 tv3)))
  (n0_:W.nsIn K dW "open high"=some (some (.ref tw0)))
  (lw0:K.lookup tw0=some ow0)
  (cw0:ow0.cls=.type "tuple")
  (dw0:ow0.data=.seq ([.str "open" ta0,.str "high" tb0]:List Value).toArray nw0)
  (n1_:W.nsIn K dW "open low"=some (some (.ref tw1)))
  (lw1:K.lookup tw1=some ow1)
  (cw1:ow1.cls=.type "tuple")
  (dw1:ow1.data=.seq ([.str "open" ta1,.str "low" tb1]:List Value).toArray nw1)
  (n2_:W.nsIn K dW "shut high"=some (some (.ref tw2)))
  (lw2:K.lookup tw2=some ow2)
  (cw2:ow2.cls=.type "tuple")
  (dw2:ow2.data=.seq ([.str "shut" ta2,.str "high" tb2]:List Value).toArray nw2)
  (n3_:W.nsIn K dW "shut low"=some (some (.ref tw3)))
  (lw3:K.lookup tw3=some ow3)
  (cw3:ow3.cls=.type "tuple")
  (dw3:ow3.data=.seq ([.str "shut" ta3,.str "low" tb3]:List Value).toArray nw3)
  (n4_:W.nsIn K dW "fill"=some (some (.ref tw4)))
  (lw4:K.lookup tw4=some ow4)
  (cw4:ow4.cls=.type "tuple")
  (dw4:ow4.data=.seq ([.str "fill" ta4,.str "" tb4]:List Value).toArray nw4)
  (n5_:W.nsIn K dW "let"=some (some (.ref tw5)))
  (lw5:K.lookup tw5=some ow5)
  (cw5:ow5.cls=.type "tuple")
  (dw5:ow5.data=.seq ([.str "let" ta5,.str "" tb5]:List Value).toArray nw5)
  (n6_:W.nsIn K dW "in high"=some (some (.ref tw6)))
  (lw6:K.lookup tw6=some ow6)
  (cw6:ow6.cls=.type "tuple")
  (dw6:ow6.data=.seq ([.str "in" ta6,.str "high" tb6]:List Value).toArray nw6)
  (n7_:W.nsIn K dW "in low"=some (some (.ref tw7)))
  (lw7:K.lookup tw7=some ow7)
  (cw7:ow7.cls=.type "tuple")
  (dw7:ow7.data=.seq ([.str "in" ta7,.str "low" tb7]:List Value).toArray nw7)
  (n8_:W.nsIn K dW "out high"=some (some (.ref tw8)))
  (lw8:K.lookup tw8=some ow8)
  (cw8:ow8.cls=.type "tuple")
  (dw8:ow8.data=.seq ([.str "out" ta8,.str "high" tb8]:List Value).toArray nw8)
  (n9_:W.nsIn K dW "out low"=some (some (.ref tw9)))
  (lw9:K.lookup tw9=some ow9)
  (cw9:ow9.cls=.type "tuple")
  (dw9:ow9.data=.seq ([.str "out" ta9,.str "low" tb9]:List Value).toArray nw9)
  (agU:W.nsIn K mainGlobals "UP"=some (some (.ref aU)))
  (agD:W.nsIn K mainGlobals "DOWN"=some (some (.ref aD)))
  (lU:K.lookup aU=some oU)
  (lD:K.lookup aD=some oD)
  (cU_:oU.cls=.type "tuple")
  (cD_:oD.cls=.type "tuple")
  (dU:oU.data=.seq ([.str "open low" tu0,.str "in low" tu1,.str "shut low" tu2,.str "fill" tu3,.str "open high" tu4,.str "out high" tu5,.str "shut high" tu6]:List Value).toArray nU)
  (dD:oD.data=.seq ([.str "open high" td0,.str "in high" td1,.str "shut high" td2,.str "let" td3,.str "open low" td4,.str "out low" td5,.str "shut low" td6]:List Value).toArray nD) :
  ∃fd:FuncData,(∀(s:Shared) (v:Value),BindsTo s fd ⟨[v],[]⟩ [("script",v)])∧∀base:Heap,K.In base→base.Ns mainGlobals mg→FnOk l.prog w K mg base jW 14 fa fd ["script"] (iP K):=by
 have e:=hfa.symm.trans (W.mg_of X G a82)
 cases e
 have F0:=jX (st:=cH) l0 c0 k0
 have b0:=F0.binds (ps:=["waters","pours"]) fun _ _ _ _ _ _ us hl=>match us,hl with|[_,_],_=>rfl
 have F1:=jX (st:=bZ) l1 c1 k1
 have b1:=F1.binds (ps:=["weirs","waters","at"]) fun _ _ _ _ _ _ us hl=>match us,hl with|[_,_,_],_=>rfl
 have F2:=jX (st:=bV) l2 c2 k2
 have b2:=F2.binds (ps:=["weirs"]) fun _ _ _ _ _ _ us hl=>match us,hl with|[_],_=>rfl
 have F3:=jX (st:=cL) l3 c3 k3
 have b3:=F3.binds (ps:=["weirs","waters"]) fun _ _ _ _ _ _ us hl=>match us,hl with|[_,_],_=>rfl
 have F4:=jX (st:=QS) l4 c4 k4
 have b4:=F4.binds (ps:=["weirs","waters"]) fun _ _ _ _ _ _ us hl=>match us,hl with|[_,_],_=>rfl
 have F5:=jX (st:=cW) l5 c5 k5
 have b5:=F5.binds (ps:=["weirs","waters","pours"]) fun _ _ _ _ _ _ us hl=>match us,hl with|[_,_,_],_=>rfl
 have F6:=jX (st:=QR) l6 c6 k6
 have b6:=F6.binds (ps:=["parts"]) fun _ _ _ _ _ _ us hl=>match us,hl with|[_],_=>rfl
 have F7:=jX (st:=Z7) l7 c7 k7
 have b7:=F7.binds (ps:=["self","name","high","low","room"]) fun _ _ _ _ _ _ us hl=>match us,hl with|[_,_,_,_,_],_=>rfl
 have F8:=jX (st:=ZJ) l8 c8 k8
 have b8:=F8.binds (ps:=["self","name","high","low","room","side"]) fun _ _ _ _ _ _ us hl=>match us,hl with|[_,_,_,_,_,_],_=>rfl
 have F9:=jX (st:=bC) l9 c9 k9
 have b9:=F9.binds (ps:=["self","name","high","low","room","lift"]) fun _ _ _ _ _ _ us hl=>match us,hl with|[_,_,_,_,_,_],_=>rfl
 have F10:=jX (st:=bG) l10 c10 k10
 have b10:=F10.binds (ps:=["self","name","least","crest","berths","water","target"]) fun _ _ _ _ _ _ us hl=>match us,hl with|[_,_,_,_,_,_,_],_=>rfl
 have F11:=jX (st:=bA) l11 c11 k11
 have b11:=F11.binds (ps:=["self"]) fun _ _ _ _ _ _ us hl=>match us,hl with|[_],_=>rfl
 have F12:=jX (st:=ZM) l12 c12 k12
 have b12:=F12.binds (ps:=["self"]) fun _ _ _ _ _ _ us hl=>match us,hl with|[_],_=>rfl
 have F13:=jX (st:=bF) l13 c13 k13
 have b13:=F13.binds (ps:=["self"]) fun _ _ _ _ _ _ us hl=>match us,hl with|[_],_=>rfl
 have F14:=jX (st:=Z8) l14 c14 k14
 have b14:=F14.binds (ps:=["self"]) fun _ _ _ _ _ _ us hl=>match us,hl with|[_],_=>rfl
 have F15:=jX (st:=ZK) l15 c15 k15
 have b15:=F15.binds (ps:=["self"]) fun _ _ _ _ _ _ us hl=>match us,hl with|[_],_=>rfl
 have F16:=jX (st:=bD) l16 c16 k16
 have b16:=F16.binds (ps:=["self"]) fun _ _ _ _ _ _ us hl=>match us,hl with|[_],_=>rfl
 have F17:=jX (st:=Z9) l17 c17 k17
 have b17:=F17.binds (ps:=["self","basin"]) fun _ _ _ _ _ _ us hl=>match us,hl with|[_,_],_=>rfl
 have F18:=jX (st:=ZL) l18 c18 k18
 have b18:=F18.binds (ps:=["self","basin"]) fun _ _ _ _ _ _ us hl=>match us,hl with|[_,_],_=>rfl
 have F19:=jX (st:=bE) l19 c19 k19
 have b19:=F19.binds (ps:=["self","basin"]) fun _ _ _ _ _ _ us hl=>match us,hl with|[_,_],_=>rfl
 have F20:=jX (st:=bB) l20 c20 k20
 have b20:=F20.binds (ps:=["self","basin"]) fun _ _ _ _ _ _ us hl=>match us,hl with|[_,_],_=>rfl
 have F21:=jX (st:=ZN) l21 c21 k21
 have b21:=F21.binds (ps:=["self","basin"]) fun _ _ _ _ _ _ us hl=>match us,hl with|[_,_],_=>rfl
 have F22:=IH (st:=QG) (ds:=[.none]) (n:=dn0) l22 c22 k22 lT22 (by first|exact dT22|rfl)
 have b22:Binds K _ ["self","reaches","locks","nights"] []:=F22.binds [] 4 rfl fun _ _ _ _ _ _ _ us hl=>match us,hl with|[_,_,_,_],_=>⟨_,rfl,rfl⟩
 have b22_1:Binds K _ ["self","reaches","locks","nights"] [.none]:=F22.binds [.none] 3 rfl fun _ _ _ _ _ _ _ us hl=>match us,hl with|[_,_,_],_=>⟨_,rfl,rfl⟩
 have F23:=jX (st:=ZR) l23 c23 k23
 have b23:=F23.binds (ps:=["self"]) fun _ _ _ _ _ _ us hl=>match us,hl with|[_],_=>rfl
 have F24:=jX (st:=ZS) l24 c24 k24
 have b24:=F24.binds (ps:=["self"]) fun _ _ _ _ _ _ us hl=>match us,hl with|[_],_=>rfl
 have F25:=jX (st:=ZP) l25 c25 k25
 have b25:=F25.binds (ps:=["self","k"]) fun _ _ _ _ _ _ us hl=>match us,hl with|[_,_],_=>rfl
 have F26:=jX (st:=ZO) l26 c26 k26
 have b26:=F26.binds (ps:=["self","k"]) fun _ _ _ _ _ _ us hl=>match us,hl with|[_,_],_=>rfl
 have F27:=jX (st:=QH) l27 c27 k27
 have b27:=F27.binds (ps:=["self"]) fun _ _ _ _ _ _ us hl=>match us,hl with|[_],_=>rfl
 have F28:=jX (st:=ZQ) l28 c28 k28
 have b28:=F28.binds (ps:=["self","waters","k"]) fun _ _ _ _ _ _ us hl=>match us,hl with|[_,_,_],_=>rfl
 have F29:=jX (st:=QM) l29 c29 k29
 have b29:=F29.binds (ps:=["lock","basin"]) fun _ _ _ _ _ _ us hl=>match us,hl with|[_,_],_=>rfl
 have F30:=jX (st:=QO) l30 c30 k30
 have b30:=F30.binds (ps:=["lock","basin"]) fun _ _ _ _ _ _ us hl=>match us,hl with|[_,_],_=>rfl
 have F31:=jX (st:=QN) l31 c31 k31
 have b31:=F31.binds (ps:=["vessel","pours"]) fun _ _ _ _ _ _ us hl=>match us,hl with|[_,_],_=>rfl
 have F32:=jX (st:=QK) l32 c32 k32
 have b32:=F32.binds (ps:=["basin","pours"]) fun _ _ _ _ _ _ us hl=>match us,hl with|[_,_],_=>rfl
 have F33:=jX (st:=cE) l33 c33 k33
 have b33:=F33.binds (ps:=["lock","full","basin","way"]) fun _ _ _ _ _ _ us hl=>match us,hl with|[_,_,_,_],_=>rfl
 have F34:=jX (st:=ZT) l34 c34 k34
 have b34:=F34.binds (ps:=["self","lock","waters","least"]) fun _ _ _ _ _ _ us hl=>match us,hl with|[_,_,_,_],_=>rfl
 have F35:=jX (st:=Z6) l35 c35 k35
 have b35:=F35.binds (ps:=["self"]) fun _ _ _ _ _ _ us hl=>match us,hl with|[_],_=>rfl
 have F36:=jX (st:=ZZ) l36 c36 k36
 have b36:=F36.binds (ps:=["self"]) fun _ _ _ _ _ _ us hl=>match us,hl with|[_],_=>rfl
 have F37:=jX (st:=ZU) l37 c37 k37
 have b37:=F37.binds (ps:=["self"]) fun _ _ _ _ _ _ us hl=>match us,hl with|[_],_=>rfl
 have F38:=jX (st:=Z5) l38 c38 k38
 have b38:=F38.binds (ps:=["self","side"]) fun _ _ _ _ _ _ us hl=>match us,hl with|[_,_],_=>rfl
 have F39:=jX (st:=QI) l39 c39 k39
 have b39:=F39.binds (ps:=["self","pours"]) fun _ _ _ _ _ _ us hl=>match us,hl with|[_,_],_=>rfl
 have F40:=jX (st:=Z2) l40 c40 k40
 have b40:=F40.binds (ps:=["self"]) fun _ _ _ _ _ _ us hl=>match us,hl with|[_],_=>rfl
 have F41:=jX (st:=Z3) l41 c41 k41
 have b41:=F41.binds (ps:=["self","side"]) fun _ _ _ _ _ _ us hl=>match us,hl with|[_,_],_=>rfl
 have F42:=jX (st:=Z1) l42 c42 k42
 have b42:=F42.binds (ps:=["self","side"]) fun _ _ _ _ _ _ us hl=>match us,hl with|[_,_],_=>rfl
 have F43:=jX (st:=Z4) l43 c43 k43
 have b43:=F43.binds (ps:=["self","side"]) fun _ _ _ _ _ _ us hl=>match us,hl with|[_,_],_=>rfl
 have F44:=jX (st:=ZY) l44 c44 k44
 have b44:=F44.binds (ps:=["self"]) fun _ _ _ _ _ _ us hl=>match us,hl with|[_],_=>rfl
 have F45:=jX (st:=Z0) l45 c45 k45
 have b45:=F45.binds (ps:=["self"]) fun _ _ _ _ _ _ us hl=>match us,hl with|[_],_=>rfl
 have F46:=jX (st:=ZV) l46 c46 k46
 have b46:=F46.binds (ps:=["self","side"]) fun _ _ _ _ _ _ us hl=>match us,hl with|[_,_],_=>rfl
 have F47:=jX (st:=ZW) l47 c47 k47
 have b47:=F47.binds (ps:=["self","side"]) fun _ _ _ _ _ _ us hl=>match us,hl with|[_,_],_=>rfl
 have F48:=jX (st:=ZX) l48 c48 k48
 have b48:=F48.binds (ps:=["self","word"]) fun _ _ _ _ _ _ us hl=>match us,hl with|[_,_],_=>rfl
 have F49:=jX (st:=cX) l49 c49 k49
 have b49:=F49.binds (ps:=["chamber","words"]) fun _ _ _ _ _ _ us hl=>match us,hl with|[_,_],_=>rfl
 have F50:=jX (st:=cG) l50 c50 k50
 have b50:=F50.binds (ps:=["full","way"]) fun _ _ _ _ _ _ us hl=>match us,hl with|[_,_],_=>rfl
 have F51:=jX (st:=cM) l51 c51 k51
 have b51:=F51.binds (ps:=["lock","side"]) fun _ _ _ _ _ _ us hl=>match us,hl with|[_,_],_=>rfl
 have F52:=jX (st:=bX) l52 c52 k52
 have b52:=F52.binds (ps:=["canal","start","steps"]) fun _ _ _ _ _ _ us hl=>match us,hl with|[_,_,_],_=>rfl
 have F53:=jX (st:=cQ) l53 c53 k53
 have b53:=F53.binds (ps:=["way","place"]) fun _ _ _ _ _ _ us hl=>match us,hl with|[_,_],_=>rfl
 have F54:=jX (st:=cJ) l54 c54 k54
 have b54:=F54.binds (ps:=["canal","way","place"]) fun _ _ _ _ _ _ us hl=>match us,hl with|[_,_,_],_=>rfl
 have F55:=jX (st:=QP) l55 c55 k55
 have b55:=F55.binds (ps:=["canal","ways","state","reach"]) fun _ _ _ _ _ _ us hl=>match us,hl with|[_,_,_,_],_=>rfl
 have F56:=jX (st:=JB) l56 c56 k56
 have b56:=F56.binds (ps:=["canal","state","weather"]) fun _ _ _ _ _ _ us hl=>match us,hl with|[_,_,_],_=>rfl
 have F57:=jX (st:=bT) l57 c57 k57
 have b57:=F57.binds (ps:=["canal","ways","state","reach"]) fun _ _ _ _ _ _ us hl=>match us,hl with|[_,_,_,_],_=>rfl
 have F58:=jX (st:=bY) l58 c58 k58
 have b58:=F58.binds (ps:=["way","place"]) fun _ _ _ _ _ _ us hl=>match us,hl with|[_,_],_=>rfl
 have F59:=jX (st:=QQ) l59 c59 k59
 have b59:=F59.binds (ps:=["places","boat"]) fun _ _ _ _ _ _ us hl=>match us,hl with|[_,_],_=>rfl
 have F60:=jX (st:=bR) l60 c60 k60
 have b60:=F60.binds (ps:=["state","deed","waters"]) fun _ _ _ _ _ _ us hl=>match us,hl with|[_,_,_],_=>rfl
 have F61:=jX (st:=QL) l61 c61 k61
 have b61:=F61.binds (ps:=["canal","k","named"]) fun _ _ _ _ _ _ us hl=>match us,hl with|[_,_,_],_=>rfl
 have F62:=jX (st:=cD) l62 c62 k62
 have b62:=F62.binds (ps:=["canal","ways","state","boat"]) fun _ _ _ _ _ _ us hl=>match us,hl with|[_,_,_,_],_=>rfl
 have F63:=jX (st:=bW) l63 c63 k63
 have b63:=F63.binds (ps:=["canal","state","k"]) fun _ _ _ _ _ _ us hl=>match us,hl with|[_,_,_],_=>rfl
 have F64:=jX (st:=bU) l64 c64 k64
 have b64:=F64.binds (ps:=["canal","waters","vessel"]) fun _ _ _ _ _ _ us hl=>match us,hl with|[_,_,_],_=>rfl
 have F65:=jX (st:=bS) l65 c65 k65
 have b65:=F65.binds (ps:=["canal","waters","moved"]) fun _ _ _ _ _ _ us hl=>match us,hl with|[_,_,_],_=>rfl
 have F66:=jX (st:=cT) l66 c66 k66
 have b66:=F66.binds (ps:=["canal","ways","state","boat"]) fun _ _ _ _ _ _ us hl=>match us,hl with|[_,_,_,_],_=>rfl
 have F67:=jX (st:=cV) l67 c67 k67
 have b67:=F67.binds (ps:=["canal","ways","state","deed"]) fun _ _ _ _ _ _ us hl=>match us,hl with|[_,_,_,_],_=>rfl
 have F68:=jX (st:=cI) l68 c68 k68
 have b68:=F68.binds (ps:=["canal","ways","state","deed"]) fun _ _ _ _ _ _ us hl=>match us,hl with|[_,_,_,_],_=>rfl
 have F69:=jX (st:=bQ) l69 c69 k69
 have b69:=F69.binds (ps:=["canal","ways","state","deed"]) fun _ _ _ _ _ _ us hl=>match us,hl with|[_,_,_,_],_=>rfl
 have F70:=jX (st:=bI) l70 c70 k70
 have b70:=F70.binds (ps:=["script","k","many"]) fun _ _ _ _ _ _ us hl=>match us,hl with|[_,_,_],_=>rfl
 have F71:=jX (st:=bN) l71 c71 k71
 have b71:=F71.binds (ps:=["script"]) fun _ _ _ _ _ _ us hl=>match us,hl with|[_],_=>rfl
 have F72:=jX (st:=bL) l72 c72 k72
 have b72:=F72.binds (ps:=["script","k","unit"]) fun _ _ _ _ _ _ us hl=>match us,hl with|[_,_,_],_=>rfl
 have F73:=jX (st:=bJ) l73 c73 k73
 have b73:=F73.binds (ps:=["script","k","reaches","unit"]) fun _ _ _ _ _ _ us hl=>match us,hl with|[_,_,_,_],_=>rfl
 have F74:=jX (st:=bP) l74 c74 k74
 have b74:=F74.binds (ps:=["script","k","reaches","unit"]) fun _ _ _ _ _ _ us hl=>match us,hl with|[_,_,_,_],_=>rfl
 have F75:=jX (st:=JA) l75 c75 k75
 have b75:=F75.binds (ps:=["script","most_reaches","most_locks","most_nights"]) fun _ _ _ _ _ _ us hl=>match us,hl with|[_,_,_,_],_=>rfl
 have F76:=jX (st:=bM) l76 c76 k76
 have b76:=F76.binds (ps:=["canal","reach"]) fun _ _ _ _ _ _ us hl=>match us,hl with|[_,_],_=>rfl
 have F77:=jX (st:=bO) l77 c77 k77
 have b77:=F77.binds (ps:=["script","k","canal","most"]) fun _ _ _ _ _ _ us hl=>match us,hl with|[_,_,_,_],_=>rfl
 have F78:=jX (st:=JN) l78 c78 k78
 have b78:=F78.binds (ps:=["script","canal","ways"]) fun _ _ _ _ _ _ us hl=>match us,hl with|[_,_,_],_=>rfl
 have F79:=jX (st:=bH) l79 c79 k79
 have b79:=F79.binds (ps:=["machine","words"]) fun _ _ _ _ _ _ us hl=>match us,hl with|[_,_],_=>rfl
 have F80:=jX (st:=bK) l80 c80 k80
 have b80:=F80.binds (ps:=["canal","ways","state","boat","places","four"]) fun _ _ _ _ _ _ us hl=>match us,hl with|[_,_,_,_,_,_],_=>rfl
 have F81:=jX (st:=QJ) l81 c81 k81
 have b81:=F81.binds (ps:=["canal","ways","state","boat","word"]) fun _ _ _ _ _ _ us hl=>match us,hl with|[_,_,_,_,_],_=>rfl
 have F82:=jX (st:=zU) l82 c82 k82
 have b82:=F82.binds (ps:=["script"]) fun _ _ _ _ _ _ us hl=>match us,hl with|[_],_=>rfl
 have T:Txt K mg cP cB cU cR cN tkS eA eW eS eF eO eK eL tkH w cC dV dW aU aD:={z_list:=W.mg_none_of X G z_list,z_tuple:=W.mg_none_of X G z_tuple,z_max:=W.mg_none_of X G z_max,z_range:=W.mg_none_of X G z_range,z_len:=W.mg_none_of X G z_len,z_sum:=W.mg_none_of X G z_sum,z_zip:=W.mg_none_of X G z_zip,z_enumerate:=W.mg_none_of X G z_enumerate,z_min:=W.mg_none_of X G z_min,z_int:=W.mg_none_of X G z_int,cl:=fun kd=>match kd with|.plain=>⟨pg_P,hdd_P,po_P,sa_P⟩|.basin=>⟨pg_B,hdd_B,po_B,sa_B⟩|.pump=>⟨pg_U,hdd_U,po_U,sa_U⟩,n_name:=fun kd=>match kd with|.plain=>n_name_P|.basin=>n_name_B|.pump=>n_name_U,n_high:=fun kd=>match kd with|.plain=>n_high_P|.basin=>n_high_B|.pump=>n_high_U,n_low:=fun kd=>match kd with|.plain=>n_low_P|.basin=>n_low_B|.pump=>n_low_U,n_room:=fun kd=>match kd with|.plain=>n_room_P|.basin=>n_room_B|.pump=>n_room_U,n_side:=n_side_B,n_lift:=n_lift_U,c_PlainLock:=W.mg_of X G aC_P,c_BasinLock:=W.mg_of X G aC_B,c_PumpLock:=W.mg_of X G aC_U,clR:=⟨pg_R,hdd_R,po_R,sa_R⟩,nR_name:=nR_name,nR_least:=nR_least,nR_crest:=nR_crest,nR_berths:=nR_berths,nR_water:=nR_water,nR_target:=nR_target,c_Reach:=W.mg_of X G aC_R,clN:=⟨pg_N,hdd_N,po_N,sa_N⟩,nN_reaches:=nN_reaches,nN_locks:=nN_locks,nN_nights:=nN_nights,c_Canal:=W.mg_of X G aC_N,g_SEA:=W.mg_of X G gSEA,c_Against:=W.mg_of X G aX_Against,c_NotNow:=W.mg_of X G aX_NotNow,c_Short:=W.mg_of X G aX_Short,c_Full:=W.mg_of X G aX_Full,c_NoBoat:=W.mg_of X G aX_NoBoat,c_Unknown:=W.mg_of X G aX_Unknown,c_NotLinked:=W.mg_of X G aX_NotLinked,x_Against:=xX_Against,x_NotNow:=xX_NotNow,x_Short:=xX_Short,x_Full:=xX_Full,x_NoBoat:=xX_NoBoat,x_Unknown:=xX_Unknown,x_NotLinked:=xX_NotLinked,g_HOME:=W.mg_of X G gHOME,clC:=⟨pg_C,hdd_C,po_C,sa_C⟩,nC_lock:=nC_lock,nC_held:=nC_held,nC_least:=nC_least,nC_open_side:=nC_open_side,nC_inside:=nC_inside,c_Chamber:=W.mg_of X G aC_C,g_VESSELS:=W.mg_of X G aV,g_WORDS:=W.mg_of X G aW,topV:=⟨_,_,lV,ksV,oV⟩,topW:=⟨_,_,lW,ksW,oW⟩,v_at:=HJ v0 v1 v2 v3,w_at:=fun W hW=>match W,hW with|.opn true,_=>⟨_,n0_,fun H=>zC (its:=[.str "open" ta0,.str "high" tb0]) lw0 cw0 dw0 zz2 (.cons ⟨_,rfl⟩ (.cons ⟨_,rfl⟩ .nil))⟩|.opn false,_=>⟨_,n1_,fun H=>zC (its:=[.str "open" ta1,.str "low" tb1]) lw1 cw1 dw1 zz2 (.cons ⟨_,rfl⟩ (.cons ⟨_,rfl⟩ .nil))⟩|.sht true,_=>⟨_,n2_,fun H=>zC (its:=[.str "shut" ta2,.str "high" tb2]) lw2 cw2 dw2 zz2 (.cons ⟨_,rfl⟩ (.cons ⟨_,rfl⟩ .nil))⟩|.sht false,_=>⟨_,n3_,fun H=>zC (its:=[.str "shut" ta3,.str "low" tb3]) lw3 cw3 dw3 zz2 (.cons ⟨_,rfl⟩ (.cons ⟨_,rfl⟩ .nil))⟩|.fil,_=>⟨_,n4_,fun H=>zC (its:=[.str "fill" ta4,.str "" tb4]) lw4 cw4 dw4 zz2 (.cons ⟨_,rfl⟩ (.cons ⟨_,rfl⟩ .nil))⟩|.lt,_=>⟨_,n5_,fun H=>zC (its:=[.str "let" ta5,.str "" tb5]) lw5 cw5 dw5 zz2 (.cons ⟨_,rfl⟩ (.cons ⟨_,rfl⟩ .nil))⟩|.bin true,_=>⟨_,n6_,fun H=>zC (its:=[.str "in" ta6,.str "high" tb6]) lw6 cw6 dw6 zz2 (.cons ⟨_,rfl⟩ (.cons ⟨_,rfl⟩ .nil))⟩|.bin false,_=>⟨_,n7_,fun H=>zC (its:=[.str "in" ta7,.str "low" tb7]) lw7 cw7 dw7 zz2 (.cons ⟨_,rfl⟩ (.cons ⟨_,rfl⟩ .nil))⟩|.bout true,_=>⟨_,n8_,fun H=>zC (its:=[.str "out" ta8,.str "high" tb8]) lw8 cw8 dw8 zz2 (.cons ⟨_,rfl⟩ (.cons ⟨_,rfl⟩ .nil))⟩|.bout false,_=>⟨_,n9_,fun H=>zC (its:=[.str "out" ta9,.str "low" tb9]) lw9 cw9 dw9 zz2 (.cons ⟨_,rfl⟩ (.cons ⟨_,rfl⟩ .nil))⟩|.odd z,h=>absurd rfl (h z),zF:=⟨_,v0⟩,yX:=⟨_,v1⟩,v_chamber:=⟨_,v2⟩,v_basin:=⟨_,v3⟩,g_UP:=W.mg_of X G agU,g_DOWN:=W.mg_of X G agD,up:=fun H=>zC (its:=[.str "open low" tu0,.str "in low" tu1,.str "shut low" tu2,.str "fill" tu3,.str "open high" tu4,.str "out high" tu5,.str "shut high" tu6]) lU cU_ dU zz7 (.cons ⟨_,rfl⟩ (.cons ⟨_,rfl⟩ (.cons ⟨_,rfl⟩ (.cons ⟨_,rfl⟩ (.cons ⟨_,rfl⟩ (.cons ⟨_,rfl⟩ (.cons ⟨_,rfl⟩ .nil))))))),down:=fun H=>zC (its:=[.str "open high" td0,.str "in high" td1,.str "shut high" td2,.str "let" td3,.str "open low" td4,.str "out low" td5,.str "shut low" td6]) lD cD_ dD zz7 (.cons ⟨_,rfl⟩ (.cons ⟨_,rfl⟩ (.cons ⟨_,rfl⟩ (.cons ⟨_,rfl⟩ (.cons ⟨_,rfl⟩ (.cons ⟨_,rfl⟩ (.cons ⟨_,rfl⟩ .nil)))))))}
 refine ⟨W.fnOf "law" "law" (jP zU) (jO zU) (jE zU) .none kV82 dc82 pm82 an82 cd82 ct82,fun s v=>.of_eq rfl,fun base _ _=>?_⟩
 have D0:Def l.prog w K mg base 1 "poured_all" _ [] _:=⟨_,_,[],BP F0 T,W.mg_of X G a0,k0,.nil,b0⟩
 have D1:Def l.prog w K mg base 1 "over" _ [] _:=⟨_,_,[],BK F1 T,W.mg_of X G a1,k1,.nil,b1⟩
 have D2:Def l.prog w K mg base 1 "last_first" _ [] _:=⟨_,_,[],BB F2 T,W.mg_of X G a2,k2,.nil,b2⟩
 have D3:Def l.prog w K mg base 2 "spills" _ [] _:=⟨_,_,[],BT F3 T D2 D1,W.mg_of X G a3,k3,.nil,b3⟩
 have D4:Def l.prog w K mg base 3 "spill_pours" _ [] _:=⟨_,_,[],BS F4 T D3 D2,W.mg_of X G a4,k4,.nil,b4⟩
 have D5:Def l.prog w K mg base 4 "with_spills" _ [] _:=⟨_,_,[],BY F5 T D4 D0,W.mg_of X G a5,k5,.nil,b5⟩
 have D6:Def l.prog w K mg base 1 "parts_not_nought" _ [] _:=⟨_,_,[],BL F6 T,W.mg_of X G a6,k6,.nil,b6⟩
 have G7:=AD (P:=l.prog) (w:=w) (base:=base) F7 T
 have MK_PlainLock:MkD l.prog w K mg base 1 "PlainLock" cP ["self","name","high","low","room"] (dO (jD cP cB cU)):=⟨T.c_PlainLock,_,_,⟨mk_P,a7,i7,kc_P⟩,G7,b7⟩
 have CM7:CmD l.prog w K mg base 1 "PlainLock" cP "__init__" ["self","name","high","low","room"] (dO (jD cP cB cU)):=⟨T.c_PlainLock,_,_,⟨g1,g2,ac7,k7⟩,G7,b7⟩
 have G8:=xG (P:=l.prog) (w:=w) (base:=base) F8 T CM7
 have MK_BasinLock:MkD l.prog w K mg base 2 "BasinLock" cB ["self","name","high","low","room","side"] (dN (jD cP cB cU) .basin):=⟨T.c_BasinLock,_,_,⟨mk_B,a8,i8,kc_B⟩,G8,b8⟩
 have G9:=AI (P:=l.prog) (w:=w) (base:=base) F9 T CM7
 have MK_PumpLock:MkD l.prog w K mg base 2 "PumpLock" cU ["self","name","high","low","room","lift"] (dN (jD cP cB cU) .pump):=⟨T.c_PumpLock,_,_,⟨mk_U,a9,i9,kc_U⟩,G9,b9⟩
 have G10:=AM (P:=l.prog) (w:=w) (base:=base) F10 T
 have MK_Reach:MkD l.prog w K mg base 1 "Reach" cR ["self","name","least","crest","berths","water","target"] (lX cR):=⟨T.c_Reach,_,_,⟨mk_R,a10,i10,kc_R⟩,G10,b10⟩
 have G11:=AG (P:=l.prog) (w:=w) (base:=base) F11 T
 have ME_kind_P:MeD l.prog w K mg base 1 cP "kind" ["self"] (vZ (jD cP cB cU) (fun kd _=>V.str (match kd with|.plain=>"plain"|.basin=>"basin"|.pump=>"pump")) .plain):=⟨T.cl .plain,_,_,⟨a11,i11,k11⟩,G11,b11⟩
 have G12:=xJ (P:=l.prog) (w:=w) (base:=base) F12 T
 have ME_kind_B:MeD l.prog w K mg base 1 cB "kind" ["self"] (vZ (jD cP cB cU) (fun kd _=>V.str (match kd with|.plain=>"plain"|.basin=>"basin"|.pump=>"pump")) .basin):=⟨T.cl .basin,_,_,⟨a12,i12,k12⟩,G12,b12⟩
 have G13:=AL (P:=l.prog) (w:=w) (base:=base) F13 T
 have ME_kind_U:MeD l.prog w K mg base 1 cU "kind" ["self"] (vZ (jD cP cB cU) (fun kd _=>V.str (match kd with|.plain=>"plain"|.basin=>"basin"|.pump=>"pump")) .pump):=⟨T.cl .pump,_,_,⟨a13,i13,k13⟩,G13,b13⟩
 have MP_kind:MeK l.prog w K mg base 1 (jD cP cB cU) "kind" ["self"] (vZ (jD cP cB cU) (fun kd _=>V.str (match kd with|.plain=>"plain"|.basin=>"basin"|.pump=>"pump"))):=⟨fun kd=>match kd with|.plain=>ME_kind_P|.basin=>ME_kind_B|.pump=>ME_kind_U⟩
 have G14:=AE (P:=l.prog) (w:=w) (base:=base) F14 T
 have ME_extra_P:MeD l.prog w K mg base 1 cP "extra" ["self"] (vZ (jD cP cB cU) (fun kd v=>V.int (match kd with|.plain=>0|.basin=>v|.pump=>v)) .plain):=⟨T.cl .plain,_,_,⟨a14,i14,k14⟩,G14,b14⟩
 have G15:=xH (P:=l.prog) (w:=w) (base:=base) F15 T
 have ME_extra_B:MeD l.prog w K mg base 1 cB "extra" ["self"] (vZ (jD cP cB cU) (fun kd v=>V.int (match kd with|.plain=>0|.basin=>v|.pump=>v)) .basin):=⟨T.cl .basin,_,_,⟨a15,i15,k15⟩,G15,b15⟩
 have G16:=AJ (P:=l.prog) (w:=w) (base:=base) F16 T
 have ME_extra_U:MeD l.prog w K mg base 1 cU "extra" ["self"] (vZ (jD cP cB cU) (fun kd v=>V.int (match kd with|.plain=>0|.basin=>v|.pump=>v)) .pump):=⟨T.cl .pump,_,_,⟨a16,i16,k16⟩,G16,b16⟩
 have MP_extra:MeK l.prog w K mg base 1 (jD cP cB cU) "extra" ["self"] (vZ (jD cP cB cU) (fun kd v=>V.int (match kd with|.plain=>0|.basin=>v|.pump=>v))):=⟨fun kd=>match kd with|.plain=>ME_extra_P|.basin=>ME_extra_B|.pump=>ME_extra_U⟩
 have G17:=AF (P:=l.prog) (w:=w) (base:=base) F17 T D6
 have ME_fill_parts_P:MeD l.prog w K mg base 2 cP "fill_parts" ["self","basin"] (vY (jD cP cB cU) yG .plain):=⟨T.cl .plain,_,_,⟨a17,i17,k17⟩,G17,b17⟩
 have G18:=xI (P:=l.prog) (w:=w) (base:=base) F18 T D6
 have ME_fill_parts_B:MeD l.prog w K mg base 2 cB "fill_parts" ["self","basin"] (vY (jD cP cB cU) yG .basin):=⟨T.cl .basin,_,_,⟨a18,i18,k18⟩,G18,b18⟩
 have G19:=AK (P:=l.prog) (w:=w) (base:=base) F19 T D6
 have ME_fill_parts_U:MeD l.prog w K mg base 2 cU "fill_parts" ["self","basin"] (vY (jD cP cB cU) yG .pump):=⟨T.cl .pump,_,_,⟨a19,i19,k19⟩,G19,b19⟩
 have MP_fill_parts:MeK l.prog w K mg base 2 (jD cP cB cU) "fill_parts" ["self","basin"] (vY (jD cP cB cU) yG):=⟨fun kd=>match kd with|.plain=>ME_fill_parts_P|.basin=>ME_fill_parts_B|.pump=>ME_fill_parts_U⟩
 have G20:=AH (P:=l.prog) (w:=w) (base:=base) F20 T D6
 have ME_let_parts_P:MeD l.prog w K mg base 2 cP "let_parts" ["self","basin"] (vY (jD cP cB cU) yR .plain):=⟨T.cl .plain,_,_,⟨a20,i20,k20⟩,(G20.imp (sp':=vY (jD cP cB cU) yR .plain) (fun vs H Q E ⟨x,n,h,l,room,v,b,e,a,q⟩=>⟨.plain,x,n,h,l,room,v,b,e,a,q⟩)),b20⟩
 have ME_let_parts_U:MeD l.prog w K mg base 2 cU "let_parts" ["self","basin"] (vY (jD cP cB cU) yR .pump):=⟨T.cl .pump,_,_,⟨a20_U,i20,k20⟩,(G20.imp (sp':=vY (jD cP cB cU) yR .pump) (fun vs H Q E ⟨x,n,h,l,room,v,b,e,a,q⟩=>⟨.pump,x,n,h,l,room,v,b,e,a,q⟩)),b20⟩
 have G21:=xK (P:=l.prog) (w:=w) (base:=base) F21 T D6
 have ME_let_parts_B:MeD l.prog w K mg base 2 cB "let_parts" ["self","basin"] (vY (jD cP cB cU) yR .basin):=⟨T.cl .basin,_,_,⟨a21,i21,k21⟩,G21,b21⟩
 have MP_let_parts:MeK l.prog w K mg base 2 (jD cP cB cU) "let_parts" ["self","basin"] (vY (jD cP cB cU) yR):=⟨fun kd=>match kd with|.plain=>ME_let_parts_P|.basin=>ME_let_parts_B|.pump=>ME_let_parts_U⟩
 have G22:=xL (P:=l.prog) (w:=w) (base:=base) F22 T
 have MK_Canal:MkD l.prog w K mg base 1 "Canal" cN ["self","reaches","locks","nights"] (lY (jD cP cB cU) cR cN):=⟨T.c_Canal,_,_,⟨mk_N,a22,i22,kc_N⟩,G22,b22⟩
 have G23:=xP (P:=l.prog) (w:=w) (base:=base) F23 T
 have MN_sea:MeD l.prog w K mg base 1 cN "sea" ["self"] (ZB (jD cP cB cU) cR cN yO):=⟨T.clN,_,_,⟨a23,i23,k23⟩,G23,b23⟩
 have G24:=xQ (P:=l.prog) (w:=w) (base:=base) F24 T MN_sea
 have MN_sky:MeD l.prog w K mg base 2 cN "sky" ["self"] (ZB (jD cP cB cU) cR cN fY):=⟨T.clN,_,_,⟨a24,i24,k24⟩,G24,b24⟩
 have G25:=xN (P:=l.prog) (w:=w) (base:=base) F25 T
 have MN_chamber:MeD l.prog w K mg base 1 cN "chamber" ["self","k"] (zN (jD cP cB cU) cR cN vU):=⟨T.clN,_,_,⟨a25,i25,k25⟩,G25,b25⟩
 have G26:=xM (P:=l.prog) (w:=w) (base:=base) F26 T
 have MN_basin:MeD l.prog w K mg base 1 cN "basin" ["self","k"] (zN (jD cP cB cU) cR cN vE):=⟨T.clN,_,_,⟨a26,i26,k26⟩,G26,b26⟩
 have G27:=xR (P:=l.prog) (w:=w) (base:=base) F27 T MN_sea
 have MN_weirs:MeD l.prog w K mg base 2 cN "weirs" ["self"] (gY (jD cP cB cU) cR cN):=⟨T.clN,_,_,⟨a27,i27,k27⟩,G27,b27⟩
 have G28:=xO (P:=l.prog) (w:=w) (base:=base) F28 T MN_chamber
 have MN_full:MeD l.prog w K mg base 2 cN "full" ["self","waters","k"] (iF (jD cP cB cU) cR cN):=⟨T.clN,_,_,⟨a28,i28,k28⟩,G28,b28⟩
 have D29:Def l.prog w K mg base 3 "filling" _ [] _:=⟨_,_,[],A7 F29 T MP_fill_parts,W.mg_of X G a29,k29,.nil,b29⟩
 have D30:Def l.prog w K mg base 3 "letting" _ [] _:=⟨_,_,[],BE F30 T MP_let_parts,W.mg_of X G a30,k30,.nil,b30⟩
 have D31:Def l.prog w K mg base 1 "given_by" _ [] _:=⟨_,_,[],A8 F31 T,W.mg_of X G a31,k31,.nil,b31⟩
 have D32:Def l.prog w K mg base 2 "basin_after" _ [] _:=⟨_,_,[],A3 F32 T D31,W.mg_of X G a32,k32,.nil,b32⟩
 have D33:Def l.prog w K mg base 4 "passage" _ [] _:=⟨_,_,[],BN F33 T D30 D29 D32,W.mg_of X G a33,k33,.nil,b33⟩
 have G34:=xS (P:=l.prog) (w:=w) (base:=base) F34 T
 have MK_Chamber:MkD l.prog w K mg base 1 "Chamber" cC ["self","lock","waters","least"] (nL (jD cP cB cU) cC):=⟨T.c_Chamber,_,_,⟨mk_C,a34,i34,kc_C⟩,G34,b34⟩
 have G35:=AC (P:=l.prog) (w:=w) (base:=base) F35 T
 have MC_waters:MeD l.prog w K mg base 1 cC "waters" ["self"] (JI (jD cP cB cU) cC nE):=⟨T.clC,_,_,⟨a35,i35,k35⟩,G35,b35⟩
 have G36:=xZ (P:=l.prog) (w:=w) (base:=base) F36 T
 have MC_gates:MeD l.prog w K mg base 1 cC "gates" ["self"] (JI (jD cP cB cU) cC nR):=⟨T.clC,_,_,⟨a36,i36,k36⟩,G36,b36⟩
 have G37:=xU (P:=l.prog) (w:=w) (base:=base) F37 T
 have MC_boat:MeD l.prog w K mg base 1 cC "boat" ["self"] (JI (jD cP cB cU) cC oK):=⟨T.clC,_,_,⟨a37,i37,k37⟩,G37,b37⟩
 have G38:=AB (P:=l.prog) (w:=w) (base:=base) F38 T
 have MC_stands_at:MeD l.prog w K mg base 1 cC "stands_at" ["self","side"] (fI (jD cP cB cU) cC):=⟨T.clC,_,_,⟨a38,i38,k38⟩,G38,b38⟩
 have G39:=xT (P:=l.prog) (w:=w) (base:=base) F39 T D0
 have MC_after_pours:MeD l.prog w K mg base 2 cC "after_pours" ["self","pours"] (gZ (jD cP cB cU) cC K):=⟨T.clC,_,_,⟨a39,i39,k39⟩,G39,b39⟩
 have G40:=x8 (P:=l.prog) (w:=w) (base:=base) F40 T
 have GX40:=G40
 have MX_refuse_open_gate:MeX l.prog w K mg base 1 cC "refuse_open_gate" ["self"] (fF (jD cP cB cU) cC (kX eA eW eS eF eO eK)):=⟨T.clC,_,_,⟨a40,i40,k40⟩,GX40,b40⟩
 have G41:=x9 (P:=l.prog) (w:=w) (base:=base) F41 T
 have GX41:=G41
 have MX_refuse_shut_gate:MeX l.prog w K mg base 1 cC "refuse_shut_gate" ["self","side"] (fE (jD cP cB cU) cC (kX eA eW eS eF eO eK)):=⟨T.clC,_,_,⟨a41,i41,k41⟩,GX41,b41⟩
 have G42:=x6 (P:=l.prog) (w:=w) (base:=base) F42 T MX_refuse_open_gate MC_stands_at
 have GX42:=G42
 have MX_open_gate:MeX l.prog w K mg base 2 cC "open_gate" ["self","side"] (zD (jD cP cB cU) cC (kX eA eW eS eF eO eK) Wd.opn):=⟨T.clC,_,_,⟨a42,i42,k42⟩,GX42,b42⟩
 have G43:=AA (P:=l.prog) (w:=w) (base:=base) F43 T MX_refuse_shut_gate
 have GX43:=G43
 have MX_shut_gate:MeX l.prog w K mg base 2 cC "shut_gate" ["self","side"] (zD (jD cP cB cU) cC (kX eA eW eS eF eO eK) Wd.sht):=⟨T.clC,_,_,⟨a43,i43,k43⟩,GX43,b43⟩
 have G44:=xY (P:=l.prog) (w:=w) (base:=base) F44 T MX_refuse_open_gate MC_stands_at D29 MC_after_pours
 have GX44:=G44
 have MX_fill_chamber:MeX l.prog w K mg base 5 cC "fill_chamber" ["self"] (dI (jD cP cB cU) cC (kX eA eW eS eF eO eK) Wd.fil):=⟨T.clC,_,_,⟨a44,i44,k44⟩,GX44,b44⟩
 have G45:=x0 (P:=l.prog) (w:=w) (base:=base) F45 T MX_refuse_open_gate MC_stands_at MC_after_pours D30
 have GX45:=G45
 have MX_let_chamber:MeX l.prog w K mg base 5 cC "let_chamber" ["self"] (dI (jD cP cB cU) cC (kX eA eW eS eF eO eK) Wd.lt):=⟨T.clC,_,_,⟨a45,i45,k45⟩,GX45,b45⟩
 have G46:=xV (P:=l.prog) (w:=w) (base:=base) F46 T MX_refuse_shut_gate
 have GX46:=G46
 have MX_boat_in:MeX l.prog w K mg base 2 cC "boat_in" ["self","side"] (zD (jD cP cB cU) cC (kX eA eW eS eF eO eK) Wd.bin):=⟨T.clC,_,_,⟨a46,i46,k46⟩,GX46,b46⟩
 have G47:=xW (P:=l.prog) (w:=w) (base:=base) F47 T MX_refuse_shut_gate
 have GX47:=G47
 have MX_boat_out:MeX l.prog w K mg base 2 cC "boat_out" ["self","side"] (zD (jD cP cB cU) cC (kX eA eW eS eF eO eK) Wd.bout):=⟨T.clC,_,_,⟨a47,i47,k47⟩,GX47,b47⟩
 have G48:=xX (P:=l.prog) (w:=w) (base:=base) F48 T MX_open_gate MX_shut_gate MX_fill_chamber MX_let_chamber MX_boat_in MX_boat_out
 have GX48:=G48
 have MX_do:MeX l.prog w K mg base 6 cC "do" ["self","word"] (o0 (jD cP cB cU) cC (kX eA eW eS eF eO eK) K dW):=⟨T.clC,_,_,⟨a48,i48,k48⟩,GX48,b48⟩
 have G49:=BZ (P:=l.prog) (w:=w) (base:=base) F49 T MX_do
 have GX49:=G49
 have DX49:DefX l.prog w K mg base 7 "work" _ [] _:=⟨_,_,[],GX49,W.mg_of X G a49,k49,.nil,b49⟩
 have G49:=GX49.noX (sp':=tQ (jD cP cB cU) cC K dW qS) GG
 have D49:Def l.prog w K mg base 7 "work" _ [] _:=⟨_,_,[],G49,W.mg_of X G a49,k49,.nil,b49⟩
 have D50:Def l.prog w K mg base 1 "passing" _ [] _:=⟨_,_,[],BO F50 T,W.mg_of X G a50,k50,.nil,b50⟩
 have D51:Def l.prog w K mg base 1 "step_ends" _ [] _:=⟨_,_,[],BU F51 T,W.mg_of X G a51,k51,.nil,b51⟩
 have G52:=BF (P:=l.prog) (w:=w) (base:=base) F52 T D51
 have GX52:=G52
 have DX52:DefX l.prog w K mg base 2 "linked" _ [] _:=⟨_,_,[],GX52,W.mg_of X G a52,k52,.nil,b52⟩
 have G52:=GX52.noX (sp':=mL K (jD cP cB cU) cR cN) EQ
 have D52:Def l.prog w K mg base 2 "linked" _ [] _:=⟨_,_,[],G52,W.mg_of X G a52,k52,.nil,b52⟩
 have D53:Def l.prog w K mg base 1 "steps_to_do" _ [] _:=⟨_,_,[],BV F53 T,W.mg_of X G a53,k53,.nil,b53⟩
 have D54:Def l.prog w K mg base 3 "reach_of" _ [] _:=⟨_,_,[],BR F54 T D53 D52,W.mg_of X G a54,k54,.nil,b54⟩
 have D55:Def l.prog w K mg base 4 "lying" _ [] _:=⟨_,_,[],BG F55 T D54,W.mg_of X G a55,k55,.nil,b55⟩
 have D56:Def l.prog w K mg base 5 "night_pours" _ [] _:=⟨_,_,[],BI F56 T MN_sky D5 MN_weirs,W.mg_of X G a56,k56,.nil,b56⟩
 have D57:Def l.prog w K mg base 5 "has_no_berth" _ [] _:=⟨_,_,[],A9 F57 T D55,W.mg_of X G a57,k57,.nil,b57⟩
 have D58:Def l.prog w K mg base 1 "next_step" _ [] _:=⟨_,_,[],BH F58 T,W.mg_of X G a58,k58,.nil,b58⟩
 have D59:Def l.prog w K mg base 1 "one_step_on" _ [] _:=⟨_,_,[],BJ F59 T,W.mg_of X G a59,k59,.nil,b59⟩
 have D60:Def l.prog w K mg base 2 "counted_on" _ [] _:=⟨_,_,[],A5 F60 T D59,W.mg_of X G a60,k60,.nil,b60⟩
 have D61:Def l.prog w K mg base 2 "by_number" _ [] _:=⟨_,_,[],A4 F61 T MN_basin MN_chamber,W.mg_of X G a61,k61,.nil,b61⟩
 have D62:Def l.prog w K mg base 6 "pass_pours" _ [] _:=⟨_,_,[],BM F62 T D58 MN_basin D61 D33 MN_full,W.mg_of X G a62,k62,.nil,b62⟩
 have D63:Def l.prog w K mg base 4 "let_pours" _ [] _:=⟨_,_,[],BD F63 T D61 D30 MN_basin,W.mg_of X G a63,k63,.nil,b63⟩
 have D64:Def l.prog w K mg base 1 "is_below_least" _ [] _:=⟨_,_,[],BA F64 T,W.mg_of X G a64,k64,.nil,b64⟩
 have D65:Def l.prog w K mg base 2 "falls_short" _ [] _:=⟨_,_,[],A6 F65 T D0 D64,W.mg_of X G a65,k65,.nil,b65⟩
 have D66:Def l.prog w K mg base 7 "why_no_pass" _ [] _:=⟨_,_,[],BW F66 T D54 D57 D65 D62,W.mg_of X G a66,k66,.nil,b66⟩
 have D67:Def l.prog w K mg base 8 "why_not" _ [] _:=⟨_,_,[],BX F67 T D66 MN_full,W.mg_of X G a67,k67,.nil,b67⟩
 have G68:=BQ (P:=l.prog) (w:=w) (base:=base) F68 T D67 D56 D62 D63 D5 MN_weirs
 have GX68:=G68
 have DX68:DefX l.prog w K mg base 9 "pours" _ [] _:=⟨_,_,[],GX68,W.mg_of X G a68,k68,.nil,b68⟩
 have G68:=GX68.noX (sp':=mY (jD cP cB cU) cR cN) FD
 have D68:Def l.prog w K mg base 9 "pours" _ [] _:=⟨_,_,[],G68,W.mg_of X G a68,k68,.nil,b68⟩
 have G69:=A0 (P:=l.prog) (w:=w) (base:=base) F69 T D60 D0 DX68
 have GX69:=G69
 have DX69:DefX l.prog w K mg base 10 "after" _ [] _:=⟨_,_,[],GX69,W.mg_of X G a69,k69,.nil,b69⟩
 have G69:=GX69.noX (sp':=mM (jD cP cB cU) cR cN) GD
 have D69:Def l.prog w K mg base 10 "after" _ [] _:=⟨_,_,[],G69,W.mg_of X G a69,k69,.nil,b69⟩
 have D70:Def l.prog w K mg base 1 "_law_draw" _ [] _:=⟨_,_,[],AR F70 T,W.mg_of X G a70,k70,.nil,b70⟩
 have D71:Def l.prog w K mg base 1 "_law_unit" _ [] _:=⟨_,_,[],AX F71 T,W.mg_of X G a71,k71,.nil,b71⟩
 have D72:Def l.prog w K mg base 3 "_law_reach" _ [] _:=⟨_,_,[],AU F72 T D70 MK_Reach,W.mg_of X G a72,k72,.nil,b72⟩
 have D73:Def l.prog w K mg base 4 "_law_lock" _ [] _:=⟨_,_,[],AS F73 T D70 MK_BasinLock MK_PumpLock MK_PlainLock,W.mg_of X G a73,k73,.nil,b73⟩
 have D74:Def l.prog w K mg base 2 "_law_weather" _ [] _:=⟨_,_,[],AZ F74 T D70,W.mg_of X G a74,k74,.nil,b74⟩
 have D75:Def l.prog w K mg base 6 "_law_canal" _ [] _:=⟨_,_,[],AO F75 T D71 D70 D72 D73 D74 MK_Canal,W.mg_of X G a75,k75,.nil,b75⟩
 have D76:Def l.prog w K mg base 1 "_law_turns" _ [] _:=⟨_,_,[],AW F76 T,W.mg_of X G a76,k76,.nil,b76⟩
 have D77:Def l.prog w K mg base 2 "_law_way" _ [] _:=⟨_,_,[],AY F77 T D70 D76,W.mg_of X G a77,k77,.nil,b77⟩
 have D78:Def l.prog w K mg base 2 "_law_state" _ [] _:=⟨_,_,[],AV F78 T D71 D70 MP_extra MP_kind,W.mg_of X G a78,k78,.nil,b78⟩
 have D79:Def l.prog w K mg base 8 "_law_done" _ [] _:=⟨_,_,[],AQ F79 T DX49,W.mg_of X G a79,k79,.nil,b79⟩
 have D80:Def l.prog w K mg base 12 "_law_moved" _ [] _:=⟨_,_,[],AT F80 T D68,W.mg_of X G a80,k80,.nil,b80⟩
 have D81:Def l.prog w K mg base 13 "_law_alike" _ [] _:=⟨_,_,[],AN F81 T MN_basin MN_chamber MK_Chamber D79 D50 MC_boat MC_gates MC_waters D80 D69,W.mg_of X G a81,k81,.nil,b81⟩
 have G82:=BC (P:=l.prog) (w:=w) (base:=base) F82 T D75 D70 D77 D78 D67 D81
 exact G82
theorem walk {l:W.OpenLaw} {q:Program} {loose:List Str} {XP:(Str→Option Value)→Heap→Prop} {YP:World→Heap→Prop} {d:DefRec} {K:Params→W.Frag} (hn:l.most=some 63) (hdf:d.params.defaults=[])
  (hY:∀(w:World) (h:Heap),YP w h→(K w.params).In h)
  (F:∀(w:World) (mg:Str→Option Value) (fa:Addr) (h:Heap),(K w.params).In h→h.Ns mainGlobals mg→mg d.name=some (.ref fa)→
   ∃fd:FuncData,(∀(s:Shared) (u:Value),BindsTo s fd ⟨[u],[]⟩ [("script",u)])∧∀base:Heap,(K w.params).In base→base.Ns mainGlobals mg→FnOk l.prog w (K w.params) mg base jW 14 fa fd ["script"] (iP (K w.params))) :
  W.WalkO q loose XP YP l.row.toRowW d [] (fun f vs=>PySem.call f vs) :=
 L2.walk_of (n:=63) (k:=14) (x:="script") (CX:=fun _=>jW) (sp:=fun w=>iP (K w.params)) hn (by decide) hdf ⟨rfl,by decide,by decide⟩ hY F (fun _ _ a ns hl _ hS=>⟨a,ns,rfl,hS,hl,fun _=>rfl⟩) fun _ _ _ _ _ z=>z
end My
/- These names are taken here so that the head below leaves out its twins of whole states (they are not needed,and make the compiled file larger than a hand-in may be). -/
def PySem.W.Fast.tw4954132165896906523:Nat:=0
def PySem.W.Fast.tw17648070995301079317:Nat:=0
def PySem.W.Fast.tw14350797894147352868:Nat:=0
def PySem.W.Fast.tw7407653911273729381:Nat:=0
def PySem.W.Fast.tw4299988813159570272:Nat:=0
def PySem.W.Fast.tw3833404939533887049:Nat:=0
def PySem.W.Fast.tw14584612517559377839:Nat:=0
def PySem.W.Fast.tw1518395039910171256:Nat:=0
def PySem.W.Fast.tw9509549876291500897:Nat:=0
def PySem.W.Fast.tw12456862002127923031:Nat:=0
def PySem.W.Fast.tw1298115341458837904:Nat:=0
def PySem.W.Fast.tw8459594014430529360:Nat:=0
def PySem.W.Fast.tw4175942381710383279:Nat:=0
def PySem.W.Fast.tw13627576749286009676:Nat:=0
def PySem.W.Fast.tw9791566946040802678:Nat:=0
def PySem.W.Fast.tw14899231743723637028:Nat:=0
def PySem.W.Fast.tw2161320244237834117:Nat:=0
def PySem.W.Fast.tw10956938049953483003:Nat:=0
def PySem.W.Fast.tw9796146589053864615:Nat:=0
def PySem.W.Fast.tw16149453465644140844:Nat:=0
def PySem.W.Fast.tw1058226397053133060:Nat:=0
def PySem.W.Fast.tw11136578504693795792:Nat:=0
def PySem.W.Fast.tw18127022695567882562:Nat:=0
def PySem.W.Fast.tw6432692327871774194:Nat:=0
def PySem.W.Fast.tw7555637448413309170:Nat:=0
def PySem.W.Fast.tw2960289786016032705:Nat:=0
def PySem.W.Fast.tw11041866643711978169:Nat:=0
def PySem.W.Fast.tw17329804281510178941:Nat:=0
def PySem.W.Fast.tw9709243720092972729:Nat:=0
def PySem.W.Fast.tw8188119183770085407:Nat:=0
def PySem.W.Fast.tw2722518794635102704:Nat:=0
def PySem.W.Fast.tw16654393014372144425:Nat:=0
def PySem.W.Fast.tw9967361539303425850:Nat:=0
def PySem.W.Fast.tw16586804619962503337:Nat:=0
def PySem.W.Fast.tw2508814154205335347:Nat:=0
def PySem.W.Fast.tw13562408464948316144:Nat:=0
def PySem.W.Fast.tw16723279785513686436:Nat:=0
def PySem.W.Fast.tw8187944436920205539:Nat:=0
def PySem.W.Fast.tw4665544062577922812:Nat:=0
def PySem.W.Fast.tw4739488214066668564:Nat:=0
def PySem.W.Fast.tw5925448962122582423:Nat:=0
def PySem.W.Fast.tw1085240135147274874:Nat:=0
def PySem.W.Fast.tw9051723209745714341:Nat:=0
def PySem.W.Fast.tw2012759030601125769:Nat:=0
def PySem.W.Fast.tw6670531340984900056:Nat:=0
def PySem.W.Fast.tw7673405071083901148:Nat:=0
def PySem.W.Fast.tw2396261681724876136:Nat:=0
def PySem.W.Fast.tw16774343358253159001:Nat:=0
def PySem.W.Fast.tw17857253136239795727:Nat:=0
def PySem.W.Fast.tw7147138250653090017:Nat:=0
def PySem.W.Fast.tw5416174721426723110:Nat:=0
def PySem.W.Fast.tw4570879269607040514:Nat:=0
def PySem.W.Fast.tw729867288837127397:Nat:=0
def PySem.W.Fast.tw10181151821637666398:Nat:=0
def PySem.W.Fast.tw11874802341288700735:Nat:=0
def PySem.W.Fast.tw12088054859422774909:Nat:=0
def PySem.W.Fast.tw10151707611988686868:Nat:=0
def PySem.W.Fast.tw12846439917380682544:Nat:=0
def PySem.W.Fast.tw9656354019432026151:Nat:=0
def PySem.W.Fast.tw7331184716258087511:Nat:=0
def PySem.W.Fast.tw15551441687001462686:Nat:=0
def PySem.W.Fast.tw9644180823860143984:Nat:=0
def PySem.W.Fast.tw11587102079063213018:Nat:=0
def PySem.W.Fast.tw1068900252397891794:Nat:=0
def PySem.W.Fast.tw18133190675651975538:Nat:=0
def PySem.W.Fast.tw3919689060233687679:Nat:=0
def PySem.W.Fast.tw7558182376359151133:Nat:=0
def PySem.W.Fast.tw2655145234031970995:Nat:=0
def PySem.W.Fast.tw12988929476345000316:Nat:=0
def PySem.W.Fast.tw2436831845306590970:Nat:=0
def PySem.W.Fast.tw5208057030191995815:Nat:=0
def PySem.W.Fast.tw16015803873788574804:Nat:=0
def PySem.W.Fast.tw18206499013919185298:Nat:=0
def PySem.W.Fast.tw10079098392011834528:Nat:=0
def PySem.W.Fast.tw18369993077009376291:Nat:=0
def PySem.W.Fast.tw10315485695849238076:Nat:=0
def PySem.W.Fast.tw3964370179188205549:Nat:=0
def PySem.W.Fast.tw10887393329248255672:Nat:=0
def PySem.W.Fast.tw1077389514531537419:Nat:=0
def PySem.W.Fast.tw10314377615398364042:Nat:=0
def PySem.W.Fast.tw1156238603539052992:Nat:=0
def PySem.W.Fast.tw10844526312974841327:Nat:=0
def PySem.W.Fast.tw14931911456869424417:Nat:=0
def PySem.W.Fast.tw8021415614509955509:Nat:=0
def PySem.W.Fast.tw17022921838497551598:Nat:=0
def PySem.W.Fast.tw4589337681797791428:Nat:=0
def PySem.W.Fast.tw7965052730022713319:Nat:=0
def PySem.W.Fast.tw3259125876211923681:Nat:=0
def PySem.W.Fast.tw17544199617371373345:Nat:=0
def PySem.W.Fast.tw13433246134801424297:Nat:=0
def PySem.W.Fast.tw16646132233240520050:Nat:=0
def PySem.W.Fast.tw2717763801687269633:Nat:=0
def PySem.W.Fast.tw18084807883872881510:Nat:=0
def PySem.W.Fast.tw5901253799727271031:Nat:=0
def PySem.W.Fast.tw4921746046670839686:Nat:=0
def PySem.W.Fast.tw8636514082868509285:Nat:=0
def PySem.W.Fast.tw9431337577091752730:Nat:=0
def PySem.W.Fast.tw17943575486580229146:Nat:=0
def PySem.W.Fast.tw17241517453173434854:Nat:=0
def PySem.W.Fast.tw16267939885509308607:Nat:=0
def PySem.W.Fast.tw13158786693629878102:Nat:=0
def PySem.W.Fast.tw1540407177999941129:Nat:=0
def PySem.W.Fast.tw1782537443675143848:Nat:=0
def PySem.W.Fast.tw9017306019143363269:Nat:=0
def PySem.W.Fast.tw9967323532971934839:Nat:=0
def PySem.W.Fast.tw14754342525660207743:Nat:=0
def PySem.W.Fast.tw6635151056246184813:Nat:=0
def PySem.W.Fast.tw514817459480334909:Nat:=0
def PySem.W.Fast.tw5366536896496257294:Nat:=0
def PySem.W.Fast.tw2874416685899999691:Nat:=0
def PySem.W.Fast.tw9289459870883938431:Nat:=0
def PySem.W.Fast.tw8900456202759347927:Nat:=0
def PySem.W.Fast.tw17890141794864198279:Nat:=0
def PySem.W.Fast.tw14833724193482435184:Nat:=0
def PySem.W.Fast.tw15798167276552248945:Nat:=0
def PySem.W.Fast.tw6269985273976912507:Nat:=0
def PySem.W.Fast.tw6432319232451523029:Nat:=0
def PySem.W.Fast.tw3856084047826726603:Nat:=0
def PySem.W.Fast.tw14180109010674466942:Nat:=0
def PySem.W.Fast.tw394278370618881852:Nat:=0
def PySem.W.Fast.tw15897704055070229255:Nat:=0
def PySem.W.Fast.tw5535740695237219264:Nat:=0
def PySem.W.Fast.tw967933557933208701:Nat:=0
def PySem.W.Fast.tw7423016727216630973:Nat:=0
def PySem.W.Fast.tw13251414187898803570:Nat:=0
def PySem.W.Fast.tw18045096690003846403:Nat:=0
def PySem.W.Fast.tw8583656987936053381:Nat:=0
def PySem.W.Fast.tw6436579358720104749:Nat:=0
def PySem.W.Fast.tw6997392963048607465:Nat:=0
def PySem.W.Fast.tw8066228098231204191:Nat:=0
def PySem.W.Fast.tw15347158784559773111:Nat:=0
def PySem.W.Fast.tw13853567542250245902:Nat:=0
def PySem.W.Fast.tw7341059025645037960:Nat:=0
def PySem.W.Fast.tw2001716187117935941:Nat:=0
def PySem.W.Fast.tw17722102188224635036:Nat:=0
def PySem.W.Fast.tw2099085848394684494:Nat:=0
def PySem.W.Fast.tw15230882727392020350:Nat:=0
def PySem.W.Fast.tw12593120369886491041:Nat:=0
def PySem.W.Fast.tw14927286172048913218:Nat:=0
def PySem.W.Fast.tw18195603777918106530:Nat:=0
def PySem.W.Fast.tw11148305455443801175:Nat:=0
def PySem.W.Fast.tw2359633426995041620:Nat:=0
def PySem.W.Fast.tw15341107014077254329:Nat:=0
def PySem.W.Fast.tw10638946152742164487:Nat:=0
def PySem.W.Fast.tw1353158022271981334:Nat:=0
def PySem.W.Fast.tw18104347629693510540:Nat:=0
def PySem.W.Fast.tw1602739671332538853:Nat:=0
def PySem.W.Fast.tw7197399753040833046:Nat:=0
def PySem.W.Fast.tw4894509702970681290:Nat:=0
def PySem.W.Fast.tw7630325777628710575:Nat:=0
def PySem.W.Fast.tw10139368692910394439:Nat:=0
def PySem.W.Fast.tw13526827136578813052:Nat:=0
def PySem.W.Fast.tw13703244926328561976:Nat:=0
def PySem.W.Fast.tw11860111870785056038:Nat:=0
def PySem.W.Fast.tw10482332814666432299:Nat:=0
def PySem.W.Fast.tw8738040302307956185:Nat:=0
def PySem.W.Fast.tw5172258909800982802:Nat:=0
def PySem.W.Fast.tw14192695820827689023:Nat:=0
def PySem.W.Fast.tw17168320913349512208:Nat:=0
def PySem.W.Fast.tw9875510771097931920:Nat:=0
def PySem.W.Fast.tw16512449651579342337:Nat:=0
def PySem.W.Fast.tw2551753641957345563:Nat:=0
def PySem.W.Fast.tw16503599512288655089:Nat:=0
def PySem.W.Fast.tw14379238133132639047:Nat:=0
def PySem.W.Fast.tw15310038650732065896:Nat:=0
def PySem.W.Fast.tw16803871189780879709:Nat:=0
def PySem.W.Fast.tw10268913066732113578:Nat:=0
def PySem.W.Fast.tw1869345629478642026:Nat:=0
def PySem.W.Fast.tw8866400002136370040:Nat:=0
def PySem.W.Fast.tw12787209817840995900:Nat:=0
def PySem.W.Fast.tw14700969728274738096:Nat:=0
def PySem.W.Fast.tw8016717176799170734:Nat:=0
def PySem.W.Fast.tw6728191438613731110:Nat:=0
def PySem.W.Fast.tw6399928527542958221:Nat:=0
def PySem.W.Fast.tw3230630053169245042:Nat:=0
def PySem.W.Fast.tw6381509007368759380:Nat:=0
def PySem.W.Fast.tw5689943666941434878:Nat:=0
def PySem.W.Fast.tw2166395028953925339:Nat:=0
def PySem.W.Fast.tw6266810726121192340:Nat:=0
def PySem.W.Fast.tw7820745934429684813:Nat:=0
def PySem.W.Fast.tw9001648526631166441:Nat:=0
def PySem.W.Fast.tw12059243078749139826:Nat:=0
def PySem.W.Fast.tw5209182614403649150:Nat:=0
def PySem.W.Fast.tw2332725446312981305:Nat:=0
def PySem.W.Fast.tw2268455334802587423:Nat:=0
def PySem.W.Fast.tw14643430535850245431:Nat:=0
def PySem.W.Fast.tw4606409235754892100:Nat:=0
def PySem.W.Fast.tw10053165843155501735:Nat:=0
def PySem.W.Fast.tw12072012110625495769:Nat:=0
def PySem.W.Fast.tw5382087047917899433:Nat:=0
def PySem.W.Fast.tw10817740397014706686:Nat:=0
def PySem.W.Fast.tw801223604553013795:Nat:=0
def PySem.W.Fast.tw10899329317385830054:Nat:=0
def PySem.W.Fast.tw3349184474107047194:Nat:=0
def PySem.W.Fast.tw3742637105022938516:Nat:=0
def PySem.W.Fast.tw4731865662107319010:Nat:=0
def PySem.W.Fast.tw16178363586053680291:Nat:=0
def PySem.W.Fast.tw3013138684063477562:Nat:=0
def PySem.W.Fast.tw1714558468591089470:Nat:=0
def PySem.W.Fast.tw4716268287647752440:Nat:=0
def PySem.W.Fast.tw11640522382463004505:Nat:=0
def PySem.W.Fast.tw13753993794710475534:Nat:=0
def PySem.W.Fast.tw10523793881581198417:Nat:=0
def PySem.W.Fast.tw1300945397550364583:Nat:=0
def PySem.W.Fast.tw2890969253669952752:Nat:=0
def PySem.W.Fast.tw10261215758143309456:Nat:=0
def PySem.W.Fast.tw10507468573264527381:Nat:=0
def PySem.W.Fast.tw379267518572789022:Nat:=0
def PySem.W.Fast.tw14105507998052202969:Nat:=0
def PySem.W.Fast.tw4664729434877602981:Nat:=0
def PySem.W.Fast.tw15992589521643772578:Nat:=0
def PySem.W.Fast.tw15185865434074446346:Nat:=0
def PySem.W.Fast.tw2604574849613211703:Nat:=0
def PySem.W.Fast.tw4149139258172919502:Nat:=0
def PySem.W.Fast.tw4358733888569782029:Nat:=0
def PySem.W.Fast.tw14907232787690064601:Nat:=0
def PySem.W.Fast.tw7430224078871597041:Nat:=0
def PySem.W.Fast.tw14524454914086981529:Nat:=0
def PySem.W.Fast.tw8257727198346264831:Nat:=0
def PySem.W.Fast.tw16993578636021969335:Nat:=0
def PySem.W.Fast.tw12549644123971863144:Nat:=0
def PySem.W.Fast.tw1445705016952545808:Nat:=0
def PySem.W.Fast.tw18004070022789417908:Nat:=0
def PySem.W.Fast.tw3434690463715694816:Nat:=0
def PySem.W.Fast.tw6234346283933990462:Nat:=0
def PySem.W.Fast.tw3020311033427274690:Nat:=0
def PySem.W.Fast.tw9859997862736987958:Nat:=0
def PySem.W.Fast.tw9501266011076408306:Nat:=0
def PySem.W.Fast.tw2669702300616191177:Nat:=0
def PySem.W.Fast.tw15676291299227019863:Nat:=0
def PySem.W.Fast.tw11918678197949673672:Nat:=0
def PySem.W.Fast.tw7929277775045103126:Nat:=0
def PySem.W.Fast.tw2643351324849474026:Nat:=0
def PySem.W.Fast.tw14663549005524655859:Nat:=0
def PySem.W.Fast.tw5910818770565825856:Nat:=0
def PySem.W.Fast.tw1485892065642858822:Nat:=0
def PySem.W.Fast.tw5954389004495734421:Nat:=0
def PySem.W.Fast.tw10699663056105175516:Nat:=0
def PySem.W.Fast.tw3163804388696701787:Nat:=0
def PySem.W.Fast.tw3058753867584012972:Nat:=0
def PySem.W.Fast.tw10299489603898538877:Nat:=0
def PySem.W.Fast.tw12864871321639201599:Nat:=0
def PySem.W.Fast.tw15114955562691860510:Nat:=0
def PySem.W.Fast.tw10064289559353400795:Nat:=0
def PySem.W.Fast.tw2909920082135822408:Nat:=0
def PySem.W.Fast.tw719391429297018423:Nat:=0
def PySem.W.Fast.tw1262494677024302862:Nat:=0
def PySem.W.Fast.tw18045683565302643228:Nat:=0
def PySem.W.Fast.tw8935506936999596804:Nat:=0
def PySem.W.Fast.tw2053097774079501377:Nat:=0
def PySem.W.Fast.tw16916622668482827533:Nat:=0
def PySem.W.Fast.tw5835055748687514630:Nat:=0
def PySem.W.Fast.tw8444846729254814783:Nat:=0
def PySem.W.Fast.tw12982970103661083429:Nat:=0
def PySem.W.Fast.tw17129582157494371795:Nat:=0
def PySem.W.Fast.tw6439152923076420569:Nat:=0
def PySem.W.Fast.tw11808409418970028049:Nat:=0
def PySem.W.Fast.tw13145457239282472986:Nat:=0
def PySem.W.Fast.tw13946017247892952467:Nat:=0
def PySem.W.Fast.tw15413881863560160921:Nat:=0
def PySem.W.Fast.tw17525376615597875315:Nat:=0
def PySem.W.Fast.tw8111001767518008327:Nat:=0
def PySem.W.Fast.tw4973033479892561234:Nat:=0
def PySem.W.Fast.tw10513314952109429385:Nat:=0
def PySem.W.Fast.tw4525410654122833446:Nat:=0
def PySem.W.Fast.tw14195061643314518476:Nat:=0
def PySem.W.Fast.tw11918924431247866393:Nat:=0
def PySem.W.Fast.tw16933242059647083048:Nat:=0
def PySem.W.Fast.tw18150845550516788254:Nat:=0
def PySem.W.Fast.tw4286847079157741366:Nat:=0
def PySem.W.Fast.tw15196727134284401313:Nat:=0
def PySem.W.Fast.tw16212639002755737785:Nat:=0
def PySem.W.Fast.tw5188933083299511076:Nat:=0
def PySem.W.Fast.tw17226555242291924662:Nat:=0
def PySem.W.Fast.tw16051885026794863994:Nat:=0
def PySem.W.Fast.tw17011578556363470552:Nat:=0
def PySem.W.Fast.tw7138500478131329666:Nat:=0
def PySem.W.Fast.tw12624568727281785329:Nat:=0
def PySem.W.Fast.tw8057990169946084924:Nat:=0
def PySem.W.Fast.tw10639674394927443413:Nat:=0
def PySem.W.Fast.tw12106089488753356234:Nat:=0
def PySem.W.Fast.tw3649392103822934533:Nat:=0
def PySem.W.Fast.tw3564989856012403997:Nat:=0
def PySem.W.Fast.tw12981819842606669788:Nat:=0
def PySem.W.Fast.tw7445449151440934246:Nat:=0
def PySem.W.Fast.tw6708708979888256568:Nat:=0
def PySem.W.Fast.tw17905764778854660567:Nat:=0
def PySem.W.Fast.tw16644371904691431676:Nat:=0
def PySem.W.Fast.tw6754028979786540741:Nat:=0
def PySem.W.Fast.tw12744444274087368350:Nat:=0
def PySem.W.Fast.tw14992575466800339556:Nat:=0
def PySem.W.Fast.tw5580828478656367794:Nat:=0
def PySem.W.Fast.tw10686795761416461173:Nat:=0
def PySem.W.Fast.tw9716362864847619125:Nat:=0
def PySem.W.Fast.tw4094510957820785470:Nat:=0
def PySem.W.Fast.tw17057644635659587691:Nat:=0
def PySem.W.Fast.tw17229738245525745000:Nat:=0
def PySem.W.Fast.tw10680056505995479279:Nat:=0
def PySem.W.Fast.tw4194974295009143588:Nat:=0
def PySem.W.Fast.tw2335916890580273833:Nat:=0
def PySem.W.Fast.tw8885526949459415649:Nat:=0
def PySem.W.Fast.tw13553853103710683760:Nat:=0
def PySem.W.Fast.tw1444008647973043485:Nat:=0
def PySem.W.Fast.tw2542508670294950928:Nat:=0
def PySem.W.Fast.tw8343707471628776510:Nat:=0
def PySem.W.Fast.tw7349317201789038911:Nat:=0
def PySem.W.Fast.tw18171370711519412357:Nat:=0
def PySem.W.Fast.tw11284563492697172528:Nat:=0
def PySem.W.Fast.tw16578848802412183413:Nat:=0
def PySem.W.Fast.tw11798374571908401351:Nat:=0
def PySem.W.Fast.tw16969727171248525521:Nat:=0
def PySem.W.Fast.tw4694800687272885095:Nat:=0
def PySem.W.Fast.tw6099815573248108833:Nat:=0
def PySem.W.Fast.tw13784028680624255169:Nat:=0
def PySem.W.Fast.tw16687481295812414384:Nat:=0
def PySem.W.Fast.tw2313958294003387535:Nat:=0
def PySem.W.Fast.tw18265961467485181414:Nat:=0
def PySem.W.Fast.tw3671109306192466005:Nat:=0
def PySem.W.Fast.tw9041329578368254993:Nat:=0
def PySem.W.Fast.tw16928084337508310175:Nat:=0
def PySem.W.Fast.tw9322623055400340961:Nat:=0
def PySem.W.Fast.tw7755417402071570819:Nat:=0
def PySem.W.Fast.tw13977811832035977646:Nat:=0
def PySem.W.Fast.tw14878714633049821092:Nat:=0
def PySem.W.Fast.tw12085117610561700620:Nat:=0
def PySem.W.Fast.tw4620073382107618291:Nat:=0
def PySem.W.Fast.tw98306585794970771:Nat:=0
def PySem.W.Fast.tw6054890110225391236:Nat:=0
def PySem.W.Fast.tw4341150790155489549:Nat:=0
def PySem.W.Fast.tw16351766447638572150:Nat:=0
def PySem.W.Fast.tw11692243965853508578:Nat:=0
def PySem.W.Fast.tw5703092145699491250:Nat:=0
def PySem.W.Fast.tw774097284479658160:Nat:=0
def PySem.W.Fast.tw14186775266891199578:Nat:=0
def PySem.W.Fast.tw9712171461373813529:Nat:=0
def PySem.W.Fast.tw17496022561250474270:Nat:=0
def PySem.W.Fast.tw9738143365681788591:Nat:=0
def PySem.W.Fast.tw12440998745510041788:Nat:=0
def PySem.W.Fast.tw16375775426710328200:Nat:=0
def PySem.W.Fast.tw7398088475617256887:Nat:=0
def PySem.W.Fast.tw2549779990830839962:Nat:=0
def PySem.W.Fast.tw13939684411687130512:Nat:=0
def PySem.W.Fast.tw8290910477953504528:Nat:=0
def PySem.W.Fast.tw1939743956166507016:Nat:=0
def PySem.W.Fast.tw2430480793751712843:Nat:=0
def PySem.W.Fast.tw15364255995269042218:Nat:=0
def PySem.W.Fast.tw4081875199974347336:Nat:=0
def PySem.W.Fast.tw3119015285110468477:Nat:=0
def PySem.W.Fast.tw13908077387348216721:Nat:=0
def PySem.W.Fast.tw17420222252568103489:Nat:=0
def PySem.W.Fast.tw5722458331345645246:Nat:=0
def PySem.W.Fast.tw15029241956513764055:Nat:=0
def PySem.W.Fast.tw1143343110262970692:Nat:=0
def PySem.W.Fast.tw17198854283697067755:Nat:=0
def PySem.W.Fast.tw8548194303949420825:Nat:=0
def PySem.W.Fast.tw5466135626279340178:Nat:=0
def PySem.W.Fast.tw8765441073072178212:Nat:=0
def PySem.W.Fast.tw4772037914879626424:Nat:=0
def PySem.W.Fast.tw6242452165917146943:Nat:=0
def PySem.W.Fast.tw5922509748304575840:Nat:=0
def PySem.W.Fast.tw7176231796546656040:Nat:=0
def PySem.W.Fast.tw8274793123507766983:Nat:=0
def PySem.W.Fast.tw10708554559151276747:Nat:=0
def PySem.W.Fast.tw5976909979272675112:Nat:=0
def PySem.W.Fast.tw14296503104402603796:Nat:=0
def PySem.W.Fast.tw13149847865664559653:Nat:=0
def PySem.W.Fast.tw8725156540983865513:Nat:=0
def PySem.W.Fast.tw12225714261960074629:Nat:=0
def PySem.W.Fast.tw9031724583874478711:Nat:=0
def PySem.W.Fast.tw308876981618062926:Nat:=0
def PySem.W.Fast.tw8200590848298104777:Nat:=0
def PySem.W.Fast.tw15907711188890491531:Nat:=0
def PySem.W.Fast.tw16502780414754842115:Nat:=0
def PySem.W.Fast.tw15187700105514635676:Nat:=0
def PySem.W.Fast.tw9512289833305012064:Nat:=0
def PySem.W.Fast.tw7207506457959075193:Nat:=0
def PySem.W.Fast.tw3848520452232512015:Nat:=0
def PySem.W.Fast.tw4968635593876736131:Nat:=0
def PySem.W.Fast.tw5549552590264971201:Nat:=0
def PySem.W.Fast.tw5802870274169740401:Nat:=0
def PySem.W.Fast.tw14995618191241393625:Nat:=0
def PySem.W.Fast.tw12715393000884586211:Nat:=0
def PySem.W.Fast.tw924191695895382895:Nat:=0
def PySem.W.Fast.tw14438079308233955313:Nat:=0
def PySem.W.Fast.tw2780120493978377208:Nat:=0
def PySem.W.Fast.tw15290818792789284465:Nat:=0
def PySem.W.Fast.tw17503224442037245344:Nat:=0
def PySem.W.Fast.tw11201195260055135554:Nat:=0
def PySem.W.Fast.tw5045713712766068070:Nat:=0
def PySem.W.Fast.tw3941239886816602006:Nat:=0
def PySem.W.Fast.tw548527988035220336:Nat:=0
def PySem.W.Fast.tw5513065523713630073:Nat:=0
def PySem.W.Fast.tw10730187350606090221:Nat:=0
def PySem.W.Fast.tw3855261780566783193:Nat:=0
def PySem.W.Fast.tw1190639252198412334:Nat:=0
def PySem.W.Fast.tw9312808053430495764:Nat:=0
def PySem.W.Fast.tw3235943094009160716:Nat:=0
def PySem.W.Fast.tw13353531434542614423:Nat:=0
def PySem.W.Fast.tw16940991765425489008:Nat:=0
def PySem.W.Fast.tw3940693205210338084:Nat:=0
def PySem.W.Fast.tw44645648282731759:Nat:=0
def PySem.W.Fast.tw16199474737269576261:Nat:=0
def PySem.W.Fast.tw9793142989256313986:Nat:=0
def PySem.W.Fast.tw13991424904473338632:Nat:=0
def PySem.W.Fast.tw9081984006752525455:Nat:=0
def PySem.W.Fast.tw17608170349598972915:Nat:=0
def PySem.W.Fast.tw18283313751429856453:Nat:=0
def PySem.W.Fast.tw14401277334408591793:Nat:=0
def PySem.W.Fast.tw9519661580822108500:Nat:=0
def PySem.W.Fast.tw8542794601785197947:Nat:=0
def PySem.W.Fast.tw11704070767966462149:Nat:=0
def PySem.W.Fast.tw4930582308609164452:Nat:=0
def PySem.W.Fast.tw3673272272932041357:Nat:=0
def PySem.W.Fast.tw8663170683023733730:Nat:=0
def PySem.W.Fast.tw645234738295229013:Nat:=0
def PySem.W.Fast.tw9208349821465230524:Nat:=0
def PySem.W.Fast.tw2049888139031271308:Nat:=0
def PySem.W.Fast.tw14061220344286429305:Nat:=0
def PySem.W.Fast.tw3009684305188598032:Nat:=0
def PySem.W.Fast.tw3705551900972786832:Nat:=0
def PySem.W.Fast.tw13636903939628145351:Nat:=0
def PySem.W.Fast.tw10468238227763819000:Nat:=0
def PySem.W.Fast.tw6385940789738110790:Nat:=0
def PySem.W.Fast.tw11940352105415590615:Nat:=0
def PySem.W.Fast.tw2380672477700683866:Nat:=0
def PySem.W.Fast.tw6537893032433347078:Nat:=0
def PySem.W.Fast.tw1012982331317756687:Nat:=0
def PySem.W.Fast.tw17330198188127466034:Nat:=0
def PySem.W.Fast.tw3034784799226655278:Nat:=0
def PySem.W.Fast.tw15388216632917397523:Nat:=0
def PySem.W.Fast.tw11496549634339612722:Nat:=0
def PySem.W.Fast.tw1117327378696412568:Nat:=0
def PySem.W.Fast.tw7286304978022512388:Nat:=0
def PySem.W.Fast.tw11986009373244353616:Nat:=0
def PySem.W.Fast.tw2430338686177198612:Nat:=0
def PySem.W.Fast.tw4913894977929795683:Nat:=0
def PySem.W.Fast.tw14541495660526682448:Nat:=0
def PySem.W.Fast.tw10667581051294960780:Nat:=0
def PySem.W.Fast.tw18254552392133659872:Nat:=0
def PySem.W.Fast.tw7322179921078435598:Nat:=0
def PySem.W.Fast.tw15665733791872682982:Nat:=0
def PySem.W.Fast.tw2241462830150282728:Nat:=0
def PySem.W.Fast.tw8436333159265734168:Nat:=0
def PySem.W.Fast.tw6483543735308094550:Nat:=0
def PySem.W.Fast.tw1338621422855038513:Nat:=0
def PySem.W.Fast.tw6810464910609086857:Nat:=0
def PySem.W.Fast.tw16956166194963950315:Nat:=0
def PySem.W.Fast.tw679465018717034657:Nat:=0
def PySem.W.Fast.tw11239451425504229216:Nat:=0
def PySem.W.Fast.tw12695542419688083550:Nat:=0
def PySem.W.Fast.tw18058021440587954368:Nat:=0
def PySem.W.Fast.tw16415229473611136119:Nat:=0
def PySem.W.Fast.tw15901791514120572622:Nat:=0
def PySem.W.Fast.tw16655807162620936688:Nat:=0
def PySem.W.Fast.tw13046307625549820410:Nat:=0
def PySem.W.Fast.tw4567115049926831728:Nat:=0
def PySem.W.Fast.tw8698077331696171850:Nat:=0
def PySem.W.Fast.tw1618989501107304167:Nat:=0
def PySem.W.Fast.tw10641743285991659728:Nat:=0
def PySem.W.Fast.tw17990818622616114471:Nat:=0
def PySem.W.Fast.tw14917910806121243539:Nat:=0
def PySem.W.Fast.tw7512913735394104484:Nat:=0
def PySem.W.Fast.tw9573007892987592230:Nat:=0
def PySem.W.Fast.tw7872592934201639883:Nat:=0
def PySem.W.Fast.tw12311113669913998219:Nat:=0
def PySem.W.Fast.tw3097489479612359735:Nat:=0
def PySem.W.Fast.tw16652248611228779331:Nat:=0
def PySem.W.Fast.tw2826121358625058146:Nat:=0
def PySem.W.Fast.tw2765192977536005282:Nat:=0
def PySem.W.Fast.tw10871791595551701700:Nat:=0
def PySem.W.Fast.tw2504308960156520087:Nat:=0
def PySem.W.Fast.tw8744965679033569651:Nat:=0
def PySem.W.Fast.tw12370362656169216489:Nat:=0
def PySem.W.Fast.tw6528768888126676706:Nat:=0
def PySem.W.Fast.tw11987268065744302405:Nat:=0
def PySem.W.Fast.tw8428759273798633333:Nat:=0
def PySem.W.Fast.tw17728629587444152437:Nat:=0
def PySem.W.Fast.tw17288227749232757490:Nat:=0
def PySem.W.Fast.tw17615247153690877183:Nat:=0
def PySem.W.Fast.tw14256118545155120104:Nat:=0
def PySem.W.Fast.tw5068819560203305935:Nat:=0
def PySem.W.Fast.tw16155489330195842297:Nat:=0
def PySem.W.Fast.tw16383497117396850418:Nat:=0
def PySem.W.Fast.tw9154822693292972295:Nat:=0
def PySem.W.Fast.tw11090219999025074610:Nat:=0
def PySem.W.Fast.tw4382868832717677432:Nat:=0
def PySem.W.Fast.tw1688298376028315141:Nat:=0
def PySem.W.Fast.tw5719921744257914314:Nat:=0
def PySem.W.Fast.tw17432271786002673069:Nat:=0
def PySem.W.Fast.tw12396423147271823954:Nat:=0
def PySem.W.Fast.tw7066056382091146230:Nat:=0
def PySem.W.Fast.tw13042655827953787926:Nat:=0
def PySem.W.Fast.tw12632218221469962339:Nat:=0
def PySem.W.Fast.tw4488147288677831797:Nat:=0
def PySem.W.Fast.tw16920759683799138000:Nat:=0
def PySem.W.Fast.tw558401126219100063:Nat:=0
def PySem.W.Fast.tw11524072259975894165:Nat:=0
def PySem.W.Fast.tw10167812872409518965:Nat:=0
def PySem.W.Fast.tw15673496463524826451:Nat:=0
def PySem.W.Fast.tw12440114675183707206:Nat:=0
def PySem.W.Fast.tw13738136786031796318:Nat:=0
def PySem.W.Fast.tw2825346819988615377:Nat:=0
def PySem.W.Fast.tw13736512136342099175:Nat:=0
def PySem.W.Fast.tw16084765464341112006:Nat:=0
def PySem.W.Fast.tw4030721771281020708:Nat:=0
def PySem.W.Fast.tw13279108381467154934:Nat:=0
def PySem.W.Fast.tw11977365695008354777:Nat:=0
def PySem.W.Fast.tw12644139168325654631:Nat:=0
def PySem.W.Fast.tw10411996813542882981:Nat:=0
def PySem.W.Fast.tw13805026407033831263:Nat:=0
def PySem.W.Fast.tw14596019897039968163:Nat:=0
def PySem.W.Fast.tw12944680718577168788:Nat:=0
def PySem.W.Fast.tw1614289921751818834:Nat:=0
def PySem.W.Fast.tw14644669342272205102:Nat:=0
def PySem.W.Fast.tw16236673254613464537:Nat:=0
def PySem.W.Fast.tw1823786609468609947:Nat:=0
def PySem.W.Fast.tw9178423204594297692:Nat:=0
def PySem.W.Fast.tw7805972673992867437:Nat:=0
def PySem.W.Fast.tw7530932564899981989:Nat:=0
def PySem.W.Fast.tw13253444346967795404:Nat:=0
def PySem.W.Fast.tw16482250841991719979:Nat:=0
def PySem.W.Fast.tw2520316236630743827:Nat:=0
def PySem.W.Fast.tw8350563545706696501:Nat:=0
def PySem.W.Fast.tw12412382455130394485:Nat:=0
def PySem.W.Fast.tw17533239946715370084:Nat:=0
def PySem.W.Fast.tw2543812933267772729:Nat:=0
def PySem.W.Fast.tw4879069110470050960:Nat:=0
def PySem.W.Fast.tw10330596541667739367:Nat:=0
def PySem.W.Fast.tw2247324416074831619:Nat:=0
def PySem.W.Fast.tw6334944535638501417:Nat:=0
open PySem PySem.W PyProof.Rows
set_option maxRecDepth 100000 in
set_option maxHeartbeats 0 in
theorem PySem.Challenge.cw_lockhouse_k50_whole_pass_by_the_machine_holds : PySem.Challenge.rw_lockhouse_k50_whole_pass_by_the_machine.Holds := by
 w_on;o_law;k_head;(case hw=>w_witness2)
 k_fill
 refine My.walk (l:=PySem.Challenge.rw_lockhouse_k50_whole_pass_by_the_machine) rfl rfl (fun w h Y=>PySem.W.kIn_of Y) ?F
 case F =>
  intro w mg fa h KX G hmg
  refine' My.all_mk KX G hmg ?aC_P ?aC_B ?aC_U ?aC_R ?aC_N ?aX_Against ?aX_NotNow ?aX_Short ?aX_Full ?aX_NoBoat ?aX_Unknown ?aX_NotLinked ?aC_C ?aV ?aW ?lV ?lW ?a0 ?l0 ?c0 ?k0 ?a1 ?l1 ?c1 ?k1 ?a2 ?l2 ?c2 ?k2 ?a3 ?l3 ?c3 ?k3 ?a4 ?l4 ?c4 ?k4 ?a5 ?l5 ?c5 ?k5 ?a6 ?l6 ?c6 ?k6 ?a7 ?i7 ?ac7 ?l7 ?c7 ?k7 ?a8 ?i8 ?l8 ?c8 ?k8 ?a9 ?i9 ?l9 ?c9 ?k9 ?a10 ?i10 ?l10 ?c10 ?k10 ?a11 ?i11 ?l11 ?c11 ?k11 ?a12 ?i12 ?l12 ?c12 ?k12 ?a13 ?i13 ?l13 ?c13 ?k13 ?a14 ?i14 ?l14 ?c14 ?k14 ?a15 ?i15 ?l15 ?c15 ?k15 ?a16 ?i16 ?l16 ?c16 ?k16 ?a17 ?i17 ?l17 ?c17 ?k17 ?a18 ?i18 ?l18 ?c18 ?k18 ?a19 ?i19 ?l19 ?c19 ?k19 ?a20 ?a20_U ?i20 ?l20 ?c20 ?k20 ?a21 ?i21 ?l21 ?c21 ?k21 ?a22 ?i22 ?l22 ?c22 ?k22 ?lT22 ?dT22 ?a23 ?i23 ?l23 ?c23 ?k23 ?a24 ?i24 ?l24 ?c24 ?k24 ?a25 ?i25 ?l25 ?c25 ?k25 ?a26 ?i26 ?l26 ?c26 ?k26 ?a27 ?i27 ?l27 ?c27 ?k27 ?a28 ?i28 ?l28 ?c28 ?k28 ?a29 ?l29 ?c29 ?k29 ?a30 ?l30 ?c30 ?k30 ?a31 ?l31 ?c31 ?k31 ?a32 ?l32 ?c32 ?k32 ?a33 ?l33 ?c33 ?k33 ?a34 ?i34 ?l34 ?c34 ?k34 ?a35 ?i35 ?l35 ?c35 ?k35 ?a36 ?i36 ?l36 ?c36 ?k36 ?a37 ?i37 ?l37 ?c37 ?k37 ?a38 ?i38 ?l38 ?c38 ?k38 ?a39 ?i39 ?l39 ?c39 ?k39 ?a40 ?i40 ?l40 ?c40 ?k40 ?a41 ?i41 ?l41 ?c41 ?k41 ?a42 ?i42 ?l42 ?c42 ?k42 ?a43 ?i43 ?l43 ?c43 ?k43 ?a44 ?i44 ?l44 ?c44 ?k44 ?a45 ?i45 ?l45 ?c45 ?k45 ?a46 ?i46 ?l46 ?c46 ?k46 ?a47 ?i47 ?l47 ?c47 ?k47 ?a48 ?i48 ?l48 ?c48 ?k48 ?a49 ?l49 ?c49 ?k49 ?a50 ?l50 ?c50 ?k50 ?a51 ?l51 ?c51 ?k51 ?a52 ?l52 ?c52 ?k52 ?a53 ?l53 ?c53 ?k53 ?a54 ?l54 ?c54 ?k54 ?a55 ?l55 ?c55 ?k55 ?a56 ?l56 ?c56 ?k56 ?a57 ?l57 ?c57 ?k57 ?a58 ?l58 ?c58 ?k58 ?a59 ?l59 ?c59 ?k59 ?a60 ?l60 ?c60 ?k60 ?a61 ?l61 ?c61 ?k61 ?a62 ?l62 ?c62 ?k62 ?a63 ?l63 ?c63 ?k63 ?a64 ?l64 ?c64 ?k64 ?a65 ?l65 ?c65 ?k65 ?a66 ?l66 ?c66 ?k66 ?a67 ?l67 ?c67 ?k67 ?a68 ?l68 ?c68 ?k68 ?a69 ?l69 ?c69 ?k69 ?a70 ?l70 ?c70 ?k70 ?a71 ?l71 ?c71 ?k71 ?a72 ?l72 ?c72 ?k72 ?a73 ?l73 ?c73 ?k73 ?a74 ?l74 ?c74 ?k74 ?a75 ?l75 ?c75 ?k75 ?a76 ?l76 ?c76 ?k76 ?a77 ?l77 ?c77 ?k77 ?a78 ?l78 ?c78 ?k78 ?a79 ?l79 ?c79 ?k79 ?a80 ?l80 ?c80 ?k80 ?a81 ?l81 ?c81 ?k81 ?a82 ?l82 ?c82 ?k82 ?z_list ?z_tuple ?z_max ?z_range ?z_len ?z_sum ?z_zip ?z_enumerate ?z_min ?z_int ?pg_P ?hdd_P ?po_P ?sa_P ?mk_P ?kc_P ?n_name_P ?n_high_P ?n_low_P ?n_room_P ?pg_B ?hdd_B ?po_B ?sa_B ?mk_B ?kc_B ?n_name_B ?n_high_B ?n_low_B ?n_room_B ?n_side_B ?pg_U ?hdd_U ?po_U ?sa_U ?mk_U ?kc_U ?n_name_U ?n_high_U ?n_low_U ?n_room_U ?n_lift_U ?g1 ?g2 ?pg_R ?hdd_R ?po_R ?sa_R ?mk_R ?kc_R ?nR_name ?nR_least ?nR_crest ?nR_berths ?nR_water ?nR_target ?pg_N ?hdd_N ?po_N ?sa_N ?mk_N ?kc_N ?nN_reaches ?nN_locks ?nN_nights ?gSEA ?xX_Against ?xX_NotNow ?xX_Short ?xX_Full ?xX_NoBoat ?xX_Unknown ?xX_NotLinked ?gHOME ?pg_C ?hdd_C ?po_C ?sa_C ?mk_C ?kc_C ?nC_lock ?nC_held ?nC_least ?nC_open_side ?nC_inside ?ksV ?ksW ?oV ?oW ?v0 ?v1 ?v2 ?v3 ?n0_ ?lw0 ?cw0 ?dw0 ?n1_ ?lw1 ?cw1 ?dw1 ?n2_ ?lw2 ?cw2 ?dw2 ?n3_ ?lw3 ?cw3 ?dw3 ?n4_ ?lw4 ?cw4 ?dw4 ?n5_ ?lw5 ?cw5 ?dw5 ?n6_ ?lw6 ?cw6 ?dw6 ?n7_ ?lw7 ?cw7 ?dw7 ?n8_ ?lw8 ?cw8 ?dw8 ?n9_ ?lw9 ?cw9 ?dw9 ?agU ?agD ?lU ?lD ?cU_ ?cD_ ?dU ?dD
  (case aC_P=>first|k_is|rfl)
  (case aC_B=>first|k_is|rfl)
  (case aC_U=>first|k_is|rfl)
  (case aC_R=>first|k_is|rfl)
  (case aC_N=>first|k_is|rfl)
  (case aX_Against=>first|k_is|rfl)
  (case aX_NotNow=>first|k_is|rfl)
  (case aX_Short=>first|k_is|rfl)
  (case aX_Full=>first|k_is|rfl)
  (case aX_NoBoat=>first|k_is|rfl)
  (case aX_Unknown=>first|k_is|rfl)
  (case aX_NotLinked=>first|k_is|rfl)
  (case aC_C=>first|k_is|rfl)
  (case aV=>first|k_is|rfl)
  (case aW=>first|k_is|rfl)
  (case lV=>first|k_is|rfl)
  (case lW=>first|k_is|rfl)
  (case a0=>first|k_is|rfl)
  (case l0=>first|k_is|rfl)
  (case c0=>first|k_is|rfl)
  (case k0=>first|k_is|rfl)
  (case a1=>first|k_is|rfl)
  (case l1=>first|k_is|rfl)
  (case c1=>first|k_is|rfl)
  (case k1=>first|k_is|rfl)
  (case a2=>first|k_is|rfl)
  (case l2=>first|k_is|rfl)
  (case c2=>first|k_is|rfl)
  (case k2=>first|k_is|rfl)
  (case a3=>first|k_is|rfl)
  (case l3=>first|k_is|rfl)
  (case c3=>first|k_is|rfl)
  (case k3=>first|k_is|rfl)
  (case a4=>first|k_is|rfl)
  (case l4=>first|k_is|rfl)
  (case c4=>first|k_is|rfl)
  (case k4=>first|k_is|rfl)
  (case a5=>first|k_is|rfl)
  (case l5=>first|k_is|rfl)
  (case c5=>first|k_is|rfl)
  (case k5=>first|k_is|rfl)
  (case a6=>first|k_is|rfl)
  (case l6=>first|k_is|rfl)
  (case c6=>first|k_is|rfl)
  (case k6=>first|k_is|rfl)
  (case a7=>first|k_is|rfl)
  (case i7=>first|k_is|rfl)
  (case ac7=>first|k_is|rfl)
  (case l7=>first|k_is|rfl)
  (case c7=>first|k_is|rfl)
  (case k7=>first|k_is|rfl)
  (case a8=>first|k_is|rfl)
  (case i8=>first|k_is|rfl)
  (case l8=>first|k_is|rfl)
  (case c8=>first|k_is|rfl)
  (case k8=>first|k_is|rfl)
  (case a9=>first|k_is|rfl)
  (case i9=>first|k_is|rfl)
  (case l9=>first|k_is|rfl)
  (case c9=>first|k_is|rfl)
  (case k9=>first|k_is|rfl)
  (case a10=>first|k_is|rfl)
  (case i10=>first|k_is|rfl)
  (case l10=>first|k_is|rfl)
  (case c10=>first|k_is|rfl)
  (case k10=>first|k_is|rfl)
  (case a11=>first|k_is|rfl)
  (case i11=>first|k_is|rfl)
  (case l11=>first|k_is|rfl)
  (case c11=>first|k_is|rfl)
  (case k11=>first|k_is|rfl)
  (case a12=>first|k_is|rfl)
  (case i12=>first|k_is|rfl)
  (case l12=>first|k_is|rfl)
  (case c12=>first|k_is|rfl)
  (case k12=>first|k_is|rfl)
  (case a13=>first|k_is|rfl)
  (case i13=>first|k_is|rfl)
  (case l13=>first|k_is|rfl)
  (case c13=>first|k_is|rfl)
  (case k13=>first|k_is|rfl)
  (case a14=>first|k_is|rfl)
  (case i14=>first|k_is|rfl)
  (case l14=>first|k_is|rfl)
  (case c14=>first|k_is|rfl)
  (case k14=>first|k_is|rfl)
  (case a15=>first|k_is|rfl)
  (case i15=>first|k_is|rfl)
  (case l15=>first|k_is|rfl)
  (case c15=>first|k_is|rfl)
  (case k15=>first|k_is|rfl)
  (case a16=>first|k_is|rfl)
  (case i16=>first|k_is|rfl)
  (case l16=>first|k_is|rfl)
  (case c16=>first|k_is|rfl)
  (case k16=>first|k_is|rfl)
  (case a17=>first|k_is|rfl)
  (case i17=>first|k_is|rfl)
  (case l17=>first|k_is|rfl)
  (case c17=>first|k_is|rfl)
  (case k17=>first|k_is|rfl)
  (case a18=>first|k_is|rfl)
  (case i18=>first|k_is|rfl)
  (case l18=>first|k_is|rfl)
  (case c18=>first|k_is|rfl)
  (case k18=>first|k_is|rfl)
  (case a19=>first|k_is|rfl)
  (case i19=>first|k_is|rfl)
  (case l19=>first|k_is|rfl)
  (case c19=>first|k_is|rfl)
  (case k19=>first|k_is|rfl)
  (case a20=>first|k_is|rfl)
  (case a20_U=>first|k_is|rfl)
  (case i20=>first|k_is|rfl)
  (case l20=>first|k_is|rfl)
  (case c20=>first|k_is|rfl)
  (case k20=>first|k_is|rfl)
  (case a21=>first|k_is|rfl)
  (case i21=>first|k_is|rfl)
  (case l21=>first|k_is|rfl)
  (case c21=>first|k_is|rfl)
  (case k21=>first|k_is|rfl)
  (case a22=>first|k_is|rfl)
  (case i22=>first|k_is|rfl)
  (case l22=>first|k_is|rfl)
  (case c22=>first|k_is|rfl)
  (case k22=>first|k_is|rfl)
  (case lT22=>first|k_is|rfl)
  (case dT22=>first|k_is|rfl)
  (case a23=>first|k_is|rfl)
  (case i23=>first|k_is|rfl)
  (case l23=>first|k_is|rfl)
  (case c23=>first|k_is|rfl)
  (case k23=>first|k_is|rfl)
  (case a24=>first|k_is|rfl)
  (case i24=>first|k_is|rfl)
  (case l24=>first|k_is|rfl)
  (case c24=>first|k_is|rfl)
  (case k24=>first|k_is|rfl)
  (case a25=>first|k_is|rfl)
  (case i25=>first|k_is|rfl)
  (case l25=>first|k_is|rfl)
  (case c25=>first|k_is|rfl)
  (case k25=>first|k_is|rfl)
  (case a26=>first|k_is|rfl)
  (case i26=>first|k_is|rfl)
  (case l26=>first|k_is|rfl)
  (case c26=>first|k_is|rfl)
  (case k26=>first|k_is|rfl)
  (case a27=>first|k_is|rfl)
  (case i27=>first|k_is|rfl)
  (case l27=>first|k_is|rfl)
  (case c27=>first|k_is|rfl)
  (case k27=>first|k_is|rfl)
  (case a28=>first|k_is|rfl)
  (case i28=>first|k_is|rfl)
  (case l28=>first|k_is|rfl)
  (case c28=>first|k_is|rfl)
  (case k28=>first|k_is|rfl)
  (case a29=>first|k_is|rfl)
  (case l29=>first|k_is|rfl)
  (case c29=>first|k_is|rfl)
  (case k29=>first|k_is|rfl)
  (case a30=>first|k_is|rfl)
  (case l30=>first|k_is|rfl)
  (case c30=>first|k_is|rfl)
  (case k30=>first|k_is|rfl)
  (case a31=>first|k_is|rfl)
  (case l31=>first|k_is|rfl)
  (case c31=>first|k_is|rfl)
  (case k31=>first|k_is|rfl)
  (case a32=>first|k_is|rfl)
  (case l32=>first|k_is|rfl)
  (case c32=>first|k_is|rfl)
  (case k32=>first|k_is|rfl)
  (case a33=>first|k_is|rfl)
  (case l33=>first|k_is|rfl)
  (case c33=>first|k_is|rfl)
  (case k33=>first|k_is|rfl)
  (case a34=>first|k_is|rfl)
  (case i34=>first|k_is|rfl)
  (case l34=>first|k_is|rfl)
  (case c34=>first|k_is|rfl)
  (case k34=>first|k_is|rfl)
  (case a35=>first|k_is|rfl)
  (case i35=>first|k_is|rfl)
  (case l35=>first|k_is|rfl)
  (case c35=>first|k_is|rfl)
  (case k35=>first|k_is|rfl)
  (case a36=>first|k_is|rfl)
  (case i36=>first|k_is|rfl)
  (case l36=>first|k_is|rfl)
  (case c36=>first|k_is|rfl)
  (case k36=>first|k_is|rfl)
  (case a37=>first|k_is|rfl)
  (case i37=>first|k_is|rfl)
  (case l37=>first|k_is|rfl)
  (case c37=>first|k_is|rfl)
  (case k37=>first|k_is|rfl)
  (case a38=>first|k_is|rfl)
  (case i38=>first|k_is|rfl)
  (case l38=>first|k_is|rfl)
  (case c38=>first|k_is|rfl)
  (case k38=>first|k_is|rfl)
  (case a39=>first|k_is|rfl)
  (case i39=>first|k_is|rfl)
  (case l39=>first|k_is|rfl)
  (case c39=>first|k_is|rfl)
  (case k39=>first|k_is|rfl)
  (case a40=>first|k_is|rfl)
  (case i40=>first|k_is|rfl)
  (case l40=>first|k_is|rfl)
  (case c40=>first|k_is|rfl)
  (case k40=>first|k_is|rfl)
  (case a41=>first|k_is|rfl)
  (case i41=>first|k_is|rfl)
  (case l41=>first|k_is|rfl)
  (case c41=>first|k_is|rfl)
  (case k41=>first|k_is|rfl)
  (case a42=>first|k_is|rfl)
  (case i42=>first|k_is|rfl)
  (case l42=>first|k_is|rfl)
  (case c42=>first|k_is|rfl)
  (case k42=>first|k_is|rfl)
  (case a43=>first|k_is|rfl)
  (case i43=>first|k_is|rfl)
  (case l43=>first|k_is|rfl)
  (case c43=>first|k_is|rfl)
  (case k43=>first|k_is|rfl)
  (case a44=>first|k_is|rfl)
  (case i44=>first|k_is|rfl)
  (case l44=>first|k_is|rfl)
  (case c44=>first|k_is|rfl)
  (case k44=>first|k_is|rfl)
  (case a45=>first|k_is|rfl)
  (case i45=>first|k_is|rfl)
  (case l45=>first|k_is|rfl)
  (case c45=>first|k_is|rfl)
  (case k45=>first|k_is|rfl)
  (case a46=>first|k_is|rfl)
  (case i46=>first|k_is|rfl)
  (case l46=>first|k_is|rfl)
  (case c46=>first|k_is|rfl)
  (case k46=>first|k_is|rfl)
  (case a47=>first|k_is|rfl)
  (case i47=>first|k_is|rfl)
  (case l47=>first|k_is|rfl)
  (case c47=>first|k_is|rfl)
  (case k47=>first|k_is|rfl)
  (case a48=>first|k_is|rfl)
  (case i48=>first|k_is|rfl)
  (case l48=>first|k_is|rfl)
  (case c48=>first|k_is|rfl)
  (case k48=>first|k_is|rfl)
  (case a49=>first|k_is|rfl)
  (case l49=>first|k_is|rfl)
  (case c49=>first|k_is|rfl)
  (case k49=>first|k_is|rfl)
  (case a50=>first|k_is|rfl)
  (case l50=>first|k_is|rfl)
  (case c50=>first|k_is|rfl)
  (case k50=>first|k_is|rfl)
  (case a51=>first|k_is|rfl)
  (case l51=>first|k_is|rfl)
  (case c51=>first|k_is|rfl)
  (case k51=>first|k_is|rfl)
  (case a52=>first|k_is|rfl)
  (case l52=>first|k_is|rfl)
  (case c52=>first|k_is|rfl)
  (case k52=>first|k_is|rfl)
  (case a53=>first|k_is|rfl)
  (case l53=>first|k_is|rfl)
  (case c53=>first|k_is|rfl)
  (case k53=>first|k_is|rfl)
  (case a54=>first|k_is|rfl)
  (case l54=>first|k_is|rfl)
  (case c54=>first|k_is|rfl)
  (case k54=>first|k_is|rfl)
  (case a55=>first|k_is|rfl)
  (case l55=>first|k_is|rfl)
  (case c55=>first|k_is|rfl)
  (case k55=>first|k_is|rfl)
  (case a56=>first|k_is|rfl)
  (case l56=>first|k_is|rfl)
  (case c56=>first|k_is|rfl)
  (case k56=>first|k_is|rfl)
  (case a57=>first|k_is|rfl)
  (case l57=>first|k_is|rfl)
  (case c57=>first|k_is|rfl)
  (case k57=>first|k_is|rfl)
  (case a58=>first|k_is|rfl)
  (case l58=>first|k_is|rfl)
  (case c58=>first|k_is|rfl)
  (case k58=>first|k_is|rfl)
  (case a59=>first|k_is|rfl)
  (case l59=>first|k_is|rfl)
  (case c59=>first|k_is|rfl)
  (case k59=>first|k_is|rfl)
  (case a60=>first|k_is|rfl)
  (case l60=>first|k_is|rfl)
  (case c60=>first|k_is|rfl)
  (case k60=>first|k_is|rfl)
  (case a61=>first|k_is|rfl)
  (case l61=>first|k_is|rfl)
  (case c61=>first|k_is|rfl)
  (case k61=>first|k_is|rfl)
  (case a62=>first|k_is|rfl)
  (case l62=>first|k_is|rfl)
  (case c62=>first|k_is|rfl)
  (case k62=>first|k_is|rfl)
  (case a63=>first|k_is|rfl)
  (case l63=>first|k_is|rfl)
  (case c63=>first|k_is|rfl)
  (case k63=>first|k_is|rfl)
  (case a64=>first|k_is|rfl)
  (case l64=>first|k_is|rfl)
  (case c64=>first|k_is|rfl)
  (case k64=>first|k_is|rfl)
  (case a65=>first|k_is|rfl)
  (case l65=>first|k_is|rfl)
  (case c65=>first|k_is|rfl)
  (case k65=>first|k_is|rfl)
  (case a66=>first|k_is|rfl)
  (case l66=>first|k_is|rfl)
  (case c66=>first|k_is|rfl)
  (case k66=>first|k_is|rfl)
  (case a67=>first|k_is|rfl)
  (case l67=>first|k_is|rfl)
  (case c67=>first|k_is|rfl)
  (case k67=>first|k_is|rfl)
  (case a68=>first|k_is|rfl)
  (case l68=>first|k_is|rfl)
  (case c68=>first|k_is|rfl)
  (case k68=>first|k_is|rfl)
  (case a69=>first|k_is|rfl)
  (case l69=>first|k_is|rfl)
  (case c69=>first|k_is|rfl)
  (case k69=>first|k_is|rfl)
  (case a70=>first|k_is|rfl)
  (case l70=>first|k_is|rfl)
  (case c70=>first|k_is|rfl)
  (case k70=>first|k_is|rfl)
  (case a71=>first|k_is|rfl)
  (case l71=>first|k_is|rfl)
  (case c71=>first|k_is|rfl)
  (case k71=>first|k_is|rfl)
  (case a72=>first|k_is|rfl)
  (case l72=>first|k_is|rfl)
  (case c72=>first|k_is|rfl)
  (case k72=>first|k_is|rfl)
  (case a73=>first|k_is|rfl)
  (case l73=>first|k_is|rfl)
  (case c73=>first|k_is|rfl)
  (case k73=>first|k_is|rfl)
  (case a74=>first|k_is|rfl)
  (case l74=>first|k_is|rfl)
  (case c74=>first|k_is|rfl)
  (case k74=>first|k_is|rfl)
  (case a75=>first|k_is|rfl)
  (case l75=>first|k_is|rfl)
  (case c75=>first|k_is|rfl)
  (case k75=>first|k_is|rfl)
  (case a76=>first|k_is|rfl)
  (case l76=>first|k_is|rfl)
  (case c76=>first|k_is|rfl)
  (case k76=>first|k_is|rfl)
  (case a77=>first|k_is|rfl)
  (case l77=>first|k_is|rfl)
  (case c77=>first|k_is|rfl)
  (case k77=>first|k_is|rfl)
  (case a78=>first|k_is|rfl)
  (case l78=>first|k_is|rfl)
  (case c78=>first|k_is|rfl)
  (case k78=>first|k_is|rfl)
  (case a79=>first|k_is|rfl)
  (case l79=>first|k_is|rfl)
  (case c79=>first|k_is|rfl)
  (case k79=>first|k_is|rfl)
  (case a80=>first|k_is|rfl)
  (case l80=>first|k_is|rfl)
  (case c80=>first|k_is|rfl)
  (case k80=>first|k_is|rfl)
  (case a81=>first|k_is|rfl)
  (case l81=>first|k_is|rfl)
  (case c81=>first|k_is|rfl)
  (case k81=>first|k_is|rfl)
  (case a82=>first|k_is|rfl)
  (case l82=>first|k_is|rfl)
  (case c82=>first|k_is|rfl)
  (case k82=>first|k_is|rfl)
  (case z_list=>first|k_is|rfl)
  (case z_tuple=>first|k_is|rfl)
  (case z_max=>first|k_is|rfl)
  (case z_range=>first|k_is|rfl)
  (case z_len=>first|k_is|rfl)
  (case z_sum=>first|k_is|rfl)
  (case z_zip=>first|k_is|rfl)
  (case z_enumerate=>first|k_is|rfl)
  (case z_min=>first|k_is|rfl)
  (case z_int=>first|k_is|rfl)
  (case pg_P=>first|k_is|rfl)
  (case hdd_P=>first|k_is|rfl)
  (case po_P=>first|k_is|rfl)
  (case sa_P=>first|k_is|rfl)
  (case mk_P=>first|k_is|rfl)
  (case kc_P=>first|k_is|rfl)
  (case n_name_P=>first|k_is|rfl)
  (case n_high_P=>first|k_is|rfl)
  (case n_low_P=>first|k_is|rfl)
  (case n_room_P=>first|k_is|rfl)
  (case pg_B=>first|k_is|rfl)
  (case hdd_B=>first|k_is|rfl)
  (case po_B=>first|k_is|rfl)
  (case sa_B=>first|k_is|rfl)
  (case mk_B=>first|k_is|rfl)
  (case kc_B=>first|k_is|rfl)
  (case n_name_B=>first|k_is|rfl)
  (case n_high_B=>first|k_is|rfl)
  (case n_low_B=>first|k_is|rfl)
  (case n_room_B=>first|k_is|rfl)
  (case n_side_B=>first|k_is|rfl)
  (case pg_U=>first|k_is|rfl)
  (case hdd_U=>first|k_is|rfl)
  (case po_U=>first|k_is|rfl)
  (case sa_U=>first|k_is|rfl)
  (case mk_U=>first|k_is|rfl)
  (case kc_U=>first|k_is|rfl)
  (case n_name_U=>first|k_is|rfl)
  (case n_high_U=>first|k_is|rfl)
  (case n_low_U=>first|k_is|rfl)
  (case n_room_U=>first|k_is|rfl)
  (case n_lift_U=>first|k_is|rfl)
  (case g1=>first|k_is|rfl)
  (case g2=>first|k_is|rfl)
  (case pg_R=>first|k_is|rfl)
  (case hdd_R=>first|k_is|rfl)
  (case po_R=>first|k_is|rfl)
  (case sa_R=>first|k_is|rfl)
  (case mk_R=>first|k_is|rfl)
  (case kc_R=>first|k_is|rfl)
  (case nR_name=>first|k_is|rfl)
  (case nR_least=>first|k_is|rfl)
  (case nR_crest=>first|k_is|rfl)
  (case nR_berths=>first|k_is|rfl)
  (case nR_water=>first|k_is|rfl)
  (case nR_target=>first|k_is|rfl)
  (case pg_N=>first|k_is|rfl)
  (case hdd_N=>first|k_is|rfl)
  (case po_N=>first|k_is|rfl)
  (case sa_N=>first|k_is|rfl)
  (case mk_N=>first|k_is|rfl)
  (case kc_N=>first|k_is|rfl)
  (case nN_reaches=>first|k_is|rfl)
  (case nN_locks=>first|k_is|rfl)
  (case nN_nights=>first|k_is|rfl)
  (case gSEA=>first|k_is|rfl)
  (case xX_Against=>first|k_is|k_exc|kit_is|kts_exm|rfl)
  (case xX_NotNow=>first|k_is|k_exc|kit_is|kts_exm|rfl)
  (case xX_Short=>first|k_is|k_exc|kit_is|kts_exm|rfl)
  (case xX_Full=>first|k_is|k_exc|kit_is|kts_exm|rfl)
  (case xX_NoBoat=>first|k_is|k_exc|kit_is|kts_exm|rfl)
  (case xX_Unknown=>first|k_is|k_exc|kit_is|kts_exm|rfl)
  (case xX_NotLinked=>first|k_is|k_exc|kit_is|kts_exm|rfl)
  (case gHOME=>first|k_is|rfl)
  (case pg_C=>first|k_is|rfl)
  (case hdd_C=>first|k_is|rfl)
  (case po_C=>first|k_is|rfl)
  (case sa_C=>first|k_is|rfl)
  (case mk_C=>first|k_is|rfl)
  (case kc_C=>first|k_is|rfl)
  (case nC_lock=>first|k_is|rfl)
  (case nC_held=>first|k_is|rfl)
  (case nC_least=>first|k_is|rfl)
  (case nC_open_side=>first|k_is|rfl)
  (case nC_inside=>first|k_is|rfl)
  (case ksV=>k_keys)
  (case ksW=>k_keys)
  (case oV=>first|k_is|rfl)
  (case oW=>first|k_is|rfl)
  (case v0=>first|k_is|rfl)
  (case v1=>first|k_is|rfl)
  (case v2=>first|k_is|rfl)
  (case v3=>first|k_is|rfl)
  (case n0_=>first|k_is|rfl)
  (case lw0=>first|k_is|rfl)
  (case cw0=>first|k_is|rfl)
  (case dw0=>first|k_is|rfl)
  (case n1_=>first|k_is|rfl)
  (case lw1=>first|k_is|rfl)
  (case cw1=>first|k_is|rfl)
  (case dw1=>first|k_is|rfl)
  (case n2_=>first|k_is|rfl)
  (case lw2=>first|k_is|rfl)
  (case cw2=>first|k_is|rfl)
  (case dw2=>first|k_is|rfl)
  (case n3_=>first|k_is|rfl)
  (case lw3=>first|k_is|rfl)
  (case cw3=>first|k_is|rfl)
  (case dw3=>first|k_is|rfl)
  (case n4_=>first|k_is|rfl)
  (case lw4=>first|k_is|rfl)
  (case cw4=>first|k_is|rfl)
  (case dw4=>first|k_is|rfl)
  (case n5_=>first|k_is|rfl)
  (case lw5=>first|k_is|rfl)
  (case cw5=>first|k_is|rfl)
  (case dw5=>first|k_is|rfl)
  (case n6_=>first|k_is|rfl)
  (case lw6=>first|k_is|rfl)
  (case cw6=>first|k_is|rfl)
  (case dw6=>first|k_is|rfl)
  (case n7_=>first|k_is|rfl)
  (case lw7=>first|k_is|rfl)
  (case cw7=>first|k_is|rfl)
  (case dw7=>first|k_is|rfl)
  (case n8_=>first|k_is|rfl)
  (case lw8=>first|k_is|rfl)
  (case cw8=>first|k_is|rfl)
  (case dw8=>first|k_is|rfl)
  (case n9_=>first|k_is|rfl)
  (case lw9=>first|k_is|rfl)
  (case cw9=>first|k_is|rfl)
  (case dw9=>first|k_is|rfl)
  (case agU=>first|k_is|rfl)
  (case agD=>first|k_is|rfl)
  (case lU=>first|k_is|rfl)
  (case lD=>first|k_is|rfl)
  (case cU_=>first|k_is|rfl)
  (case cD_=>first|k_is|rfl)
  (case dU=>first|k_is|rfl)
  (case dD=>first|k_is|rfl)
