import PyProof.Rows.All
import Wide.All
import OpenK.AllK
import Wide.FinOn
import Lean
import PyProof.EqAt
import PyProof.EqKinds
import PyProof.TupleCall
import PyProof.NeKinds
import OpenK.KOwn
import KE.KTryMore
import KE.RegKTryMore
import PyProof.NsDelKeeps
import KE.KIntText
import PySem.Challenge.RW_lockhouse_k49_whole_as_wet
set_option Elab.async false
set_option linter.all false
set_option maxRecDepth 100000
namespace L2
open PySem PySem.Spec PyProof.Rows
abbrev j5:=Sum Int Str
def bB:j5→Value→Bool
 |.inl k,v=>Value.isInt k v
 |.inr x,v=>Value.isStrOf x v
def GL (w:World):j5→Int
 |.inl k=>hashInt k
 |.inr x=>hashStr w x
theorem y9:∀{k:j5} {v:Value},bB k v=true→(∃i t,k=Sum.inl i∧v=Value.int i t)∨(∃x t,k=Sum.inr x∧v=Value.str x t)
 |.inl i,v,h=>by
  obtain ⟨t,e⟩:=Value.isInt_shape (k:=i) (v:=v) h
  exact .inl ⟨i,t,rfl,e⟩
 |.inr x,v,h=>by
  obtain ⟨t,e⟩:=Value.isStrOf_shape (x:=x) (v:=v) h
  exact .inr ⟨x,t,rfl,e⟩
theorem BH (i:Int) (t:Tok):bB (.inl i) (.int i t)=true:=by simp [bB,Value.isInt]
theorem BG (x:Str) (t:Tok):bB (.inr x) (.str x t)=true:=by simp [bB,Value.isStrOf]
theorem EQ (a b:Int):decide ((Sum.inl a:j5)=Sum.inl b)=(a == b):=by
 by_cases e:a=b
 ·subst e;simp
 ·have h:¬(Sum.inl a:j5)=Sum.inl b:=fun q=>e (Sum.inl.inj q)
  rw [decide_eq_false h]
  exact (beq_eq_false_iff_ne.mpr e).symm
theorem EM (a b:Str):decide ((Sum.inr a:j5)=Sum.inr b)=decide (a=b):=by
 by_cases e:a=b
 ·subst e;simp
 ·have h:¬(Sum.inr a:j5)=Sum.inr b:=fun q=>e (Sum.inr.inj q)
  rw [decide_eq_false h,decide_eq_false e]
theorem EO (a:Int) (b:Str):decide ((Sum.inl a:j5)=Sum.inr b)=false:=decide_eq_false (fun q=>nomatch q)
theorem EN (a:Str) (b:Int):decide ((Sum.inr a:j5)=Sum.inl b)=false:=decide_eq_false (fun q=>nomatch q)
def vO (prog:Program) (w:World):PySem.KeyKind prog w j5 where
 is:=bB
 hash:=GL w
 inj:=fun v a b ha hb=>by
  rcases y9 ha with ⟨i,t,rfl,rfl⟩|⟨x,t,rfl,rfl⟩
  ·rcases y9 hb with ⟨j,u,rfl,e⟩|⟨y,u,rfl,e⟩
   ·injection e with e1 _;rw [e1]
   ·exact nomatch e
  ·rcases y9 hb with ⟨j,u,rfl,e⟩|⟨y,u,rfl,e⟩
   ·exact nomatch e
   ·injection e with e1 _;rw [e1]
 byValue:=fun k v h=>by
  rcases y9 h with ⟨i,t,rfl,rfl⟩|⟨x,t,rfl,rfl⟩<;>rfl
 pyHash:=fun hv h=>by
  rcases y9 hv with ⟨i,t,rfl,rfl⟩|⟨x,t,rfl,rfl⟩
  ·exact wpAny_pyHash_int h
  ·exact wpAny_pyHash_str h
 eqBool:=fun hu hv h=>by
  rcases y9 hu with ⟨i,t,rfl,rfl⟩|⟨x,t,rfl,rfl⟩
  ·rcases y9 hv with ⟨j,u,rfl,rfl⟩|⟨y,u,rfl,rfl⟩
   ·rw [EQ] at h;exact wpAny_eqBool_int h
   ·rw [EO] at h;exact SeqAt.EqAt.int_str i t y u _ _ _ _ h
  ·rcases y9 hv with ⟨j,u,rfl,rfl⟩|⟨y,u,rfl,rfl⟩
   ·rw [EN] at h;exact SeqAt.EqAt.str_int x t j u _ _ _ _ h
   ·rw [EM] at h;exact wpAny_eqBool_str h
 «strs»:=fun k x t v h=>by
  rcases y9 h with ⟨i,u,rfl,e⟩|⟨y,u,rfl,e⟩
  ·exact nomatch e
  ·injection e with e1 _
   subst e1
   cases v<;>rfl
theorem xV (prog:Program) (w:World) (i:Int) (t:Tok):(vO prog w).is (.inl i) (.int i t)=true:=BH i t
theorem xU (prog:Program) (w:World) (x:Str) (t:Tok):(vO prog w).is (.inr x) (.str x t)=true:=BG x t
end L2
namespace L2
open PySem PySem.Spec PyProof.Rows
inductive V where
 |non|bl (b:Bool)|int (i:Int)|str (x:Str)|byt (b:Array UInt8)|flt (b:UInt64)|ref (a:Addr)|ty (n:String)
 deriving DecidableEq
def RelV:V→Value→Prop
 |.non,u=>u=Value.none
 |.bl b,u=>u=Value.bool b
 |.int i,u=>∃t,u=Value.int i t
 |.str x,u=>∃t,u=Value.str x t
 |.byt b,u=>∃t,u=Value.bytes b t
 |.flt b,u=>∃t,u=Value.float b t
 |.ref a,u=>u=Value.ref a
 |.ty n,u=>u=Value.type n
abbrev Vals:List V→List Value→Prop:=Paired RelV
theorem Vals.length {xs:List V} {us:List Value} (r:Vals xs us):xs.length=us.length:=Paired.length r
theorem Vals.get:∀{xs:List V} {us:List Value} {i:Nat} {x:V},Vals xs us→xs[i]?=some x→∃u,us[i]?=some u∧RelV x u
 |_,_,_,_,.nil,e=>by simp at e
 |_,_,0,_,.cons r _,e=>by simp at e;subst e;exact ⟨_,rfl,r⟩
 |_,_,i+1,x,.cons _ t,e=>by
  obtain ⟨u,h1,h2⟩:=Vals.get (i:=i) (x:=x) t (by simpa using e)
  exact ⟨u,by simpa using h1,h2⟩
theorem Vals.set {x:V} {u:Value} (r:RelV x u):∀{xs:List V} {us:List Value} (i:Nat),Vals xs us→Vals (xs.set i x) (us.set i u)
 |_,_,_,.nil=>.nil
 |_,_,0,.cons _ t=>.cons r t
 |_,_,i+1,.cons q t=>.cons q (Vals.set r i t)
theorem Vals.append:∀{xs ys:List V} {us ws:List Value},Vals xs us→Vals ys ws→Vals (xs++ys) (us++ws)
 |_,_,_,_,.nil,s=>s
 |_,_,_,_,.cons r t,s=>.cons r (Vals.append t s)
theorem Vals.take:∀{xs:List V} {us:List Value} (n:Nat),Vals xs us→Vals (xs.take n) (us.take n)
 |_,_,0,_=>.nil
 |_,_,_+1,.nil=>.nil
 |_,_,n+1,.cons r t=>.cons r (Vals.take n t)
theorem Vals.drop:∀{xs:List V} {us:List Value} (n:Nat),Vals xs us→Vals (xs.drop n) (us.drop n)
 |_,_,0,r=>r
 |_,_,_+1,.nil=>.nil
 |_,_,n+1,.cons _ t=>Vals.drop n t
def RelO:Option V→Option Value→Prop
 |some v,some u=>RelV v u
 |none,none=>True
 |_,_=>False
def KV {κ:Type}:List (κ×V)→List (κ×Value)→Prop:=Paired fun (p:κ×V) (q:κ×Value)=>p.1=q.1∧RelV p.2 q.2
def kV:j5→V
 |.inl i=>.int i
 |.inr x=>.str x
inductive HO where
 /-- a list -/
 |lst (xs:List V)
 /-- a tuple (never changes) -/
 |tup (xs:List V)
 /-- a dict whose keys are ints and texts;one whose keys are tuples of ints and texts (the empty one is both) -/
 |dK (kvs:List (j5×V))|dT (kvs:List (List j5×V))
 /-- a set of ints: its members,its size -/
 |set (S:Int→Bool) (n:Nat)
 /-- an instance of the class at C,its dict at dx,its attributes -/
 |ins (C dx:Addr) (fs:List (Str×V))
 /-- the dict of the instance at x -/
 |own (x:Addr)
 /-- the dict of an exception -/
 |xd (fs:List (Str×V))
 /-- a bound method,f of x -/
 |met (f x:Addr)
 /-- a range object lo,lo+1,.. below hi -/
 |rng (lo hi:Int)
 /-- a thing that is known to the object (the script;a dict while a loop walks it): read,never written while it is so -/
 |frz (o:Obj) (u:HO)
 /-- a code object's table -/
 |tbl (ps:Array Value)
 /-- any other thing,by what is true of its one object (a def of one's own: SetO a S n:=HO.ext fun h=>..) -/
 |ext (φ:Heap→Prop)
abbrev Hp:=Addr→Option HO
def upd (H:Hp) (a:Addr) (o:HO):Hp:=fun b=>if b=a then some o else H b
theorem jE {H:Hp} {a:Addr} {o:HO}:upd H a o a=some o:=by unfold upd;rw [if_pos rfl]
theorem j6 {H:Hp} {a b:Addr} {o:HO} (h:b≠a):upd H a o b=H b:=by unfold upd;rw [if_neg h]
theorem yT {H:Hp} {a b:Addr} {o u:HO} (h:H a=some o) (h':H b=some u) (d:o≠u):a≠b:=by
 intro e;subst e;rw [h] at h';exact d (Option.some.inj h')
theorem qJ {H:Hp} {a b:Addr} {o:HO} (h:H a=some o) (h':H b=none):a≠b:=by
 intro e;subst e;rw [h] at h';cases h'
section
variable (P:Program) (w:World)
def ObjOk (H:Hp) (h:Heap) (a:Addr):HO→Prop
 |.lst xs=>xs.length≤sizeLine∧∃(its:List Value) (n:Nat),Vals xs its∧h.get? a=some {cls:=.type "list",data:=.seq its.toArray n}
 |.tup xs=>xs.length≤sizeLine∧∃its:List Value,Vals xs its∧IsTup h a its.toArray
 |.dK kvs=>kvs.length≤sizeLine∧(a == sysModules)=false∧∃vs,KV kvs vs∧h.DictOf (vO P w) a vs
 |.dT kvs=>kvs.length≤sizeLine∧(a == sysModules)=false∧∃xs:List (List j5×Addr×Value),
   Paired (fun (p:List j5×V) (q:List j5×Addr×Value)=>p.1=q.1∧H q.2.1=some (.tup (p.1.map kV))∧RelV p.2 q.2.2) kvs xs∧
   ∃o es ep,h.get? a=some o∧o.ExactDict∧o.data=.dict es ep∧es.toList=xs.map (entryOfKey (tupleKind (vO P w)))∧(xs.map (·.1)).Nodup
 |.set S n=>h.SetOf (intKind P w) a S n
 |.ins C dx fs=>H dx=some (.own a)∧fs.length≤1000∧dx≠a∧h.get? a=some (PySem.W.instObj C dx)∧
   ∃mA,h.Ns1 dx mA∧(∀f,RelO (fs.lookup f) (mA f))∧PySem.Within mA (fs.map (·.1))
 |.own _=>∃o,h.get? a=some o
 |.xd fs=>∃mA,h.Ns1 a mA∧∀f,RelO (fs.lookup f) (mA f)
 |.rng lo hi=>∃t u v,h.get? a=some {cls:=.type "range",data:=.fields #[.int lo t,.int hi u,.int 1 v]}
 |.frz o u=>h.get? a=some o∧ObjOk H h a u
 |.tbl ps=>h.get? a=some {cls:=.none,data:=.fields ps}
 |.met f x=>h.get? a=some (PySem.W.methodObj (.ref f) (.ref x))
 |.ext φ=>φ h∧(∃o,h.get? a=some o)∧∀h1 h2:Heap,φ h1→(∀o,h1.get? a=some o→h2.get? a=some o)→φ h2
def HOk (H:Hp) (h:Heap):Prop:=∀a o,H a=some o→ObjOk P w H h a o
end
section
variable {P:Program} {w:World} {H H':Hp} {h h':Heap} {a:Addr} {o:HO}
theorem ObjOk.lt (x:ObjOk P w H h a o):a<h.objs.size:=by
 cases o with
 |lst xs=>obtain ⟨_,_,_,_,e⟩:=x;exact Heap.lt_size e
 |tup xs=>obtain ⟨_,_,_,p⟩:=x;exact p.lt
 |dK kvs=>obtain ⟨_,_,_,_,o,_,_,e,_⟩:=x;exact Heap.lt_size e
 |dT kvs=>obtain ⟨_,_,_,_,o,_,_,e,_⟩:=x;exact Heap.lt_size e
 |set S n=>obtain ⟨o,_,_,_,e,_⟩:=x;exact Heap.lt_size e
 |ins C dx fs=>obtain ⟨_,_,_,e,_⟩:=x;exact Heap.lt_size e
 |own y=>obtain ⟨_,e⟩:=x;exact Heap.lt_size e
 |xd fs=>obtain ⟨_,⟨_,_,_,e,_⟩,_⟩:=x;exact Heap.lt_size e
 |rng lo hi=>obtain ⟨_,_,_,e⟩:=x;exact Heap.lt_size e
 |frz ob u=>obtain ⟨e,_⟩:=x;exact Heap.lt_size e
 |tbl ps=>exact Heap.lt_size (show h.get? a=some _ from x)
 |met f y=>exact Heap.lt_size (show h.get? a=some _ from x)
 |ext φ=>obtain ⟨_,⟨_,e⟩,_⟩:=x;exact Heap.lt_size e
theorem Paired.mapP {α β:Type} {F G:α→β→Prop}:∀{l₁:List α} {l₂:List β},Paired F l₁ l₂→(∀a b,F a b→G a b)→Paired G l₁ l₂
 |_,_,.nil,_=>.nil
 |_,_,.cons r t,f=>.cons (f _ _ r) (Paired.mapP t f)
theorem ObjOk.stay (x:ObjOk P w H h a o) (k:∀b u,(b=a∨H b=some (.own a))→h.get? b=some u→h'.get? b=some u)
  (ho:∀b,H b=some (.own a)→H' b=some (.own a)) (ht:∀b xs,H b=some (.tup xs)→H' b=some (.tup xs)):ObjOk P w H' h' a o:=by
 induction o with
 |lst xs=>obtain ⟨z,its,n,r,e⟩:=x;exact ⟨z,its,n,r,k _ _ (.inl rfl) e⟩
 |tup xs=>obtain ⟨z,its,r,ob,e,c⟩:=x;exact ⟨z,its,r,ob,k _ _ (.inl rfl) e,c⟩
 |dK kvs=>obtain ⟨z,y,vs,r,ob,es,ep,e,c⟩:=x;exact ⟨z,y,vs,r,ob,es,ep,k _ _ (.inl rfl) e,c⟩
 |dT kvs =>
  obtain ⟨z,y,xs,r,ob,es,ep,e,c⟩:=x
  exact ⟨z,y,xs,Paired.mapP r fun p q z=>⟨z.1,ht _ _ z.2.1,z.2.2⟩,ob,es,ep,k _ _ (.inl rfl) e,c⟩
 |set S n=>obtain ⟨ob,es,ep,t,e,c⟩:=x;exact ⟨ob,es,ep,t,k _ _ (.inl rfl) e,c⟩
 |ins C dx fs =>
  obtain ⟨d,z,ne,e,mA,⟨od,es,ep,e2,c⟩,r⟩:=x
  exact ⟨ho _ d,z,ne,k _ _ (.inl rfl) e,mA,⟨od,es,ep,k _ _ (.inr d) e2,c⟩,r⟩
 |own y=>obtain ⟨ob,e⟩:=x;exact ⟨ob,k _ _ (.inl rfl) e⟩
 |xd fs=>obtain ⟨mA,⟨od,es,ep,e,c⟩,r⟩:=x;exact ⟨mA,⟨od,es,ep,k _ _ (.inl rfl) e,c⟩,r⟩
 |rng lo hi=>obtain ⟨t,u,v,e⟩:=x;exact ⟨t,u,v,k _ _ (.inl rfl) e⟩
 |frz ob u ih=>obtain ⟨e,q⟩:=x;exact ⟨k _ _ (.inl rfl) e,ih q⟩
 |tbl ps =>
  have e:h.get? a=some {cls:=.none,data:=.fields ps}:=x
  show h'.get? a=some {cls:=.none,data:=.fields ps}
  exact k a _ (.inl rfl) e
 |met f y =>
  have e:h.get? a=some (PySem.W.methodObj (.ref f) (.ref y)):=x
  show h'.get? a=some (PySem.W.methodObj (.ref f) (.ref y))
  exact k a _ (.inl rfl) e
 |ext φ=>obtain ⟨p,⟨o,e⟩,st⟩:=x;exact ⟨st _ _ p fun o q=>k _ _ (.inl rfl) q,⟨o,k _ _ (.inl rfl) e⟩,st⟩
theorem HOk.lt (x:HOk P w H h) (e:H a=some o):a<h.objs.size:=(x a o e).lt
theorem HOk.fresh (x:HOk P w H h) (e:h.objs.size≤a):H a=none:=by
 cases q:H a with
 |none=>rfl
 |some u=>exact absurd (Nat.lt_of_lt_of_le (x.lt q) e) (Nat.lt_irrefl _)
theorem HOk.kept (x:HOk P w H h) (k:∀b u,h.get? b=some u→h'.get? b=some u):HOk P w H h':=fun a o e =>
 (x a o e).stay (fun b u _ q=>k b u q) (fun _ q=>q) fun _ _ q=>q
theorem HOk.laid (x:HOk P w H h) (k:∀b u,h.get? b=some u→h'.get? b=some u) (hp:h.objs.size≤a) (new:ObjOk P w (upd H a o) h' a o):HOk P w (upd H a o) h':=fun b u e=>by
 have hn:=x.fresh hp
 by_cases hb:b=a
 ·subst hb;rw [jE] at e;cases e;exact new
 ·rw [j6 hb] at e
  exact (x b u e).stay (fun c v _ q=>k c v q) (fun c q=>by rw [j6 (qJ q hn)];exact q) fun c xs q=>by rw [j6 (qJ q hn)];exact q
end
def Rd (H:Hp) (a:Addr) (u:HO):Prop:=H a=some u∨∃o,H a=some (.frz o u)
theorem Rd.ok {P:Program} {w:World} {H:Hp} {h:Heap} {a:Addr} {u:HO} (r:Rd H a u) (x:HOk P w H h):ObjOk P w H h a u:=by
 rcases r with r|⟨o,r⟩
 ·exact x a u r
 ·obtain ⟨_,q⟩:=x a _ r
  exact q
def dE:Option HO→Prop
 |some (.lst _)=>True
 |some (.dK _)=>True
 |some (.dT _)=>True
 |some (.set _ _)=>True
 |some (.ins _ _ _)=>True
 |some (.ext _)=>True
 |_=>False
section
variable {P:Program} {w:World} {H:Hp} {h h':Heap} {x e:Addr} {o':HO}
theorem HOk.write (ok:HOk P w H h) (mu:dE (H x)) (he:e=x∨H e=some (.own x)) (k:∀b u,b≠e→h.get? b=some u→h'.get? b=some u) (heo:∃u,h'.get? e=some u)
  (new:ObjOk P w (upd H x o') h' x o'):HOk P w (upd H x o') h':=fun b u q=>by
 have nown:∀c y,H c=some (.own y)→c≠x:=fun c y r z=>by subst z;rw [r] at mu;exact mu
 have ntup:∀c xs,H c=some (.tup xs)→c≠x:=fun c xs r z=>by subst z;rw [r] at mu;exact mu
 by_cases hb:b=x
 ·subst hb;rw [jE] at q;cases q;exact new
 ·rw [j6 hb] at q
  by_cases hbe:b=e
  ·have q':H b=some (.own x):=by
    rcases he with z|z
    ·exact absurd (hbe.trans z) hb
    ·rw [hbe];exact z
   rw [q] at q';cases q'
   obtain ⟨v,hv⟩:=heo
   exact ⟨v,by rw [hbe];exact hv⟩
  ·refine (ok b u q).stay (fun c v hc r=>k c v ?_ r) (fun c r=>by rw [j6 (nown c b r)];exact r) fun c xs r=>by rw [j6 (ntup c xs r)];exact r
   rcases hc with rfl|hc
   ·exact hbe
   ·rintro rfl
    rcases he with z|z
    ·exact nown c b hc z
    ·rw [hc] at z;cases z;exact hb rfl
end
structure Un (fs ex:List Addr) (H H':Hp) (h h':Heap):Prop where
 keep:∀b o,h.get? b=some o→H b=none→b∉fs→b∉ex→h'.get? b=some o
 slot:∀b o,h.get? b=some o→H b=none→b∈fs→b∉ex→∃sl,h'.get? b=some {o with slots:=sl}
 free:∀b o,h.get? b=some o→H b=none→b∉ex→H' b=none
 there:∀b o,h.get? b=some o→b∉ex→∃o',h'.get? b=some o'
 tups:∀b xs,H b=some (.tup xs)→H' b=some (.tup xs)
 frzs:∀b o u,H b=some (.frz o u)→H' b=some (.frz o u)
 tbls:∀b ps,H b=some (.tbl ps)→∃more,H' b=some (.tbl (ps++more))
section
variable {fs fs' ex ex':List Addr} {H H1 H2:Hp} {h h1 h2 h':Heap} {a x e:Addr} {o:HO}
theorem Un.any (u:Un fs ex H H1 h h1) {b:Addr} {ob:Obj} (q:h.get? b=some ob) (n:H b=none) (hx:b∉ex):∃sl,h1.get? b=some {ob with slots:=sl}:=by
 by_cases hb:b∈fs
 ·exact u.slot b ob q n hb hx
 ·exact ⟨ob.slots,u.keep b ob q n hb hx⟩
theorem Un.kept (k:∀b u,h.get? b=some u→h'.get? b=some u):Un fs ex H H h h' :=
 ⟨fun b ob q _ _ _=>k b ob q,fun b ob q _ _ _=>⟨ob.slots,k b ob q⟩,fun _ _ _ n _=>n,fun b ob q _=>⟨ob,k b ob q⟩,fun _ _ q=>q,fun _ _ _ q=>q,fun _ ps q=>⟨#[],by rw [q];simp⟩⟩
theorem Un.refl:Un fs ex H H h h:=Un.kept fun _ _ q=>q
theorem Un.laid (k:∀b u,h.get? b=some u→h'.get? b=some u) (hp:h.objs.size≤a) (hn:H a=none):Un fs ex H (upd H a o) h h' where
 keep:=fun b u q _ _ _=>k b u q
 slot:=fun b u q _ _ _=>⟨u.slots,k b u q⟩
 free:=fun b u q n _=>by rw [j6 (Nat.ne_of_lt (Nat.lt_of_lt_of_le (Heap.lt_size q) hp))];exact n
 there:=fun b u q _=>⟨u,k b u q⟩
 tups:=fun b xs q=>by rw [j6 (qJ q hn)];exact q
 frzs:=fun b u xs q=>by rw [j6 (qJ q hn)];exact q
 tbls:=fun b ps q=>⟨#[],by rw [j6 (qJ q hn),q];simp⟩
theorem Un.write (mu:dE (H x)) (he:e=x∨H e=some (.own x)) (k:∀b u,b≠e→h.get? b=some u→h'.get? b=some u) (heo:∃u,h'.get? e=some u):Un fs ex H (upd H x o) h h':=by
 have hx:∀b,H b=none→b≠x:=fun b n z=>by subst z;rw [n] at mu;exact mu
 have hb:∀b,H b=none→b≠e:=fun b n z=>by
  subst z
  rcases he with r|r
  ·exact hx b n r
  ·rw [n] at r;cases r
 have hm:∀b u,H b=some u→¬dE (some u)→b≠x:=fun b u q nm z=>by subst z;rw [q] at mu;exact nm mu
 refine ⟨fun b u q n _ _=>k b u (hb b n) q,fun b u q n _ _=>⟨u.slots,k b u (hb b n) q⟩,fun b u q n _=>by rw [j6 (hx b n)];exact n,fun b u q _=>?_,
  fun b xs q=>by rw [j6 (hm b _ q fun z=>z)];exact q,fun b u xs q=>by rw [j6 (hm b _ q fun z=>z)];exact q,fun b ps q=>⟨#[],by rw [j6 (hm b _ q fun z=>z),q];simp⟩⟩
 by_cases hbe:b=e
 ·subst hbe;exact heo
 ·exact ⟨u,k b u hbe q⟩
end
def yX (h:Heap) (H:Hp):List Addr:=(List.range h.objs.size).filter fun a=>(H a).isSome
def zO (h:Heap) (H:Hp):Heap:=PySem.W.hideAll h (yX h H)
theorem BJ (h:Heap) (H:Hp):(zO h H).objs.size=h.objs.size:=PySem.W.hideAll_size _ _
theorem CF {h:Heap} {H:Hp} {b:Addr} {o:Obj} (e:h.get? b=some o) (n:H b=none):(zO h H).get? b=some o :=
 PySem.W.hideAll_get _ e fun hm=>by
  have q:(H b).isSome=true:=(List.mem_filter.mp hm).2
  rw [n] at q;simp at q
theorem DD {h:Heap} {H:Hp} {b:Addr} {o:Obj} (e:(zO h H).get? b=some o):h.get? b=some o∧H b=none:=by
 have e':h.get? b=some o:=PySem.W.of_hideAll (yX h H) e
 refine ⟨e',?_⟩
 cases q:H b with
 |none=>rfl
 |some x =>
  have hm:b∈yX h H:=List.mem_filter.mpr ⟨List.mem_range.mpr (Heap.lt_size e'),by simp [q]⟩
  have z:(zO h H).get? b=none:=PySem.W.hideAll_none (yX h H) hm
  rw [z] at e;cases e
def DS (g h:Heap) (L:Addr):List (Addr×Obj):=(List.range h.objs.size).filterMap fun a=>if a=L∨(g.get? a).isSome=true then none else (h.get? a).map fun o=>(a,o)
def rest (g h:Heap) (L d:Addr):List (Addr×Obj):=(DS g h L).filter fun p=>decide (p.1≠d)
end L2
namespace L2
open PySem PySem.Spec PyProof.Rows
structure Mod (K:PySem.W.Frag) (mg:Str→Option Value) (base:Heap):Prop where
 kin:K.In base
 glob:base.Ns mainGlobals mg
 blt:∃mb,base.Ns builtinsNs mb∧∀x:Str,x≠"__name__"→mb x=bootBuiltins x
 nolimit:base.NoLimit
structure Cx where
 prog:Program
 w:World
 K:PySem.W.Frag
 mg:Str→Option Value
 base:Heap
 A:Around
 N:List Str
 s₀:Shared
 H₀:Hp
 env:Env
 outer:List Env
 stack:List Env
 ex:List Addr
 fn:Str→Bool
 calm:Bool
 pn:List (Addr×Obj)
 xe:Value→Shared→Prop
def kE (l:List Env):List Addr:=l.filterMap (·.frame)
abbrev Cx.fs (X:Cx):List Addr:=kE X.outer
def fA (sc:Scope) (x:Str):Prop:=sc.names.lookup x=some .local∨sc.names.lookup x=some .cell∨sc.names.lookup x=some .free
def dF (sc:Scope) (x:Str):Prop:=sc.names.lookup x=some .local∨sc.names.lookup x=some .cell
def GQ (env:Env) (h:Heap) (m:Str→Option Value) (x:Str) (u:Value):Prop :=
 (env.kindOf x=some .local∧m x=some u)∨((env.kindOf x=some .cell∨env.kindOf x=some .free)∧∃c,env.cells.lookup x=some c∧h.IsCell c (some u))
structure Cx.Ok (X:Cx):Prop where
 mod:Mod X.K X.mg X.base
 kind:X.env.scope.kind=.function
 glob:X.env.globals=mainGlobals
 blt:X.env.builtins=builtinsNs
 above:X.s₀.heap.objs.size≤X.env.locals
 inj:∀x y c,X.env.cells.lookup x=some c→X.env.cells.lookup y=some c→x=y
 has:∀x,(X.env.kindOf x=some .cell∨X.env.kindOf x=some .free)→∃c,X.env.cells.lookup x=some c
 cab:∀x c,X.fn x=true→X.env.cells.lookup x=some c→X.s₀.heap.objs.size≤c
 hd:X.calm=true→X.A.handled=none
 frames:X.A.frames=some X.stack
 stk:X.stack=X.outer∨(X.stack=X.env::X.outer∧X.env.frame=some X.env.locals)
 exf:∀b∈X.ex,b≠X.env.locals∧∀x c,X.env.cells.lookup x=some c→c≠b
 bs:∀b o,X.base.get? b=some o→X.s₀.heap.get? b=some o∧X.H₀ b=none
 bsz:X.base.objs.size≤X.s₀.heap.objs.size
 noex:∀b o,X.base.get? b=some o→b∉X.ex
 exfs:∀b∈X.ex,b∉X.fs
 funs:X.s₀.heap.FunFrames X.base X.outer
 frf:∀b∈X.fs,X.H₀ b=none
structure Inv (X:Cx) (pins:List (Addr×Obj)) (σ:List (Option V)) (H:Hp) (s:Shared):Prop where
 ok:X.Ok
 os:s.os=X.s₀.os
 bare:AllBare s.gens
 base:Un X.fs X.ex X.H₀ H X.s₀.heap s.heap
 loc:∃m,s.heap.Ns X.env.locals m∧∀(i:Nat) (x:Str) (v:V),X.N[i]?=some x→σ[i]?=some (some v)→fA X.env.scope x→∃u,RelV v u∧GQ X.env s.heap m x u
 cell:∀x c,X.env.cells.lookup x=some c→∃v,s.heap.IsCell c v
 free:H X.env.locals=none
 freeC:∀x c,X.env.cells.lookup x=some c→H c=none
 pin:∀p∈X.pn++pins,s.heap.get? p.1=some p.2∧H p.1=none∧p.1≠X.env.locals∧p.1∉X.fs∧∀v,p.2.data≠.cell v
 hok:HOk X.prog X.w H s.heap
 len:σ.length=X.N.length
section
variable {X:Cx} {pins:List (Addr×Obj)} {σ:List (Option V)} {H H':Hp} {s:Shared} {h':Heap}
theorem Cx.Ok.nofr (ok:X.Ok) {b:Addr} {o:Obj} (e:X.base.get? b=some o):b∉X.fs:=fun hb=>by
 have:=(ok.funs.mem hb).1
 rw [e] at this;cases this
theorem Inv.bs (I:Inv X pins σ H s):∀b o,X.base.get? b=some o→s.heap.get? b=some o∧H b=none:=fun b o e =>
 ⟨I.base.keep b o (I.ok.bs b o e).1 (I.ok.bs b o e).2 (I.ok.nofr e) (I.ok.noex b o e),I.base.free b o (I.ok.bs b o e).1 (I.ok.bs b o e).2 (I.ok.noex b o e)⟩
theorem Inv.bk (I:Inv X pins σ H s):∀b o,X.base.get? b=some o→s.heap.get? b=some o:=fun b o e=>(I.bs b o e).1
theorem Inv.mod (I:Inv X pins σ H s):Mod X.K X.mg X.base:=I.ok.mod
theorem Inv.kIn (I:Inv X pins σ H s):X.K.In s.heap:=I.ok.mod.kin.keeps I.bk
theorem Inv.lt (I:Inv X pins σ H s):X.env.locals<s.heap.objs.size:=let ⟨_,hn,_⟩:=I.loc;hn.lt
theorem Inv.sz (I:Inv X pins σ H s):X.s₀.heap.objs.size≤s.heap.objs.size:=Nat.le_trans I.ok.above (Nat.le_of_lt I.lt)
theorem Inv.nofs (I:Inv X pins σ H s) {a:Addr} (h:s.heap.objs.size≤a):a∉X.fs:=fun hb=>by
 obtain ⟨_,o,ho,_⟩:=I.ok.funs.mem hb
 exact absurd (Nat.lt_of_lt_of_le (Heap.lt_size ho) (Nat.le_trans I.sz h)) (Nat.lt_irrefl _)
theorem Inv.cne (I:Inv X pins σ H s):∀x c,X.env.cells.lookup x=some c→c≠X.env.locals:=fun x c e z=>by
 obtain ⟨v,o,ho,hd⟩:=I.cell x c e
 obtain ⟨m,⟨o',es,ep,ho',hd',_⟩,_⟩:=I.loc
 rw [z,ho'] at ho;cases ho;rw [hd'] at hd;cases hd
theorem Inv.funs (I:Inv X pins σ H s):s.heap.FunFrames X.base X.outer:=by
 have all:∀(l:List Env),(∀b∈kE l,b∈X.fs)→X.s₀.heap.FunFrames X.base l→s.heap.FunFrames X.base l:=by
  intro l
  induction l with
  |nil=>intro _ _;trivial
  |cons env r ih =>
   intro hs hl
   obtain ⟨hk,⟨L,o,hf,hn,ho,hd⟩,hr⟩:=hl
   have hL:L∈X.fs:=hs L (by unfold kE;rw [List.filterMap_cons,hf];exact List.mem_cons_self)
   obtain ⟨sl,e⟩:=I.base.slot L o ho (I.ok.frf L hL) hL fun z=>I.ok.exfs L z hL
   exact ⟨hk,⟨L,_,hf,hn,e,hd⟩,ih (fun b hb=>hs b (by unfold kE;rw [List.filterMap_cons,hf];exact List.mem_cons_of_mem _ hb)) hr⟩
 exact all X.outer (fun _ hb=>hb) I.ok.funs
theorem Inv.stack (I:Inv X pins σ H s):s.heap.FunFrames X.base X.stack:=by
 rcases I.ok.stk with e|⟨e,hf⟩
 ·rw [e];exact I.funs
 ·rw [e]
  obtain ⟨m,hn,_⟩:=I.loc
  refine .cons (by rw [I.ok.kind];decide) hf hn ?_ I.funs
  exact Heap.get?_none_of_le (Nat.le_trans I.ok.bsz I.ok.above)
theorem Inv.stkSub (I:Inv X pins σ H s):∀b∈kE X.stack,b∈X.env.locals::X.fs:=fun b hb=>by
 rcases I.ok.stk with e|⟨e,hf⟩
 ·rw [e] at hb;exact List.mem_cons_of_mem _ hb
 ·rw [e] at hb
  unfold kE at hb
  rw [List.filterMap_cons,hf] at hb
  exact hb
theorem Inv.stkFree (I:Inv X pins σ H s):∀b∈kE X.stack,H b=none:=fun b hb=>by
 rcases List.mem_cons.mp (I.stkSub b hb) with e|hb
 ·rw [e];exact I.free
 ·obtain ⟨_,o,ho,_⟩:=I.ok.funs.mem hb
  exact I.base.free b o ho (I.ok.frf b hb) fun z=>I.ok.exfs b z hb
theorem Inv.step {g':Array GenState} {t':Nat} {d':Drawn} {ch:List Addr} (I:Inv X pins σ H s)
  (hch:∀b∈ch,(b∈X.ex∨X.s₀.heap.objs.size≤b)∧b≠X.env.locals∧(∀x c,X.env.cells.lookup x=some c→c≠b)∧∀p∈X.pn++pins,p.1≠b)
  (keep:∀b o,b≠X.env.locals→b∉X.fs→b∉ch→s.heap.get? b=some o→H b=none→h'.get? b=some o)
  (slot:∀b o,b≠X.env.locals→b∈X.fs→b∉ch→s.heap.get? b=some o→H b=none→∃sl,h'.get? b=some {o with slots:=sl}) (free:∀b o,b∉ch→s.heap.get? b=some o→H b=none→H' b=none)
  (there:∀b o,b∉ch→s.heap.get? b=some o→∃o',h'.get? b=some o')
  (tups:∀b xs,H b=some (.tup xs)→H' b=some (.tup xs)) (frzs:∀b o u,H b=some (.frz o u)→H' b=some (.frz o u)) (tbls:∀b ps,H b=some (.tbl ps)→∃more,H' b=some (.tbl (ps++more)))
  (ns:∀m,s.heap.Ns X.env.locals m→h'.Ns X.env.locals m) (hok:HOk X.prog X.w H' h') (hg:AllBare g') :
  Inv X pins σ H' {s with heap:=h',gens:=g',drawn:=d',toks:=t'}:=by
 have neL:∀b o,X.s₀.heap.get? b=some o→b≠X.env.locals:=fun b o e=>Nat.ne_of_lt (Nat.lt_of_lt_of_le (Heap.lt_size e) I.ok.above)
 have neC:∀b o,X.s₀.heap.get? b=some o→b∉X.ex→b∉ch:=fun b o e hx hb=>by
  rcases (hch b hb).1 with z|z
  ·exact hx z
  ·exact absurd (Nat.lt_of_lt_of_le (Heap.lt_size e) z) (Nat.lt_irrefl _)
 have cellK:∀x c,X.env.cells.lookup x=some c→∀v,s.heap.IsCell c v→h'.IsCell c v:=fun x c e v ⟨o,ho,hd⟩=>by
  have nch:c∉ch:=fun z=>(hch c z).2.2.1 x c e rfl
  by_cases hc:c∈X.fs
  ·obtain ⟨sl,q⟩:=slot c o (I.cne x c e) hc nch ho (I.freeC x c e)
   exact ⟨_,q,hd⟩
  ·exact ⟨o,keep c o (I.cne x c e) hc nch ho (I.freeC x c e),hd⟩
 refine ⟨I.ok,I.os,hg,⟨fun b o e n hb hx=>?_,fun b o e n hb hx=>?_,fun b o e n hx=>?_,fun b o e hx=>?_,fun b xs e=>tups b xs (I.base.tups b xs e),fun b o xs e=>frzs b o xs (I.base.frzs b o xs e),fun b ps e=>?_⟩,?_,fun x c e=>?_,?_,fun x c e=>?_,fun p hp=>?_,hok,I.len⟩
 ·exact keep b o (neL b o e) hb (neC b o e hx) (I.base.keep b o e n hb hx) (I.base.free b o e n hx)
 ·obtain ⟨sl,e1⟩:=I.base.slot b o e n hb hx
  obtain ⟨sl',e2⟩:=slot b _ (neL b o e) hb (neC b o e hx) e1 (I.base.free b o e n hx)
  exact ⟨sl',e2⟩
 ·obtain ⟨o',e1⟩:=I.base.there b o e hx
  exact free b o' (neC b o e hx) e1 (I.base.free b o e n hx)
 ·obtain ⟨o',e1⟩:=I.base.there b o e hx
  exact there b o' (neC b o e hx) e1
 ·obtain ⟨m1,e1⟩:=I.base.tbls b ps e
  obtain ⟨m2,e2⟩:=tbls b _ e1
  exact ⟨m1++m2,by rw [e2,Array.append_assoc]⟩
 ·obtain ⟨m,hn,hl⟩:=I.loc
  refine ⟨m,ns m hn,fun i x v e1 e2 e3=>?_⟩
  obtain ⟨u,r,l⟩:=hl i x v e1 e2 e3
  refine ⟨u,r,?_⟩
  rcases l with l|⟨k,c,e,z⟩
  ·exact .inl l
  ·exact .inr ⟨k,c,e,cellK x c e _ z⟩
 ·obtain ⟨v,z⟩:=I.cell x c e
  exact ⟨v,cellK x c e v z⟩
 ·obtain ⟨m,⟨o,_,_,ho,_⟩,_⟩:=I.loc
  exact free _ o (fun z=>(hch _ z).2.1 rfl) ho I.free
 ·obtain ⟨v,o,ho,hd⟩:=I.cell x c e
  exact free c o (fun z=>(hch c z).2.2.1 x c e rfl) ho (I.freeC x c e)
 ·obtain ⟨e,n,ne,nf,d⟩:=I.pin p hp
  have nch:p.1∉ch:=fun z=>(hch p.1 z).2.2.2 p hp rfl
  exact ⟨keep p.1 p.2 ne nf nch e n,free p.1 p.2 nch e n,ne,nf,d⟩
theorem Inv.un {t':Nat} (I:Inv X pins σ H s) (u:Un X.fs [] H H' s.heap h') (hok:HOk X.prog X.w H' h'):Inv X pins σ H' {s with heap:=h',toks:=t'}:=by
  obtain ⟨m,⟨o,es,ep,ho,r⟩,_⟩:=id I.loc
  obtain ⟨sl,hL⟩:=u.any ho I.free (by simp)
  exact I.step (g':=s.gens) (d':=s.drawn) (ch:=[]) (fun _ z=>nomatch z) (fun b o _ hb _ e n=>u.keep b o e n hb (by simp)) (fun b o _ hb _ e n=>u.slot b o e n hb (by simp)) (fun b o _ e n=>u.free b o e n (by simp)) (fun b o _ e=>u.there b o e (by simp)) u.tups u.frzs u.tbls (fun m' hm=>by
    obtain ⟨o',es',ep',ho',r'⟩:=hm
    rw [ho] at ho';cases ho'
    exact ⟨_,es',ep',hL,r'⟩) hok I.bare
theorem Inv.call {g':Array GenState} {t':Nat} {d':Drawn} {ch:List Addr} (I:Inv X pins σ H s) (u:Un (kE X.stack) ch H H' s.heap h') (hok:HOk X.prog X.w H' h') (hg:AllBare g')
  (hch:∀b∈ch,(b∈X.ex∨X.s₀.heap.objs.size≤b)∧b≠X.env.locals∧(∀x c,X.env.cells.lookup x=some c→c≠b)∧∀p∈X.pn++pins,p.1≠b) :
  Inv X pins σ H' {s with heap:=h',gens:=g',drawn:=d',toks:=t'}:=by
 obtain ⟨m,⟨o,es,ep,ho,r⟩,_⟩:=id I.loc
 obtain ⟨sl,hL⟩:=u.any ho I.free fun z=>(hch _ z).2.1 rfl
 exact I.step (ch:=ch) hch (fun b o hL hb hc e n=>u.keep b o e n (fun z=>(List.mem_cons.mp (I.stkSub b z)).elim hL hb) hc) (fun b o _ _ hc e n=>u.any e n hc) (fun b o hc e n=>u.free b o e n hc) (fun b o hc e=>u.there b o e hc) u.tups u.frzs u.tbls (fun m' hm=>by
  obtain ⟨o',es',ep',ho',r'⟩:=hm
  rw [ho] at ho';cases ho'
  exact ⟨_,es',ep',hL,r'⟩) hok hg
theorem Inv.turned {t':Nat} {it:Addr} (I:Inv X pins σ H s) (k:∀b o,b≠it→s.heap.get? b=some o→h'.get? b=some o) (hn:H it=none) (hL:it≠X.env.locals)
    (h1:it∈X.ex∨X.s₀.heap.objs.size≤it) (h2:∀x c,X.env.cells.lookup x=some c→c≠it) (h3:∀p∈X.pn++pins,p.1≠it):Inv X pins σ H {s with heap:=h',toks:=t'}:=by
  have nit:∀b u,H b=some u→b≠it:=fun b u e z=>by rw [z,hn] at e;cases e
  refine I.step (g':=s.gens) (d':=s.drawn) (ch:=[it]) (fun b hb=>?_) (fun b o _ _ hc e _=>k b o (fun z=>hc (by simp [z])) e) (fun b o _ _ hc e _=>⟨o.slots,k b o (fun z=>hc (by simp [z])) e⟩) (fun _ _ _ _ n=>n)
    (fun b o hc e=>⟨o,k b o (fun z=>hc (by simp [z])) e⟩) (fun _ _ e=>e) (fun _ _ _ e=>e) (fun b ps e=>⟨#[],by rw [e];simp⟩) (fun m hm=>?_) (fun b u e=>?_) I.bare
  · have e:b=it:=by simpa using hb
    subst e
    exact ⟨h1,hL,h2,h3⟩
  · obtain ⟨o,es,ep,ho,r⟩:=hm
    exact ⟨o,es,ep,k _ o (Ne.symm hL) ho,r⟩
  · refine (I.hok b u e).stay (fun c v hc q=>k c v ?_ q) (fun _ q=>q) fun _ _ q=>q
    rcases hc with z|z
    · rw [z];exact nit b u e
    · exact nit c _ z
theorem Inv.tok (I:Inv X pins σ H s) (t:Nat):Inv X pins σ H {s with toks:=t}:=I.un (h':=s.heap) (t':=t) Un.refl I.hok
theorem Inv.kept {t':Nat} (I:Inv X pins σ H s) (k:∀b u,s.heap.get? b=some u→h'.get? b=some u):Inv X pins σ H {s with heap:=h',toks:=t'}:=I.un (Un.kept k) (I.hok.kept k)
theorem Inv.laid {a:Addr} {o:HO} {t':Nat} (I:Inv X pins σ H s) (k:∀b u,s.heap.get? b=some u→h'.get? b=some u) (hp:s.heap.objs.size≤a) (new:ObjOk X.prog X.w (upd H a o) h' a o) :
  Inv X pins σ (upd H a o) {s with heap:=h',toks:=t'}:=I.un (Un.laid k hp (I.hok.fresh hp)) (I.hok.laid k hp new)
theorem Inv.write {x e:Addr} {o:HO} {t':Nat} (I:Inv X pins σ H s) (mu:dE (H x)) (he:e=x∨H e=some (.own x)) (k:∀b u,b≠e→s.heap.get? b=some u→h'.get? b=some u) (heo:∃u,h'.get? e=some u)
  (new:ObjOk X.prog X.w (upd H x o) h' x o):Inv X pins σ (upd H x o) {s with heap:=h',toks:=t'}:=I.un (Un.write mu he k heo) (I.hok.write mu he k heo new)
theorem Inv.pins_of {pins':List (Addr×Obj)} (I:Inv X pins σ H s) (h:∀p∈pins',s.heap.get? p.1=some p.2∧H p.1=none∧p.1≠X.env.locals∧p.1∉X.fs∧∀v,p.2.data≠.cell v):Inv X pins' σ H s :=
 ⟨I.ok,I.os,I.bare,I.base,I.loc,I.cell,I.free,I.freeC,fun p hp=>(List.mem_append.mp hp).elim (fun z=>I.pin p (List.mem_append_left _ z)) (h p),I.hok,I.len⟩
theorem oI {N:List Str} (hN:N.Nodup) {i j:Nat} {x:Str} (a:N[i]?=some x) (b:N[j]?=some x):i=j:=by
 obtain ⟨h1,e1⟩:=List.getElem?_eq_some_iff.mp a
 obtain ⟨h2,e2⟩:=List.getElem?_eq_some_iff.mp b
 exact (List.getElem_inj hN).mp (e1.trans e2.symm)
theorem mM {M:Model} {A:Around} {E:Value→Shared→Prop} {i:Nat} {x:Str} {v:V} {u:Value} {Q:Unit→Shared→Prop} (I:Inv X pins σ H s) (hN:X.N.Nodup) (hi:X.N[i]?=some x) (hx:dF X.env.scope x) (r:RelV v u)
  (h:∀s',Inv X pins (σ.set i (some v)) H s'→(∃a,Heap.SameBut a s.heap s'.heap∧(a=X.env.locals∨X.env.cells.lookup x=some a))→Q () s') (hf:X.fn x=true∨X.env.scope.names.lookup x=some .local:=by first|exact .inl rfl|exact .inr rfl|assumption):wpAny M A (storeName X.env x u) Q E s:=by
 obtain ⟨m,hn,hl⟩:=id I.loc
 have hcls:(X.env.scope.kind == .class||(X.env.scope.kind == .module&&X.env.locals != X.env.globals))=false:=by rw [I.ok.kind];rfl
 have hiσ:i<σ.length:=by rw [I.len];exact (List.getElem?_eq_some_iff.mp hi).1
 have cne:=I.cne
 have tracked:∀{a:Addr} {h':Heap},(∃o,s.heap.get? a=some o∧H a=none)→Heap.SameBut a s.heap h'→HOk X.prog X.w H h':=fun {a h'} ha hs b ob e=>by
  obtain ⟨_,_,hfree⟩:=ha
  refine (I.hok b ob e).stay (fun c w' hc q=>(hs.2 c ?_).trans q) (fun _ q=>q) fun _ _ q=>q
  rintro rfl
  rcases hc with rfl|hc
  ·rw [hfree] at e;cases e
  ·rw [hfree] at hc;cases hc
 rcases hx with hk|hk
 ·refine wpAny_storeName_local hk hn (fun h' hn' hs=>?_) hcls
  obtain ⟨oL,_,_,hoL,_⟩:=id hn
  refine h _ ⟨I.ok,I.os,I.bare,⟨fun b o e n hb hx=>?_,fun b o e n hb hx=>?_,I.base.free,fun b o e hx=>?_,I.base.tups,I.base.frzs,I.base.tbls⟩,⟨_,hn',fun j y v' e1 e2 e3=>?_⟩,fun y c e=>?_,I.free,I.freeC,fun p hp=>?_,tracked ⟨oL,hoL,I.free⟩ hs,by simpa using I.len⟩ ⟨_,hs,.inl rfl⟩
  ·exact (hs.2 b (Nat.ne_of_lt (Nat.lt_of_lt_of_le (Heap.lt_size e) I.ok.above))).trans (I.base.keep b o e n hb hx)
  ·obtain ⟨sl,e1⟩:=I.base.slot b o e n hb hx
   exact ⟨sl,(hs.2 b (Nat.ne_of_lt (Nat.lt_of_lt_of_le (Heap.lt_size e) I.ok.above))).trans e1⟩
  ·obtain ⟨o',e1⟩:=I.base.there b o e hx
   exact ⟨o',(hs.2 b (Nat.ne_of_lt (Nat.lt_of_lt_of_le (Heap.lt_size e) I.ok.above))).trans e1⟩
  ·by_cases hj:j=i
   ·subst hj
    rw [hi] at e1;cases e1
    rw [List.getElem?_set_self hiσ] at e2
    cases e2
    exact ⟨u,r,.inl ⟨hk,by simp⟩⟩
   ·rw [List.getElem?_set_ne (Ne.symm hj)] at e2
    obtain ⟨u',r',q⟩:=hl j y v' e1 e2 e3
    refine ⟨u',r',?_⟩
    rcases q with ⟨k,e⟩|⟨k,c,e,z⟩
    ·refine .inl ⟨k,?_⟩
     have:y≠x:=fun e=>hj (oI hN e1 (e▸hi))
     simp [this,e]
    ·exact .inr ⟨k,c,e,z.sameBut hs (cne y c e)⟩
  ·obtain ⟨w',z⟩:=I.cell y c e
   exact ⟨w',z.sameBut hs (cne y c e)⟩
  ·obtain ⟨e,n,ne,nf,d⟩:=I.pin p hp
   exact ⟨(hs.2 p.1 ne).trans e,n,ne,nf,d⟩
 ·have hfn:X.fn x=true:=by
   rcases hf with z|z
   ·exact z
   ·rw [z] at hk;cases hk
  obtain ⟨c,hc⟩:=I.ok.has x (.inl hk)
  obtain ⟨w',z⟩:=I.cell x c hc
  refine wpAny_storeName_cell I.ok.kind hk hc z (fun h' hc' hs=>?_)
  obtain ⟨oc,hoc,hocd⟩:=id z
  refine h {s with heap:=h'} ⟨I.ok,I.os,I.bare,⟨fun b o e n hb hx=>?_,fun b o e n hb hx=>?_,I.base.free,fun b o e hx=>?_,I.base.tups,I.base.frzs,I.base.tbls⟩,⟨m,hn.sameBut hs (Ne.symm (cne x c hc)),fun j y v' e1 e2 e3=>?_⟩,fun y c' e=>?_,I.free,I.freeC,fun p hp=>?_,tracked ⟨oc,hoc,I.freeC x c hc⟩ hs,by simpa using I.len⟩ ⟨c,hs,.inr hc⟩
  ·exact (hs.2 b (Nat.ne_of_lt (Nat.lt_of_lt_of_le (Heap.lt_size e) (I.ok.cab x c hfn hc)))).trans (I.base.keep b o e n hb hx)
  ·obtain ⟨sl,e1⟩:=I.base.slot b o e n hb hx
   exact ⟨sl,(hs.2 b (Nat.ne_of_lt (Nat.lt_of_lt_of_le (Heap.lt_size e) (I.ok.cab x c hfn hc)))).trans e1⟩
  ·obtain ⟨o',e1⟩:=I.base.there b o e hx
   exact ⟨o',(hs.2 b (Nat.ne_of_lt (Nat.lt_of_lt_of_le (Heap.lt_size e) (I.ok.cab x c hfn hc)))).trans e1⟩
  ·by_cases hj:j=i
   ·subst hj
    rw [hi] at e1;cases e1
    rw [List.getElem?_set_self hiσ] at e2
    cases e2
    exact ⟨u,r,.inr ⟨.inl hk,c,hc,hc'⟩⟩
   ·rw [List.getElem?_set_ne (Ne.symm hj)] at e2
    obtain ⟨u',r',q⟩:=hl j y v' e1 e2 e3
    refine ⟨u',r',?_⟩
    rcases q with q|⟨k,c',e,z'⟩
    ·exact .inl q
    ·refine .inr ⟨k,c',e,z'.sameBut hs ?_⟩
     rintro rfl
     exact hj (oI hN e1 (I.ok.inj _ _ _ e hc▸hi))
  ·by_cases hcc:c'=c
   ·subst hcc;exact ⟨_,hc'⟩
   ·obtain ⟨w2,z2⟩:=I.cell y c' e
    exact ⟨w2,z2.sameBut hs hcc⟩
  ·obtain ⟨e,n,ne,nf,d⟩:=I.pin p hp
   refine ⟨(hs.2 p.1 ?_).trans e,n,ne,nf,d⟩
   intro q
   rw [q,hoc] at e
   have q':oc=p.2:=Option.some.inj e
   exact d w' (by rw [← q'];exact hocd)
theorem nX {M:Model} {A:Around} {E:Value→Shared→Prop} {i:Nat} {x:Str} {v:V} {u:Value} {Q:Unit→Shared→Prop} (I:Inv X pins σ H s) (hN:X.N.Nodup) (hi:X.N[i]?=some x) (hx:dF X.env.scope x) (r:RelV v u)
  (h:∀s',Inv X pins (σ.set i (some v)) H s'→Q () s') (hf:X.fn x=true∨X.env.scope.names.lookup x=some .local:=by first|exact .inl rfl|exact .inr rfl|assumption):wpAny M A (storeName X.env x u) Q E s :=
 mM I hN hi hx r (fun s' I' _=>h s' I') hf
theorem Inv.call' {s':Shared} {ch:List Addr} (I:Inv X pins σ H s) (ho:s'.os=s.os) (u:Un (kE X.stack) ch H H' s.heap s'.heap) (hok:HOk X.prog X.w H' s'.heap) (hg:AllBare s'.gens)
  (hch:∀b∈ch,(b∈X.ex∨X.s₀.heap.objs.size≤b)∧b≠X.env.locals∧(∀x c,X.env.cells.lookup x=some c→c≠b)∧∀p∈X.pn++pins,p.1≠b):Inv X pins σ H' s':=by
 obtain ⟨h',g',d',t',o'⟩:=s'
 have e:o'=s.os:=ho
 subst e
 exact I.call (g':=g') (t':=t') (d':=d') u hok hg hch
end
abbrev XK:=Value→Option Addr→Hp→Prop
abbrev St:=List (Option V)
abbrev VK:=V→Hp→Prop
abbrev TE:=St→Hp→VK→Prop
abbrev TT:=St→Hp→(Bool→Hp→Prop)→Prop
abbrev TA:=St→Hp→(List V→Hp→Prop)→Prop
structure Ends where
 nx:St→Hp→Prop
 rt:VK
 bk:St→Hp→Prop:=fun _ _=>False
 ct:St→Hp→Prop:=fun _ _=>False
abbrev TS:=Ends→St→Hp→Prop
def EP (X:Cx) (pins:List (Addr×Obj)) (σ:St) (Q:VK) (u:Value) (s':Shared):Prop:=∃v H',Inv X pins σ H' s'∧RelV v u∧Q v H'
def TP (X:Cx) (pins:List (Addr×Obj)) (σ:St) (Q:Bool→Hp→Prop) (b:Bool) (s':Shared):Prop:=∃H',Inv X pins σ H' s'∧Q b H'
def AP (X:Cx) (pins:List (Addr×Obj)) (σ:St) (Q:List V→Hp→Prop) (us:List Value) (s':Shared):Prop:=∃vs H',Inv X pins σ H' s'∧Vals vs us∧Q vs H'
def SP (X:Cx) (pins:List (Addr×Obj)) (D:Ends) (f:Flow) (s':Shared):Prop :=
 match f with
 |.next=>∃σ' H',Inv X pins σ' H' s'∧D.nx σ' H'
 |.brk=>∃σ' H',Inv X pins σ' H' s'∧D.bk σ' H'
 |.cont=>∃σ' H',Inv X pins σ' H' s'∧D.ct σ' H'
 |.ret u=>∃v σ' H',Inv X pins σ' H' s'∧RelV v u∧D.rt v H'
def PE (X:Cx) (e:Expr) (t:TE):Prop :=
 ∀(pins:List (Addr×Obj)) (s:Shared) (σ:St) (H:Hp) (Q:VK),Inv X pins σ H s→t σ H Q→wpAny (model X.prog X.w) X.A (eval e X.env) (EP X pins σ Q) X.xe s
def PT (X:Cx) (e:Expr) (t:TT):Prop :=
 ∀(pins:List (Addr×Obj)) (s:Shared) (σ:St) (H:Hp) (Q:Bool→Hp→Prop),Inv X pins σ H s→t σ H Q→wpAny (model X.prog X.w) X.A (isTrue e X.env (eval e X.env)) (TP X pins σ Q) X.xe s
def PW (X:Cx) (e:Expr) (t:TT):Prop :=
 ∀(whole:Sem Value) (pins:List (Addr×Obj)) (s:Shared) (σ:St) (H:Hp) (Q:Bool→Hp→Prop),Inv X pins σ H s→t σ H Q→wpAny (model X.prog X.w) X.A (isTrue e X.env whole) (TP X pins σ Q) X.xe s
theorem PW.pt {X:Cx} {e:Expr} {t:TT} (h:PW X e t):PT X e t:=h _
def PA (X:Cx) (es:List Expr) (t:TA):Prop :=
 ∀(pos:Pos) (pins:List (Addr×Obj)) (s:Shared) (σ:St) (H:Hp) (Q:List V→Hp→Prop),Inv X pins σ H s→t σ H Q→wpAny (model X.prog X.w) X.A (spliced (backTo pos (starEach es X.env))) (AP X pins σ Q) X.xe s
def PS (X:Cx) (st:Stmt) (t:TS):Prop :=
 ∀(pins:List (Addr×Obj)) (s:Shared) (σ:St) (H:Hp) (D:Ends),Inv X pins σ H s→t D σ H→wpAny (model X.prog X.w) X.A (exec st X.env) (SP X pins D) X.xe s
def PSs (X:Cx) (st:List Stmt) (t:TS):Prop :=
 ∀(pins:List (Addr×Obj)) (s:Shared) (σ:St) (H:Hp) (D:Ends),Inv X pins σ H s→t D σ H→wpAny (model X.prog X.w) X.A (execs st X.env) (SP X pins D) X.xe s
theorem jN {α:Type} {t:Sem α} {Q Q':α→Shared→Prop} {M:Model} {A:Around} {E:Value→Shared→Prop} {s:Shared} (h:wpAny M A t Q E s) (hQ:∀a s,Q a s→Q' a s):wpAny M A t Q' E s:=wpAny_mono h hQ fun _ _ x=>x
end L2
namespace L2
open PySem PySem.Spec PyProof.Rows
section
variable {X:Cx}
def rS (i:Nat):TE:=fun σ H Q=>∃v,σ[i]?=some (some v)∧Q v H
def tC (v:V):TE:=fun _ H Q=>Q v H
theorem EE {i:Nat} {x:Str} {pos:Pos} (hN:X.N[i]?=some x) (hv:fA X.env.scope x) (hd:(x == ("__debug__":Str))=false:=by decide) (hcd:(x == ("__classdict__":Str))=false:=by decide):PE X (.Name x pos) (rS i):=by
 intro pins s σ H Q I h
 obtain ⟨v,e,h⟩:=h
 obtain ⟨m,hn,hl⟩:=I.loc
 obtain ⟨u,r,l⟩:=hl i x v hN e hv
 have fin:EP X pins σ Q u s:=⟨v,H,I,r,h⟩
 rcases l with ⟨hk,hm⟩|⟨hk,c,hc,hcell⟩
 ·exact wpAny_Name (wpAny_loadName_local I.ok.kind hk hn hm fin) hd
 ·rcases hk with hk|hk
  ·exact wpAny_Name (wpAny_loadName_cell I.ok.kind hk hc hcell fin) hd
  ·exact wpAny_Name (wpAny_loadName_free I.ok.kind hk hc hcell fin hcd) hd
theorem jC {i j pos}:PE X (.Constant (.int i) j pos) (tC (.int i)):=fun _ _ _ H _ I h=>wpAny_Constant_int ⟨.int i,H,I.tok _,⟨_,rfl⟩,h⟩
theorem yR {b j pos}:PE X (.Constant (.bool b) j pos) (tC (.bl b)):=fun _ _ _ H _ I h=>Constant_bool ⟨.bl b,H,I,rfl,h⟩
theorem EF {j pos}:PE X (.Constant .none j pos) (tC .non):=fun _ _ _ H _ I h=>Constant_none ⟨.non,H,I,rfl,h⟩
theorem j3 {x j pos}:PE X (.Constant (.str x) j pos) (tC (.str x)):=fun _ _ _ H _ I h=>Calls.Constant_str ⟨.str x,H,I.tok _,⟨_,rfl⟩,h⟩
def Gl (X:Cx) (x:Str):Prop:=X.env.kindOf x=some .globalImplicit
theorem cH {E:Value→Shared→Prop} {pins:List (Addr×Obj)} {s:Shared} {σ:St} {H:Hp} {x:Str} {u:Value} {pos:Pos} {Q:Value→Shared→Prop} (I:Inv X pins σ H s) (hg:Gl X x) (hm:X.mg x=some u) (h:Q u s)
  (hd:(x == ("__debug__":Str))=false:=by decide):wpAny (model X.prog X.w) X.A (eval (.Name x pos) X.env) Q E s :=
 Calls.Name_function_global I.ok.kind hg (Calls.loadGlobal_global (by rw [I.ok.glob];exact I.mod.glob.keeps I.bk) hm h) hd
theorem Z2 {E:Value→Shared→Prop} {pins:List (Addr×Obj)} {s:Shared} {σ:St} {H:Hp} {x:Str} {u:Value} {pos:Pos} {Q:Value→Shared→Prop} (I:Inv X pins σ H s) (hg:Gl X x) (hm:X.mg x=none) (hv:bootBuiltins x=some u) (h:Q u s)
  (hn:x≠"__name__":=by decide) (hd:(x == ("__debug__":Str))=false:=by decide):wpAny (model X.prog X.w) X.A (eval (.Name x pos) X.env) Q E s:=by
 obtain ⟨mb,h1,h2⟩:=I.mod.blt
 exact Calls.Name_function_global I.ok.kind hg (Calls.loadGlobal_builtin (by rw [I.ok.glob];exact I.mod.glob.keeps I.bk) hm (by rw [I.ok.blt];exact h1.keeps I.bk) ((h2 x hn).trans hv) h) hd
theorem cE {x:Str} {v:V} {u:Value} {pos:Pos} (hg:Gl X x) (hm:X.mg x=some u) (r:RelV v u) (hd:(x == ("__debug__":Str))=false:=by decide):PE X (.Name x pos) (tC v) :=
 fun _ _ _ H _ I h=>cH I hg hm ⟨v,H,I,r,h⟩ hd
variable {a b:Expr} {ta tb:TE} {pos:Pos}
def tB (t:TE):TT:=fun σ H Q=>t σ H fun x H1=>∃c,x=.bl c∧Q c H1
theorem zW {e:Expr} {t:TE} (h:PE X e t) (he:∀whole,isTrue e X.env whole=(do let v ← whole;standAt e.pos;holding [v] (truthy v)):=by intro _;rfl):PT X e (tB t):=by
 intro pins s σ H Q I hw
 refine isTrue_plain (jN (h pins s σ H _ I hw) fun v s1 ⟨x,H1,I1,r1,q1⟩=>?_) (he _)
 obtain ⟨d,rfl,q⟩:=q1
 cases r1
 exact wpAny_truthy_bool ⟨H1,I1,q⟩
variable {tA tB':TT} {rest:List Expr}
def GD (t u:TT):TT:=fun σ H Q=>t σ H fun c H1=>if c=true then u σ H1 Q else Q false H1
def GW (t u:TT):TT:=fun σ H Q=>t σ H fun c H1=>if c=true then Q true H1 else u σ H1 Q
def FY (t:TT):TT:=fun σ H Q=>t σ H fun c H1=>Q (!c) H1
theorem C2 (ha:PT X a tA):PW X (.BoolOp .And [a] pos) tA:=by
 intro wh pins s σ H Q I h
 refine isTrue_and (jN (ha pins s σ H Q I h) fun c s1 e=>?_)
 cases c with
 |true=>exact isTrue_and_nil e
 |false=>exact e
theorem eM (ha:PT X a tA):PW X (.BoolOp .Or [a] pos) tA:=by
 intro wh pins s σ H Q I h
 refine isTrue_or (jN (ha pins s σ H Q I h) fun c s1 e=>?_)
 cases c with
 |false=>exact isTrue_or_nil e
 |true=>exact e
theorem D8 (ha:PT X a tA) (hb:PW X (.BoolOp .And (b::rest) pos) tB'):PW X (.BoolOp .And (a::b::rest) pos) (GD tA tB'):=by
 intro wh pins s σ H Q I h
 refine isTrue_and (jN (ha pins s σ H _ I h) fun c s1 ⟨H1,I1,q1⟩=>?_)
 cases c with
 |true=>exact hb wh pins s1 σ H1 Q I1 q1
 |false=>exact ⟨H1,I1,q1⟩
theorem cO (ha:PT X a tA) (hb:PW X (.BoolOp .Or (b::rest) pos) tB'):PW X (.BoolOp .Or (a::b::rest) pos) (GW tA tB'):=by
 intro wh pins s σ H Q I h
 refine isTrue_or (jN (ha pins s σ H _ I h) fun c s1 ⟨H1,I1,q1⟩=>?_)
 cases c with
 |true=>exact ⟨H1,I1,q1⟩
 |false=>exact hb wh pins s1 σ H1 Q I1 q1
theorem D9 (ha:PT X a tA):PT X (.UnaryOp .Not a pos) (FY tA):=by
 intro pins s σ H Q I h
 exact isTrue_not (ha pins s σ H (fun c H1=>Q (!c) H1) I h)
def FA (ta tb:TE):TE:=fun σ H Q=>ta σ H fun x H1=>∃c,x=.bl c∧if c=true then tb σ H1 Q else Q (.bl false) H1
theorem pU {op} {t:TE} (h:PE X a t):PE X (.BoolOp op [a] pos) t:=fun pins s σ H Q I hw=>BoolOp_one (h pins s σ H Q I hw)
theorem pV (ha:PE X a ta) (hb:PE X (.BoolOp .And (b::rest) pos) tb):PE X (.BoolOp .And (a::b::rest) pos) (FA ta tb):=by
 intro pins s σ H Q I h
 refine BoolOp_and (jN (ha pins s σ H _ I h) fun v s1 ⟨x,H1,I1,r1,q1⟩=>?_)
 obtain ⟨c,rfl,q1⟩:=q1
 cases r1
 refine wpAny_truthy_bool ?_
 cases c with
 |true=>exact hb pins s1 σ H1 Q I1 q1
 |false=>exact ⟨.bl false,H1,I1,rfl,q1⟩
def GX (t:TT) (ta tb:TE):TE:=fun σ H Q=>t σ H fun c H1=>if c=true then ta σ H1 Q else tb σ H1 Q
theorem zD {c:Expr} (hc:PT X c tA) (ha:PE X a ta) (hb:PE X b tb):PE X (.IfExp c a b pos) (GX tA ta tb):=by
 intro pins s σ H Q I h
 refine wpAny_IfExp (jN (hc pins s σ H _ I h) fun d s1 ⟨H1,I1,q1⟩=>?_)
 cases d with
 |true=>exact ha pins s1 σ H1 Q I1 q1
 |false=>exact hb pins s1 σ H1 Q I1 q1
end
end L2
namespace L2
open PySem PySem.Spec PyProof.Rows
def SqL (K:PySem.W.Frag) (H:Hp) (a:Addr) (xs:List V):Prop :=
 Rd H a (.lst xs)∨
  ∃(o:Obj) (its:Array Value) (n:Nat),K.lookup a=some o∧o.cls=.type "list"∧o.dict=none∧o.data=.seq its n∧its.size≤sizeLine∧Vals xs its.toList
def SqT (K:PySem.W.Frag) (H:Hp) (a:Addr) (xs:List V):Prop :=
 Rd H a (.tup xs)∨
  ∃(o:Obj) (its:Array Value) (n:Nat),K.lookup a=some o∧o.cls=.type "tuple"∧o.data=.seq its n∧its.size≤sizeLine∧Vals xs its.toList
def GP:Value→Option V
 |.none=>some .non
 |.bool b=>some (.bl b)
 |.int i _=>some (.int i)
 |.str x _=>some (.str x)
 |.bytes b _=>some (.byt b)
 |.float b _=>some (.flt b)
 |.ref a=>some (.ref a)
 |.type n=>some (.ty n)
 |_=>none
theorem RelV.abs {x:V} {u:Value} (r:RelV x u):GP u=some x:=by
 cases x with
 |non=>cases r;rfl
 |bl _=>cases r;rfl
 |int _=>obtain ⟨t,rfl⟩:=r;rfl
 |str _=>obtain ⟨t,rfl⟩:=r;rfl
 |byt _=>obtain ⟨t,rfl⟩:=r;rfl
 |flt _=>obtain ⟨t,rfl⟩:=r;rfl
 |ref _=>cases r;rfl
 |ty _=>cases r;rfl
theorem RelV.inj {x y:V} {u:Value} (r:RelV x u) (q:RelV y u):x=y:=Option.some.inj (r.abs.symm.trans q.abs)
theorem Vals.inj:∀{xs ys:List V} {us:List Value},Vals xs us→Vals ys us→xs=ys
 |_,_,_,.nil,.nil=>rfl
 |_,_,_,.cons r t,.cons r' t'=>by rw [r.inj r',Vals.inj t t']
section
variable {X:Cx} {pins:List (Addr×Obj)} {σ:St} {H:Hp} {s:Shared} {a:Addr} {xs ys:List V}
theorem SqL.of {K:PySem.W.Frag} (h:H a=some (.lst xs)):SqL K H a xs:=.inl (.inl h)
theorem SqT.of {K:PySem.W.Frag} (h:H a=some (.tup xs)):SqT K H a xs:=.inl (.inl h)
theorem Inv.list (I:Inv X pins σ H s) (h:SqL X.K H a xs):∃its:List Value,Vals xs its∧PlainL s.heap a its.toArray∧xs.length≤sizeLine:=by
 rcases h with h|⟨o,its,n,hk,hc,hd,hs,hz,r⟩
 ·obtain ⟨z,its,n,r,e⟩:=h.ok I.hok
  exact ⟨its,r,⟨_,n,e,rfl,rfl,rfl⟩,z⟩
 ·refine ⟨its.toList,r,⟨o,n,I.kIn a o hk,hc,hd,by simpa using hs⟩,?_⟩
  have e:=r.length
  simp only [Array.length_toList] at e
  omega
theorem Inv.tuple (I:Inv X pins σ H s) (h:SqT X.K H a xs):∃its:List Value,Vals xs its∧IsTup s.heap a its.toArray∧xs.length≤sizeLine:=by
 rcases h with h|⟨o,its,n,hk,hc,hs,hz,r⟩
 ·obtain ⟨z,its,r,p⟩:=h.ok I.hok
  exact ⟨its,r,p,z⟩
 ·refine ⟨its.toList,r,⟨o,I.kIn a o hk,hc,n,by simpa using hs⟩,?_⟩
  have e:=r.length
  simp only [Array.length_toList] at e
  omega
theorem Inv.list_inj (I:Inv X pins σ H s) (h:SqL X.K H a xs) (h':SqL X.K H a ys):xs=ys:=by
 obtain ⟨its,r,⟨o,n,e,_,_,d⟩,_⟩:=I.list h
 obtain ⟨its',r',⟨o',n',e',_,_,d'⟩,_⟩:=I.list h'
 rw [e] at e';cases e'
 rw [d] at d'
 injection d' with d1 _
 have:its=its':=by simpa using congrArg Array.toList d1
 subst this
 exact r.inj r'
theorem Inv.tuple_inj (I:Inv X pins σ H s) (h:SqT X.K H a xs) (h':SqT X.K H a ys):xs=ys:=by
 obtain ⟨its,r,⟨o,e,_,n,d⟩,_⟩:=I.tuple h
 obtain ⟨its',r',⟨o',e',_,n',d'⟩,_⟩:=I.tuple h'
 rw [e] at e';cases e'
 rw [d] at d'
 injection d' with d1 _
 have:its=its':=by simpa using congrArg Array.toList d1
 subst this
 exact r.inj r'
end
abbrev Cx.wish (X:Cx) (E:Value→Shared→Prop):Cx:={X with xe:=E}
abbrev Cx.nox (X:Cx):Cx:=X.wish fun _ _=>False
theorem Cx.Ok.wish {X:Cx} (ok:X.Ok) (E:Value→Shared→Prop):(X.wish E).Ok :=
 ⟨ok.mod,ok.kind,ok.glob,ok.blt,ok.above,ok.inj,ok.has,ok.cab,ok.hd,ok.frames,ok.stk,ok.exf,ok.bs,ok.bsz,ok.noex,ok.exfs,ok.funs,ok.frf⟩
theorem Cx.Ok.unwish {X:Cx} {E:Value→Shared→Prop} (ok:(X.wish E).Ok):X.Ok :=
 ⟨ok.mod,ok.kind,ok.glob,ok.blt,ok.above,ok.inj,ok.has,ok.cab,ok.hd,ok.frames,ok.stk,ok.exf,ok.bs,ok.bsz,ok.noex,ok.exfs,ok.funs,ok.frf⟩
section
variable {X:Cx} {pins:List (Addr×Obj)} {σ:St} {H:Hp} {s:Shared} {E:Value→Shared→Prop}
theorem Inv.wish (I:Inv X pins σ H s) (E:Value→Shared→Prop):Inv (X.wish E) pins σ H s:=⟨I.ok.wish E,I.os,I.bare,I.base,I.loc,I.cell,I.free,I.freeC,I.pin,I.hok,I.len⟩
theorem Inv.unwish (I:Inv (X.wish E) pins σ H s):Inv X pins σ H s:=⟨I.ok.unwish,I.os,I.bare,I.base,I.loc,I.cell,I.free,I.freeC,I.pin,I.hok,I.len⟩
theorem SP.unwish {D:Ends} {f:Flow} {s':Shared} (h:SP (X.wish E) pins D f s'):SP X pins D f s':=by
 cases f with
 |next=>obtain ⟨σ',H',I,q⟩:=h;exact ⟨σ',H',I.unwish,q⟩
 |brk=>obtain ⟨σ',H',I,q⟩:=h;exact ⟨σ',H',I.unwish,q⟩
 |cont=>obtain ⟨σ',H',I,q⟩:=h;exact ⟨σ',H',I.unwish,q⟩
 |ret u=>obtain ⟨v,σ',H',I,r,q⟩:=h;exact ⟨v,σ',H',I.unwish,r,q⟩
theorem PSs.nox {st:List Stmt} {t:TS} (h:PSs X.nox st t):PSs X st t:=fun pins s σ H D I hw =>
 wpAny_mono (h pins s σ H D (I.wish _) hw) (fun _ _ q=>q.unwish) fun _ _ z=>False.elim z
end
section
variable {X:Cx} {st:Stmt} {rest:List Stmt} {t u:TS} {e:Expr} {te:TE} {pos:Pos}
def E3:TS:=fun D σ H=>D.nx σ H
def FW (t u:TS):TS:=fun D σ H=>t {D with nx:=u D} σ H
theorem kQ:PSs X [] E3:=fun _ _ σ H _ I h=>wpAny_execs_nil ⟨σ,H,I,h⟩
theorem jI (h1:PS X st t) (h2:PSs X rest u):PSs X (st::rest) (FW t u):=by
 intro pins s σ H D I h
 refine wpAny_execs_cons (jN (h1 pins s σ H {D with nx:=u D} I h) fun f s1 q=>?_)
 cases f with
 |next =>
  obtain ⟨σ',H',I',q⟩:=q
  exact h2 pins s1 σ' H' D I' q
 |ret v=>exact q
 |brk=>exact q
 |cont=>exact q
theorem jJ (h1:PS X st t):PSs X [st] t:=by
 intro pins s σ H D I h
 refine wpAny_execs_cons (jN (h1 pins s σ H D I h) fun f s1 q=>?_)
 cases f with
 |next=>exact wpAny_execs_nil q
 |ret v=>exact q
 |brk=>exact q
 |cont=>exact q
def DX:TS:=fun D σ H=>D.bk σ H
theorem B3:PS X (.Break pos) DX:=fun _ _ σ H _ I h=>wpAny_Break ⟨σ,H,I,h⟩
theorem Inv.quiet {pins:List (Addr×Obj)} {σ:St} {H:Hp} {s:Shared} (I:Inv X pins σ H s):interactive X.env=false:=by simp [interactive,I.ok.kind]
def E4 (te:TE):TS:=fun D σ H=>te σ H fun _ H1=>D.nx σ H1
theorem zP (he:PE X e te) (hs:swapsWith e none pos.line X.env=pure false:=by rfl):PS X (.Expr e pos) (E4 te):=by
 intro pins s σ H D I h
 exact wpAny_Expr_any (jN (he pins s σ H _ I h) fun v s1 ⟨x,H1,I1,r1,q1⟩=>⟨σ,H1,I1,q1⟩) I.quiet hs
def FX (te:TE):TS:=fun D σ H=>te σ H D.rt
theorem jO (he:PE X e te):PS X (.Return (some e) pos) (FX te):=by
 intro pins s σ H D I h
 exact wpAny_Return_some (jN (he pins s σ H _ I h) fun v s1 ⟨x,H1,I1,r1,q1⟩=>⟨x,σ,H1,I1,r1,q1⟩)
def GA (c:TT) (t u:TS):TS:=fun D σ H=>c σ H fun b H1=>if b=true then t D σ H1 else u D σ H1
theorem kN {c:Expr} {a b:List Stmt} {tc:TT} (hc:PT X c tc) (ha:PSs X a t) (hb:PSs X b u):PS X (.If c a b pos) (GA tc t u):=by
 intro pins s σ H D I h
 refine wpAny_If (jN (hc pins s σ H _ I h) fun d s1 ⟨H1,I1,q1⟩=>?_)
 cases d with
 |true=>exact ha pins s1 σ H1 D I1 q1
 |false=>exact hb pins s1 σ H1 D I1 q1
end
abbrev TG:=V→St→Hp→(St→Hp→Prop)→Prop
abbrev JD:=List V→St→Hp→(St→Hp→Prop)→Prop
def PG (X:Cx) (target:Expr) (t:TG):Prop :=
 ∀(pins:List (Addr×Obj)) (s:Shared) (σ:St) (H:Hp) (v:V) (u:Value) (Q:St→Hp→Prop),Inv X pins σ H s→RelV v u→t v σ H Q→
  wpAny (model X.prog X.w) X.A (assign target X.env u) (fun _ s'=>∃σ' H',Inv X pins σ' H' s'∧Q σ' H') X.xe s
def dD (X:Cx) (ts:List Expr) (t:JD):Prop :=
 ∀(pins:List (Addr×Obj)) (s:Shared) (σ:St) (H:Hp) (vs:List V) (us:List Value) (Q:St→Hp→Prop),Inv X pins σ H s→Vals vs us→t vs σ H Q→
  wpAny (model X.prog X.w) X.A (assignInOrder ((assignEach ts X.env).map (·.2)) us) (fun _ s'=>∃σ' H',Inv X pins σ' H' s'∧Q σ' H') X.xe s
abbrev cX:=V→V→V→Hp→(Hp→Prop)→Prop
def iV (X:Cx) (t:cX):Prop :=
 ∀(pins:List (Addr×Obj)) (s:Shared) (σ:St) (H:Hp) (o i v:V) (ov iv u:Value) (Q:Hp→Prop),Inv X pins σ H s→RelV o ov→RelV i iv→RelV v u→t o i v H Q→
  wpAny (model X.prog X.w) X.A (setItem ov iv u) (fun _ s'=>∃H',Inv X pins σ H' s'∧Q H') X.xe s
abbrev fB:=V→V→Hp→VK→Prop
def i6 (X:Cx) (op:Operator) (t:fB):Prop :=
 ∀(pins:List (Addr×Obj)) (s:Shared) (σ:St) (H:Hp) (x y:V) (v u:Value) (Q:VK),Inv X pins σ H s→RelV x v→RelV y u→t x y H Q→
  wpAny (model X.prog X.w) X.A (inplaceOp op v u) (EP X pins σ Q) X.xe s
section
variable {X:Cx} {pos:Pos}
def eQ (i:Nat):TG:=fun v σ H Q=>Q (σ.set i (some v)) H
theorem j7 {i:Nat} {x:Str} (hN:X.N.Nodup) (hi:X.N[i]?=some x) (hx:dF X.env.scope x) (hf:X.fn x=true∨X.env.scope.names.lookup x=some .local:=by first|exact .inl rfl|exact .inr rfl|assumption):PG X (.Name x pos) (eQ i):=by
 intro pins s σ H v u Q I r h
 exact wpAny_assign_Name (nX I hN hi hx r (fun s' I'=>⟨_,H,I',h⟩) hf)
def GO:JD:=fun vs σ H Q=>vs=[]∧Q σ H
def FR (t:TG) (u:JD):JD:=fun vs σ H Q=>∃v r,vs=v::r∧t v σ H fun σ' H'=>u r σ' H' Q
theorem yF:dD X [] GO:=by
 intro pins s σ H vs us Q I r h
 obtain ⟨e,h⟩:=h
 subst e
 cases r
 exact assignInOrder_nil ⟨σ,H,I,h⟩
theorem kW {e:Expr} {es:List Expr} {t:TG} {u:JD} (h1:PG X e t) (h2:dD X es u)
  (hs:(assignEach (e::es) X.env).map (·.2)=assign e X.env::(assignEach es X.env).map (·.2):=by rfl):dD X (e::es) (FR t u):=by
 intro pins s σ H vs us Q I r h
 obtain ⟨v,vr,e1,h⟩:=h
 subst e1
 cases r with
 |cons r rr =>
  rw [hs]
  refine assignInOrder_cons (jN (h1 pins s σ H _ _ _ I r h) fun _ s1 ⟨σ1,H1,I1,q1⟩=>?_)
  exact h2 pins s1 σ1 H1 _ _ Q I1 rr q1
def r9 (K:PySem.W.Frag) (n:Nat) (t:JD):TG:=fun v σ H Q=>∃a xs,v=.ref a∧SqT K H a xs∧xs.length=n∧t xs σ H Q
theorem iF {es:List Expr} {k:Nat} {t:JD} {n:Nat} (hc:X.calm=true) (h:dD X es t)
  (hn:(assignEach es X.env).length=n:=by rfl) (hst:(assignEach es X.env).findIdx? (·.1)=none:=by rfl):PG X (.Tuple es k pos) (r9 X.K n t):=by
 intro pins s σ H v u Q I r hw
 obtain ⟨a,xs,e1,hq,hl,hw⟩:=hw
 subst e1
 cases r
 obtain ⟨its,rv,ht,hz⟩:=I.tuple hq
 refine assign_Tuple_tuple (I.ok.hd hc) ht (by simp [hn,← hl,rv.length]) hst fun h' hx=>?_
 have I1:Inv X pins σ H {s with heap:=h'}:=I.kept (t':=s.toks) fun b o e=>hx b o (Nat.ne_of_lt (Heap.lt_size e)) e
 exact h pins _ σ H xs _ Q I1 (by simpa using rv) hw
def GN (to ti:TE) (t:cX):TG:=fun v σ H Q=>to σ H fun o H1=>ti σ H1 fun i H2=>t o i v H2 fun H3=>Q σ H3
theorem ED {o i:Expr} {to ti:TE} {t:cX} (ho:PE X o to) (hi:PE X i ti) (hs:iV X t)
  (ha:∀v,assign (.Subscript o i pos) X.env v=(do
   let ov ← holding [v] (eval o X.env)
   let iv ← holding [v,ov] (eval i X.env)
   standAt pos
   holding [v,ov,iv] (setItem ov iv v)
   release [v,ov,iv] []):=by intro _;rfl):PG X (.Subscript o i pos) (GN to ti t):=by
 intro pins s σ H v u Q I r h
 rw [ha]
 refine wpAny_bind (wpAny_holding (jN (ho pins s σ H _ I h) fun ov s1 ⟨x,H1,I1,r1,q1⟩=>?_))
 refine wpAny_bind (wpAny_holding (jN (hi pins s1 σ H1 _ I1 q1) fun iv s2 ⟨y,H2,I2,r2,q2⟩=>?_))
 refine wpAny_bind (wpAny_standAt (wpAny_bind (wpAny_holding (jN (hs pins s2 σ H2 x y v ov iv u _ I2 r1 r2 r q2) fun _ s3 ⟨H3,I3,q3⟩=>?_))))
 exact wpAny_release ⟨σ,H3,I3,q3⟩
def rV (te:TE) (g:TG):TS:=fun D σ H=>te σ H fun x H1=>g x σ H1 D.nx
theorem EA {tg e:Expr} {te:TE} {g:TG} (he:PE X e te) (hg:PG X tg g) (hs:swapsWithSole [tg] e pos.line X.env=pure false:=by rfl) (hw:swappedStores [tg] e X.env=pure none:=by rfl)
  (h1:(assignEach [tg] X.env).map (·.2)=[assign tg X.env]:=by rfl):PS X (.Assign [tg] e pos) (rV te g):=by
 intro pins s σ H D I h
 refine wpAny_Assign_stores (jN (he pins s σ H _ I h) fun v s1 ⟨x,H1,I1,r1,q1⟩=>?_) hs hw
 rw [h1]
 exact jN (hg pins s1 σ H1 x v _ I1 r1 q1) fun _ s2 q=>q
theorem jT {i:Nat} {x:Str} {e:Expr} {te:TE} {pos':Pos} (hN:X.N.Nodup) (hi:X.N[i]?=some x) (hx:dF X.env.scope x) (he:PE X e te) (hs:swapsWith e (some (.Name x pos')) pos.line X.env=pure false:=by rfl) (hf:X.fn x=true∨X.env.scope.names.lookup x=some .local:=by first|exact .inl rfl|exact .inr rfl|assumption) :
  PS X (.Assign [.Name x pos'] e pos) (rV te (eQ i)):=by
 intro pins s σ H D I h
 refine wpAny_Assign_Name (jN (he pins s σ H _ I h) fun v s1 ⟨y,H1,I1,r1,q1⟩=>?_) hs
 exact nX I1 hN hi hx r1 (fun s2 I2=>⟨_,H1,I2,q1⟩) hf
def E9 (to ti te:TE) (tget:V→V→Hp→VK→Prop) (tip:fB) (tset:cX):TS:=fun D σ H=>to σ H fun o H1=>ti σ H1 fun i H2=>tget o i H2 fun x H3=>te σ H3 fun y H4=>tip x y H4 fun z H5=>tset o i z H5 fun H6=>D.nx σ H6
def sA (X:Cx) (t:V→V→Hp→VK→Prop):Prop :=
 ∀(pins:List (Addr×Obj)) (s:Shared) (σ:St) (H:Hp) (o i:V) (ov iv:Value) (Q:VK),Inv X pins σ H s→RelV o ov→RelV i iv→t o i H Q→
  wpAny (model X.prog X.w) X.A (getItem ov iv) (EP X pins σ Q) X.xe s
theorem gX {o i e:Expr} {to ti te:TE} {tget:V→V→Hp→VK→Prop} {tip:fB} {tset:cX} {op:Operator} {tpos:Pos} (ho:PE X o to) (hi:PE X i ti) (hg:sA X tget) (he:PE X e te) (hp:i6 X op tip) (hs:iV X tset)
  (ha:∀ov iv new,augStore i ov iv new=(do holding [new,ov,iv] (setItem ov iv new);release [new,ov,iv] [];pure .next):=by intros;rfl):PS X (.AugAssign (.Subscript o i tpos) op e pos) (E9 to ti te tget tip tset):=by
 intro pins s σ H D I h
 refine wpAny_AugAssign_SubscriptAny (jN (ho pins s σ H _ I h) fun ov s1 ⟨x1,H1,I1,r1,q1⟩=>?_) ha
 refine jN (hi pins s1 σ H1 _ I1 q1) fun iv s2 ⟨x2,H2,I2,r2,q2⟩=>?_
 refine jN (hg pins s2 σ H2 x1 x2 ov iv _ I2 r1 r2 q2) fun old s3 ⟨x3,H3,I3,r3,q3⟩=>?_
 refine jN (he pins s3 σ H3 _ I3 q3) fun v s4 ⟨x4,H4,I4,r4,q4⟩=>?_
 refine jN (hp pins s4 σ H4 x3 x4 old v _ I4 r3 r4 q4) fun new s5 ⟨x5,H5,I5,r5,q5⟩=>?_
 exact jN (hs pins s5 σ H5 x1 x2 x5 ov iv new _ I5 r1 r2 r5 q5) fun _ s6 ⟨H6,I6,q6⟩=>⟨σ,H6,I6,q6⟩
def sF (f:Int→Int→Int):fB:=fun x y H Q=>∃i j,x=.int i∧y=.int j∧Q (.int (f i j)) H
theorem p0:i6 X .Add (sF fun i j=>i+j):=by
 intro pins s σ H x y v u Q I r1 r2 h
 obtain ⟨i,j,e1,e2,q⟩:=h
 subst e1;subst e2
 obtain ⟨t,rfl⟩:=r1
 obtain ⟨t',rfl⟩:=r2
 exact iadd_int ⟨.int _,H,I.tok _,⟨_,rfl⟩,q⟩
theorem ES:i6 X .Sub (sF fun i j=>i - j):=by
 intro pins s σ H x y v u Q I r1 r2 h
 obtain ⟨i,j,e1,e2,q⟩:=h
 subst e1;subst e2
 obtain ⟨t,rfl⟩:=r1
 obtain ⟨t',rfl⟩:=r2
 exact isub_int ⟨.int _,H,I.tok _,⟨_,rfl⟩,q⟩
end
section
variable {X:Cx} {pos:Pos}
end
structure It where
 go:Nat→Hp→Prop
 yld:Nat→Hp→V→Hp→Prop
 stop:Nat→Hp→Prop
def yD (X:Cx) (pins:List (Addr×Obj)) (H:Hp) (b:Addr):Prop :=
 H b=none∧b≠X.env.locals∧b∉X.fs∧(b∈X.ex∨X.s₀.heap.objs.size≤b)∧(∀x c,X.env.cells.lookup x=some c→c≠b)∧∀p∈X.pn++pins,p.1≠b
theorem Inv.fpOk {X:Cx} {pins:List (Addr×Obj)} {σ:St} {H H':Hp} {s:Shared} {b:Addr} (I:Inv X pins σ H s) (hb:s.heap.objs.size≤b) (hn:H' b=none):yD X pins H' b:=by
 refine ⟨hn,Nat.ne_of_gt (Nat.lt_of_lt_of_le I.lt hb),I.nofs hb,.inr (Nat.le_trans I.sz hb),fun x c e z=>?_,fun p hp z=>?_⟩
 ·obtain ⟨v,q⟩:=I.cell x c e
  exact absurd (Nat.lt_of_lt_of_le q.lt (by rw [z];exact hb)) (Nat.lt_irrefl _)
 ·exact absurd (Nat.lt_of_lt_of_le (Heap.lt_size (I.pin p hp).1) (by rw [z];exact hb)) (Nat.lt_irrefl _)
structure Turn (P:Program) (w:World) (K:PySem.W.Frag) (tg:Expr) (J:It) (fp:List Addr) (it:Addr) (tn:Nat→Heap→Prop):Prop where
 mem:it∈fp
 obj:∀i h,tn i h→∀b∈fp,∃o,h.get? b=some o∧∀v,o.data≠.cell v
 keep:∀i h h',tn i h→(∀b∈fp,∀o,h.get? b=some o→h'.get? b=some o)→tn i h'
 item:∀(X:Cx),X.prog=P→X.w=w→X.K=K→X.calm=true→∀(i:Nat) (pins:List (Addr×Obj)) (s:Shared) (σ:St) (H:Hp) (E:Value→Shared→Prop),Inv X pins σ H s→(∀b∈fp,yD X pins H b)→tn i s.heap→J.go i H→
  wpAny (model P w) X.A (pyNext (.ref it)) (fun r s1=>∃u,r=some u∧
   wpAny (model P w) X.A (letOwnedTupleGo tg (.ref it) u) (fun _ s2=>∃x H',Inv X pins σ H' s2∧RelV x u∧J.yld i H x H'∧tn (i+1) s2.heap∧∀b∈fp,H' b=none) E s1) E s
 done:∀(X:Cx),X.prog=P→X.w=w→X.K=K→X.calm=true→∀(i:Nat) (pins:List (Addr×Obj)) (s:Shared) (σ:St) (H:Hp) (E:Value→Shared→Prop),Inv X pins σ H s→(∀b∈fp,yD X pins H b)→tn i s.heap→J.stop i H→
  wpAny (model P w) X.A (pyNext (.ref it)) (fun r s1=>r=none∧Inv X pins σ H s1) E s
 self:∀(A:Around) (i:Nat) (s:Shared) (Q:Value→Shared→Prop) (E:Value→Shared→Prop),tn i s.heap→Q (.ref it) s→wpAny (model P w) A (pyIter (.ref it)) Q E s
abbrev TI:=St→Hp→(It→Hp→Prop)→Prop
def sH (X:Cx) (pins:List (Addr×Obj)) (σ:St) (tg:Expr) (R:It→Hp→Prop) (itv:Value) (s2:Shared):Prop :=
 ∃(it:Addr) (fp:List Addr) (tn:Nat→Heap→Prop) (J:It) (H':Hp),itv=.ref it∧Inv X pins σ H' s2∧Turn X.prog X.w X.K tg J fp it tn∧tn 0 s2.heap∧(∀b∈fp,yD X pins H' b)∧R J H'
def PI (X:Cx) (tg iter:Expr) (wi:TI):Prop :=
 ∀(pins:List (Addr×Obj)) (s:Shared) (σ:St) (H:Hp) (R:It→Hp→Prop),Inv X pins σ H s→wi σ H R→
  wpAny (model X.prog X.w) X.A (eval iter X.env) (fun v s1=>wpAny (model X.prog X.w) X.A (pyIter v) (sH X pins σ tg R) X.xe s1) X.xe s
theorem iM {M:Model} {A:Around} {E:Value→Shared→Prop} {s:Shared} {tg:Expr} {it:Addr} {u:Value} {o:Obj} {n:String} {vs:Array Value} {Q:Unit→Shared→Prop} (ho:s.heap.get? it=some o) (hc:o.cls=.type n) (hd:o.data=.fields vs)
    (hn:["enumerate","zip","dict_itemiterator","dict_reverseitemiterator","odict_iterator","itertools.zip_longest","itertools.pairwise"].contains n=false) (hQ:Q () s):wpAny M A (letOwnedTupleGo tg (.ref it) u) Q E s:=by
  unfold letOwnedTupleGo
  cases tg<;>first
    |exact wpAny_pure hQ
    | (cases u<;>first
        |exact wpAny_pure hQ
        | (refine wpAny_bind (wpAny_load ho ?_)
           rw [hc,hd]
           show wpAny M A (if (["enumerate","zip","dict_itemiterator","dict_reverseitemiterator","odict_iterator","itertools.zip_longest","itertools.pairwise"].contains n&&vs[0]? == some (rawInt _))=true then _ else _) Q E s
           rw [if_neg (by intro h;rw [hn,Bool.false_and] at h;cases h)]
           exact wpAny_pure hQ))
def yZ (K:PySem.W.Frag) (a:Addr):It :=
 ⟨fun i H=>∃xs x,SqL K H a xs∧xs[i]?=some x,fun i H x H'=>H'=H∧∀xs,SqL K H a xs→xs[i]?=some x,fun i H=>∃xs,SqL K H a xs∧xs.length≤i⟩
def dG (K:PySem.W.Frag) (a:Addr):It :=
 ⟨fun i H=>∃xs x,SqT K H a xs∧xs[i]?=some x,fun i H x H'=>H'=H∧∀xs,SqT K H a xs→xs[i]?=some x,fun i H=>∃xs,SqT K H a xs∧xs.length≤i⟩
def JE (lo:Int) (n:Nat):It:=⟨fun i _=>i<n,fun i H x H'=>H'=H∧x=.int (lo+i),fun i _=>n≤i⟩
theorem AZ {P:Program} {w:World} {K:PySem.W.Frag} {tg:Expr} (a it:Addr):Turn P w K tg (yZ K a) [it] it (fun i h=>h.IsListIter it a i) where
 mem:=by simp
 obj:=fun i h st b hb=>by
  have e:b=it:=by simpa using hb
  subst e
  obtain ⟨o,e,c,d⟩:=st
  exact ⟨o,e,fun v z=>by rw [d] at z;cases z⟩
 keep:=fun i h h' st k=>st.at fun o e=>k it (by simp) o e
 item:=by
  intro X hP hw hK hc i pins s σ H E I hf st hg
  subst hP hw hK
  obtain ⟨xs,x,hq,hx⟩:=hg
  obtain ⟨its,rv,p,hz⟩:=I.list hq
  obtain ⟨u,hu,ru⟩:=rv.get hx
  obtain ⟨f0,f1,f2,f3,f4,f5⟩:=hf it (by simp)
  refine wpAny_pyNext_list_item st p.isList (x:=u) (by simpa using hu) fun h' st' sb=>?_
  have I1:Inv X pins σ H {s with heap:=h'}:=I.turned (t':=s.toks) (fun b o hb e=>(sb.2 b hb).trans e) f0 f1 f3 f4 f5
  obtain ⟨o,e,c,d⟩:=id st'
  exact ⟨u,rfl,iM (s:={s with heap:=h'}) e c d (by decide) ⟨x,H,I1,ru,⟨rfl,fun ys hy=>by rw [I.list_inj hy hq];exact hx⟩,st',fun b hb=>(hf b hb).1⟩⟩
 done:=by
  intro X hP hw hK hc i pins s σ H E I hf st hg
  subst hP hw hK
  obtain ⟨xs,hq,hx⟩:=hg
  obtain ⟨its,rv,p,hz⟩:=I.list hq
  obtain ⟨f0,f1,f2,f3,f4,f5⟩:=hf it (by simp)
  have hl:=rv.length
  exact wpAny_pyNext_list_end (I.ok.hd hc) st p.isList (by simp;omega) fun h' eb=>⟨rfl,I.turned (t':=s.toks) (fun b o hb e=>eb b o hb e) f0 f1 f3 f4 f5⟩
 self:=fun _ _ _ _ _ st h=>wpAny_pyIter_listiter st h
theorem x9 {P:Program} {w:World} {K:PySem.W.Frag} {tg:Expr} (a it:Addr):Turn P w K tg (dG K a) [it] it (fun i h=>h.IsTupleIter it a i) where
 mem:=by simp
 obj:=fun i h st b hb=>by
  have e:b=it:=by simpa using hb
  subst e
  obtain ⟨o,e,c,d⟩:=st
  exact ⟨o,e,fun v z=>by rw [d] at z;cases z⟩
 keep:=fun i h h' st k=>st.at fun o e=>k it (by simp) o e
 item:=by
  intro X hP hw hK hc i pins s σ H E I hf st hg
  subst hP hw hK
  obtain ⟨xs,x,hq,hx⟩:=hg
  obtain ⟨its,rv,p,hz⟩:=I.tuple hq
  obtain ⟨u,hu,ru⟩:=rv.get hx
  obtain ⟨f0,f1,f2,f3,f4,f5⟩:=hf it (by simp)
  refine wpAny_pyNext_tuple_item st (show s.heap.IsTuple a its.toArray from p) (x:=u) (by simpa using hu) fun h' st' sb=>?_
  have I1:Inv X pins σ H {s with heap:=h'}:=I.turned (t':=s.toks) (fun b o hb e=>(sb.2 b hb).trans e) f0 f1 f3 f4 f5
  obtain ⟨o,e,c,d⟩:=id st'
  exact ⟨u,rfl,iM (s:={s with heap:=h'}) e c d (by decide) ⟨x,H,I1,ru,⟨rfl,fun ys hy=>by rw [I.tuple_inj hy hq];exact hx⟩,st',fun b hb=>(hf b hb).1⟩⟩
 done:=by
  intro X hP hw hK hc i pins s σ H E I hf st hg
  subst hP hw hK
  obtain ⟨xs,hq,hx⟩:=hg
  obtain ⟨its,rv,p,hz⟩:=I.tuple hq
  obtain ⟨f0,f1,f2,f3,f4,f5⟩:=hf it (by simp)
  have hl:=rv.length
  exact wpAny_pyNext_tuple_end (I.ok.hd hc) st (show s.heap.IsTuple a its.toArray from p) (by simp;omega) fun h' eb=>⟨rfl,I.turned (t':=s.toks) (fun b o hb e=>eb b o hb e) f0 f1 f3 f4 f5⟩
 self:=fun _ _ _ _ _ st h=>wpAny_pyIter_tupleiter st h
theorem AA {P:Program} {w:World} {K:PySem.W.Frag} {tg:Expr} (it:Addr) (lo:Int) (n:Nat):Turn P w K tg (JE lo n) [it] it (fun i h=>IsRangeIter h it (lo+(i:Nat)*1) ((n:Int) - (i:Nat)) 1) where
 mem:=by simp
 obj:=fun i h st b hb=>by
  have e:b=it:=by simpa using hb
  subst e
  exact ⟨_,st,fun v z=>by
   have z':Data.fields _=Data.cell v:=z
   cases z'⟩
 keep:=fun i h h' st k=>k it (by simp) _ st
 item:=by
  intro X hP hw hK hc i pins s σ H E I hf st hg
  subst hP hw hK
  obtain ⟨f0,f1,f2,f3,f4,f5⟩:=hf it (by simp)
  have W:=Walks.range (prog:=X.prog) (w:=X.w) (I.ok.hd hc) it lo 1 n
  refine W.item i s _ _ hg st fun v h' tk hv st' kk=>?_
  obtain ⟨t,rfl⟩:=hv
  have I1:Inv X pins σ H {s with heap:=h',toks:=tk}:=I.turned (fun b o hb e=>kk b o (by simpa using hb) e) f0 f1 f3 f4 f5
  refine ⟨_,rfl,iM (s:={s with heap:=h',toks:=tk}) (n:="range_iterator") st' rfl rfl (by decide) ⟨.int (lo+i),H,I1,⟨t,?_⟩,⟨rfl,rfl⟩,st',fun b hb=>(hf b hb).1⟩⟩
  rw [Int.mul_one]
 done:=by
  intro X hP hw hK hc i pins s σ H E I hf st hg
  subst hP hw hK
  obtain ⟨f0,f1,f2,f3,f4,f5⟩:=hf it (by simp)
  exact wpAny_pyNext_range_end (I.ok.hd hc) st (by have:n≤i:=hg;omega) fun h' eb=>⟨rfl,I.turned (t':=s.toks) (fun b o hb e=>eb b o hb e) f0 f1 f3 f4 f5⟩
 self:=fun _ _ _ _ _ st h=>wpAny_pyIter_rangeiter st h
end L2
namespace L2
open PySem PySem.Spec PyProof.Rows
section
variable {X:Cx} {tg:Expr}
def FP (K:PySem.W.Frag) (tl:TE):TI:=fun σ H R=>tl σ H fun x H1=>∃a,x=.ref a∧(∃xs,SqL K H1 a xs)∧R (yZ K a) H1
def GM (K:PySem.W.Frag) (tl:TE):TI:=fun σ H R=>tl σ H fun x H1=>∃a,x=.ref a∧(∃xs,SqT K H1 a xs)∧R (dG K a) H1
theorem qY {l:Expr} {tl:TE} (hl:PE X l tl):PI X tg l (FP X.K tl):=by
 intro pins s σ H R I h
 refine jN (hl pins s σ H _ I h) fun v s1 ⟨x,H1,I1,r1,q1⟩=>?_
 obtain ⟨a,e,⟨xs,hq⟩,q⟩:=q1
 subst e
 cases r1
 obtain ⟨its,rv,p,hz⟩:=I1.list hq
 refine wpAny_pyIter_list p.isList ?_
 refine ⟨s1.heap.objs.size,[s1.heap.objs.size],_,_,H1,rfl,I1.kept (t':=s1.toks) fun b o e=>Heap.get?_push_of_some _ e,AZ a _,⟨_,Heap.get?_push_size _ rfl,rfl,rfl⟩,fun b hb=>?_,q⟩
 have e:b=s1.heap.objs.size:=by simpa using hb
 subst e
 exact I1.fpOk (Nat.le_refl _) (I1.hok.fresh (Nat.le_refl _))
theorem EC {l:Expr} {tl:TE} (hl:PE X l tl):PI X tg l (GM X.K tl):=by
 intro pins s σ H R I h
 refine jN (hl pins s σ H _ I h) fun v s1 ⟨x,H1,I1,r1,q1⟩=>?_
 obtain ⟨a,e,⟨xs,hq⟩,q⟩:=q1
 subst e
 cases r1
 obtain ⟨its,rv,p,hz⟩:=I1.tuple hq
 refine wpAny_pyIter_tuple (show s1.heap.IsTuple a its.toArray from p) ?_
 refine ⟨s1.heap.objs.size,[s1.heap.objs.size],_,_,H1,rfl,I1.kept (t':=s1.toks) fun b o e=>Heap.get?_push_of_some _ e,x9 a _,⟨_,Heap.get?_push_size _ rfl,rfl,rfl⟩,fun b hb=>?_,q⟩
 have e:b=s1.heap.objs.size:=by simpa using hb
 subst e
 exact I1.fpOk (Nat.le_refl _) (I1.hok.fresh (Nat.le_refl _))
theorem B0 {pins:List (Addr×Obj)} {σ:St} {H:Hp} {s:Shared} {R:It→Hp→Prop} {E:Value→Shared→Prop} {lo hi:Int} {t u v:Tok} {tk:Nat} (I:Inv X pins σ H s) (h1 : -(2 ^ 62)≤lo) (h2:lo<2 ^ 62) (h3 : -(2 ^ 62)≤hi) (h4:hi<2 ^ 62)
    (q:R (JE lo (hi - lo).toNat) H):wpAny (model X.prog X.w) X.A (pyIter (.ref s.heap.objs.size)) (sH X pins σ tg R) E {s with heap:=s.heap.push {cls:=.type "range",data:=.fields #[.int lo t,.int hi u,.int 1 v]},toks:=tk}:=by
  refine wpAny_pyIter_range (IsRange.new ..) (small_one h1 h2 h3 h4) ?_
  have I1:Inv X pins σ H {s with heap:=s.heap.push {cls:=.type "range",data:=.fields #[.int lo t,.int hi u,.int 1 v]},toks:=tk}:=I.kept fun b o e=>Heap.get?_push_of_some _ e
  refine ⟨(s.heap.push {cls:=.type "range",data:=.fields #[.int lo t,.int hi u,.int 1 v]}).objs.size,[(s.heap.push {cls:=.type "range",data:=.fields #[.int lo t,.int hi u,.int 1 v]}).objs.size],_,_,H,rfl,
    I1.kept (t':=tk) fun b o e=>Heap.get?_push_of_some _ e,AA _ lo (hi - lo).toNat,?_,fun b hb=>?_,q⟩
  · have e1:lo+((0:Nat):Int)*1=lo:=by simp
    have e2:(((hi - lo).toNat:Nat):Int) - ((0:Nat):Int)=Builtin.Range.rangeSize lo hi 1:=by rw [rangeSize_one];split<;>omega
    show IsRangeIter _ _ (lo+((0:Nat):Int)*1) ((((hi - lo).toNat:Nat):Int) - ((0:Nat):Int)) 1
    rw [e1,e2]
    exact Heap.get?_push_size _ rfl
  · have e:b=(s.heap.push {cls:=.type "range",data:=.fields #[.int lo t,.int hi u,.int 1 v]}).objs.size:=by simpa using hb
    subst e
    exact I1.fpOk (Nat.le_refl _) (I1.hok.fresh (Nat.le_refl _))
def FO (ta:TA):TI:=fun σ H R=>ta σ H fun vs H1=>∃j:Int,vs=[.int j]∧-(2 ^ 62)≤j∧j<2 ^ 62∧R (JE 0 j.toNat) H1
theorem vN {a:Expr} {ta:TA} {p pos:Pos} (hg:Gl X "range") (hm:X.mg "range"=none) (ha:PA X [a] ta) (hs:starEach [a] X.env=[(false,eval a X.env)]:=by rfl):PI X tg (.Call (.Name "range" p) [a] [] pos) (FO ta):=by
 intro pins s σ H R I h
 refine Call_ (Z2 I hg hm boot_range (PyProof.Rows.callWith_type1 (jN (ha pos pins s σ H _ I h) fun us s1 ⟨vs,H1,I1,r1,q1⟩=>?_) hs rfl))
 obtain ⟨j,e,q1,q2,q⟩:=q1
 subst e
 cases r1 with
 |cons r rr =>
  cases rr
  obtain ⟨t,rfl⟩:=r
  exact call_range_1 (B0 I1 (by omega) (by omega) q1 q2 (by simpa using q))
def GB (wi:TI) (g:TG) (tb:TS):TS:=fun D σ H=>wi σ H fun J H1=>∃W:Nat→Nat→St→Hp→Prop,(∃m,W 0 m σ H1)∧∀i m σ H,W i m σ H→
 (J.stop i H∧D.nx σ H)∨(J.go i H∧∃N:St→Hp→Prop,(∀σ' H',N σ' H'→∃m',m'<m∧W (i+1) m' σ' H')∧∀x H',J.yld i H x H'→g x σ H' fun σ2 H2=>tb {D with nx:=N,ct:=N,bk:=D.nx} σ2 H2)
def cL (fp:List Addr) (h:Heap):List (Addr×Obj):=fp.filterMap fun b=>(h.get? b).map fun o=>(b,o)
theorem dW {fp:List Addr} {h:Heap} {b:Addr} {o:Obj} (hb:b∈fp) (e:h.get? b=some o):(b,o)∈cL fp h:=List.mem_filterMap.mpr ⟨b,hb,by rw [e];rfl⟩
theorem BC {fp:List Addr} {h:Heap} {p:Addr×Obj} (hp:p∈cL fp h):p.1∈fp∧h.get? p.1=some p.2:=by
 obtain ⟨b,hb,e⟩:=List.mem_filterMap.mp hp
 cases q:h.get? b with
 |none=>rw [q] at e;cases e
 |some o =>
  rw [q] at e
  have e':(b,o)=p:=Option.some.inj e
  subst e'
  exact ⟨hb,q⟩
theorem Inv.pinned {pins:List (Addr×Obj)} {σ:St} {H:Hp} {s:Shared} {fp:List Addr} (I:Inv X pins σ H s) (hf:∀b∈fp,yD X pins H b) (ho:∀b∈fp,∃o,s.heap.get? b=some o∧∀v,o.data≠.cell v):Inv X (pins++cL fp s.heap) σ H s :=
 I.pins_of fun p hp=>(List.mem_append.mp hp).elim (fun z=>I.pin p (List.mem_append_right _ z)) fun z=>by
  obtain ⟨hb,e⟩:=BC z
  obtain ⟨f0,f1,f2,_⟩:=hf p.1 hb
  obtain ⟨o,e',d⟩:=ho p.1 hb
  rw [e] at e';cases e'
  exact ⟨e,f0,f1,f2,d⟩
theorem Inv.unpinned {pins pl:List (Addr×Obj)} {σ:St} {H:Hp} {s:Shared} (I:Inv X (pins++pl) σ H s):Inv X pins σ H s:=I.pins_of fun p hp=>I.pin p (List.mem_append_right _ (List.mem_append_left _ hp))
theorem yG {iter:Expr} {body:List Stmt} {wi:TI} {g:TG} {tb:TS} {pos:Pos} (hp:PassesOwn (model X.prog X.w) X.A X.env X.xe) (hc:X.calm=true) (hi:PI X tg iter wi) (hg:PG X tg g) (hb:PSs X body tb)
  (hs:∀x,foldedSetIterable iter X.env x=pure x:=by intro _;rfl):PS X (.For tg iter body [] pos) (GB wi g tb):=by
 intro pins s σ H D I h
 refine wpAny_For (jN (hi pins s σ H _ I h) fun v s1 h1=>jN h1 fun itv s2 h2=>?_) hs
 obtain ⟨it,fp,tn,J,H2,e,I2,T,st2,f2,W,⟨m0,w0⟩,turn⟩:=h2
 subst e
 have stat:∀{H':Hp},(∀b∈fp,H' b=none)→∀b∈fp,yD X pins H' b:=fun hn b hb=>⟨hn b hb,(f2 b hb).2⟩
 refine codeAny_forLoop_any (fun n s'=>∃i σ' H',Inv X pins σ' H' s'∧tn i s'.heap∧(∀b∈fp,H' b=none)∧W i n σ' H') ?_ m0 ⟨0,σ,H2,I2,st2,fun b hb=>(f2 b hb).1,w0⟩
 rintro n s3 ⟨i,σ3,H3,I3,st3,fr3,w3⟩
 rcases turn i n σ3 H3 w3 with ⟨stop,qn⟩|⟨go,N,hN,step⟩
 ·refine wpAny_passesOwn hp (jN (T.done X rfl rfl rfl hc i pins s3 σ3 H3 X.xe I3 (stat fr3) st3 stop) fun r s4 ⟨hr,I4⟩=>?_)
  subst hr
  exact wpAny_execs_nil ⟨σ3,H3,I4,qn⟩
 ·refine wpAny_passesOwn hp (jN (T.item X rfl rfl rfl hc i pins s3 σ3 H3 X.xe I3 (stat fr3) st3 go) fun r s4 ⟨u,hr,h4⟩=>?_)
  subst hr
  refine wpAny_passesOwn hp (jN h4 fun _ s5 ⟨x,H5,I5,r5,y5,st5,fr5⟩=>?_)
  have I5':=I5.pinned (stat fr5) (T.obj _ _ st5)
  refine wpAny_passesOwn hp (jN (hg _ s5 σ3 H5 x u _ I5' r5 (step x H5 y5)) fun _ s6 ⟨σ6,H6,I6,q6⟩=>?_)
  refine wpAny_passesOwn hp (jN (hb _ s6 σ6 H6 _ I6 q6) fun f s7 q7=>?_)
  have again:∀{σ7:St} {H7:Hp},Inv X (pins++cL fp s5.heap) σ7 H7 s7→N σ7 H7→∃m,m<n∧∃i σ' H',Inv X pins σ' H' s7∧tn i s7.heap∧(∀b∈fp,H' b=none)∧W i m σ' H':=fun {σ7 H7} I7 n7=>by
   obtain ⟨m',hm,w7⟩:=hN σ7 H7 n7
   refine ⟨m',hm,i+1,σ7,H7,I7.unpinned,T.keep _ _ _ st5 fun b hb o e=>(I7.pin (b,o) (List.mem_append_right _ (List.mem_append_right _ (dW hb e)))).1,fun b hb=>?_,w7⟩
   obtain ⟨o,e,d⟩:=T.obj _ _ st5 b hb
   exact (I7.pin (b,o) (List.mem_append_right _ (List.mem_append_right _ (dW hb e)))).2.1
  cases f with
  |next=>obtain ⟨σ7,H7,I7,n7⟩:=q7;exact again I7 n7
  |cont=>obtain ⟨σ7,H7,I7,n7⟩:=q7;exact again I7 n7
  |brk=>obtain ⟨σ7,H7,I7,q7⟩:=q7;exact ⟨σ7,H7,I7.unpinned,q7⟩
  |ret v=>obtain ⟨x7,σ7,H7,I7,r7,q7⟩:=q7;exact ⟨x7,σ7,H7,I7.unpinned,r7,q7⟩
end
theorem bZ {K:PySem.W.Frag} {a:Addr} {xs:List V} {g:TG} {tb:TS} {D:Ends} {σ:St} {H:Hp} (Pv:Nat→St→Hp→Prop) (h0:Pv 0 σ H) (hl:∀i σ H,i≤xs.length→Pv i σ H→SqL K H a xs)
    (hs:∀i x σ H,xs[i]?=some x→Pv i σ H→g x σ H fun σ2 H2=>tb {D with nx:=Pv (i+1),ct:=Pv (i+1),bk:=D.nx} σ2 H2) (hd:∀σ H,Pv xs.length σ H→D.nx σ H) :
    ∃W:Nat→Nat→St→Hp→Prop,(∃m,W 0 m σ H)∧∀i m σ H,W i m σ H→
      ((yZ K a).stop i H∧D.nx σ H)∨((yZ K a).go i H∧∃N:St→Hp→Prop,(∀σ' H',N σ' H'→∃m',m'<m∧W (i+1) m' σ' H')∧∀x H',(yZ K a).yld i H x H'→g x σ H' fun σ2 H2=>tb {D with nx:=N,ct:=N,bk:=D.nx} σ2 H2):=by
  refine ⟨fun i m σ H=>m=xs.length - i∧i≤xs.length∧Pv i σ H,⟨xs.length,by simp,Nat.zero_le _,h0⟩,?_⟩
  rintro i m σ H ⟨rfl,hi,p⟩
  have q:=hl i σ H hi p
  by_cases hlt:i<xs.length
  · refine .inr ⟨⟨xs,xs[i],q,by simp [hlt]⟩,Pv (i+1),fun σ' H' p'=>⟨xs.length - (i+1),by omega,rfl,hlt,p'⟩,fun x H' y=>?_⟩
    obtain ⟨e,y⟩:=y
    subst e
    exact hs i x σ _ (y xs q) p
  · have e:i=xs.length:=by omega
    subst e
    exact .inl ⟨⟨xs,q,Nat.le_refl _⟩,hd σ H p⟩
theorem DL {K:PySem.W.Frag} {a:Addr} {xs:List V} {g:TG} {tb:TS} {D:Ends} {σ:St} {H:Hp} (Pv:Nat→St→Hp→Prop) (h0:Pv 0 σ H) (hl:∀i σ H,i≤xs.length→Pv i σ H→SqT K H a xs)
    (hs:∀i x σ H,xs[i]?=some x→Pv i σ H→g x σ H fun σ2 H2=>tb {D with nx:=Pv (i+1),ct:=Pv (i+1),bk:=D.nx} σ2 H2) (hd:∀σ H,Pv xs.length σ H→D.nx σ H) :
    ∃W:Nat→Nat→St→Hp→Prop,(∃m,W 0 m σ H)∧∀i m σ H,W i m σ H→
      ((dG K a).stop i H∧D.nx σ H)∨((dG K a).go i H∧∃N:St→Hp→Prop,(∀σ' H',N σ' H'→∃m',m'<m∧W (i+1) m' σ' H')∧∀x H',(dG K a).yld i H x H'→g x σ H' fun σ2 H2=>tb {D with nx:=N,ct:=N,bk:=D.nx} σ2 H2):=by
  refine ⟨fun i m σ H=>m=xs.length - i∧i≤xs.length∧Pv i σ H,⟨xs.length,by simp,Nat.zero_le _,h0⟩,?_⟩
  rintro i m σ H ⟨rfl,hi,p⟩
  have q:=hl i σ H hi p
  by_cases hlt:i<xs.length
  · refine .inr ⟨⟨xs,xs[i],q,by simp [hlt]⟩,Pv (i+1),fun σ' H' p'=>⟨xs.length - (i+1),by omega,rfl,hlt,p'⟩,fun x H' y=>?_⟩
    obtain ⟨e,y⟩:=y
    subst e
    exact hs i x σ _ (y xs q) p
  · have e:i=xs.length:=by omega
    subst e
    exact .inl ⟨⟨xs,q,Nat.le_refl _⟩,hd σ H p⟩
theorem bS {lo:Int} {n:Nat} {g:TG} {tb:TS} {D:Ends} {σ:St} {H:Hp} (Pv:Nat→St→Hp→Prop) (h0:Pv 0 σ H)
  (hs:∀i σ H,i<n→Pv i σ H→g (.int (lo+i)) σ H fun σ2 H2=>tb {D with nx:=Pv (i+1),ct:=Pv (i+1),bk:=D.nx} σ2 H2) (hd:∀σ H,Pv n σ H→D.nx σ H) :
  ∃W:Nat→Nat→St→Hp→Prop,(∃m,W 0 m σ H)∧∀i m σ H,W i m σ H→
   ((JE lo n).stop i H∧D.nx σ H)∨((JE lo n).go i H∧∃N:St→Hp→Prop,(∀σ' H',N σ' H'→∃m',m'<m∧W (i+1) m' σ' H')∧∀x H',(JE lo n).yld i H x H'→g x σ H' fun σ2 H2=>tb {D with nx:=N,ct:=N,bk:=D.nx} σ2 H2):=by
 refine ⟨fun i m σ H=>m=n - i∧i≤n∧Pv i σ H,⟨n,by simp,Nat.zero_le _,h0⟩,?_⟩
 rintro i m σ H ⟨rfl,hi,p⟩
 by_cases hlt:i<n
 ·refine .inr ⟨hlt,Pv (i+1),fun σ' H' p'=>⟨n - (i+1),by omega,rfl,hlt,p'⟩,fun x H' y=>?_⟩
  obtain ⟨e,y⟩:=y
  subst e y
  exact hs i σ _ hlt p
 ·have e:i=n:=by omega
  subst e
  exact .inl ⟨Nat.le_refl _,hd σ H p⟩
end L2
namespace L2
open PySem PySem.Spec PyProof.Rows
abbrev R2:=V→V→Hp→VK→Prop
def kU (X:Cx) (f:Value→Value→Sem Value) (r:R2):Prop :=
 ∀(pins:List (Addr×Obj)) (s:Shared) (σ:St) (H:Hp) (x y:V) (v u:Value) (Q:VK),Inv X pins σ H s→RelV x v→RelV y u→r x y H Q→
  wpAny (model X.prog X.w) X.A (f v u) (EP X pins σ Q) X.xe s
def i4 (X:Cx) (f:Value→Sem Value) (r:V→Hp→VK→Prop):Prop :=
 ∀(pins:List (Addr×Obj)) (s:Shared) (σ:St) (H:Hp) (x:V) (v:Value) (Q:VK),Inv X pins σ H s→RelV x v→r x H Q→
  wpAny (model X.prog X.w) X.A (f v) (EP X pins σ Q) X.xe s
def vZ (X:Cx) (f:Value) (r:List V→Hp→VK→Prop):Prop :=
 ∀(pins:List (Addr×Obj)) (s:Shared) (σ:St) (H:Hp) (xs:List V) (us:List Value) (Q:VK),Inv X pins σ H s→Vals xs us→r xs H Q→
  wpAny (model X.prog X.w) X.A (call f us) (EP X pins σ Q) X.xe s
def e6 (r:R2) (ta tb:TE):TE:=fun σ H Q=>ta σ H fun x H1=>tb σ H1 fun y H2=>r x y H2 Q
def GU (r:V→Hp→VK→Prop) (ta:TE):TE:=fun σ H Q=>ta σ H fun x H1=>r x H1 Q
def rI (C:Int→Int→Prop) (g:Int→Int→V):R2:=fun x y H Q=>∃i j,x=.int i∧y=.int j∧C i j∧Q (g i j) H
def QA (g:Int→Int→V):R2:=fun x y H Q=>∃i j,x=.int i∧y=.int j∧Q (g i j) H
def rU (g:Int→V):V→Hp→VK→Prop:=fun x H Q=>∃i,x=.int i∧Q (g i) H
section
variable {X:Cx} {a b c:Expr} {ta tb tc:TE} {pos:Pos}
theorem iT (ha:PE X a ta) (hb:PE X b tb) {pins:List (Addr×Obj)} {s:Shared} {σ:St} {H:Hp} {R:V→V→Hp→Prop} (I:Inv X pins σ H s)
  (h:ta σ H fun x H1=>tb σ H1 fun y H2=>R x y H2) {Q:Value→Shared→Prop} {f:Value→Value→Sem Value}
  (hf:∀v u s2 x y H2,Inv X pins σ H2 s2→RelV x v→RelV y u→R x y H2→wpAny (model X.prog X.w) X.A (f v u) Q X.xe s2) :
  wpAny (model X.prog X.w) X.A (eval a X.env) (fun v s₁=>wpAny (model X.prog X.w) X.A (eval b X.env) (fun u s₂=>wpAny (model X.prog X.w) X.A (f v u) Q X.xe s₂) X.xe s₁) X.xe s:=by
 refine jN (ha pins s σ H _ I h) fun v s1 ⟨x,H1,I1,r1,q1⟩=>?_
 refine jN (hb pins s1 σ H1 _ I1 q1) fun u s2 ⟨y,H2,I2,r2,q2⟩=>?_
 exact hf v u s2 x y H2 I2 r1 r2 q2
theorem jG {op:Operator} {r:R2} (ho:kU X (binaryOp op) r) (ha:PE X a ta) (hb:PE X b tb):PE X (.BinOp a op b pos) (e6 r ta tb):=by
 intro pins s σ H Q I h
 exact wpAny_BinOp (iT ha hb I h fun v u s2 x y H2 I2 rx ry q=>ho pins s2 σ H2 x y v u Q I2 rx ry q)
theorem iK {op:UnaryOp} {r:V→Hp→VK→Prop} (ho:i4 X (unaryOp op) r) (ha:PE X a ta):PE X (.UnaryOp op a pos) (GU r ta):=by
 intro pins s σ H Q I h
 exact UnaryOp_ (jN (ha pins s σ H _ I h) fun v s1 ⟨x,H1,I1,r1,q1⟩=>ho pins s1 σ H1 x v Q I1 r1 q1)
theorem e7 {f:Value→Value→Sem Value} {C:Int→Int→Prop} {g:Int→Int→Int}
  (rule:∀(i j:Int) (t u:Tok) (s:Shared) (Q:Value→Shared→Prop) (E:Value→Shared→Prop),C i j→Q (.int (g i j) s.toks) {s with toks:=s.toks+1}→wpAny (model X.prog X.w) X.A (f (.int i t) (.int j u)) Q E s) :
  kU X f (rI C fun i j=>.int (g i j)):=by
 intro pins s σ H x y v u Q I rx ry h
 obtain ⟨i,j,rfl,rfl,hc,q⟩:=h
 obtain ⟨t,rfl⟩:=rx
 obtain ⟨t',rfl⟩:=ry
 exact rule i j t t' s _ _ hc ⟨.int (g i j),H,I.tok _,⟨_,rfl⟩,q⟩
theorem rZ {f:Value→Value→Sem Value} {g:Int→Int→Int}
  (rule:∀(i j:Int) (t u:Tok) (s:Shared) (Q:Value→Shared→Prop) (E:Value→Shared→Prop),Q (.int (g i j) s.toks) {s with toks:=s.toks+1}→wpAny (model X.prog X.w) X.A (f (.int i t) (.int j u)) Q E s) :
  kU X f (QA fun i j=>.int (g i j)):=by
 intro pins s σ H x y v u Q I rx ry h
 obtain ⟨i,j,rfl,rfl,q⟩:=h
 obtain ⟨t,rfl⟩:=rx
 obtain ⟨t',rfl⟩:=ry
 exact rule i j t t' s _ _ ⟨.int (g i j),H,I.tok _,⟨_,rfl⟩,q⟩
theorem iS {f:Value→Value→Sem Value} {g:Int→Int→Bool}
  (rule:∀(i j:Int) (t u:Tok) (s:Shared) (Q:Value→Shared→Prop) (E:Value→Shared→Prop),Q (.bool (g i j)) s→wpAny (model X.prog X.w) X.A (f (.int i t) (.int j u)) Q E s) :
  kU X f (QA fun i j=>.bl (g i j)):=by
 intro pins s σ H x y v u Q I rx ry h
 obtain ⟨i,j,rfl,rfl,q⟩:=h
 obtain ⟨t,rfl⟩:=rx
 obtain ⟨t',rfl⟩:=ry
 exact rule i j t t' s _ _ ⟨.bl (g i j),H,I,rfl,q⟩
def GS (i j:Int):Prop:=0<j∧j<1073741824
def GR (i j:Int):Prop:=0≤j∧j≤1000000∧i.natAbs<2 ^ 64
def CMul (i j:Int):Prop:=(-(2 ^ 64)<i∧i<2 ^ 64)∨(-(2 ^ 64)<j∧j<2 ^ 64)
theorem CMul.ok {i j:Int} (h:CMul i j):IntMulOk i j:=by
 rcases h with ⟨h1,h2⟩|⟨h1,h2⟩
 ·exact .of_left (intBits_le_64 h1 h2)
 ·exact .of_right (intBits_le_64 h1 h2)
theorem jY:kU X (binaryOp .Add) (QA fun i j=>.int (i+j)):=rZ fun _ _ _ _ _ _ _ q=>add_int q
theorem vQ:kU X (binaryOp .Sub) (QA fun i j=>.int (i - j)):=rZ fun _ _ _ _ _ _ _ q=>sub_int q
theorem kC:kU X (binaryOp .Mult) (rI CMul fun i j=>.int (i*j)):=e7 fun _ _ _ _ _ _ _ hc q=>mul_int q hc.ok
theorem eH:kU X (binaryOp .FloorDiv) (rI GS fun i j=>.int (i / j)):=e7 fun i j _ _ _ _ _ hc q=>by
 have h1:(0:Int)<j:=hc.1
 have h2:j<1073741824:=hc.2
 exact floordiv_int (by omega) (by rw [Int.fdiv_eq_ediv_of_nonneg i (by omega)];exact q) (.inl (PyProof.noPylong_small (by omega)))
theorem zG:kU X (binaryOp .Mod) (rI (fun _ j=>0<j) fun i j=>.int (i%j)):=e7 fun i j _ _ _ _ _ hc q=>by
 have h1:(0:Int)<j:=hc
 exact mod_int' (by omega) (by rw [Int.fmod_eq_emod_of_nonneg i (by omega)];exact q)
theorem pX:kU X (binaryOp .Pow) (rI GR fun i j=>.int (i ^ j.toNat)):=e7 fun _ _ _ _ _ _ _ hc q=>pow_int_small hc.1 hc.2.1 hc.2.2 q
theorem GT {f:Value→Sem Value} {g:Int→Int}
  (rule:∀(i:Int) (t:Tok) (s:Shared) (Q:Value→Shared→Prop) (E:Value→Shared→Prop),Q (.int (g i) s.toks) {s with toks:=s.toks+1}→wpAny (model X.prog X.w) X.A (f (.int i t)) Q E s) :
  i4 X f (rU fun i=>.int (g i)):=by
 intro pins s σ H x v Q I rx h
 obtain ⟨i,rfl,q⟩:=h
 obtain ⟨t,rfl⟩:=rx
 exact rule i t s _ _ ⟨.int (g i),H,I.tok _,⟨_,rfl⟩,q⟩
theorem gZ:i4 X (unaryOp .USub) (rU fun i=>.int (-i)):=GT fun _ _ _ _ _ q=>neg_int q
end
def rW:V→V→Bool
 |.non,.non=>true|.non,.int _=>true|.int _,.non=>true|.non,.bl _=>true|.bl _,.non=>true|.non,.str _=>true|.str _,.non=>true
 |.int _,.int _=>true|.bl _,.bl _=>true|.str _,.str _=>true|.byt _,.byt _=>true
 |.int _,.str _=>true|.str _,.int _=>true|.bl _,.str _=>true|.str _,.bl _=>true
 |_,_=>false
def G0:R2:=fun x y H Q=>rW x y=true∧Q (.bl (decide (x=y))) H
def GZ:R2:=fun x y H Q=>rW x y=true∧Q (.bl (!decide (x=y))) H
theorem pJ {i j:Int}:decide (V.int i=V.int j)=(i == j):=by
 rw [Bool.eq_iff_iff]
 simp
theorem p9 {i j:Bool}:decide (V.bl i=V.bl j)=(i == j):=by
 rw [Bool.eq_iff_iff]
 simp
theorem pI {i j:Str}:decide (V.str i=V.str j)=(i == j):=by
 rw [Bool.eq_iff_iff]
 simp
theorem pK {i j:Array UInt8}:decide (V.byt i=V.byt j)=(i.toList == j.toList):=by
 rw [Bool.eq_iff_iff]
 cases i
 cases j
 simp
section
variable {X:Cx} {a b c:Expr} {ta tb tc:TE} {pos:Pos}
theorem kK {pins:List (Addr×Obj)} {σ:St} {H:Hp} {s:Shared} {Q:VK} {k k':Bool} (I:Inv X pins σ H s) (q:Q (.bl k) H) (e:k=k'):EP X pins σ Q (.bool k') s:=by
 subst e
 exact ⟨.bl k,H,I,rfl,q⟩
theorem kR:kU X (compareOp .Eq) G0:=by
 intro pins s σ H x y v u Q I rx ry h
 obtain ⟨hs,q⟩:=h
 cases x with
 |non =>
  cases rx
  cases y with
  |non=>cases ry;exact PySem.EqNone.eq_none_none (kK I q (by simp))
  |bl j=>cases ry;exact PySem.EqNone.eq_none_bool (kK I q (by simp))
  |int j=>obtain ⟨t',rfl⟩:=ry;exact PySem.EqNone.eq_none_int (kK I q (by simp))
  |str j=>obtain ⟨t',rfl⟩:=ry;exact PySem.EqNone.eq_none_str (kK I q (by simp))
  |_=>exact absurd (show false=true from hs) Bool.false_ne_true
 |bl i =>
  cases rx
  cases y with
  |non=>cases ry;exact PySem.EqNone.eq_bool_none (kK I q (by simp))
  |bl j=>cases ry;exact eq_bool (kK I q p9)
  |str j=>obtain ⟨t',rfl⟩:=ry;exact PySem.EqMixed.eq_bool_str (kK I q (by simp))
  |_=>exact absurd (show false=true from hs) Bool.false_ne_true
 |int i =>
  obtain ⟨t,rfl⟩:=rx
  cases y with
  |non=>cases ry;exact PySem.EqNone.eq_int_none (kK I q (by simp))
  |int j=>obtain ⟨t',rfl⟩:=ry;exact eq_int (kK I q pJ)
  |str j=>obtain ⟨t',rfl⟩:=ry;exact PySem.EqMixed.eq_int_str (kK I q (by simp))
  |_=>exact absurd (show false=true from hs) Bool.false_ne_true
 |str i =>
  obtain ⟨t,rfl⟩:=rx
  cases y with
  |non=>cases ry;exact PySem.EqNone.eq_str_none (kK I q (by simp))
  |bl j=>cases ry;exact PySem.EqMixed.eq_str_bool (kK I q (by simp))
  |int j=>obtain ⟨t',rfl⟩:=ry;exact PySem.EqMixed.eq_str_int (kK I q (by simp))
  |str j=>obtain ⟨t',rfl⟩:=ry;exact eq_str (kK I q pI)
  |_=>exact absurd (show false=true from hs) Bool.false_ne_true
 |byt i =>
  obtain ⟨t,rfl⟩:=rx
  cases y with
  |byt j=>obtain ⟨t',rfl⟩:=ry;exact PySem.W.eq_bytes (kK I q pK)
  |_=>exact absurd (show false=true from hs) Bool.false_ne_true
 |_=>cases y<;>exact absurd (show false=true from hs) Bool.false_ne_true
theorem z0:kU X (compareOp .NotEq) GZ:=by
 intro pins s σ H x y v u Q I rx ry h
 obtain ⟨hs,q⟩:=h
 cases x with
 |non =>
  cases rx
  cases y with
  |non=>cases ry;exact PySem.EqNone.ne_none_none (kK I q (by simp))
  |bl j=>cases ry;exact PySem.EqNone.ne_none_bool (kK I q (by simp))
  |int j=>obtain ⟨t',rfl⟩:=ry;exact PySem.EqNone.ne_none_int (kK I q (by simp))
  |str j=>obtain ⟨t',rfl⟩:=ry;exact PySem.EqNone.ne_none_str (kK I q (by simp))
  |_=>exact absurd (show false=true from hs) Bool.false_ne_true
 |bl i =>
  cases rx
  cases y with
  |non=>cases ry;exact PySem.EqNone.ne_bool_none (kK I q (by simp))
  |bl j=>cases ry;exact ne_bool (kK I q (congrArg not p9))
  |str j=>obtain ⟨t',rfl⟩:=ry;exact PySem.EqMixed.ne_bool_str (kK I q (by simp))
  |_=>exact absurd (show false=true from hs) Bool.false_ne_true
 |int i =>
  obtain ⟨t,rfl⟩:=rx
  cases y with
  |non=>cases ry;exact PySem.EqNone.ne_int_none (kK I q (by simp))
  |int j=>obtain ⟨t',rfl⟩:=ry;exact ne_int (kK I q (congrArg not pJ))
  |str j=>obtain ⟨t',rfl⟩:=ry;exact PySem.EqMixed.ne_int_str (kK I q (by simp))
  |_=>exact absurd (show false=true from hs) Bool.false_ne_true
 |str i =>
  obtain ⟨t,rfl⟩:=rx
  cases y with
  |non=>cases ry;exact PySem.EqNone.ne_str_none (kK I q (by simp))
  |bl j=>cases ry;exact PySem.EqMixed.ne_str_bool (kK I q (by simp))
  |int j=>obtain ⟨t',rfl⟩:=ry;exact PySem.EqMixed.ne_str_int (kK I q (by simp))
  |str j=>obtain ⟨t',rfl⟩:=ry;exact ne_str (kK I q (congrArg not pI))
  |_=>exact absurd (show false=true from hs) Bool.false_ne_true
 |byt i =>
  obtain ⟨t,rfl⟩:=rx
  cases y with
  |byt j=>obtain ⟨t',rfl⟩:=ry;exact PySem.W.ne_bytes (kK I q (congrArg not pK))
  |_=>exact absurd (show false=true from hs) Bool.false_ne_true
 |_=>cases y<;>exact absurd (show false=true from hs) Bool.false_ne_true
theorem eP:kU X (compareOp .Lt) (QA fun i j=>.bl (decide (i<j))):=iS fun _ _ _ _ _ _ _ q=>lt_int q
theorem FF:kU X (compareOp .Gt) (QA fun i j=>.bl (decide (j<i))):=iS fun _ _ _ _ _ _ _ q=>gt_int q
theorem rO:kU X (compareOp .GtE) (QA fun i j=>.bl (decide (j≤i))):=iS fun _ _ _ _ _ _ _ q=>ge_int q
theorem EH:kU X (compareOp .Is) (fun x y H Q=>y=.non∧Q (.bl (decide (x=.non))) H):=by
 intro pins s σ H x y v u Q I rx ry h
 obtain ⟨rfl,q⟩:=h
 cases ry
 refine is_none_gen (kK I q ?_)
 cases x<;>first
  | (cases rx;rfl)
  | (obtain ⟨t,rfl⟩:=rx;rfl)
theorem j8 (b:Expr) {op:CmpOp} (h:op≠.In:=by decide) (h2:op≠.NotIn:=by decide):behindInMarks op b=false:=by
 have e1:(op == CmpOp.In)=false:=by cases op<;>first|rfl|exact absurd rfl h
 have e2:(op == CmpOp.NotIn)=false:=by cases op<;>first|rfl|exact absurd rfl h2
 cases b<;>simp [behindInMarks,e1,e2]
theorem zF {op:CmpOp} {r:R2} (ho:kU X (compareOp op) r) (ha:PE X a ta) (hb:PE X b tb) (hm:behindInMarks op b=false):PE X (.Compare a [op] [b] pos) (e6 r ta tb):=by
 intro pins s σ H Q I h
 exact wpAny_Compare1 (iT ha hb I h fun v u s2 x y H2 I2 rx ry q=>ho pins s2 σ H2 x y v u Q I2 rx ry q) hm
def E1 (t:TE):TT:=fun σ H Q=>t σ H fun x H'=>∃k,x=.bl k∧Q k H'
theorem kB {op:CmpOp} {r:R2} (ho:kU X (compareOp op) r) (ha:PE X a ta) (hb:PE X b tb) (hm:behindInMarks op b=false):PT X (.Compare a [op] [b] pos) (E1 (e6 r ta tb)):=by
 intro pins s σ H Q I h
 refine wpAny_isTrue_Compare1 (jN (ha pins s σ H _ I h) fun v s1 ⟨x,H1,I1,r1,q1⟩=>jN (hb pins s1 σ H1 _ I1 q1) fun u s2 ⟨y,H2,I2,r2,q2⟩ =>
  jN (ho pins s2 σ H2 x y v u _ I2 r1 r2 q2) fun c s3 ⟨z,H3,I3,r3,k,e,q3⟩=>?_) hm
 subst e
 cases r3
 exact wpAny_truthy_bool ⟨H3,I3,q3⟩
theorem Z1:(sizeLine:Nat)<2 ^ 63:=by rw [sizeLine_eq];decide
theorem zX {x:V} {us:List Value} (r:Vals [x] us):∃u,us=[u]∧RelV x u:=by
 cases r with
 |cons r1 r2=>cases r2;exact ⟨_,rfl,r1⟩
theorem rD {x y:V} {us:List Value} (r:Vals [x,y] us):∃u w',us=[u,w']∧RelV x u∧RelV y w':=by
 cases r with
 |cons r1 r2 =>
  cases r2 with
  |cons r3 r4=>cases r4;exact ⟨_,_,rfl,r1,r3⟩
theorem BR (hc:X.calm=true):vZ X (.builtin "max") (fun xs H Q=>∃i j,xs=[.int i,.int j]∧Q (.int (if j>i then j else i)) H):=by
 intro pins s σ H xs us Q I r h
 obtain ⟨i,j,rfl,q⟩:=h
 obtain ⟨u,w',rfl,⟨t,rfl⟩,⟨t',rfl⟩⟩:=rD r
 refine max_two_ints (I.ok.hd hc) fun h' tk k=>⟨_,H,I.kept k,?_,q⟩
 by_cases hj:j>i
 ·rw [if_pos hj,if_pos hj];exact ⟨_,rfl⟩
 ·rw [if_neg hj,if_neg hj];exact ⟨_,rfl⟩
theorem nK (hc:X.calm=true):vZ X (.builtin "min") (fun xs H Q=>∃i j,xs=[.int i,.int j]∧Q (.int (if j<i then j else i)) H):=by
 intro pins s σ H xs us Q I r h
 obtain ⟨i,j,rfl,q⟩:=h
 obtain ⟨u,w',rfl,⟨t,rfl⟩,⟨t',rfl⟩⟩:=rD r
 refine min_two_ints (I.ok.hd hc) fun h' tk k=>⟨_,H,I.kept k,?_,q⟩
 by_cases hj:j<i
 ·rw [if_pos hj,if_pos hj];exact ⟨_,rfl⟩
 ·rw [if_neg hj,if_neg hj];exact ⟨_,rfl⟩
theorem BS:vZ X (.type "int") (fun xs H Q=>(∃i,xs=[.int i]∧Q (.int i) H)∨∃k,xs=[.bl k]∧Q (.int (if k then 1 else 0)) H):=by
 intro pins s σ H xs us Q I r h
 rcases h with ⟨i,rfl,q⟩|⟨k,rfl,q⟩
 ·obtain ⟨u,rfl,t,rfl⟩:=zX r
  exact call_int_int ⟨.int i,H,I,⟨_,rfl⟩,q⟩
 ·obtain ⟨u,rfl,r1⟩:=zX r
  cases r1
  exact call_int_bool ⟨.int (if k then 1 else 0),H,I.tok _,⟨_,rfl⟩,q⟩
end
end L2
namespace L2
open PySem PySem.Spec PyProof.Rows
structure ObjM (h:Heap) (x dx C:Addr) (mA:Str→Option Value):Prop where
 obj:h.get? x=some (PySem.W.instObj C dx)
 ns:h.Ns1 dx mA
 ne:dx≠x
theorem BF {h:Heap} {dx:Addr} {mA:Str→Option Value} (n:h.Ns1 dx mA):∃od,h.get? dx=some od∧∀name,PySem.W.lookIn name od=some (mA name):=by
 obtain ⟨o,es,ep,ho,hd,hk,_,hm⟩:=n
 refine ⟨o,ho,fun name=>?_⟩
 have e:=hm name
 unfold nsFind findBy at e
 rw [← Array.find?_toList] at e
 unfold PySem.W.lookIn
 rw [hd]
 dsimp only
 split
 ·rename_i y q
  rw [q] at e
  exact congrArg some e
 ·rename_i q
  rw [q] at e
  have a:es.toList.any (·.refKey)=false:=by
   rw [List.any_eq_false]
   intro y hy
   obtain ⟨z,t,hkey⟩:=hk y (Array.mem_toList_iff.mp hy)
   simp [DictEntry.refKey,hkey]
  have a':¬es.toList.any (·.refKey)=true:=by rw [a];exact Bool.false_ne_true
  rw [if_neg a']
  exact congrArg some e
theorem ObjM.look {h:Heap} {x dx C:Addr} {mA:Str→Option Value} (I:ObjM h x dx C mA):∃od,PySem.W.InstAt h x (PySem.W.instObj C dx) C (some od)∧∀name,PySem.W.lookIn name od=some (mA name) :=
 let ⟨od,ho,hl⟩:=BF I.ns
 ⟨od,⟨I.obj,rfl,rfl,ho⟩,hl⟩
section
variable {prog:Program} {w:World} {A:Around} {E:Value→Shared→Prop} {s:Shared} {K:PySem.W.Frag} {x dx C f:Addr} {mA:Str→Option Value} {name:Str} {v:Value}
theorem DJ {expr:Bool} {Q:Value→Shared→Prop} (X:K.In s.heap) (I:ObjM s.heap x dx C mA) (hg:PySem.W.plainGet K C name=true) (hh:PySem.W.hasDictIn K C=true)
  (ha:PySem.W.findIn K (.ref C) name=some none) (hv:mA name=some v) (hv':PySem.W.handedIn v=true) (h:Q v {s with toks:=s.toks+1}) :
  wpAny (model prog w) A (getAttr (.ref x) name expr) Q E s:=by
 obtain ⟨od,J,hl⟩:=I.look
 exact PySem.W.get_value X J (PySem.W.plainGet_of hg).1 (PySem.W.findObj_own hh ha rfl (by rw [hl,hv])) hv' h
theorem CH {pl:Sem Bool} {Q:Value×List Value→Shared→Prop} (X:K.In s.heap) (I:ObjM s.heap x dx C mA) (hg:PySem.W.plainGet K C name=true)
  (hf:PySem.W.findIn K (.ref C) name=some (some (.ref f))) (ht:PySem.W.isFn K (.ref f)=true) (hv:mA name=none) (h:Q (.ref f,[.ref x]) s) :
  wpAny (model prog w) A (getMethod (.ref x) name pl) Q E s:=by
 obtain ⟨od,J,hl⟩:=I.look
 exact PySem.W.method_fn X J (PySem.W.plainGet_of hg).1 (PySem.W.plainGet_of hg).2 hf (beq_iff_eq.mp ht) (by show (PySem.W.lookIn name od).map (·.isSome)=some false;rw [hl,hv];rfl) h
theorem CW {ns:List Str} {Q:Unit→Shared→Prop} (X:K.In s.heap) (I:ObjM s.heap x dx C mA)
  (hs:PySem.W.findIn K (.ref C) "__setattr__"=some (some (.builtin "object.__setattr__"))) (hp:PySem.W.plainOver K C=true) (ht:PySem.W.takerIn K C name=some none) (hh:PySem.W.hasDictIn K C=true)
  (hw:PySem.Within mA ns) (hsz:ns.length≤sizeLine)
  (h:∀h',ObjM h' x dx C (fun y=>if y=name then some v else mA y)→Heap.SameBut dx s.heap h'→Q () {s with heap:=h',toks:=s.toks+2}) :
  wpAny (model prog w) A (setAttr (.ref x) name v) Q E s:=by
 obtain ⟨od,J,hl⟩:=I.look
 refine PySem.W.set_plain X J hs (PySem.W.osa_open (s:={s with toks:=s.toks+1}) (r:=none) X J hp ht fun b=>?_)
 obtain ⟨cd,hc,hd'⟩:=PySem.W.any_some hh
 have hx:s.heap.get? x=some ⟨.ref C,some dx,.plain,#[]⟩:=I.obj
 refine wpAny_bind (wpAny_pure (wpAny_bind (wpAny_bind (wpAny_loadPart hx (wpAny_bind (PySem.W.Looks.here (s:={s with toks:=s.toks+1}) (PySem.W.looks_clsIn X hc) ?_))))))
 rw [hd']
 refine wpAny_pure (a:=some dx) (wpAny_bind (wpAny_pure (wpAny_bind ?_)))
 refine wpAny_nsSet1 (s:={s with toks:=s.toks+1}) I.ns fun h' hn2 hs2=>?_
 obtain ⟨oD,esD,epD,hoD,hdD,hcD⟩:=hn2.count (PySem.Within.cons name v hw)
 refine wpAny_bind (wpAny_lookBehind hoD (by rw [hdD];exact pastItsLine_dict (Nat.le_trans hcD (by rw [List.length_cons];omega))) ?_)
 exact wpAny_pure (h _ ⟨(hs2.2 _ (Ne.symm I.ne)).trans I.obj,hn2,I.ne⟩ hs2)
theorem CB {R:Result→Shared→Prop} {vs:List Value} {kw:List (Str×Value)} (X:K.In s.heap) (hm:PySem.W.makesIn K C=true)
  (hi:PySem.W.findIn K (.ref C) "__init__"=some (some (.ref f))) (hf:PySem.W.typeIn K (.ref f)=some (.type "function"))
  (h:codeAny (model prog w) (A.under (.builtin "type.__call__" ⟨.ref C::vs,kw⟩)) (.call (.ref f) ⟨.ref (s.heap.objs.size+1)::vs,kw⟩) (PySem.W.InitBack (s.heap.objs.size+1) R)
   {s with heap:=(s.heap.push PySem.W.emptyDict).push (PySem.W.instObj C s.heap.objs.size)}) :
  codeAny (model prog w) A (.call (.ref C) ⟨vs,kw⟩) R s:=by
 obtain ⟨hh,g,d,t,os⟩:=s
 exact PySem.W.make_core (PySem.W.makes_of X hm) (PySem.W.looks_findIn X hi) (fun self=>PySem.W.bind_fn X self hf) (.inl rfl) h
end
def jS (f:Str) (v:V):List (Str×V)→List (Str×V)
 |[]=>[(f,v)]
 | (g,x)::r=>if g=f then (g,v)::r else (g,x)::jS f v r
theorem qO (f g:Str) (v:V):∀fs:List (Str×V),(jS f v fs).lookup g=if g=f then some v else fs.lookup g
 |[]=>by
  show List.lookup g [(f,v)]=_
  by_cases h:g=f
  ·have hb:(g == f)=true:=beq_iff_eq.mpr h
   simp only [List.lookup,hb,if_pos h]
  ·have hb:(g == f)=false:=beq_eq_false_iff_ne.mpr h
   simp only [List.lookup,hb,if_neg h]
 | (k,x)::r=>by
  have ih:=qO f g v r
  rw [show jS f v ((k,x)::r)=(if k=f then (k,v)::r else (k,x)::jS f v r) from rfl]
  by_cases hk:k=f
  ·rw [if_pos hk]
   by_cases h:g=k
   ·have hb:(g == k)=true:=beq_iff_eq.mpr h
    simp only [List.lookup,hb,if_pos (h.trans hk)]
   ·have hb:(g == k)=false:=beq_eq_false_iff_ne.mpr h
    simp only [List.lookup,hb,if_neg (fun e:g=f=>h (e.trans hk.symm))]
  ·rw [if_neg hk]
   by_cases h:g=k
   ·have hb:(g == k)=true:=beq_iff_eq.mpr h
    simp only [List.lookup,hb,if_neg (fun e:g=f=>hk (h.symm.trans e))]
   ·have hb:(g == k)=false:=beq_eq_false_iff_ne.mpr h
    simp only [List.lookup,hb]
    exact ih
theorem gD (f:Str) (v:V):∀fs:List (Str×V),f∈(jS f v fs).map (·.1)∧∀g,g∈fs.map (·.1)→g∈(jS f v fs).map (·.1)
 |[]=>⟨by simp [jS],fun g h=>by simp at h⟩
 | (k,x)::r=>by
  obtain ⟨i1,i2⟩:=gD f v r
  rw [show jS f v ((k,x)::r)=(if k=f then (k,v)::r else (k,x)::jS f v r) from rfl]
  by_cases hk:k=f
  ·rw [if_pos hk]
   subst hk
   exact ⟨by simp,fun g h=>by simpa using h⟩
  ·rw [if_neg hk]
   refine ⟨?_,fun g h=>?_⟩
   ·rw [List.map_cons]
    exact List.mem_cons_of_mem _ i1
   ·rw [List.map_cons] at h ⊢
    rcases List.mem_cons.mp h with e|e
    ·exact List.mem_cons.mpr (.inl e)
    ·exact List.mem_cons_of_mem _ (i2 g e)
theorem yM (f:Str) (v:V):∀fs:List (Str×V),(jS f v fs).length≤fs.length+1
 |[]=>by simp [jS]
 | (k,x)::r=>by
  have ih:=yM f v r
  rw [show jS f v ((k,x)::r)=(if k=f then (k,v)::r else (k,x)::jS f v r) from rfl]
  by_cases hk:k=f
  ·rw [if_pos hk,List.length_cons,List.length_cons];omega
  ·rw [if_neg hk,List.length_cons,List.length_cons];omega
theorem RelO.some_of {v:V} {o:Option Value} (r:RelO (some v) o):∃u,o=some u∧RelV v u:=by
 cases o with
 |none=>exact (show False from r).elim
 |some u=>exact ⟨u,rfl,r⟩
theorem RelO.none_of {o:Option Value} (r:RelO none o):o=none:=by
 cases o with
 |none=>rfl
 |some u=>exact (show False from r).elim
theorem BK {v:V} {u:Value} (r:RelV v u):PySem.W.handedIn u=true:=by
 cases v with
 |non=>cases (show u=Value.none from r);rfl
 |bl b=>cases (show u=Value.bool b from r);rfl
 |int i=>obtain ⟨t,e⟩:=(show ∃t,u=Value.int i t from r);cases e;rfl
 |str x=>obtain ⟨t,e⟩:=(show ∃t,u=Value.str x t from r);cases e;rfl
 |byt b=>obtain ⟨t,e⟩:=(show ∃t,u=Value.bytes b t from r);cases e;rfl
 |flt b=>obtain ⟨t,e⟩:=(show ∃t,u=Value.float b t from r);cases e;rfl
 |ref a=>cases (show u=Value.ref a from r);rfl
 |ty n=>cases (show u=Value.type n from r);rfl
section
variable {P:Program} {w:World} {H H':Hp} {h h':Heap} {a C dx:Addr} {fs fs':List (Str×V)}
theorem gY (hok:HOk P w H h) (e:H a=some (.ins C dx fs)):∃mA,ObjM h a dx C mA∧(∀f,RelO (fs.lookup f) (mA f))∧PySem.Within mA (fs.map (·.1))∧fs.length≤1000∧H dx=some (.own a):=by
 obtain ⟨d,z,ne,ob,mA,n,r,q⟩:=(show ObjOk P w H h a (.ins C dx fs) from hok a _ e)
 exact ⟨mA,⟨ob,n,ne⟩,r,q,z,d⟩
end
structure Cls (K:PySem.W.Frag) (C:Addr):Prop where
 pg:PySem.W.plainGet K C Str.empty=true
 hd:PySem.W.hasDictIn K C=true
 po:PySem.W.plainOver K C=true
 sa:PySem.W.findIn K (.ref C) "__setattr__"=some (some (.builtin "object.__setattr__"))
theorem Cls.get {K:PySem.W.Frag} {C:Addr} (c:Cls K C) (f:Str):PySem.W.plainGet K C f=true:=c.pg
def NoAttr (K:PySem.W.Frag) (C:Addr) (f:Str):Prop:=PySem.W.findIn K (.ref C) f=some none
theorem NoAttr.taker {K:PySem.W.Frag} {C:Addr} {f:Str} (n:NoAttr K C f):PySem.W.takerIn K C f=some none:=by
 unfold PySem.W.takerIn
 rw [show PySem.W.findIn K (.ref C) f=some none from n]
 rfl
structure Meth (K:PySem.W.Frag) (C:Addr) (m:Str) (f:Addr):Prop where
 at_:PySem.W.findIn K (.ref C) m=some (some (.ref f))
 fn:PySem.W.isFn K (.ref f)=true
 kp:PySem.W.keepIn K (.ref f)=true
section
variable {X:Cx} {pins:List (Addr×Obj)} {σ:St} {H:Hp} {s:Shared} {a C dx:Addr} {fs:List (Str×V)} {f:Str} {v:V} {A:Around} {E:Value→Shared→Prop}
theorem AL {b:Bool} {Q:Value→Shared→Prop} (I:Inv X pins σ H s) (e:H a=some (.ins C dx fs)) (c:Cls X.K C) (n:NoAttr X.K C f) (l:fs.lookup f=some v)
  (h:∀u s',Inv X pins σ H s'→RelV v u→Q u s'):wpAny (model X.prog X.w) A (getAttr (.ref a) f b) Q E s:=by
 obtain ⟨mA,O,r,_,_,_⟩:=gY I.hok e
 obtain ⟨u,hu,ru⟩:=RelO.some_of (v:=v) (o:=mA f) (by rw [← l];exact r f)
 exact DJ I.kIn O (c.get f) c.hd n hu (BK ru) (h u _ (I.tok _) ru)
theorem fV {m:Str} {g:Addr} {pl:Sem Bool} {Q:Value×List Value→Shared→Prop} (I:Inv X pins σ H s) (e:H a=some (.ins C dx fs)) (c:Cls X.K C) (k:Meth X.K C m g) (l:fs.lookup m=none)
  (h:Q (.ref g,[.ref a]) s):wpAny (model X.prog X.w) A (getMethod (.ref a) m pl) Q E s:=by
 obtain ⟨mA,O,r,_,_,_⟩:=gY I.hok e
 have hn:mA m=none:=RelO.none_of (by rw [← l];exact r m)
 exact CH I.kIn O (c.get m) k.at_ k.fn hn h
theorem AC {y:V} {u:Value} {Q:Unit→Shared→Prop} (I:Inv X pins σ H s) (e:H a=some (.ins C dx fs)) (c:Cls X.K C) (n:NoAttr X.K C f) (hl:fs.length<1000) (ry:RelV y u)
  (h:∀s',Inv X pins σ (upd H a (.ins C dx (jS f y fs))) s'→Q () s'):wpAny (model X.prog X.w) A (setAttr (.ref a) f u) Q E s:=by
 obtain ⟨mA,O,r,wi,_,ho⟩:=gY I.hok e
 have hz:(fs.map (·.1)).length≤sizeLine:=by rw [List.length_map,sizeLine_eq];omega
 refine CW I.kIn O c.sa c.po n.taker c.hd wi hz fun h' O' sb=>h _ ?_
 have hd:∃o,h'.get? dx=some o:=let ⟨o,_,_,e',_⟩:=O'.ns;⟨o,e'⟩
 refine I.write (x:=a) (e:=dx) (by rw [e];exact True.intro) (.inr ho) (fun b q hb z=>(sb.2 b hb).trans z) hd ?_
 refine ⟨by rw [j6 O.ne];exact ho,?_,O.ne,O'.obj,_,O'.ns,fun g=>?_,fun g hg=>?_⟩
 ·have:=yM f y fs;omega
 ·show RelO ((jS f y fs).lookup g) (if g=f then some u else mA g)
  rw [qO]
  by_cases q:g=f
  ·rw [if_pos q,if_pos q];exact ry
  ·rw [if_neg q,if_neg q];exact r g
 ·by_cases q:g=f
  ·rw [q];exact (gD f y fs).1
  ·refine (gD f y fs).2 g (wi g fun z=>hg ?_)
   show (if g=f then some u else mA g)=none
   rw [if_neg q];exact z
theorem Inv.made (I:Inv X pins σ H s):Inv X pins σ (upd (upd H s.heap.objs.size (.own (s.heap.objs.size+1))) (s.heap.objs.size+1) (.ins C s.heap.objs.size []))
  {s with heap:=(s.heap.push PySem.W.emptyDict).push (PySem.W.instObj C s.heap.objs.size)}:=by
 have e1:(s.heap.push PySem.W.emptyDict).get? s.heap.objs.size=some PySem.W.emptyDict:=Heap.get?_push_size s.heap rfl
 have e2:((s.heap.push PySem.W.emptyDict).push (PySem.W.instObj C s.heap.objs.size)).get? (s.heap.objs.size+1)=some (PySem.W.instObj C s.heap.objs.size):=by
  have:=Heap.get?_push_size (s.heap.push PySem.W.emptyDict) (o:=PySem.W.instObj C s.heap.objs.size) rfl
  rwa [Heap.size_push] at this
 have e3:(s.heap.push PySem.W.emptyDict).Ns s.heap.objs.size (fun _=>none):=⟨PySem.W.emptyDict,#[],_,e1,rfl,(fun e he=>absurd he (by simp)),fun _=>rfl⟩
 have I1:=I.laid (a:=s.heap.objs.size) (o:=.own (s.heap.objs.size+1)) (h':=s.heap.push PySem.W.emptyDict) (t':=s.toks) (fun b u q=>Heap.get?_push_of_some _ q) (Nat.le_refl _) ⟨_,e1⟩
 refine I1.laid (a:=s.heap.objs.size+1) (o:=.ins C s.heap.objs.size []) (t':=s.toks) (fun b u q=>Heap.get?_push_of_some _ q) (Nat.le_of_eq (Heap.size_push _ _)) ?_
 have ne:s.heap.objs.size≠s.heap.objs.size+1:=Nat.ne_of_lt (Nat.lt_succ_self _)
 refine ⟨by rw [j6 ne,jE],Nat.zero_le _,ne,e2,fun _=>none,(Heap.Ns1.of_empty e3).at fun o q=>Heap.get?_push_of_some _ q,fun _=>True.intro,fun y hy=>absurd rfl hy⟩
theorem DR {prog:Program} {w:World} {env:Env} {e:Expr} {f:Str} {pos:Pos} {s:Shared} {Q:Value→Shared→Prop} (hb:attributeBase e f env (eval e env)=eval e env)
  (h:wpAny (model prog w) A (eval e env) (fun o s₁=>wpAny (model prog w) A (getAttr o f true) Q E s₁) E s):wpAny (model prog w) A (eval (.Attribute e f pos) env) Q E s :=
 Attribute_any_ h (by rw [arm_eval_Attribute,hb])
end
def rT (K:PySem.W.Frag) (ta:TE) (f:Str):TE:=fun σ H Q=>ta σ H fun x H1=>∃a C dx fs v,x=.ref a∧H1 a=some (.ins C dx fs)∧Cls K C∧NoAttr K C f∧fs.lookup f=some v∧Q v H1
def GE (K:PySem.W.Frag) (ta tv:TE) (f:Str):TS:=fun D σ H=>tv σ H fun y H1=>ta σ H1 fun x H2=>∃a C dx fs,x=.ref a∧H2 a=some (.ins C dx fs)∧Cls K C∧NoAttr K C f∧fs.length<1000∧
 D.nx σ (upd H2 a (.ins C dx (jS f y fs)))
section
variable {X:Cx} {o e value:Expr} {f:Str} {pos pos' tpos:Pos} {ta tv:TE}
theorem jZ (he:PE X e ta) (hb:attributeBase e f X.env (eval e X.env)=eval e X.env):PE X (.Attribute e f pos) (rT X.K ta f):=by
 intro pins s σ H Q I h
 refine DR hb (jN (he pins s σ H _ I h) fun u s1 ⟨x,H1,I1,rx,a,C,dx,fs,v,ex,ea,c,n,l,q⟩=>?_)
 subst ex
 obtain rfl:u=Value.ref a:=rx
 exact AL I1 ea c n l fun u' s2 I2 ru=>⟨v,H1,I2,ru,q⟩
theorem vL (ha:PE X o ta) (hv:PE X value tv) (hs:swapsWith value (some (.Attribute o f pos')) pos.line X.env=pure false):PS X (.Assign [.Attribute o f pos'] value pos) (GE X.K ta tv f):=by
 intro pins s σ H D I h
 refine plainObj_wpAny_Assign_Attribute (jN (hv pins s σ H _ I h) fun u s1 ⟨y,H1,I1,ry,q⟩=>jN (ha pins s1 σ H1 _ I1 q) fun ov s2 ⟨x,H2,I2,rx,a,C,dx,fs,ex,ea,c,n,l,q2⟩=>?_) hs
 subst ex
 obtain rfl:ov=Value.ref a:=rx
 exact AC I2 ea c n l ry fun s3 I3=>⟨σ,_,I3,q2⟩
end
section
variable {X:Cx} {pins:List (Addr×Obj)} {σ:St} {H:Hp} {s:Shared} {A:Around} {E:Value→Shared→Prop} {Q:Value→Shared→Prop} {c:Value} {b:Bool}
end
end L2
namespace L2
open PySem PySem.Spec PyProof.Rows
structure Room (k:Nat) (A:Around):Prop where
 hd:A.handled=none
 dp:A.depth+3*k+5<recursionLimit
 un:A.units+16*k+200<cLine
theorem Room.mono {j k:Nat} {A:Around} (r:Room k A) (h:j≤k):Room j A:=⟨r.hd,by have:=r.dp;omega,by have:=r.un;omega⟩
theorem Room.deeper {k:Nat} {A:Around} (r:Room (k+1) A) (env:Env):Room k (A.deeper env) :=
 ⟨r.hd,by have:=r.dp;show A.depth+1+3*k+5<_;omega,by have:=r.un;show A.units+3+16*k+200<_;omega⟩
theorem AJ {A:Around} {C:Addr} {us:List Value} {kw:List (Str×Value)}:(A.under (.builtin "type.__call__" ⟨.ref C::us,kw⟩)).depth=A.depth+1:=by
 first|rfl|simp [Around.under,Code.weight,Code.isCreation,Code.isGuard,Code.isCaller,Code.frames,Code.isFrame,guardIds]
theorem AI {A:Around} {C:Addr} {us:List Value} {kw:List (Str×Value)}:(A.under (.builtin "type.__call__" ⟨.ref C::us,kw⟩)).units=A.units+1:=by
 first|rfl|simp [Around.under,Code.cUnits,Code.frames,Code.isFrame]
theorem Room.make {k:Nat} {A:Around} (r:Room (k+1) A) (C:Addr) (us:List Value) (kw:List (Str×Value)):Room k (A.under (.builtin "type.__call__" ⟨.ref C::us,kw⟩)) :=
 ⟨r.hd,by have:=r.dp;rw [AJ];omega,by have:=r.un;rw [AI];omega⟩
theorem Room.depth {k:Nat} {A:Around} (r:Room k A):A.depth<recursionLimit:=by have:=r.dp;omega
theorem Room.units {k:Nat} {A:Around} (r:Room k A):A.units+64<cLine:=by have:=r.un;omega
theorem Room.units0 {k:Nat} {A:Around} (r:Room k A):A.units<cLine:=by have:=r.un;omega
def iQ:TA:=fun _ H Q=>Q [] H
def E7 (ta:TE) (tr:TA):TA:=fun σ H Q=>ta σ H fun x H1=>tr σ H1 fun xs H2=>Q (x::xs) H2
section
variable {X:Cx} {e:Expr} {es:List Expr} {te:TE} {t:TA} {pos:Pos}
theorem jB:PA X [] iQ:=fun _ _ _ _ H Q I h=>Calls.spliced_nil ⟨[],H,I,.nil,h⟩
theorem jA (ha:PE X e te) (hr:PA X es t) (hs:starEach (e::es) X.env=(false,eval e X.env)::starEach es X.env:=by rfl):PA X (e::es) (E7 te t):=by
 intro pos pins s σ H Q I h
 rw [hs]
 show wpAny _ _ (spliced ((false,eval e X.env)::backTo pos (starEach es X.env))) _ _ s
 refine Calls.spliced_cons (jN (ha pins s σ H _ I h) fun u s1 ⟨x,H1,I1,r1,q1⟩=>?_)
 exact jN (hr pos pins s1 σ H1 _ I1 q1) fun us s2 ⟨xs,H2,I2,r2,q2⟩=>⟨x::xs,H2,I2,.cons r1 r2,q2⟩
def FV (t:TA):TE:=fun σ H Q=>t σ H fun xs H1=>xs.length≤sizeLine∧∀p,H1 p=none→Q (.ref p) (upd H1 p (.tup xs))
def FZ (t:TA):TE:=fun σ H Q=>t σ H fun xs H1=>xs.length≤sizeLine∧∀p,H1 p=none→Q (.ref p) (upd H1 p (.lst xs))
theorem kG {x1} (h:PA X es t):PE X (.Tuple es x1 pos) (FV t):=by
 intro pins s σ H Q I hq
 refine wpAny_Tuple_spliced (jN (h pos pins s σ H _ I hq) fun us s1 ⟨xs,H1,I1,r,z,q⟩=>⟨by rw [← r.length];exact z,?_⟩)
 have hf:H1 s1.heap.objs.size=none:=I1.hok.fresh (Nat.le_refl _)
 refine ⟨.ref s1.heap.objs.size,upd H1 s1.heap.objs.size (.tup xs),I1.laid (t':=s1.toks) (fun b u e=>Heap.get?_push_of_some _ e) (Nat.le_refl _) ?_,rfl,q _ hf⟩
 exact ⟨z,us,r,⟨_,Heap.get?_push_size _ rfl,rfl,_,rfl⟩⟩
theorem qE (h:PA X es t):PE X (.List es pos) (FZ t):=by
 intro pins s σ H Q I hq
 refine wpAny_List_spliced (jN (h pos pins s σ H _ I hq) fun us s1 ⟨xs,H1,I1,r,z,q⟩=>⟨by rw [← r.length];exact z,?_⟩)
 have hf:H1 s1.heap.objs.size=none:=I1.hok.fresh (Nat.le_refl _)
 refine ⟨.ref s1.heap.objs.size,upd H1 s1.heap.objs.size (.lst xs),I1.laid (t':=s1.toks) (fun b u e=>Heap.get?_push_of_some _ e) (Nat.le_refl _) ?_,rfl,q _ hf⟩
 exact ⟨z,us,0,r,Heap.get?_push_size _ rfl⟩
end
abbrev Sp:=List V→Hp→VK→XK→Prop
abbrev vT:=List Env→Hp→Shared→XK→Value→Shared→Prop
structure Env0 (P:Program) (w:World) (K:PySem.W.Frag) (mg:Str→Option Value) (base:Heap) (A:Around) (outer:List Env) (s:Shared) (H:Hp):Prop where
 frames:A.frames=some outer
 mod:Mod K mg base
 bs:∀b o,base.get? b=some o→s.heap.get? b=some o∧H b=none
 bsz:base.objs.size≤s.heap.objs.size
 funs:s.heap.FunFrames base outer
 frf:∀b∈kE outer,H b=none
 hok:HOk P w H s.heap
 bare:AllBare s.gens
def CE (outer:List Env) (P:Program) (w:World) (H:Hp) (s:Shared) (Q:VK) (u:Value) (s':Shared):Prop :=
 ∃v H',s'.os=s.os∧AllBare s'.gens∧Un (kE outer) [] H H' s.heap s'.heap∧HOk P w H' s'.heap∧RelV v u∧Q v H'
def CR (CX:vT) (outer:List Env) (P:Program) (w:World) (H:Hp) (s:Shared) (Q:VK) (E:XK) (r:Result) (s':Shared):Prop :=
 match r with
 |.ok (.ret u)=>CE outer P w H s Q u s'
 |.ok _=>False
 |.error e=>CX outer H s E e s'
structure FnOk (P:Program) (w:World) (K:PySem.W.Frag) (mg:Str→Option Value) (base:Heap) (CX:vT) (k:Nat) (f:Addr) (fd:FuncData) (ps:List Str) (sp:Sp):Prop where
 len:∀vs H Q E,sp vs H Q E→vs.length=ps.length
 run:∀(A:Around) (outer:List Env) (s:Shared) (H:Hp) (args:Args) (us:List Value) (vs:List V) (Q:VK) (E:XK),Room k A→Env0 P w K mg base A outer s H→BindsTo s fd args (ps.zip us)→Vals vs us→sp vs H Q E→
  codeAny (model P w) A (.call (.ref f) args) (CR CX outer P w H s Q E) s
theorem FnOk.imp {P:Program} {w:World} {K:PySem.W.Frag} {mg:Str→Option Value} {base:Heap} {CX:vT} {k:Nat} {f:Addr} {fd:FuncData} {ps:List Str} {sp sp':Sp} (F:FnOk P w K mg base CX k f fd ps sp)
  (h:∀vs H Q E,sp' vs H Q E→sp vs H Q E):FnOk P w K mg base CX k f fd ps sp' :=
 ⟨fun vs H Q E q=>F.len vs H Q E (h _ _ _ _ q),fun A outer s H args us vs Q E hr he hb hv hs=>F.run A outer s H args us vs Q E hr he hb hv (h _ _ _ _ hs)⟩
theorem Env0.make {P:Program} {w:World} {K:PySem.W.Frag} {mg:Str→Option Value} {base:Heap} {A:Around} {outer:List Env} {s:Shared} {H:Hp} (e:Env0 P w K mg base A outer s H) (C:Addr) (us:List Value) (kw:List (Str×Value)) :
  Env0 P w K mg base (A.under (.builtin "type.__call__" ⟨.ref C::us,kw⟩)) outer s H:=⟨by first|exact e.frames|(simpa [Around.under,Code.envs,Code.isFrame,pushEnvs] using e.frames),e.mod,e.bs,e.bsz,e.funs,e.frf,e.hok,e.bare⟩
section
variable {X:Cx} {pins:List (Addr×Obj)} {σ:St} {H:Hp} {s s':Shared}
theorem Inv.env0 (I:Inv X pins σ H s):Env0 X.prog X.w X.K X.mg X.base X.A X.stack s H :=
 ⟨I.ok.frames,I.ok.mod,I.bs,Nat.le_trans I.ok.bsz I.sz,I.stack,I.stkFree,I.hok,I.bare⟩
theorem Inv.after {Q:VK} {u:Value} (I:Inv X pins σ H s) (h:CE X.stack X.prog X.w H s Q u s'):EP X pins σ Q u s':=by
 obtain ⟨v,H',os,bare,un,hok,r,q⟩:=h
 obtain ⟨hh,g,d,t,os'⟩:=s'
 obtain rfl:os'=s.os:=os
 exact ⟨v,H',I.call (h':=hh) (g':=g) (d':=d) (t':=t) (ch:=[]) un hok bare (fun b z=>absurd z (by simp)),r,q⟩
end
def iI (sp:Sp) (dvs:List V) (E:XK) (t:TA):TE:=fun σ H Q=>t σ H fun vs H1=>sp (vs++dvs) H1 Q E
def eN (C:Addr) (m:Str) (sp:Sp) (dvs:List V) (E:XK) (ta:TE) (t:TA):TE:=fun σ H Q=>ta σ H fun x H1=>∃a dx fs,x=.ref a∧H1 a=some (.ins C dx fs)∧fs.lookup m=none∧
 t σ H1 fun vs H2=>sp (x::(vs++dvs)) H2 Q E
def rE (C:Addr) (sp:Sp) (dvs:List V) (E:XK) (t:TA):TE:=fun σ H Q=>t σ H fun vs H1=>∀x dx,H1 x=none→H1 dx=none→dx≠x→
 sp (.ref x::(vs++dvs)) (upd (upd H1 dx (.own x)) x (.ins C dx [])) (fun v H2=>v=.non∧Q (.ref x) H2) E
def Binds (K:PySem.W.Frag) (fd:FuncData) (ps:List Str) (ds:List Value):Prop :=
 ∀(s:Shared) (us:List Value),K.In s.heap→(us++ds).length=ps.length→BindsTo s fd ⟨us,[]⟩ (ps.zip (us++ds))
theorem Binds.all {K:PySem.W.Frag} {fd:FuncData} {ps:List Str} (h:∀us:List Value,us.length=ps.length→bindArgs fd ⟨us,[]⟩=pure (ps.zip us)):Binds K fd ps []:=fun s us _ hl=>by
 rw [List.append_nil] at hl ⊢
 exact .of_eq (h us hl)
def J5 (CX:vT) (X:Cx) (E:XK):Prop:=∀(pins:List (Addr×Obj)) (σ:St) (H:Hp) (s:Shared) (e:Value) (s':Shared),Inv X pins σ H s→CX X.stack H s E e s'→X.xe e s'
section
variable {X:Cx} {CX:vT} {k:Nat} {f C:Addr} {fd:FuncData} {ps:List Str} {sp:Sp} {dvs:List V} {ds:List Value} {E:XK} {x m:Str} {p pos apos:Pos} {e o:Expr} {es:List Expr} {ta:TE} {t:TA}
theorem cK {pins:List (Addr×Obj)} {σ:St} {H:Hp} {s:Shared} {Q:VK} {us:List Value} {vs:List V} (F:FnOk X.prog X.w X.K X.mg X.base CX k f fd ps sp) (hr:Room k X.A) (hb:Binds X.K fd ps ds) (hd:Vals dvs ds) (hx:J5 CX X E)
  (I:Inv X pins σ H s) (r:Vals vs us) (h:sp (vs++dvs) H Q E):wpAny (model X.prog X.w) X.A (call (.ref f) us) (EP X pins σ Q) X.xe s:=by
 have r2:Vals (vs++dvs) (us++ds):=r.append hd
 have hl:(us++ds).length=ps.length:=by rw [← r2.length];exact F.len _ _ _ _ h
 refine wpAny_call (codeAny_mono (F.run X.A X.stack s H ⟨us,[]⟩ (us++ds) (vs++dvs) Q E hr I.env0 (hb s us I.kIn hl) r2 h) fun r s' hq=>?_)
 cases r with
 |error e=>exact hx pins σ H s e s' I hq
 |ok fl =>
  cases fl with
  |ret u=>exact I.after hq
  |next=>exact False.elim hq
  |brk=>exact False.elim hq
  |cont=>exact False.elim hq
theorem C9 (F:FnOk X.prog X.w X.K X.mg X.base CX k f fd ps sp) (hr:Room k X.A) (hg:Gl X x) (hm:X.mg x=some (.ref f)) (hk:PySem.W.keepIn X.K (.ref f)=true) (hb:Binds X.K fd ps ds) (hd:Vals dvs ds) (hx:J5 CX X E)
  (ha:PA X (e::es) t) (hdb:(x == ("__debug__":Str))=false:=by decide) (he:starEach (e::es) X.env=(false,eval e X.env)::starEach es X.env:=by rfl) (hpl:(backTo pos (starEach es X.env)).any (·.1)=false:=by rfl) :
  PE X (.Call (.Name x p) (e::es) [] pos) (iI sp dvs E t):=by
 intro pins s σ H Q I h
 refine wpAny_Call_Name_kw (cH I hg hm ?_ hdb)
 refine PySem.W.callWith_K (h₀:=X.base) I.ok.mod.kin hk (jN (ha pos pins s σ H _ I h) fun us s1 ⟨vs,H1,I1,r,q⟩=>⟨I1.kIn,?_⟩) he hpl
 exact cK F hr hb hd hx I1 r q
theorem C5 {pl:Sem Bool} (he:PE X o ta) (c:Cls X.K C) (hm:Meth X.K C m f) (F:FnOk X.prog X.w X.K X.mg X.base CX k f fd ps sp) (hr:Room k X.A) (hb:Binds X.K fd ps ds) (hd:Vals dvs ds) (hx:J5 CX X E) (ha:PA X (e::es) t)
  (hst:starEach (e::es) X.env=(false,eval e X.env)::starEach es X.env:=by rfl) (hpl:(backTo pos (starEach es X.env)).any (·.1)=false:=by rfl)
  (ht:eval (.Call (.Attribute o m apos) (e::es) [] pos) X.env=(do
   let ov ← eval o X.env
   standAt apos.atName
   let (f,first) ← holding [ov] (getMethod ov m pl)
   callWith pos f first (backTo pos (starEach (e::es) X.env)) (backToKw pos (keywordEach [] X.env))):=by rfl) :
  PE X (.Call (.Attribute o m apos) (e::es) [] pos) (eN C m sp dvs E ta t):=by
 intro pins s σ H Q I h
 refine PySem.W.methodCall_KW (pl:=pl) (jN (he pins s σ H _ I h) fun u s1 ⟨x,H1,I1,rx,a,dx,fs,ex,ea,l,q⟩=>?_) ht
 subst ex
 obtain rfl:u=Value.ref a:=rx
 refine fV I1 ea c hm l ?_
 refine PySem.W.callWith_K (first:=[.ref a]) (h₀:=X.base) I.ok.mod.kin hm.kp (jN (ha pos pins s1 σ H1 _ I1 q) fun us s2 ⟨vs,H2,I2,r,q2⟩=>⟨I2.kIn,?_⟩) hst hpl
 exact cK (us:=.ref a::us) (vs:=.ref a::vs) F hr hb hd hx I2 (.cons rfl r) q2
theorem B6 {pl:Sem Bool} (he:PE X o ta) (c:Cls X.K C) (hm:Meth X.K C m f) (F:FnOk X.prog X.w X.K X.mg X.base CX k f fd ps sp) (hr:Room k X.A) (hb:Binds X.K fd ps ds) (hd:Vals dvs ds) (hx:J5 CX X E)
  (ht:eval (.Call (.Attribute o m apos) [] [] pos) X.env=(do
   let ov ← eval o X.env
   standAt apos.atName
   let (f,first) ← holding [ov] (getMethod ov m pl)
   callWith pos f first (backTo pos (starEach [] X.env)) (backToKw pos (keywordEach [] X.env))):=by rfl) :
  PE X (.Call (.Attribute o m apos) [] [] pos) (eN C m sp dvs E ta iQ):=by
 intro pins s σ H Q I h
 refine PySem.W.methodCall_KW (pl:=pl) (jN (he pins s σ H _ I h) fun u s1 ⟨x,H1,I1,rx,a,dx,fs,ex,ea,l,q⟩=>?_) ht
 subst ex
 obtain rfl:u=Value.ref a:=rx
 refine fV I1 ea c hm l ?_
 exact PySem.W.callWith_K0 (first:=[.ref a]) I1.kIn hm.kp (cK (us:=[.ref a]) (vs:=[.ref a]) F hr hb hd hx I1 (.cons rfl .nil) q)
structure Mk (K:PySem.W.Frag) (C f:Addr):Prop where
 makes:PySem.W.makesIn K C=true
 init:PySem.W.findIn K (.ref C) "__init__"=some (some (.ref f))
 fn:PySem.W.isFn K (.ref f)=true
 kp:PySem.W.keepIn K (.ref C)=true
theorem BZ {pins:List (Addr×Obj)} {σ:St} {H:Hp} {s:Shared} {Q:VK} {us:List Value} {vs:List V} (M:Mk X.K C f) (F:FnOk X.prog X.w X.K X.mg X.base CX k f fd ps sp) (hr:Room (k+1) X.A) (hb:Binds X.K fd ps ds) (hd:Vals dvs ds)
  (hx:J5 CX X E) (I:Inv X pins σ H s) (r:Vals vs us)
  (h:∀x dx,H x=none→H dx=none→dx≠x→sp (.ref x::(vs++dvs)) (upd (upd H dx (.own x)) x (.ins C dx [])) (fun v H2=>v=.non∧Q (.ref x) H2) E) :
  wpAny (model X.prog X.w) X.A (call (.ref C) us) (EP X pins σ Q) X.xe s:=by
 have hq:=h (s.heap.objs.size+1) s.heap.objs.size (I.hok.fresh (Nat.le_succ _)) (I.hok.fresh (Nat.le_refl _)) (Nat.ne_of_lt (Nat.lt_succ_self _))
 have I2:=Inv.made (C:=C) I
 have r2:Vals (V.ref (s.heap.objs.size+1)::(vs++dvs)) (Value.ref (s.heap.objs.size+1)::(us++ds)):=.cons rfl (r.append hd)
 have hl:(Value.ref (s.heap.objs.size+1)::us++ds).length=ps.length:=by
  have e:=r2.length
  rw [F.len _ _ _ _ hq] at e
  exact e.symm
 refine wpAny_call (CB (f:=f) I.kIn M.makes M.init (beq_iff_eq.mp M.fn) (codeAny_mono (F.run _ X.stack _ _ ⟨Value.ref (s.heap.objs.size+1)::us,[]⟩ (Value.ref (s.heap.objs.size+1)::(us++ds)) _ _ E (hr.make C us [])
  (I2.env0.make C us []) (hb _ (Value.ref (s.heap.objs.size+1)::us) I2.kIn hl) r2 hq) fun r s' hq'=>?_))
 cases r with
 |error e=>exact hx pins σ _ _ e s' I2 hq'
 |ok fl =>
  cases fl with
  |ret u =>
   obtain ⟨v,H',I3,rv,ev,q3⟩:=I2.after hq'
   subst ev
   exact ⟨rv,⟨V.ref (s.heap.objs.size+1),H',I3,rfl,q3⟩⟩
  |next=>exact False.elim hq'
  |brk=>exact False.elim hq'
  |cont=>exact False.elim hq'
theorem C6 (M:Mk X.K C f) (F:FnOk X.prog X.w X.K X.mg X.base CX k f fd ps sp) (hr:Room (k+1) X.A) (hg:Gl X x) (hm:X.mg x=some (.ref C)) (hb:Binds X.K fd ps ds) (hd:Vals dvs ds) (hx:J5 CX X E)
  (ha:PA X (e::es) t) (hdb:(x == ("__debug__":Str))=false:=by decide) (he:starEach (e::es) X.env=(false,eval e X.env)::starEach es X.env:=by rfl) (hpl:(backTo pos (starEach es X.env)).any (·.1)=false:=by rfl) :
  PE X (.Call (.Name x p) (e::es) [] pos) (rE C sp dvs E t):=by
 intro pins s σ H Q I h
 refine wpAny_Call_Name_kw (cH I hg hm ?_ hdb)
 refine PySem.W.callWith_K (h₀:=X.base) I.ok.mod.kin M.kp (jN (ha pos pins s σ H _ I h) fun us s1 ⟨vs,H1,I1,r,q⟩=>⟨I1.kIn,?_⟩) he hpl
 exact BZ M F hr hb hd hx I1 r q
end
section
variable {X:Cx} {CX:vT} {k:Nat} {f C:Addr} {fd:FuncData} {ps ks:List Str} {sp:Sp} {E:XK} {x m:Str} {p pos apos kpos:Pos} {e o:Expr} {es:List Expr} {kws:List Keyword} {te ta:TE} {t tk:TA} {nm:Option Str}
variable {g:List Value→List Value→List Value} {gV:List V→List V→List V}
end
structure FnScope (N P:List Str) (sc:Scope):Prop where
 kind:sc.kind=.function
 co:sc.isCoroutine=false
 gen:sc.isGenerator=false
 nd:N.Nodup
 pre:N.take P.length=P
 par:∀x∈P,sc.names.lookup x=some .local∨sc.names.lookup x=some .cell
 nofree:∀y∈sc.names,y.2≠.free
theorem nL {kindOf:Str→Option NameKind} {x:Str}:∀{binds:List (Str×Value)} {m:Str→Option Value},(∀v,(x,v)∉binds)→bindL kindOf binds m x=m x
 |[],_,_=>rfl
 | (n,v)::r,m,h=>by
  unfold bindL
  rw [nL fun w hw=>h w (List.mem_cons_of_mem _ hw)]
  split
  ·have:x≠n:=by rintro rfl;exact h v List.mem_cons_self
   simp [this]
  ·rfl
theorem nO {kindOf:Str→Option NameKind} {x:Str}:∀{binds:List (Str×Value)} {m:Str→Option Value},(∀v,(x,v)∉binds)→bindC kindOf binds m x=m x
 |[],_,_=>rfl
 | (n,v)::r,m,h=>by
  unfold bindC
  rw [nO fun w hw=>h w (List.mem_cons_of_mem _ hw)]
  split
  ·rfl
  ·have:x≠n:=by rintro rfl;exact h v List.mem_cons_self
   simp [this]
theorem nM {kindOf:Str→Option NameKind} {x:Str} {v:Value}:∀{P:List Str} {vs:List Value} {i:Nat} {m:Str→Option Value},P.Nodup→P[i]?=some x→vs[i]?=some v→kindOf x=some .local→
  bindL kindOf (P.zip vs) m x=some v
 |[],_,_,_,_,h,_,_=>by simp at h
 |_::_,[],_,_,_,_,h,_=>by simp at h
 |p::P,w::vs,0,m,nd,h1,h2,hk=>by
  simp at h1 h2;subst h1;subst h2
  show bindL kindOf ((p,w)::P.zip vs) m p=_
  unfold bindL
  rw [nL fun v hv=>(List.nodup_cons.mp nd).1 (List.of_mem_zip hv).1,if_pos hk]
  simp
 |p::P,w::vs,i+1,m,nd,h1,h2,hk=>by
  show bindL kindOf ((p,w)::P.zip vs) m x=_
  unfold bindL
  exact nM (i:=i) (List.nodup_cons.mp nd).2 (by simpa using h1) (by simpa using h2) hk
theorem nP {kindOf:Str→Option NameKind} {x:Str} {v:Value}:∀{P:List Str} {vs:List Value} {i:Nat} {m:Str→Option Value},P.Nodup→P[i]?=some x→vs[i]?=some v→kindOf x≠some .local→
  bindC kindOf (P.zip vs) m x=some v
 |[],_,_,_,_,h,_,_=>by simp at h
 |_::_,[],_,_,_,_,h,_=>by simp at h
 |p::P,w::vs,0,m,nd,h1,h2,hk=>by
  simp at h1 h2;subst h1;subst h2
  show bindC kindOf ((p,w)::P.zip vs) m p=_
  unfold bindC
  rw [nO fun v hv=>(List.nodup_cons.mp nd).1 (List.of_mem_zip hv).1,if_neg hk]
  simp
 |p::P,w::vs,i+1,m,nd,h1,h2,hk=>by
  show bindC kindOf ((p,w)::P.zip vs) m x=_
  unfold bindC
  exact nP (i:=i) (List.nodup_cons.mp nd).2 (by simpa using h1) (by simpa using h2) hk
def start (N:List Str) (vs:List V):St:=vs.map some++List.replicate (N.length - vs.length) none
def vF (CX:vT) (P:Program) (w:World) (K:PySem.W.Frag) (mg:Str→Option Value) (base:Heap) (N:List Str) (qual:Str) (scope:Scope) (f:Addr) (cd:Value) (A:Around) (outer:List Env) (s:Shared) (H:Hp) (E:XK):Cx where
 prog:=P
 w:=w
 K:=K
 mg:=mg
 base:=base
 A:=A.deeper (envOfC qual scope s.heap.objs.size f cd)
 N:=N
 s₀:=s
 H₀:=H
 env:=envOfC qual scope s.heap.objs.size f cd
 outer:=outer
 stack:=envOfC qual scope s.heap.objs.size f cd::outer
 ex:=[]
 calm:=true
 fn:=fun _=>true
 pn:=[]
 xe:=fun e s'=>wpAny (model P w) (A.deeper (envOfC qual scope s.heap.objs.size f cd)) (leaving (envOfC qual scope s.heap.objs.size f cd) e) (fun _ s''=>CX outer H s E e s'') (fun e' s''=>CX outer H s E e' s'') s'
theorem oV {sc:Scope} {n:Nat} {x:Str} (h:sc.names.lookup x=some .cell):∃c,(cellsFrom n sc.names []).lookup x=some c:=by
 have q:=PySem.W.cellsFrom_some sc.names n [] (.inl h)
 exact Option.isSome_iff_exists.mp q
theorem BI {CX:vT} {P:Program} {w:World} {K:PySem.W.Frag} {mg:Str→Option Value} {base:Heap} {N ps:List Str} {qual:Str} {scope:Scope} {f:Addr} {cd:Value} {A:Around} {outer:List Env} {s s1:Shared} {H:Hp} {E:XK} {us:List Value} {vs:List V}
  (S:FnScope N ps scope) (hd:A.handled=none) (e0:Env0 P w K mg base A outer s H) (hl:vs.length=ps.length) (r:Vals vs us)
  (x:InCallC s s.heap.objs.size (bindL (envOfC qual scope s.heap.objs.size f cd).kindOf (ps.zip us) fun _=>none) (cellsFrom (s.heap.objs.size+1) scope.names []) (bindC (envOfC qual scope s.heap.objs.size f cd).kindOf (ps.zip us) fun _=>none) s1) :
  Inv (vF CX P w K mg base N qual scope f cd A outer s H E) [] (start N vs) H s1:=by
 have hpl:ps.length≤N.length:=by have:=congrArg List.length S.pre;rw [List.length_take] at this;omega
 obtain ⟨h1,tk,rfl,hk⟩:=x.done
 have noA:∀b:Addr,b∉(vF CX P w K mg base N qual scope f cd A outer s H E).ex:=fun b z=>absurd (show b∈([]:List Addr) from z) (by simp)
 refine ⟨⟨e0.mod,S.kind,rfl,rfl,Nat.le_refl _,fun y z c h1 h2=>?_,fun y hy=>?_,fun y c _ h=>?_,fun _=>hd,Around.frames_deeper e0.frames,.inr ⟨rfl,rfl⟩,fun b z=>absurd z (noA b),e0.bs,e0.bsz,fun b _ _=>noA b,fun b z=>absurd z (noA b),e0.funs,e0.frf⟩,
  rfl,e0.bare,Un.kept hk,⟨_,x.toInCall.ns,fun i y v h1 h2 h3=>?_⟩,fun y c h=>⟨_,x.cell y c h⟩,e0.hok.fresh (Nat.le_refl _),fun y c h=>?_,fun p hp=>absurd (show p∈([]:List (Addr×Obj)) from hp) (by simp),e0.hok.kept hk,?_⟩
 ·exact name_of_addr x.apart (PySem.mem_of_lookup h1) (PySem.mem_of_lookup h2)
 ·have hy:scope.names.lookup y=some .cell∨scope.names.lookup y=some .free:=hy
  rcases hy with hy|hy
  ·exact oV hy
  ·exact absurd rfl (S.nofree _ (PySem.mem_of_lookup hy))
 ·exact Nat.le_of_lt (x.above y c (PySem.mem_of_lookup h))
 ·have hi:i<vs.length:=by
   unfold start at h2
   by_cases hi:i<vs.length
   ·exact hi
   ·rw [List.getElem?_append_right (by simpa using hi)] at h2
    rw [List.getElem?_replicate] at h2
    split at h2<;>cases h2
  have ha:vs[i]?=some v:=by
   unfold start at h2
   rw [List.getElem?_append_left (by simpa using hi),List.getElem?_map] at h2
   cases e:vs[i]? with
   |none=>rw [e] at h2;cases h2
   |some a=>rw [e] at h2;cases h2;rfl
  obtain ⟨u,hu,rv⟩:=r.get ha
  have hp:ps[i]?=some y:=by
   rw [← S.pre,List.getElem?_take_of_lt (by omega)];exact h1
  have ndP:ps.Nodup:=by rw [← S.pre];exact S.nd.sublist (List.take_sublist _ _)
  refine ⟨u,rv,?_⟩
  rcases S.par y (List.mem_of_getElem? hp) with k|k
  ·exact .inl ⟨k,nM ndP hp hu k⟩
  ·obtain ⟨c,e⟩:=oV (n:=s.heap.objs.size+1) k
   refine .inr ⟨.inl k,c,e,?_⟩
   have q:=x.cell y c e
   rw [nP ndP hp hu (by show scope.names.lookup y≠_;rw [k];decide)] at q
   exact q
 ·exact e0.hok.fresh (Nat.le_of_lt (x.above y c (PySem.mem_of_lookup h)))
 ·unfold start
  show _=N.length
  rw [List.length_append,List.length_map,List.length_replicate]
  omega
theorem iN {CX:vT} {P:Program} {w:World} {K:PySem.W.Frag} {mg:Str→Option Value} {base:Heap} {k:Nat} {f:Addr} {name qual:Str} {params:Arguments} {body:List Stmt} {scope:Scope} {dV kV doc pm cdv ct oc:Value} {an od:Option Addr}
  {osl:Array (Option Value)} {N ps:List Str} {sp:Sp} (lk:K.lookup f=some ⟨oc,od,.func (PySem.W.fnOf name qual params body scope dV kV doc pm an cdv ct),osl⟩) (hcd:PySem.W.codeIn K cdv qual=true) (S:FnScope N ps scope)
  (len:∀vs H Q E,sp vs H Q E→vs.length=ps.length)
  (hbody:∀(A:Around) (outer:List Env) (s:Shared) (H:Hp) (vs:List V) (Q:VK) (E:XK),Room k (A.deeper (envOfC qual scope s.heap.objs.size f cdv))→sp vs H Q E→
   ∃t,PSs (vF CX P w K mg base N qual scope f cdv A outer s H E) body t∧t {nx:=fun _ H'=>Q .non H',rt:=Q} (start N vs) H) :
  FnOk P w K mg base CX (k+1) f (PySem.W.fnOf name qual params body scope dV kV doc pm an cdv ct) ps sp:=by
 refine ⟨len,fun A outer s H args us vs Q E hr e0 hb r hsp=>?_⟩
 have hl:=len _ _ _ _ hsp
 have KX:K.In s.heap:=e0.mod.kin.keeps fun b o e=>(e0.bs b o e).1
 have lim:s.heap.NoLimit:=e0.mod.nolimit.keeps fun b o e=>(e0.bs b o e).1
 have hkind:∀y∈ps.zip us,scope.names.lookup y.1=some .local∨(scope.names.lookup y.1=some .cell∧((cellsFrom (s.heap.objs.size+1) scope.names []).lookup y.1).isSome=true):=fun ⟨n,v⟩ hy=>by
  rcases S.par n (List.of_mem_zip hy).1 with q|q
  ·exact .inl q
  ·exact .inr ⟨q,PySem.W.cellsFrom_some _ _ _ (.inl q)⟩
 refine codeAny_call_function hr.depth (KX _ _ lk) rfl S.co S.gen rfl (PySem.W.codeRec_of KX hcd) (hb _ _ _ _ ?_)
 refine wpAny_newFunctionEnv_cells S.kind hkind fun env he s1 x=>?_
 subst he
 refine ⟨lim.keeps x.toInCall.keep,codeAny_func ?_⟩
 obtain ⟨t,ht,hq⟩:=hbody A outer s H vs Q E (hr.deeper _) hsp
 have I:Inv (vF CX P w K mg base N qual scope f cdv A outer s H E) [] (start N vs) H s1:=BI S hr.hd e0 hl r x
 refine wpAny_mono (ht [] s1 (start N vs) H _ I hq) (fun fl s' hs=>?_) fun e s' hs=>hs
 have fin:∀{σ':St} {H':Hp} {v:V} {u:Value},Inv (vF CX P w K mg base N qual scope f cdv A outer s H E) [] σ' H' s'→RelV v u→Q v H'→CE outer P w H s Q u s' :=
  fun {σ' H' v u} J rv q=>⟨v,H',J.os,J.bare,J.base,J.hok,rv,q⟩
 cases fl with
 |ret u =>
  obtain ⟨v,σ',H',J,rv,q⟩:=hs
  exact fin J rv q
 |next =>
  obtain ⟨σ',H',J,q⟩:=hs
  exact fin (v:=V.non) (u:=Value.none) J rfl q
 |brk =>
  obtain ⟨_,_,_,q⟩:=hs
  exact False.elim q
 |cont =>
  obtain ⟨_,_,_,q⟩:=hs
  exact False.elim q
end L2
namespace L2
open PySem PySem.Spec PyProof.Rows
section
variable {X:Cx} {x:Str} {p pos:Pos} {e:Expr} {es:List Expr} {t:TA} {id T:String} {r:List V→Hp→VK→Prop}
def sD (r:List V→Hp→VK→Prop) (t:TA):TE:=fun σ H Q=>t σ H fun vs H1=>r vs H1 Q
theorem kD (hc:vZ X (.builtin id) r) (hg:Gl X x) (hm:X.mg x=none) (hv:bootBuiltins x=some (.builtin id)) (ha:PA X (e::es) t) (hn:x≠"__name__":=by decide) (hdb:(x == ("__debug__":Str))=false:=by decide)
  (he:starEach (e::es) X.env=(false,eval e X.env)::starEach es X.env:=by rfl) (hpl:(backTo pos (starEach es X.env)).any (·.1)=false:=by rfl):PE X (.Call (.Name x p) (e::es) [] pos) (sD r t):=by
 intro pins s σ H Q I h
 refine wpAny_Call_Name_kw (Z2 I hg hm hv ?_ hn hdb)
 exact PyProof.Rows.callWith_builtin1 (jN (ha pos pins s σ H _ I h) fun us s1 ⟨vs,H1,I1,r1,q1⟩=>hc pins s1 σ H1 vs us Q I1 r1 q1) he hpl
theorem v6 (hc:vZ X (.type T) r) (hg:Gl X x) (hm:X.mg x=none) (hv:bootBuiltins x=some (.type T)) (ha:PA X (e::es) t) (hn:x≠"__name__":=by decide) (hdb:(x == ("__debug__":Str))=false:=by decide)
  (he:starEach (e::es) X.env=(false,eval e X.env)::starEach es X.env:=by rfl) (hpl:(backTo pos (starEach es X.env)).any (·.1)=false:=by rfl):PE X (.Call (.Name x p) (e::es) [] pos) (sD r t):=by
 intro pins s σ H Q I h
 refine wpAny_Call_Name_kw (Z2 I hg hm hv ?_ hn hdb)
 exact PyProof.Rows.callWith_type1 (jN (ha pos pins s σ H _ I h) fun us s1 ⟨vs,H1,I1,r1,q1⟩=>hc pins s1 σ H1 vs us Q I1 r1 q1) he hpl
end
end L2
namespace HT
open PySem PyProof.Rows
section
open PySem.SeqAt
open PySem.AutoSeq1 (wpAny_loadPart')
open PySem.MeetsSeq PySem.MeetsSeq2 PySem.MeetsSeq3
end
section
variable {prog:Program} {w:World} {A:Around} {E:Value→Shared→Prop} {s:Shared}
theorem cat_tup {t b:Addr} {vs ws:List Value} {Q:Value→Shared→Prop} (ht:IsTup s.heap t vs.toArray) (hb:IsTup s.heap b ws.toArray) (hv:vs≠[])
  (h1:ws=[]→Q (.ref t) s) (h2:ws≠[]→Q (.ref s.heap.objs.size) {s with heap:=s.heap.push {cls:=.type "tuple",data:=.seq (vs++ws).toArray}})
  (hsz:vs.length+ws.length≤sizeLine):wpAny (model prog w) A (binaryOp .Add (.ref t) (.ref b)) Q E s:=by
 obtain ⟨⟨cls,dd,data,sl⟩,ho,hc,n,hd⟩:=id ht
 obtain ⟨⟨cls2,dd2,data2,sl2⟩,ho2,hc2,n2,hd2⟩:=id hb
 simp only at hc hd hc2 hd2
 subst hc hd hc2 hd2
 have e:vs.toArray++ws.toArray=(vs++ws).toArray:=by simp
 by_cases hw:ws=[]
 ·exact concat_meets ⟨_,ho,rfl⟩ ⟨_,ho2,rfl⟩ noFill_tuple_add seq_tuple_add PySem.F.slot_tuple_add PySem.F.entry_tuple_add (PySem.F.args_tuple_add_2 _ _)
   (tuple_addW1 t b vs.toArray ws.toArray n n2 dd dd2 sl sl2 (by simpa using hv) (by simp [hw])) ⟨ho,ho2,h1 hw⟩
 ·refine concat_meets ⟨_,ho,rfl⟩ ⟨_,ho2,rfl⟩ noFill_tuple_add seq_tuple_add PySem.F.slot_tuple_add PySem.F.entry_tuple_add (PySem.F.args_tuple_add_2 _ _)
   (tuple_addW2 t b vs.toArray ws.toArray n n2 dd dd2 sl sl2 (by simpa using hv) (by simpa using hw) (by rw [List.size_toArray,List.size_toArray];exact hsz)) ⟨ho,ho2,?_⟩
  rw [e]
  exact h2 hw
def sIx (n d:Nat):Option Int→Nat
 |none=>d
 |some v=>if v<0 then (v+(n:Int)).toNat else min v.toNat n
theorem sIx_none (n d:Nat):sIx n d none=d:=rfl
theorem sIx_nat (n d k:Nat):sIx n d (some (k:Int))=min k n:=by
 show (if (k:Int)<0 then ((k:Int)+(n:Int)).toNat else min (k:Int).toNat n)=min k n
 rw [if_neg (by omega),Int.toNat_natCast]
theorem DY (n d:Nat) (hd:d≤n) (o:Option Int):sIx n d o≤n:=by
 cases o with
 |none=>exact hd
 |some v =>
  show (if v<0 then (v+(n:Int)).toNat else min v.toNat n)≤n
  by_cases hv:v<0
  ·rw [if_pos hv];omega
  ·rw [if_neg hv];exact Nat.min_le_right _ _
theorem pL (v:Int) (n d:Nat):(if v<0 then max (v+(n:Int)) 0 else min v (n:Int))=((sIx n d (some v):Nat):Int):=by
 show (if v<0 then max (v+(n:Int)) 0 else min v (n:Int))=(((if v<0 then (v+(n:Int)).toNat else min v.toNat n):Nat):Int)
 by_cases hv:v<0
 ·simp only [if_pos hv];omega
 ·simp only [if_neg hv];omega
theorem AR (lo hi:Option Int) (n:Nat):Builtin.Slice.sliceAdjust lo hi 1 (n:Int)=(((sIx n 0 lo:Nat):Int),((sIx n n hi:Nat):Int)):=by
 have h1:¬((1:Int)<0):=by omega
 unfold Builtin.Slice.sliceAdjust
 simp only [h1,if_false]
 refine Prod.ext ?_ ?_
 ·cases lo with
  |none=>rfl
  |some v=>exact pL v n 0
 ·cases hi with
  |none=>rfl
  |some v=>exact pL v n n
theorem AE (i j:Nat):Builtin.Slice.slicePlaces (i:Int) (j:Int) 1=j - i:=by
 unfold Builtin.Slice.slicePlaces
 have h1:(1:Int)>0:=by omega
 simp only [h1,if_true,Int.ediv_one]
 split<;>omega
theorem lU {v:Value} {o:Option Int} {Q:Option Int→Shared→Prop} (p:IsPart v o) (h:Q o s):wpAny (model prog w) A (Builtin.Slice.slicePartIndex v) Q E s:=by
 cases p with
 |none=>exact slicePart_none h
 |int i t=>exact slicePart_int h
theorem xC {sl:Addr} {vl vu:Value} {lo hi:Option Int} {n:Nat} {Q:Int×Int×Nat→Shared→Prop} (hs:s.heap.IsSliceOf sl vl vu .none) (pl:IsPart vl lo) (pu:IsPart vu hi)
  (h:Q (((sIx n 0 lo:Nat):Int),1,sIx n n hi - sIx n 0 lo) s):wpAny (model prog w) A (Builtin.Slice.sliceApplied (.ref sl) (pure (n:Int))) Q E s:=by
 obtain ⟨os,hos,hcs,hds⟩:=id hs
 unfold Builtin.Slice.sliceApplied Builtin.Slice.sliceFields
 refine wpAny_bind (wpAny_bind (wpAny_field hos hds (x:=vl) rfl (wpAny_bind (wpAny_field hos hds (x:=vu) rfl (wpAny_bind (wpAny_field hos hds (x:=.none) rfl (wpAny_pure ?_)))))))
 refine wpAny_bind (slicePart_none ?_)
 show wpAny _ _ (if ((1:Int) == 0)=true then _ else _) _ _ s
 rw [if_neg (by decide)]
 refine wpAny_bind (lU pl (wpAny_bind (lU pu (wpAny_bind (wpAny_pure ?_)))))
 show wpAny _ _ (match Builtin.Slice.sliceAdjust lo hi 1 (n:Int) with|(lo,hi)=>pure (lo,(1:Int),Builtin.Slice.slicePlaces lo hi 1)) _ _ s
 rw [AR lo hi n]
 show wpAny _ _ (pure (((sIx n 0 lo:Nat):Int),(1:Int),Builtin.Slice.slicePlaces ((sIx n 0 lo:Nat):Int) ((sIx n n hi:Nat):Int) 1)) _ _ s
 rw [AE]
 exact wpAny_pure h
theorem B4 (xs:Array Value) (i k:Nat):((List.range k).filterMap fun (m:Nat)=>xs[((i:Int)+(m:Int)*1).toNat]?).toArray=((xs.toList.drop i).take k).toArray:=by
 have e:(fun (m:Nat)=>xs[((i:Int)+(m:Int)*1).toNat]?)=fun m=>xs[i+m]?:=by
  funext m
  have:((i:Int)+(m:Int)*1).toNat=i+m:=by omega
  rw [this]
 rw [e]
 have:=pick_run xs i k
 rw [List.filterMap_map] at this
 have e2:((fun x=>xs[x]?)∘fun x=>i+x)=fun m=>xs[i+m]?:=rfl
 rw [e2] at this
 rw [this]
theorem getItem_tuple_cut {t sl:Addr} {items:Array Value} {vl vu:Value} {lo hi:Option Int} {Q:Value→Shared→Prop} (ht:IsTup s.heap t items) (hs:s.heap.IsSliceOf sl vl vu .none) (pl:IsPart vl lo) (pu:IsPart vu hi)
  (hw:¬(sIx items.size 0 lo=0∧sIx items.size items.size hi=items.size))
  (h:Q (.ref s.heap.objs.size) {s with heap:=s.heap.push {cls:=.type "tuple",data:=.seq ((items.toList.drop (sIx items.size 0 lo)).take (sIx items.size items.size hi - sIx items.size 0 lo)).toArray}})
  (hsz:items.size≤sizeLine):wpAny (model prog w) A (getItem (.ref t) (.ref sl)) Q E s:=by
 have htake:sizeOk (.seq ((items.toList.drop (sIx items.size 0 lo)).take (sIx items.size items.size hi - sIx items.size 0 lo)).toArray):=by
  show ((items.toList.drop (sIx items.size 0 lo)).take (sIx items.size items.size hi - sIx items.size 0 lo)).toArray.size≤sizeLine
  rw [List.size_toArray,List.length_take,List.length_drop,Array.length_toList]
  omega
 have hj:sIx items.size items.size hi≤items.size:=DY _ _ (Nat.le_refl _) hi
 obtain ⟨os,hos,hcs,hds⟩:=id hs
 have hTs:s.TypeIs (.ref sl) "slice":=⟨os,hos,hcs⟩
 unfold getItem
 try with_reducible refine wpAny_holding ?_
 first|refine wpAny_bind (wpAny_pure ?_)|skip
 refine wpAny_bind (wpAny_sequenceKey ht.typeIs (by decide) ?_)
 refine wpAny_bind (wpAny_callSpecial?_slot (name:=Str.ofString "__getitem__") ht.typeIs PyProof.Rows.slot_tuple_getitem
  (wpAny_call_entry PyProof.Rows.slot_tuple_getitem ht.typeIs entry_tuple_getitem ?_ (args_tuple_getitem _ _)))
 show wpAny _ _ (Builtin.Tuple.tupleItemsOf (.ref t) >>= _) _ _ s
 refine wpAny_bind (tupleItemsOf_ ht ?_)
 refine wpAny_bind (wpAny_typeOf hTs ?_)
 rw [if_pos (by decide)]
 refine wpAny_bind (xC hs pl pu ?_)
 have hno:¬((((sIx items.size 0 lo:Nat):Int) == 0&&(1:Int) == 1&&(sIx items.size items.size hi - sIx items.size 0 lo) == items.size)=true):=by
  intro q
  rw [Bool.and_eq_true,Bool.and_eq_true] at q
  have q1:((sIx items.size 0 lo:Nat):Int)=0:=eq_of_beq q.1.1
  have q2:sIx items.size items.size hi - sIx items.size 0 lo=items.size:=eq_of_beq q.2
  exact hw ⟨by omega,by omega⟩
 show wpAny _ _ (if (((sIx items.size 0 lo:Nat):Int) == 0&&(1:Int) == 1&&(sIx items.size items.size hi - sIx items.size 0 lo) == items.size)=true then _ else _) _ _ s
 rw [if_neg hno,B4]
 first
  |exact wpAny_bind (m:=Builtin.Tuple.tupleExact _) (wpAny_newObj_type (wpAny_pure ⟨_,rfl,wpAny_pure h⟩) htake)
  |exact wpAny_bind (m:=Builtin.Tuple.tupleExact _) (wpAny_newObj_type (wpAny_bind (wpAny_pure (wpAny_pure ⟨_,rfl,wpAny_pure h⟩))) htake)
  |exact wpAny_bind (wpAny_bind (m:=Builtin.Tuple.tupleExact _) (wpAny_newObj_type (wpAny_pure (wpAny_pure ⟨_,rfl,wpAny_pure h⟩)) htake))
  |exact wpAny_bind (wpAny_bind (m:=Builtin.Tuple.tupleExact _) (wpAny_newObj_type (wpAny_pure ⟨_,rfl,wpAny_pure h⟩) htake))
end
end HT
namespace L2
open PySem PySem.Spec PyProof.Rows
abbrev TO:=St→Hp→(Option Int→Hp→Prop)→Prop
def PO (X:Cx) (e:Option Expr) (t:TO):Prop :=
 ∀(pins:List (Addr×Obj)) (s:Shared) (σ:St) (H:Hp) (Q:Option Int→Hp→Prop),Inv X pins σ H s→t σ H Q→
  wpAny (model X.prog X.w) X.A (evalPart e X.env) (fun u s'=>∃o H',Inv X pins σ H' s'∧IsPart u o∧Q o H') X.xe s
def CS:TO:=fun _ H Q=>Q none H
def E2 (t:TE):TO:=fun σ H Q=>t σ H fun x H1=>∃i,x=.int i∧Q (some i) H1
section
variable {X:Cx} {e:Expr} {te:TE} {lo hi:Option Expr} {tl th:TO} {pos p2:Pos}
theorem pD:PO X none CS:=by
 intro pins s σ H Q I h
 rw [evalPart_none]
 exact wpAny_pure ⟨none,H,I,.none,h⟩
theorem yL (h:PE X e te):PO X (some e) (E2 te):=by
 intro pins s σ H Q I hw
 rw [evalPart_some]
 refine jN (h pins s σ H _ I hw) fun u s1 ⟨x,H1,I1,r1,q1⟩=>?_
 obtain ⟨i,rfl,q⟩:=q1
 obtain ⟨t,rfl⟩:=r1
 exact ⟨some i,H1,I1,.int i t,q⟩
def i5 (X:Cx) (r:V→Option Int→Option Int→Hp→VK→Prop):Prop :=
 ∀(pins:List (Addr×Obj)) (s:Shared) (σ:St) (H:Hp) (x:V) (v vl vu:Value) (lo hi:Option Int) (sl:Addr) (Q:VK),Inv X pins σ H s→RelV x v→s.heap.IsSliceOf sl vl vu .none→IsPart vl lo→IsPart vu hi→r x lo hi H Q→
  ∃T id,typeLookup (.type T) "__getitem__"=pure (some (.builtin id))∧s.TypeIs v T∧wpAny (model X.prog X.w) X.A (getItem v (.ref sl)) (EP X pins σ Q) X.xe s
def GV (r:V→Option Int→Option Int→Hp→VK→Prop) (te:TE) (tl th:TO):TE:=fun σ H Q=>te σ H fun x H1=>tl σ H1 fun l H2=>th σ H2 fun u H3=>r x l u H3 Q
theorem ZT {r:V→Option Int→Option Int→Hp→VK→Prop} (hr:i5 X r) (he:PE X e te) (hl:PO X lo tl) (hu:PO X hi th):PE X (.Subscript e (.Slice lo hi none p2) pos) (GV r te tl th):=by
 intro pins s σ H Q I h
 refine Subscript_ (jN (he pins s σ H _ I h) fun v s1 ⟨x,H1,I1,r1,q1⟩=>?_)
 refine wpAny_Slice (jN (hl pins s1 σ H1 _ I1 q1) fun vl s2 ⟨l,H2,I2,pl,q2⟩=>jN (hu pins s2 σ H2 _ I2 q2) fun vu s3 ⟨u,H3,I3,pu,q3⟩=>?_)
 rw [evalPart_none]
 refine wpAny_pure ?_
 have I4:Inv X pins σ H3 {s3 with heap:=s3.heap.push {cls:=.type "slice",data:=.fields #[vl,vu,.none]}}:=I3.kept (t':=s3.toks) fun b ob q=>Heap.get?_push_of_some _ q
 obtain ⟨T,id,hT,ht,hg⟩:=hr pins {s3 with heap:=s3.heap.push {cls:=.type "slice",data:=.fields #[vl,vu,.none]}} σ H3 x v vl vu l u s3.heap.objs.size Q I4 r1 (Heap.IsSliceOf.new ..) pl pu q3
 show wpAny (model X.prog X.w) X.A (subscriptTail e (.Slice lo hi none p2) v (.ref s3.heap.objs.size)) (EP X pins σ Q) X.xe {s3 with heap:=s3.heap.push {cls:=.type "slice",data:=.fields #[vl,vu,.none]}}
 exact tail_any (ops:=[.ref s3.heap.objs.size,v]) ht hT hg (by with_unfolding_all rfl)
def kT (xs:List V) (lo hi:Option Int):List V:=(xs.drop (HT.sIx xs.length 0 lo)).take (HT.sIx xs.length xs.length hi - HT.sIx xs.length 0 lo)
theorem lP (xs:List V) (lo hi:Option Int):(kT xs lo hi).length≤xs.length:=by
 unfold kT
 rw [List.length_take,List.length_drop]
 omega
def GF (K:PySem.W.Frag):V→Option Int→Option Int→Hp→VK→Prop:=fun x lo hi H Q=>∃a xs,x=.ref a∧SqT K H a xs∧
 ¬(HT.sIx xs.length 0 lo=0∧HT.sIx xs.length xs.length hi=xs.length)∧∀p,H p=none→Q (.ref p) (upd H p (.tup (kT xs lo hi)))
theorem cJ:i5 X (GF X.K):=by
 intro pins s σ H x v vl vu lo hi sl Q I rx hs pl pu h
 obtain ⟨a,xs,rfl,hx,hw,q⟩:=h
 cases rx
 obtain ⟨its,r,ht,hz⟩:=I.tuple hx
 have hlen:its.toArray.size=xs.length:=by rw [List.size_toArray];exact r.length.symm
 refine ⟨"tuple",_,PyProof.Rows.slot_tuple_getitem.lookup,ht.typeIs,?_⟩
 refine HT.getItem_tuple_cut ht hs pl pu (by rw [hlen];exact hw) ?_ (by rw [hlen];exact hz)
 rw [hlen]
 refine ⟨.ref s.heap.objs.size,_,I.laid (t':=s.toks) (o:=.tup (kT xs lo hi)) (fun b ob q=>Heap.get?_push_of_some _ q) (Nat.le_refl _) ?_,rfl,q _ (I.hok.fresh (Nat.le_refl _))⟩
 exact ⟨Nat.le_trans (lP xs lo hi) hz,_,(r.drop (HT.sIx xs.length 0 lo)).take (HT.sIx xs.length xs.length hi - HT.sIx xs.length 0 lo),IsTup.new _ _⟩
def FE (K:PySem.W.Frag):R2:=fun x y H Q=>∃a b xs ys,x=.ref a∧y=.ref b∧SqT K H a xs∧SqT K H b ys∧xs≠[]∧xs.length+ys.length≤sizeLine∧
 (ys=[]→Q (.ref a) H)∧(ys≠[]→∀p,H p=none→Q (.ref p) (upd H p (.tup (xs++ys))))
theorem Vals.nil_iff {xs:List V} {us:List Value} (r:Vals xs us):us=[]↔xs=[]:=by
 cases r with
 |nil=>simp
 |cons _ _=>simp
theorem DB:kU X (binaryOp .Add) (FE X.K):=by
 intro pins s σ H x y v u Q I rx ry h
 obtain ⟨a,b,xs,ys,rfl,rfl,ha,hb,hx,hz,q1,q2⟩:=h
 cases rx
 cases ry
 obtain ⟨its,r1,p1,_⟩:=I.tuple ha
 obtain ⟨its2,r2,p2,_⟩:=I.tuple hb
 refine HT.cat_tup p1 p2 (fun z=>hx (r1.nil_iff.mp z)) (fun z=>⟨.ref a,H,I,rfl,q1 (r2.nil_iff.mp z)⟩) (fun z=>?_) (by rw [← r1.length,← r2.length];exact hz)
 refine ⟨.ref s.heap.objs.size,_,I.laid (t':=s.toks) (o:=.tup (xs++ys)) (fun b ob q=>Heap.get?_push_of_some _ q) (Nat.le_refl _) ?_,rfl,q2 (fun w=>z (r2.nil_iff.mpr w)) _ (I.hok.fresh (Nat.le_refl _))⟩
 exact ⟨by rw [List.length_append];exact hz,_,r1.append r2,IsTup.new _ _⟩
end
end L2
namespace L2
open PySem PySem.Spec PyProof.Rows
def v5 (n:Nat) (i:Int):Option Nat:=if 0≤i then (if i<n then some i.toNat else none) else if -(n:Int)≤i then some (i+n).toNat else none
def qC {α:Type} (xs:List α) (i:Int):Option α:=(v5 xs.length i).bind fun j=>xs[j]?
theorem pH {n:Nat} {i:Int} {j:Nat} (h:v5 n i=some j):seqIndex? i n=some j∧j<n∧-(n:Int)≤i∧i<n:=by
 unfold v5 at h
 by_cases h0:0≤i
 ·rw [if_pos h0] at h
  by_cases h1:i<n
  ·rw [if_pos h1] at h
   have e:i.toNat=j:=Option.some.inj h
   exact ⟨by rw [seqIndex_of h0 h1,e],by omega,by omega,h1⟩
  ·rw [if_neg h1] at h;cases h
 ·rw [if_neg h0] at h
  by_cases h1 : -(n:Int)≤i
  ·rw [if_pos h1] at h
   have e:(i+n).toNat=j:=Option.some.inj h
   exact ⟨by rw [seqIndex_neg (by omega) h1,e],by omega,h1,by omega⟩
  ·rw [if_neg h1] at h;cases h
theorem eJ {α:Type} {xs:List α} {i:Int} {v:α} (h:qC xs i=some v):∃j,seqIndex? i xs.length=some j∧xs[j]?=some v∧j<xs.length∧-(xs.length:Int)≤i∧i<xs.length:=by
 unfold qC at h
 cases e:v5 xs.length i with
 |none=>rw [e] at h;cases h
 |some j =>
  rw [e] at h
  obtain ⟨h1,h2,h3,h4⟩:=pH e
  exact ⟨j,h1,h,h2,h3,h4⟩
theorem kX {α:Type} {xs:List α} {j:Nat} {v:α} (h:xs[j]?=some v):qC xs (j:Int)=some v:=by
 have hj:j<xs.length:=(List.getElem?_eq_some_iff.mp h).1
 have e:v5 xs.length (j:Int)=some j:=by
  unfold v5
  rw [if_pos (by omega),if_pos (by omega)];simp
 unfold qC;rw [e];exact h
theorem atI_last {α:Type} (xs:List α) (v:α):qC (xs++[v]) (-1)=some v:=by
 have hl:(xs++[v]).length=xs.length+1:=by simp
 have e:v5 (xs++[v]).length (-1)=some xs.length:=by
  unfold v5
  rw [hl,if_neg (by decide),if_pos (by omega)]
  congr 1
  omega
 unfold qC
 rw [e]
 show (xs++[v])[xs.length]?=some v
 simp
def DT (b:Expr):Prop:=∀o i,subscripted b false o i=operate [o,i] (getItem o i)
def IxR (X:Cx) (r:R2):Prop :=
 ∀(value slice:Expr) (pins:List (Addr×Obj)) (s:Shared) (σ:St) (H:Hp) (x y:V) (v u:Value) (Q:VK),Inv X pins σ H s→RelV x v→RelV y u→r x y H Q→
  subscripted slice false v u=operate [v,u] (getItem v u)→wpAny (model X.prog X.w) X.A (subscriptTail value slice v u) (EP X pins σ Q) X.xe s
def sI (X:Cx) (id:String) (r:V→List V→Hp→VK→Prop):Prop :=
 ∀(pins:List (Addr×Obj)) (s:Shared) (σ:St) (H:Hp) (x:V) (xs:List V) (v:Value) (us:List Value) (Q:VK),Inv X pins σ H s→RelV x v→Vals xs us→r x xs H Q→
  wpAny (model X.prog X.w) X.A (call (.builtin id) (v::us)) (EP X pins σ Q) X.xe s
section
variable {X:Cx} {a b:Expr} {ta tb:TE} {pos:Pos}
theorem IxR.or {r r':R2} (h:IxR X r) (h':IxR X r'):IxR X (fun x y H Q=>r x y H Q∨r' x y H Q):=by
 intro value slice pins s σ H x y v u Q I rx ry q hs
 rcases q with q|q
 ·exact h value slice pins s σ H x y v u Q I rx ry q hs
 ·exact h' value slice pins s σ H x y v u Q I rx ry q hs
theorem jH {r:R2} (hr:IxR X r) (ha:PE X a ta) (hb:PE X b tb) (hs:DT b):PE X (.Subscript a b pos) (e6 r ta tb):=by
 intro pins s σ H Q I h
 exact Subscript_ (iT ha hb I h fun v u s2 x y H2 I2 rx ry q=>hr a b pins s2 σ H2 x y v u Q I2 rx ry q (hs _ _))
def eT (K:PySem.W.Frag):R2:=fun x y H Q=>∃p xs i v,x=.ref p∧y=.int i∧SqL K H p xs∧qC xs i=some v∧Q v H
def iR (K:PySem.W.Frag):R2:=fun x y H Q=>∃p xs i v,x=.ref p∧y=.int i∧SqT K H p xs∧qC xs i=some v∧Q v H
def rX:R2:=fun x y H Q=>∃z i c,x=.str z∧y=.int i∧z.length≤sizeLine∧qC z.cps.toList i=some c∧Q (.str ⟨#[c]⟩) H
theorem kF:IxR X (eT X.K):=by
 intro value slice pins s σ H x y v u Q I rx ry h hs
 obtain ⟨p,xs,i,z,rfl,rfl,hq,he,q⟩:=h
 cases rx
 obtain ⟨t,rfl⟩:=ry
 obtain ⟨its,r,pl,hz⟩:=I.list hq
 obtain ⟨j,h1,h2,h3,h4,h5⟩:=eJ he
 obtain ⟨w,ew,rw'⟩:=r.get h2
 have hl:=r.length
 have hn:=Z1
 have fin:EP X pins σ Q w s:=⟨z,H,I,rw',q⟩
 by_cases h0:0≤i
 ·have hj:i.toNat=j:=by
   rw [seqIndex_of h0 h5] at h1
   exact Option.some.inj h1
  exact item_listR pl.isList h0 (by omega) (by rw [hj];simpa using ew) fin hs
 ·have hj:(i+(its.toArray.size:Int)).toNat=j:=by
   rw [seqIndex_neg (by omega) h4] at h1
   rw [List.size_toArray,← hl]
   exact Option.some.inj h1
  exact subscriptTail_builtinR (x:=w) pl.isList.typeIs slot_list_getitem.lookup
   (wpAny_getItem_list_neg (Q:=fun r s'=>r=w∧EP X pins σ Q r s') pl.isList (by omega) (by rw [List.size_toArray]<;>omega) (by omega) (by rw [hj];simpa using ew) ⟨rfl,fin⟩) hs
theorem ix_tup:IxR X (iR X.K):=by
 intro value slice pins s σ H x y v u Q I rx ry h hs
 obtain ⟨p,xs,i,z,rfl,rfl,hq,he,q⟩:=h
 cases rx
 obtain ⟨t,rfl⟩:=ry
 obtain ⟨its,r,pl,hz⟩:=I.tuple hq
 obtain ⟨j,h1,h2,h3,h4,h5⟩:=eJ he
 obtain ⟨w,ew,rw'⟩:=r.get h2
 have hl:=r.length
 have hn:=Z1
 have fin:EP X pins σ Q w s:=⟨z,H,I,rw',q⟩
 exact subscriptTail_builtinR (x:=w) pl.typeIs slot_tuple_getitem.lookup
  (getItem_tuple (j:=j) (Q:=fun r s'=>r=w∧EP X pins σ Q r s') pl (by omega) (by omega) (by rw [List.size_toArray,← hl];exact h1) (by simpa using ew) ⟨rfl,fin⟩) hs
theorem ER:IxR X rX:=by
 intro value slice pins s σ H x y v u Q I rx ry h hs
 obtain ⟨z,i,c,rfl,rfl,hz,he,q⟩:=h
 obtain ⟨t,rfl⟩:=rx
 obtain ⟨t',rfl⟩:=ry
 obtain ⟨j,h1,h2,h3,h4,h5⟩:=eJ he
 have hl:z.cps.toList.length=z.length:=by simp [Str.length]
 rw [hl] at h1 h4 h5
 have hn:=Z1
 exact tail_any (typeIs_str s z t) slot_str_getitem.lookup (getItem_str (c:=c) (by
  have e1:decide (i < -(2 ^ 63:Int))=false:=decide_eq_false (by omega)
  have e2:decide (i≥2 ^ 63)=false:=decide_eq_false (by omega)
  rw [e1,e2,Bool.or_false]) (by rw [h1];simpa using h2) ⟨.str ⟨#[c]⟩,H,I.tok _,⟨_,rfl⟩,q⟩) hs
def sE (K:PySem.W.Frag):R2:=fun x y H Q=>eT K x y H Q∨iR K x y H Q∨rX x y H Q
theorem pZ:IxR X (sE X.K):=kF.or (ix_tup.or ER)
theorem AH (its:List Value) (n j:Nat) (u:Value):Obj.mapSeq (·.setIfInBounds j u) {cls:=.type "list",data:=.seq its.toArray n}={cls:=.type "list",data:=.seq (its.set j u).toArray n}:=by
 simp [Obj.mapSeq]
theorem Inv.lst {pins:List (Addr×Obj)} {σ:St} {H:Hp} {s:Shared} {p:Addr} {xs:List V} (I:Inv X pins σ H s) (h:H p=some (.lst xs)) :
  ∃(its:List Value) (n:Nat),Vals xs its∧s.heap.get? p=some {cls:=.type "list",data:=.seq its.toArray n}∧xs.length≤sizeLine:=by
 obtain ⟨z,its,n,r,e⟩:=I.hok p _ h
 exact ⟨its,n,r,e,z⟩
theorem Inv.lstUpd {pins:List (Addr×Obj)} {σ:St} {H:Hp} {s:Shared} {p:Addr} {xs ys:List V} {its its':List Value} {n n':Nat} {f:Obj→Obj} (I:Inv X pins σ H s) (h:H p=some (.lst xs))
  (ho:s.heap.get? p=some {cls:=.type "list",data:=.seq its.toArray n}) (hf:f {cls:=.type "list",data:=.seq its.toArray n}={cls:=.type "list",data:=.seq its'.toArray n'}) (r:Vals ys its') (hz:ys.length≤sizeLine) (t:Nat) :
  Inv X pins σ (upd H p (.lst ys)) {s with heap:=s.heap.update p f,toks:=t}:=by
 have e:(s.heap.update p f).get? p=some {cls:=.type "list",data:=.seq its'.toArray n'}:=by
  rw [Heap.get?_update_self f ho (by rw [hf]<;>rfl),hf]
 refine I.write (x:=p) (e:=p) (by rw [h];trivial) (.inl rfl) (fun b u hb q=>(Heap.get?_update_other _ _ (Ne.symm hb)).trans q) ⟨_,e⟩ ?_
 exact ⟨hz,its',n',r,e⟩
def FC:V→V→V→Hp→(Hp→Prop)→Prop:=fun o i v H Q=>∃p xs k j,o=.ref p∧i=.int k∧H p=some (.lst xs)∧v5 xs.length k=some j∧Q (upd H p (.lst (xs.set j v)))
theorem d9:iV X FC:=by
 intro pins s σ H o i v ov iv u Q I ro ri rv h
 obtain ⟨p,xs,k,j,rfl,rfl,hp,hj,q⟩:=h
 cases ro
 obtain ⟨t,rfl⟩:=ri
 obtain ⟨its,n,r,ho,hz⟩:=I.lst hp
 obtain ⟨h1,h2,h3,h4⟩:=pH hj
 have hl:=r.length
 have hn:=Z1
 have I':Inv X pins σ (upd H p (.lst (xs.set j v))) {s with heap:=s.heap.update p (Obj.mapSeq (·.setIfInBounds j u))} :=
  I.lstUpd hp ho (AH its n j u) (r.set rv j) (by rw [List.length_set];exact hz) s.toks
 by_cases h0:0≤k
 ·have hk:k.toNat=j:=by
   rw [seqIndex_of h0 h4] at h1
   exact Option.some.inj h1
  exact PySem.W.ki_setAt ho h0 (by omega) (by rw [List.size_toArray,← hl];exact h4) (by rw [hk];exact ⟨_,I',q⟩)
 ·have hk:(k+(its.toArray.size:Int)).toNat=j:=by
   rw [seqIndex_neg (by omega) h3] at h1
   rw [List.size_toArray,← hl]
   exact Option.some.inj h1
  exact PySem.W.ki_setBack ho (by omega) (by rw [List.size_toArray,← hl];exact h3) (by omega) (by rw [hk];exact ⟨_,I',q⟩)
theorem xJ (lo hi:Option Int) (n:Nat):(sliceBounds lo hi none n).1=((HT.sIx n 0 lo:Nat):Int)∧(sliceBounds lo hi none n).2.1=((HT.sIx n n hi:Nat):Int)∧(sliceBounds lo hi none n).2.2=1:=by
 refine ⟨?_,?_,rfl⟩
 ·cases lo with
  |none=>simp [sliceBounds,HT.sIx]
  |some i =>
   simp only [sliceBounds,HT.sIx,Option.getD_none,show (1:Int)>0 by decide,if_true]
   by_cases h:i<0
   ·simp only [h,if_true]<;>omega
   ·simp only [h,if_false]<;>omega
 ·cases hi with
  |none=>simp [sliceBounds,HT.sIx]
  |some i =>
   simp only [sliceBounds,HT.sIx,Option.getD_none,show (1:Int)>0 by decide,if_true]
   by_cases h:i<0
   ·simp only [h,if_true]<;>omega
   ·simp only [h,if_false]<;>omega
theorem xF (its:List Value) (lo hi:Option Int):slicePick its.toArray lo hi none=((its.drop (HT.sIx its.length 0 lo)).take (HT.sIx its.length its.length hi - HT.sIx its.length 0 lo)).toArray:=by
 obtain ⟨h1,h2,h3⟩:=xJ lo hi its.toArray.size
 unfold slicePick
 rw [h1,h2,h3]
 simp only [sliceRange_one,pick_run,List.size_toArray]<;>rfl
def GG (K:PySem.W.Frag):V→Option Int→Option Int→Hp→VK→Prop:=fun x lo hi H Q=>∃a xs,x=.ref a∧SqL K H a xs∧∀p,H p=none→Q (.ref p) (upd H p (.lst (kT xs lo hi)))
theorem CV:i5 X (GG X.K):=by
 intro pins s σ H x v vl vu lo hi sl Q I rx hs pl pu h
 obtain ⟨a,xs,rfl,hx,q⟩:=h
 cases rx
 obtain ⟨its,r,ht,hz⟩:=I.list hx
 have hlen:=r.length
 refine ⟨"list",_,slot_list_getitem.lookup,ht.isList.typeIs,?_⟩
 refine wpAny_getItem_list_slice ht.isList hs pl pu .none (by simp) ?_ (by rw [List.size_toArray]<;>omega)
 rw [xF,← hlen]
 refine ⟨.ref s.heap.objs.size,_,I.laid (t':=s.toks) (o:=.lst (kT xs lo hi)) (fun b ob q=>Heap.get?_push_of_some _ q) (Nat.le_refl _) ?_,rfl,q _ (I.hok.fresh (Nat.le_refl _))⟩
 exact ⟨Nat.le_trans (lP xs lo hi) hz,_,0,(r.drop (HT.sIx xs.length 0 lo)).take (HT.sIx xs.length xs.length hi - HT.sIx xs.length 0 lo),Heap.get?_push_size _ rfl⟩
def qH:V→Bool
 |.non=>true
 |.bl _=>true
 |.int _=>true
 |.str _=>true
 |_=>false
def qN:V→V→Bool
 |.non,.non=>true
 |.bl a,.bl b=>a == b
 |.bl a,.int b=>(if a then 1 else 0) == b
 |.int a,.bl b=>a == (if b then 1 else 0)
 |.int a,.int b=>a == b
 |.str a,.str b=>a == b
 |_,_=>false
theorem Z5 {A:Around} {s:Shared} {y x:V} {u v:Value} (ry:RelV y u) (rx:RelV x v) (fy:qH y=true) (fx:qH x=true):SeqAt.EqAt A s u v (qN y x):=by
 cases y with
 |non =>
  cases ry
  cases x with
  |non=>cases rx;exact SeqAt.EqAt.same _
  |bl b=>cases rx;exact SeqAt.EqAt.none_bool b
  |int b=>obtain ⟨t,rfl⟩:=rx;exact SeqAt.EqAt.none_int b t
  |str b=>obtain ⟨t,rfl⟩:=rx;exact SeqAt.EqAt.none_str b t
  |_=>exact absurd (show false=true from fx) Bool.false_ne_true
 |bl a =>
  cases ry
  cases x with
  |non=>cases rx;exact SeqAt.EqAt.bool_none a
  |bl b=>cases rx;exact SeqAt.EqAt.bool_bool a b
  |int b=>obtain ⟨t,rfl⟩:=rx;exact SeqAt.EqAt.bool_int a b t
  |str b=>obtain ⟨t,rfl⟩:=rx;exact SeqAt.EqAt.bool_str a b t
  |_=>exact absurd (show false=true from fx) Bool.false_ne_true
 |int a =>
  obtain ⟨t',rfl⟩:=ry
  cases x with
  |non=>cases rx;exact SeqAt.EqAt.int_none a t'
  |bl b=>cases rx;exact SeqAt.EqAt.int_bool a t' b
  |int b=>obtain ⟨t,rfl⟩:=rx;exact SeqAt.EqAt.int_int a t' b t
  |str b=>obtain ⟨t,rfl⟩:=rx;exact SeqAt.EqAt.int_str a t' b t
  |_=>exact absurd (show false=true from fx) Bool.false_ne_true
 |str a =>
  obtain ⟨t',rfl⟩:=ry
  cases x with
  |non=>cases rx;exact SeqAt.EqAt.str_none a t'
  |bl b=>cases rx;exact SeqAt.EqAt.str_bool a t' b
  |int b=>obtain ⟨t,rfl⟩:=rx;exact SeqAt.EqAt.str_int a t' b t
  |str b=>obtain ⟨t,rfl⟩:=rx;exact SeqAt.EqAt.str_str a t' b t
  |_=>exact absurd (show false=true from fx) Bool.false_ne_true
 |_=>exact absurd (show false=true from fy) Bool.false_ne_true
def e9 (x:V) (u:Value):Bool:=match u with
 |.none=>qN .non x
 |.bool b=>qN (.bl b) x
 |.int i _=>qN (.int i) x
 |.str z _=>qN (.str z) x
 |_=>false
theorem p7 {x y:V} {u:Value} (r:RelV y u) (f:qH y=true):e9 x u=qN y x:=by
 cases y with
 |non=>cases r;rfl
 |bl b=>cases r;rfl
 |int i=>obtain ⟨t,rfl⟩:=r;rfl
 |str z=>obtain ⟨t,rfl⟩:=r;rfl
 |_=>exact absurd (show false=true from f) Bool.false_ne_true
theorem oK {A:Around} {s:Shared} {x:V} {v:Value} (rx:RelV x v) (fx:qH x=true):∀{xs:List V} {us:List Value},Vals xs us→xs.all qH=true→∀u∈us,SeqAt.EqAt A s u v (e9 x u)
 |_,_,.nil,_=>fun u hu=>by cases hu
 |y::xs,u::us,.cons r t,f=>fun u' hu=>by
  rw [List.all_cons,Bool.and_eq_true] at f
  rcases List.mem_cons.mp hu with rfl|hu
  ·rw [p7 r f.1];exact Z5 r rx f.1 fx
  ·exact oK rx fx t f.2 u' hu
theorem kJ:vZ X (.builtin "len") (fun xs H Q=>∃p ys,xs=[.ref p]∧(SqL X.K H p ys∨SqT X.K H p ys)∧Q (.int ys.length) H):=by
 intro pins s σ H xs us Q I r h
 obtain ⟨p,ys,rfl,hq,q⟩:=h
 obtain ⟨u,rfl,rx⟩:=zX r
 cases rx
 have hn:=Z1
 rcases hq with hq|hq
 ·obtain ⟨its,r',pl,hz⟩:=I.list hq
  have hlen:=r'.length
  exact Calls.call_len_list pl.isList (by simp only [List.size_toArray]<;>omega) ⟨.int ys.length,H,I.tok _,⟨s.toks+1,by rw [List.size_toArray,hlen]⟩,q⟩
 ·obtain ⟨its,r',pl,hz⟩:=I.tuple hq
  have hlen:=r'.length
  exact len_tuple pl (by simp only [List.size_toArray]<;>omega) ⟨.int ys.length,H,I.tok _,⟨s.toks+1,by rw [List.size_toArray,hlen]⟩,q⟩
theorem bN:vZ X (.type "list") (fun xs H Q=>∃p ys,xs=[.ref p]∧(SqL X.K H p ys∨SqT X.K H p ys)∧∀l,H l=none→Q (.ref l) (upd H l (.lst ys))):=by
 intro pins s σ H xs us Q I r h
 obtain ⟨p,ys,rfl,hq,q⟩:=h
 obtain ⟨u,rfl,rx⟩:=zX r
 cases rx
 have fin:∀(its:List Value),Vals ys its→ys.length≤sizeLine→∀(h':Heap) (c':Nat),(∀b o',s.heap.get? b=some o'→h'.get? b=some o')→
   h'.get? s.heap.objs.size=some {cls:=.type "list",dict:=none,data:=.seq its.toArray c',slots := #[]}→EP X pins σ Q (.ref s.heap.objs.size) {s with heap:=h'}:=fun its r' hz h' c' kp e =>
  ⟨.ref s.heap.objs.size,_,I.laid (t':=s.toks) kp (Nat.le_refl _) (show ObjOk X.prog X.w _ h' _ (.lst ys) from ⟨hz,its,c',r',e⟩),rfl,q _ (I.hok.fresh (Nat.le_refl _))⟩
 rcases hq with hq|hq
 ·obtain ⟨its,r',pl,hz⟩:=I.list hq
  have hlen:=r'.length
  obtain ⟨o,ho,hc,n,hd⟩:=pl.isList
  exact call_list_seq p (.inl rfl) ho hc hd (fun h' c' kp e=>fin its r' hz h' c' kp e) (by simp only [List.size_toArray]<;>omega)
 ·obtain ⟨its,r',pl,hz⟩:=I.tuple hq
  have hlen:=r'.length
  obtain ⟨o,ho,hc,n,hd⟩:=pl
  exact call_list_seq p (.inr rfl) ho hc hd (fun h' c' kp e=>fin its r' hz h' c' kp e) (by simp only [List.size_toArray]<;>omega)
theorem dO:vZ X (.type "tuple") (fun xs H Q=>∃p ys,xs=[.ref p]∧((SqL X.K H p ys∧∀l,H l=none→Q (.ref l) (upd H l (.tup ys)))∨(SqT X.K H p ys∧Q (.ref p) H))):=by
 intro pins s σ H xs us Q I r h
 obtain ⟨p,ys,rfl,h⟩:=h
 obtain ⟨u,rfl,rx⟩:=zX r
 cases rx
 rcases h with ⟨hq,q⟩|⟨hq,q⟩
 ·obtain ⟨its,r',pl,hz⟩:=I.list hq
  have hlen:=r'.length
  refine call_tuple_list pl.isList (fun h' kp=>?_) (by simp only [List.size_toArray]<;>omega)
  have I1:Inv X pins σ H {s with heap:=h'}:=I.kept (t':=s.toks) kp
  have I2:Inv X pins σ (upd H h'.objs.size (.tup ys)) {s with heap:=h'.push {cls:=.type "tuple",data:=.seq its.toArray}} :=
   I1.laid (t':=s.toks) (fun b o e=>Heap.get?_push_of_some _ e) (Nat.le_refl _) (show ObjOk X.prog X.w _ _ _ (.tup ys) from ⟨hz,its,r',IsTup.new _ _⟩)
  exact ⟨.ref h'.objs.size,_,I2,rfl,q _ (I1.hok.fresh (Nat.le_refl _))⟩
 ·obtain ⟨its,r',pl,hz⟩:=I.tuple hq
  exact call_tuple_same pl ⟨.ref p,H,I,rfl,q⟩
def sC (K:PySem.W.Frag) (T:String) (x:V) (H:Hp):Prop:=match x with
 |.str _=>T="str"
 |.int _=>T="int"
 |.ref p=>(T="list"∧∃xs,SqL K H p xs)∨(T="tuple"∧∃o,K.lookup p=some o∧o.cls=.type "tuple"∧o.dict=none)∨
   (T="dict"∧((∃kvs,H p=some (.dK kvs))∨∃kvs,H p=some (.dT kvs)))∨(T="set"∧∃S n,H p=some (.set S n))
 |_=>False
theorem DU {pins:List (Addr×Obj)} {σ:St} {H:Hp} {s:Shared} {T:String} {x:V} {v:Value} (I:Inv X pins σ H s) (r:RelV x v) (ty:sC X.K T x H) :
  s.TypeIs v T∧∀a,v=.ref a→∃ob,s.heap.get? a=some ob∧ob.dict=none:=by
 cases x with
 |str z =>
  obtain ⟨t,rfl⟩:=r
  cases (show T="str" from ty)
  exact ⟨typeIs_str s z t,fun _ e=>nomatch e⟩
 |int i =>
  obtain ⟨t,rfl⟩:=r
  cases (show T="int" from ty)
  exact ⟨typeIs_int s i t,fun _ e=>nomatch e⟩
 |ref p =>
  cases r
  rcases ty with ⟨rfl,xs,hq⟩|⟨rfl,o,hk,hc,hd⟩|⟨rfl,hk⟩|⟨rfl,S,n,hk⟩
  ·obtain ⟨its,_,pl,_⟩:=I.list hq
   refine ⟨pl.isList.typeIs,fun a e=>?_⟩
   cases e
   obtain ⟨o,n,e,c,hd,_⟩:=pl
   exact ⟨o,e,hd⟩
  ·refine ⟨⟨o,I.kIn p o hk,hc⟩,fun a e=>?_⟩
   cases e
   exact ⟨o,I.kIn _ o hk,hd⟩
  ·have z:∃o,s.heap.get? p=some o∧o.ExactDict:=by
    rcases hk with ⟨kvs,hk⟩|⟨kvs,hk⟩
    ·obtain ⟨_,_,_,_,o,_,_,e,ex,_⟩:=I.hok p _ hk
     exact ⟨o,e,ex⟩
    ·obtain ⟨_,_,_,_,o,_,_,e,ex,_⟩:=I.hok p _ hk
     exact ⟨o,e,ex⟩
   obtain ⟨o,e,ex⟩:=z
   refine ⟨⟨o,e,ex.1⟩,fun a e2=>?_⟩
   cases e2
   exact ⟨o,e,ex.2.1⟩
  ·obtain ⟨o,_,_,_,e,ex,_⟩:=I.hok p _ hk
   refine ⟨⟨o,e,ex.1⟩,fun a e2=>?_⟩
   cases e2
   exact ⟨o,e,ex.2.1⟩
 |_=>exact False.elim ty
def GY (K:PySem.W.Frag) (T:String) (r:V→List V→Hp→VK→Prop) (to:TE) (t:TA):TE:=fun σ H Q=>to σ H fun x H1=>sC K T x H1∧t σ H1 fun xs H2=>r x xs H2 Q
variable {o e:Expr} {es:List Expr} {to:TE} {t:TA} {name:Str} {apos cpos:Pos} {T id:String} {r:V→List V→Hp→VK→Prop}
theorem J7 (pa:PlainAttrs T) (slot:Slot T name id) (hty:typeOf (.builtin id)=pure (.type "method_descriptor")) (hm:sI X id r) (ho:PE X o to) (ha:PA X (e::es) t)
  (hbase:attributeBase o name X.env (eval o X.env)=eval o X.env:=by rfl)
  (hfew:((backTo cpos (starEach (e::es) X.env)).all (fun x => !x.1)&&(backToKw cpos (keywordEach [] X.env)).all (fun x=>x.1.isSome)
   && decide ((e::es).length+([]:List Keyword).length+(if ([]:List Keyword).isEmpty then 0 else 1)<30))=true:=by rfl)
  (hline:(apos.endLine == cpos.line)=true:=by rfl) (hs:starEach (e::es) X.env=(false,eval e X.env)::starEach es X.env:=by rfl) (hplain:(backTo cpos (starEach es X.env)).any (·.1)=false:=by rfl) :
  PE X (.Call (.Attribute o name apos) (e::es) [] cpos) (GY X.K T r to t):=by
 intro pins s σ H Q I h
 refine wpAny_Call_method_late hbase hfew hline rfl (jN (ho pins s σ H _ I h) fun v s1 ⟨x,H1,I1,r1,ty,q1⟩=>?_)
 obtain ⟨h1,h2⟩:=DU I1 r1 ty
 refine ⟨T,id,pa,slot,hty,h1,h2,?_⟩
 have hA:=ha cpos pins s1 σ H1 _ I1 q1
 rw [hs] at hA ⊢
 refine Calls.callWith_builtin (by show (false||(backTo cpos (starEach es X.env)).any (·.1))=false;rw [hplain]<;>rfl) (Calls.evalArgs_plain ?_)
 exact jN hA fun us s2 ⟨vs,H2,I2,r2,q2⟩=>hm pins s2 σ H2 x vs v us Q I2 r1 r2 q2
/- xs.append(e),list.index on a module's tuple .. are sI facts of 06m -/
end
end L2
namespace L2
open PySem PySem.Spec PyProof.Rows
def sJ (X:Cx) (id:String) (r:V→List V→Hp→VK→Prop):Prop :=
 ∀(pins:List (Addr×Obj)) (s:Shared) (σ:St) (H:Hp) (x:V) (xs:List V) (v:Value) (us:List Value) (Q:VK),Inv X pins σ H s→RelV x v→Vals xs us→r x xs H Q→
  wpAny (model X.prog X.w) X.A (call (.builtin id) (v::us)) (EP X pins σ Q) X.xe s
theorem Vals.one:∀{x:V} {us:List Value},Vals [x] us→∃u,us=[u]∧RelV x u
 |_,_,.cons r .nil=>⟨_,rfl,r⟩
theorem Vals.rep {xs:List V} {us:List Value} (h:Vals xs us):∀k:Nat,Vals (List.replicate k xs).flatten (List.replicate k us).flatten
 |0=>.nil
 |k+1=>by
  rw [List.replicate_succ,List.replicate_succ,List.flatten_cons,List.flatten_cons]
  exact Vals.append h (Vals.rep h k)
theorem nA (its:List Value):∀(k:Nat) (acc:List Value),
  List.foldl (fun x1 x2=>x1++x2) acc.toArray (List.replicate k its.toArray)=(acc++(List.replicate k its).flatten).toArray
 |0,acc=>by simp
 |k+1,acc=>by
  have e:acc.toArray++its.toArray=(acc++its).toArray:=by simp
  have e2:(acc++its)++(List.replicate k its).flatten=acc++(List.replicate (k+1) its).flatten:=by
   rw [List.replicate_succ,List.flatten_cons,List.append_assoc]
  rw [← e2,← nA its k (acc++its),← e,List.replicate_succ,List.foldl_cons]
section
variable {X:Cx} {pins:List (Addr×Obj)} {σ:St} {H:Hp} {s:Shared} {l b:Addr} {xs ys zs:List V}
theorem Inv.lset {its its':List Value} {n:Nat} {f:Array Value→Array Value} {t':Nat} (I:Inv X pins σ H s) (hH:H l=some (.lst xs))
  (e:s.heap.get? l=some {cls:=.type "list",data:=.seq its.toArray n}) (hf:f its.toArray=its'.toArray) (hv:Vals ys its') (hz:ys.length≤sizeLine) :
  Inv X pins σ (upd H l (.lst ys)) {s with heap:=s.heap.update l (Obj.mapSeq f),toks:=t'}:=by
 have q:=PySem.IsL.update e f
 rw [hf] at q
 refine I.write (x:=l) (e:=l) (by rw [hH];exact trivial) (.inl rfl) (fun b' u hb hu=>(Heap.get?_update_other s.heap (Obj.mapSeq f) (Ne.symm hb)).trans hu) ⟨_,q⟩ ?_
 exact ⟨hz,its',_,hv,q⟩
theorem Inv.lnew {its:List Value} {t':Nat} (I:Inv X pins σ H s) (hv:Vals ys its) (hz:ys.length≤sizeLine) :
  Inv X pins σ (upd H s.heap.objs.size (.lst ys)) {s with heap:=s.heap.push {cls:=.type "list",data:=.seq its.toArray},toks:=t'} :=
 I.laid (fun _ _ q=>Heap.get?_push_of_some _ q) (Nat.le_refl _) ⟨hz,its,0,hv,Heap.get?_push_size _ rfl⟩
theorem Inv.fresh (I:Inv X pins σ H s):H s.heap.objs.size=none:=I.hok.fresh (Nat.le_refl _)
theorem Inv.lstM (I:Inv X pins σ H s) (hH:H l=some (.lst xs)):xs.length≤sizeLine∧∃(its:List Value) (n:Nat),Vals xs its∧xs.length=its.length∧s.heap.get? l=some {cls:=.type "list",data:=.seq its.toArray n}:=by
 obtain ⟨z,its,n,r,e⟩:=I.hok l _ hH
 exact ⟨z,its,n,r,r.length,e⟩
theorem B8 {n:Nat} (h:n≤sizeLine):Builtin.List.listTooLong n=false:=by
 unfold Builtin.List.listTooLong
 exact decide_eq_false (by omega)
end
section
variable {X:Cx}
def C1:V→List V→Hp→VK→Prop:=fun x vs H Q=>∃l xs y,x=.ref l∧vs=[y]∧H l=some (.lst xs)∧xs.length<sizeLine∧Q .non (upd H l (.lst (xs++[y])))
theorem JU:sJ X "list.append" C1:=by
 intro pins s σ H x vs v us Q I rx rv h
 obtain ⟨l,xs,y,rfl,rfl,hH,hz,q⟩:=h
 cases rx
 obtain ⟨u,rfl,ru⟩:=rv.one
 obtain ⟨z,its,n,r,hl,e⟩:=I.lstM hH
 refine call_meets F.slot_list_append ⟨_,e,rfl⟩ F.entry_list_append (F.args_list_append_2 _ _) (PySem.list_append l its.toArray n u (by rw [List.size_toArray];omega)) ⟨e,?_⟩
 refine ⟨.non,_,I.lset (its':=its++[u]) hH e (by simp) (r.append (.cons ru .nil)) ?_,rfl,q⟩
 rw [List.length_append,List.length_singleton]
 omega
def GI:R2:=fun x y H Q=>∃l b xs zs,x=.ref l∧y=.ref b∧H l=some (.lst xs)∧H b=some (.lst zs)∧xs.length+zs.length≤sizeLine∧∀p,H p=none→Q (.ref p) (upd H p (.lst (xs++zs)))
theorem J3:kU X (binaryOp .Add) GI:=by
 intro pins s σ H x y v u Q I rx ry h
 obtain ⟨l,b,xs,zs,rfl,rfl,hH,hB,hz,q⟩:=h
 cases rx
 cases ry
 obtain ⟨z,its,n,r,hl,e⟩:=I.lstM hH
 obtain ⟨z2,its2,n2,r2,hl2,e2⟩:=I.lstM hB
 refine PySem.P.add_list e e2 ?_ (by rw [List.size_toArray,List.size_toArray];omega)
 have ea:its.toArray++its2.toArray=(its++its2).toArray:=by simp
 rw [ea]
 exact ⟨.ref _,_,I.lnew (t':=s.toks) (r.append r2) (by rw [List.length_append];omega),rfl,q _ I.fresh⟩
def GH:R2:=fun x y H Q=>∃l k xs,x=.ref l∧y=.int k∧H l=some (.lst xs)∧-(2 ^ 63)≤k∧k<2 ^ 63∧xs.length*k.toNat≤sizeLine∧
 ∀p,H p=none→Q (.ref p) (upd H p (.lst (List.replicate k.toNat xs).flatten))
theorem DI {α:Type} (xs:List α) (k:Nat):(List.replicate k xs).flatten.length=k*xs.length:=by
 induction k with
 |zero=>simp
 |succ k ih=>rw [List.replicate_succ,List.flatten_cons,List.length_append,ih,Nat.succ_mul,Nat.add_comm]
theorem pW:kU X (binaryOp .Mult) GH:=by
 intro pins s σ H x y v u Q I rx ry h
 obtain ⟨l,k,xs,rfl,rfl,hH,h1,h2,hz,q⟩:=h
 cases rx
 obtain ⟨t,rfl⟩:=ry
 obtain ⟨z,its,n,r,hl,e⟩:=I.lstM hH
 have hlen:its.toArray.size*k.toNat≤sizeLine:=by rw [List.size_toArray,← hl];exact hz
 have hcap:¬its.toArray.size*k.toNat>(2 ^ 63 - 1) / 8:=by
  have:(sizeLine:Nat)≤(2 ^ 63 - 1) / 8:=by decide
  omega
 have hfit:¬(!Builtin.List.listFitsIndex k)=true:=by
  rw [fitsIndex_both h1 h2]
  exact Bool.false_ne_true
 have hlong:¬Builtin.List.listTooLong (its.toArray.size*k.toNat)=true:=by
  rw [B8 hlen]
  exact Bool.false_ne_true
 have hnew:List.foldl (fun x1 x2=>x1++x2) #[] (List.replicate (if its.toArray.isEmpty=true then 0 else k.toNat) its.toArray)=(List.replicate k.toNat its).flatten.toArray:=by
  have f0:∀m:Nat,List.foldl (fun x1 x2=>x1++x2) #[] (List.replicate m its.toArray)=(List.replicate m its).flatten.toArray:=fun m=>by
   have:=nA its m []
   rw [List.nil_append] at this
   exact this
  rw [f0]
  cases its with
  |nil=>simp
  |cons a r'=>rw [if_neg (by simp)]
 refine wpAny_binaryOp_repeat_ref (T:="list") (U:="int") (by decide) ⟨_,e,rfl⟩ (fun s'=>typeIs_int s' k t) noFill_list_mul F.fills_int_mul F.slot_int_rmul repeat_list F.slot_int_index.lookup
  (call_meets F.slot_int_rmul (typeIs_int s k t) F.entry_int_rmul (F.args_int_rmul_2 _ _) (int___rmul___int_list k t l its.toArray n)
   ⟨e,rfl,⟨_,e,rfl⟩,call_meets F.slot_list_mul ⟨_,e,rfl⟩ F.entry_list_mul (F.args_list_mul_2 _ _) (AutoListH.list___mul___list_int_3 l its.toArray n k t hfit hcap hlong) ⟨e,?_⟩⟩)
 rw [hnew]
 exact ⟨.ref _,_,I.lnew (t':=s.toks) (r.rep k.toNat) (by rw [DI,Nat.mul_comm];exact hz),rfl,q _ I.fresh⟩
end
section
variable {prog:Program} {w:World} {A:Around} {E:Value→Shared→Prop} {s:Shared}
end
section
variable {X:Cx}
end
end L2
namespace Att
open PySem PySem.W PySem.Calls PyProof.Rows
theorem xD {P:Params} {h:Heap}:∀(ns:List Int) (vs:List Value),WellAll P h vs (ns.map WData.int)→IntsAre vs ns:=by
 intro ns
 induction ns with
 |nil =>
  intro vs w
  rw [List.map_nil] at w
  cases w
  exact .nil
 |cons n ns ih =>
  intro vs w
  rw [List.map_cons] at w
  cases w with
  |cons a b =>
   cases a
   exact .cons _ _ (ih _ b)
theorem A6 {l:OpenLaw} {n:Nat} (hn:l.most=some n) {P:Params} {h:Heap} {args:List WData} {vals:List Value}
  (hpre:l.row.toRowW.claim.pre args=true) (hwl:WellAll P h vals args) :
  ∃a vs ns,vals=[Value.ref a]∧args=[WData.list (ns.map WData.int)]∧h.get? a=some {cls:=.type "list",data:=.seq vs.toArray}∧IntsAre vs ns∧ns.length≤n:=by
 have hsh:WShape.hasAll [] args [.list .int]=true:=(pre_splitW hpre).1
 have hc:l.pre.holds [] {args:=args}=true:=(pre_splitW hpre).2
 obtain ⟨d,r,rfl,h1,h2⟩:=hasAllW_cons hsh
 obtain rfl:=hasAllW_nil h2
 obtain ⟨xs,rfl,h3⟩:=hasW_list h1
 obtain ⟨ns,rfl⟩:=items_int h3
 have hlen:ns.length≤n:=by
  unfold OpenLaw.pre at hc
  have h4:(WTm.not (.lt (.lit (.int (n:Int))) (.len (.arg 0)))).holds [] {args:=[.list (ns.map .int)]}=true:=by
   have h4:=(holds_andW hc).1
   rw [hn] at h4
   exact h4
  have h5:=condW_of h4 (w_not (w_lt w_lit (w_len_list (w_arg rfl))))
  rw [List.length_map] at h5
  refine Nat.le_of_not_lt fun q=>?_
  have q':(n:Int)<((ns.length:Nat):Int):=by omega
  first
   | (rw [decide_eq_true q'] at h5;exact absurd h5 (by decide))
   | (simp at h5;omega)
 cases hwl with
 |cons w1 w2 =>
  cases w2
  cases w1 with
  |list ho hall=>exact ⟨_,_,ns,rfl,rfl,ho,xD ns _ hall,hlen⟩
theorem A8 (l:OpenLaw) (args:List WData):l.row.toRowW.claim.post args (.bool true) args=true :=
 postW_of (r:=l.row.toRowW) (X:=(true == true))
  (show WShape.has [] (.bool true) .bool=true by first|rfl|decide|simp [WShape.has,WShape.arms,WShape.armsAll])
  (show (WTm.eq .res (.lit (.bool true))).value [] {args:=args,res:=some (.bool true),after:=args}=some (.bool (true == true)) from w_eq_bool (w_res rfl) w_lit) rfl
theorem attach_call {l:OpenLaw} {n:Nat} {q:Program} {loose:List Str} {XP:(Str→Option Value)→Heap→Prop} {YP:World→Heap→Prop} {d:DefRec}
  (hn:l.most=some n) (hdf:d.params.defaults=[])
  (call:∀(w:World) (s₀ s₁:Shared) (mg mb:Str→Option Value) (fa:Addr) (o:Obj) (pm cd doc:Value) (a:Addr) (vs:List Value) (ns:List Int),
   Ground q loose [] XP w s₀ mg mb s₁.heap→YP w s₁.heap→
   s₁.heap.get? fa=some o→o.data=.func (docDef d.name d.params d.body d.scope pm cd doc)→s₁.heap.CodeRec cd d.name→mg d.name=some (.ref fa)→
   s₁.heap.get? a=some {cls:=.type "list",data:=.seq vs.toArray}→IntsAre vs ns→ns.length≤n→s₁.gens = #[]→
   codeAny (model l.prog w) callerA (.call (.ref fa) ⟨[.ref a],[]⟩) (fun r s'=>r=.ok (.ret (.bool true))∧OldK s₁.heap s'.heap∧s'.os=s₁.os∧AllBare s'.gens) s₁) :
  WalkO q loose XP YP l.row.toRowW d [] (fun f vs=>PySem.call f vs):=by
 intro w s₀ s₁ mg mb G Y fa o pm cd doc dV kV ho hd hcd hD hmg hg args vals as hpre hlay hrd hwl hlo
 obtain rfl:dV=.none:=Dflts.none hD hdf
 obtain rfl:kV=.none:=Dflts.noKw hD
 obtain ⟨a,vs,ns,rfl,rfl,hobj,hints,hlen⟩:=A6 hn hpre hwl
 refine enter_call (codeAny_mono (call w s₀ s₁ mg mb fa o pm cd doc a vs ns G Y ho (fd_plain hd) hcd hmg hobj hints hlen hg) fun r s' hq=>?_)
 obtain ⟨rfl,h2,h3,h4⟩:=hq
 exact ⟨.inl ⟨.bool true,.bool true,[],rfl,fun _=>rfl,.bool true,A8 l _,fun _=>⟨List.Pairwise.nil,fun _ hm=>(nomatch hm)⟩⟩,h2,h3,h4⟩
section
variable {prog:Program} {w:World} {A:Around} {E:Value→Shared→Prop} {s:Shared} {K:Frag}
def G3 (h:Heap) (L d:Addr):List (Addr×Obj):=(List.range h.objs.size).filterMap fun a=>if a=L∨a=d then none else (h.get? a).map fun o=>(a,o)
end
end Att
namespace L2
open PySem PySem.Spec PyProof.Rows
theorem mK:∀{vs:List Value} {ns:List Int},IntsAre vs ns→Vals (ns.map V.int) vs
 |_,_,.nil=>.nil
 |_,_,.cons n t h=>.cons ⟨t,rfl⟩ (mK h)
def iW (H:Hp):Prop:=∀b,H b=none∨∃o xs,H b=some (.frz o (.lst xs))
theorem CD {P:Program} {w:World} {K:PySem.W.Frag} {mg mb:Str→Option Value} {CX:vT} {k:Nat} {fa a:Addr} {fd:FuncData} {x:Str} {sp:Sp} {s₁:Shared} {vs:List Value} {ns:List Int}
  (KX:K.In s₁.heap) (hns:s₁.heap.Ns mainGlobals mg) (hb:s₁.heap.Ns builtinsNs mb) (hbb:∀x:Str,x≠"__name__"→mb x=bootBuiltins x) (hlim:s₁.heap.NoLimit) (hg:s₁.gens = #[])
  (ha:s₁.heap.get? a=some {cls:=.type "list",data:=.seq vs.toArray}) (hi:IntsAre vs ns) (hl:ns.length≤sizeLine) (hr:Room k callerA)
  (F:∀base:Heap,K.In base→base.Ns mainGlobals mg→FnOk P w K mg base CX k fa fd [x] sp) (hbind:∀(s:Shared) (u:Value),BindsTo s fd ⟨[u],[]⟩ [(x,u)])
  (hsp:∀H:Hp,iW H→SqL K H a (ns.map V.int)→sp [.ref a] H (fun v _=>v=.bl true) fun _ _ _=>False)
  (hCX:∀H e s',CX [] H s₁ (fun _ _ _=>False) e s'→False) :
  codeAny (model P w) callerA (.call (.ref fa) ⟨[.ref a],[]⟩) (fun r s'=>r=.ok (.ret (.bool true))∧OldK s₁.heap s'.heap∧s'.os=s₁.os∧AllBare s'.gens) s₁:=by
 have rv:=mK hi
 have lenV:=hi.length
 have core:∀H:Hp,iW H→SqL K H a (ns.map V.int)→HOk P w H s₁.heap→(∀b,H b≠none→b=a)→(H a≠none→K.lookup a=none)→
   codeAny (model P w) callerA (.call (.ref fa) ⟨[.ref a],[]⟩) (fun r s'=>r=.ok (.ret (.bool true))∧OldK s₁.heap s'.heap∧s'.os=s₁.os∧AllBare s'.gens) s₁:=by
  intro H hO hS hok hA hK
  have base_of:∀{b:Addr} {o:Obj},s₁.heap.get? b=some o→H b=none→(zO s₁.heap H).get? b=some o:=fun e n=>CF e n
  have noA:∀{b:Addr} {o:Obj} {es:Array DictEntry} {ep:Nat},s₁.heap.get? b=some o→o.data=.dict es ep→H b=none:=fun {b o es ep} e d=>by
   cases q:H b with
   |none=>rfl
   |some u =>
    have e':b=a:=hA b (by rw [q];simp)
    subst e'
    rw [ha] at e;cases e
    have d':Data.seq vs.toArray _=Data.dict es ep:=d
    cases d'
  have nsK:∀{b:Addr} {m:Str→Option Value},s₁.heap.Ns b m→(zO s₁.heap H).Ns b m:=fun {b m} ⟨o,es,ep,e,d,r⟩=>⟨o,es,ep,base_of e (noA e d),d,r⟩
  have hKb:K.In (zO s₁.heap H):=fun b o e=>base_of (KX b o e) (by
   cases q:H b with
   |none=>rfl
   |some u =>
    have e':b=a:=hA b (by rw [q];simp)
    subst e'
    rw [hK (by rw [q];simp)] at e;cases e)
  have hM:Mod K mg (zO s₁.heap H):=⟨hKb,nsK hns,⟨mb,nsK hb,hbb⟩,let ⟨mc,h1,h2⟩:=hlim;⟨mc,nsK h1,h2⟩⟩
  have e0:Env0 P w K mg (zO s₁.heap H) callerA [] s₁ H:=⟨rfl,hM,fun b o e=>DD e,Nat.le_of_eq (BJ _ _),trivial,fun b hb=>absurd (show b∈([]:List Addr) from hb) (by simp),hok,.of_eq hg⟩
  refine codeAny_mono ((F _ hKb (nsK hns)).run callerA [] s₁ H ⟨[.ref a],[]⟩ [.ref a] [.ref a] _ _ hr e0 (hbind s₁ (.ref a)) (.cons rfl .nil) (hsp H hO hS)) fun r s' h=>?_
  cases r with
  |error e=>exact (hCX H e s' h).elim
  |ok fl =>
   cases fl with
   |next=>exact False.elim h
   |brk=>exact False.elim h
   |cont=>exact False.elim h
   |ret u =>
    obtain ⟨v,H',os,bare,un,hok',r',q⟩:=h
    have q':v=.bl true:=q
    subst q'
    obtain rfl:u=Value.bool true:=r'
    refine ⟨rfl,OldK.of_keep fun b o e=>?_,os,bare⟩
    cases q:H b with
    |none=>exact un.keep b o e q (by intro z;exact absurd (show b∈([]:List Addr) from z) (by simp)) (by simp)
    |some u =>
     rcases hO b with z|⟨ob,xs,z⟩
     ·rw [q] at z;cases z
     ·have z2:=un.frzs b ob _ z
      obtain ⟨e1,_⟩:=hok b _ z
      obtain ⟨e2,_⟩:=hok' b _ z2
      rw [e] at e1;cases e1
      exact e2
 cases hk:K.lookup a with
 |some o =>
  have e:=KX a o hk
  rw [ha] at e
  cases e
  refine core (fun _=>none) (fun _=>.inl rfl) (.inr ⟨_,vs.toArray,_,hk,rfl,rfl,rfl,by rw [List.size_toArray,lenV];exact hl,by simpa using rv⟩) (fun b u z=>by have z':(none:Option HO)=some u:=z;cases z') (fun b z=>absurd rfl z) fun z=>absurd rfl z
 |none =>
  refine core (fun b=>if b=a then some (.frz {cls:=.type "list",data:=.seq vs.toArray} (.lst (ns.map V.int))) else none) (fun b=>?_) (.inl (.inr ⟨{cls:=.type "list",data:=.seq vs.toArray},if_pos rfl⟩)) (fun b u z=>?_) (fun b z=>?_) fun _=>hk
  ·by_cases hb:b=a
   ·exact .inr ⟨_,_,if_pos hb⟩
   ·exact .inl (if_neg hb)
  ·by_cases hb:b=a
   ·have z':=(if_pos hb).symm.trans z
    cases z'
    subst hb
    exact ⟨ha,by rw [List.length_map];exact hl,vs,_,rv,ha⟩
   ·have z':=(if_neg hb).symm.trans z
    cases z'
  ·by_cases hb:b=a
   ·exact hb
   ·exact absurd (if_neg hb) z
end L2
namespace L2
open PySem PySem.Spec PyProof.Rows
abbrev KOf {K:PySem.W.Frag} {h:Heap} (_:K.In h):PySem.W.Frag:=K
theorem walk_of {l:PySem.W.OpenLaw} {n k:Nat} {q:Program} {loose:List Str} {XP:(Str→Option Value)→Heap→Prop} {YP:World→Heap→Prop} {d:DefRec} {K:Params→PySem.W.Frag} {CX:World→vT} {sp:World→Sp} {x:Str}
  (hn:l.most=some n) (hn2:n≤sizeLine) (hdf:d.params.defaults=[]) (hr:Room k callerA)
  (hY:∀(w:World) (h:Heap),YP w h→(K w.params).In h)
  (F:∀(w:World) (mg:Str→Option Value) (fa:Addr) (h:Heap),(K w.params).In h→h.Ns mainGlobals mg→mg d.name=some (.ref fa)→
   ∃fd:FuncData,(∀(s:Shared) (u:Value),BindsTo s fd ⟨[u],[]⟩ [(x,u)])∧
    ∀base:Heap,(K w.params).In base→base.Ns mainGlobals mg→FnOk l.prog w (K w.params) mg base (CX w) k fa fd [x] (sp w))
  (hsp:∀(w:World) (H:Hp) (a:Addr) (ns:List Int),ns.length≤n→iW H→SqL (K w.params) H a (ns.map V.int)→sp w [.ref a] H (fun v _=>v=.bl true) fun _ _ _=>False)
  (hCX:∀(w:World) (H:Hp) (s:Shared) (e:Value) (s':Shared),CX w [] H s (fun _ _ _=>False) e s'→False) :
  PySem.W.WalkO q loose XP YP l.row.toRowW d [] (fun f vs=>PySem.call f vs):=by
 refine Att.attach_call hn hdf fun w s₀ s₁ mg mb fa o pm cd doc a vs ns G Y ho hd hcd hmg hobj hints hlen hg=>?_
 have KX:=hY w _ Y
 obtain ⟨fd,hb,hF⟩:=F w mg fa _ KX G.T.g hmg
 exact CD KX G.T.g G.T.b G.T.builtins G.T.nolimit hg hobj hints (Nat.le_trans hlen hn2) hr hF hb (fun H hO hS=>hsp w H a ns hlen hO hS) fun H e s'=>hCX w H s₁ e s'
end L2
/- THE LAST THEOREM (shape;LID,My.* are yours):
  My.Adr: a structure of the addresses that your layer names (classes,functions);My.Txt K t: a structure (Prop) of the equations over K;
  My.txt_mk:{K} {implicit addresses ..} (e1:nsIn K mainGlobals "law"=some (some (.ref f))) (e2:K.lookup f=some ⟨oc,od,.func (fnOf "law" "law" params body scope dV kV doc pm an cdv ct),sl⟩) (e3:codeIn K cdv "law"=true) .. : ∃t,My.Txt K t
set_option maxRecDepth 100000 in
set_option maxHeartbeats 0 in
theorem PySem.Challenge.cw_LID_holds : PySem.Challenge.rw_LID.Holds := by
 w_on;o_law;k_head;(case hw=>w_witness2)
 k_fill
 refine L2.walk_of (l:=PySem.Challenge.rw_LID) (n:=63) (k:=40) (x:="script") (CX:=fun w=>..) (sp:=fun _=>My.sp_law) rfl (by decide) rfl ⟨rfl,by decide,by decide⟩ (fun w h Y=>PySem.W.kIn_of Y) ?F ?S ?C
 case F =>
  intro w mg fa h KX G hmg
  have T:∃t,My.Txt (L2.KOf KX) t:=by
   dsimp only [L2.KOf] -- K must stand as «<heap const> w.params» for k_is
   refine' My.txt_mk ?e1 ?e2 ?e3 ..
   (case e1=>PySem.W.k_is) -- in the order: a name -> its address -> its object -> its parts
   (case e2=>PySem.W.k_is)
   ..
  obtain ⟨t,T⟩:=T
  have e0:=hmg.symm.trans (PySem.W.mg_of KX G T.law)
  cases e0 -- fa is the law's own address
  exact ⟨_,fun s u=>.of_eq rfl,fun base kb nb=>My.law_fn T kb nb⟩ -- if «.of_eq rfl» comes too early: refine' ⟨_,?b,fun base kb nb=>My.law_fn T kb nb⟩;exact fun s u=>.of_eq rfl
 case S=>exact fun w H a ns hl hO hS=>..
 case C=>exact ..
(the tactic k_is has no namespace: write k_is) -/
namespace L2
open PySem PySem.Spec PyProof.Rows
def qW (s:Stmt) (j:Nat):Stmt:=match s with
 |.ClassDef _ _ _ body _ _ _ _ _ _ _=>body.getD j (.Pass ⟨0,0,0,0⟩)
 |_=>.Pass ⟨0,0,0,0⟩
def jR (s:Stmt):Arguments:=match s with
 |.FunctionDef _ a _ _ _ _ _ _ _ _=>a
 |_=>{posonlyargs:=[],args:=[],vararg:=none,kwonlyargs:=[],kw_defaults:=[],kwarg:=none,defaults:=[]}
def jP (s:Stmt):List Stmt:=match s with
 |.FunctionDef _ _ b _ _ _ _ _ _ _=>b
 |_=>[]
def jD (s:Stmt):Scope:=match s with
 |.FunctionDef _ _ _ _ _ _ sc _ _ _=>sc
 |_=>{kind:=.function,names:=[],isGenerator:=false,isCoroutine:=false}
abbrev jQ:vT:=fun _ _ _ _ _ _=>False
abbrev E0:XK:=fun _ _ _=>False
theorem bA {X:Cx}:J5 jQ X E0:=fun _ _ _ _ _ _ _ h=>h.elim
structure Fun (K:PySem.W.Frag) (x qual:Str) (st:Stmt) (f:Addr) (fd:FuncData):Prop where
 ex:∃(oc:Value) (od:Option Addr) (kV doc pm:Value) (an:Option Addr) (cdv ct:Value) (osl:Array (Option Value)),
  fd=PySem.W.fnOf x qual (jR st) (jP st) (jD st) .none kV doc pm an cdv ct∧K.lookup f=some ⟨oc,od,.func fd,osl⟩∧PySem.W.codeIn K cdv qual=true
 kp:PySem.W.keepIn K (.ref f)=true
section
variable {P:Program} {w:World} {K:PySem.W.Frag} {mg:Str→Option Value} {base:Heap}
theorem Fun.ok {x qual:Str} {st:Stmt} {f:Addr} {fd:FuncData} {N ps:List Str} {k:Nat} {sp:Sp} (F:Fun K x qual st f fd) (S:FnScope N ps (jD st)) (len:∀vs H Q E,sp vs H Q E→vs.length=ps.length)
  (hbody:∀(cdv:Value) (A:Around) (outer:List Env) (s:Shared) (H:Hp) (vs:List V) (Q:VK) (E:XK),Room k (A.deeper (envOfC qual (jD st) s.heap.objs.size f cdv))→sp vs H Q E→
   ∃t,PSs (vF jQ P w K mg base N qual (jD st) f cdv A outer s H E).nox (jP st) t∧t {nx:=fun _ H'=>Q .non H',rt:=Q} (start N vs) H):FnOk P w K mg base jQ (k+1) f fd ps sp:=by
 obtain ⟨oc,od,kV,doc,pm,an,cdv,ct,osl,rfl,lk,hcd⟩:=F.ex
 refine iN lk hcd S len fun A outer s H vs Q E hr hsp=>?_
 obtain ⟨t,h,q⟩:=hbody cdv A outer s H vs Q E hr hsp
 exact ⟨t,h.nox,q⟩
theorem Fun.binds {x qual:Str} {st:Stmt} {f:Addr} {fd:FuncData} {ps:List Str} (F:Fun K x qual st f fd)
  (h:∀(kV doc pm:Value) (an:Option Addr) (cdv ct:Value) (us:List Value),us.length=ps.length→bindArgs (PySem.W.fnOf x qual (jR st) (jP st) (jD st) .none kV doc pm an cdv ct) ⟨us,[]⟩=pure (ps.zip us)):Binds K fd ps []:=by
 obtain ⟨oc,od,kV,doc,pm,an,cdv,ct,osl,rfl,lk,hcd⟩:=F.ex
 exact .all (h kV doc pm an cdv ct)
theorem jW {x qual:Str} {st:Stmt} {f:Addr} {oc:Value} {od an:Option Addr} {osl:Array (Option Value)} {kV doc pm cdv ct:Value} (l:K.lookup f=some ⟨oc,od,.func (PySem.W.fnOf x qual (jR st) (jP st) (jD st) .none kV doc pm an cdv ct),osl⟩)
  (c:PySem.W.codeIn K cdv qual=true) (k:PySem.W.keepIn K (.ref f)=true):Fun K x qual st f (PySem.W.fnOf x qual (jR st) (jP st) (jD st) .none kV doc pm an cdv ct):=⟨⟨oc,od,kV,doc,pm,an,cdv,ct,osl,rfl,l,c⟩,k⟩
end
theorem jV {A:Around} {k:Nat} (hr:Room k A):A.units+1<cLine:=Nat.lt_of_le_of_lt (Nat.add_le_add_left (by decide:1≤64) _) hr.units
theorem qQ {n:Nat} (h:n≤1000):n<sizeLine:=Nat.lt_of_le_of_lt h (by decide)
section
variable {X:Cx}
theorem pv (i:Nat) {x:Str} {pos:Pos} (hN:X.N[i]?=some x:=by rfl) (hv:fA X.env.scope x:=by first|exact Or.inl rfl|exact Or.inr (Or.inl rfl)|exact Or.inr (Or.inr rfl)) (hd:(x == ("__debug__":Str))=false:=by decide)
  (hcd:(x == ("__classdict__":Str))=false:=by decide):PE X (.Name x pos) (rS i):=EE hN hv hd hcd
end
theorem q8 {A B:Prop} (h:B):if false=true then A else B:=by
 rw [if_neg Bool.false_ne_true]
 exact h
theorem kI {A B:Prop} (h:A):if true=true then A else B:=by
 rw [if_pos rfl]
 exact h
theorem eU {c A B:Prop} [Decidable c] (h1:c→A) (h2:¬c→B):if c then A else B:=by
 by_cases h:c
 ·rw [if_pos h]
  exact h1 h
 ·rw [if_neg h]
  exact h2 h
theorem z3 {c A B:Prop} [Decidable c] (hc:c) (h:B):if (!decide c)=true then A else B:=by
 rw [decide_eq_true hc]
 exact q8 h
def Same (H H':Hp):Prop:=∀b o,H b=some o→H' b=some o
theorem Same.refl (H:Hp):Same H H:=fun _ _ h=>h
theorem Same.trans {H H1 H2:Hp} (a:Same H H1) (b:Same H1 H2):Same H H2:=fun c o h=>b c o (a c o h)
theorem Same.free {H H':Hp} (e:Same H H') {l:Addr} (h:H' l=Option.none):H l=Option.none:=by
 cases q:H l with
 |none=>rfl
 |some o =>
  rw [e l o q] at h
  cases h
theorem Same.seq {K:PySem.W.Frag} {H H':Hp} {a:Addr} {xs:List V} (e:Same H H') (h:SqL K H a xs):SqL K H' a xs:=by
 rcases h with (h|⟨o,h⟩)|h
 ·exact .inl (.inl (e _ _ h))
 ·exact .inl (.inr ⟨o,e _ _ h⟩)
 ·exact .inr h
end L2
namespace L2
open PySem PySem.Spec PyProof.Rows
def vC (cells:List (Str×Addr)):List (Str×NameKind)→List (Str×Addr)→List (Str×Addr)
 |[],cs=>cs
 | (n,k)::r,cs=>if (k == NameKind.free)=true then vC cells r ((n,(cells.lookup n).getD 0)::cs) else vC cells r cs
theorem lL {scope:Scope} {env:Env} (h:∀x∈scope.names,x.2=.free→∃c,env.cells.lookup x.1=some c):closureFor scope env=pure (vC env.cells scope.names []):=by
 simp only [closureFor]
 have go:∀(l:List (Str×NameKind)) (cs:List (Str×Addr)),(∀x∈l,x.2=.free→∃c,env.cells.lookup x.1=some c)→
   (forIn l cs fun x r=>match x with|(name,kind)=>if (kind == NameKind.free)=true then do let a ← cellOf env name;pure (ForInStep.yield ((name,a)::r)) else pure (ForInStep.yield r):Sem (List (Str×Addr)))=pure (vC env.cells l cs):=by
  intro l
  induction l with
  |nil=>intro cs _;rfl
  |cons p r ih =>
   intro cs hp
   obtain ⟨n,k⟩:=p
   rw [List.forIn_cons]
   have hr:=fun cs=>ih cs fun x hx=>hp x (List.mem_cons_of_mem _ hx)
   by_cases hk:(k == NameKind.free)=true
   ·have hk':k=NameKind.free:=by simpa using hk
    obtain ⟨c,hc⟩:=hp (n,k) List.mem_cons_self hk'
    have hc':env.cells.lookup n=some c:=hc
    simp only [hk,if_true,vC,cellOf,hc',Option.getD_some,pure_bind]
    exact hr _
   ·simp only [hk,if_false,vC,pure_bind]
    exact hr _
 rw [go scope.names [] h]
 rfl
theorem dU {cells:List (Str×Addr)}:∀{l:List (Str×NameKind)} {cs:List (Str×Addr)} {x:Str} {c:Addr},(∀y∈l,y.2=.free→∃c,cells.lookup y.1=some c)→(∀y d,cs.lookup y=some d→cells.lookup y=some d)→
  (vC cells l cs).lookup x=some c→cells.lookup x=some c
 |[],cs,x,c,_,hc,e=>hc x c e
 | (n,k)::r,cs,x,c,hl,hc,e=>by
  unfold vC at e
  by_cases hk:(k == NameKind.free)=true
  ·rw [if_pos hk] at e
   obtain ⟨d,hd⟩:=hl (n,k) List.mem_cons_self (by simpa using hk)
   have hd':cells.lookup n=some d:=hd
   refine dU (fun y hy=>hl y (List.mem_cons_of_mem _ hy)) (fun y d' q=>?_) e
   rw [List.lookup_cons] at q
   by_cases hy:(y == n)=true
   ·rw [hy] at q
    have hyn:y=n:=by simpa using hy
    subst hyn
    rw [hd'] at q ⊢
    exact q
   ·rw [Bool.not_eq_true] at hy
    rw [hy] at q
    exact hc y d' q
  ·rw [if_neg hk] at e
   exact dU (fun y hy=>hl y (List.mem_cons_of_mem _ hy)) hc e
theorem fS {cells:List (Str×Addr)}:∀{l:List (Str×NameKind)} {cs:List (Str×Addr)} {x:Str},(∃c,cs.lookup x=some c)→∃c,(vC cells l cs).lookup x=some c
 |[],_,_,h=>h
 | (n,k)::r,cs,x,h=>by
  unfold vC
  by_cases hk:(k == NameKind.free)=true
  ·rw [if_pos hk]
   refine fS ?_
   rw [List.lookup_cons]
   by_cases hy:(x == n)=true
   ·rw [hy];exact ⟨_,rfl⟩
   ·rw [Bool.not_eq_true] at hy
    rw [hy];exact h
  ·rw [if_neg hk];exact fS h
theorem dZ {cells:List (Str×Addr)}:∀{l:List (Str×NameKind)} {cs:List (Str×Addr)} {x:Str},(x,NameKind.free)∈l→∃c,(vC cells l cs).lookup x=some c
 | (n,k)::r,cs,x,h=>by
  unfold vC
  rcases List.mem_cons.mp h with e|e
  ·cases e
   rw [if_pos (by rfl)]
   exact fS (by rw [List.lookup_cons,beq_self_eq_true];exact ⟨_,rfl⟩)
  ·by_cases hk:(k == NameKind.free)=true
   ·rw [if_pos hk];exact dZ e
   ·rw [if_neg hk];exact dZ e
theorem BP {prog:Program} {w:World} {A:Around} {elt target iter:Expr} {ifs:List Expr} {scope:Scope} {pos:Pos} {it acc:Value} {env:Env} {R:Result→Shared→Prop} {s:Shared} (I:Nat→Shared→Prop)
  (turn:∀n s,I n s→wpAny (model prog w) A (pyNext it) (fun r s₁=>match r with
   |none=>R (.ok .next) s₁
   |some v=>wpAny (model prog w) A (letOwnedTupleGo target it v) (fun _ s₁'=>wpAny (model prog w) A (assign target env v) (fun _ s₂ =>
     wpAny (model prog w) A (forIn ifs true fun c r=>if r=true then do let ok ← isTrue c env (eval c env);pure (ForInStep.yield ok) else pure (ForInStep.yield r)) (fun ok s₃ =>
      if ok=true then wpAny (model prog w) A (eval elt env) (fun x s₄ =>
       wpAny (model prog w) A (call (.builtin "list.append") [acc,x]) (fun _ s₅=>∃m,m<n∧I m s₅) (fun _ _=>False) s₄) (fun _ _=>False) s₃
      else ∃m,m<n∧I m s₃) (fun _ _=>False) s₂) (fun _ _=>False) s₁') (fun _ _=>False) s₁) (fun _ _=>False) s)
  (n:Nat) (h:I n s):codeAny (model prog w) A (.compLoop (.ListComp elt [⟨target,iter,ifs,0⟩] scope pos) 0 it acc env) R s:=by
 refine codeAny_loop rfl I (fun n s hI=>?_) n h
 show wpAny _ A ((compTurn (.ListComp elt [⟨target,iter,ifs,0⟩] scope pos) 0 it acc env).onRaise (fun x=>do noteFrame x env;theTreesLotGoes x)) _ _ s
 refine wpAny_noted ?_
 rw [compTurn_list]
 refine wpAny_bind (wpAny_standAt (wpAny_bind (wpAny_mono (turn n s hI) (fun r s₁ h₁=>?_) fun _ _ h'=>h'.elim)))
 cases r with
 |none=>exact wpAny_pure h₁
 |some v =>
  refine wpAny_bind (wpAny_mono h₁ (fun _ s₁' h₁'=>?_) fun _ _ h'=>h'.elim)
  refine wpAny_bind (wpAny_mono h₁' (fun _ s₂ h₂=>wpAny_bind (wpAny_mono h₂ (fun ok s₃ h₃=>?_) fun _ _ h'=>h'.elim)) fun _ _ h'=>h'.elim)
  cases ok with
  |false=>exact wpAny_pure ⟨rfl,h₃⟩
  |true =>
   exact wpAny_bind (wpAny_bind (wpAny_mono h₃ (fun x s₄ h₄=>wpAny_bind (wpAny_mono h₄ (fun _ s₅ h₅=>wpAny_pure (wpAny_pure ⟨rfl,h₅⟩)) fun _ _ h'=>h'.elim)) fun _ _ h'=>h'.elim))
def qV (X:Cx) (N:List Str) (scope:Scope) (C:Addr) (s:Shared) (H:Hp) (pins:List (Addr×Obj)) (fp:List Addr):Cx where
 prog:=X.prog
 w:=X.w
 K:=X.K
 mg:=X.mg
 base:=X.base
 A:=X.A
 N:=N
 s₀:=s
 H₀:=H
 env:=compEnvC scope (vC X.env.cells scope.names []) C X.env
 outer:=X.stack
 stack:=X.stack
 ex:=fp
 fn:=fun _=>false
 calm:=X.calm
 pn:=X.pn++pins
 xe:=fun _ _=>False
structure CompScope (X:Cx) (scope:Scope):Prop where
 kind:scope.kind=.function
 nocell:∀y∈scope.names,y.2≠.cell
 names:∀y∈scope.names,y.2=.local→scope.names.lookup y.1=some .local
 free:∀y∈scope.names,y.2=.free→X.env.kindOf y.1=some .cell∨X.env.kindOf y.1=some .free
theorem fJ {env:Env} {x:Str}:∀{names:List (Str×NameKind)} {k:NameKind},(names.map fun (n,k)=>if (k == NameKind.free&&env.scope.kind == .function&&env.kindOf n == some .cell) then (n,NameKind.cell) else (n,k)).lookup x=some k→
  ∃k',names.lookup x=some k'∧(k'=k∨(k'=.free∧k=.cell∧env.kindOf x=some .cell))
 |[],k,h=>by simp at h
 | (n,k0)::r,k,h=>by
  have ih:=@fJ env x r k
  have h':List.lookup x ((if (k0 == NameKind.free&&env.scope.kind == .function&&env.kindOf n == some .cell)=true then (n,NameKind.cell) else (n,k0))::r.map fun (n,k)=>if (k == NameKind.free&&env.scope.kind == .function&&env.kindOf n == some .cell)=true then (n,NameKind.cell) else (n,k))=some k:=h
  by_cases hc:(k0 == NameKind.free&&env.scope.kind == .function&&env.kindOf n == some .cell)=true
  ·rw [if_pos hc] at h'
   rw [List.lookup_cons] at h'
   cases hx:x == n with
   |true =>
    rw [hx] at h'
    have hk:NameKind.cell=k:=Option.some.inj h'
    simp only [Bool.and_eq_true,beq_iff_eq] at hc
    have hxn:x=n:=by simpa using hx
    refine ⟨k0,by rw [List.lookup_cons,hx],.inr ⟨hc.1.1,hk.symm,by rw [hxn];exact hc.2⟩⟩
   |false =>
    rw [hx] at h'
    obtain ⟨k',e1,e2⟩:=ih h'
    exact ⟨k',by rw [List.lookup_cons,hx];exact e1,e2⟩
  ·rw [if_neg hc] at h'
   rw [List.lookup_cons] at h'
   cases hx:x == n with
   |true =>
    rw [hx] at h'
    exact ⟨k0,by rw [List.lookup_cons,hx],.inl (Option.some.inj h')⟩
   |false =>
    rw [hx] at h'
    obtain ⟨k',e1,e2⟩:=ih h'
    exact ⟨k',by rw [List.lookup_cons,hx];exact e1,e2⟩
theorem fP {α:Type}:∀{l:List (Str×α)} {x:Str} {k:α},l.lookup x=some k→(x,k)∈l
 |[],_,_,h=>by simp at h
 | (n,a)::r,x,k,h=>by
  rw [List.lookup_cons] at h
  cases hx:x == n with
  |true =>
   rw [hx] at h
   have e:a=k:=Option.some.inj h
   have hxn:x=n:=by simpa using hx
   subst e;subst hxn
   exact List.mem_cons_self
  |false =>
   rw [hx] at h
   exact List.mem_cons_of_mem _ (fP h)
def dC (X:Cx) (ifs:List Expr) (t:TT):Prop :=
 ∀(pins:List (Addr×Obj)) (s:Shared) (σ:St) (H:Hp) (Q:Bool→Hp→Prop),Inv X pins σ H s→t σ H Q→
  wpAny (model X.prog X.w) X.A (forIn ifs true fun c r=>if r=true then do let ok ← isTrue c X.env (eval c X.env);pure (ForInStep.yield ok) else pure (ForInStep.yield r)) (TP X pins σ Q) X.xe s
def rR:TT:=fun _ H Q=>Q true H
theorem qR {X:Cx}:dC X [] rR:=fun _ _ _ H _ I h=>wpAny_tests_nil ⟨H,I,h⟩
theorem ZW {X:Cx} {c:Expr} {t:TT} (hc:PT X c t):dC X [c] t:=fun pins s σ H Q I h=>wpAny_tests_one (hc pins s σ H Q I h)
def yP (D:Addr) (J:It) (g:TG) (tc:TT) (te:TE) (σ₀:St) (H:Hp) (Q:Hp→Prop):Prop :=
 ∃W:Nat→Nat→St→Hp→Prop,(∃m,W 0 m σ₀ (upd H D (.lst [])))∧∀i m σ' H',W i m σ' H'→
  (J.stop i H'∧Q H')∨(J.go i H'∧∃N:St→Hp→Prop,(∀σ'' H'',N σ'' H''→∃m',m'<m∧W (i+1) m' σ'' H'')∧∀x H2,J.yld i H' x H2→g x σ' H2 fun σ2 H3=>tc σ2 H3 fun b H4 =>
   if b=true then te σ2 H4 fun v H5=>∃xs,H5 D=some (.lst xs)∧xs.length<sizeLine∧N σ2 (upd H5 D (.lst (xs++[v]))) else N σ2 H4)
def E8 (wi:TI) (cap:St→St) (g:TG) (tc:TT) (te:TE):TE:=fun σ H Q=>wi σ H fun J H1=>∀D,H1 D=none→yP D J g tc te (cap σ) H1 fun H'=>Q (.ref D) H'
def BX (i:Nat) (wi:TI) (cap:St→St) (g:TG) (tc:TT) (te:TE):TS:=fun D σ H=>wi σ H fun J H1=>∀d,H1 d=none→yP d J g tc te (cap σ) H1 fun H'=>D.nx (σ.set i (some (.ref d))) H'
def cY (X:Cx) (N:List Str) (scope:Scope) (cap:St→St):Prop :=
 ∀σ:St,σ.length=X.N.length→(cap σ).length=N.length∧∀(i:Nat) (x:Str) (v:V),N[i]?=some x→(cap σ)[i]?=some (some v)→scope.names.lookup x=some .free∧∃j:Nat,X.N[j]?=some x∧σ[j]?=some (some v)
def kP (n:Nat) (js:List Nat):St→St:=fun σ=>List.replicate n none++js.map fun j=>(σ[j]?).join
theorem qA {X:Cx} {N:List Str} {scope:Scope} (n:Nat) (js:List Nat) (h1:N.length=n+js.length) (h2:js.map (fun j=>X.N[j]?)=(N.drop n).map some) (h3:∀x∈N.drop n,scope.names.lookup x=some .free):cY X N scope (kP n js):=by
 intro σ hσ
 refine ⟨by unfold kP;rw [List.length_append,List.length_replicate,List.length_map,h1],fun i x v e1 e2=>?_⟩
 unfold kP at e2
 by_cases hi:i<n
 ·rw [List.getElem?_append_left (by simpa using hi),List.getElem?_replicate,if_pos hi] at e2
  cases e2
 ·rw [List.getElem?_append_right (by simpa using hi),List.length_replicate,List.getElem?_map] at e2
  cases hj:js[i - n]? with
  |none=>rw [hj] at e2;cases e2
  |some j =>
   rw [hj] at e2
   have e3:(σ[j]?).join=some v:=Option.some.inj e2
   have e4:σ[j]?=some (some v):=by
    cases q:σ[j]? with
    |none=>rw [q] at e3;cases e3
    |some o =>
     rw [q] at e3
     have e5:o=some v:=e3
     rw [e5]
   have hd:(N.drop n)[i - n]?=some x:=by
    rw [List.getElem?_drop,show n+(i - n)=i by omega]
    exact e1
   have e5:=congrArg (fun l=>l[i - n]?) h2
   simp only [List.getElem?_map,hj,hd,Option.map_some] at e5
   exact ⟨h3 x (List.mem_of_getElem? hd),j,Option.some.inj e5,e4⟩
theorem kZ {X:Cx} {scope:Scope} (sc:Scope) (hsc:X.env.scope=sc) (kind:scope.kind=.function) (nocell:∀y∈scope.names,y.2≠.cell) (names:∀y∈scope.names,y.2=.local→scope.names.lookup y.1=some .local)
  (free:∀y∈scope.names,y.2=.free→sc.names.lookup y.1=some .cell∨sc.names.lookup y.1=some .free):CompScope X scope:=⟨kind,nocell,names,fun y hy hf=>by
 subst hsc
 exact free y hy hf⟩
section
variable {X:Cx} {N:List Str} {scope:Scope} {pins:List (Addr×Obj)} {σ:St} {H:Hp} {s:Shared} {fp:List Addr}
theorem dX (S:CompScope X scope) (I:Inv X pins σ H s):∀y∈scope.names,y.2=.free→∃c,X.env.cells.lookup y.1=some c:=fun y hy hf=>I.ok.has y.1 (S.free y hy hf)
theorem CO {cap:St→St} {D C:Addr} {h₁:Heap} {t':Nat} {m:Str→Option Value} (S:CompScope X scope) (I:Inv X pins σ H s) (hcap:cY X N scope cap) (hf:∀b∈fp,yD X pins H b) (hfo:∀b∈fp,∃o,s.heap.get? b=some o)
  (hD:s.heap.objs.size≤D) (hC:s.heap.objs.size≤C) (hDC:D≠C) (old:∀b o,s.heap.get? b=some o→h₁.get? b=some o) (hns:h₁.Ns C m) (hl:h₁.get? D=some {cls:=.type "list",data:=.seq ([]:List Value).toArray}) :
  Inv (qV X N scope C s H pins fp) [] (cap σ) (upd H D (.lst [])) {s with heap:=h₁,toks:=t'}:=by
 have cellsOk:=dX S I
 have look:∀x c,(vC X.env.cells scope.names []).lookup x=some c→X.env.cells.lookup x=some c:=fun x c e=>dU cellsOk (fun y d q=>by simp at q) e
 have lt:∀{b:Addr} {o:Obj},s.heap.get? b=some o→b<s.heap.objs.size:=fun e=>Heap.lt_size e
 have cellLt:∀x c,X.env.cells.lookup x=some c→c<s.heap.objs.size:=fun x c e=>by
  obtain ⟨v,o,ho,_⟩:=I.cell x c e
  exact lt ho
 have nD:H D=none:=I.hok.fresh hD
 have nC:H C=none:=I.hok.fresh hC
 have stkNe:∀b:Addr,b≠X.env.locals→b∉X.fs→b∉kE X.stack:=fun b h1 h2 z=>by
  rcases List.mem_cons.mp (I.stkSub b z) with e|e
  ·exact h1 e
  ·exact h2 e
 refine ⟨⟨I.ok.mod,S.kind,I.ok.glob,I.ok.blt,hC,fun x y c h1 h2=>I.ok.inj x y c (look x c h1) (look y c h2),fun x hx=>?_,fun x c hfn _=>(nomatch hfn),I.ok.hd,I.ok.frames,.inl rfl,fun b hb=>⟨?_,fun x c e=>(hf b hb).2.2.2.2.1 x c (look x c e)⟩,
   I.bs,Nat.le_trans I.ok.bsz I.sz,fun b o e hb=>?_,fun b hb=>stkNe b (hf b hb).2.1 (hf b hb).2.2.1,I.stack,I.stkFree⟩,
  rfl,I.bare,Un.laid old hD nD,⟨m,hns,fun i x v h1 h2 h3=>?_⟩,fun x c e=>?_,?_,fun x c e=>?_,fun p hp=>?_,?_,(hcap σ I.len).1⟩
 ·-- has
  have hx':∃k,(relabel scope X.env).names.lookup x=some k∧(k=.cell∨k=.free):=by
   rcases hx with e|e
   ·exact ⟨_,e,.inl rfl⟩
   ·exact ⟨_,e,.inr rfl⟩
  obtain ⟨k,e,hk⟩:=hx'
  obtain ⟨k',e1,e2⟩:=fJ e
  have hm:=fP e1
  have hfree:k'=.free:=by
   rcases e2 with e2|e2
   ·subst e2
    rcases hk with hk|hk
    ·subst hk
     exact absurd rfl (S.nocell _ hm)
    ·exact hk
   ·exact e2.1
  subst hfree
  exact dZ hm
 ·obtain ⟨o,ho⟩:=hfo b hb
  exact Nat.ne_of_lt (Nat.lt_of_lt_of_le (lt ho) hC)
 ·rcases (hf b hb).2.2.2.1 with z|z
  ·exact I.ok.noex b o e z
  ·exact absurd (Nat.lt_of_lt_of_le (Heap.lt_size e) (Nat.le_trans I.ok.bsz z)) (Nat.lt_irrefl _)
 ·-- names
  obtain ⟨hfr,j,hj,hv⟩:=(hcap σ I.len).2 i x v h1 h2
  have hm:=fP hfr
  have hk:=S.free _ hm rfl
  obtain ⟨m0,_,hl0⟩:=I.loc
  have vis:fA X.env.scope x:=by
   rcases hk with k|k
   ·exact .inr (.inl k)
   ·exact .inr (.inr k)
  obtain ⟨u,r,l⟩:=hl0 j x v hj hv vis
  refine ⟨u,r,.inr ⟨?_,?_⟩⟩
  ·have hvis:∃k,(relabel scope X.env).names.lookup x=some k:=by
    rcases h3 with e|e|e<;>exact ⟨_,e⟩
   obtain ⟨k,e⟩:=hvis
   obtain ⟨k',e1,e2⟩:=fJ e
   rw [hfr] at e1
   cases e1
   rcases e2 with e2|e2
   ·subst e2;exact .inr e
   ·rw [e2.2.1] at e;exact .inl e
  ·rcases l with ⟨k,_⟩|⟨_,c,hc,hcell⟩
   ·exfalso
    rcases hk with q|q
    ·have q':X.env.kindOf x=some .cell:=q
     rw [k] at q';cases q'
    ·have q':X.env.kindOf x=some .free:=q
     rw [k] at q';cases q'
   ·obtain ⟨c',e'⟩:=dZ (cells:=X.env.cells) (cs:=[]) hm
    have e2:=look x c' e'
    have e2':X.env.cells.lookup x=some c':=e2
    rw [hc] at e2'
    cases e2'
    obtain ⟨o,ho,hd⟩:=hcell
    exact ⟨c,e',o,old _ _ ho,hd⟩
 ·obtain ⟨v,o,ho,hd⟩:=I.cell x c (look x c e)
  exact ⟨v,o,old _ _ ho,hd⟩
 ·show upd H D (.lst []) C=none
  rw [j6 (Ne.symm hDC)]
  exact nC
 ·have hc:=look x c e
  rw [j6 (Nat.ne_of_lt (Nat.lt_of_lt_of_le (cellLt x c hc) hD))]
  exact I.freeC x c hc
 ·have hp':p∈X.pn++pins:=by
   rcases List.mem_append.mp hp with z|z
   ·exact z
   ·cases z
  obtain ⟨e,n,ne,nf,d⟩:=I.pin p hp'
  refine ⟨old _ _ e,?_,Nat.ne_of_lt (Nat.lt_of_lt_of_le (lt e) hC),stkNe p.1 ne nf,d⟩
  rw [j6 (Nat.ne_of_lt (Nat.lt_of_lt_of_le (lt e) hD))]
  exact n
 ·refine I.hok.laid old hD ?_
  exact ⟨Nat.zero_le _,[],0,.nil,hl⟩
theorem nI {σ':St} {H':Hp} {s':Shared} {C:Addr} {σc:St} {Nc:List Str} (I:Inv X pins σ H s) (hf:∀b∈fp,yD X pins H b) (J:Inv (qV X Nc scope C s H pins fp) [] σc H' s'):Inv X pins σ H' s':=by
 refine I.call' (ch:=fp) J.os J.base J.hok J.bare fun b hb=>?_
 obtain ⟨_,h2,_,h4,h5,h6⟩:=hf b hb
 exact ⟨h4,h2,h5,h6⟩
theorem oU {σ':St} {H':Hp} {s':Shared} {C:Addr} {h':Heap} (I:Inv X pins σ H s) (hC:s.heap.objs.size≤C) (J:Inv X pins σ' H' s') (hn:H' C=none) (sb:Heap.SameBut C s'.heap h'):Inv X pins σ' H' {s' with heap:=h'}:=by
 refine J.turned (t':=s'.toks) (it:=C) (fun b o hb e=>(sb.2 b hb).trans e) hn (Nat.ne_of_gt (Nat.lt_of_lt_of_le I.lt hC)) (.inr (Nat.le_trans I.sz hC)) (fun x c e z=>?_) fun p hp z=>?_
 ·obtain ⟨v,q⟩:=I.cell x c e
  exact absurd (Nat.lt_of_lt_of_le q.lt (by rw [z];exact hC)) (Nat.lt_irrefl _)
 ·exact absurd (Nat.lt_of_lt_of_le (Heap.lt_size (I.pin p hp).1) (by rw [z];exact hC)) (Nat.lt_irrefl _)
theorem oS {tg iter elt:Expr} {ifs:List Expr} {pos:Pos} {cap:St→St} {g:TG} {tc:TT} {te:TE} {J:It} {it:Addr} {tn:Nat→Heap→Prop} {Q:Addr→Hp→Prop} {RR:Value→Addr→Result→Shared→Prop}
  (hcalm:X.calm=true) (S:CompScope X scope) (hcap:cY X N scope cap) (I:Inv X pins σ H s) (T:Turn X.prog X.w X.K tg J fp it tn) (st:tn 0 s.heap) (hf:∀b∈fp,yD X pins H b)
  (hg:∀C,PG (qV X N scope C s H pins fp) tg g) (hc:∀C,dC (qV X N scope C s H pins fp) ifs tc) (he:∀C,PE (qV X N scope C s H pins fp) elt te)
  (hq:∀D,H D=none→yP D J g tc te (cap σ) H (Q D))
  (hRR:∀D C σc H' s',s.heap.objs.size≤C→Inv (qV X N scope C s H pins fp) [] σc H' s'→Q D H'→RR (.ref D) C (.ok .next) s') :
  wpAny (model X.prog X.w) X.A (newList []) (fun acc s₃=>wpAny (model X.prog X.w) X.A (newFunctionEnv scope X.env.globals (vC X.env.cells scope.names []) [] X.env.qual none .none (some X.env)) (fun cenv s₄ =>
   codeAny (model X.prog X.w) X.A (.compStart (.ListComp elt [⟨tg,iter,ifs,0⟩] scope pos) 0 (.ref it) acc {cenv with scope:=relabel scope X.env}) (RR acc cenv.locals) s₄) X.xe s₃) X.xe s:=by
 refine wpAny_newObj_type (wpAny_newFunctionEnv S.nocell (by intro y hy;simp at hy) (fun h₁ hns₁ hsb₁=>?_) S.kind)
 dsimp only at hns₁ hsb₁ ⊢
 generalize hH2:s.heap.push {cls:=.type "list",dict:=none,data:=.seq ([]:List Value).toArray}=H2 at hns₁ hsb₁ ⊢
 have hC:H2.objs.size=s.heap.objs.size+1:=by rw [← hH2,Heap.size_push]
 have hDC:s.heap.objs.size≠H2.objs.size:=by rw [hC];exact Nat.ne_of_lt (Nat.lt_succ_self _)
 have hCle:s.heap.objs.size≤H2.objs.size:=by rw [hC];exact Nat.le_succ _
 have below:∀b,b<s.heap.objs.size→b≠H2.objs.size:=fun b hb=>by rw [hC];exact Nat.ne_of_lt (Nat.lt_succ_of_lt hb)
 have old:∀b o,s.heap.get? b=some o→h₁.get? b=some o:=fun b o e=>hsb₁.extBut b o (below b (Heap.lt_size e)) (Heap.get?_push_of_some _ (hH2▸Heap.get?_push_of_some _ e))
 have hacc:h₁.get? s.heap.objs.size=some {cls:=.type "list",data:=.seq ([]:List Value).toArray}:=hsb₁.extBut _ _ hDC (Heap.get?_push_of_some _ (hH2▸Heap.get?_push_size _ rfl))
 have obj0:=T.obj 0 s.heap st
 have I1:∀t',Inv (qV X N scope H2.objs.size s H pins fp) [] (cap σ) (upd H s.heap.objs.size (.lst [])) {s with heap:=h₁,toks:=t'}:=fun t' =>
  CO S I hcap hf (fun b hb=>let ⟨o,e,_⟩:=obj0 b hb;⟨o,e⟩) (Nat.le_refl _) hCle hDC old hns₁ hacc
 have st1:tn 0 h₁:=T.keep 0 s.heap h₁ st fun b _ o e=>old b o e
 have stat:∀{H':Hp},(∀b∈fp,H' b=none)→∀b∈fp,yD (qV X N scope H2.objs.size s H pins fp) [] H' b:=fun hn b hb=>by
  obtain ⟨_,h2,h3,h4,h5,h6⟩:=hf b hb
  obtain ⟨o,ho,_⟩:=obj0 b hb
  refine ⟨hn b hb,below b (Heap.lt_size ho),?_,.inl hb,fun x c e=>h5 x c (dU (dX S I) (fun y d q=>by simp at q) e),fun p hp=>?_⟩
  ·intro z
   rcases List.mem_cons.mp (I.stkSub b z) with e|e
   ·exact h2 e
   ·exact h3 e
  ·rcases List.mem_append.mp hp with z|z
   ·exact h6 p z
   ·cases z
 have fr1:∀b∈fp,upd H s.heap.objs.size (.lst []) b=none:=fun b hb=>by
  obtain ⟨o,ho,_⟩:=obj0 b hb
  rw [j6 (Nat.ne_of_lt (Heap.lt_size ho))]
  exact (hf b hb).1
 obtain ⟨W,⟨m0,w0⟩,turn⟩:=hq s.heap.objs.size (I.hok.fresh (Nat.le_refl _))
 have loop:∀s₃:Shared,s₃={s with heap:=h₁,toks:=s.toks+([]:List (Str×Value)).length}→
   codeAny (model X.prog X.w) X.A (.compLoop (.ListComp elt [⟨tg,iter,ifs,0⟩] scope pos) 0 (.ref it) (.ref s.heap.objs.size) (compEnvC scope (vC X.env.cells scope.names []) H2.objs.size X.env))
    (RR (.ref s.heap.objs.size) H2.objs.size) s₃:=by
  rintro s₃ rfl
  refine BP (fun n s'=>∃i σ' H',Inv (qV X N scope H2.objs.size s H pins fp) [] σ' H' s'∧tn i s'.heap∧(∀b∈fp,H' b=none)∧W i n σ' H') ?_ m0 ⟨0,cap σ,_,I1 _,st1,fr1,w0⟩
  rintro n s3 ⟨i,σ3,H3,I3,st3,fr3,w3⟩
  rcases turn i n σ3 H3 w3 with ⟨stop,qn⟩|⟨go,Nn,hN,step⟩
  ·refine jN (T.done (qV X N scope H2.objs.size s H pins fp) rfl rfl rfl hcalm i [] s3 σ3 H3 (fun _ _=>False) I3 (stat fr3) st3 stop) fun r s4 ⟨hr,I4⟩=>?_
   subst hr
   exact hRR _ _ σ3 H3 s4 hCle I4 qn
  ·refine jN (T.item (qV X N scope H2.objs.size s H pins fp) rfl rfl rfl hcalm i [] s3 σ3 H3 (fun _ _=>False) I3 (stat fr3) st3 go) fun r s4 ⟨u,hr,h4⟩=>?_
   subst hr
   refine jN h4 fun _ s5 ⟨x,H5,I5,r5,y5,st5,fr5⟩=>?_
   have I5':=I5.pinned (stat fr5) (T.obj _ _ st5)
   have again:∀{σ7:St} {H7:Hp} {s7:Shared},Inv (qV X N scope H2.objs.size s H pins fp) ([]++cL fp s5.heap) σ7 H7 s7→Nn σ7 H7→
     ∃m,m<n∧∃i σ' H',Inv (qV X N scope H2.objs.size s H pins fp) [] σ' H' s7∧tn i s7.heap∧(∀b∈fp,H' b=none)∧W i m σ' H':=fun {σ7 H7 s7} I7 n7=>by
    obtain ⟨m',hm,w7⟩:=hN σ7 H7 n7
    refine ⟨m',hm,i+1,σ7,H7,I7.unpinned,T.keep _ _ _ st5 fun b hb o e=>(I7.pin (b,o) (List.mem_append_right _ (List.mem_append_right _ (dW hb e)))).1,fun b hb=>?_,w7⟩
    obtain ⟨o,e,d⟩:=T.obj _ _ st5 b hb
    exact (I7.pin (b,o) (List.mem_append_right _ (List.mem_append_right _ (dW hb e)))).2.1
   refine jN (hg _ _ s5 σ3 H5 x u _ I5' r5 (step x H5 y5)) fun _ s6 ⟨σ6,H6,I6,q6⟩=>?_
   refine jN (hc _ _ s6 σ6 H6 _ I6 q6) fun ok s7 ⟨H7,I7,q7⟩=>?_
   cases ok with
   |false=>exact again I7 q7
   |true =>
    refine jN (he _ _ s7 σ6 H7 _ I7 q7) fun v s8 ⟨y,H8,I8,r8,xs,hD8,hz8,n8⟩=>?_
    refine jN (JU _ s8 σ6 H8 (.ref s.heap.objs.size) [y] (.ref s.heap.objs.size) [v] (fun _ H9=>Nn σ6 H9) I8 rfl (.cons r8 .nil) ⟨_,_,_,rfl,rfl,hD8,hz8,n8⟩) fun _ s9 ⟨_,H9,I9,_,n9⟩=>?_
    exact again I9 n9
 exact codeAny_compStart_list (loop _ rfl) (wpAny_mono (T.self X.A 0 _ (fun v s'=>v=.ref it∧s'=_) (fun _ _=>False) st1 ⟨rfl,rfl⟩) (fun v s' ⟨e1,e2⟩=>by subst e1;subst e2;exact loop _ rfl) fun _ _ z=>z.elim)
theorem vE {tg iter elt:Expr} {ifs:List Expr} {pos:Pos} {wi:TI} {g:TG} {tc:TT} {te:TE} (N:List Str) (cap:St→St) (hcalm:X.calm=true) (S:CompScope X scope) (hcap:cY X N scope cap) (hi:PI X tg iter wi)
  (hg:∀C s H pins fp,PG (qV X N scope C s H pins fp) tg g) (hc:∀C s H pins fp,dC (qV X N scope C s H pins fp) ifs tc) (he:∀C s H pins fp,PE (qV X N scope C s H pins fp) elt te)
  (hs:∀x,foldedSetIterable iter X.env x=pure x:=by intro _;rfl):PE X (.ListComp elt [⟨tg,iter,ifs,0⟩] scope pos) (E8 wi cap g tc te):=by
 intro pins s σ H Q I h
 rw [eval_ListComp]
 refine wpAny_comprehension_free (use:=none) rfl hs (lL (dX S I)) S.kind S.names (jN (hi pins s σ H _ I h) fun v s1 h1=>jN h1 fun itv s2 h2=>?_)
 obtain ⟨it,fp,tn,J,H2,e,I2,T,st2,f2,q2⟩:=h2
 subst e
 refine oS (RR:=fun acc C=>compPost (model X.prog X.w) X.A X.xe none (EP X pins σ Q) acc C) (Q:=fun D H'=>Q (.ref D) H') hcalm S hcap I2 T st2 f2 (fun C=>hg C _ _ _ _) (fun C=>hc C _ _ _ _) (fun C=>he C _ _ _ _) q2 ?_
 intro D C σc H' s' hC Jc q
 obtain ⟨m,hn,_⟩:=Jc.loc
 refine ⟨m,hn,fun h' hs'=>?_⟩
 exact ⟨.ref D,H',oU I2 hC (nI (σ':=σ) I2 f2 Jc) Jc.free hs',rfl,q⟩
theorem zB {tg iter elt:Expr} {ifs:List Expr} {pos spos py:Pos} {i:Nat} {y:Str} {wi:TI} {g:TG} {tc:TT} {te:TE} (N:List Str) (cap:St→St) (hN:X.N.Nodup) (hy:X.N[i]?=some y) (hloc:dF X.env.scope y) (hcalm:X.calm=true) (S:CompScope X scope) (hcap:cY X N scope cap) (hi:PI X tg iter wi)
  (hg:∀C s H pins fp,PG (qV X N scope C s H pins fp) tg g) (hc:∀C s H pins fp,dC (qV X N scope C s H pins fp) ifs tc) (he:∀C s H pins fp,PE (qV X N scope C s H pins fp) elt te)
  (hsw:swapsWith (.ListComp elt [⟨tg,iter,ifs,0⟩] scope pos) (some (.Name y py)) spos.line X.env=pure true:=by rfl)
  (hs:∀x,foldedSetIterable iter X.env x=pure x:=by intro _;rfl) (hfn:X.fn y=true∨X.env.scope.names.lookup y=some .local:=by first|exact .inl rfl|exact .inr rfl|assumption) :
  PS X (.Assign [.Name y py] (.ListComp elt [⟨tg,iter,ifs,0⟩] scope pos) spos) (BX i wi cap g tc te):=by
 intro pins s σ H D I h
 rw [exec_Assign_Name_used _ _ _ _ hsw]
 refine wpAny_bind (wpAny_standAt (wpAny_bind ?_))
 show wpAny _ X.A (do let _ ← comprehension (.ListComp elt [⟨tg,iter,ifs,0⟩] scope pos) scope X.env _ (newList []) false (eval iter X.env) (some (assign (.Name y py) X.env))) _ _ s
 refine wpAny_bind (wpAny_mono (wpAny_comprehension_free (use:=some (assign (.Name y py) X.env)) (Q:=fun _ s'=>SP X pins D .next s') rfl hs (lL (dX S I)) S.kind S.names
  (jN (hi pins s σ H _ I h) fun v s1 h1=>jN h1 fun itv s2 h2=>?_)) (fun _ s' hq=>wpAny_pure (wpAny_pure hq)) fun _ _ e=>e)
 obtain ⟨it,fp,tn,J,H2,e,I2,T,st2,f2,q2⟩:=h2
 subst e
 refine oS (RR:=fun acc C=>compPost (model X.prog X.w) X.A X.xe (some (assign (.Name y py) X.env)) (fun _ s'=>SP X pins D .next s') acc C) (Q:=fun d H'=>D.nx (σ.set i (some (.ref d))) H') hcalm S hcap I2 T st2 f2 (fun C=>hg C _ _ _ _) (fun C=>hc C _ _ _ _) (fun C=>he C _ _ _ _) q2 ?_
 intro d C σc H' s' hC Jc q
 obtain ⟨m,hn,_⟩:=Jc.loc
 have J1:Inv X pins σ H' s':=nI (σ':=σ) I2 f2 Jc
 show wpAny _ X.A (assign (.Name y py) X.env (.ref d)) _ _ _
 refine wpAny_assign_Name (mM (v:=.ref d) J1 hN hy hloc rfl (fun s'' J2 hsb=>?_) hfn)
 obtain ⟨a,sb,ha⟩:=hsb
 have haC:C≠a:=by
  rcases ha with e|e
  ·rw [e];exact Nat.ne_of_gt (Nat.lt_of_lt_of_le I2.lt hC)
  ·obtain ⟨v,q'⟩:=I2.cell y a e
   exact Nat.ne_of_gt (Nat.lt_of_lt_of_le q'.lt hC)
 refine ⟨m,hn.sameBut sb haC,fun h' hs'=>?_⟩
 exact ⟨_,H',oU I2 hC J2 Jc.free hs',q⟩
end
end L2
namespace L2
open PySem PySem.Spec PyProof.Rows
theorem qT {σ:St} {H:Hp} {Q:Bool→Hp→Prop} (h:Q true H):rR σ H Q:=h
theorem ZS {K:PySem.W.Frag} {a D:Addr} {xs:List V} {g:TG} {tc:TT} {te:TE} {σ₀:St} {H:Hp} {Q:Hp→Prop} (Pv:Nat→St→Hp→Prop) (h0:Pv 0 σ₀ (upd H D (.lst []))) (hl:∀i σ H,i≤xs.length→Pv i σ H→SqL K H a xs)
    (hs:∀i x σ H,xs[i]?=some x→Pv i σ H→g x σ H fun σ2 H3=>tc σ2 H3 fun b H4=>if b=true then te σ2 H4 fun v H5=>∃ys,H5 D=some (.lst ys)∧ys.length<sizeLine∧Pv (i+1) σ2 (upd H5 D (.lst (ys++[v]))) else Pv (i+1) σ2 H4)
    (hd:∀σ H,Pv xs.length σ H→Q H):yP D (yZ K a) g tc te σ₀ H Q:=by
  refine ⟨fun i m σ H=>m=xs.length - i∧i≤xs.length∧Pv i σ H,⟨xs.length,by simp,Nat.zero_le _,h0⟩,?_⟩
  rintro i m σ H ⟨rfl,hi,p⟩
  have q:=hl i σ H hi p
  by_cases hlt:i<xs.length
  · refine .inr ⟨⟨xs,xs[i],q,by simp [hlt]⟩,Pv (i+1),fun σ' H' p'=>⟨xs.length - (i+1),by omega,rfl,hlt,p'⟩,fun x H' y=>?_⟩
    obtain ⟨e,y⟩:=y
    subst e
    exact hs i x σ _ (y xs q) p
  · have e:i=xs.length:=by omega
    subst e
    exact .inl ⟨⟨xs,q,Nat.le_refl _⟩,hd σ H p⟩
theorem xN {lo:Int} {n:Nat} {D:Addr} {g:TG} {tc:TT} {te:TE} {σ₀:St} {H:Hp} {Q:Hp→Prop} (Pv:Nat→St→Hp→Prop) (h0:Pv 0 σ₀ (upd H D (.lst [])))
  (hs:∀i σ H,i<n→Pv i σ H→g (.int (lo+i)) σ H fun σ2 H3=>tc σ2 H3 fun b H4=>if b=true then te σ2 H4 fun v H5=>∃ys,H5 D=some (.lst ys)∧ys.length<sizeLine∧Pv (i+1) σ2 (upd H5 D (.lst (ys++[v]))) else Pv (i+1) σ2 H4)
  (hd:∀σ H,Pv n σ H→Q H):yP D (JE lo n) g tc te σ₀ H Q:=by
 refine ⟨fun i m σ H=>m=n - i∧i≤n∧Pv i σ H,⟨n,by simp,Nat.zero_le _,h0⟩,?_⟩
 rintro i m σ H ⟨rfl,hi,p⟩
 by_cases hlt:i<n
 ·refine .inr ⟨hlt,Pv (i+1),fun σ' H' p'=>⟨n - (i+1),by omega,rfl,hlt,p'⟩,fun x H' y=>?_⟩
  obtain ⟨e,y⟩:=y
  subst e y
  exact hs i σ _ hlt p
 ·have e:i=n:=by omega
  subst e
  exact .inl ⟨Nat.le_refl _,hd σ H p⟩
theorem kY {H H':Hp} {D:Addr} {o:HO} (hD:H D=none) (s:Same H H'):Same H (upd H' D o):=fun b u q=>by
 rw [j6 (qJ q hD)]
 exact s b u q
def zK (H:Hp) (D:Addr) (caps:St) (R:Nat→List V→Hp→Prop) (i:Nat) (σ:St) (Hi:Hp):Prop:=∃ys c,σ=c::caps∧Same H Hi∧Hi D=some (.lst ys)∧ys.length≤i∧R i ys Hi
theorem vA {H Hi H5:Hp} {D:Addr} {caps:St} {R:Nat→List V→Hp→Prop} {i:Nat} {ys:List V} {c:Option V} {v:V} (hD:H D=none) (s:Same H Hi) (hY:Hi D=some (.lst ys)) (hl:ys.length≤i) (hi:i≤999) (s5:Same Hi H5)
  (r:R (i+1) (ys++[v]) (upd H5 D (.lst (ys++[v])))):∃zs,H5 D=some (.lst zs)∧zs.length<sizeLine∧zK H D caps R (i+1) (c::caps) (upd H5 D (.lst (zs++[v]))):=by
 refine ⟨ys,s5 _ _ hY,qQ (by omega),ys++[v],c,rfl,kY hD (s.trans s5),jE,?_,r⟩
 rw [List.length_append,List.length_singleton];omega
theorem d0 {H Hi H4:Hp} {D:Addr} {caps:St} {R:Nat→List V→Hp→Prop} {i:Nat} {ys:List V} {c:Option V} (s:Same H Hi) (hY:Hi D=some (.lst ys)) (hl:ys.length≤i) (s4:Same Hi H4) (r:R (i+1) ys H4) :
  zK H D caps R (i+1) (c::caps) H4:=⟨ys,c,rfl,s.trans s4,s4 _ _ hY,by omega,r⟩
theorem JF {K:PySem.W.Frag} {a D:Addr} {xs:List V} {tc:TT} {te:TE} {caps:St} {H:Hp} {Q:Hp→Prop} (R:Nat→List V→Hp→Prop) (hD:H D=none) (hS:SqL K H a xs) (h0:R 0 [] (upd H D (.lst [])))
  (hs:∀i x ys Hi,xs[i]?=some x→i<xs.length→ys.length≤i→Same H Hi→Hi D=some (.lst ys)→R i ys Hi→tc (some x::caps) Hi fun b H4=>if b=true then te (some x::caps) H4 fun v H5=>∃zs,H5 D=some (.lst zs)∧zs.length<sizeLine∧zK H D caps R (i+1) (some x::caps) (upd H5 D (.lst (zs++[v])))
   else zK H D caps R (i+1) (some x::caps) H4)
  (hd:∀ys Hf,Same H Hf→Hf D=some (.lst ys)→ys.length≤xs.length→R xs.length ys Hf→Q Hf):yP D (yZ K a) (eQ 0) tc te (none::caps) H Q:=by
 refine ZS (xs:=xs) (zK H D caps R) ⟨[],none,rfl,kY hD (Same.refl H),jE,Nat.le_refl _,h0⟩ (fun i σ Hi _ ⟨_,_,_,s,_⟩=>s.seq hS) ?_ ?_
 ·rintro i x σ Hi hx ⟨ys,c,rfl,s,hY,hl,r⟩
  exact hs i x ys Hi hx (List.getElem?_eq_some_iff.mp hx).1 hl s hY r
 ·rintro σ Hf ⟨ys,c,rfl,s,hY,hl,r⟩
  exact hd ys Hf s hY hl r
theorem zA {lo:Int} {n:Nat} {D:Addr} {tc:TT} {te:TE} {caps:St} {H:Hp} {Q:Hp→Prop} (R:Nat→List V→Hp→Prop) (hD:H D=none) (h0:R 0 [] (upd H D (.lst [])))
  (hs:∀i ys Hi,i<n→ys.length≤i→Same H Hi→Hi D=some (.lst ys)→R i ys Hi→tc (some (.int (lo+i))::caps) Hi fun b H4=>if b=true then te (some (.int (lo+i))::caps) H4 fun v H5=>∃zs,H5 D=some (.lst zs)∧zs.length<sizeLine∧zK H D caps R (i+1) (some (.int (lo+i))::caps) (upd H5 D (.lst (zs++[v])))
   else zK H D caps R (i+1) (some (.int (lo+i))::caps) H4)
  (hd:∀ys Hf,Same H Hf→Hf D=some (.lst ys)→ys.length≤n→R n ys Hf→Q Hf):yP D (JE lo n) (eQ 0) tc te (none::caps) H Q:=by
 refine xN (zK H D caps R) ⟨[],none,rfl,kY hD (Same.refl H),jE,Nat.le_refl _,h0⟩ ?_ ?_
 ·rintro i σ Hi hi ⟨ys,c,rfl,s,hY,hl,r⟩
  exact hs i ys Hi hi hl s hY r
 ·rintro σ Hf ⟨ys,c,rfl,s,hY,hl,r⟩
  exact hd ys Hf s hY hl r
section
variable {X:Cx}
end
def qI (xs ys:List V):Bool:=(List.range (min xs.length ys.length)).all (fun j=>qN (xs.getD j .non) (ys.getD j .non))&&xs.length == ys.length
theorem CK {x:V} (h:qH x=true):qN x x=true:=by
 cases x with
 |non=>rfl
 |bl b=>show (b == b)=true;simp
 |int i=>show (i == i)=true;simp
 |str z=>show (z == z)=true;simp
 |_=>exact absurd (show false=true from h) Bool.false_ne_true
theorem cA {xs:List V} (h:xs.all qH=true):qI xs xs=true:=by
 unfold qI
 rw [Bool.and_eq_true]
 refine ⟨?_,by simp⟩
 rw [List.all_eq_true]
 intro j hj
 have hj':j<xs.length:=by simpa using hj
 refine CK ?_
 rw [List.getD_eq_getElem?_getD,List.getElem?_eq_getElem hj']
 exact List.all_eq_true.mp h _ (List.getElem_mem hj')
theorem zR {xs:List V} {us:List Value} (r:Vals xs us) {j:Nat} (h:j<us.toArray.size):RelV (xs.getD j .non) us.toArray[j]:=by
 have hj:j<us.length:=by simpa using h
 have hx:j<xs.length:=by rw [r.length];exact hj
 obtain ⟨u,e,q⟩:=r.get (List.getElem?_eq_getElem hx)
 rw [List.getElem?_eq_getElem hj] at e
 have e':=Option.some.inj e
 rw [List.getD_eq_getElem?_getD,List.getElem?_eq_getElem hx]
 show RelV xs[j] us.toArray[j]
 rw [List.getElem_toArray,e']
 exact q
theorem zS {xs:List V} (h:xs.all qH=true) {j:Nat} (hj:j<xs.length):qH (xs.getD j .non)=true:=by
 rw [List.getD_eq_getElem?_getD,List.getElem?_eq_getElem hj]
 exact List.all_eq_true.mp h _ (List.getElem_mem hj)
section
variable {X:Cx}
def rY (K:PySem.W.Frag) (neg:Bool):R2:=fun x y H Q=>∃a b xs ys,x=.ref a∧y=.ref b∧SqT K H a xs∧SqT K H b ys∧xs.all qH=true∧ys.all qH=true∧Q (.bl (if neg then !qI xs ys else qI xs ys)) H
theorem iG (hu:X.A.units<cLine):kU X (compareOp .NotEq) (rY X.K true):=by
 intro pins s σ H x y v u Q I rx ry h
 obtain ⟨a,b,xs,ys,rfl,rfl,ha,hb,fx,fy,q⟩:=h
 cases rx
 cases ry
 obtain ⟨its,r,pl,hz⟩:=I.tuple ha
 obtain ⟨its2,r2,pl2,hz2⟩:=I.tuple hb
 have hl:=r.length
 have hl2:=r2.length
 refine SeqAt.RcNeAt.tuples (e:=fun j=>qN (xs.getD j .non) (ys.getD j .non)) pl pl2 hu (fun j h1 h2=>?_) X.prog X.w X.xe _ ⟨.bl _,H,I,rfl,?_⟩
 ·exact Z5 (zR r h1) (zR r2 h2) (zS fx (by rw [hl];simpa using h1)) (zS fy (by rw [hl2];simpa using h2))
 ·have e:(!((List.range (min its.toArray.size its2.toArray.size)).all (fun j=>qN (xs.getD j .non) (ys.getD j .non))&&its.toArray.size == its2.toArray.size)) = !qI xs ys:=by
   unfold qI
   rw [List.size_toArray,List.size_toArray,← hl,← hl2]
  rw [e]
  exact q
end
end L2
namespace L2
open PySem PySem.Spec PyProof.Rows
section
variable {X:Cx}
end
end L2
namespace L2
open PySem PySem.Spec PyProof.Rows
section
variable {X:Cx} (K:PySem.W.Frag)
theorem eD (h:X.K=K:=by rfl):IxR X (eT K):=by subst h;exact kF
theorem yO (h:X.K=K:=by rfl):IxR X (iR K):=by subst h;exact ix_tup
theorem zE {es:List Expr} {k:Nat} {t:JD} {n:Nat} {pos:Pos} (hc:X.calm=true) (h:dD X es t) (hK:X.K=K:=by rfl)
  (hn:(assignEach es X.env).length=n:=by rfl) (hst:(assignEach es X.env).findIdx? (·.1)=none:=by rfl):PG X (.Tuple es k pos) (r9 K n t):=by subst hK;exact iF hc h hn hst
end
end L2
namespace L2
open PySem PySem.Spec PyProof.Rows
section
variable {X:Cx}
end
end L2
namespace L2
open PySem PySem.Spec PyProof.Rows
section
variable {X:Cx}
def GC (t u:TS):TS:=fun D σ H=>∃P:St→Hp→Prop,t {D with nx:=P} σ H∧∀σ' H',P σ' H'→u D σ' H'
theorem gW {st:Stmt} {rest:List Stmt} {t u:TS} (h1:PS X st t) (h2:PSs X rest u):PSs X (st::rest) (GC t u):=by
 intro pins s σ H D I h
 obtain ⟨P,hP,hu⟩:=h
 refine wpAny_execs_cons (jN (h1 pins s σ H {D with nx:=P} I hP) fun f s1 q=>?_)
 cases f with
 |next =>
  obtain ⟨σ',H',I',q⟩:=q
  exact h2 pins s1 σ' H' D I' (hu σ' H' q)
 |ret v=>exact q
 |brk=>exact q
 |cont=>exact q
theorem EI:kU X (compareOp .Is) (fun x y H Q=>∃c d,x=.bl c∧y=.bl d∧Q (.bl (c == d)) H):=by
 intro pins s σ H x y v u Q I rx ry h
 obtain ⟨c,d,rfl,rfl,q⟩:=h
 cases rx
 cases ry
 exact is_bool ⟨.bl _,H,I,rfl,q⟩
theorem BB:kU X (compareOp .IsNot) (fun x y H Q=>∃c d,x=.bl c∧y=.bl d∧Q (.bl (c != d)) H):=by
 intro pins s σ H x y v u Q I rx ry h
 obtain ⟨c,d,rfl,rfl,q⟩:=h
 cases rx
 cases ry
 exact isnot_bool ⟨.bl _,H,I,rfl,q⟩
end
end L2
namespace L2
open PySem PySem.Spec PyProof.Rows
structure Def (P:Program) (w:World) (K:PySem.W.Frag) (mg:Str→Option Value) (base:Heap) (k:Nat) (x:Str) (ps:List Str) (dvs:List V) (sp:Sp):Prop where
 ex:∃(f:Addr) (fd:FuncData) (ds:List Value),FnOk P w K mg base jQ k f fd ps sp∧mg x=some (.ref f)∧PySem.W.keepIn K (.ref f)=true∧Vals dvs ds∧Binds K fd ps ds
theorem jL {X:Cx} {k k':Nat} {x:Str} {ps:List Str} {dvs:List V} {sp:Sp} {p pos:Pos} {e:Expr} {es:List Expr} {t:TA} (F:Def X.prog X.w X.K X.mg X.base k x ps dvs sp) (hr:Room k' X.A) (hg:Gl X x) (ha:PA X (e::es) t)
  (hk:k≤k':=by decide) (hdb:(x == ("__debug__":Str))=false:=by decide) (he:starEach (e::es) X.env=(false,eval e X.env)::starEach es X.env:=by rfl) (hpl:(backTo pos (starEach es X.env)).any (·.1)=false:=by rfl) :
  PE X (.Call (.Name x p) (e::es) [] pos) (iI sp dvs E0 t):=by
 obtain ⟨f,fd,ds,G,m,kp,hv,b⟩:=F.ex
 exact C9 G (hr.mono hk) hg m kp b hv bA ha hdb he hpl
structure FunD (K:PySem.W.Frag) (x qual:Str) (st:Stmt) (f:Addr) (fd:FuncData) (ds:List Value):Prop where
 ex:∃(oc:Value) (od:Option Addr) (T:Addr) (kV doc pm:Value) (an:Option Addr) (cdv ct:Value) (osl:Array (Option Value)) (oT:Obj) (n:Nat),
  fd=PySem.W.fnOf x qual (jR st) (jP st) (jD st) (.ref T) kV doc pm an cdv ct∧K.lookup f=some ⟨oc,od,.func fd,osl⟩∧PySem.W.codeIn K cdv qual=true∧K.lookup T=some oT∧oT.data=.seq ds.toArray n
 kp:PySem.W.keepIn K (.ref f)=true
section
variable {P:Program} {w:World} {K:PySem.W.Frag} {mg:Str→Option Value} {base:Heap}
theorem FunD.ok {x qual:Str} {st:Stmt} {f:Addr} {fd:FuncData} {ds:List Value} {N ps:List Str} {k:Nat} {sp:Sp} (F:FunD K x qual st f fd ds) (S:FnScope N ps (jD st)) (len:∀vs H Q E,sp vs H Q E→vs.length=ps.length)
  (hbody:∀(cdv:Value) (A:Around) (outer:List Env) (s:Shared) (H:Hp) (vs:List V) (Q:VK) (E:XK),Room k (A.deeper (envOfC qual (jD st) s.heap.objs.size f cdv))→sp vs H Q E→
   ∃t,PSs (vF jQ P w K mg base N qual (jD st) f cdv A outer s H E).nox (jP st) t∧t {nx:=fun _ H'=>Q .non H',rt:=Q} (start N vs) H):FnOk P w K mg base jQ (k+1) f fd ps sp:=by
 obtain ⟨oc,od,T,kV,doc,pm,an,cdv,ct,osl,oT,n,rfl,lk,hcd,_,_⟩:=F.ex
 refine iN lk hcd S len fun A outer s H vs Q E hr hsp=>?_
 obtain ⟨t,h,q⟩:=hbody cdv A outer s H vs Q E hr hsp
 exact ⟨t,h.nox,q⟩
theorem FunD.binds {x qual:Str} {st:Stmt} {f:Addr} {fd:FuncData} {ds:List Value} {ps:List Str} (ds':List Value) (m:Nat) (hm:m+ds'.length=ps.length) (F:FunD K x qual st f fd ds)
  (h:∀(T:Addr) (kV doc pm:Value) (an:Option Addr) (cdv ct:Value) (us:List Value),us.length=m→∃k,bindArgs (PySem.W.fnOf x qual (jR st) (jP st) (jD st) (.ref T) kV doc pm an cdv ct) ⟨us,[]⟩=seqItems? (.ref T) >>= k∧
   k (some ds.toArray)=pure (ps.zip (us++ds'))):Binds K fd ps ds':=by
 obtain ⟨oc,od,T,kV,doc,pm,an,cdv,ct,osl,oT,n,rfl,lk,hcd,lT,dT⟩:=F.ex
 intro s us hK hl
 obtain ⟨k,h1,h2⟩:=h T kV doc pm an cdv ct us (by rw [List.length_append] at hl;omega)
 exact BindsTo.of_defaults rfl (hK _ _ lT) dT h1 h2
theorem DK {x qual:Str} {st:Stmt} {f T:Addr} {oc:Value} {od an:Option Addr} {osl:Array (Option Value)} {kV doc pm cdv ct:Value} {oT:Obj} {n:Nat} {ds:List Value}
  (l:K.lookup f=some ⟨oc,od,.func (PySem.W.fnOf x qual (jR st) (jP st) (jD st) (.ref T) kV doc pm an cdv ct),osl⟩)
  (c:PySem.W.codeIn K cdv qual=true) (k:PySem.W.keepIn K (.ref f)=true) (lT:K.lookup T=some oT) (dT:oT.data=.seq ds.toArray n):FunD K x qual st f (PySem.W.fnOf x qual (jR st) (jP st) (jD st) (.ref T) kV doc pm an cdv ct) ds :=
 ⟨⟨oc,od,T,kV,doc,pm,an,cdv,ct,osl,oT,n,rfl,l,c,lT,dT⟩,k⟩
end
section
variable {X:Cx}
theorem gN:sA X (eT X.K):=by
 intro pins s σ H o i ov iv Q I ro ri h
 obtain ⟨p,xs,k,z,rfl,rfl,hq,he,q⟩:=h
 cases ro
 obtain ⟨t,rfl⟩:=ri
 obtain ⟨its,r,pl,hz⟩:=I.list hq
 obtain ⟨j,h1,h2,h3,h4,h5⟩:=eJ he
 obtain ⟨w,ew,rw'⟩:=r.get h2
 have hl:=r.length
 have hn:=Z1
 have fin:EP X pins σ Q w s:=⟨z,H,I,rw',q⟩
 by_cases h0:0≤k
 ·have hj:k.toNat=j:=by
   rw [seqIndex_of h0 h5] at h1
   exact Option.some.inj h1
  exact wpAny_getItem_list pl.isList h0 (by omega) (by rw [hj];simpa using ew) fin
 ·have hj:(k+(its.toArray.size:Int)).toNat=j:=by
   rw [seqIndex_neg (by omega) h4] at h1
   rw [List.size_toArray,← hl]
   exact Option.some.inj h1
  exact wpAny_getItem_list_neg pl.isList (by omega) (by rw [List.size_toArray]<;>omega) (by omega) (by rw [hj];simpa using ew) fin
end
end L2
namespace L2
open PySem
theorem J8 {c A B:Prop} [Decidable c] (hc:¬c) (h:A):if (!decide c)=true then A else B:=by
 rw [decide_eq_false hc]
 exact kI h
theorem kM {c A B:Prop} [Decidable c] (hc:¬c) (h:B):if decide c=true then A else B:=by
 rw [decide_eq_false hc]
 exact q8 h
theorem qD {c A B:Prop} [Decidable c] (hc:c) (h:A):if decide c=true then A else B:=by
 rw [decide_eq_true hc]
 exact kI h
end L2
namespace L2
open PySem PySem.Spec PyProof.Rows
end L2
namespace L2
open PySem PySem.Spec PyProof.Rows
structure MkD (P:Program) (w:World) (K:PySem.W.Frag) (mg:Str→Option Value) (base:Heap) (k:Nat) (x:Str) (C:Addr) (ps:List Str) (sp:Sp):Prop where
 ex:mg x=some (.ref C)∧∃(f:Addr) (fd:FuncData),Mk K C f∧FnOk P w K mg base jQ k f fd ps sp∧Binds K fd ps []
structure MeD (P:Program) (w:World) (K:PySem.W.Frag) (mg:Str→Option Value) (base:Heap) (k:Nat) (C:Addr) (m:Str) (ps:List Str) (sp:Sp):Prop where
 ex:Cls K C∧∃(f:Addr) (fd:FuncData),Meth K C m f∧FnOk P w K mg base jQ k f fd ps sp∧Binds K fd ps []
section
variable {X:Cx} {k k':Nat} {x m:Str} {C:Addr} {ps:List Str} {sp:Sp} {p pos apos:Pos} {o e:Expr} {es:List Expr} {ta:TE} {t:TA}
theorem cQ (M:MkD X.prog X.w X.K X.mg X.base k x C ps sp) (hr:Room k' X.A) (hg:Gl X x) (ha:PA X (e::es) t)
  (hk:k+1≤k':=by decide) (hdb:(x == ("__debug__":Str))=false:=by decide) (he:starEach (e::es) X.env=(false,eval e X.env)::starEach es X.env:=by rfl) (hpl:(backTo pos (starEach es X.env)).any (·.1)=false:=by rfl) :
  PE X (.Call (.Name x p) (e::es) [] pos) (rE C sp [] E0 t):=by
 obtain ⟨hm,f,fd,M,G,b⟩:=M.ex
 exact C6 M G (hr.mono hk) hg hm b .nil bA ha hdb he hpl
theorem J9 {pl:Sem Bool} (M:MeD X.prog X.w X.K X.mg X.base k C m ps sp) (hr:Room k' X.A) (ho:PE X o ta) (ha:PA X (e::es) t) (hk:k≤k':=by decide)
  (hst:starEach (e::es) X.env=(false,eval e X.env)::starEach es X.env:=by rfl) (hpl:(backTo pos (starEach es X.env)).any (·.1)=false:=by rfl)
  (ht:eval (.Call (.Attribute o m apos) (e::es) [] pos) X.env=(do
   let ov ← eval o X.env
   standAt apos.atName
   let (f,first) ← holding [ov] (getMethod ov m pl)
   callWith pos f first (backTo pos (starEach (e::es) X.env)) (backToKw pos (keywordEach [] X.env))):=by rfl) :
  PE X (.Call (.Attribute o m apos) (e::es) [] pos) (eN C m sp [] E0 ta t):=by
 obtain ⟨c,f,fd,M,G,b⟩:=M.ex
 exact C5 (pl:=pl) ho c M G (hr.mono hk) b .nil bA ha hst hpl ht
theorem yH {pl:Sem Bool} (M:MeD X.prog X.w X.K X.mg X.base k C m ps sp) (hr:Room k' X.A) (ho:PE X o ta) (hk:k≤k':=by decide)
  (ht:eval (.Call (.Attribute o m apos) [] [] pos) X.env=(do
   let ov ← eval o X.env
   standAt apos.atName
   let (f,first) ← holding [ov] (getMethod ov m pl)
   callWith pos f first (backTo pos (starEach [] X.env)) (backToKw pos (keywordEach [] X.env))):=by rfl) :
  PE X (.Call (.Attribute o m apos) [] [] pos) (eN C m sp [] E0 ta iQ):=by
 obtain ⟨c,f,fd,M,G,b⟩:=M.ex
 exact B6 (pl:=pl) ho c M G (hr.mono hk) b .nil bA ht
end
end L2
namespace L2
open PySem PySem.Spec PyProof.Rows
structure ClsM (K:PySem.W.Frag) (C:Addr) (m:Str) (f:Addr):Prop where
 sp:PySem.W.specialIn K (.ref C) "__getattribute__"=some (some (.builtin "type.__getattribute__"))
 rd:PySem.W.readsIn K C (.type "type")=true
 fc:PySem.W.findCls K (.ref C) (.type "type") m=some (.val (.ref f))
 kp:PySem.W.keepIn K (.ref f)=true
structure CmD (P:Program) (w:World) (K:PySem.W.Frag) (mg:Str→Option Value) (base:Heap) (k:Nat) (x:Str) (C:Addr) (m:Str) (ps:List Str) (sp:Sp):Prop where
 ex:mg x=some (.ref C)∧∃(f:Addr) (fd:FuncData),ClsM K C m f∧FnOk P w K mg base jQ k f fd ps sp∧Binds K fd ps []
theorem pG {X:Cx} {k k':Nat} {x m:Str} {C:Addr} {ps:List Str} {sp:Sp} {p pos apos:Pos} {e:Expr} {es:List Expr} {t:TA} {pl:Sem Bool} (M:CmD X.prog X.w X.K X.mg X.base k x C m ps sp) (hr:Room k' X.A) (hg:Gl X x) (ha:PA X (e::es) t) (hk:k≤k':=by decide)
  (hdb:(x == ("__debug__":Str))=false:=by decide) (hst:starEach (e::es) X.env=(false,eval e X.env)::starEach es X.env:=by rfl) (hpl:(backTo pos (starEach es X.env)).any (·.1)=false:=by rfl)
  (ht:eval (.Call (.Attribute (.Name x p) m apos) (e::es) [] pos) X.env=(do
   let ov ← eval (.Name x p) X.env
   standAt apos.atName
   let (f,first) ← holding [ov] (getMethod ov m pl)
   callWith pos f first (backTo pos (starEach (e::es) X.env)) (backToKw pos (keywordEach [] X.env))):=by rfl) :
  PE X (.Call (.Attribute (.Name x p) m apos) (e::es) [] pos) (iI sp [] E0 t):=by
 obtain ⟨hm,f,fd,c,G,b⟩:=M.ex
 intro pins s σ H Q I h
 refine PySem.W.methodCall_KW (pl:=pl) (jN ((cE (v:=.ref C) hg hm rfl hdb:PE X (.Name x p) (tC (.ref C))) pins s σ H (fun v H1=>v=.ref C∧H1=H) I ⟨rfl,rfl⟩) fun u s1 ⟨v,H1,I1,rv,e1,e2⟩=>?_) ht
 subst e1 e2
 obtain rfl:u=Value.ref C:=rv
 refine PySem.W.method_cls I1.kIn c.sp (PySem.W.cls_value I1.kIn c.rd c.fc rfl ?_)
 have I2:=I1.tok (s1.toks+1)
 refine PySem.W.callWith_K (first:=[]) (h₀:=X.base) I.ok.mod.kin c.kp (jN (ha pos pins _ σ H1 _ I2 h) fun us s2 ⟨vs,H2,I3,r,q2⟩=>⟨I3.kIn,?_⟩) hst hpl
 exact cK (us:=us) (vs:=vs) G (hr.mono hk) b .nil bA I3 r q2
end L2
namespace L2
open PySem PySem.Spec PyProof.Rows
section
variable {X:Cx}
theorem xM {ns:List Int} {its:List Value} (rv:Vals (ns.map V.int) its) {i:Nat} {v:Value} (h:its.toArray[i]?=some v):∃t,v=Value.int (ns.getD i 0) t:=by
 have h':its[i]?=some v:=by simpa using h
 have hi:i<its.length:=(List.getElem?_eq_some_iff.mp h').1
 have hn:i<ns.length:=by have:=rv.length;rw [List.length_map] at this;omega
 obtain ⟨u,e,q⟩:=rv.get (x:=V.int (ns.getD i 0)) (i:=i) (by rw [List.getElem?_map,List.getElem?_eq_getElem hn,List.getD_eq_getElem?_getD,List.getElem?_eq_getElem hn];rfl)
 rw [h'] at e
 cases e
 exact q
theorem x6 {bs:List Bool} {its:List Value} (rv:Vals (bs.map V.bl) its) {i:Nat} {v:Value} (h:its.toArray[i]?=some v):v=Value.bool (bs.getD i true):=by
 have h':its[i]?=some v:=by simpa using h
 have hi:i<its.length:=(List.getElem?_eq_some_iff.mp h').1
 have hn:i<bs.length:=by have:=rv.length;rw [List.length_map] at this;omega
 obtain ⟨u,e,q⟩:=rv.get (x:=V.bl (bs.getD i true)) (i:=i) (by rw [List.getElem?_map,List.getElem?_eq_getElem hn,List.getD_eq_getElem?_getD,List.getElem?_eq_getElem hn];rfl)
 rw [h'] at e
 cases e
 exact q
theorem xE (bs:List Bool):(List.range bs.length).all (fun i=>bs.getD i true)=bs.all id:=by
 rw [Bool.eq_iff_iff,List.all_eq_true,List.all_eq_true]
 constructor
 ·intro h x hx
  obtain ⟨i,hi,e⟩:=List.mem_iff_getElem.mp hx
  have:=h i (by simpa using hi)
  rw [List.getD_eq_getElem?_getD,List.getElem?_eq_getElem hi,e] at this
  exact this
 ·intro h i hi
  have hi':i<bs.length:=by simpa using hi
  rw [List.getD_eq_getElem?_getD,List.getElem?_eq_getElem hi']
  exact h _ (List.getElem_mem hi')
theorem nJ (hc:X.calm=true):vZ X (.builtin "sum") (fun xs H Q=>∃(p:Addr) (ns:List Int),xs=[.ref p]∧SqL X.K H p (ns.map V.int)∧Q (.int ns.sum) H):=by
 intro pins s σ H xs us Q I r h
 obtain ⟨p,ns,rfl,hq,q⟩:=h
 obtain ⟨u,rfl,rx⟩:=zX r
 cases rx
 obtain ⟨its,rv,pl,hz⟩:=I.list hq
 have hlen:=rv.length
 rw [List.length_map] at hlen
 have hp:p<s.heap.objs.size:=by obtain ⟨o,n,e,_⟩:=pl;exact Heap.lt_size e
 refine call_sum_walkAnyS (wpAny_pyIter_list pl.isList ?_)
 refine ⟨s.heap.objs.size,_,_,_,_,_,_,fun i=>ns.getD i 0,rfl,(Walks.list (A:=X.A.in1) (I.ok.hd hc) s.heap.objs.size p (Nat.ne_of_lt hp) its.toArray).toS,⟨⟨_,Heap.get?_push_size _ rfl,rfl,rfl⟩,pl.isList.at fun o e=>Heap.get?_push_of_some _ e⟩,fun b hb=>?_,fun i v h=>xM rv h,fun s' t' m=>?_⟩
 ·rw [Heap.size_push]
  rcases List.mem_cons.mp hb with e|e
  ·rw [e];exact Nat.lt_succ_self _
  ·have e':b=p:=by simpa using e
   rw [e'];exact Nat.lt_succ_of_lt hp
 ·obtain ⟨hh,g,d,t,os⟩:=s'
  obtain ⟨m1,m2,m3,m4,m5⟩:=m
  have m2':g=s.gens:=m2
  have m3':d=s.drawn:=m3
  have m4':os=s.os:=m4
  subst m2' m3' m4'
  have e:preSum (fun i=>ns.getD i 0) its.toArray.size=ns.sum:=by rw [preSum_getD,List.size_toArray,← hlen,List.take_length]
  rw [e]
  refine ⟨.int ns.sum,H,I.kept (t':=t) fun b o e=>m1 b o (fun hb=>?_) (Heap.get?_push_of_some _ e),⟨_,rfl⟩,q⟩
  have e':b=s.heap.objs.size:=by simpa using hb
  exact absurd (Heap.lt_size e) (by rw [e'];exact Nat.lt_irrefl _)
theorem BT (hc:X.calm=true):vZ X (.builtin "all") (fun xs H Q=>∃(p:Addr) (bs:List Bool),xs=[.ref p]∧SqL X.K H p (bs.map V.bl)∧Q (.bl (bs.all id)) H):=by
 intro pins s σ H xs us Q I r h
 obtain ⟨p,bs,rfl,hq,q⟩:=h
 obtain ⟨u,rfl,rx⟩:=zX r
 cases rx
 obtain ⟨its,rv,pl,hz⟩:=I.list hq
 have hlen:=rv.length
 rw [List.length_map] at hlen
 have hp:p<s.heap.objs.size:=by obtain ⟨o,n,e,_⟩:=pl;exact Heap.lt_size e
 refine call_all_walk (wpAny_pyIter_list pl.isList ?_)
 refine ⟨s.heap.objs.size,_,_,_,_,_,fun i=>bs.getD i true,rfl,Walks.list (A:=X.A.in1) (I.ok.hd hc) s.heap.objs.size p (Nat.ne_of_lt hp) its.toArray,⟨⟨_,Heap.get?_push_size _ rfl,rfl,rfl⟩,pl.isList.at fun o e=>Heap.get?_push_of_some _ e⟩,fun i v s' Q' E' h hQ=>?_,fun h' tk hk=>?_⟩
 ·rw [x6 rv h]
  exact wpAny_truthy_bool hQ
 ·rw [List.size_toArray,← hlen,xE]
  refine ⟨.bl (bs.all id),H,I.kept (t':=tk) fun b o e=>hk b o (fun hb=>?_) (Heap.get?_push_of_some _ e),rfl,q⟩
  have e':b=s.heap.objs.size:=by simpa using hb
  exact absurd (Heap.lt_size e) (by rw [e'];exact Nat.lt_irrefl _)
end
end L2
namespace L2
open PySem PySem.Spec PyProof.Rows
def iU (p:Addr) (a b c:Int):HO:=.ext fun h=>∃t u v,IsRange h p a b c t u v
section
variable {X:Cx}
theorem xZ:vZ X (.type "range") (fun xs H Q=>∃a b c:Int,xs=[.int a,.int b,.int c]∧c≠0∧c.natAbs<1073741824∧∀p,H p=none→Q (.ref p) (upd H p (iU p a b c))):=by
 intro pins s σ H xs us Q I r h
 obtain ⟨a,b,c,rfl,hc,hs,q⟩:=h
 cases r with
 |cons r1 r2 =>
  cases r2 with
  |cons r3 r4 =>
   cases r4 with
   |cons r5 r6 =>
    cases r6
    obtain ⟨t,rfl⟩:=r1
    obtain ⟨u,rfl⟩:=r3
    obtain ⟨v,rfl⟩:=r5
    refine call_range_3 hc ?_ (.inl (PyProof.noPylong_small hs))
    refine ⟨.ref s.heap.objs.size,_,I.laid (t':=s.toks) (o:=iU s.heap.objs.size a b c) (fun b o e=>Heap.get?_push_of_some _ e) (Nat.le_refl _) ?_,rfl,q _ (I.hok.fresh (Nat.le_refl _))⟩
    exact ⟨⟨t,u,v,Heap.get?_push_size _ rfl⟩,⟨_,Heap.get?_push_size _ rfl⟩,fun h1 h2 ⟨t,u,v,e⟩ k=>⟨t,u,v,k _ e⟩⟩
theorem lI {f:Nat→Int}:∀{n:Nat} {acc:List Value},acc.length=n→(∀i v,acc[i]?=some v→∃t,v=Value.int (f i) t)→Vals ((List.range n).map fun (i:Nat)=>V.int (f i)) acc
 |0,acc,hl,h=>by
  cases acc with
  |nil=>exact .nil
  |cons x r=>cases hl
 |n+1,acc,hl,h=>by
  obtain ⟨init,last,rfl⟩:∃init last,acc=init++[last]:=by
   have hne:acc≠[]:=by intro e;rw [e] at hl;cases hl
   exact ⟨acc.dropLast,acc.getLast hne,(List.dropLast_concat_getLast hne).symm⟩
  rw [List.length_append,List.length_singleton] at hl
  have hi:init.length=n:=by omega
  rw [List.range_succ,List.map_append]
  refine Vals.append (lI hi fun i v e=>h i v ?_) (.cons ?_ .nil)
  ·rw [List.getElem?_append_left (List.getElem?_eq_some_iff.mp e).1]
   exact e
  ·exact h n last (by rw [List.getElem?_append_right (by omega),hi,Nat.sub_self];rfl)
theorem xG (hc:X.calm=true):vZ X (.type "list") (fun xs H Q=>∃(p:Addr) (a b c:Int) (n:Nat),xs=[.ref p]∧H p=some (iU p a b c)∧Builtin.Range.small a b c=true∧Builtin.Range.rangeSize a b c=n∧n≤1000∧
  ∀l,H l=none→Q (.ref l) (upd H l (.lst ((List.range n).map fun (i:Nat)=>V.int (a+(i:Int)*c))))):=by
 intro pins s σ H xs us Q I r h
 obtain ⟨p,a,b,c,n,rfl,hp,hsm,hn,hz,q⟩:=h
 obtain ⟨u,rfl,rx⟩:=zX r
 cases rx
 obtain ⟨⟨t,u,v,e⟩,_,_⟩:=I.hok p _ hp
 refine call_list_range (I.ok.hd hc) e hsm hn (by omega) fun h' tk acc' c' hk hS' hacc=>?_
 have hl:acc'.toList.length=n:=by have:=hacc.1;simpa using this
 refine ⟨.ref s.heap.objs.size,_,I.laid (t':=tk) (o:=.lst ((List.range n).map fun (i:Nat)=>V.int (a+(i:Int)*c))) hk (Nat.le_refl _) ?_,rfl,q _ (I.hok.fresh (Nat.le_refl _))⟩
 refine ⟨by rw [List.length_map,List.length_range];exact Nat.le_of_lt (qQ hz),acc'.toList,c',lI hl fun i v e=>hacc.2 i v (by simpa using e),by simpa using hS'⟩
end
end L2
namespace L2
open PySem PySem.Spec PyProof.Rows
def q0 (n:Nat):List Nat:=(List.range n).reverse
theorem AN (n:Nat):((List.range n).map fun (i:Nat)=>V.int (((n:Int) - 1)+(i:Int) * -1))=(q0 n).map fun (i:Nat)=>V.int (i:Int):=by
 apply List.ext_getElem?
 intro k
 unfold q0
 rw [List.getElem?_map,List.getElem?_map]
 by_cases hk:k<n
 ·rw [List.getElem?_range hk,List.getElem?_reverse (by simpa using hk),List.length_range,List.getElem?_range (by omega)]
  show some (V.int ((n:Int) - 1+(k:Int) * -1))=some (V.int ((n - 1 - k:Nat):Int))
  congr 2
  omega
 ·rw [List.getElem?_eq_none (by simp;omega),List.getElem?_eq_none (by simp;omega)]
  rfl
theorem nG (n:Nat):Builtin.Range.rangeSize ((n:Int) - 1) (-1) (-1)=n:=by
 unfold Builtin.Range.rangeSize
 rw [if_neg (by decide)]
 by_cases h:(n:Int) - 1 > -1
 ·rw [if_pos h]
  have e:((n:Int) - 1 - -1 - 1) / (- (-1:Int))=(n:Int) - 1:=by
   have e1:(-(-1:Int))=1:=rfl
   rw [e1,Int.ediv_one]
   omega
  rw [e]
  omega
 ·rw [if_neg h]
  omega
theorem AO {n:Nat} (h:n≤1000):Builtin.Range.small ((n:Int) - 1) (-1) (-1)=true:=by
 unfold Builtin.Range.small
 rw [nG]
 simp only [Builtin.Range.rangeFitsLong,Bool.and_eq_true,Bool.or_eq_true,decide_eq_true_eq,beq_iff_eq]
 simp
 omega
end L2
namespace L2
open PySem PySem.Spec PyProof.Rows
section
variable {P:Program} {w:World} {H:Hp} {h h':Heap} {a:Addr} {o:HO}
theorem ObjOk.there (x:ObjOk P w H h a o):∃u,h.get? a=some u:=by
 cases o with
 |lst xs=>obtain ⟨_,_,_,_,e⟩:=x;exact ⟨_,e⟩
 |tup xs=>obtain ⟨_,_,_,o,e,_⟩:=x;exact ⟨_,e⟩
 |dK kvs=>obtain ⟨_,_,_,_,o,_,_,e,_⟩:=x;exact ⟨_,e⟩
 |dT kvs=>obtain ⟨_,_,_,_,o,_,_,e,_⟩:=x;exact ⟨_,e⟩
 |set S n=>obtain ⟨o,_,_,_,e,_⟩:=x;exact ⟨_,e⟩
 |ins C dx fs=>obtain ⟨_,_,_,e,_⟩:=x;exact ⟨_,e⟩
 |own y=>obtain ⟨_,e⟩:=x;exact ⟨_,e⟩
 |xd fs=>obtain ⟨_,⟨_,_,_,e,_⟩,_⟩:=x;exact ⟨_,e⟩
 |rng lo hi=>obtain ⟨_,_,_,e⟩:=x;exact ⟨_,e⟩
 |frz ob u=>obtain ⟨e,_⟩:=x;exact ⟨_,e⟩
 |tbl ps=>exact ⟨_,(show h.get? a=some _ from x)⟩
 |met f y=>exact ⟨_,(show h.get? a=some _ from x)⟩
 |ext φ=>obtain ⟨_,e,_⟩:=x;exact e
theorem HOk.there (x:HOk P w H h) (e:H a=some o):∃u,h.get? a=some u:=(x a o e).there
theorem HOk.keepT (x:HOk P w H h) (k:∀b u,H b≠none→h.get? b=some u→h'.get? b=some u):HOk P w H h':=fun a o e =>
 (x a o e).stay (fun b u hb q=>k b u (by
  rcases hb with rfl|hb
  ·rw [e];exact fun z=>nomatch z
  ·rw [hb];exact fun z=>nomatch z) q) (fun _ q=>q) fun _ _ q=>q
end
theorem Un.go {fs ex:List Addr} {H H1:Hp} {h0 h h':Heap} (u:Un fs ex H H1 h0 h) (k:∀b o,h.get? b=some o→b∉fs→b∉ex→(∃o',h0.get? b=some o')→h'.get? b=some o)
  (ks:∀b o,h.get? b=some o→b∈fs→(∃o',h0.get? b=some o')→∃sl,h'.get? b=some {o with slots:=sl}):Un fs ex H H1 h0 h' where
 keep:=fun b o q n hb hx=>k b o (u.keep b o q n hb hx) hb hx ⟨o,q⟩
 slot:=fun b o q n hb hx=>by
  obtain ⟨sl,e⟩:=u.slot b o q n hb hx
  obtain ⟨sl',e'⟩:=ks b _ e hb ⟨o,q⟩
  exact ⟨sl',e'⟩
 free:=u.free
 there:=fun b o q hx=>by
  obtain ⟨o',e⟩:=u.there b o q hx
  by_cases hb:b∈fs
  ·obtain ⟨sl,e'⟩:=ks b o' e hb ⟨o,q⟩
   exact ⟨_,e'⟩
  ·exact ⟨o',k b o' e hb hx ⟨o,q⟩⟩
 tups:=u.tups
 frzs:=u.frzs
 tbls:=u.tbls
def G2 (fr:List Env) (Z:Addr→Prop) (h:Heap) (a C:Addr):Prop :=
 ∃(B:Heap) (a0:Value),Heap.FlyingW B fr a (.ref C) a0 h∧∀b o,h.get? b=some o→b∉kE fr→Z b→B.get? b=some o
def vG (P:Program) (w:World):vT:=fun outer H s E e s'=>∃(a C:Addr) (H':Hp),e=.ref a∧s'.os=s.os∧AllBare s'.gens∧Un (kE outer) [] H H' s.heap s'.heap∧HOk P w H' s'.heap∧
 G2 outer (fun b=>H' b≠none∨∃o',s.heap.get? b=some o') s'.heap a C∧H' a=none∧s.heap.get? a=none∧E (.ref C) none H'
def rC (X:Cx) (R:St→Value→Hp→Prop):Prop:=∀pins σ H s e h' C vs,Inv X pins σ H s→Heap.MadeExcOf s.heap h' e (.ref C) vs→R σ (.ref C) H→X.xe (.ref e) {s with heap:=h'}
def iP (X:Cx) (R:St→Value→Hp→Prop):Prop:=∀pins σ H s e s',Inv X pins σ H s→vG X.prog X.w X.stack H s (fun c _ H'=>R σ c H') e s'→X.xe e s'
theorem mL {P:Program} {w:World} {K:PySem.W.Frag} {mg:Str→Option Value} {base:Heap} {N:List Str} {qual:Str} {scope:Scope} {f:Addr} {cd:Value} {A:Around} {outer:List Env} {s:Shared} {H:Hp} {E:XK} :
  rC (vF (vG P w) P w K mg base N qual scope f cd A outer s H E) (fun _ c H'=>E c none H'):=by
 intro pins σ H1 s1 e h' C vs I hx q
 have hin:∀env∈(envOfC qual scope s.heap.objs.size f cd::outer),∀b,env.frame=some b→b∈kE (envOfC qual scope s.heap.objs.size f cd::outer):=fun env he b hb=>List.mem_filterMap.mpr ⟨env,he,hb⟩
 have hst:s1.heap.FunFrames base (envOfC qual scope s.heap.objs.size f cd::outer):=I.stack
 have hfrees:∀b∈kE (envOfC qual scope s.heap.objs.size f cd::outer),H1 b=none:=I.stkFree
 have hfs:kE (envOfC qual scope s.heap.objs.size f cd::outer)=s.heap.objs.size::kE outer:=rfl
 have ub:Un (kE outer) [] H H1 s.heap s1.heap:=I.base
 have hno:s1.heap.get? e=none:=hx.new
 show wpAny (model P w) (A.deeper (envOfC qual scope s.heap.objs.size f cd)) (leaving (envOfC qual scope s.heap.objs.size f cd) (.ref e)) (fun _ s''=>vG P w outer H s E (.ref e) s'') (fun e' s''=>vG P w outer H s E e' s'') {s1 with heap:=h'}
 refine wpAny_leaves_madeW (base:=PySem.W.hideAll s1.heap (kE (envOfC qual scope s.heap.objs.size f cd::outer))) I.ok.frames rfl (fun b o q=>PySem.W.of_hideAll _ q) (PySem.W.funFrames_hide hst hin) hx fun h2 t fl _ _ up=>?_
 dsimp only at up
 have keep:∀b o,s1.heap.get? b=some o→b∉kE (envOfC qual scope s.heap.objs.size f cd::outer)→(PySem.W.hideAll s1.heap (kE (envOfC qual scope s.heap.objs.size f cd::outer))).get? b=some o:=fun b o q n=>PySem.W.hideAll_get _ q n
 have old:∀b,(∃o',s.heap.get? b=some o')→b∉kE outer→b∉kE (envOfC qual scope s.heap.objs.size f cd::outer):=fun b ⟨o',q⟩ n z=>by
  rw [hfs] at z
  rcases List.mem_cons.mp z with z|z
  ·exact absurd (Heap.lt_size q) (by rw [z];exact Nat.lt_irrefl _)
  ·exact n z
 have yX:∀b,H1 b≠none→b∉kE (envOfC qual scope s.heap.objs.size f cd::outer):=fun b hb z=>hb (hfrees b z)
 refine ⟨e,C,H1,rfl,I.os,I.bare,ub.go (fun b o q n _ z=>fl.1 b o (keep b o q (old b z n))) (fun b o q n _=>?_),I.hok.keepT fun b u hb q=>fl.1 b u (keep b u q (yX b hb)),?_,?_,?_,q⟩
 ·obtain ⟨_,o',ho',hd⟩:=hst.mem (show b∈kE (envOfC qual scope s.heap.objs.size f cd::outer) from by rw [hfs];exact List.mem_cons_of_mem _ n)
  rw [q] at ho';cases ho'
  exact up b o (hx.keeps b o q) hd
 ·refine ⟨_,_,fl,fun b o q n z=>?_⟩
  have hn:b∉kE (envOfC qual scope s.heap.objs.size f cd::outer):=by
   rcases z with z|z
   ·exact yX b z
   ·exact old b z n
  have h1:∃u,s1.heap.get? b=some u:=by
   rcases z with z|⟨o',z⟩
   ·cases r:H1 b with
    |none=>exact absurd r z
    |some v=>exact I.hok.there r
   ·exact ub.there b o' z (by simp)
  obtain ⟨u,hu⟩:=h1
  have hB:=keep b u hu hn
  have:=fl.1 b u hB
  have q':h2.get? b=some o:=q
  rw [q'] at this
  cases this
  exact hB
 ·cases r:H1 e with
  |none=>rfl
  |some v =>
   obtain ⟨u,hu⟩:=I.hok.there r
   rw [hno] at hu;cases hu
 ·cases r:s.heap.get? e with
  |none=>rfl
  |some v =>
   obtain ⟨u,hu⟩:=ub.there e v r (by simp)
   rw [hno] at hu;cases hu
theorem CG {P:Program} {w:World} {K:PySem.W.Frag} {mg:Str→Option Value} {base:Heap} {N:List Str} {qual:Str} {scope:Scope} {f:Addr} {cd:Value} {A:Around} {outer:List Env} {s:Shared} {H:Hp} {E:XK} :
  iP (vF (vG P w) P w K mg base N qual scope f cd A outer s H E) (fun _ c H'=>E c none H'):=by
 intro pins σ H1 s1 e s2 I hx
 obtain ⟨a,C,H2,rfl,os,bare,un,hok,⟨B,a0,fl,ground⟩,ha,hs,q⟩:=hx
 have fl':Heap.FlyingW B (envOfC qual scope s.heap.objs.size f cd::outer) a (.ref C) a0 s2.heap:=fl
 have J:Inv (vF (vG P w) P w K mg base N qual scope f cd A outer s H E) pins σ H2 s2:=I.call' (ch:=[]) os un hok bare fun b z=>absurd z (by simp)
 have ub:Un (kE outer) [] H H2 s.heap s2.heap:=J.base
 have hfs:kE (envOfC qual scope s.heap.objs.size f cd::outer)=s.heap.objs.size::kE outer:=rfl
 have old:∀b,(∃o',s.heap.get? b=some o')→b∉kE outer→b∉kE (envOfC qual scope s.heap.objs.size f cd::outer):=fun b ⟨o',q⟩ n z=>by
  rw [hfs] at z
  rcases List.mem_cons.mp z with z|z
  ·exact absurd (Heap.lt_size q) (by rw [z];exact Nat.lt_irrefl _)
  ·exact n z
 have yX:∀b,H2 b≠none→b∉kE (envOfC qual scope s.heap.objs.size f cd::outer):=fun b hb z=>hb (J.stkFree b z)
 have u1:Un (kE outer) [] H H1 s.heap s1.heap:=I.base
 have in1:∀b,(∃o',s.heap.get? b=some o')→∃o',s1.heap.get? b=some o':=fun b ⟨o',z⟩=>u1.there b o' z (by simp)
 have hst:s2.heap.FunFrames base (envOfC qual scope s.heap.objs.size f cd::outer):=J.stack
 show wpAny (model P w) (A.deeper (envOfC qual scope s.heap.objs.size f cd)) (leaving (envOfC qual scope s.heap.objs.size f cd) (.ref a)) (fun _ s''=>vG P w outer H s E (.ref a) s'') (fun e' s''=>vG P w outer H s E e' s'') s2
 refine wpAny_leaves_onW J.ok.frames rfl fl' fun h3 fl3 up=>?_
 refine ⟨a,C,H2,rfl,J.os,J.bare,ub.go (fun b o q n _ z=>fl3.1 b o (ground b o q (old b z n) (.inr (in1 b z)))) (fun b o q n _=>?_),J.hok.keepT fun b u hb q=>fl3.1 b u (ground b u q (yX b hb) (.inl hb)),?_,ha,?_,q⟩
 ·obtain ⟨_,o',ho',hd⟩:=hst.mem (show b∈kE (envOfC qual scope s.heap.objs.size f cd::outer) from by rw [hfs];exact List.mem_cons_of_mem _ n)
  rw [q] at ho';cases ho'
  exact up b o q hd
 ·refine ⟨B,a0,fl3,fun b o q n z=>?_⟩
  have hn:b∉kE (envOfC qual scope s.heap.objs.size f cd::outer):=by
   rcases z with z|z
   ·exact yX b z
   ·exact old b z n
  have h1:∃u,s2.heap.get? b=some u:=by
   rcases z with z|⟨o',z⟩
   ·cases r:H2 b with
    |none=>exact absurd r z
    |some v=>exact J.hok.there r
   ·exact ub.there b o' z (by simp)
  obtain ⟨u,hu⟩:=h1
  have hB:=ground b u hu hn (by
   rcases z with z|z
   ·exact .inl z
   ·exact .inr (in1 b z))
  have:=fl3.1 b u hB
  have q':h3.get? b=some o:=q
  rw [q'] at this
  cases this
  exact hB
 ·cases r:s.heap.get? a with
  |none=>rfl
  |some v =>
   obtain ⟨u,hu⟩:=in1 a ⟨v,r⟩
   rw [hs] at hu;cases hu
end L2
namespace L2
open PySem PySem.Spec PyProof.Rows
theorem DO {K:PySem.W.Frag} {h:Heap} {C:Addr} {bmB:List Value} {newId:String} (X:K.In h) (q:PySem.W.excIn K C bmB newId=true) :
  ∃bm N nm qn bs hdct sn sub ab col dd k0 k1 k2 k3 k5 mN,K.lookup C=some (excClassObj nm qn C N bs bm hdct sn sub ab col dd k0 k1 k2 k3 k5 newId)∧h.get? C=some (excClassObj nm qn C N bs bm hdct sn sub ab col dd k0 k1 k2 k3 k5 newId)∧h.Ns N mN∧mN "__init__"=none∧OwnTail h bmB bm:=by
 unfold PySem.W.excIn at q
 split at q
 ·rename_i dd cd sl ho
  split at q
  ·rename_i C' bm k0 k1 k2 k3 n k5 hm hs
   simp only [Bool.and_eq_true,beq_iff_eq,Bool.not_eq_true'] at q
   obtain ⟨⟨⟨⟨⟨rfl,rfl⟩,hdel⟩,ht⟩,hok⟩,hni⟩:=q
   obtain ⟨nm,bs,mro,ns,qn,hd,sn,sub,ab,col,del⟩:=cd
   dsimp only at hm hdel hok hni
   subst hm hdel
   have hsl:sl = #[k0,k1,k2,k3,some (.builtin n),k5]:=by
    obtain ⟨l⟩:=sl
    simp only at hs
    rw [hs]
   subst hsl
   exact ⟨bm,ns,nm,qn,bs,hd,sn,sub,ab,col,dd,k0,k1,k2,k3,k5,_,ho,X _ _ ho,.of_isNs (PySem.W.isNs_of_in X hok),PySem.W.nsMap_none_of_in X hok hni,PySem.W.tail_of_in X ht⟩
  ·cases q
 ·cases q
abbrev GJ:List Value:=[.type "ValueError",.type "Exception",.type "BaseException",.type "object"]
def iZ (K:PySem.W.Frag) (C:Addr):Prop:=PySem.W.excIn K C GJ "ValueError.__new__"=true
section
variable {X:Cx} {R:St→Value→Hp→Prop} {x:Str} {C:Addr} {np cpos pos p:Pos} {e:Expr} {es:List Expr} {t:TA}
theorem oG (hx:rC X R) (hcalm:X.calm=true) (hg:Gl X x) (hm:X.mg x=some (.ref C)) (hc:iZ X.K C) (ha:PA X (e::es) t) (hdb:(x == ("__debug__":Str))=false:=by decide)
  (he:starEach (e::es) X.env=(false,eval e X.env)::starEach es X.env:=by rfl) (hpl:(backTo cpos (starEach es X.env)).any (·.1)=false:=by rfl) :
  PS X (.Raise (some (.Call (.Name x np) (e::es) [] cpos)) none pos) (fun _ σ H=>t σ H fun vs H1=>vs.length≤sizeLine∧R σ (.ref C) H1):=by
 intro pins s σ H D I h
 obtain ⟨tl,N,nm,q,bs,hdct,sn,sub,ab,col,dd,k0,k1,k2,k3,k5,mN,_,hC,hN,hni,T⟩:=DO I.ok.mod.kin hc
 refine wpAny_Raise_call_subT (C:=C) (nm:=nm) (q:=q) (N:=N) (bs:=bs) (bm:=tl) (hdct:=hdct) (sn:=sn) (sub:=sub) (ab:=ab) (col:=col) (dd:=dd) (k0:=k0) (k1:=k1) (k2:=k2) (k3:=k3) (k5:=k5)
  PySem.F.excBase_ValueError (mN:=mN) (T.hasType PySem.F.excBase_ValueError.hasBase) (I.ok.hd hcalm) (by rw [he];show (false||(backTo cpos (starEach es X.env)).any (·.1))=false;rw [hpl];rfl) hni (cH I hg hm ⟨rfl,?_⟩ hdb)
 have h1:=ha cpos pins s σ H _ I h
 rw [he] at h1 ⊢
 refine Calls.evalArgs_plain (wpAny_mono h1 (fun us s2 ⟨vs,H2,I2,r2,hl,q2⟩=>⟨rfl,by rw [← r2.length];exact hl,I2.bk _ _ hC,hN.keeps I2.bk,T.keeps I2.bk,fun h' a hm=>hx pins σ H2 s2 a h' C us I2 hm q2⟩) fun _ _ y=>y)
def DW (sp:Sp) (dvs:List V) (R:St→Value→Hp→Prop) (t:TA):TE:=fun σ H Q=>t σ H fun vs H1=>sp (vs++dvs) H1 Q (fun c _ H'=>R σ c H')
theorem CY {k:Nat} {f:Addr} {fd:FuncData} {ps:List Str} {sp:Sp} {dvs:List V} {ds:List Value} {pins:List (Addr×Obj)} {σ:St} {H:Hp} {s:Shared} {Q:VK} {us:List Value} {vs:List V} (F:FnOk X.prog X.w X.K X.mg X.base (vG X.prog X.w) k f fd ps sp) (hr:Room k X.A) (hb:Binds X.K fd ps ds) (hd:Vals dvs ds) (hx:iP X R)
  (I:Inv X pins σ H s) (r:Vals vs us) (h:sp (vs++dvs) H Q (fun c _ H'=>R σ c H')):wpAny (model X.prog X.w) X.A (call (.ref f) us) (EP X pins σ Q) X.xe s:=by
 have r2:Vals (vs++dvs) (us++ds):=r.append hd
 have hl:(us++ds).length=ps.length:=by rw [← r2.length];exact F.len _ _ _ _ h
 refine wpAny_call (codeAny_mono (F.run X.A X.stack s H ⟨us,[]⟩ (us++ds) (vs++dvs) Q _ hr I.env0 (hb s us I.kIn hl) r2 h) fun r s' hq=>?_)
 cases r with
 |error e=>exact hx pins σ H s e s' I hq
 |ok fl =>
  cases fl with
  |ret u=>exact I.after hq
  |next=>exact False.elim hq
  |brk=>exact False.elim hq
  |cont=>exact False.elim hq
end
structure DefX (P:Program) (w:World) (K:PySem.W.Frag) (mg:Str→Option Value) (base:Heap) (k:Nat) (x:Str) (ps:List Str) (dvs:List V) (sp:Sp):Prop where
 ex:∃(f:Addr) (fd:FuncData) (ds:List Value),FnOk P w K mg base (vG P w) k f fd ps sp∧mg x=some (.ref f)∧PySem.W.keepIn K (.ref f)=true∧Vals dvs ds∧Binds K fd ps ds
theorem C8 {X:Cx} {R:St→Value→Hp→Prop} {k k':Nat} {x:Str} {ps:List Str} {dvs:List V} {sp:Sp} {p pos:Pos} {e:Expr} {es:List Expr} {t:TA} (F:DefX X.prog X.w X.K X.mg X.base k x ps dvs sp) (hx:iP X R) (hr:Room k' X.A) (hg:Gl X x) (ha:PA X (e::es) t)
  (hk:k≤k':=by decide) (hdb:(x == ("__debug__":Str))=false:=by decide) (he:starEach (e::es) X.env=(false,eval e X.env)::starEach es X.env:=by rfl) (hpl:(backTo pos (starEach es X.env)).any (·.1)=false:=by rfl) :
  PE X (.Call (.Name x p) (e::es) [] pos) (DW sp dvs R t):=by
 obtain ⟨f,fd,ds,G,m,kp,hv,b⟩:=F.ex
 intro pins s σ H Q I h
 refine wpAny_Call_Name_kw (cH I hg m ?_ hdb)
 refine PySem.W.callWith_K (h₀:=X.base) I.ok.mod.kin kp (jN (ha pos pins s σ H _ I h) fun us s1 ⟨vs,H1,I1,r,q⟩=>⟨I1.kIn,?_⟩) he hpl
 exact CY G (hr.mono hk) b hv hx I1 r q
section
variable {X:Cx} {pins pins':List (Addr×Obj)} {σ:St} {H:Hp} {s:Shared} {R:St→Value→Hp→Prop}
end
section
variable {X:Cx} {pins:List (Addr×Obj)} {σ:St} {H:Hp} {s:Shared} {e:Value}
end
end L2
namespace L2
open PySem PySem.Spec PyProof.Rows
section
variable {P:Program} {w:World} {K:PySem.W.Frag} {mg:Str→Option Value} {base:Heap}
theorem Fun.okX {x qual:Str} {st:Stmt} {f:Addr} {fd:FuncData} {N ps:List Str} {k:Nat} {sp:Sp} (F:Fun K x qual st f fd) (S:FnScope N ps (jD st)) (len:∀vs H Q E,sp vs H Q E→vs.length=ps.length)
  (hbody:∀(cdv:Value) (A:Around) (outer:List Env) (s:Shared) (H:Hp) (vs:List V) (Q:VK) (E:XK),Room k (A.deeper (envOfC qual (jD st) s.heap.objs.size f cdv))→sp vs H Q E→
   ∃t,PSs (vF (vG P w) P w K mg base N qual (jD st) f cdv A outer s H E) (jP st) t∧t {nx:=fun _ H'=>Q .non H',rt:=Q} (start N vs) H):FnOk P w K mg base (vG P w) (k+1) f fd ps sp:=by
 obtain ⟨oc,od,kV,doc,pm,an,cdv,ct,osl,rfl,lk,hcd⟩:=F.ex
 exact iN lk hcd S len fun A outer s H vs Q E hr hsp=>hbody cdv A outer s H vs Q E hr hsp
theorem FnOk.noX {k:Nat} {f:Addr} {fd:FuncData} {ps:List Str} {sp sp':Sp} (F:FnOk P w K mg base (vG P w) k f fd ps sp) (h:∀vs H Q E,sp' vs H Q E→sp vs H Q (fun _ _ _=>False)):FnOk P w K mg base jQ k f fd ps sp' :=
 ⟨fun vs H Q E q=>F.len vs H Q _ (h _ _ _ _ q),fun A outer s H args us vs Q E hr he hb hv hs=>codeAny_mono (F.run A outer s H args us vs Q _ hr he hb hv (h _ _ _ _ hs)) fun r s' hq=>by
  cases r with
  |ok fl=>cases fl<;>exact hq
  |error e=>obtain ⟨_,_,_,_,_,_,_,_,_,_,_,z⟩:=hq;exact z⟩
end
section
variable {X:Cx}
end
end L2
namespace L2
open PySem PySem.Spec PyProof.Rows
section
variable {X:Cx} {pins:List (Addr×Obj)} {σ:St} {H:Hp} {s:Shared}
end
end L2
namespace L2
open PySem PySem.Spec PySem.Calls PyProof.Rows PySem.W
section
variable {prog:Program} {w:World} {A:Around} {E:Value→Shared→Prop} {h:Heap} {g:Array GenState} {d:Drawn} {t:Nat} {os:OsState} {a C:Addr} {o:Obj} {K:PySem.W.Frag}
open PySem.Builtin PySem.Builtin.ObjectAttr PySem.Builtin.Getset_descriptor in
end
section
variable {X:Cx}
end
end L2
namespace L2
open PySem PySem.Spec PyProof.Rows
end L2
namespace L2
open PySem PySem.Spec PyProof.Rows
section
variable {X:Cx} {x:Str} {C:Addr} {pos p:Pos} {e:Expr} {es:List Expr} {t:TA}
end
end L2
namespace L2
open PySem PySem.Spec PyProof.Rows
section
variable {X:Cx}
end
end L2
namespace L2
open PySem PySem.Spec PyProof.Rows
section
variable {X:Cx} {R:St→Value→Hp→Prop} {k k':Nat} {x m:Str} {C:Addr} {ps:List Str} {sp:Sp} {p pos apos:Pos} {o e:Expr} {es:List Expr} {ta:TE} {t:TA}
theorem EG {CX:vT} {P:Program} {w:World} {K:PySem.W.Frag} {mg:Str→Option Value} {base:Heap} {N:List Str} {qual:Str} {scope:Scope} {f:Addr} {cd:Value} {A:Around} {outer:List Env} {s:Shared} {H:Hp} {E:XK} :
  PassesOwn (model (vF CX P w K mg base N qual scope f cd A outer s H E).prog (vF CX P w K mg base N qual scope f cd A outer s H E).w) (vF CX P w K mg base N qual scope f cd A outer s H E).A (vF CX P w K mg base N qual scope f cd A outer s H E).env (vF CX P w K mg base N qual scope f cd A outer s H E).xe:=by
 intro e s' h
 exact PassesOwn.leaving (Q₁:=fun e s''=>CX outer H s E e s'') (E₁:=fun e' s''=>CX outer H s E e' s'') e s' h
end
end L2
namespace L2
open PySem PySem.Spec PyProof.Rows
section
variable {κ:Type} [DecidableEq κ]
def qM (kvs:List (κ×V)) (k:κ):Option V:=(kvs.find? fun kv=>decide (kv.1=k)).map (·.2)
def vS (kvs:List (κ×V)) (k:κ) (v:V):List (κ×V) :=
 if (kvs.any fun kv=>decide (kv.1=k))=true then kvs.map (fun kv=>if kv.1=k then (kv.1,v) else kv) else kvs++[(k,v)]
theorem valV_nil {k:κ}:qM ([]:List (κ×V)) k=none:=rfl
theorem JW {p:κ×V} {r:List (κ×V)} {k:κ} (e:p.1=k):qM (p::r) k=some p.2:=by simp [qM,List.find?_cons,e]
theorem vJ {p:κ×V} {r:List (κ×V)} {k:κ} (e:¬p.1=k):qM (p::r) k=qM r k:=by simp [qM,List.find?_cons,e]
theorem nV (k:κ):∀kvs:List (κ×V),(kvs.any fun kv=>decide (kv.1=k))=(qM kvs k).isSome
 |[]=>rfl
 |p::r=>by
  rw [List.any_cons]
  by_cases e:p.1=k
  ·simp only [JW e,decide_eq_true e,Bool.true_or,Option.isSome_some]
  ·rw [vJ e,decide_eq_false e,Bool.false_or];exact nV k r
theorem xX (kvs:List (κ×V)) (k:κ) (v:V):(vS kvs k v).length≤kvs.length+1:=by
 unfold vS
 split
 ·rw [List.length_map];omega
 ·rw [List.length_append,List.length_cons,List.length_nil];omega
theorem eA {kvs:List (κ×V)} {k:κ} (v:V) (h:qM kvs k=none):vS kvs k v=kvs++[(k,v)]:=by
 unfold vS
 rw [nV,h]
 exact if_neg (by decide)
theorem RelO.getD {o:Option V} {u:Option Value} {d:V} {d':Value} (r:RelO o u) (rd:RelV d d'):RelV (o.getD d) (u.getD d'):=by
 cases o with
 |none=>cases u with
  |none=>exact rd
  |some _=>exact (show False from r).elim
 |some _=>cases u with
  |none=>exact (show False from r).elim
  |some _=>exact r
theorem KV.val {kvs:List (κ×V)} {vs:List (κ×Value)} (r:KV kvs vs) (k:κ):RelO (qM kvs k) (valueAt vs k):=by
 unfold KV at r
 induction r with
 |nil=>exact True.intro
 |@cons p q ps qs h t ih =>
  obtain ⟨h1,h2⟩:=h
  by_cases e:p.1=k
  ·have e':q.1=k:=h1.symm.trans e
   have b:valueAt (q::qs) k=some q.2:=by simp [valueAt,List.find?_cons,e']
   rw [JW e,b];exact h2
  ·have e':¬q.1=k:=fun z=>e (h1.trans z)
   have b:valueAt (q::qs) k=valueAt qs k:=by simp [valueAt,List.find?_cons,e']
   rw [vJ e,b];exact ih
theorem KV.any {kvs:List (κ×V)} {vs:List (κ×Value)} (r:KV kvs vs) (k:κ):(kvs.any fun kv=>decide (kv.1=k))=vs.any fun kv=>decide (kv.1=k):=by
 unfold KV at r
 induction r with
 |nil=>rfl
 |cons h t ih=>rw [List.any_cons,List.any_cons,ih,h.1]
theorem KV.repl {kvs:List (κ×V)} {vs:List (κ×Value)} (r:KV kvs vs) (k:κ) {y:V} {u:Value} (ry:RelV y u) :
  KV (kvs.map fun kv=>if kv.1=k then (kv.1,y) else kv) (vs.map fun kv=>if kv.1=k then (kv.1,u) else kv):=by
 unfold KV at r ⊢
 induction r with
 |nil=>exact .nil
 |@cons p q ps qs h t ih =>
  rw [List.map_cons,List.map_cons]
  refine .cons ?_ ih
  obtain ⟨h1,h2⟩:=h
  by_cases e:p.1=k
  ·rw [if_pos e,if_pos (h1.symm.trans e)];exact ⟨h1,ry⟩
  ·rw [if_neg e,if_neg (fun z=>e (h1.trans z))];exact ⟨h1,h2⟩
theorem KV.put {kvs:List (κ×V)} {vs:List (κ×Value)} (r:KV kvs vs) (k:κ) {y:V} {u:Value} (ry:RelV y u):KV (vS kvs k y) (stored vs k u):=by
 unfold vS stored
 rw [r.any k]
 by_cases e:(vs.any fun kv=>decide (kv.1=k))=true
 ·rw [if_pos e,if_pos e];exact r.repl k ry
 ·rw [if_neg e,if_neg e];exact Paired.snoc r ⟨rfl,ry⟩
theorem KV.length {kvs:List (κ×V)} {vs:List (κ×Value)} (r:KV kvs vs):kvs.length=vs.length:=Paired.length r
end
theorem iL {P:Program} {w:World} {k:j5} {u:Value} (r:RelV (kV k) u):(vO P w).is k u=true:=by
 cases k with
 |inl i=>obtain ⟨t,e⟩:=(show ∃t,u=Value.int i t from r);subst e;exact xV P w i t
 |inr x=>obtain ⟨t,e⟩:=(show ∃t,u=Value.str x t from r);subst e;exact xU P w x t
theorem m9 {P:Program} {w:World}:∀{ks:List j5} {us:List Value},Vals (ks.map kV) us→ItemsAre (vO P w) ks us
 |[],_,r=>by rw [List.map_nil] at r;cases r;exact .nil
 |k::ks,_,r=>by
  rw [List.map_cons] at r
  cases r with
  |cons h t=>exact .cons (iL h) (m9 t)
abbrev KT (H:Hp):List (List j5×V)→List (List j5×Addr×Value)→Prop:=Paired fun p q=>p.1=q.1∧H q.2.1=some (.tup (p.1.map kV))∧RelV p.2 q.2.2
theorem KT.val {H:Hp} {kvs:List (List j5×V)} {xs:List (List j5×Addr×Value)} (r:KT H kvs xs) (k:List j5):RelO (qM kvs k) ((atKey xs k).map (·.2)):=by
 induction r with
 |nil=>exact True.intro
 |@cons p q ps qs h t ih =>
  obtain ⟨h1,_,h2⟩:=h
  by_cases e:p.1=k
  ·have e':q.1=k:=h1.symm.trans e
   have b:atKey (q::qs) k=some q.2:=by simp [atKey,List.find?_cons,e']
   rw [JW e,b];exact h2
  ·have e':¬q.1=k:=fun z=>e (h1.trans z)
   have b:atKey (q::qs) k=atKey qs k:=by simp [atKey,List.find?_cons,e']
   rw [vJ e,b];exact ih
section
variable {P:Program} {w:World} {H:Hp} {h:Heap} {a:Addr}
theorem rM {u:HO} (ok:HOk P w H h) (e:Rd H a u):ObjOk P w H h a u:=e.ok ok
theorem iO {kvs:List (j5×V)} (ok:HOk P w H h) (e:Rd H a (.dK kvs)):kvs.length≤sizeLine∧(a == sysModules)=false∧∃vs,KV kvs vs∧h.DictOf (vO P w) a vs :=
 show ObjOk P w H h a (.dK kvs) from rM ok e
theorem FS {kvs:List (j5×V)} (ok:HOk P w H h) (e:H a=some (.dK kvs)):kvs.length≤sizeLine∧(a == sysModules)=false∧∃vs,KV kvs vs∧h.DictOf (vO P w) a vs:=iO ok (.inl e)
theorem pY {ks:List j5} (ok:HOk P w H h) (e:H a=some (.tup (ks.map kV))):(tupleKind (vO P w)).is h ks a:=by
 obtain ⟨_,its,r,o,h1,h2,n,h3⟩:=(show ObjOk P w H h a (.tup (ks.map kV)) from ok a _ e)
 exact ⟨o,its.toArray,n,h1,h2,h3,by simpa using m9 r⟩
theorem rQ {kvs:List (List j5×V)} (ok:HOk P w H h) (e:Rd H a (.dT kvs)):kvs.length≤sizeLine∧(a == sysModules)=false∧
  ∃xs,KT H kvs xs∧h.DictOfH (tupleKind (vO P w)) a xs:=by
 obtain ⟨z,y,xs,r,o,es,ep,h1,h2,h3,h4,h5⟩:=(show ObjOk P w H h a (.dT kvs) from rM ok e)
 refine ⟨z,y,xs,r,o,es,ep,h1,h2,h3,h4,fun x hx=>?_,h5⟩
 have all:∀{l:List (List j5×V)} {m:List (List j5×Addr×Value)},KT H l m→∀x∈m,(tupleKind (vO P w)).is h x.1 x.2.1:=by
  intro l m q
  induction q with
  |nil=>intro x hx;exact nomatch hx
  |@cons p q ps qs hq t ih =>
   intro x hx
   rcases List.mem_cons.mp hx with e|hx
   ·subst e
    exact pY ok (by rw [← hq.1];exact hq.2.1)
   ·exact ih x hx
 exact all r x hx
end
def DGet (H:Hp) (a:Addr) (y:V) (r:Option V):Prop :=
 (∃kvs k,Rd H a (.dK kvs)∧y=kV k∧r=qM kvs k)∨∃kvs k b,Rd H a (.dT kvs)∧y=.ref b∧H b=some (.tup (k.map kV))∧r=qM kvs k
theorem DGet.k {H:Hp} {a:Addr} {kvs:List (j5×V)} {k:j5} (e:H a=some (.dK kvs)):DGet H a (kV k) (qM kvs k):=.inl ⟨kvs,k,.inl e,rfl,rfl⟩
section
variable {X:Cx} {pins:List (Addr×Obj)} {σ:St} {H:Hp} {s:Shared} {a:Addr} {y v:V} {u r:Value} {o:Option V} {A:Around} {E:Value→Shared→Prop}
theorem Inv.big (I:Inv X pins σ H s):sysModules<s.heap.objs.size:=by
 have h:mainGlobals<s.heap.objs.size:=(I.mod.glob.keeps I.bk).lt
 exact Nat.lt_trans (by decide) h
theorem BO {Q:Value→Shared→Prop} (hu:A.units+1<cLine) (I:Inv X pins σ H s) (g:DGet H a y (some v)) (ry:RelV y u) (h:∀w' s',Inv X pins σ H s'→RelV v w'→Q w' s') :
  wpAny (model X.prog X.w) A (getItem (.ref a) u) Q E s:=by
 rcases g with ⟨kvs,k,e,ey,l⟩|⟨kvs,k,b,e,ey,eb,l⟩
 ·subst ey
  obtain ⟨z,hd,vs,rel,dd⟩:=iO I.hok e
  obtain ⟨w',hw,rw'⟩:=RelO.some_of (v:=v) (o:=valueAt vs k) (by rw [l];exact rel.val k)
  exact wpAny_getItem_of (iL ry) dd.mapOf hw (h w' _ (I.tok _) rw')
 ·subst ey
  cases (show u=Value.ref b from ry)
  obtain ⟨z,hd,xs,rel,dd⟩:=rQ I.hok e
  obtain ⟨w',hw,rw'⟩:=RelO.some_of (v:=v) (o:=(atKey xs k).map (·.2)) (by rw [l];exact rel.val k)
  obtain ⟨p,hp,hp2⟩:=Option.map_eq_some_iff.mp hw
  refine wpAny_getItem_heap (tupleKind_room_in1 hu) (pY I.hok eb) dd hp ?_
  rw [hp2]
  exact h w' _ (I.tok _) rw'
theorem DQ {h':Heap} {t':Nat} {ob:HO} (I:Inv X pins σ H s) (mu:dE (H a)) (hs:Heap.SameBut a s.heap h') (he:∃q,h'.get? a=some q) (new:ObjOk X.prog X.w (upd H a ob) h' a ob) :
  Inv X pins σ (upd H a ob) {s with heap:=h',toks:=t'} :=
 I.write (x:=a) (e:=a) mu (.inl rfl) (fun b q hb z=>(hs.2 b hb).trans z) he new
theorem EV {P:Program} {w:World} {H':Hp} {h':Heap} {kvs:List (j5×V)} {vs:List (j5×Value)} (z:kvs.length≤sizeLine) (hd:(a == sysModules)=false) (rel:KV kvs vs) (dd:h'.DictOf (vO P w) a vs) :
  ObjOk P w H' h' a (.dK kvs):=⟨z,hd,vs,rel,dd⟩
end
section
variable {X:Cx} {pins:List (Addr×Obj)} {σ:St} {H:Hp} {s:Shared} {a:Addr} {kvs:List (j5×V)} {k:j5} {u:Value} {A:Around} {E:Value→Shared→Prop}
end
def sB (i:Expr):Prop:=∀ov iv,subscripted i false ov iv=operate [ov,iv] (getItem ov iv)
theorem CT {prog:Program} {w:World} {A:Around} {E:Value→Shared→Prop} {s:Shared} {env:Env} {value slice:Expr} {pos:Pos} {T id:String} {Q:Value→Shared→Prop}
  (hl:typeLookup (.type T) "__getitem__"=pure (some (.builtin id))) (hs:sB slice)
  (h:wpAny (model prog w) A (eval value env) (fun o s₁=>wpAny (model prog w) A (eval slice env) (fun i s₂=>s₂.TypeIs o T∧wpAny (model prog w) A (getItem o i) Q E s₂) E s₁) E s) :
  wpAny (model prog w) A (eval (.Subscript value slice pos) env) Q E s:=by
 refine Subscript_ (wpAny_mono h (fun o s₁ h₁=>wpAny_mono h₁ (fun i s₂ h₂=>?_) fun _ _ x=>x) fun _ _ x=>x)
 obtain ⟨hT,h₂⟩:=h₂
 unfold subscriptTail
 refine wpAny_bind ?_
 rw [getitemInPython_of_ne hT.not_modules]
 refine wpAny_bind (wpAny_specialOf hT hl ?_)
 have fin:wpAny (model prog w) A (subscripted slice false o i) (fun r s₃=>wpAny (model prog w) A (letTemporaryGo value o r >>= fun _=>pure r) Q E s₃) E s₂:=by
  rw [hs o i]
  exact wpAny_operating (wpAny_mono h₂ (fun r s₃ h₃=>wpAny_bind (wpAny_letTemporaryGo (wpAny_pure h₃))) fun _ _ x=>x)
 first
  |exact wpAny_pure (wpAny_bind fin)
  |exact wpAny_bind (wpAny_pure (wpAny_bind fin))
  |exact wpAny_bind fin
theorem xY {X:Cx} {pins:List (Addr×Obj)} {σ:St} {H:Hp} {s:Shared} {a:Addr} {y:V} {o:Option V} (I:Inv X pins σ H s) (g:DGet H a y o):s.TypeIs (.ref a) "dict":=by
 rcases g with ⟨kvs,k,e,_,_⟩|⟨kvs,k,b,e,_,_,_⟩
 ·obtain ⟨_,_,vs,_,dd⟩:=iO I.hok e
  exact dd.typeIs
 ·obtain ⟨_,_,xs,_,dd⟩:=rQ I.hok e
  exact dd.typeIs
def E6 (td ty:TE):TE:=fun σ H Q=>td σ H fun x H1=>ty σ H1 fun y H2=>∃a v,x=.ref a∧DGet H2 a y (some v)∧Q v H2
section
variable {X:Cx} {o i e value:Expr} {pos pos' tpos:Pos} {td ty tv:TE}
theorem pF (hu:X.A.units+1<cLine) (ho:PE X o td) (hi:PE X i ty) (hs:sB i):PE X (.Subscript o i pos) (E6 td ty):=by
 intro pins s σ H Q I h
 refine CT PySem.F.slot_dict_getitem.lookup hs (jN (ho pins s σ H _ I h) fun u s1 ⟨x,H1,I1,rx,q1⟩=>jN (hi pins s1 σ H1 _ I1 q1) fun iv s2 ⟨y,H2,I2,ry,a,v,ex,g,q2⟩=>?_)
 subst ex
 obtain rfl:u=Value.ref a:=rx
 exact ⟨xY I2 g,BO hu I2 g ry fun w' s3 I3 rw'=>⟨v,H2,I3,rw',q2⟩⟩
end
theorem CM {P:Program} {w:World} {H:Hp} (h:Heap) (hb:sysModules<h.objs.size):ObjOk P w H (h.push {cls:=.type "dict",data:=.dict #[]}) h.objs.size (.dK []) :=
 ⟨Nat.zero_le _,beq_eq_false_iff_ne.mpr (Ne.symm (Nat.ne_of_lt hb)),[],.nil,Heap.DictOf.new h⟩
section
variable {X:Cx} {pos:Pos}
end
def iA:List (TE×TE)→St→Hp→(List (V×V)→Hp→Prop)→Prop
 |[],_,H,Q=>Q [] H
 | (tk,tv)::r,σ,H,Q=>tk σ H fun x H1=>tv σ H1 fun y H2=>iA r σ H2 fun ps H3=>Q ((x,y)::ps) H3
abbrev VV:List (V×V)→List (Value×Value)→Prop:=Paired fun p q=>RelV p.1 q.1∧RelV p.2 q.2
def fC (X:Cx) (pos:Pos) (keys:List (Option Expr)) (values:List Expr) (trs:List (TE×TE)):Prop :=
 ∀(pins:List (Addr×Obj)) (s:Shared) (σ:St) (H:Hp) (Q:List (V×V)→Hp→Prop),Inv X pins σ H s→iA trs σ H Q→
  wpAny (model X.prog X.w) X.A (evalPairs (pairTrees keys values X.env pos)) (fun vs s'=>∃ps H',Inv X pins σ H' s'∧VV ps vs∧Q ps H') X.xe s
theorem C3 {X:Cx} {pos:Pos}:fC X pos [] [] []:=fun pins s σ H Q I h=>pairTrees_nil_walk ⟨[],H,I,.nil,h⟩
theorem eB {X:Cx} {pos:Pos} {k v:Expr} {ks:List (Option Expr)} {vs:List Expr} {tk tv:TE} {trs:List (TE×TE)} (hk:PE X k tk) (hv:PE X v tv) (hr:fC X pos ks vs trs) :
  fC X pos (some k::ks) (v::vs) ((tk,tv)::trs):=fun pins s σ H Q I h =>
 pairTrees_cons_walk (jN (hk pins s σ H _ I h) fun u s1 ⟨x,H1,I1,rx,q1⟩=>jN (hv pins s1 σ H1 _ I1 q1) fun w2 s2 ⟨y,H2,I2,ry,q2⟩ =>
  jN (hr pins s2 σ H2 _ I2 q2) fun ws s3 ⟨ps,H3,I3,rel,q3⟩=>⟨(x,y)::ps,H3,I3,.cons ⟨rx,ry⟩ rel,q3⟩)
def Z0 (kvs more:List (j5×V)):List (j5×V):=more.foldl (fun acc kv=>vS acc kv.1 kv.2) kvs
theorem KV.merge:∀{more:List (j5×V)} {rs:List (j5×Value)} {kvs:List (j5×V)} {vs:List (j5×Value)},KV more rs→KV kvs vs→KV (Z0 kvs more) (merged vs rs):=by
 intro more rs kvs vs r
 unfold KV at r
 induction r generalizing kvs vs with
 |nil=>intro q;exact q
 |@cons p q ps qs h t ih =>
  intro r0
  have e:KV (vS kvs p.1 p.2) (stored vs q.1 q.2):=by
   have:=r0.put p.1 h.2
   rw [← h.1];exact this
  exact ih e
theorem lK:∀(more kvs:List (j5×V)),(Z0 kvs more).length≤kvs.length+more.length
 |[],kvs=>by show kvs.length≤kvs.length+0;omega
 |p::r,kvs=>by
  have h1:=lK r (vS kvs p.1 p.2)
  have h2:=xX kvs p.1 p.2
  show (Z0 (vS kvs p.1 p.2) r).length≤_
  rw [List.length_cons];omega
theorem mE {P:Program} {w:World}:∀{kvs:List (j5×V)} {ws:List (Value×Value)},VV (kvs.map fun kv=>(kV kv.1,kv.2)) ws→∃rs,Carries (vO P w) ws rs∧KV kvs rs
 |[],_,r=>by rw [List.map_nil] at r;cases r;exact ⟨[],True.intro,.nil⟩
 |p::kvs,_,r=>by
  rw [List.map_cons] at r
  cases r with
  |@cons a b as bs h t =>
   obtain ⟨rs,c,q⟩:=mE (P:=P) (w:=w) t
   obtain ⟨b1,b2⟩:=b
   exact ⟨(p.1,b2)::rs,⟨iL h.1,rfl,c⟩,.cons ⟨rfl,h.2⟩ q⟩
def E5 (trs:List (TE×TE)):TE:=fun σ H Q=>∀p,H p=none→iA trs σ (upd H p (.dK [])) fun ps H2=>H2 p=some (.dK [])∧∃kvs:List (j5×V),ps=kvs.map (fun kv=>(kV kv.1,kv.2))∧kvs.length≤15∧Q (.ref p) (upd H2 p (.dK (Z0 [] kvs)))
theorem C7 {X:Cx} {pos:Pos} {keys:List (Option Expr)} {values:List Expr} {trs:List (TE×TE)} (h:fC X pos keys values trs) (hall:keys.all (·.isSome)=true) (hl:keys.length=values.length) (h0:keys≠[])
  (h15:keys.length≤15):PE X (.Dict keys values pos) (E5 trs):=by
 intro pins s σ H Q I q
 have hn:=I.hok.fresh (Nat.le_refl s.heap.objs.size)
 have I1:=I.laid (a:=s.heap.objs.size) (o:=.dK []) (h':=s.heap.push {cls:=.type "dict",data:=.dict #[]}) (t':=s.toks) (fun _ _ q=>Heap.get?_push_of_some _ q) (Nat.le_refl _) (CM s.heap I.big)
 refine wpAny_Dict_walk (knd:=vO X.prog X.w) hall hl h0 h15 (jN (h pins _ σ _ _ I1 (q _ hn)) fun ws s2 ⟨ps,H2,I2,rel,e,kvs,ep,lk,q2⟩=>?_)
 subst ep
 obtain ⟨rs,c,rk⟩:=mE (P:=X.prog) (w:=X.w) rel
 obtain ⟨z,hd,vs0,r0,dd⟩:=FS I2.hok e
 cases r0
 refine ⟨rs,c,dd,fun h' dd' hs=>⟨.ref s.heap.objs.size,_,?_,rfl,q2⟩⟩
 have hz:(Z0 [] kvs).length≤sizeLine:=by
  have h1:=lK kvs []
  rw [List.length_nil] at h1
  rw [sizeLine_eq];omega
 have he:∃q,h'.get? s.heap.objs.size=some q:=let ⟨q,_,_,hq,_⟩:=dd';⟨q,hq⟩
 exact DQ I2 (by rw [e];exact True.intro) hs he (EV hz hd (rk.merge .nil) dd')
end L2
namespace L2
open PySem PySem.Spec PyProof.Rows
section
variable {X:Cx} {tg:Expr}
end
section
variable {X:Cx}
end
end L2
namespace L2
open PySem PySem.Spec PyProof.Rows
inductive Kd where
 |plain|basin|pump
structure MeK (P:Program) (w:World) (K:PySem.W.Frag) (mg:Str→Option Value) (base:Heap) (k:Nat) (cs:Kd→Addr) (m:Str) (ps:List Str) (ss:Kd→Sp):Prop where
 ex:∀kd,MeD P w K mg base k (cs kd) m ps (ss kd)
def DV (cs:Kd→Addr) (m:Str) (ss:Kd→Sp) (ta:TE) (t:TA):TE:=fun σ H Q=>ta σ H fun x H1=>∃(kd:Kd) (a dx:Addr) (fs:List (Str×V)),x=.ref a∧H1 a=some (.ins (cs kd) dx fs)∧fs.lookup m=none∧
 t σ H1 fun vs H2=>ss kd (x::vs) H2 Q E0
section
variable {X:Cx} {k k':Nat} {x m:Str} {cs:Kd→Addr} {ps:List Str} {ss:Kd→Sp} {p pos apos:Pos} {o e:Expr} {es:List Expr} {ta:TE} {t:TA}
theorem rN {pl:Sem Bool} (M:MeK X.prog X.w X.K X.mg X.base k cs m ps ss) (hr:Room k' X.A) (ho:PE X o ta) (ha:PA X (e::es) t) (hk:k≤k':=by decide)
  (hst:starEach (e::es) X.env=(false,eval e X.env)::starEach es X.env:=by rfl) (hpl:(backTo pos (starEach es X.env)).any (·.1)=false:=by rfl)
  (ht:eval (.Call (.Attribute o m apos) (e::es) [] pos) X.env=(do
   let ov ← eval o X.env
   standAt apos.atName
   let (f,first) ← holding [ov] (getMethod ov m pl)
   callWith pos f first (backTo pos (starEach (e::es) X.env)) (backToKw pos (keywordEach [] X.env))):=by rfl) :
  PE X (.Call (.Attribute o m apos) (e::es) [] pos) (DV cs m ss ta t):=by
 intro pins s σ H Q I h
 refine PySem.W.methodCall_KW (pl:=pl) (jN (ho pins s σ H _ I h) fun u s1 ⟨x,H1,I1,rx,kd,a,dx,fs,ex,ea,l,q⟩=>?_) ht
 obtain ⟨c,f,fd,hm,G,b⟩:=(M.ex kd).ex
 subst ex
 obtain rfl:u=Value.ref a:=rx
 refine fV I1 ea c hm l ?_
 refine PySem.W.callWith_K (first:=[.ref a]) (h₀:=X.base) I.ok.mod.kin hm.kp (jN (ha pos pins s1 σ H1 _ I1 q) fun us s2 ⟨vs,H2,I2,r,q2⟩=>⟨I2.kIn,?_⟩) hst hpl
 exact cK (us:=.ref a::us) (vs:=.ref a::vs) (dvs:=[]) G (hr.mono hk) b .nil bA I2 (.cons rfl r) (by rw [List.append_nil];exact q2)
end
end L2
namespace L2
open PySem PySem.Spec PyProof.Rows
section
variable {X:Cx} {tg:Expr}
end
section
variable {X:Cx}
end
end L2
namespace L2
open PySem PySem.Spec PyProof.Rows
section
variable {X:Cx} {K:PySem.W.Frag} {w:World} {o i:Expr} {pos:Pos} {td ty:TE}
end
end L2
namespace L2
open PySem PySem.Spec PyProof.Rows
inductive DEq (K:PySem.W.Frag) (H:Hp):V→V→Bool→Prop where
 |flat {x y:V} (hx:qH x=true) (hy:qH y=true):DEq K H x y (qN x y)
 |same (a:Addr):DEq K H (.ref a) (.ref a) true
 |tup {a b:Addr} {xs ys:List V} (ne:a≠b) (ha:SqT K H a xs) (hb:SqT K H b ys) (fx:xs.all qH=true) (fy:ys.all qH=true):DEq K H (.ref a) (.ref b) (qI xs ys)
 |lst {a b:Addr} {xs ys:List V} (ne:a≠b) (ha:SqL K H a xs) (hb:SqL K H b ys) (fx:xs.all qH=true) (fy:ys.all qH=true):DEq K H (.ref a) (.ref b) (qI xs ys)
section
variable {X:Cx} {pins:List (Addr×Obj)} {σ:St} {H:Hp} {s:Shared} {A:Around}
theorem DEq.at {x y:V} {u v:Value} {e:Bool} (I:Inv X pins σ H s) (d:DEq X.K H x y e) (rx:RelV x u) (ry:RelV y v) (hu:A.units<cLine):SeqAt.EqAt A s u v e:=by
 cases d with
 |flat hx hy=>exact Z5 rx ry hx hy
 |same a=>cases rx;cases ry;exact SeqAt.EqAt.same _
 |@tup a b xs ys ne ha hb fx fy =>
  cases rx;cases ry
  obtain ⟨its,r,pl,hz⟩:=I.tuple ha
  obtain ⟨its2,r2,pl2,hz2⟩:=I.tuple hb
  have hl:=r.length
  have hl2:=r2.length
  have h:=SeqAt.RcAt.tuples (A:=A) (e:=fun j=>qN (xs.getD j .non) (ys.getD j .non)) pl pl2 hu (fun j h1 h2=>Z5 (zR r h1) (zR r2 h2) (zS fx (by rw [hl];simpa using h1)) (zS fy (by rw [hl2];simpa using h2)))
  have e:((List.range (min its.toArray.size its2.toArray.size)).all (fun j=>qN (xs.getD j .non) (ys.getD j .non))&&its.toArray.size == its2.toArray.size)=qI xs ys:=by
   unfold qI
   rw [List.size_toArray,List.size_toArray,← hl,← hl2]
  rw [e] at h
  exact SeqAt.EqAt.of_refs ne h
 |@lst a b xs ys ne ha hb fx fy =>
  cases rx;cases ry
  obtain ⟨its,r,pl,hz⟩:=I.list ha
  obtain ⟨its2,r2,pl2,hz2⟩:=I.list hb
  have hl:=r.length
  have hl2:=r2.length
  by_cases he:xs.length=ys.length
  ·have h:=SeqAt.RcAt.lists (A:=A) (e:=fun j=>qN (xs.getD j .non) (ys.getD j .non)) pl.isList pl2.isList (by rw [List.size_toArray,List.size_toArray,← hl,← hl2,he]) hu (fun j h1 h2=>Z5 (zR r h1) (zR r2 h2) (zS fx (by rw [hl];simpa using h1)) (zS fy (by rw [hl2];simpa using h2)))
   have e:((List.range its.toArray.size).all (fun j=>qN (xs.getD j .non) (ys.getD j .non)))=qI xs ys:=by
    unfold qI
    rw [List.size_toArray,← hl,← he,Nat.min_self,beq_self_eq_true,Bool.and_true]
   rw [e] at h
   exact SeqAt.EqAt.of_refs ne h
  ·have hf:qI xs ys=false:=by
    unfold qI
    rw [show (xs.length == ys.length)=false from beq_eq_false_iff_ne.mpr he,Bool.and_false]
   rw [hf]
   exact SeqAt.EqAt.of_refs ne (SeqAt.RcAt.lists_lengths pl.isList pl2.isList (by rw [List.size_toArray,List.size_toArray,← hl,← hl2];exact bne_iff_ne.mpr he) hu)
end
section
variable {X:Cx}
end
end L2
namespace L2
open PySem PySem.Spec PyProof.Rows
end L2
namespace L2
open PySem PySem.Spec PyProof.Rows
end L2
namespace L2
open PySem PySem.Spec PyProof.Rows
end L2
namespace L2
open PySem PySem.Spec PyProof.Rows
section
variable {X:Cx}
end
end L2
namespace L2
open PySem PySem.Spec PyProof.Rows
theorem EJ {X:Cx} (hu:X.A.units<cLine):kU X (compareOp .Eq) (rY X.K false):=by
 intro pins s σ H x y v u Q I rx ry h
 obtain ⟨a,b,xs,ys,rfl,rfl,ha,hb,fx,fy,q⟩:=h
 cases rx
 cases ry
 obtain ⟨its,r,pl,hz⟩:=I.tuple ha
 obtain ⟨its2,r2,pl2,hz2⟩:=I.tuple hb
 have hl:=r.length
 have hl2:=r2.length
 refine SeqAt.eq_tupleAt (e:=fun j=>qN (xs.getD j .non) (ys.getD j .non)) pl pl2 hu (fun j h1 h2=>?_) ⟨.bl _,H,I,rfl,?_⟩
 ·exact Z5 (zR r h1) (zR r2 h2) (zS fx (by rw [hl];simpa using h1)) (zS fy (by rw [hl2];simpa using h2))
 ·have e:((List.range (min its.toArray.size its2.toArray.size)).all (fun j=>qN (xs.getD j .non) (ys.getD j .non))&&its.toArray.size == its2.toArray.size)=qI xs ys:=by
   unfold qI
   rw [List.size_toArray,List.size_toArray,← hl,← hl2]
  rw [e]
  exact q
end L2
namespace L2
open PySem PySem.Spec PyProof.Rows
section
variable {X:Cx}
end
end L2
namespace L2
open PySem PySem.Spec PyProof.Rows
end L2
namespace L2
open PySem PySem.Spec PyProof.Rows
section
variable {X:Cx} {tg:Expr}
end
end L2
namespace L2
open PySem PySem.Spec PyProof.Rows
end L2
namespace L2
open PySem PySem.Spec PyProof.Rows
section
variable {X:Cx} {pins:List (Addr×Obj)} {σ:List (Option V)} {H:Hp} {s:Shared} {h':Heap}
theorem Inv.turnedN {t':Nat} {fp:List Addr} (I:Inv X pins σ H s) (k:∀b o,b∉fp→s.heap.get? b=some o→h'.get? b=some o) (hf:∀b∈fp,yD X pins H b):Inv X pins σ H {s with heap:=h',toks:=t'}:=by
 have nit:∀b u,H b=some u→b∉fp:=fun b u e z=>by rw [(hf b z).1] at e;cases e
 have hL:X.env.locals∉fp:=fun z=>(hf _ z).2.1 rfl
 refine I.step (g':=s.gens) (d':=s.drawn) (ch:=fp) (fun b hb=>?_) (fun b o _ _ hc e _=>k b o hc e) (fun b o _ _ hc e _=>⟨o.slots,k b o hc e⟩) (fun _ _ _ _ n=>n)
  (fun b o hc e=>⟨o,k b o hc e⟩) (fun _ _ e=>e) (fun _ _ _ e=>e) (fun b ps e=>⟨#[],by rw [e];simp⟩) (fun m hm=>?_) (fun b u e=>?_) I.bare
 ·obtain ⟨f0,f1,f2,f3,f4,f5⟩:=hf b hb
  exact ⟨f3,f1,f4,f5⟩
 ·obtain ⟨o,es,ep,ho,r⟩:=hm
  exact ⟨o,es,ep,k _ o hL ho,r⟩
 ·refine (I.hok b u e).stay (fun c v hc q=>k c v ?_ q) (fun _ q=>q) fun _ _ q=>q
  rcases hc with z|z
  ·rw [z];exact nit b u e
  ·exact nit c _ z
theorem Inv.laidN {t':Nat} {fp:List Addr} {a:Addr} {o:HO} (I:Inv X pins σ H s) (k:∀b u,b∉fp→s.heap.get? b=some u→h'.get? b=some u) (hf:∀b∈fp,yD X pins H b) (hp:s.heap.objs.size≤a) (new:ObjOk X.prog X.w (upd H a o) h' a o) :
  Inv X pins σ (upd H a o) {s with heap:=h',toks:=t'}:=by
 have hn:=I.hok.fresh hp
 have nit:∀b u,H b=some u→b∉fp:=fun b u e z=>by rw [(hf b z).1] at e;cases e
 have hL:X.env.locals∉fp:=fun z=>(hf _ z).2.1 rfl
 refine I.step (g':=s.gens) (d':=s.drawn) (ch:=fp) (fun b hb=>?_) (fun b o _ _ hc e _=>k b o hc e) (fun b o _ _ hc e _=>⟨o.slots,k b o hc e⟩) (fun b u _ e n=>?_)
  (fun b o hc e=>⟨o,k b o hc e⟩) (fun b xs e=>?_) (fun b u v e=>?_) (fun b ps e=>⟨#[],?_⟩) (fun m hm=>?_) (fun b u e=>?_) I.bare
 ·obtain ⟨f0,f1,f2,f3,f4,f5⟩:=hf b hb
  exact ⟨f3,f1,f4,f5⟩
 ·rw [j6 (Nat.ne_of_lt (Nat.lt_of_lt_of_le (Heap.lt_size e) hp))];exact n
 ·rw [j6 (qJ e hn)];exact e
 ·rw [j6 (qJ e hn)];exact e
 ·rw [j6 (qJ e hn),e];simp
 ·obtain ⟨o,es,ep,ho,r⟩:=hm
  exact ⟨o,es,ep,k _ o hL ho,r⟩
 ·by_cases hb:b=a
  ·subst hb;rw [jE] at e;cases e;exact new
  ·rw [j6 hb] at e
   refine (I.hok b u e).stay (fun c v hc q=>k c v ?_ q) (fun c q=>by rw [j6 (qJ q hn)];exact q) fun c xs q=>by rw [j6 (qJ q hn)];exact q
   rcases hc with z|z
   ·rw [z];exact nit b u e
   ·exact nit c _ z
end
def i7 (K:PySem.W.Frag) (a:Addr):It :=
 ⟨fun i H=>∃xs x,SqL K H a xs∧xs[i]?=some x,
  fun i H v H'=>∃T x,v=.ref T∧H T=none∧H'=upd H T (.tup [.int (i:Int),x])∧∀xs,SqL K H a xs→xs[i]?=some x,
  fun i H=>∃xs,SqL K H a xs∧xs.length≤i⟩
theorem A0 {P:Program} {w:World} {K:PySem.W.Frag} {elts:List Expr} {x1:Nat} {pos:Pos} {a e it:Addr} (hei:e≠it) :
  Turn P w K (.Tuple elts x1 pos) (i7 K a) [e,it] e (fun i h=>(∃old,IsEnum h e it i old)∧h.IsListIter it a i) where
 mem:=by simp
 obj:=fun i h st b hb=>by
  obtain ⟨⟨old,he⟩,⟨o1,e1,c1,d1⟩⟩:=st
  simp only [List.mem_cons,List.mem_nil_iff,or_false] at hb
  rcases hb with rfl|rfl
  ·exact ⟨_,he,fun v y=>by have y':Data.fields _=Data.cell v:=y;cases y'⟩
  ·exact ⟨o1,e1,fun v y=>by rw [d1] at y;cases y⟩
 keep:=fun i h h' st k=>by
  obtain ⟨⟨old,he⟩,h1⟩:=st
  exact ⟨⟨old,k _ (by simp) _ he⟩,h1.at fun o e=>k _ (by simp) o e⟩
 item:=by
  intro X hP hw hK hc i pins s σ H E I hf st hg
  subst hP hw hK
  obtain ⟨⟨old,he⟩,h1⟩:=st
  obtain ⟨xs,x,hq1,hx⟩:=hg
  obtain ⟨its1,rv1,p1,_⟩:=I.list hq1
  obtain ⟨u,hu,ru⟩:=rv1.get hx
  refine wpAny_pyNext_enum_item he h1 p1.isList (x:=u) (by simpa using hu) hei fun h' he' h1' hT' hsz hk=>?_
  refine ⟨_,rfl,?_⟩
  refine wpAny_letOwnedTupleGo_enum he' fun h2 he2 hs2=>?_
  have lt:∀{b:Addr} {o:Obj},s.heap.get? b=some o→b<s.heap.objs.size:=fun e=>Heap.lt_size e
  have nT:s.heap.objs.size≠e:=Nat.ne_of_gt (lt he)
  have k2:∀b o,b∉[e,it]→s.heap.get? b=some o→h2.get? b=some o:=fun b o hb q=>by
   simp only [List.mem_cons,List.mem_nil_iff,or_false,not_or] at hb
   exact (hs2.2 b hb.1).trans (hk b o hb.1 hb.2 q)
  have hT2:=(hs2.2 _ nT).trans hT'
  refine ⟨.ref s.heap.objs.size,upd H s.heap.objs.size (.tup [.int (i:Int),x]),I.laidN (t':=s.toks+1) (fp:=[e,it]) k2 hf (Nat.le_refl _) ⟨(by show 2≤sizeLine;decide),[.int i s.toks,u],.cons ⟨_,rfl⟩ (.cons ru .nil),⟨_,hT2,rfl,_,rfl⟩⟩,rfl,?_,?_,?_⟩
  ·exact ⟨_,x,rfl,I.hok.fresh (Nat.le_refl _),rfl,fun zs hzs=>by rw [I.list_inj hzs hq1];exact hx⟩
  ·exact ⟨⟨_,he2⟩,h1'.at fun o q=>(hs2.2 _ hei.symm).trans q⟩
  ·intro b hb
   have:=(hf b hb).1
   rw [j6]
   ·exact this
   ·intro q
    simp only [List.mem_cons,List.mem_nil_iff,or_false] at hb
    obtain ⟨o1,e1,_⟩:=h1
    rcases hb with rfl|rfl
    ·exact nT q.symm
    ·exact Nat.ne_of_lt (lt e1) q
 done:=by
  intro X hP hw hK hc i pins s σ H E I hf st hg
  subst hP hw hK
  obtain ⟨⟨old,he⟩,h1⟩:=st
  obtain ⟨xs,hq1,hx⟩:=hg
  obtain ⟨its1,rv1,p1,_⟩:=I.list hq1
  have l1:=rv1.length
  refine wpAny_pyNext_enum_end (I.ok.hd hc) he h1 p1.isList (by simp;omega) fun h' hk=>⟨rfl,I.turnedN (t':=s.toks) (fp:=[e,it]) (fun b o hb q=>?_) hf⟩
  simp only [List.mem_cons,List.mem_nil_iff,or_false,not_or] at hb
  exact hk b o hb.2 q
 self:=fun _ _ _ _ _ st h=>by obtain ⟨⟨old,he⟩,_⟩:=st;exact wpAny_pyIter_enum he h
section
variable {X:Cx} {elts:List Expr} {x1:Nat} {tpos:Pos}
def FQ (K:PySem.W.Frag) (ta:TA):TI:=fun σ H R=>ta σ H fun vs H1=>∃a,vs=[.ref a]∧(∃xs,SqL K H1 a xs)∧R (i7 K a) H1
theorem pE {a:Expr} {ta:TA} {p pos:Pos} (hg:Gl X "enumerate") (hm:X.mg "enumerate"=none) (ha:PA X [a] ta) (hs:starEach [a] X.env=[(false,eval a X.env)]:=by rfl) :
  PI X (.Tuple elts x1 tpos) (.Call (.Name "enumerate" p) [a] [] pos) (FQ X.K ta):=by
 intro pins s σ H R I h
 refine Call_ (Z2 I hg hm boot_enumerate (PyProof.Rows.callWith_type1 (jN (ha pos pins s σ H _ I h) fun us s1 ⟨vs,H1,I1,r1,q1⟩=>?_) hs rfl))
 obtain ⟨a1,e,⟨xs,hq1⟩,q⟩:=q1
 subst e
 cases r1 with
 |cons r rr =>
  cases rr
  cases r
  obtain ⟨its1,rv1,p1,_⟩:=I1.list hq1
  refine call_enumerate_list p1.isList fun h' he hit hsz hk=>?_
  refine wpAny_pyIter_enum he ?_
  refine ⟨_,_,_,_,H1,rfl,I1.kept (t':=s1.toks) hk,A0 (Nat.succ_ne_self _),⟨⟨_,he⟩,hit⟩,fun b hb=>?_,q⟩
  simp only [List.mem_cons,List.mem_nil_iff,or_false] at hb
  have hb':s1.heap.objs.size≤b:=by rcases hb with rfl|rfl<;>simp only [Addr] at *<;>omega
  exact I1.fpOk hb' (I1.hok.fresh hb')
end
end L2
namespace L2
open PySem PySem.Spec PyProof.Rows
end L2
namespace L2
open PySem PySem.Spec PyProof.Rows
section
variable {X:Cx}
def cW (F:Addr→Bool) (xs:List V):Bool:=xs.any fun z=>match z with|.ref a=>F a|_=>false
def cT (F:Addr→Bool):Value→Bool
 |.ref a=>F a
 |_=>false
theorem oW {F:Addr→Bool}:∀{xs:List V} {us:List Value},Vals xs us→(∀z∈xs,∃a,z=.ref a)→us.any (cT F)=cW F xs
 |[],_,r,_=>by cases r;rfl
 |x::xs,_,r,h=>by
  cases r with
  |@cons _ u _ us ru rt =>
   obtain ⟨a,rfl⟩:=h x List.mem_cons_self
   cases ru
   have ih:=oW (F:=F) rt fun z hz=>h z (List.mem_cons_of_mem _ hz)
   show (F a||us.any (cT F))=(F a||cW F xs)
   rw [ih]
def C0 (K:PySem.W.Frag):R2:=fun x y H Q=>∃(p:Addr) (xs:List V) (F:Addr→Bool),y=.ref p∧SqL K H p xs∧(∀z∈xs,∃a,z=.ref a∧DEq K H (.ref a) x (F a))∧Q (.bl (!cW F xs)) H
theorem BA (hu:X.A.units+1<cLine):kU X (compareOp .NotIn) (C0 X.K):=by
 intro pins s σ H x y v u Q I rx ry h
 obtain ⟨p,xs,F,rfl,hq,hd,q⟩:=h
 cases ry
 obtain ⟨its,r,pl,hz⟩:=I.list hq
 have hm:∀w∈its,∃a,w=.ref a∧V.ref a∈xs:=by
  have key:∀{xs:List V} {us:List Value},Vals xs us→(∀z∈xs,∃a,z=.ref a)→∀w∈us,∃a,w=.ref a∧V.ref a∈xs:=by
   intro xs us r
   induction r with
   |nil=>intro _ w hw;cases hw
   |@cons x u xs us ru rt ih =>
    intro h w hw
    rcases List.mem_cons.mp hw with rfl|hw
    ·obtain ⟨a,rfl⟩:=h x List.mem_cons_self
     cases ru
     exact ⟨a,rfl,List.mem_cons_self⟩
    ·obtain ⟨a,e,ha⟩:=ih (fun z hz=>h z (List.mem_cons_of_mem _ hz)) w hw
     exact ⟨a,e,List.mem_cons_of_mem _ ha⟩
  exact key r fun z hz=>let ⟨a,e,_⟩:=hd z hz;⟨a,e⟩
 refine SeqAt.notIn_listAt (cT F) pl.isList (fun w hw=>?_) ⟨.bl _,H,I,rfl,?_⟩
 ·obtain ⟨a,rfl,ha⟩:=hm w (by simpa using hw)
  obtain ⟨a',e,hde⟩:=hd _ ha
  cases e
  exact hde.at I rfl rx hu
 ·rw [show its.toArray.any (cT F)=its.any (cT F) by simp,oW r fun z hz=>let ⟨a,e,_⟩:=hd z hz;⟨a,e⟩]
  exact q
end
end L2
namespace L2
open PySem PySem.Spec PyProof.Rows
section
variable {prog:Program} {w:World} {A:Around} {s:Shared} {E:Value→Shared→Prop}
theorem lX {j p:Addr} {i:Nat} {vs:Array Value} {v:Value} {Q:Value→Shared→Prop} (hj:s.heap.IsTupleIter j p i) (hp:s.heap.IsTuple p vs) (hv:vs[i]?=some v) (q:∀h',h'.IsTupleIter j p (i+1)→Heap.SameBut j s.heap h'→Q v {s with heap:=h'}):wpAny (model prog w) A (Builtin.SmallTypes.nextOf (.ref j)) Q E s:=by
 obtain ⟨oj,ej,cj,dj⟩:=id hj;obtain ⟨op,ep,_,np,dp⟩:=hp;unfold Builtin.SmallTypes.nextOf
 refine wpAny_bind (wpAny_callSpecial?_slot (name:=Str.ofString "__next__") hj.typeIs F.slot_tuple_iterator_next (wpAny_call_entry F.slot_tuple_iterator_next hj.typeIs F.entry_tuple_iterator_next ?_ (F.args_tuple_iterator_next_1 _)))
 show wpAny _ _ (field (.ref j) 0 >>= _) _ _ s
 refine wpAny_bind (wpAny_field ej dj (x:=.ref p) rfl ?_)
 show wpAny _ _ (if (Value.ref p == Value.none)=true then _ else _) _ _ s
 rw [if_neg (show ¬((Value.ref p == Value.none)=true) from Bool.false_ne_true)]
 show wpAny _ _ (field (.ref j) 1 >>= _) _ _ s
 refine wpAny_bind (wpAny_field ej dj (x:=.int i 0) rfl ?_)
 show wpAny _ _ (seqItems? (.ref p) >>= _) _ _ s
 refine wpAny_bind (wpAny_seqItems ep dp ?_)
 simp only [Int.toNat_natCast,hv]
 refine wpAny_bind (wpAny_setField ej dj (by simp) (wpAny_pure ⟨v,rfl,wpAny_pure (q _ ?_ (Heap.SameBut.update ..))⟩))
 exact ⟨_,Heap.get?_update_self _ ej (Obj.isFreed_of_fields (Obj.data_mapFields dj _)),(Obj.cls_mapFields ..).trans cj,by rw [Obj.data_mapFields dj];simp [rawInt]⟩
theorem gC {j p:Addr} {i:Nat} {vs:Array Value} {Q:Value→Shared→Prop} (hh:A.handled=none) (hj:s.heap.IsTupleIter j p i) (hp:s.heap.IsTuple p vs) (hv:vs[i]?=none)
  (q:∀h' e,Heap.ExtBut j s.heap h'→(∃o,h'.get? e=some o∧o.cls=.type "StopIteration")→E (.ref e) {s with heap:=h'}):wpAny (model prog w) A (Builtin.SmallTypes.nextOf (.ref j)) Q E s:=by
 obtain ⟨oj,ej,cj,dj⟩:=id hj;obtain ⟨op,ep,_,np,dp⟩:=hp;unfold Builtin.SmallTypes.nextOf
 refine wpAny_bind (wpAny_callSpecial?_slot (name:=Str.ofString "__next__") hj.typeIs F.slot_tuple_iterator_next (wpAny_call_entry F.slot_tuple_iterator_next hj.typeIs F.entry_tuple_iterator_next ?_ (F.args_tuple_iterator_next_1 _)))
 show wpAny _ _ (field (.ref j) 0 >>= _) _ _ s
 refine wpAny_bind (wpAny_field ej dj (x:=.ref p) rfl ?_)
 show wpAny _ _ (if (Value.ref p == Value.none)=true then _ else _) _ _ s
 rw [if_neg (show ¬((Value.ref p == Value.none)=true) from Bool.false_ne_true)]
 show wpAny _ _ (field (.ref j) 1 >>= _) _ _ s
 refine wpAny_bind (wpAny_field ej dj (x:=.int i 0) rfl ?_)
 show wpAny _ _ (seqItems? (.ref p) >>= _) _ _ s
 refine wpAny_bind (wpAny_seqItems ep dp ?_)
 simp only [Int.toNat_natCast,hv]
 refine wpAny_bind (wpAny_rule (wpAny_bind (wpAny_setField ej dj (by simp) ?_)));refine wpAny_bind ?_
 simp only [newExc,newTuple];refine wpAny_bind (wpAny_newObj_type ?_ (by size_fits))
 refine wpAny_bind (m:=firstArgMember _ _) (wpAny_of_eq (a:=Value.none) (by first|rfl|(simp only [firstArgMember];rfl)) ?_);refine wpAny_newObj_type ?_ (by size_fits)
 simp only [raiseNew];refine wpAny_bind (wpAny_handled ?_);(first|rw [show A.in1.handled=none from hh]|rw [hh])
 refine wpAny_bind (wpAny_pure (wpAny_throw ?_));exact q _ _ (((Heap.SameBut.update ..).extBut.push _).push _) ⟨_,Heap.get?_push_size _ rfl,rfl⟩
theorem AU {z P1 P2 j1 j2 a b:Addr} {k:Nat} {us vs:Array Value} {u v g g':Value} {Q:Value→Shared→Prop} (D:ZipApart z P1 P2 j1 j2 a b)
  (hz:IsZip s.heap z P1 P2 .none) (hP1:IsPair s.heap P1 (.ref j1) (.ref j2)) (hP2:IsPair s.heap P2 g g') (n1:s.heap.IsListIter j1 a k) (n2:s.heap.IsTupleIter j2 b k) (la:s.heap.IsList a us) (tb:s.heap.IsTuple b vs) (hu:us[k]?=some u) (hv:vs[k]?=some v)
  (q:∀h',IsZip h' z P1 P2 (rawInt s.heap.objs.size)→IsPair h' P2 u v→h'.IsListIter j1 a (k+1)→h'.IsTupleIter j2 b (k+1)→IsPair h' s.heap.objs.size u v→(∀c o,c≠z→c≠P2→c≠j1→c≠j2→s.heap.get? c=some o→h'.get? c=some o)→Q (.ref s.heap.objs.size) {s with heap:=h'}):wpAny (model prog w) A (Builtin.«zip.__next__» ⟨[.ref z],[]⟩) (fun fin s'=>∃v,fin=.done (.ret v)∧Q v s') E s:=by
 show wpAny _ _ (field (.ref z) 2 >>= _) _ _ _;refine wpAny_bind (wpAny_field hz rfl (x:=.bool false) rfl ?_);show wpAny _ _ (field (.ref z) 3 >>= _) _ _ _
 refine wpAny_bind (wpAny_field hz rfl (x:=.ref P1) rfl ?_);refine wpAny_bind (wpAny_seqItems hP1 rfl ?_)
 show wpAny _ _ (Builtin.SmallTypes.ownedTupleIsFree (.ref z) >>= _) _ _ _;refine wpAny_bind ?_;unfold Builtin.SmallTypes.ownedTupleIsFree
 refine wpAny_bind (wpAny_field hz rfl (x:=.none) rfl (wpAny_pure ?_));simp only [if_true]
 refine wpAny_bind (wpAny_rule ?_);refine wpAny_bind (wpAny_field hz rfl (x:=.ref P2) rfl ?_)
 refine wpAny_bind (wpAny_setField_rec hz (by simp) fun m1 z1 d1=>?_)
 have z1:IsZip m1 z P1 P2 .ellipsis:=z1
 refine wpAny_bind ?_;simp only [List.zipIdx_cons,List.zipIdx_nil,List.forIn_cons,List.forIn_nil]
 refine wpAny_bind (wpAny_bind (wpAny_onRaise ?_));show wpAny _ _ (Builtin.SmallTypes.nextOf (.ref j1) >>= _) _ _ _
 refine wpAny_bind (wpAny_nextOf_list_item (n1.extBut d1.extBut D.i1z) (la.extBut d1.extBut D.l1z) hu fun m2 n12 d2=>wpAny_pure ?_)
 have p2:IsPair m2 P2 g g':=d2.extBut _ _ D.TOi1 (d1.extBut _ _ D.TOz hP2)
 refine wpAny_bind (wpAny_seqItems p2 rfl ?_);refine wpAny_bind (wpAny_updateSeq_pair p2 fun m3 p3 d3=>?_)
 have p3:IsPair m3 P2 u g':=p3
 refine wpAny_bind (wpAny_letGo (wpAny_pure ?_));refine wpAny_bind (wpAny_bind (wpAny_onRaise ?_));show wpAny _ _ (Builtin.SmallTypes.nextOf (.ref j2) >>= _) _ _ _
 refine wpAny_bind (lX (((n2.extBut d1.extBut D.i2z).extBut d2.extBut D.i12.symm).extBut d3.extBut D.TOi2.symm) (((tb.extBut d1.extBut D.l2z).extBut d2.extBut D.l2i1).extBut d3.extBut D.l2TO) hv fun m4 n24 d4=>wpAny_pure ?_)
 have p4:IsPair m4 P2 u g':=d4.extBut _ _ D.TOi2 p3
 refine wpAny_bind (wpAny_seqItems p4 rfl ?_);refine wpAny_bind (wpAny_updateSeq_pair p4 fun m5 p5 d5=>?_)
 have p5:IsPair m5 P2 u v:=p5
 refine wpAny_bind (wpAny_letGo (wpAny_pure (wpAny_pure ?_)));refine wpAny_bind (wpAny_seqItems p5 rfl ?_);refine wpAny_bind (wpAny_newTuple ?_)
 have sz:m5.objs.size=s.heap.objs.size:=by rw [d5.1,d4.1,d3.1,d2.1,d1.1]
 have z5:IsZip m5 z P1 P2 .ellipsis:=d5.extBut _ _ D.TOz.symm (d4.extBut _ _ D.i2z.symm (d3.extBut _ _ D.TOz.symm (d2.extBut _ _ D.i1z.symm z1)))
 have kk:∀c o,c≠z→c≠P2→c≠j1→c≠j2→s.heap.get? c=some o→m5.get? c=some o:=fun c o e1 e2 e3 e4 e=>d5.extBut _ _ e2 (d4.extBut _ _ e4 (d3.extBut _ _ e2 (d2.extBut _ _ e3 (d1.extBut _ _ e1 e))))
 have n15:m5.IsListIter j1 a (k+1):=((n12.extBut d3.extBut D.TOi1.symm).extBut d4.extBut D.i12).extBut d5.extBut D.TOi1.symm
 have n25:m5.IsTupleIter j2 b (k+1):=n24.extBut d5.extBut D.TOi2.symm
 have zl:z<m5.objs.size:=Heap.lt_size z5
 show wpAny _ _ (Builtin.SmallTypes.ownedTupleHandOut (.ref z) (.ref m5.objs.size) >>= _) _ _ _;refine wpAny_bind ?_;unfold Builtin.SmallTypes.ownedTupleHandOut
 have z6:IsZip (m5.push {cls:=.type "tuple",data:=.seq #[u,v]}) z P1 P2 .ellipsis:=Heap.get?_push_of_some _ z5
 refine wpAny_bind (wpAny_setField_rec z6 (by simp) fun m7 z7 d7=>?_)
 have z7:IsZip m7 z P1 P2 (rawInt m5.objs.size):=z7
 refine wpAny_setField_rec z7 (by simp) fun m8 z8 d8=>?_
 have z8:IsZip m8 z P1 P2 (rawInt m5.objs.size):=z8
 have up:∀c o,c≠z→m5.get? c=some o→m8.get? c=some o:=fun c o e1 e=>d8.extBut _ _ e1 (d7.extBut _ _ e1 (Heap.get?_push_of_some _ e))
 have t8:IsPair m8 m5.objs.size u v:=d8.extBut _ _ (Nat.ne_of_gt zl) (d7.extBut _ _ (Nat.ne_of_gt zl) (Heap.get?_push_size _ rfl))
 rw [sz] at z8 t8
 refine wpAny_pure ⟨_,rfl,?_⟩;show Q (.ref m5.objs.size) _;rw [sz]
 exact q m8 z8 (up _ _ D.TOz p5) (n15.at fun o e=>up _ o D.i1z e) (n25.at fun o e=>up _ o D.i2z e) t8 fun c o e1 e2 e3 e4 e=>up c o e1 (kk c o e1 e2 e3 e4 e)
theorem BW {z P1 P2 j1 j2 a b:Addr} {k:Nat} {us vs:Array Value} {g g':Value} {Q:Fin→Shared→Prop} (hh:A.handled=none) (D:ZipApart z P1 P2 j1 j2 a b)
  (hz:IsZip s.heap z P1 P2 .none) (hP1:IsPair s.heap P1 (.ref j1) (.ref j2)) (hP2:IsPair s.heap P2 g g') (n1:s.heap.IsListIter j1 a k) (n2:s.heap.IsTupleIter j2 b k) (la:s.heap.IsList a us) (tb:s.heap.IsTuple b vs) (he:us[k]?=none∨vs[k]?=none)
  (q:∀h' e,(∀c o,c≠z→c≠P2→c≠j1→c≠j2→s.heap.get? c=some o→h'.get? c=some o)→(∃o,h'.get? e=some o∧o.cls=.type "StopIteration")→E (.ref e) {s with heap:=h'}):wpAny (model prog w) A (Builtin.«zip.__next__» ⟨[.ref z],[]⟩) Q E s:=by
 show wpAny _ _ (field (.ref z) 2 >>= _) _ _ _;refine wpAny_bind (wpAny_field hz rfl (x:=.bool false) rfl ?_);show wpAny _ _ (field (.ref z) 3 >>= _) _ _ _
 refine wpAny_bind (wpAny_field hz rfl (x:=.ref P1) rfl ?_);refine wpAny_bind (wpAny_seqItems hP1 rfl ?_)
 show wpAny _ _ (Builtin.SmallTypes.ownedTupleIsFree (.ref z) >>= _) _ _ _;refine wpAny_bind ?_;unfold Builtin.SmallTypes.ownedTupleIsFree
 refine wpAny_bind (wpAny_field hz rfl (x:=.none) rfl (wpAny_pure ?_));simp only [if_true]
 refine wpAny_bind (wpAny_rule ?_);refine wpAny_bind (wpAny_field hz rfl (x:=.ref P2) rfl ?_)
 refine wpAny_bind (wpAny_setField_rec hz (by simp) fun m1 z1 d1=>?_)
 have z1:IsZip m1 z P1 P2 .ellipsis:=z1
 refine wpAny_bind ?_;simp only [List.zipIdx_cons,List.zipIdx_nil,List.forIn_cons,List.forIn_nil]
 refine wpAny_bind (wpAny_bind (wpAny_onRaise ?_));show wpAny _ _ (Builtin.SmallTypes.nextOf (.ref j1) >>= _) _ _ _
 cases hu:us[k]? with
 |none =>
  refine wpAny_bind (wpAny_nextOf_list_end hh (n1.extBut d1.extBut D.i1z) (la.extBut d1.extBut D.l1z) hu fun m2 e d2 st=>?_);obtain ⟨oe,ee,ce⟩:=st
  have z2:IsZip m2 z P1 P2 .ellipsis:=d2 _ _ D.i1z.symm z1
  have ne:e≠z:=fun x=>by subst x;rw [z2] at ee;cases ee;simp at ce
  refine wpAny_setField_rec z2 (by simp) fun m3 _ d3=>q m3 e (fun c o e1 _ e3 _ x=>d3.extBut _ _ e1 (d2 _ _ e3 (d1.extBut _ _ e1 x))) ⟨oe,d3.extBut _ _ ne ee,ce⟩
 |some u =>
  have hv:vs[k]?=none:=by rcases he with h|h;rw [hu] at h;cases h;exact h
  refine wpAny_bind (wpAny_nextOf_list_item (n1.extBut d1.extBut D.i1z) (la.extBut d1.extBut D.l1z) hu fun m2 n12 d2=>wpAny_pure ?_)
  have p2:IsPair m2 P2 g g':=d2.extBut _ _ D.TOi1 (d1.extBut _ _ D.TOz hP2)
  refine wpAny_bind (wpAny_seqItems p2 rfl ?_);refine wpAny_bind (wpAny_updateSeq_pair p2 fun m3 p3 d3=>?_)
  refine wpAny_bind (wpAny_letGo (wpAny_pure ?_));refine wpAny_bind (wpAny_bind (wpAny_onRaise ?_));show wpAny _ _ (Builtin.SmallTypes.nextOf (.ref j2) >>= _) _ _ _
  refine wpAny_bind (gC hh (((n2.extBut d1.extBut D.i2z).extBut d2.extBut D.i12.symm).extBut d3.extBut D.TOi2.symm) (((tb.extBut d1.extBut D.l2z).extBut d2.extBut D.l2i1).extBut d3.extBut D.l2TO) hv fun m4 e d4 st=>?_);obtain ⟨oe,ee,ce⟩:=st
  have z4:IsZip m4 z P1 P2 .ellipsis:=d4 _ _ D.i2z.symm (d3.extBut _ _ D.TOz.symm (d2.extBut _ _ D.i1z.symm z1))
  have ne:e≠z:=fun x=>by subst x;rw [z4] at ee;cases ee;simp at ce
  refine wpAny_setField_rec z4 (by simp) fun m5 _ d5=>q m5 e (fun c o e1 e2 e3 e4 x=>d5.extBut _ _ e1 (d4 _ _ e4 (d3.extBut _ _ e2 (d2.extBut _ _ e3 (d1.extBut _ _ e1 x))))) ⟨oe,d5.extBut _ _ ne ee,ce⟩
end
def iX (K:PySem.W.Frag) (a1 a2:Addr):It :=
 ⟨fun i H=>∃xs ys x y,SqL K H a1 xs∧SqT K H a2 ys∧xs[i]?=some x∧ys[i]?=some y,
  fun i H v H'=>∃T x y,v=.ref T∧H T=none∧H'=upd H T (.tup [x,y])∧(∀xs,SqL K H a1 xs→xs[i]?=some x)∧(∀ys,SqT K H a2 ys→ys[i]?=some y),
  fun i H=>∃xs ys,SqL K H a1 xs∧SqT K H a2 ys∧(xs.length≤i∨ys.length≤i)⟩
theorem AY {P:Program} {w:World} {K:PySem.W.Frag} {elts:List Expr} {x1:Nat} {pos:Pos} {a1 a2 z TI TO i1 i2:Addr} (D:ZipApart z TI TO i1 i2 a1 a2) :
  Turn P w K (.Tuple elts x1 pos) (iX K a1 a2) [z,TI,TO,i1,i2] z (fun i h=>IsZip h z TI TO .none∧IsPair h TI (.ref i1) (.ref i2)∧(∃a b,IsPair h TO a b)∧h.IsListIter i1 a1 i∧h.IsTupleIter i2 a2 i) where
 mem:=by simp
 obj:=fun i h st b hb=>by
  obtain ⟨hz,hTI,⟨p,q,hTO⟩,⟨o1,e1,c1,d1⟩,⟨o2,e2,c2,d2⟩⟩:=st
  simp only [List.mem_cons,List.mem_nil_iff,or_false] at hb
  rcases hb with rfl|rfl|rfl|rfl|rfl
  ·exact ⟨_,hz,fun v y=>by have y':Data.fields _=Data.cell v:=y;cases y'⟩
  ·exact ⟨_,hTI,fun v y=>by have y':Data.seq _ _=Data.cell v:=y;cases y'⟩
  ·exact ⟨_,hTO,fun v y=>by have y':Data.seq _ _=Data.cell v:=y;cases y'⟩
  ·exact ⟨o1,e1,fun v y=>by rw [d1] at y;cases y⟩
  ·exact ⟨o2,e2,fun v y=>by rw [d2] at y;cases y⟩
 keep:=fun i h h' st k=>by
  obtain ⟨hz,hTI,⟨p,q,hTO⟩,h1,h2⟩:=st
  exact ⟨k _ (by simp) _ hz,k _ (by simp) _ hTI,⟨p,q,k _ (by simp) _ hTO⟩,h1.at fun o e=>k _ (by simp) o e,h2.at fun o e=>k _ (by simp) o e⟩
 item:=by
  intro X hP hw hK hc i pins s σ H E I hf st hg
  subst hP hw hK
  obtain ⟨hz,hTI,⟨p,q,hTO⟩,h1,h2⟩:=st
  obtain ⟨xs,ys,x,y,hq1,hq2,hx,hy⟩:=hg
  obtain ⟨its1,rv1,p1,_⟩:=I.list hq1
  obtain ⟨its2,rv2,p2,_⟩:=I.tuple hq2
  obtain ⟨u,hu,ru⟩:=rv1.get hx
  obtain ⟨v,hv,rv⟩:=rv2.get hy
  have hTz:s.TypeIs (.ref z) "zip":=⟨_,hz,rfl⟩
  unfold pyNext
  refine wpAny_bind (wpAny_attempt (wpAny_callSpecial?_slot (name:=Str.ofString "__next__") hTz F.slot_zip_next (wpAny_call_entry F.slot_zip_next hTz F.entry_zip_next (AU D hz hTI hTO h1 h2 p1.isList (show s.heap.IsTuple a2 its2.toArray from p2) (u:=u) (v:=v) (by simpa using hu) (by simpa using hv) fun h' hz' hTO' h1' h2' hT' hk=>wpAny_pure ?_) (F.args_zip_next_1 _))))
  refine ⟨_,rfl,?_⟩
  refine wpAny_letOwnedTupleGo_zip hz' fun hp2 hz2 hs2=>?_
  have lt:∀{b:Addr} {o:Obj},s.heap.get? b=some o→b<s.heap.objs.size:=fun e=>Heap.lt_size e
  have nT:s.heap.objs.size≠z:=Nat.ne_of_gt (lt hz)
  have k2:∀b o,b∉[z,TI,TO,i1,i2]→s.heap.get? b=some o→hp2.get? b=some o:=fun b o hb e=>by
   simp only [List.mem_cons,List.mem_nil_iff,or_false,not_or] at hb
   exact (hs2.2 b hb.1).trans (hk b o hb.1 hb.2.2.1 hb.2.2.2.1 hb.2.2.2.2 e)
  have hT2:IsPair hp2 s.heap.objs.size u v:=(hs2.2 _ nT).trans hT'
  refine ⟨.ref s.heap.objs.size,upd H s.heap.objs.size (.tup [x,y]),I.laidN (t':=s.toks) (fp:=[z,TI,TO,i1,i2]) k2 hf (Nat.le_refl _) ⟨(by show 2≤sizeLine;decide),[u,v],.cons ru (.cons rv .nil),⟨_,hT2,rfl,_,rfl⟩⟩,rfl,?_,?_,?_⟩
  ·exact ⟨_,x,y,rfl,I.hok.fresh (Nat.le_refl _),rfl,fun zs hzs=>by rw [I.list_inj hzs hq1];exact hx,fun zs hzs=>by rw [I.tuple_inj hzs hq2];exact hy⟩
  ·refine ⟨hz2,(hs2.2 _ D.TIz).trans (hk _ _ D.TIz D.TITO D.TIi1 D.TIi2 hTI),⟨_,_,(hs2.2 _ D.TOz).trans hTO'⟩,h1'.at fun o e=>(hs2.2 _ D.i1z).trans e,h2'.at fun o e=>(hs2.2 _ D.i2z).trans e⟩
  ·intro b hb
   have:=(hf b hb).1
   rw [j6]
   ·exact this
   ·intro e
    simp only [List.mem_cons,List.mem_nil_iff,or_false] at hb
    obtain ⟨o1,e1,_⟩:=h1
    obtain ⟨o2,e2,_⟩:=h2
    rcases hb with rfl|rfl|rfl|rfl|rfl
    ·exact nT e.symm
    ·exact Nat.ne_of_lt (lt hTI) e
    ·exact Nat.ne_of_lt (lt hTO) e
    ·exact Nat.ne_of_lt (lt e1) e
    ·exact Nat.ne_of_lt (lt e2) e
 done:=by
  intro X hP hw hK hc i pins s σ H E I hf st hg
  subst hP hw hK
  obtain ⟨hz,hTI,⟨p,q,hTO⟩,h1,h2⟩:=st
  obtain ⟨xs,ys,hq1,hq2,he⟩:=hg
  obtain ⟨its1,rv1,p1,_⟩:=I.list hq1
  obtain ⟨its2,rv2,p2,_⟩:=I.tuple hq2
  have l1:=rv1.length
  have l2:=rv2.length
  have hTz:s.TypeIs (.ref z) "zip":=⟨_,hz,rfl⟩
  unfold pyNext
  refine wpAny_bind (wpAny_attempt (wpAny_callSpecial?_slot (name:=Str.ofString "__next__") hTz F.slot_zip_next (wpAny_call_entry F.slot_zip_next hTz F.entry_zip_next (BW (I.ok.hd hc) D hz hTI hTO h1 h2 p1.isList (show s.heap.IsTuple a2 its2.toArray from p2) (he.imp (fun e=>by simp;omega) (fun e=>by simp;omega)) fun h' e hk ho=>?_) (F.args_zip_next_1 _))))
  obtain ⟨o,ho,hco⟩:=ho
  refine wpAny_bind (wpAny_isInstance (T:="StopIteration") (b:=true) ⟨o,ho,hco⟩ isSubtype_stop (wpAny_pure ⟨rfl,I.turnedN (t':=s.toks) (fp:=[z,TI,TO,i1,i2]) (fun b o hb e=>?_) hf⟩))
  simp only [List.mem_cons,List.mem_nil_iff,or_false,not_or] at hb
  exact hk b o hb.1 hb.2.2.1 hb.2.2.2.1 hb.2.2.2.2 e
 self:=fun _ _ _ _ _ st h=>wpAny_pyIter_zip st.1 h
section
variable {X:Cx} {elts:List Expr} {x1:Nat} {tpos:Pos}
abbrev eZ (h:Heap) (a:Addr):Heap:=h.push {cls:=.type "list_iterator",data:=.fields #[.ref a,.int 0 0]}
abbrev bF (h:Heap) (a b:Addr):Heap:=(eZ h a).push {cls:=.type "tuple_iterator",data:=.fields #[.ref b,.int 0 0]}
abbrev eY (h:Heap) (a b:Addr):Heap:=(bF h a b).push {cls:=.type "tuple",data:=.seq #[.ref h.objs.size,.ref (eZ h a).objs.size]}
abbrev eX (h:Heap) (a b:Addr):Heap:=(eY h a b).push {cls:=.type "tuple",data:=.seq #[.none,.none]}
abbrev bE (h:Heap) (a b:Addr):Heap:=(eX h a b).push {cls:=.type "zip",data:=.fields #[.none,.bool false,.bool false,.ref (bF h a b).objs.size,.ref (eY h a b).objs.size]}
theorem AG (a b:Addr) (us vs:Array Value):Meets (Builtin.«zip.__new__» ⟨[.type "zip",.ref a,.ref b],[]⟩) (fun _ R s=>s.heap.IsList a us∧s.heap.IsTuple b vs∧R (.ok (.ret (.ref (eX s.heap a b).objs.size))) {s with heap:=bE s.heap a b}):=.of_wp fun prog w A R s h=>by
  obtain ⟨hp,g,d,tk,os⟩:=s;obtain ⟨la,tb,h⟩:=h;have hsub:=sub_zip
  have A1:Heap.IsList (Shared.heap ⟨hp,g,d,tk,os⟩) a us:=la
  have A2:Heap.IsTuple (Shared.heap ⟨hp.push {cls:=.type "list_iterator",data:=.fields #[.ref a,.int 0 0]},g,d,tk,os⟩) b vs:=Heap.IsTuple.push tb _
  wp_walk using wpAny_pyIter_list A1,wpAny_pyIter_tuple A2
  exact ⟨_,rfl,h⟩
theorem BQ {prog:Program} {w:World} {A:Around} {s:Shared} {E:Value→Shared→Prop} {a b:Addr} {us vs:Array Value} {Q:Value→Shared→Prop} (la:s.heap.IsList a us) (tb:s.heap.IsTuple b vs)
  (q:∀h',IsZip h' (s.heap.objs.size+4) (s.heap.objs.size+2) (s.heap.objs.size+3) .none→IsPair h' (s.heap.objs.size+2) (.ref s.heap.objs.size) (.ref (s.heap.objs.size+1))→IsPair h' (s.heap.objs.size+3) .none .none→h'.IsListIter s.heap.objs.size a 0→h'.IsTupleIter (s.heap.objs.size+1) b 0→(∀c o,s.heap.get? c=some o→h'.get? c=some o)→Q (.ref (s.heap.objs.size+4)) {s with heap:=h'}) :
  wpAny (model prog w) A (call (.type "zip") [.ref a,.ref b]) Q E s:=by
 refine callType_new F.called_zip (by decide) (F.typeCall_zip_2 _ _) (F.newCall_zip_2 _ _) (fun obj=>F.args_object_init_3 obj _ _) F.entry_zip_new (AG a b us vs) ⟨la,tb,?_⟩
 have y1:(eZ s.heap a).objs.size=s.heap.objs.size+1:=Heap.size_push ..
 have y2:(bF s.heap a b).objs.size=s.heap.objs.size+2:=by rw [Heap.size_push,y1]
 have y3:(eY s.heap a b).objs.size=s.heap.objs.size+3:=by rw [Heap.size_push,y2]
 have y4:(eX s.heap a b).objs.size=s.heap.objs.size+4:=by rw [Heap.size_push,y3]
 have up:∀{h:Heap} {o:Obj} {c:Addr} {v:Obj},h.get? c=some v→(h.push o).get? c=some v:=fun e=>Heap.get?_push_of_some _ e
 have g5:(bE s.heap a b).get? (eX s.heap a b).objs.size=some _:=Heap.get?_push_size _ rfl
 have g4:(bE s.heap a b).get? (eY s.heap a b).objs.size=some _:=up (Heap.get?_push_size _ rfl)
 have g3:(bE s.heap a b).get? (bF s.heap a b).objs.size=some _:=up (up (Heap.get?_push_size _ rfl))
 have g2:(bE s.heap a b).get? (eZ s.heap a).objs.size=some _:=up (up (up (Heap.get?_push_size _ rfl)))
 have g1:(bE s.heap a b).get? s.heap.objs.size=some _:=up (up (up (up (Heap.get?_push_size _ rfl))))
 show _∧_
 rw [y2,y3,y4] at g5;rw [y1,y2] at g3;rw [y3] at g4;rw [y1] at g2;rw [y4]
 exact ⟨⟨_,g5,rfl⟩,q _ g5 g3 g4 ⟨_,g1,rfl,rfl⟩ ⟨_,g2,rfl,rfl⟩ fun c o x=>up (up (up (up (up x))))⟩
def FN (K:PySem.W.Frag) (ta:TA):TI:=fun σ H R=>ta σ H fun vs H1=>∃a1 a2,vs=[.ref a1,.ref a2]∧(∃xs,SqL K H1 a1 xs)∧(∃ys,SqT K H1 a2 ys)∧R (iX K a1 a2) H1
theorem C4 {a b:Expr} {ta:TA} {p pos:Pos} (hg:Gl X "zip") (hm:X.mg "zip"=none) (ha:PA X [a,b] ta) (hs:starEach [a,b] X.env=[(false,eval a X.env),(false,eval b X.env)]:=by rfl) (hs2:starEach [b] X.env=[(false,eval b X.env)]:=by rfl) :
  PI X (.Tuple elts x1 tpos) (.Call (.Name "zip" p) [a,b] [] pos) (FN X.K ta):=by
 intro pins s σ H R I h
 refine Call_ (Z2 I hg hm boot_zip (PyProof.Rows.callWith_type1 (jN (ha pos pins s σ H _ I h) fun us s1 ⟨vs,H1,I1,r1,q1⟩=>?_) (by rw [hs,hs2]) (by rw [hs2];rfl)))
 obtain ⟨a1,a2,e,⟨xs,hq1⟩,⟨ys,hq2⟩,q⟩:=q1
 subst e
 cases r1 with
 |cons r rr =>
  cases rr with
  |cons r' rr =>
   cases rr
   cases r
   cases r'
   obtain ⟨its1,rv1,p1,_⟩:=I1.list hq1
   obtain ⟨its2,rv2,p2,_⟩:=I1.tuple hq2
   have p2:s1.heap.IsTuple a2 its2.toArray:=p2
   have lt1:a1<s1.heap.objs.size:=by obtain ⟨o,e,_⟩:=p1.isList;exact Heap.lt_size e
   have lt2:a2<s1.heap.objs.size:=by obtain ⟨o,e,_⟩:=p2;exact Heap.lt_size e
   refine BQ p1.isList p2 fun h' hz hTI hTO h1 h2 hk=>?_
   refine wpAny_pyIter_zip hz ?_
   have D:ZipApart (s1.heap.objs.size+4) (s1.heap.objs.size+2) (s1.heap.objs.size+3) s1.heap.objs.size (s1.heap.objs.size+1) a1 a2:=by
    constructor<;>(intro e;simp only [Addr] at *;omega)
   refine ⟨_,_,_,_,H1,rfl,I1.kept (t':=s1.toks) hk,AY D,⟨hz,hTI,⟨_,_,hTO⟩,h1,h2⟩,fun b hb=>?_,q⟩
   simp only [List.mem_cons,List.mem_nil_iff,or_false] at hb
   have hb':s1.heap.objs.size≤b:=by rcases hb with rfl|rfl|rfl|rfl|rfl<;>simp only [Addr] at *<;>omega
   exact I1.fpOk hb' (I1.hok.fresh hb')
end
end L2
namespace L2
open PySem PySem.Spec PyProof.Rows
set_option maxRecDepth 100000
theorem DE:fillsNumberSlot (.type "tuple") "mul"=pure false:=PySem.fillsNumberSlot_seq (id:="tuple.__mul__") (r:=some (.builtin "tuple.__rmul__")) F.slot_tuple_mul.lookup (by decide +kernel) F.slot_tuple_rmul.lookup (by decide +kernel)
theorem CZ:seqRepeat? (.type "tuple")=pure (some (.builtin "tuple.__mul__")):=by
 unfold seqRepeat?;rw [PySem.seqSlot_of (T:="tuple") (name:="__mul__") (id:="tuple.__mul__") F.slot_tuple_mul.lookup (by decide +kernel),PySem.seqSlot_of (T:="tuple") (name:="__rmul__") (id:="tuple.__rmul__") F.slot_tuple_rmul.lookup (by decide +kernel)];rfl
theorem FB (a:Int) (t:Tok) (p:Addr) (vs:Array Value) (n:Nat) (dd:Option Addr) (sl:Array (Option Value)):Meets (Builtin.«int.__rmul__» ⟨[.int a t,.ref p],[]⟩) (fun _ R s=>s.heap.get? p=some {cls:=.type "tuple",dict:=dd,data:=.seq vs n,slots:=sl}∧R (.ok (.ret Value.notImplemented)) s):=.of_wp fun prog w A R s h=>by obtain ⟨hp,g,d,tk,os⟩:=s;obtain ⟨hl,h⟩:=h;wp_walk;exact ⟨_,rfl,h⟩
theorem B9 (t:Tok) (p:Addr) (vs:Array Value) (n:Nat) (dd:Option Addr) (sl:Array (Option Value)):Meets (Builtin.«tuple.__mul__» ⟨[.ref p,.int 1 t],[]⟩) (fun _ R s=>s.heap.get? p=some {cls:=.type "tuple",dict:=dd,data:=.seq vs n,slots:=sl}∧R (.ok (.ret (.ref p))) s):=.of_wp fun prog w A R s h=>by obtain ⟨hp,g,d,tk,os⟩:=s;obtain ⟨hl,h⟩:=h;wp_walk;exact ⟨_,rfl,h⟩
theorem BD (t:Tok) (p:Addr) (vs:Array Value) (n:Nat) (dd:Option Addr) (sl:Array (Option Value)) (h0:vs.isEmpty=false):Meets (Builtin.«tuple.__mul__» ⟨[.ref p,.int 0 t],[]⟩) (fun _ R s=>s.heap.get? p=some {cls:=.type "tuple",dict:=dd,data:=.seq vs n,slots:=sl}∧R (.ok (.ret (.ref s.heap.objs.size))) {s with heap:=s.heap.push {cls:=.type "tuple",data:=.seq #[]}}):=.of_wp fun prog w A R s h=>by
 obtain ⟨hp,g,dr,tk,os⟩:=s;obtain ⟨hl,h⟩:=h
 wp_walk;exact ⟨_,rfl,h⟩
theorem BE (k:Int) (t:Tok) (p:Addr) (vs:Array Value) (n:Nat) (dd:Option Addr) (sl:Array (Option Value)) (h0:vs.isEmpty=false) (h1:(k == 1)=false) (h2:¬((decide (k < -(2 ^ 63))||decide (k≥2 ^ 63))=true)) (h3:¬((decide (k≤0)||vs.isEmpty)=true)) (h4:¬((vs.size:Int)*k>(2 ^ 63 - 1) / 8)) (h5:¬(Builtin.Tuple.tupleTooMany ((vs.size:Int)*k)=true)) (hz:((List.replicate k.toNat vs).foldl (·++·) (#[]:Array Value)).size≤sizeLine):Meets (Builtin.«tuple.__mul__» ⟨[.ref p,.int k t],[]⟩) (fun _ R s=>s.heap.get? p=some {cls:=.type "tuple",dict:=dd,data:=.seq vs n,slots:=sl}∧R (.ok (.ret (.ref s.heap.objs.size))) {s with heap:=s.heap.push {cls:=.type "tuple",data:=.seq ((List.replicate k.toNat vs).foldl (·++·) #[])}}):=.of_wp fun prog w A R s h=>by
 obtain ⟨hp,g,dr,tk,os⟩:=s;obtain ⟨hl,h⟩:=h
 wp_walk
 rw [if_neg h2]
 wp_walk
 rw [if_neg h3]
 show wpAny _ _ (if (vs.size:Int)*k>(2 ^ 63 - 1) / 8 then _ else if Builtin.Tuple.tupleTooMany ((vs.size:Int)*k)=true then _ else _) _ _ _
 rw [if_neg h4,if_neg h5]
 refine wpAny_bind (wpAny_newObj_type (wpAny_pure ⟨_,rfl,h⟩) ?_)
 exact hz
section
variable {X:Cx}
def FD:R2:=fun x y H Q=>∃(p:Addr) (v:V) (k:Nat),x=.ref p∧y=.int (k:Int)∧H p=some (.tup [v])∧k≤1000∧(k=1→Q (.ref p) H)∧(k≠1→∀l,H l=none→Q (.ref l) (upd H l (.tup (List.replicate k v))))
theorem nB (u:Value):∀(m:Nat) (acc:Array Value),List.foldl (fun x1 x2=>x1++x2) acc (List.replicate m #[u])=acc++(List.replicate m u).toArray
 |0,acc=>by simp
 |m+1,acc=>by rw [List.replicate_succ,List.foldl_cons,nB u m (acc++#[u]),List.replicate_succ,Array.append_assoc];congr 1;apply Array.toList_inj.mp;simp
theorem DA:kU X (binaryOp .Mult) FD:=by
 intro pins s σ H x y v u Q I rx ry h
 obtain ⟨p,w,k,rfl,rfl,hH,hk,q1,q2⟩:=h
 cases rx
 obtain ⟨t,rfl⟩:=ry
 obtain ⟨z,its,r,⟨cls,dd,data,sl⟩,e,hc,n,hd⟩:=(show ObjOk X.prog X.w H s.heap p (.tup [w]) from I.hok p _ hH)
 simp only at hc hd
 subst hc hd
 cases r with
 |@cons _ u0 _ us ru rt =>
  cases rt
  refine wpAny_binaryOp_repeat_ref (T:="tuple") (U:="int") (by decide) ⟨_,e,rfl⟩ (fun s'=>typeIs_int s' (k:Int) t) DE F.fills_int_mul F.slot_int_rmul CZ F.slot_int_index.lookup
   (call_meets F.slot_int_rmul (typeIs_int s (k:Int) t) F.entry_int_rmul (F.args_int_rmul_2 _ _) (FB (k:Int) t p #[u0] n dd sl) ⟨e,rfl,⟨_,e,rfl⟩,?_⟩)
  have mk:∀vs:Array Value,vs=(List.replicate k u0).toArray→k≠1→EP X pins σ Q (.ref s.heap.objs.size) {s with heap:=s.heap.push {cls:=.type "tuple",data:=.seq vs}}:=fun vs hvs h1=>by
   have hv:Vals (List.replicate k w) (List.replicate k u0):=by
    have key:∀m,Vals (List.replicate m w) (List.replicate m u0):=fun m=>by
     induction m with
     |zero=>exact .nil
     |succ m ih=>exact .cons ru ih
    exact key k
   refine ⟨.ref s.heap.objs.size,upd H s.heap.objs.size (.tup (List.replicate k w)),I.laid (t':=s.toks) (fun b o e=>Heap.get?_push_of_some _ e) (Nat.le_refl _) ⟨by rw [List.length_replicate];exact Nat.le_trans hk (by decide),_,hv,⟨_,Heap.get?_push_size _ rfl,rfl,0,by rw [hvs]⟩⟩,rfl,q2 h1 _ (I.hok.fresh (Nat.le_refl _))⟩
  by_cases h1:k=1
  ·subst h1
   exact call_meets F.slot_tuple_mul ⟨_,e,rfl⟩ F.entry_tuple_mul (F.args_tuple_mul_2 _ _) (B9 t p #[u0] n dd sl) ⟨e,⟨.ref p,H,I,rfl,q1 rfl⟩⟩
  by_cases h0:k=0
  ·subst h0
   exact call_meets F.slot_tuple_mul ⟨_,e,rfl⟩ F.entry_tuple_mul (F.args_tuple_mul_2 _ _) (BD t p #[u0] n dd sl rfl) ⟨e,mk _ rfl h1⟩
  have hf:(List.replicate (k:Int).toNat #[u0]).foldl (fun x1 x2=>x1++x2) (#[]:Array Value)=(List.replicate k u0).toArray:=by rw [nB,Int.toNat_natCast];simp
  have hs1:((#[u0]:Array Value).size:Int)*(k:Int)=(k:Int):=by show ((1:Nat):Int)*(k:Int)=_;omega
  refine call_meets F.slot_tuple_mul ⟨_,e,rfl⟩ F.entry_tuple_mul (F.args_tuple_mul_2 _ _) (BE (k:Int) t p #[u0] n dd sl rfl ?_ ?_ ?_ ?_ ?_ ?_) ⟨e,?_⟩
  ·exact beq_eq_false_iff_ne.mpr (by omega)
  ·rw [Bool.or_eq_true,decide_eq_true_eq,decide_eq_true_eq];omega
  ·rw [Bool.or_eq_true,decide_eq_true_eq];rintro (h|h);omega;cases h
  ·rw [hs1];omega
  ·rw [hs1];unfold Builtin.Tuple.tupleTooMany;rw [decide_eq_true_eq];have:(1000:Nat)≤sizeLine:=by decide
   omega
  ·rw [hf,List.size_toArray,List.length_replicate];exact Nat.le_trans hk (by decide)
  ·exact mk _ hf h1
def DZ:V→List V→Hp→VK→Prop:=fun x vs H Q=>∃(l:Addr) (xs:List V) (y:V),x=.ref l∧vs=[y]∧H l=some (.lst xs)∧qH y=true∧xs.all qH=true∧Q (.int ((xs.countP fun z=>qN z y:Nat):Int)) H
theorem mD {y:V}:∀{xs:List V} {us:List Value},Vals xs us→xs.all qH=true→us.countP (e9 y)=xs.countP fun z=>qN z y
 |[],_,r,_=>by cases r;rfl
 |x::xs,_,r,f=>by
  cases r with
  |@cons _ u _ us ru rt =>
   rw [List.all_cons,Bool.and_eq_true] at f
   have ih:=mD (y:=y) rt f.2
   rw [List.countP_cons,List.countP_cons,ih,p7 ru f.1]
theorem CA:sJ X "list.count" DZ:=by
 intro pins s σ H x vs v us Q I rx rv h
 obtain ⟨l,xs,y,rfl,rfl,hH,fy,fx,q⟩:=h
 cases rx
 obtain ⟨u,rfl,ru⟩:=rv.one
 obtain ⟨z,its,n,r,hl,e⟩:=I.lstM hH
 refine call_meets F.slot_list_count ⟨_,e,rfl⟩ F.entry_list_count (F.args_list_count_2 _ _) (SeqAt.list_countAt l its.toArray n none #[] u (e9 y)) ⟨e,fun w hw=>oK ru fy r fx w (by simpa using hw),?_⟩
 rw [show its.toArray.toList=its from rfl,mD r fx]
 exact ⟨.int ((xs.countP fun z=>qN z y:Nat):Int),H,I.tok _,⟨_,rfl⟩,q⟩
theorem x8 {K:PySem.W.Frag} {a1 a2 D:Addr} {xs ys:List V} {g:TG} {tc:TT} {te:TE} {σ₀:St} {H:Hp} {Q:Hp→Prop} (Pv:Nat→St→Hp→Prop) (h0:Pv 0 σ₀ (upd H D (.lst []))) (hl:∀i σ H,i≤xs.length→Pv i σ H→SqL K H a1 xs∧SqT K H a2 ys) (hn:xs.length=ys.length)
  (hs:∀i x y σ H T,xs[i]?=some x→ys[i]?=some y→Pv i σ H→H T=none→g (.ref T) σ (upd H T (.tup [x,y])) fun σ2 H3=>tc σ2 H3 fun b H4=>if b=true then te σ2 H4 fun v H5=>∃zs,H5 D=some (.lst zs)∧zs.length<sizeLine∧Pv (i+1) σ2 (upd H5 D (.lst (zs++[v]))) else Pv (i+1) σ2 H4)
  (hd:∀σ H,Pv xs.length σ H→Q H):yP D (iX K a1 a2) g tc te σ₀ H Q:=by
 refine ⟨fun i m σ H=>m=xs.length - i∧i≤xs.length∧Pv i σ H,⟨xs.length,by simp,Nat.zero_le _,h0⟩,?_⟩
 rintro i m σ H ⟨rfl,hi,p⟩
 obtain ⟨q1,q2⟩:=hl i σ H hi p
 by_cases hlt:i<xs.length
 ·have hlt2:i<ys.length:=by omega
  refine .inr ⟨⟨xs,ys,_,_,q1,q2,List.getElem?_eq_getElem hlt,List.getElem?_eq_getElem hlt2⟩,Pv (i+1),fun σ' H' p'=>⟨xs.length - (i+1),by omega,rfl,hlt,p'⟩,fun v H' hy=>?_⟩
  obtain ⟨T,x,y,rfl,hT,rfl,e1,e2⟩:=hy
  exact hs i x y σ H T (e1 xs q1) (e2 ys q2) p hT
 ·exact .inl ⟨⟨xs,ys,q1,q2,.inl (by omega)⟩,hd σ H (by rw [show xs.length=i by omega];exact p)⟩
end
end L2
namespace L2
open PySem PySem.Spec PyProof.Rows
section
variable {prog:Program} {w:World} {A:Around} {s:Shared} {E:Value→Shared→Prop}
end
end L2
namespace L2
open PySem PySem.Spec PyProof.Rows
section
variable {X:Cx} {pins:List (Addr×Obj)} {σ:List (Option V)} {H:Hp} {s:Shared} {h':Heap}
end
section
variable {X:Cx}
open Classical in
end
end L2
namespace L2
open PySem PySem.Spec PyProof.Rows
section
variable {prog:Program} {w:World} {A:Around} {s:Shared} {E:Value→Shared→Prop}
end
end L2
namespace L2
open PySem PySem.Spec PyProof.Rows
section
variable {X:Cx} {e se:Expr} {te:TE} {lo hi:Option Expr} {tl th tk:TO} {pos p2:Pos}
end
section
variable {X:Cx}
end
end L2
namespace L2
open PySem PySem.Spec PyProof.Rows
section
theorem lR {K:PySem.W.Frag} {a D:Addr} {xs:List V} {g:TG} {tc:TT} {te:TE} {σ₀:St} {H:Hp} {Q:Hp→Prop} (Pv:Nat→St→Hp→Prop) (h0:Pv 0 σ₀ (upd H D (.lst []))) (hl:∀i σ H,i≤xs.length→Pv i σ H→SqL K H a xs)
  (hs:∀i x σ H T,xs[i]?=some x→Pv i σ H→H T=none→g (.ref T) σ (upd H T (.tup [.int (i:Int),x])) fun σ2 H3=>tc σ2 H3 fun b H4=>if b=true then te σ2 H4 fun v H5=>∃zs,H5 D=some (.lst zs)∧zs.length<sizeLine∧Pv (i+1) σ2 (upd H5 D (.lst (zs++[v]))) else Pv (i+1) σ2 H4)
  (hd:∀σ H,Pv xs.length σ H→Q H):yP D (i7 K a) g tc te σ₀ H Q:=by
 refine ⟨fun i m σ H=>m=xs.length - i∧i≤xs.length∧Pv i σ H,⟨xs.length,by simp,Nat.zero_le _,h0⟩,?_⟩
 rintro i m σ H ⟨rfl,hi,p⟩
 have q1:=hl i σ H hi p
 by_cases hlt:i<xs.length
 ·refine .inr ⟨⟨xs,_,q1,List.getElem?_eq_getElem hlt⟩,Pv (i+1),fun σ' H' p'=>⟨xs.length - (i+1),by omega,rfl,hlt,p'⟩,fun v H' hy=>?_⟩
  obtain ⟨T,x,rfl,hT,rfl,e1⟩:=hy
  exact hs i x σ H T (e1 xs q1) p hT
 ·exact .inl ⟨⟨xs,q1,by omega⟩,hd σ H (by rw [show xs.length=i by omega];exact p)⟩
end
end L2
namespace L2
open PySem PySem.Spec PyProof.Rows
section
variable {prog:Program} {w:World} {A:Around} {s:Shared} {E:Value→Shared→Prop}
theorem lM {h h':Heap} {p:Addr} {vs:Array Value} (ht:h.IsTuple p vs) (k:∀o,h.get? p=some o→h'.get? p=some o):h'.IsTuple p vs:=by obtain ⟨o,e,c⟩:=ht;exact ⟨o,k o e,c⟩
theorem BN {it p:Addr} {vs:Array Value} (hh:A.handled=none) (hne:it≠p):Draws prog w A it [it,p] vs.size (fun i x=>vs[i]?=some x) (fun i h=>h.IsTupleIter it p i∧h.IsTuple p vs) where
 live:=fun i h st=>by obtain ⟨⟨o,e,_⟩,_⟩:=st;exact ⟨o,e⟩
 frame:=fun i h h' st k=>⟨st.1.at fun o e=>k _ (by simp) o e,lM st.2 fun o e=>k _ (by simp) o e⟩
 item:=fun i s Q E hi st hQ=>by
  refine lX st.1 st.2 (Array.getElem?_eq_getElem hi) fun h' h1 sb=>?_
  exact hQ _ h' s.toks (Array.getElem?_eq_getElem hi) ⟨h1,lM st.2 fun o e=>(sb.2 _ hne.symm).trans e⟩ sb
 done:=fun s Q E st hE=>gC hh st.1 st.2 (by simp) hE
abbrev e8 (h:Heap) (q:Addr):Heap:=h.push {cls:=.type "tuple_iterator",data:=.fields #[.ref q,.int 0 0]}
abbrev i3 (h:Heap) (q:Addr):Heap:=(e8 h q).push {cls:=.type "enumerate",data:=.fields #[.none,.bool false,.ref h.objs.size,rawInt 0,.none,.none]}
theorem xW (q:Addr) (us:Array Value) (m:Nat) (dd:Option Addr) (ss:Array (Option Value)):Meets (Builtin.«enumerate.__new__» ⟨[.type "enumerate",.ref q],[]⟩) (fun _ R s=>s.heap.get? q=some {cls:=.type "tuple",dict:=dd,data:=.seq us m,slots:=ss}∧R (.ok (.ret (.ref (e8 s.heap q).objs.size))) {s with heap:=i3 s.heap q}):=.of_wp fun prog w A R s h=>by
 obtain ⟨hp,g,d,tk,os⟩:=s;obtain ⟨hq,h⟩:=h;have hsub:=sub_enumerate
 have B1:Heap.IsTuple (Shared.heap ⟨hp,g,d,tk,os⟩) q us:=⟨_,hq,rfl,m,rfl⟩
 wp_walk using AutoSeq1.wpAny_loadPart' hq
 refine wpAny_stack_any fun st=>wpAny_pure ?_;split
 ·rename_i c _ _ _ _ _;cases (c == Value.type "enumerate")<;>(wp_walk using AutoSeq1.wpAny_loadPart' hq,wpAny_pyIter_tuple B1;exact ⟨_,rfl,h⟩)
 ·wp_walk using AutoSeq1.wpAny_loadPart' hq,wpAny_pyIter_tuple B1;exact ⟨_,rfl,h⟩
theorem AQ {q:Addr} {us:Array Value} {Q:Value→Shared→Prop} (hL:s.heap.IsTuple q us)
  (k:∀h',IsEnum h' (s.heap.objs.size+1) s.heap.objs.size 0 .none→h'.IsTupleIter s.heap.objs.size q 0→(∀b o,s.heap.get? b=some o→h'.get? b=some o)→Q (.ref (s.heap.objs.size+1)) {s with heap:=h'}):wpAny (model prog w) A (call (.type "enumerate") [.ref q]) Q E s:=by
 obtain ⟨⟨c,dd,dt,ss⟩,hq,hc,m,hd⟩:=hL
 have hc:c=.type "tuple":=hc;have hd:dt=.seq us m:=hd;subst hc;subst hd
 refine callType_new F.called_enumerate (by decide) (F.typeCall_enumerate_1 _) (F.newCall_enumerate_1 _) (fun obj=>F.args_object_init_2 obj _) F.entry_enumerate_new (xW q us m dd ss) ⟨hq,?_⟩
 have y1:(e8 s.heap q).objs.size=s.heap.objs.size+1:=Heap.size_push ..
 have g2:(i3 s.heap q).get? (e8 s.heap q).objs.size=some _:=Heap.get?_push_size _ rfl
 have g1:(i3 s.heap q).get? s.heap.objs.size=some _:=Heap.get?_push_of_some _ (Heap.get?_push_size _ rfl)
 show _∧_
 rw [y1] at g2 ⊢
 exact ⟨⟨_,g2,rfl⟩,k _ g2 ⟨_,g1,rfl,rfl⟩ fun b o x=>Heap.get?_push_of_some _ (Heap.get?_push_of_some _ x)⟩
end
def iY (K:PySem.W.Frag) (a:Addr):It :=
 ⟨fun i H=>∃xs x,SqT K H a xs∧xs[i]?=some x,
  fun i H v H'=>∃T x,v=.ref T∧H T=none∧H'=upd H T (.tup [.int (i:Int),x])∧∀xs,SqT K H a xs→xs[i]?=some x,
  fun i H=>∃xs,SqT K H a xs∧xs.length≤i⟩
theorem AB {P:Program} {w:World} {K:PySem.W.Frag} {elts:List Expr} {x1:Nat} {pos:Pos} {a e it:Addr} (hei:e≠it) (hea:e≠a) (hia:it≠a) :
  Turn P w K (.Tuple elts x1 pos) (iY K a) [e,it] e (fun i h=>(∃old,IsEnum h e it i old)∧h.IsTupleIter it a i) where
 mem:=by simp
 obj:=fun i h st b hb=>by
  obtain ⟨⟨old,he⟩,⟨o1,e1,c1,d1⟩⟩:=st
  simp only [List.mem_cons,List.mem_nil_iff,or_false] at hb
  rcases hb with rfl|rfl
  ·exact ⟨_,he,fun v y=>by have y':Data.fields _=Data.cell v:=y;cases y'⟩
  ·exact ⟨o1,e1,fun v y=>by rw [d1] at y;cases y⟩
 keep:=fun i h h' st k=>by
  obtain ⟨⟨old,he⟩,h1⟩:=st
  exact ⟨⟨old,k _ (by simp) _ he⟩,h1.at fun o e=>k _ (by simp) o e⟩
 item:=by
  intro X hP hw hK hc i pins s σ H E I hf st hg
  subst hP hw hK
  obtain ⟨⟨old,he⟩,h1⟩:=st
  obtain ⟨xs,x,hq1,hx⟩:=hg
  obtain ⟨its1,rv1,p1,_⟩:=I.tuple hq1
  have p1:s.heap.IsTuple a its1.toArray:=p1
  obtain ⟨u,hu,ru⟩:=rv1.get hx
  have hlt:i<its1.toArray.size:=by rw [List.size_toArray];exact (List.getElem?_eq_some_iff.mp hu).1
  refine wpAny_pyNext_enum_itemD (BN (A:=X.A.in1) (I.ok.hd hc) hia) he ⟨h1,p1⟩ hlt hei (by simp [hei,hea]) fun u' h' tk hu' he' st' hT' hsz hk=>?_
  have eu:u'=u:=by
   have e1:its1.toArray[i]?=some u':=hu'
   rw [List.getElem?_toArray,hu] at e1
   exact (Option.some.inj e1).symm
  subst eu
  refine ⟨_,rfl,?_⟩
  refine wpAny_letOwnedTupleGo_enum he' fun h2 he2 hs2=>?_
  have lt:∀{b:Addr} {o:Obj},s.heap.get? b=some o→b<s.heap.objs.size:=fun e=>Heap.lt_size e
  have nT:s.heap.objs.size≠e:=Nat.ne_of_gt (lt he)
  have k2:∀b o,b∉[e,it]→s.heap.get? b=some o→h2.get? b=some o:=fun b o hb q=>by
   simp only [List.mem_cons,List.mem_nil_iff,or_false,not_or] at hb
   exact (hs2.2 b hb.1).trans (hk b o hb.1 hb.2 q)
  have hT2:=(hs2.2 _ nT).trans hT'
  refine ⟨.ref s.heap.objs.size,upd H s.heap.objs.size (.tup [.int (i:Int),x]),I.laidN (t':=tk+1) (fp:=[e,it]) k2 hf (Nat.le_refl _) ⟨(by show 2≤sizeLine;decide),[.int i tk,u'],.cons ⟨_,rfl⟩ (.cons ru .nil),⟨_,hT2,rfl,_,rfl⟩⟩,rfl,?_,?_,?_⟩
  ·exact ⟨_,x,rfl,I.hok.fresh (Nat.le_refl _),rfl,fun zs hzs=>by rw [I.tuple_inj hzs hq1];exact hx⟩
  ·exact ⟨⟨_,he2⟩,st'.1.at fun o q=>(hs2.2 _ hei.symm).trans q⟩
  ·intro b hb
   have:=(hf b hb).1
   rw [j6]
   ·exact this
   ·intro q
    simp only [List.mem_cons,List.mem_nil_iff,or_false] at hb
    obtain ⟨o1,e1,_⟩:=h1
    rcases hb with rfl|rfl
    ·exact nT q.symm
    ·exact Nat.ne_of_lt (lt e1) q
 done:=by
  intro X hP hw hK hc i pins s σ H E I hf st hg
  subst hP hw hK
  obtain ⟨⟨old,he⟩,h1⟩:=st
  obtain ⟨xs,hq1,hx⟩:=hg
  obtain ⟨its1,rv1,p1,_⟩:=I.tuple hq1
  have p1:s.heap.IsTuple a its1.toArray:=p1
  have l1:=rv1.length
  unfold pyNext
  refine wpAny_bind (wpAny_attempt (wpAny_callSpecial?_slot (name:=Str.ofString "__next__") ⟨_,he,rfl⟩ F.slot_enumerate_next (wpAny_call_entry F.slot_enumerate_next ⟨_,he,rfl⟩ F.entry_enumerate_next ?_ (F.args_enumerate_next_1 _))))
  show wpAny _ _ (field (.ref e) 2 >>= _) _ _ _
  refine wpAny_bind (wpAny_field he rfl (x:=.ref it) rfl ?_)
  refine wpAny_bind (gC (A:=X.A.in1) (I.ok.hd hc) h1 p1 (by simp;omega) fun h' z hk hz=>?_)
  obtain ⟨oz,ez,cz⟩:=hz
  refine wpAny_bind (wpAny_isInstance (T:="StopIteration") (b:=true) ⟨oz,ez,cz⟩ isSubtype_stop ?_)
  refine wpAny_pure ⟨rfl,I.turnedN (t':=s.toks) (fp:=[e,it]) (fun b o hb q=>?_) hf⟩
  simp only [List.mem_cons,List.mem_nil_iff,or_false,not_or] at hb
  exact hk b o hb.2 q
 self:=fun _ _ _ _ _ st h=>by obtain ⟨⟨old,he⟩,_⟩:=st;exact wpAny_pyIter_enum he h
section
variable {X:Cx} {elts:List Expr} {x1:Nat} {tpos:Pos}
def ET (K:PySem.W.Frag) (ta:TA):TI:=fun σ H R=>ta σ H fun vs H1=>∃a,vs=[.ref a]∧(∃xs,SqT K H1 a xs)∧R (iY K a) H1
theorem B5 {a:Expr} {ta:TA} {p pos:Pos} (hg:Gl X "enumerate") (hm:X.mg "enumerate"=none) (ha:PA X [a] ta) (hs:starEach [a] X.env=[(false,eval a X.env)]:=by rfl) :
  PI X (.Tuple elts x1 tpos) (.Call (.Name "enumerate" p) [a] [] pos) (ET X.K ta):=by
 intro pins s σ H R I h
 refine Call_ (Z2 I hg hm boot_enumerate (PyProof.Rows.callWith_type1 (jN (ha pos pins s σ H _ I h) fun us s1 ⟨vs,H1,I1,r1,q1⟩=>?_) hs rfl))
 obtain ⟨a1,e,⟨xs,hq1⟩,q⟩:=q1
 subst e
 cases r1 with
 |cons r rr =>
  cases rr
  cases r
  obtain ⟨its1,rv1,p1,_⟩:=I1.tuple hq1
  have p1:s1.heap.IsTuple a1 its1.toArray:=p1
  have lt1:a1<s1.heap.objs.size:=by obtain ⟨o,e,_⟩:=p1;exact Heap.lt_size e
  refine AQ p1 fun h' he hit hk=>?_
  refine wpAny_pyIter_enum he ?_
  refine ⟨_,_,_,_,H1,rfl,I1.kept (t':=s1.toks) hk,AB (Nat.succ_ne_self _) (by intro z;simp only [Addr] at *;omega) (by intro z;simp only [Addr] at *;omega),⟨⟨_,he⟩,hit⟩,fun b hb=>?_,q⟩
  simp only [List.mem_cons,List.mem_nil_iff,or_false] at hb
  have hb':s1.heap.objs.size≤b:=by rcases hb with rfl|rfl<;>simp only [Addr] at *<;>omega
  exact I1.fpOk hb' (I1.hok.fresh hb')
theorem xO {K:PySem.W.Frag} {a D:Addr} {xs:List V} {g:TG} {tc:TT} {te:TE} {σ₀:St} {H:Hp} {Q:Hp→Prop} (Pv:Nat→St→Hp→Prop) (h0:Pv 0 σ₀ (upd H D (.lst []))) (hl:∀i σ H,i≤xs.length→Pv i σ H→SqT K H a xs)
  (hs:∀i x σ H T,xs[i]?=some x→Pv i σ H→H T=none→g (.ref T) σ (upd H T (.tup [.int (i:Int),x])) fun σ2 H3=>tc σ2 H3 fun b H4=>if b=true then te σ2 H4 fun v H5=>∃zs,H5 D=some (.lst zs)∧zs.length<sizeLine∧Pv (i+1) σ2 (upd H5 D (.lst (zs++[v]))) else Pv (i+1) σ2 H4)
  (hd:∀σ H,Pv xs.length σ H→Q H):yP D (iY K a) g tc te σ₀ H Q:=by
 refine ⟨fun i m σ H=>m=xs.length - i∧i≤xs.length∧Pv i σ H,⟨xs.length,by simp,Nat.zero_le _,h0⟩,?_⟩
 rintro i m σ H ⟨rfl,hi,p⟩
 have q1:=hl i σ H hi p
 by_cases hlt:i<xs.length
 ·refine .inr ⟨⟨xs,_,q1,List.getElem?_eq_getElem hlt⟩,Pv (i+1),fun σ' H' p'=>⟨xs.length - (i+1),by omega,rfl,hlt,p'⟩,fun v H' hy=>?_⟩
  obtain ⟨T,x,rfl,hT,rfl,e1⟩:=hy
  exact hs i x σ H T (e1 xs q1) p hT
 ·exact .inl ⟨⟨xs,q1,by omega⟩,hd σ H (by rw [show xs.length=i by omega];exact p)⟩
end
end L2
namespace L2
open PySem PySem.Spec PyProof.Rows
section
variable {X:Cx}
end
end L2
namespace L2
open PySem PySem.Spec PyProof.Rows
theorem kL {K:PySem.W.Frag} {H:Hp} {p:Addr} {xs:List V} {i:Int} {v:V} {P:V→Prop} (h:SqL K H p xs) (t:qC xs i=some v) (q:P v):∃p' xs' i' v',V.ref p=.ref p'∧V.int i=.int i'∧SqL K H p' xs'∧qC xs' i'=some v'∧P v':=⟨p,xs,i,v,rfl,rfl,h,t,q⟩
theorem jM {K:PySem.W.Frag} {H:Hp} {p:Addr} {xs:List V} {i:Int} {v:V} {P:V→Prop} (h:SqT K H p xs) (t:qC xs i=some v) (q:P v):∃p' xs' i' v',V.ref p=.ref p'∧V.int i=.int i'∧SqT K H p' xs'∧qC xs' i'=some v'∧P v':=⟨p,xs,i,v,rfl,rfl,h,t,q⟩
theorem j0 {K:PySem.W.Frag} {H:Hp} {a C dx:Addr} {fs:List (Str×V)} {v:V} {f:Str} {P:V→Prop} (h:H a=some (.ins C dx fs)) (c:Cls K C) (n:NoAttr K C f) (l:fs.lookup f=some v) (q:P v):∃a' C' dx' fs' v',V.ref a=.ref a'∧H a'=some (.ins C' dx' fs')∧Cls K C'∧NoAttr K C' f∧fs'.lookup f=some v'∧P v':=⟨a,C,dx,fs,v,rfl,h,c,n,l,q⟩
theorem jU {P:Int→Int→Prop} {i j:Int} (h:P i j):∃a b,V.int i=V.int a∧V.int j=V.int b∧P a b:=⟨i,j,rfl,rfl,h⟩
end L2
namespace L2
open PySem PySem.Spec PyProof.Rows
section
variable {X:Cx}
end
end L2
namespace My
open PySem L2
theorem zz0:0≤sizeLine:=by decide
theorem zz1:1≤sizeLine:=by decide
theorem zz2:2≤sizeLine:=by decide
theorem zz3:3≤sizeLine:=by decide
theorem zz4:4≤sizeLine:=by decide
theorem zz8:8≤sizeLine:=by decide
def top (i:Nat):Stmt:=PySem.Challenge.pw_lockhouse_k49_whole_as_wet.main.body.getD i (.Pass ⟨0,0,0,0⟩)
abbrev ZG:Stmt:=top 16
abbrev ZD:Stmt:=top 18
abbrev Q8:Stmt:=top 23
abbrev ZK:Stmt:=top 22
abbrev JS:Stmt:=top 20
abbrev ZJ:Stmt:=top 19
abbrev ZP:Stmt:=top 21
abbrev JQ:Stmt:=top 55
abbrev QK:Stmt:=qW (top 56) 0
abbrev QB:Stmt:=qW (top 57) 0
abbrev QN:Stmt:=qW (top 58) 0
abbrev QP:Stmt:=qW (top 52) 0
abbrev QL:Stmt:=qW (top 56) 1
abbrev QC:Stmt:=qW (top 57) 1
abbrev QO:Stmt:=qW (top 58) 1
abbrev QM:Stmt:=qW (top 56) 2
abbrev QD:Stmt:=qW (top 57) 2
abbrev JG:Stmt:=qW (top 53) 0
abbrev QI:Stmt:=qW (top 53) 6
abbrev QJ:Stmt:=qW (top 53) 7
abbrev QH:Stmt:=qW (top 53) 3
abbrev QF:Stmt:=qW (top 53) 4
abbrev QE:Stmt:=qW (top 53) 5
abbrev JI:Stmt:=qW (top 53) 8
abbrev JH:Stmt:=qW (top 53) 9
abbrev QG:Stmt:=qW (top 53) 10
abbrev JL:Stmt:=top 28
abbrev JN:Stmt:=top 29
abbrev JM:Stmt:=top 32
abbrev JJ:Stmt:=top 31
abbrev ZF:Stmt:=top 30
abbrev ZL:Stmt:=top 8
abbrev ZA:Stmt:=top 7
abbrev ZM:Stmt:=top 13
abbrev ZI:Stmt:=top 10
abbrev JO:Stmt:=top 11
abbrev Q3:Stmt:=top 9
abbrev y7:Stmt:=top 25
abbrev Q6:Stmt:=top 12
abbrev ZC:Stmt:=top 14
abbrev JP:Stmt:=top 44
abbrev Q4:Stmt:=top 43
abbrev JK:Stmt:=top 40
abbrev ZE:Stmt:=top 38
abbrev Q9:Stmt:=top 39
abbrev Q7:Stmt:=top 37
abbrev Q5:Stmt:=top 36
abbrev ZN:Stmt:=top 35
abbrev ZO:Stmt:=top 34
abbrev ZH:Stmt:=top 41
abbrev Q0:Stmt:=top 42
abbrev y6:Stmt:=top 45
abbrev Q1:Stmt:=top 26
abbrev ZB:Stmt:=top 48
abbrev JR:Stmt:=top 49
abbrev Q2:Stmt:=top 47
abbrev QR:Stmt:=top 60
abbrev QW:Stmt:=top 61
abbrev QU:Stmt:=top 62
abbrev QS:Stmt:=top 63
abbrev QY:Stmt:=top 64
abbrev y0:Stmt:=top 65
abbrev QV:Stmt:=top 66
abbrev QX:Stmt:=top 67
abbrev QT:Stmt:=top 68
abbrev QZ:Stmt:=top 69
abbrev QQ:Stmt:=top 70
abbrev v7:Stmt:=top 71
theorem iJ {K:W.Frag} {H H':Hp} {a:Addr} {xs:List V} (e:Same H H') (h:SqT K H a xs):SqT K H' a xs:=by
 rcases h with (h|⟨o,h⟩)|h
 ·exact .inl (.inl (e _ _ h))
 ·exact .inl (.inr ⟨o,e _ _ h⟩)
 ·exact .inr h
theorem jK {H:Hp} {p:Addr} (h:H p=none) (o:HO):Same H (upd H p o):=fun b u q=>by rw [j6 (qJ q h)];exact q
theorem small {n:Nat} (h:n≤1000):n≤sizeLine:=Nat.le_of_lt (qQ h)
def Ints (K:W.Frag) (H:Hp) (a:Addr) (ws:List Int):Prop:=SqL K H a (ws.map V.int)∨SqT K H a (ws.map V.int)
theorem Ints.same {K:W.Frag} {H H':Hp} {a:Addr} {ws:List Int} (e:Same H H') (h:Ints K H a ws):Ints K H' a ws:=by
 rcases h with h|h
 ·exact .inl (e.seq h)
 ·exact .inr (iJ e h)
theorem eI {n s:Nat} (h:s<n):v5 n (s:Int)=some s:=by
 unfold v5
 rw [if_pos (by omega),if_pos (by omega)]
 simp
theorem qF {ws:List Int} {s:Nat} (h:s<ws.length):qC (ws.map V.int) (s:Int)=some (.int (ws.getD s 0)):=by
 refine kX ?_
 rw [List.getElem?_map,List.getElem?_eq_getElem h,List.getD_eq_getElem?_getD,List.getElem?_eq_getElem h]
 rfl
theorem B2 {K:W.Frag} {H:Hp} {p:Addr} {ws:List Int} {s:Nat} {Q:VK} (h:Ints K H p ws) (hs:s<ws.length) (q:Q (.int (ws.getD s 0)) H):sE K (.ref p) (.int s) H Q:=by
 rcases h with h|h
 ·exact .inl ⟨p,_,s,_,rfl,rfl,h,qF hs,q⟩
 ·exact .inr (.inl ⟨p,_,s,_,rfl,rfl,h,qF hs,q⟩)
theorem dR (ws:List Int) (s:Nat) (z:Int):(ws.map V.int).set s (V.int z)=(ws.set s z).map V.int:=by rw [List.map_set]
theorem nH (ns:List Int) (lo hi:Option Int):∃ms:List Int,kT (ns.map V.int) lo hi=ms.map V.int∧ms.length≤ns.length:=by
 refine ⟨(ns.drop (HT.sIx ns.length 0 lo)).take (HT.sIx ns.length ns.length hi - HT.sIx ns.length 0 lo),?_,?_⟩
 ·unfold kT
  rw [List.length_map,List.map_take,List.map_drop]
 ·rw [List.length_take,List.length_drop]
  omega
theorem CI {ms:List Int} {i:Nat} {x:V} (h:(ms.map V.int)[i]?=some x):∃z,x=V.int z∧ms[i]?=some z:=by
 rw [List.getElem?_map] at h
 cases e:ms[i]? with
 |none=>rw [e] at h;cases h
 |some z=>rw [e] at h;exact ⟨z,(Option.some.inj h).symm,rfl⟩
theorem fW {a b:Int} (h:0<b):∃k:Nat,a%b=(k:Int)∧(k:Int)<b:=by
 have h1:=Int.emod_nonneg a (by omega:b≠0)
 have h2:=Int.emod_lt_of_pos a h
 exact ⟨(a%b).toNat,by omega,by omega⟩
def eO (K:W.Frag):Sp:=fun vs H Q _=>∃(a:Addr) (ns:List Int),vs=[.ref a]∧SqL K H a (ns.map V.int)∧ns.length≤63∧∀H',Q (.bl true) H'
def pour (ws:List Int) (q:Nat×Nat×Int):List Int:=((ws.set q.1 (ws.getD q.1 0 - q.2.2))).set q.2.1 ((ws.set q.1 (ws.getD q.1 0 - q.2.2)).getD q.2.1 0+q.2.2)
theorem bO (ws:List Int) (q:Nat×Nat×Int):(pour ws q).length=ws.length:=by unfold pour;rw [List.length_set,List.length_set]
def jX (ws:List Int) (qs:List (Nat×Nat×Int)):List Int:=qs.foldl pour ws
theorem vB (qs:List (Nat×Nat×Int)):∀ws:List Int,(jX ws qs).length=ws.length:=by
 induction qs with
 |nil=>intro ws;rfl
 |cons q r ih=>intro ws;show (jX (pour ws q) r).length=_;rw [ih,bO]
theorem xK (ws:List Int) (qs:List (Nat×Nat×Int)) (q:Nat×Nat×Int):jX ws (qs++[q])=pour (jX ws qs) q:=by
 unfold jX;rw [List.foldl_append];rfl
theorem fL (ws:List Int) (qs:List (Nat×Nat×Int)) (i:Nat) (q:Nat×Nat×Int) (h:qs[i]?=some q):jX ws (qs.take (i+1))=pour (jX ws (qs.take i)) q:=by
 rw [List.take_add_one,h];exact xK ..
def pM (K:W.Frag) (H:Hp) (rs:List V) (qs:List (Nat×Nat×Int)) (n:Nat):Prop :=
 rs.length=qs.length∧∀(i:Nat) (r:V),rs[i]?=some r→∃(a:Addr) (s t:Nat) (m:Int),r=.ref a∧qs[i]?=some (s,t,m)∧SqT K H a [.int s,.int t,.int m]∧s<n∧t<n
def Z8 (K:W.Frag):Sp:=fun vs H Q _=>∃(w p:Addr) (ws:List Int) (rs:List V) (qs:List (Nat×Nat×Int)),vs=[.ref w,.ref p]∧Ints K H w ws∧SqL K H p rs∧pM K H rs qs ws.length∧ws.length≤1000∧
 ∀(r:Addr) (H':Hp),Same H H'→H r=none→H' r=some (.tup ((jX ws qs).map V.int))→Q (.ref r) H'
def Keep (d:Addr) (H H':Hp):Prop:=∀b o,b≠d→H b=some o→H' b=some o
theorem Keep.refl (d:Addr) (H:Hp):Keep d H H:=fun _ _ _ q=>q
theorem Keep.of {d:Addr} {H H':Hp} (s:Same H H'):Keep d H H':=fun b o _ q=>s b o q
theorem Keep.trans {d:Addr} {H H1 H2:Hp} (a:Keep d H H1) (b:Keep d H1 H2):Keep d H H2:=fun c o n q=>b c o n (a c o n q)
theorem Keep.upd {d:Addr} {H H':Hp} (k:Keep d H H') (o:HO):Keep d H (upd H' d o):=fun b u n q=>by rw [j6 n];exact k b u n q
theorem Keep.sqt {K:W.Frag} {d a:Addr} {H H':Hp} {xs:List V} {ys:List V} (k:Keep d H H') (hd:H d=some (.lst ys)) (h:SqT K H a xs):SqT K H' a xs:=by
 rcases h with (h|⟨o,h⟩)|h
 ·exact .inl (.inl (k _ _ (yT h hd (fun z=>nomatch z)) h))
 ·exact .inl (.inr ⟨o,k _ _ (yT h hd (fun z=>nomatch z)) h⟩)
 ·exact .inr h
def qZ (n h l r:V):List (Str×V):=jS "room" r (jS "low" l (jS "high" h (jS "name" n [])))
theorem FI:¬(("name":Str)="high"):=by decide +kernel
theorem FH:¬(("name":Str)="low"):=by decide +kernel
theorem FG:¬(("name":Str)="room"):=by decide +kernel
theorem FL:¬(("high":Str)="low"):=by decide +kernel
theorem FK:¬(("high":Str)="room"):=by decide +kernel
theorem FJ:¬(("low":Str)="room"):=by decide +kernel
theorem DG (n h l r:V):(qZ n h l r).lookup ("name":Str)=some n:=by
 unfold qZ
 rw [qO,if_neg FG,qO,if_neg FH,qO,if_neg FI,qO,if_pos rfl]
theorem DH (n h l r:V):(qZ n h l r).lookup ("high":Str)=some h:=by
 unfold qZ
 rw [qO,if_neg FK,qO,if_neg FL,qO,if_pos rfl]
theorem EL (n h l r:V):(qZ n h l r).lookup ("low":Str)=some l:=by
 unfold qZ
 rw [qO,if_neg FJ,qO,if_pos rfl]
theorem DF (n h l r:V):(qZ n h l r).lookup ("room":Str)=some r:=by
 unfold qZ
 rw [qO,if_pos rfl]
theorem rP (n h l r:V) {m:Str} (h1:¬m="room") (h2:¬m="low") (h3:¬m="high") (h4:¬m="name"):(qZ n h l r).lookup m=none:=by
 unfold qZ
 rw [qO,if_neg h1,qO,if_neg h2,qO,if_neg h3,qO,if_neg h4]
 rfl
def PartsAt (H:Hp) (rs:List V) (ps:List (Str×Int)):Prop:=rs.length=ps.length∧∀(i:Nat) (r:V),rs[i]?=some r→∃(a:Addr) (s:Str) (n:Int),r=.ref a∧ps[i]?=some (s,n)∧H a=some (.tup [.str s,.int n])
theorem PartsAt.nil {H:Hp}:PartsAt H [] []:=⟨rfl,fun i r hi=>by cases hi⟩
theorem PartsAt.keep {H H':Hp} {d:Addr} {ys rs:List V} {ps:List (Str×Int)} (k:Keep d H H') (hd:H d=some (.lst ys)) (h:PartsAt H rs ps):PartsAt H' rs ps:=by
 refine ⟨h.1,fun i r hi=>?_⟩
 obtain ⟨a,s,n,h1,h2,h3⟩:=h.2 i r hi
 exact ⟨a,s,n,h1,h2,k _ _ (yT h3 hd (fun z=>nomatch z)) h3⟩
theorem PartsAt.snoc {H:Hp} {rs:List V} {ps:List (Str×Int)} {s:Str} {n:Int} {a:Addr} (h:PartsAt H rs ps) (ht:H a=some (.tup [.str s,.int n])):PartsAt H (rs++[.ref a]) (ps++[(s,n)]):=by
 refine ⟨by rw [List.length_append,List.length_append,h.1];rfl,fun i r hi=>?_⟩
 by_cases hl:i<rs.length
 ·rw [List.getElem?_append_left hl] at hi
  obtain ⟨b,s',n',h1,h2,h3⟩:=h.2 i r hi
  exact ⟨b,s',n',h1,by rw [List.getElem?_append_left (by rw [← h.1];exact hl)];exact h2,h3⟩
 ·rw [List.getElem?_append_right (by omega)] at hi
  have hz:i - rs.length=0:=by
   have:=(List.getElem?_eq_some_iff.mp hi).1
   rw [List.length_singleton] at this
   omega
  rw [hz] at hi
  have e:V.ref a=r:=Option.some.inj hi
  refine ⟨a,s,n,e.symm,?_,ht⟩
  rw [List.getElem?_append_right (by rw [← h.1];omega),← h.1,hz]
  rfl
def vI (q:Str×Int):Bool := !decide (q.2=0)
def Z7 (K:W.Frag):Sp:=fun vs H Q _=>∃(p:Addr) (rs:List V) (ps:List (Str×Int)),vs=[.ref p]∧SqL K H p rs∧PartsAt H rs ps∧rs.length≤10∧
 ∀(r:Addr) (H':Hp) (rs':List V),Same H H'→H r=none→H' r=some (.lst rs')→PartsAt H' rs' (ps.filter vI)→Q (.ref r) H'
def Z6 (e:Str) (n h l r v:V):List (Str×V):=jS e v (qZ n h l r)
theorem gR (e:Str) (n h l r v:V):(Z6 e n h l r v).lookup e=some v:=by
 unfold Z6
 rw [qO,if_pos rfl]
theorem o3 {e m:Str} (ne:¬m=e) (n h l r v:V):(Z6 e n h l r v).lookup m=(qZ n h l r).lookup m:=by
 unfold Z6
 rw [qO,if_neg ne]
theorem lY (n h l r:V):(qZ n h l r).length<1000:=by
 have h1:=yM "high" h (jS "name" n [])
 have h2:=yM "low" l (jS "high" h (jS "name" n []))
 have h3:=yM "room" r (jS "low" l (jS "high" h (jS "name" n [])))
 have h4:(jS ("name":Str) n []).length=1:=rfl
 unfold qZ
 omega
def wv (b:Bool):V:=if b then .str "up" else .str "down"
theorem EZ:¬(V.str "down"=V.str "up"):=fun h=>absurd (V.str.inj h) (by decide +kernel)
def jF (cP cB cU:Addr):Kd→Addr
 |.plain=>cP
 |.basin=>cB
 |.pump=>cU
def zI (kd:Kd) (n h l r v:V):List (Str×V):=match kd with
 |.plain=>qZ n h l r
 |.basin=>Z6 "side" n h l r v
 |.pump=>Z6 "lift" n h l r v
theorem Z3 (kd:Kd) (n h l r v:V) {m:Str} (h1:¬m="side") (h2:¬m="lift"):(zI kd n h l r v).lookup m=(qZ n h l r).lookup m:=by
 cases kd
 ·rfl
 ·exact o3 h1 _ _ _ _ _
 ·exact o3 h2 _ _ _ _ _
theorem DM (kd:Kd) (n h l r v:V):(zI kd n h l r v).lookup ("name":Str)=some n:=by rw [Z3 kd _ _ _ _ _ (by decide +kernel) (by decide +kernel)];exact DG ..
theorem ZY (kd:Kd) (n h l r v:V):(zI kd n h l r v).lookup ("high":Str)=some h:=by rw [Z3 kd _ _ _ _ _ (by decide +kernel) (by decide +kernel)];exact DH ..
theorem Z4 (kd:Kd) (n h l r v:V):(zI kd n h l r v).lookup ("low":Str)=some l:=by rw [Z3 kd _ _ _ _ _ (by decide +kernel) (by decide +kernel)];exact EL ..
theorem cI (kd:Kd) (n h l r v:V):(zI kd n h l r v).lookup ("room":Str)=some r:=by rw [Z3 kd _ _ _ _ _ (by decide +kernel) (by decide +kernel)];exact DF ..
theorem DN (kd:Kd) (n h l r v:V):(zI kd n h l r v).lookup ("fill_parts":Str)=none:=by rw [Z3 kd _ _ _ _ _ (by decide +kernel) (by decide +kernel)];exact rP _ _ _ _ (by decide +kernel) (by decide +kernel) (by decide +kernel) (by decide +kernel)
theorem EU (kd:Kd) (n h l r v:V):(zI kd n h l r v).lookup ("let_parts":Str)=none:=by rw [Z3 kd _ _ _ _ _ (by decide +kernel) (by decide +kernel)];exact rP _ _ _ _ (by decide +kernel) (by decide +kernel) (by decide +kernel) (by decide +kernel)
def LockAt (cs:Kd→Addr) (H:Hp) (x:Addr) (kd:Kd) (n h l:V) (room v:Int):Prop:=∃dx:Addr,H x=some (.ins (cs kd) dx (zI kd n h l (.int room) (.int v)))
theorem LockAt.same {cs:Kd→Addr} {H H':Hp} {x:Addr} {kd:Kd} {n h l:V} {room v:Int} (e:Same H H') (a:LockAt cs H x kd n h l room v):LockAt cs H' x kd n h l room v:=by
 obtain ⟨dx,a⟩:=a
 exact ⟨dx,e _ _ a⟩
def yI (kd:Kd) (room v b:Int):List (Str×Int):=match kd with
 |.plain=>([("high",room)]:List (Str×Int)).filter vI
 |.basin=>([("basin",b),("high",room - b)]:List (Str×Int)).filter vI
 |.pump=>([("low",v),("high",room - v)]:List (Str×Int)).filter vI
def yK (kd:Kd) (room v b:Int):List (Str×Int):=match kd with
 |.basin=>([("basin",v - b),("low",room - (v - b))]:List (Str×Int)).filter vI
 |_=>([("low",room)]:List (Str×Int)).filter vI
theorem nE (kd:Kd) (room v b:Int):(yI kd room v b).length≤2:=by
 cases kd
 ·exact Nat.le_trans (List.length_filter_le _ _) (by show 1≤2;decide)
 ·exact Nat.le_trans (List.length_filter_le _ _) (by show 2≤2;decide)
 ·exact Nat.le_trans (List.length_filter_le _ _) (by show 2≤2;decide)
theorem oN (kd:Kd) (room v b:Int):(yK kd room v b).length≤2:=by
 cases kd
 ·exact Nat.le_trans (List.length_filter_le _ _) (by show 1≤2;decide)
 ·exact Nat.le_trans (List.length_filter_le _ _) (by show 2≤2;decide)
 ·exact Nat.le_trans (List.length_filter_le _ _) (by show 1≤2;decide)
def vD (cs:Kd→Addr) (F:Kd→Int→Int→Int→List (Str×Int)) (kd:Kd):Sp:=fun vs H Q _=>∃(x:Addr) (n h l:V) (room v b:Int),vs=[.ref x,.int b]∧LockAt cs H x kd n h l room v∧
 ∀(r:Addr) (H':Hp) (rs:List V),Same H H'→H r=none→H' r=some (.lst rs)→PartsAt H' rs (F kd room v b)→Q (.ref r) H'
def CU (cs:Kd→Addr):Sp:=fun vs H Q _=>∃(kd:Kd) (x:Addr) (n h l:V) (room v b:Int),vs=[.ref x,.int b]∧LockAt cs H x kd n h l room v∧
 ∀(r:Addr) (H':Hp) (rs:List V),Same H H'→H r=none→H' r=some (.lst rs)→PartsAt H' rs (([("low",room)]:List (Str×Int)).filter vI)→Q (.ref r) H'
def ZV (cs:Kd→Addr):Sp:=fun vs H Q _=>∃(kd:Kd) (x dx:Addr) (n h l r:V),vs=[.ref x,n,h,l,r]∧H x=some (.ins (cs kd) dx [])∧∀H':Hp,Keep x H H'→H' x=some (.ins (cs kd) dx (qZ n h l r))→Q .non H'
def ZU (cs:Kd→Addr) (kd:Kd):Sp:=fun vs H Q _=>∃(x dx:Addr) (n h l r v:V),vs=[.ref x,n,h,l,r,v]∧H x=some (.ins (cs kd) dx [])∧∀H':Hp,Keep x H H'→H' x=some (.ins (cs kd) dx (zI kd n h l r v))→Q .non H'
def PoursS (H:Hp) (rs:List V) (ps:List (Str×Str×Int)):Prop:=rs.length=ps.length∧∀(i:Nat) (r:V),rs[i]?=some r→∃(a:Addr) (s t:Str) (n:Int),r=.ref a∧ps[i]?=some (s,t,n)∧H a=some (.tup [.str s,.str t,.int n])
theorem PoursS.nil {H:Hp}:PoursS H [] []:=⟨rfl,fun i r hi=>by cases hi⟩
theorem PoursS.same {H H':Hp} {rs:List V} {ps:List (Str×Str×Int)} (e:Same H H') (h:PoursS H rs ps):PoursS H' rs ps:=by
 refine ⟨h.1,fun i r hi=>?_⟩
 obtain ⟨a,s,t,n,h1,h2,h3⟩:=h.2 i r hi
 exact ⟨a,s,t,n,h1,h2,e _ _ h3⟩
theorem PoursS.keep {H H':Hp} {d:Addr} {ys rs:List V} {ps:List (Str×Str×Int)} (k:Keep d H H') (hd:H d=some (.lst ys)) (h:PoursS H rs ps):PoursS H' rs ps:=by
 refine ⟨h.1,fun i r hi=>?_⟩
 obtain ⟨a,s,t,n,h1,h2,h3⟩:=h.2 i r hi
 exact ⟨a,s,t,n,h1,h2,k _ _ (yT h3 hd (fun z=>nomatch z)) h3⟩
theorem PoursS.append {H:Hp} {rs rs':List V} {ps ps':List (Str×Str×Int)} (h:PoursS H rs ps) (h':PoursS H rs' ps'):PoursS H (rs++rs') (ps++ps'):=by
 refine ⟨by rw [List.length_append,List.length_append,h.1,h'.1],fun i r hi=>?_⟩
 by_cases hl:i<rs.length
 ·rw [List.getElem?_append_left hl] at hi
  obtain ⟨b,s',t',n',h1,h2,h3⟩:=h.2 i r hi
  exact ⟨b,s',t',n',h1,by rw [List.getElem?_append_left (by rw [← h.1];exact hl)];exact h2,h3⟩
 ·rw [List.getElem?_append_right (by omega)] at hi
  obtain ⟨b,s',t',n',h1,h2,h3⟩:=h'.2 _ r hi
  exact ⟨b,s',t',n',h1,by rw [List.getElem?_append_right (by rw [← h.1];omega),← h.1];exact h2,h3⟩
theorem PoursS.one {H:Hp} {s t:Str} {n:Int} {a:Addr} (ht:H a=some (.tup [.str s,.str t,.int n])):PoursS H [.ref a] [(s,t,n)]:=by
 refine ⟨rfl,fun i r hi=>?_⟩
 cases i with
 |zero=>exact ⟨a,s,t,n,(Option.some.inj hi).symm,rfl,ht⟩
 |succ i=>cases hi
def vR (kd:Kd) (room v b:Int):List (Str×Str×Int):=(yI kd room v b).map fun p=>(p.1,"chamber",p.2)
def qX (kd:Kd) (room v b:Int):List (Str×Str×Int):=(yK kd room v b).map fun p=>("chamber",p.1,p.2)
theorem bT (kd:Kd) (room v b:Int):(vR kd room v b).length≤2:=by unfold vR;rw [List.length_map];exact nE ..
theorem JY (kd:Kd) (room v b:Int):(qX kd room v b).length≤2:=by unfold qX;rw [List.length_map];exact oN ..
def zM (p:Str×Str×Int→Bool) (qs:List (Str×Str×Int)):List Int:=(qs.filter p).map (·.2.2)
theorem mF (p:Str×Str×Int→Bool) (qs:List (Str×Str×Int)) (i:Nat) (q:Str×Str×Int) (h:qs[i]?=some q):zM p (qs.take (i+1))=zM p (qs.take i)++(if p q=true then [q.2.2] else []):=by
 unfold zM
 rw [List.take_add_one,h]
 simp only [Option.toList,List.filter_append,List.map_append]
 by_cases c:p q=true
 ·rw [if_pos c];simp [c]
 ·rw [if_neg c];simp [c]
theorem nQ (p:Str×Str×Int→Bool) (qs:List (Str×Str×Int)) (i:Nat):(zM p (qs.take i)).length≤i:=by
 unfold zM
 rw [List.length_map]
 exact Nat.le_trans (List.length_filter_le _ _) (List.length_take_le _ _)
def dB (s:Str) (q:Str×Str×Int):Bool:=decide (q.1=s)
def toS (s:Str) (q:Str×Str×Int):Bool:=decide (q.2.1=s)
def p6 (s:Str) (qs:List (Str×Str×Int)):Int:=(zM (dB s) qs).sum
def yQ (b:Int) (qs:List (Str×Str×Int)):Int:=b+(zM (toS "basin") qs).sum - p6 "basin" qs
theorem oR (s t:Str):decide (V.str s=V.str t)=decide (s=t):=decide_eq_decide.mpr ⟨V.str.inj,fun e=>by rw [e]⟩
def bX (cs:Kd→Addr) (F:Kd→Int→Int→Int→List (Str×Str×Int)):Sp:=fun vs H Q _=>∃(x:Addr) (kd:Kd) (n h l:V) (room v b:Int),vs=[.ref x,.int b]∧LockAt cs H x kd n h l room v∧
 ∀(r:Addr) (H':Hp) (rs:List V),Same H H'→H r=none→H' r=some (.lst rs)→PoursS H' rs (F kd room v b)→Q (.ref r) H'
def o8:Sp:=fun vs H Q _=>∃(s:Str) (p:Addr) (rs:List V) (qs:List (Str×Str×Int)),vs=[.str s,.ref p]∧H p=some (.lst rs)∧PoursS H rs qs∧rs.length≤999∧∀H',Same H H'→Q (.int (p6 s qs)) H'
def pA:Sp:=fun vs H Q _=>∃(b:Int) (p:Addr) (rs:List V) (qs:List (Str×Str×Int)),vs=[.int b,.ref p]∧H p=some (.lst rs)∧PoursS H rs qs∧rs.length≤999∧∀H',Same H H'→Q (.int (yQ b qs)) H'
def Z9 (kd:Kd) (room v:Int) (f:Bool) (b:Int) (w:Bool):List (Str×Str×Int):=match w,f with
 |true,true=>qX kd room v b++vR kd room v (yQ b (qX kd room v b))
 |true,false=>vR kd room v b
 |false,true=>qX kd room v b
 |false,false=>vR kd room v b++qX kd room v (yQ b (vR kd room v b))
theorem mG (b:Int):yQ b []=b:=by show b+0 - 0=b;omega
theorem mY (kd:Kd) (room v:Int) (f:Bool) (b:Int) (w:Bool):(Z9 kd room v f b w).length≤4:=by
 have h1:=fun b=>bT kd room v b
 have h2:=fun b=>JY kd room v b
 cases w<;>cases f
 ·show (vR kd room v b++qX kd room v (yQ b (vR kd room v b))).length≤4
  rw [List.length_append];have:=h1 b;have:=h2 (yQ b (vR kd room v b));omega
 ·exact Nat.le_trans (h2 b) (by decide)
 ·exact Nat.le_trans (h1 b) (by decide)
 ·show (qX kd room v b++vR kd room v (yQ b (qX kd room v b))).length≤4
  rw [List.length_append];have:=h2 b;have:=h1 (yQ b (qX kd room v b));omega
def mR (cs:Kd→Addr):Sp:=fun vs H Q _=>∃(x:Addr) (kd:Kd) (n h l:V) (room v b:Int) (f w:Bool),vs=[.ref x,.bl f,.int b,wv w]∧LockAt cs H x kd n h l room v∧
 ∀(r:Addr) (H':Hp) (rs:List V),Same H H'→H r=none→H' r=some (.lst rs)→PoursS H' rs (Z9 kd room v f b w)→Q (.ref r) H'
theorem lJ {α β:Type} {f:α→β} {ps:List α} {i:Nat} {p:α} (h:ps[i]?=some p):(ps.take (i+1)).map f=(ps.take i).map f++[f p]:=by
 rw [List.take_add_one,h,List.map_append];rfl
def yS (c m:Int):Int:=if m - c>0 then m - c else 0
def zU (ws:List (Int×Nat)) (i:Nat):Int:=(ws.getD i (0,0)).1
def j9 (ws:List (Int×Nat)) (i:Nat):Nat:=(ws.getD i (0,0)).2
def WeirsAt (K:W.Frag) (H:Hp) (rs:List V) (ws:List (Int×Nat)) (n:Nat):Prop :=
 rs.length=ws.length∧∀(i:Nat) (r:V),rs[i]?=some r→∃(a:Addr) (c:Int) (t:Nat),r=.ref a∧ws[i]?=some (c,t)∧SqT K H a [.int c,.int t]∧t<n
def eR (R:Nat) (ws:List (Int×Nat)):Prop:=∀(i:Nat) (c:Int) (t:Nat),ws[i]?=some (c,t)→t<i∨R≤t
theorem WeirsAt.same {K:W.Frag} {H H':Hp} {rs:List V} {ws:List (Int×Nat)} {n:Nat} (e:Same H H') (h:WeirsAt K H rs ws n):WeirsAt K H' rs ws n:=by
 refine ⟨h.1,fun i r hi=>?_⟩
 obtain ⟨a,c,t,h1,h2,h3,h4⟩:=h.2 i r hi
 exact ⟨a,c,t,h1,h2,iJ e h3,h4⟩
theorem dY {K:W.Frag} {H:Hp} {rs:List V} {ws:List (Int×Nat)} {n i:Nat} (h:WeirsAt K H rs ws n) (hi:i<ws.length):∃a,qC rs (i:Int)=some (V.ref a)∧SqT K H a [.int (zU ws i),.int (j9 ws i)]∧j9 ws i<n:=by
 have hk:i<rs.length:=by rw [h.1];exact hi
 obtain ⟨a,c,t,h1,h2,h3,h4⟩:=h.2 i rs[i] (List.getElem?_eq_getElem hk)
 have e:ws.getD i (0,0)=(c,t):=by rw [List.getD_eq_getElem?_getD,h2];rfl
 refine ⟨a,kX (by rw [List.getElem?_eq_getElem hk,h1]),?_,?_⟩
 ·unfold zU j9;rw [e];exact h3
 ·unfold j9;rw [e];exact h4
theorem CP {R:Nat} {ws:List (Int×Nat)} {i:Nat} (h:eR R ws) (hi:i<ws.length):j9 ws i<i∨R≤j9 ws i:=by
 have e:ws[i]?=some ((ws.getD i (0,0)).1,(ws.getD i (0,0)).2):=by rw [List.getD_eq_getElem?_getD,List.getElem?_eq_getElem hi];rfl
 exact h i _ _ e
def pP (K:W.Frag):Sp:=fun vs H Q _=>∃(wq wa:Addr) (rs:List V) (ws:List (Int×Nat)) (n:Nat) (ms:List Int) (at_:Nat),vs=[.ref wq,.ref wa,.int at_]∧SqL K H wq rs∧WeirsAt K H rs ws n∧Ints K H wa ms∧at_<ws.length∧at_<ms.length∧
 Q (.int (yS (zU ws at_) (ms.getD at_ 0))) H
def qL (t:Nat→Nat) (g:Nat→Int) (j:Nat):Nat→Int
 |0=>0
 |a+1=>qL t g j a+(if t a=j then g a else 0)
theorem fQ {t:Nat→Nat} {g g':Nat→Int} {j:Nat}:∀{R:Nat},(∀a,a<R→t a=j→g a≤g' a)→qL t g j R≤qL t g' j R
 |0,_=>Int.le_refl _
 |R+1,h=>by
  show qL t g j R+_≤qL t g' j R+_
  have ih:=fQ (R:=R) fun a ha=>h a (by omega)
  by_cases c:t R=j
  ·rw [if_pos c,if_pos c]
   have:=h R (by omega) c
   omega
  ·rw [if_neg c,if_neg c]
   omega
theorem lO (t:Nat→Nat) (j:Nat):∀R:Nat,qL t (fun _=>0) j R=0
 |0=>rfl
 |R+1=>by
  show qL t (fun _=>0) j R+_=0
  rw [lO t j R]
  split<;>rfl
theorem lZ {t:Nat→Nat} {g g':Nat→Int} {i:Nat} (hg:∀a,a≠i→g' a=g a) (j:Nat):∀{R:Nat},qL t g' j R=qL t g j R+(if i<R∧t i=j then g' i - g i else 0)
 |0=>by
  show (0:Int)=0+_
  rw [if_neg (by omega)]
  rfl
 |R+1=>by
  show qL t g' j R+(if t R=j then g' R else 0)=qL t g j R+(if t R=j then g R else 0)+(if i<R+1∧t i=j then g' i - g i else 0)
  rw [lZ hg j (R:=R)]
  by_cases hi:i=R
  ·subst hi
   repeat' split
   all_goals omega
  ·rw [hg R (fun e=>hi e.symm)]
   repeat' split
   all_goals omega
def J0 (R:Nat) (c:Nat→Int) (t:Nat→Nat) (m:Nat→Int) (g:Nat→Int):Prop:=∀i,i<R→g i=yS (c i) (m i+qL t g i R)
def J6 (R:Nat) (t:Nat→Nat):Prop:=∀a,a<R→t a<a∨R≤t a
theorem AF {c m m':Int} (h:m≤m'):yS c m≤yS c m':=by
 unfold yS
 split<;>split<;>omega
theorem fT {R:Nat} {c:Nat→Int} {t:Nat→Nat} {m m' g g':Nat→Int} (hA:J6 R t) (hm:∀i,i<R→m i≤m' i) (h:J0 R c t m g) (h':J0 R c t m' g'):∀k,k≤R→∀i,R - k≤i→i<R→g i≤g' i:=by
 intro k
 induction k with
 |zero=>intro _ i h1 h2;omega
 |succ k ih =>
  intro hk i h1 h2
  by_cases e:R - k≤i
  ·exact ih (by omega) i e h2
  ·have hi:i=R - (k+1):=by omega
   rw [h i h2,h' i h2]
   refine AF ?_
   have:=fQ (t:=t) (g:=g) (g':=g') (j:=i) (R:=R) fun a ha hta=>ih (by omega) a (by have:=hA a ha;omega) ha
   have:=hm i h2
   omega
theorem xI {R:Nat} {c:Nat→Int} {t:Nat→Nat} {m g g':Nat→Int} (hA:J6 R t) (h:J0 R c t m g) (h':J0 R c t m g') {i:Nat} (hi:i<R):g i=g' i:=by
 have h1:=fT hA (fun i _=>Int.le_refl (m i)) h h' R (Nat.le_refl _) i (by omega) hi
 have h2:=fT hA (fun i _=>Int.le_refl (m i)) h' h R (Nat.le_refl _) i (by omega) hi
 omega
def after (R:Nat) (t:Nat→Nat) (m g:Nat→Int) (j:Nat):Int:=m j+qL t g j R - (if j<R then g j else 0)
def kO:List (Nat×Nat×Int)→Nat→Int
 |[],_=>0
 |q::r,j=>(if q.2.1=j then q.2.2 else 0) - (if q.1=j then q.2.2 else 0)+kO r j
theorem bL (l:List Int) (i j:Nat) (z:Int) (h:i<l.length):(l.set i z).getD j 0=if i=j then z else l.getD j 0:=by
 rw [List.getD_eq_getElem?_getD,List.getD_eq_getElem?_getD]
 by_cases e:i=j
 ·subst e
  rw [List.getElem?_set_self h,if_pos rfl]
  rfl
 ·rw [List.getElem?_set_ne e,if_neg e]
theorem bR (ms:List Int) (q:Nat×Nat×Int) (j:Nat) (h1:q.1<ms.length) (h2:q.2.1<ms.length):(pour ms q).getD j 0=ms.getD j 0+((if q.2.1=j then q.2.2 else 0) - (if q.1=j then q.2.2 else 0)):=by
 unfold pour
 rw [bL _ _ _ _ (by rw [List.length_set];exact h2),bL _ _ _ _ h1,bL _ _ _ _ h1]
 by_cases a:q.2.1=j
 ·rw [if_pos a,if_pos a]
  rw [a]
  by_cases b:q.1=j
  ·rw [if_pos b,if_pos b];rw [b];omega
  ·rw [if_neg b,if_neg b];omega
 ·rw [if_neg a,if_neg a]
  by_cases b:q.1=j
  ·rw [if_pos b,if_pos b];rw [b];omega
  ·rw [if_neg b,if_neg b];omega
theorem vU:∀(qs:List (Nat×Nat×Int)) (ms:List Int) (j:Nat),(∀q∈qs,q.1<ms.length∧q.2.1<ms.length)→(jX ms qs).getD j 0=ms.getD j 0+kO qs j
 |[],ms,j,_=>by
  show ms.getD j 0=ms.getD j 0+0
  omega
 |q::r,ms,j,h=>by
  show (jX (pour ms q) r).getD j 0=_
  obtain ⟨h1,h2⟩:=h q List.mem_cons_self
  rw [vU r (pour ms q) j (fun x hx=>by rw [bO];exact h x (List.mem_cons_of_mem _ hx)),bR ms q j h1 h2]
  show _=ms.getD j 0+((if q.2.1=j then q.2.2 else 0) - (if q.1=j then q.2.2 else 0)+kO r j)
  omega
theorem AM (n:Nat):q0 (n+1)=n::q0 n:=by
 unfold q0
 rw [List.range_succ,List.reverse_append]
 rfl
theorem mem_downs {n a:Nat}:a∈q0 n↔a<n:=by
 unfold q0
 rw [List.mem_reverse,List.mem_range]
theorem bM (n:Nat):(q0 n).length=n:=by
 unfold q0
 rw [List.length_reverse,List.length_range]
theorem nF {n k:Nat} (h:k<n):(q0 n)[k]?=some (n - 1 - k):=by
 unfold q0
 rw [List.getElem?_reverse (by simpa using h),List.length_range,List.getElem?_range (by omega)]
def qS (t:Nat→Nat) (g:Nat→Int) (R:Nat):List (Nat×Nat×Int):=(q0 R).map fun a=>(a,t a,g a)
theorem mB (t:Nat→Nat) (g:Nat→Int) (j:Nat):∀R:Nat,kO (qS t g R) j=qL t g j R - (if j<R then g j else 0)
 |0=>by
  show (0:Int)=0 - _
  rw [if_neg (by omega)]
  rfl
 |R+1=>by
  unfold qS
  rw [AM]
  show (if t R=j then g R else 0) - (if R=j then g R else 0)+kO (qS t g R) j=qL t g j R+(if t R=j then g R else 0) - _
  rw [mB t g j R]
  by_cases e:R=j
  ·subst e
   repeat' split
   all_goals omega
  ·repeat' split
   all_goals omega
theorem oO {l l':List Int} (h:l.length=l'.length) (e:∀j,j<l.length→l.getD j 0=l'.getD j 0):l=l':=by
 apply List.ext_getElem h
 intro i h1 h2
 have:=e i h1
 rw [List.getD_eq_getElem?_getD,List.getD_eq_getElem?_getD,List.getElem?_eq_getElem h1,List.getElem?_eq_getElem h2] at this
 exact this
def yW (ms:List Int) (ws:List (Int×Nat)) (gs:List Int):List Int:=jX ms (qS (j9 ws) (fun a=>gs.getD a 0) ws.length)
theorem xT (ms:List Int) (ws:List (Int×Nat)) (gs:List Int):(yW ms ws gs).length=ms.length:=vB _ _
theorem mV {ms:List Int} {ws:List (Int×Nat)} {gs:List Int} (hR:ws.length≤ms.length) (ht:∀a,a<ws.length→j9 ws a<ms.length) (j:Nat) :
  (yW ms ws gs).getD j 0=after ws.length (j9 ws) (fun j=>ms.getD j 0) (fun a=>gs.getD a 0) j:=by
 unfold yW
 rw [vU _ _ _ (fun q hq=>?_),mB]
 ·unfold after
  show ms.getD j 0+(qL _ _ _ _ - (if j<ws.length then gs.getD j 0 else 0))=ms.getD j 0+qL _ _ _ _ - (if j<ws.length then gs.getD j 0 else 0)
  omega
 ·obtain ⟨a,ha,rfl⟩:=List.mem_map.mp hq
  have:=mem_downs.mp ha
  exact ⟨by show a<ms.length;omega,ht a this⟩
def Spl (ws:List (Int×Nat)) (ms gs:List Int):Prop:=gs.length=ws.length∧J0 ws.length (zU ws) (j9 ws) (fun j=>ms.getD j 0) (fun a=>gs.getD a 0)
theorem Spl.unique {ws:List (Int×Nat)} {ms gs gs':List Int} (hA:J6 ws.length (j9 ws)) (h:Spl ws ms gs) (h':Spl ws ms gs'):gs=gs':=by
 refine oO (by rw [h.1,h'.1]) fun j hj=>?_
 exact xI hA h.2 h'.2 (by rw [← h.1];exact hj)
theorem gH {ws:List (Int×Nat)} (h:eR ws.length ws):J6 ws.length (j9 ws):=fun a ha=>CP h ha
theorem mH {K:W.Frag} {H:Hp} {rs:List V} {ws:List (Int×Nat)} {n:Nat} (h:WeirsAt K H rs ws n):∀a,a<ws.length→j9 ws a<n:=fun a ha=>let ⟨_,_,_,q⟩:=dY h ha;q
structure SplInv (ws:List (Int×Nat)) (ms hs gs:List Int) (k:Nat):Prop where
 lh:hs.length=ms.length
 lg:gs.length=ws.length
 flow:∀j,j<ms.length→hs.getD j 0=ms.getD j 0+qL (j9 ws) (fun a=>gs.getD a 0) j ws.length
 zero:∀a,a<ws.length - k→gs.getD a 0=0
 done:∀a,ws.length - k≤a→a<ws.length→gs.getD a 0=yS (zU ws a) (ms.getD a 0+qL (j9 ws) (fun a=>gs.getD a 0) a ws.length)
theorem SplInv.start (ws:List (Int×Nat)) (ms:List Int):SplInv ws ms ms (List.replicate ws.length 0) 0:=by
 have ez:(fun a:Nat=>(List.replicate ws.length (0:Int)).getD a 0)=fun _=>0:=by
  funext a
  rw [List.getD_eq_getElem?_getD,List.getElem?_replicate]
  split<;>rfl
 refine ⟨rfl,by simp,fun j _=>?_,fun a _=>congrFun ez a,fun a h1 h2=>by omega⟩
 rw [ez,lO]
 omega
theorem SplInv.step {ws:List (Int×Nat)} {ms hs gs:List Int} {k:Nat} (hA:J6 ws.length (j9 ws)) (hR:ws.length≤ms.length) (hk:k<ws.length) (ht:j9 ws (ws.length - 1 - k)<ms.length) (h:SplInv ws ms hs gs k) :
  SplInv ws ms (hs.set (j9 ws (ws.length - 1 - k)) (hs.getD (j9 ws (ws.length - 1 - k)) 0+(gs.set (ws.length - 1 - k) (yS (zU ws (ws.length - 1 - k)) (hs.getD (ws.length - 1 - k) 0))).getD (ws.length - 1 - k) 0))
   (gs.set (ws.length - 1 - k) (yS (zU ws (ws.length - 1 - k)) (hs.getD (ws.length - 1 - k) 0))) (k+1):=by
 obtain ⟨i,hi⟩:∃i,i=ws.length - 1 - k:=⟨_,rfl⟩
 rw [← hi] at ht ⊢
 obtain ⟨lh,lg,flow,zero,done⟩:=h
 have hil:i<gs.length:=by rw [lg];omega
 obtain ⟨v,hv⟩:∃v,v=yS (zU ws i) (hs.getD i 0):=⟨_,rfl⟩
 rw [← hv]
 have gset:∀a,(gs.set i v).getD a 0=if i=a then v else gs.getD a 0:=fun a=>bL gs i a v hil
 have g0:gs.getD i 0=0:=zero i (by omega)
 have gi:(gs.set i v).getD i 0=v:=by rw [gset,if_pos rfl]
 have infl:∀j,qL (j9 ws) (fun a=>(gs.set i v).getD a 0) j ws.length=qL (j9 ws) (fun a=>gs.getD a 0) j ws.length+(if j9 ws i=j then v else 0):=fun j=>by
  rw [lZ (g:=fun a=>gs.getD a 0) (i:=i) (fun a ha=>by show (gs.set i v).getD a 0=gs.getD a 0;rw [gset,if_neg (Ne.symm ha)]) j]
  show _+(if i<ws.length∧j9 ws i=j then (gs.set i v).getD i 0 - gs.getD i 0 else 0)=_
  rw [gi,g0]
  have hiw:i<ws.length:=by omega
  repeat' split
  all_goals omega
 have hti:=hA i (by omega)
 refine ⟨by rw [List.length_set,lh],by rw [List.length_set,lg],fun j hj=>?_,fun a ha=>?_,fun a h1 h2=>?_⟩
 ·rw [bL _ _ _ _ (by rw [lh];exact ht),infl,gi]
  have:=flow j hj
  by_cases e:j9 ws i=j
  ·rw [if_pos e,if_pos e,e]
   omega
  ·rw [if_neg e,if_neg e]
   omega
 ·rw [gset,if_neg (by omega)]
  exact zero a (by omega)
 ·rw [infl]
  by_cases e:i=a
  ·subst e
   rw [gi,if_neg (by omega),Int.add_zero,hv,flow i (by omega)]
  ·rw [gset,if_neg e,if_neg (by omega),Int.add_zero]
   exact done a (by omega) h2
theorem SplInv.spl {ws:List (Int×Nat)} {ms hs gs:List Int} (h:SplInv ws ms hs gs ws.length):Spl ws ms gs:=⟨h.lg,fun i hi=>h.done i (by omega) hi⟩
theorem oF (n:Nat):(List.replicate n [V.int 0]).flatten=(List.replicate n (0:Int)).map V.int:=by
 induction n with
 |zero=>rfl
 |succ n ih =>
  rw [List.replicate_succ,List.flatten_cons,ih,List.replicate_succ,List.map_cons]
  rfl
structure Ready (K:W.Frag) (H:Hp) (wq wa:Addr) (rs:List V) (ws:List (Int×Nat)) (ms:List Int):Prop where
 w:SqL K H wq rs
 a:WeirsAt K H rs ws ms.length
 m:Ints K H wa ms
 ah:eR ws.length ws
 le:ws.length≤ms.length
 sm:ms.length≤1000
theorem Ready.same {K:W.Frag} {H H':Hp} {wq wa:Addr} {rs:List V} {ws:List (Int×Nat)} {ms:List Int} (e:Same H H') (h:Ready K H wq wa rs ws ms):Ready K H' wq wa rs ws ms:=⟨e.seq h.w,h.a.same e,h.m.same e,h.ah,h.le,h.sm⟩
def iE (K:W.Frag):Sp:=fun vs H Q _=>∃(wq:Addr) (rs:List V),vs=[.ref wq]∧SqL K H wq rs∧rs.length≤1000∧∀(r:Addr) (H':Hp),Same H H'→H r=none→H' r=some (.lst ((q0 rs.length).map fun (i:Nat)=>V.int (i:Int)))→Q (.ref r) H'
def n0 (K:W.Frag):Sp:=fun vs H Q _=>∃(wq wa:Addr) (rs:List V) (ws:List (Int×Nat)) (ms:List Int),vs=[.ref wq,.ref wa]∧Ready K H wq wa rs ws ms∧
 ∀(r:Addr) (H':Hp) (gs:List Int),Same H H'→H r=none→H' r=some (.lst (gs.map V.int))→Spl ws ms gs→Q (.ref r) H'
def mQ (K:W.Frag):Sp:=fun vs H Q _=>∃(wq wa:Addr) (rs:List V) (ws:List (Int×Nat)) (ms:List Int),vs=[.ref wq,.ref wa]∧Ready K H wq wa rs ws ms∧
 ∀(r:Addr) (H':Hp) (gs:List Int),Same H H'→H r=none→H' r=some (.tup ((yW ms ws gs).map V.int))→Spl ws ms gs→Q (.ref r) H'
theorem oP {R i:Nat} {x:V} (h:((q0 R).map fun (i:Nat)=>V.int (i:Int))[i]?=some x):i<R∧x=V.int ((R - 1 - i:Nat):Int):=by
 rw [List.getElem?_map] at h
 by_cases hi:i<R
 ·rw [nF hi] at h
  exact ⟨hi,(Option.some.inj h).symm⟩
 ·rw [List.getElem?_eq_none (by rw [bM];omega)] at h
  cases h
theorem xR {t:Nat→Nat} {g:Nat→Int} {R i:Nat} (h:i<R):(qS t g R)[i]?=some (R - 1 - i,t (R - 1 - i),g (R - 1 - i)):=by
 unfold qS
 rw [List.getElem?_map,nF h]
 rfl
def kH (q:Nat×Nat×Int):Bool := !decide (q.2.2=0)
theorem ZX (j:Nat):∀qs:List (Nat×Nat×Int),kO (qs.filter kH) j=kO qs j
 |[]=>rfl
 |q::r=>by
  rw [List.filter_cons]
  by_cases h:q.2.2=0
  ·rw [if_neg (by unfold kH;rw [decide_eq_true h];decide)]
   show kO (r.filter kH) j=(if q.2.1=j then q.2.2 else 0) - (if q.1=j then q.2.2 else 0)+kO r j
   rw [ZX j r,h]
   repeat' split
   all_goals omega
  ·rw [if_pos (by unfold kH;rw [decide_eq_false h];rfl)]
   show _+kO (r.filter kH) j=_+kO r j
   rw [ZX j r]
theorem lW {qs:List (Nat×Nat×Int)} {ms:List Int} (h:∀q∈qs,q.1<ms.length∧q.2.1<ms.length):jX ms (qs.filter kH)=jX ms qs:=by
 refine oO (by rw [vB,vB]) fun j _=>?_
 rw [vU _ _ _ h,vU _ _ _ (fun q hq=>h q (List.mem_filter.mp hq).1),ZX]
theorem fU {ws:List (Int×Nat)} {g:Nat→Int} {n:Nat} (hR:ws.length≤n) (ht:∀a,a<ws.length→j9 ws a<n):∀q∈qS (j9 ws) g ws.length,q.1<n∧q.2.1<n:=fun q hq=>by
 obtain ⟨a,ha,rfl⟩:=List.mem_map.mp hq
 have:=mem_downs.mp ha
 exact ⟨by show a<n;omega,ht a this⟩
def PoursH (H:Hp) (rs:List V) (qs:List (Nat×Nat×Int)) (n:Nat):Prop:=rs.length=qs.length∧∀(i:Nat) (r:V),rs[i]?=some r→∃(a:Addr) (s t:Nat) (m:Int),r=.ref a∧qs[i]?=some (s,t,m)∧H a=some (.tup [.int s,.int t,.int m])∧s<n∧t<n
theorem PoursH.nil (H:Hp) (n:Nat):PoursH H [] [] n:=⟨rfl,fun i r hi=>by cases hi⟩
theorem PoursH.pa {K:W.Frag} {H:Hp} {rs:List V} {qs:List (Nat×Nat×Int)} {n:Nat} (h:PoursH H rs qs n):pM K H rs qs n:=⟨h.1,fun i r hi=>by
 obtain ⟨a,s,t,m,h1,h2,h3,h4⟩:=h.2 i r hi
 exact ⟨a,s,t,m,h1,h2,SqT.of h3,h4⟩⟩
theorem PoursH.same {H H':Hp} {rs:List V} {qs:List (Nat×Nat×Int)} {n:Nat} (h:PoursH H rs qs n) (e:Same H H'):PoursH H' rs qs n:=⟨h.1,fun i r hi=>by
 obtain ⟨a,s,t,m,h1,h2,h3,h4⟩:=h.2 i r hi
 exact ⟨a,s,t,m,h1,h2,e _ _ h3,h4⟩⟩
theorem PoursH.put {H:Hp} {d:Addr} {ys:List V} {o:HO} {rs:List V} {qs:List (Nat×Nat×Int)} {n:Nat} (h:PoursH H rs qs n) (hd:H d=some (.lst ys)):PoursH (upd H d o) rs qs n:=⟨h.1,fun i r hi=>by
 obtain ⟨a,s,t,m,h1,h2,h3,h4⟩:=h.2 i r hi
 exact ⟨a,s,t,m,h1,h2,by rw [j6 (fun z=>by rw [z,hd] at h3;cases h3)];exact h3,h4⟩⟩
theorem PoursH.append {H:Hp} {rs rs':List V} {qs qs':List (Nat×Nat×Int)} {n:Nat} (h:PoursH H rs qs n) (h':PoursH H rs' qs' n):PoursH H (rs++rs') (qs++qs') n:=by
 refine ⟨by rw [List.length_append,List.length_append,h.1,h'.1],fun i r hi=>?_⟩
 by_cases hl:i<rs.length
 ·rw [List.getElem?_append_left hl] at hi
  obtain ⟨a,s,t,m,h1,h2,h3⟩:=h.2 i r hi
  exact ⟨a,s,t,m,h1,by rw [List.getElem?_append_left (by rw [← h.1];exact hl)];exact h2,h3⟩
 ·rw [List.getElem?_append_right (by omega)] at hi
  obtain ⟨a,s,t,m,h1,h2,h3⟩:=h'.2 _ r hi
  exact ⟨a,s,t,m,h1,by rw [List.getElem?_append_right (by rw [← h.1];omega),← h.1];exact h2,h3⟩
theorem PoursH.snoc {H:Hp} {rs:List V} {qs:List (Nat×Nat×Int)} {n s t:Nat} {m:Int} {a:Addr} (h:PoursH H rs qs n) (ha:H a=some (.tup [.int s,.int t,.int m])) (hs:s<n) (ht:t<n):PoursH H (rs++[.ref a]) (qs++[(s,t,m)]) n:=h.append ⟨rfl,fun i r hi=>by
 rcases i with _|i
 ·cases hi;exact ⟨a,s,t,m,rfl,rfl,ha,hs,ht⟩
 ·cases hi⟩
def gK (K:W.Frag):Sp:=fun vs H Q _=>∃(wq wa:Addr) (rs:List V) (ws:List (Int×Nat)) (ms:List Int),vs=[.ref wq,.ref wa]∧Ready K H wq wa rs ws ms∧
 ∀(r:Addr) (H':Hp) (gs:List Int) (ys:List V),Same H H'→H r=none→H' r=some (.lst ys)→PoursH H' ys ((qS (j9 ws) (fun a=>gs.getD a 0) ws.length).filter kH) ms.length→Spl ws ms gs→Q (.ref r) H'
def gS (K:W.Frag):Sp:=fun vs H Q _=>∃(wq wa p:Addr) (rs ps:List V) (ws:List (Int×Nat)) (ms:List Int) (qs:List (Nat×Nat×Int)),vs=[.ref wq,.ref wa,.ref p]∧Ready K H wq wa rs ws ms∧H p=some (.lst ps)∧PoursH H ps qs ms.length∧ps.length≤500∧
 ∀(r:Addr) (H':Hp) (gs:List Int) (ys:List V),Same H H'→H r=none→H' r=some (.lst ys)→PoursH H' ys (qs++(qS (j9 ws) (fun a=>gs.getD a 0) ws.length).filter kH) ms.length→Spl ws (jX ms qs) gs→Q (.ref r) H'
theorem xS (ws:List (Int×Nat)) (g:Nat→Int):((qS (j9 ws) g ws.length).filter kH).length≤ws.length:=by
 refine Nat.le_trans (List.length_filter_le ..) ?_
 unfold qS
 rw [List.length_map,bM]
 exact Nat.le_refl _
structure RC where
 name:Str
 least:Int
 crest:Int
 berths:Int
 water:Int
 target:Int
def RC.good (r:RC) (n:Nat):Prop:=0≤r.least∧r.least≤r.crest∧r.crest≤999999999999∧1≤r.berths∧r.berths≤9∧0≤r.water∧r.water≤999999999999∧-1≤r.target∧r.target<(n:Int)
structure LC where
 name:Str
 high:Int
 low:Int
 room:Int
 kd:Kd
 extra:Int
def LC.good (l:LC) (n:Nat):Prop:=1≤l.high∧l.high<(n:Int)∧0≤l.low∧l.low<l.high∧1≤l.room∧l.room≤999999999999∧(l.kd=.plain→l.extra=0)∧(l.kd≠.plain→1≤l.extra∧l.extra≤l.room)
def AllAt {α:Type} (P:V→α→Prop) (vs:List V) (xs:List α):Prop:=vs.length=xs.length∧∀(i:Nat) (v:V),vs[i]?=some v→∃x,xs[i]?=some x∧P v x
theorem AllAt.nil {α:Type} {P:V→α→Prop}:AllAt P [] ([]:List α):=⟨rfl,fun i v h=>by cases h⟩
theorem AllAt.mono {α:Type} {P P':V→α→Prop} {vs:List V} {xs:List α} (m:∀v x,P v x→P' v x) (h:AllAt P vs xs):AllAt P' vs xs:=⟨h.1,fun i v hv=>by obtain ⟨x,h1,h2⟩:=h.2 i v hv;exact ⟨x,h1,m v x h2⟩⟩
theorem AllAt.snoc {α:Type} {P:V→α→Prop} {vs:List V} {xs:List α} {v:V} {x:α} (h:AllAt P vs xs) (hv:P v x):AllAt P (vs++[v]) (xs++[x]):=by
 refine ⟨by rw [List.length_append,List.length_append,h.1];rfl,fun i w hw=>?_⟩
 by_cases hl:i<vs.length
 ·rw [List.getElem?_append_left hl] at hw
  rw [List.getElem?_append_left (by rw [← h.1];exact hl)]
  exact h.2 i w hw
 ·rw [List.getElem?_append_right (by omega)] at hw
  have e:i=vs.length:=by
   by_cases z:i - vs.length=0
   ·omega
   ·rw [List.getElem?_eq_none (by show 1≤i - vs.length;omega)] at hw;cases hw
  rw [e,Nat.sub_self] at hw
  cases hw
  refine ⟨x,?_,hv⟩
  rw [e,h.1,List.getElem?_append_right (Nat.le_refl _),Nat.sub_self]
  rfl
theorem AllAt.get {α:Type} {P:V→α→Prop} {vs:List V} {xs:List α} (h:AllAt P vs xs) {i:Nat} {x:α} (hx:xs[i]?=some x):∃v,vs[i]?=some v∧P v x:=by
 have hi:i<vs.length:=by rw [h.1];exact (List.getElem?_eq_some_iff.mp hx).1
 obtain ⟨y,h1,h2⟩:=h.2 i _ (List.getElem?_eq_getElem hi)
 rw [hx] at h1
 cases h1
 exact ⟨_,List.getElem?_eq_getElem hi,h2⟩
def QAt (H:Hp) (v:V) (p:Int×Int):Prop:=∃t,v=.ref t∧H t=some (.tup [.int p.1,.int p.2])
def NAt (D:List Addr) (H:Hp) (v:V) (ps:List (Int×Int)):Prop:=∃(l:Addr) (qs:List V),v=.ref l∧H l=some (.lst qs)∧AllAt (QAt H) qs ps∧l∉D
theorem QAt.same {H H':Hp} (e:Same H H') (v:V) (r:Int×Int):QAt H v r→QAt H' v r:=fun ⟨t,h1,h2⟩=>⟨t,h1,e _ _ h2⟩
theorem QAt.put {H:Hp} {d:Addr} {ys:List V} {o:HO} (hd:H d=some (.lst ys)) (v:V) (r:Int×Int):QAt H v r→QAt (upd H d o) v r:=fun ⟨t,h1,h2⟩=>⟨t,h1,by rw [j6 (fun z=>by rw [z,hd] at h2;cases h2)];exact h2⟩
theorem NAt.same {D:List Addr} {H H':Hp} (e:Same H H') (v:V) (r:List (Int×Int)):NAt D H v r→NAt D H' v r:=fun ⟨l,qs,h1,h2,h3,h4⟩=>⟨l,qs,h1,e _ _ h2,h3.mono (QAt.same e),h4⟩
theorem NAt.put {D:List Addr} {H:Hp} {d:Addr} {ys:List V} {o:HO} (hd:H d=some (.lst ys)) (hD:d∈D) (v:V) (r:List (Int×Int)):NAt D H v r→NAt D (upd H d o) v r:=fun ⟨l,qs,h1,h2,h3,h4⟩=>⟨l,qs,h1,by rw [j6 (fun z=>h4 (by rw [z];exact hD))];exact h2,h3.mono (QAt.put hd),h4⟩
theorem NAt.less {D D':List Addr} {H:Hp} (hD:∀d∈D',d∈D) (v:V) (r:List (Int×Int)):NAt D H v r→NAt D' H v r:=fun ⟨l,qs,h1,h2,h3,h4⟩=>⟨l,qs,h1,h2,h3,fun z=>h4 (hD _ z)⟩
theorem zJ {f:Str} {v:V} {fs:List (Str×V)}:(jS f v fs).lookup f=some v:=by rw [qO,if_pos rfl]
theorem qK {f g:Str} {v:V} {fs:List (Str×V)} (h:¬g=f):(jS f v fs).lookup g=fs.lookup g:=by rw [qO,if_neg h]
def gP (fs:List (Str×V)) (v_name v_least v_crest v_berths v_water v_target:V):Prop:=fs.lookup ("name":Str)=some v_name∧fs.lookup ("least":Str)=some v_least∧fs.lookup ("crest":Str)=some v_crest∧fs.lookup ("berths":Str)=some v_berths∧fs.lookup ("water":Str)=some v_water∧fs.lookup ("target":Str)=some v_target
theorem AS (v_name v_least v_crest v_berths v_water v_target:V):gP (jS "target" v_target (jS "water" v_water (jS "berths" v_berths (jS "crest" v_crest (jS "least" v_least (jS "name" v_name [])))))) v_name v_least v_crest v_berths v_water v_target:=by
 refine ⟨?_,?_,?_,?_,?_,?_⟩
 ·rw [qK (f:="target") (g:="name") (by decide +kernel),qK (f:="water") (g:="name") (by decide +kernel),qK (f:="berths") (g:="name") (by decide +kernel),qK (f:="crest") (g:="name") (by decide +kernel),qK (f:="least") (g:="name") (by decide +kernel),zJ]
 ·rw [qK (f:="target") (g:="least") (by decide +kernel),qK (f:="water") (g:="least") (by decide +kernel),qK (f:="berths") (g:="least") (by decide +kernel),qK (f:="crest") (g:="least") (by decide +kernel),zJ]
 ·rw [qK (f:="target") (g:="crest") (by decide +kernel),qK (f:="water") (g:="crest") (by decide +kernel),qK (f:="berths") (g:="crest") (by decide +kernel),zJ]
 ·rw [qK (f:="target") (g:="berths") (by decide +kernel),qK (f:="water") (g:="berths") (by decide +kernel),zJ]
 ·rw [qK (f:="target") (g:="water") (by decide +kernel),zJ]
 ·rw [zJ]
def fN (c:Addr):Sp:=fun vs H Q _=>∃(x dx:Addr) (v_name v_least v_crest v_berths v_water v_target:V),vs=[.ref x,v_name,v_least,v_crest,v_berths,v_water,v_target]∧H x=some (.ins c dx [])∧∀(H':Hp) (fs:List (Str×V)),Keep x H H'→H' x=some (.ins c dx fs)→gP fs v_name v_least v_crest v_berths v_water v_target→Q .non H'
def RcAt (cR:Addr) (H:Hp) (x:Addr) (r:RC):Prop:=∃(dx:Addr) (fs:List (Str×V)),H x=some (.ins cR dx fs)∧gP fs (.str r.name) (.int r.least) (.int r.crest) (.int r.berths) (.int r.water) (.int r.target)
theorem RcAt.same {cR:Addr} {H H':Hp} {x:Addr} {r:RC} (e:Same H H') (h:RcAt cR H x r):RcAt cR H' x r:=by
 obtain ⟨dx,fs,h1,h2⟩:=h
 exact ⟨dx,fs,e _ _ h1,h2⟩
theorem xH {X:Cx} (K:W.Frag) (h:X.K=K:=by rfl):vZ X (.type "list") (fun xs H Q=>∃p ys,xs=[.ref p]∧(SqL K H p ys∨SqT K H p ys)∧∀l,H l=none→Q (.ref l) (upd H l (.lst ys))):=by subst h;exact bN
theorem eG {X:Cx} (K:W.Frag) {e:Expr} {f:Str} {pos:Pos} {ta:TE} (he:PE X e ta) (hb:attributeBase e f X.env (eval e X.env)=eval e X.env) (h:X.K=K:=by rfl):PE X (.Attribute e f pos) (rT K ta f):=by subst h;exact jZ he hb
def CanalFld (fs:List (Str×V)) (r l n:V):Prop:=fs.lookup ("reaches":Str)=some r∧fs.lookup ("locks":Str)=some l∧fs.lookup ("nights":Str)=some n∧∀m:Str,¬m="reaches"→¬m="locks"→¬m="nights"→fs.lookup m=none
theorem AT (r l n:V):CanalFld (jS "nights" n (jS "locks" l (jS "reaches" r []))) r l n:=by
 refine ⟨?_,?_,?_,fun m h1 h2 h3=>?_⟩
 ·rw [qK (f:="nights") (g:="reaches") (by decide +kernel),qK (f:="locks") (g:="reaches") (by decide +kernel),zJ]
 ·rw [qK (f:="nights") (g:="locks") (by decide +kernel),zJ]
 ·rw [zJ]
 ·rw [qK h3,qK h2,qK h1];rfl
theorem CanalFld.no {fs:List (Str×V)} {r l n:V} (h:CanalFld fs r l n) {m:Str} (h1:¬m="reaches") (h2:¬m="locks") (h3:¬m="nights"):fs.lookup m=none:=h.2.2.2 m h1 h2 h3
def RcO (cR:Addr) (H:Hp) (v:V) (r:RC):Prop:=∃x,v=.ref x∧RcAt cR H x r
def LkO (cs:Kd→Addr) (H:Hp) (v:V) (l:LC):Prop:=∃x,v=.ref x∧LockAt cs H x l.kd (.str l.name) (.int l.high) (.int l.low) l.room l.extra
theorem RcO.same {cR:Addr} {H H':Hp} (e:Same H H') (v:V) (r:RC):RcO cR H v r→RcO cR H' v r:=fun ⟨x,h1,h2⟩=>⟨x,h1,h2.same e⟩
theorem LkO.same {cs:Kd→Addr} {H H':Hp} (e:Same H H') (v:V) (l:LC):LkO cs H v l→LkO cs H' v l:=fun ⟨x,h1,h2⟩=>⟨x,h1,h2.same e⟩
theorem RcO.keep {cR y:Addr} {ys:List V} {H H':Hp} (k:Keep y H H') (hy:H y=some (.lst ys)) (v:V) (r:RC):RcO cR H v r→RcO cR H' v r:=fun ⟨x,h1,dx,fs,h2,h3⟩=>⟨x,h1,dx,fs,k _ _ (yT h2 hy (fun z=>nomatch z)) h2,h3⟩
theorem LkO.keep {cs:Kd→Addr} {y:Addr} {ys:List V} {H H':Hp} (k:Keep y H H') (hy:H y=some (.lst ys)) (v:V) (l:LC):LkO cs H v l→LkO cs H' v l:=fun ⟨x,h1,dx,h2⟩=>⟨x,h1,dx,k _ _ (yT h2 hy (fun z=>nomatch z)) h2⟩
theorem RcO.keepI {cR y c d:Addr} {H H':Hp} (k:Keep y H H') (hy:H y=some (.ins c d [])) (v:V) (r:RC):RcO cR H v r→RcO cR H' v r:=fun ⟨x,h1,dx,fs,h2,h3⟩=>⟨x,h1,dx,fs,k _ _ (fun z=>by rw [z,hy] at h2;cases h2;cases h3.1) h2,h3⟩
theorem LkO.keepI {cs:Kd→Addr} {y c d:Addr} {H H':Hp} (k:Keep y H H') (hy:H y=some (.ins c d [])) (v:V) (l:LC):LkO cs H v l→LkO cs H' v l:=fun ⟨x,h1,dx,h2⟩=>⟨x,h1,dx,k _ _ (fun z=>by
 rw [z,hy] at h2
 have e:=DM l.kd (.str l.name) (.int l.high) (.int l.low) (.int l.room) (.int l.extra)
 injection h2 with h2;injection h2 with h2 h3 h4
 rw [← h4] at e;cases e) h2⟩
theorem QAt.keep {y:Addr} {H H':Hp} (k:Keep y H H') {o:HO} (hy:H y=some o) (ho:∀xs,o≠.tup xs) (v:V) (p:Int×Int):QAt H v p→QAt H' v p:=fun ⟨t,h1,h2⟩=>⟨t,h1,k _ _ (fun z=>by rw [z,hy] at h2;exact ho _ (Option.some.inj h2)) h2⟩
def CnAt (cs:Kd→Addr) (cR cN:Addr) (D:List Addr) (H:Hp) (x:Addr) (R:List RC) (L:List LC) (N:List (List (Int×Int))):Prop:=∃(dx rl ll nl:Addr) (fs:List (Str×V)) (rs ls ns:List V),H x=some (.ins cN dx fs)∧CanalFld fs (.ref rl) (.ref ll) (.ref nl)∧H rl=some (.lst rs)∧H ll=some (.lst ls)∧H nl=some (.lst ns)∧AllAt (RcO cR H) rs R∧AllAt (LkO cs H) ls L∧AllAt (NAt D H) ns N∧rl∉D∧ll∉D∧nl∉D
theorem CnAt.same {cs:Kd→Addr} {cR cN:Addr} {D:List Addr} {H H':Hp} {x:Addr} {R:List RC} {L:List LC} {N:List (List (Int×Int))} (e:Same H H') (h:CnAt cs cR cN D H x R L N):CnAt cs cR cN D H' x R L N:=by
 obtain ⟨dx,rl,ll,nl,fs,rs,ls,ns,h1,h2,h3,h4,h5,h6,h7,h8,h9⟩:=h
 exact ⟨dx,rl,ll,nl,fs,rs,ls,ns,e _ _ h1,h2,e _ _ h3,e _ _ h4,e _ _ h5,h6.mono (RcO.same e),h7.mono (LkO.same e),h8.mono (NAt.same e),h9⟩
def FU (H:Hp) (nv:V) (N:List (List (Int×Int))):Prop:=(nv=.non∧N=[])∨∃(nl:Addr) (ns:List V),nv=.ref nl∧H nl=some (.lst ns)∧AllAt (NAt [] H) ns N∧ns.length≤100
def fO (cs:Kd→Addr) (cR cN:Addr):Sp:=fun vs H Q _=>∃(x dx rl ll:Addr) (nv:V) (rs ls:List V) (R:List RC) (L:List LC) (N:List (List (Int×Int))),vs=[.ref x,.ref rl,.ref ll,nv]∧H x=some (.ins cN dx [])∧H rl=some (.lst rs)∧H ll=some (.lst ls)∧AllAt (RcO cR H) rs R∧AllAt (LkO cs H) ls L∧FU H nv N∧
 ∀H',Keep x H H'→(∀D:List Addr,(∀d∈D,H d≠none)→CnAt cs cR cN D H' x R L N)→Q .non H'
def yB (cs:Kd→Addr) (cR cN:Addr) (F:Nat→Nat→Int):Sp:=fun vs H Q _=>∃(x:Addr) (D:List Addr) (R:List RC) (L:List LC) (N:List (List (Int×Int))),vs=[.ref x]∧CnAt cs cR cN D H x R L N∧Q (.int (F R.length L.length)) H
def zL (cs:Kd→Addr) (cR cN:Addr) (F:Nat→Nat→Int→Int):Sp:=fun vs H Q _=>∃(x:Addr) (D:List Addr) (R:List RC) (L:List LC) (N:List (List (Int×Int))) (k:Int),vs=[.ref x,.int k]∧CnAt cs cR cN D H x R L N∧Q (.int (F R.length L.length k)) H
def v9 (sea:Int) (r:RC):Int×Int:=(r.crest,if r.target = -1 then sea else r.target)
def qB (n m:Nat):Int:=(n:Int)+2*(m:Int)
def bD (n m:Nat):Int:=(n:Int)+2*(m:Int)+1
def cS (n m:Nat):Int:=(n:Int)+2*(m:Int)+1+1
def vY (n _m:Nat) (k:Int):Int:=(n:Int)+k
def q9 (n m:Nat) (k:Int):Int:=(n:Int)+(m:Int)+k
def bW (cs:Kd→Addr) (cR cN:Addr):Sp:=fun vs H Q _=>∃(x:Addr) (D:List Addr) (R:List RC) (L:List LC) (N:List (List (Int×Int))),vs=[.ref x]∧CnAt cs cR cN D H x R L N∧R.length≤100∧
 ∀(l:Addr) (ws:List V) (H':Hp),Same H H'→H l=none→H' l=some (.lst ws)→AllAt (QAt H') ws (R.map (v9 (qB R.length L.length)))→Q (.ref l) H'
structure Drawn (R:List RC) (L:List LC) (N:List (List (Int×Int))):Prop where
 r8:R.length≤8
 r1:1≤R.length
 l8:L.length≤8
 n6:N.length≤6
 good:∀(i:Nat) (r:RC),R[i]?=some r→r.good i
 lock:∀(i:Nat) (l:LC),L[i]?=some l→l.good R.length
 night:∀p∈N,p.length=R.length
theorem cF {H:Hp} {x dx:Addr} {o o':HO} (nx:H x=none) (ndx:H dx=none):Same H (upd (upd H dx o) x o'):=fun b u e=>by rw [j6 (qJ e nx),j6 (qJ e ndx)];exact e
theorem bY {H H1 H2:Hp} {x:Addr} (nx:H x=none) (u:Same H H1) (k:Keep x H1 H2):Same H H2:=fun b o e=>k b o (qJ e nx) (u b o e)
def iH (sea:Nat) (r:RC):Int×Nat:=(r.crest,if r.target = -1 then sea else r.target.toNat)
def j4 (R:List RC) (m:Nat):List (Int×Nat):=R.map (iH (R.length+2*m))
def vK (R:List RC) (m:Nat):List Int:=R.map (·.water)++List.replicate (2*m+2) 0
theorem v8 (R:List RC) (m:Nat):(j4 R m).length=R.length:=List.length_map _
theorem bQ (R:List RC) (m:Nat):(vK R m).length=R.length+2*m+2:=by
 unfold vK
 rw [List.length_append,List.length_map,List.length_replicate]
 omega
def yV (R:List RC):Prop:=∀(i:Nat) (r:RC),R[i]?=some r→-1≤r.target∧r.target<(i:Int)
theorem dP {R:List RC} {m:Nat} (h:yV R):eR (j4 R m).length (j4 R m):=by
 intro i c t hi
 rw [v8]
 unfold j4 at hi
 rw [List.getElem?_map] at hi
 cases hr:R[i]? with
 |none=>rw [hr] at hi;cases hi
 |some r =>
  rw [hr] at hi
  have e:iH (R.length+2*m) r=(c,t):=Option.some.inj hi
  obtain ⟨h1,h2⟩:=h i r hr
  unfold iH at e
  have e2:(if r.target = -1 then R.length+2*m else r.target.toNat)=t:=congrArg Prod.snd e
  by_cases ht:r.target = -1
  ·rw [if_pos ht] at e2;omega
  ·rw [if_neg ht] at e2;omega
theorem nS {K:W.Frag} {H:Hp} {ws:List V} {R:List RC} {m:Nat} (hT:yV R) (h:AllAt (QAt H) ws (R.map (v9 (qB R.length m)))):WeirsAt K H ws (j4 R m) (vK R m).length:=by
 refine ⟨by rw [h.1,List.length_map,v8],fun i v hv=>?_⟩
 obtain ⟨p,hp,t,rfl,ht⟩:=h.2 i v hv
 rw [List.getElem?_map] at hp
 cases hr:R[i]? with
 |none=>rw [hr] at hp;cases hp
 |some r =>
  rw [hr] at hp
  cases hp
  obtain ⟨h1,h2⟩:=hT i r hr
  have hi:i<R.length:=(List.getElem?_eq_some_iff.mp hr).1
  refine ⟨t,r.crest,if r.target = -1 then R.length+2*m else r.target.toNat,rfl,?_,?_,?_⟩
  ·unfold j4;rw [List.getElem?_map,hr];rfl
  ·have e:(((if r.target = -1 then R.length+2*m else r.target.toNat):Nat):Int)=(v9 (qB R.length m) r).2:=by
    unfold v9 qB
    by_cases ht:r.target = -1
    ·rw [if_pos ht,if_pos ht];omega
    ·rw [if_neg ht,if_neg ht];omega
   rw [e]
   exact SqT.of ht
  ·rw [bQ];split<;>omega
def gJ (cs:Kd→Addr) (cR cN:Addr):Sp:=fun vs H Q _=>∃(x:Addr) (D:List Addr) (R:List RC) (L:List LC) (N:List (List (Int×Int))),vs=[.ref x]∧CnAt cs cR cN D H x R L N∧R.length≤100∧L.length≤100∧yV R∧
 ∀(r:Addr) (H':Hp) (gs:List Int),Same H H'→H r=none→H' r=some (.tup ((yW (vK R L.length) (j4 R L.length) gs).map V.int))→Spl (j4 R L.length) (vK R L.length) gs→Q (.ref r) H'
def eF (cs:Kd→Addr) (cR cN:Addr):Sp:=fun vs H Q _=>∃(x wa:Addr) (D:List Addr) (R:List RC) (L:List LC) (N:List (List (Int×Int))) (ms:List Int) (k:Nat),vs=[.ref x,.ref wa,.int (k:Int)]∧CnAt cs cR cN D H x R L N∧H wa=some (.tup (ms.map V.int))∧R.length+k<ms.length∧Q (.bl (decide (0<ms.getD (R.length+k) 0))) H
theorem zQ {R:List RC} {L:List LC} {N:List (List (Int×Int))} (h:Drawn R L N):yV R:=fun i r hr=>by
 obtain ⟨g1,g2,g3,g4,g5,g6,g7,g8,g9⟩:=h.good i r hr
 exact ⟨g8,g9⟩
def zV (K:W.Frag):Sp:=fun vs H Q _=>∃(s:Addr) (ns:List Int) (k:Int) (m:Int),vs=[.ref s,.int k,.int m]∧SqL K H s (ns.map V.int)∧ns.length≤63∧0≤k∧k≤100000∧1≤m∧∀z:Int,0≤z→z<m→Q (.int z) H
def iC (K:W.Frag):Sp:=fun vs H Q _=>∃(s:Addr) (ns:List Int),vs=[.ref s]∧SqL K H s (ns.map V.int)∧ns.length≤63∧∀z:Int,1≤z→z≤10000000000→Q (.int z) H
theorem FM {k:Int} (h0:0≤k) (h1:k≤100000):0≤k*k∧k*k≤10000000000:=by
 refine ⟨Int.mul_nonneg h0 h0,?_⟩
 have:=Int.mul_le_mul h1 h1 h0 (by decide:(0:Int)≤100000)
 omega
def n4 (K:W.Frag) (cR:Addr):Sp:=fun vs H Q _=>∃(s:Addr) (ns:List Int) (k:Nat) (u:Int),vs=[.ref s,.int (k:Int),.int u]∧SqL K H s (ns.map V.int)∧ns.length≤63∧k<8∧1≤u∧u≤10000000000∧∀(x:Addr) (r:RC) (H':Hp),r.good k→Same H H'→H x=none→RcAt cR H' x r→Q (.ref x) H'
def o6 (K:W.Frag) (cs:Kd→Addr):Sp:=fun vs H Q _=>∃(s:Addr) (ns:List Int) (k n:Nat) (u:Int),vs=[.ref s,.int (k:Int),.int (n:Int),.int u]∧SqL K H s (ns.map V.int)∧ns.length≤63∧k<4∧2≤n∧n≤8∧1≤u∧u≤10000000000∧∀(x:Addr) (l:LC) (H':Hp),l.good n→Same H H'→H x=none→LkO cs H' (.ref x) l→Q (.ref x) H'
def mP (K:W.Frag):Sp:=fun vs H Q _=>∃(s:Addr) (ns:List Int) (k n:Nat) (u:Int),vs=[.ref s,.int (k:Int),.int (n:Int),.int u]∧SqL K H s (ns.map V.int)∧ns.length≤63∧k<6∧n≤8∧1≤u∧u≤10000000000∧∀(l:Addr) (p:List (Int×Int)) (H':Hp),p.length=n→(∀q∈p,0≤q.1∧0≤q.2)→Same H H'→H l=none→NAt [] H' (.ref l) p→Q (.ref l) H'
def oB (K:W.Frag) (cs:Kd→Addr) (cR cN:Addr):Sp:=fun vs H Q _=>∃(s:Addr) (ns:List Int) (mr ml mn:Nat),vs=[.ref s,.int (mr:Int),.int (ml:Int),.int (mn:Int)]∧SqL K H s (ns.map V.int)∧ns.length≤63∧2≤mr∧mr≤8∧1≤ml∧ml≤4∧mn≤5∧∀(x:Addr) (R:List RC) (L:List LC) (N:List (List (Int×Int))) (H':Hp),Drawn R L N→(∀p∈N,∀q∈p,0≤q.1∧0≤q.2)→2≤R.length→1≤L.length→Same H H'→H x=none→CnAt cs cR cN [] H' x R L N→Q (.ref x) H'
theorem rA (zs:List Str) {k:Nat} (h:k<zs.length):∃z:Str,qC (zs.map V.str) (k:Int)=some (.str z):=⟨zs[k],kX (by rw [List.getElem?_map,List.getElem?_eq_getElem h];rfl)⟩
theorem rB (zs:List Int) {i:Int} (h0:0≤i) (h:i<(zs.length:Int)):∃z∈zs,qC (zs.map V.int) i=some (.int z):=by
 have hl:i.toNat<zs.length:=by omega
 have:=kX (xs:=zs.map V.int) (j:=i.toNat) (v:=.int zs[i.toNat]) (by rw [List.getElem?_map,List.getElem?_eq_getElem hl];rfl)
 rw [show ((i.toNat:Nat):Int)=i by omega] at this
 exact ⟨_,List.getElem_mem hl,this⟩
theorem ZZ {a u:Int} {m:Int} (h0:0≤a) (h1:a≤m) (u0:1≤u) (u1:u≤10000000000) (hm:0≤m):0≤a*u∧a*u≤m*10000000000:=by
 refine ⟨Int.mul_nonneg h0 (by omega),?_⟩
 exact Int.mul_le_mul h1 u1 (by omega) hm
def cZ (b:Bool):Str:=if b then "up" else "down"
def qU (L:List LC) (p:Nat×Bool):Int×Int:=match L[p.1]? with
 |some l=>if p.2 then (l.low,l.high) else (l.high,l.low)
 |none=>(0,0)
theorem JZ {L:List LC} {k:Nat} {l:LC} (h:L[k]?=some l):qU L (k,true)=(l.low,l.high):=by unfold qU;rw [h];rfl
theorem JV {L:List LC} {k:Nat} {l:LC} (h:L[k]?=some l):qU L (k,false)=(l.high,l.low):=by unfold qU;rw [h];rfl
def PAt (H:Hp) (v:V) (p:Nat×Bool):Prop:=∃t,v=.ref t∧H t=some (.tup [.int (p.1:Int),.str (cZ p.2)])
theorem PAt.same {H H':Hp} (e:Same H H') (v:V) (p:Nat×Bool):PAt H v p→PAt H' v p:=fun ⟨t,h1,h2⟩=>⟨t,h1,e _ _ h2⟩
theorem PAt.put {H:Hp} {d:Addr} {ys:List V} {o:HO} (hd:H d=some (.lst ys)) (v:V) (p:Nat×Bool):PAt H v p→PAt (upd H d o) v p:=fun ⟨t,h1,h2⟩=>⟨t,h1,by rw [j6 (fun z=>by rw [z,hd] at h2;cases h2)];exact h2⟩
def kS (L:List LC) (s:Int) (ps:List (Nat×Bool)):List Int:=s::ps.map fun p=>(qU L p).2
def JB (L:List LC) (s:Int) (ps:List (Nat×Bool)):Prop:=∀(j:Nat) (p:Nat×Bool),ps[j]?=some p→(kS L s ps)[j]?=some (qU L p).1
theorem gF (L:List LC) (s:Int) (ps:List (Nat×Bool)) (p:Nat×Bool):kS L s (ps++[p])=kS L s ps++[(qU L p).2]:=by unfold kS;rw [List.map_append];rfl
theorem cC (L:List LC) (s:Int) (ps:List (Nat×Bool)):(kS L s ps).length=ps.length+1:=by unfold kS;rw [List.length_cons,List.length_map]
theorem BM (L:List LC) (s:Int) (ps:List (Nat×Bool)) (i:Nat):(kS L s ps).take (i+1)=kS L s (ps.take i):=by unfold kS;rw [List.take_succ_cons,List.map_take]
theorem DP {L:List LC} {s:Int} {ps:List (Nat×Bool)} {j:Nat} (h:j<ps.length+1):(kS L s ps)[j]?=(kS L s (ps.take j))[j]?:=by
 rw [← BM,List.getElem?_take,if_pos (by omega)]
theorem mC {R:List RC} {L:List LC} {N:List (List (Int×Int))} (d:Drawn R L N) {p:Nat×Bool} (h:p.1<L.length):∃l,L[p.1]?=some l∧l.good R.length:=⟨_,List.getElem?_eq_getElem h,d.lock _ _ (List.getElem?_eq_getElem h)⟩
def zY (L:List LC) (r:Int) (k:Nat):List (Nat×Bool):=match L[k]? with
 |some l=>(if l.low=r then [(k,true)] else [])++(if l.high=r then [(k,false)] else [])
 |none=>[]
def zT (L:List LC) (r:Int) (n:Nat):List (Nat×Bool):=(List.range n).flatMap (zY L r)
def eE (L:List LC) (r:Int):List (Nat×Bool):=zT L r L.length
theorem fK (L:List LC) (r:Int) (n:Nat):zT L r (n+1)=zT L r n++zY L r n:=by unfold zT;rw [List.range_succ,List.flatMap_append];simp
theorem turnK_mem {L:List LC} {r:Int} {k:Nat} {p:Nat×Bool}:p∈zY L r k↔p.1=k∧k<L.length∧(qU L p).1=r:=by
 unfold zY
 by_cases hk:k<L.length
 ·rw [List.getElem?_eq_getElem hk]
  show p∈(if L[k].low=r then [(k,true)] else [])++(if L[k].high=r then [(k,false)] else [])↔_
  rw [List.mem_append]
  have e1:=JZ (List.getElem?_eq_getElem hk)
  have e2:=JV (List.getElem?_eq_getElem hk)
  obtain ⟨pk,pb⟩:=p
  constructor
  ·rintro (h|h)
   ·split at h
    ·cases List.mem_singleton.mp h;rw [e1];exact ⟨rfl,hk,by assumption⟩
    ·cases h
   ·split at h
    ·cases List.mem_singleton.mp h;rw [e2];exact ⟨rfl,hk,by assumption⟩
    ·cases h
  ·rintro ⟨h1,_,h3⟩
   have h1:pk=k:=h1
   subst h1
   cases pb
   ·rw [e2] at h3;exact .inr (by rw [if_pos h3];simp)
   ·rw [e1] at h3;exact .inl (by rw [if_pos h3];simp)
 ·rw [List.getElem?_eq_none (by omega)]
  constructor
  ·intro h;cases h
  ·intro h;omega
theorem turns_mem {L:List LC} {r:Int} {p:Nat×Bool}:p∈eE L r↔p.1<L.length∧(qU L p).1=r:=by
 unfold eE zT
 rw [List.mem_flatMap]
 constructor
 ·rintro ⟨k,hk,h⟩
  obtain ⟨h1,h2,h3⟩:=turnK_mem.mp h
  exact ⟨by omega,h3⟩
 ·rintro ⟨h1,h2⟩
  exact ⟨p.1,List.mem_range.mpr h1,turnK_mem.mpr ⟨rfl,h1,h2⟩⟩
theorem A3 (L:List LC) (r:Int) (k:Nat):(zY L r k).length≤2:=by
 unfold zY
 split
 ·rw [List.length_append];split<;>split<;>simp
 ·exact Nat.zero_le _
theorem xP (L:List LC) (r:Int) (n:Nat):(zT L r n).length≤2*n:=by
 induction n with
 |zero=>exact Nat.le_refl _
 |succ n ih=>rw [fK,List.length_append];have:=A3 L r n;omega
def o4 (cs:Kd→Addr) (cR cN:Addr):Sp:=fun vs H Q _=>∃(x:Addr) (r:Int) (D:List Addr) (R:List RC) (L:List LC) (N:List (List (Int×Int))),vs=[.ref x,.int r]∧CnAt cs cR cN D H x R L N∧L.length≤8∧∀(l:Addr) (us:List V) (H':Hp),Same H H'→H l=none→H' l=some (.lst us)→AllAt (PAt H') us (eE L r)→Q (.ref l) H'
def pS (cs:Kd→Addr):Sp:=fun vs H Q _=>∃(y:Addr) (l:LC) (b:Bool),vs=[.ref y,.str (cZ b)]∧LkO cs H (.ref y) l∧∀(t:Addr) (H':Hp),Same H H'→H t=none→H' t=some (.tup [.int (if b then l.low else l.high),.int (if b then l.high else l.low)])→Q (.ref t) H'
theorem p8 (b:Bool):decide (V.str (cZ b)=V.str "up")=b:=by
 cases b
 ·exact decide_eq_false fun h=>absurd (V.str.inj h) (by decide +kernel)
 ·exact decide_eq_true rfl
theorem B7 {L:List LC} {s:Int} {ps:List (Nat×Bool)} {p:Nat×Bool} {a:Int} (h:(kS L s ps)[ps.length]?=some a):JB L s (ps++[p])↔JB L s ps∧(qU L p).1=a:=by
 have e:∀j,j≤ps.length→(kS L s (ps++[p]))[j]?=(kS L s ps)[j]?:=fun j hj=>by
  rw [gF,List.getElem?_append_left (by rw [cC];omega)]
 constructor
 ·intro ok
  refine ⟨fun j q hq=>?_,?_⟩
  ·have hj:j<ps.length:=(List.getElem?_eq_some_iff.mp hq).1
   have:=ok j q (by rw [List.getElem?_append_left hj];exact hq)
   rwa [e j (by omega)] at this
  ·have:=ok ps.length p (by rw [List.getElem?_append_right (Nat.le_refl _),Nat.sub_self];rfl)
   rw [e _ (Nat.le_refl _),h] at this
   exact (Option.some.inj this).symm
 ·rintro ⟨ok,ha⟩ j q hq
  by_cases hj:j<ps.length
  ·rw [List.getElem?_append_left hj] at hq
   rw [e j (by omega)]
   exact ok j q hq
  ·rw [List.getElem?_append_right (by omega)] at hq
   have hz:j - ps.length=0:=by
    have:=(List.getElem?_eq_some_iff.mp hq).1
    rw [List.length_singleton] at this
    omega
   rw [hz] at hq
   cases hq
   rw [show j=ps.length by omega,e _ (Nat.le_refl _),h,ha]
theorem zC (zs:List Int):(zs.map V.int).all qH=true:=by
 rw [List.all_eq_true]
 intro x hx
 obtain ⟨z,_,rfl⟩:=List.mem_map.mp hx
 rfl
abbrev kA:=Int×List (Nat×Bool)
def WyAt (H:Hp) (v:V) (y:kA):Prop:=∃(t st:Addr) (us:List V),v=.ref t∧H t=some (.tup [.int y.1,.ref st])∧H st=some (.tup us)∧AllAt (PAt H) us y.2
theorem WyAt.same {H H':Hp} (e:Same H H') (v:V) (y:kA):WyAt H v y→WyAt H' v y:=fun ⟨t,st,us,h1,h2,h3,h4⟩=>⟨t,st,us,h1,e _ _ h2,e _ _ h3,h4.mono (PAt.same e)⟩
theorem WyAt.put {H:Hp} {d:Addr} {ys:List V} {o:HO} (hd:H d=some (.lst ys)) (v:V) (y:kA):WyAt H v y→WyAt (upd H d o) v y:=fun ⟨t,st,us,h1,h2,h3,h4⟩=>⟨t,st,us,h1,by rw [j6 (fun z=>by rw [z,hd] at h2;cases h2)];exact h2,by rw [j6 (fun z=>by rw [z,hd] at h3;cases h3)];exact h3,h4.mono (PAt.put hd)⟩
structure WyOk (L:List LC) (y:kA):Prop where
 lt:∀p∈y.2,p.1<L.length
 ok:JB L y.1 y.2
 le:y.2.length≤8
def StAt (H:Hp) (t:Addr) (d:Int) (ms:List Int) (pl:List Nat):Prop:=∃wt pt:Addr,H t=some (.tup [.int d,.ref wt,.ref pt])∧H wt=some (.tup (ms.map V.int))∧H pt=some (.tup (pl.map fun (p:Nat)=>V.int (p:Int)))
theorem StAt.same {H H':Hp} {t:Addr} {d:Int} {ms:List Int} {pl:List Nat} (e:Same H H') (h:StAt H t d ms pl):StAt H' t d ms pl:=by
 obtain ⟨wt,pt,h1,h2,h3⟩:=h
 exact ⟨wt,pt,e _ _ h1,e _ _ h2,e _ _ h3⟩
structure Fleet (L:List LC) (ys:List kA) (pl:List Nat):Prop where
 len:pl.length=ys.length
 n10:ys.length≤10
 ok:∀y∈ys,WyOk L y
 le:∀(i:Nat) (y:kA) (p:Nat),ys[i]?=some y→pl[i]?=some p→p≤y.2.length
def rF (K:W.Frag) (cs:Kd→Addr) (cR cN:Addr):Sp:=fun vs H Q _=>∃(s x:Addr) (ns:List Int) (k mo:Nat) (D:List Addr) (R:List RC) (L:List LC) (N:List (List (Int×Int))),vs=[.ref s,.int (k:Int),.ref x,.int (mo:Int)]∧SqL K H s (ns.map V.int)∧ns.length≤63∧k<20∧1≤mo∧mo≤8∧CnAt cs cR cN D H x R L N∧Drawn R L N∧1≤L.length∧∀(t:Addr) (y:kA) (H':Hp),WyOk L y→y.2.length≤mo→Same H H'→H t=none→WyAt H' (.ref t) y→Q (.ref t) H'
def EndAt (L:List LC) (r:Int):Prop:=∃p:Nat×Bool,p.1<L.length∧(qU L p).1=r
theorem EndAt.turns {L:List LC} {r:Int} (h:EndAt L r):0<(eE L r).length:=by
 obtain ⟨p,h1,h2⟩:=h
 exact List.length_pos_of_mem (turns_mem.mpr ⟨h1,h2⟩)
theorem EndAt.next {L:List LC} {p:Nat×Bool} (h:p.1<L.length):EndAt L (qU L p).2:=by
 obtain ⟨pk,pb⟩:=p
 have e:=List.getElem?_eq_getElem h
 cases pb
 ·exact ⟨(pk,true),h,by rw [JZ e,JV e]⟩
 ·exact ⟨(pk,false),h,by rw [JZ e,JV e]⟩
theorem DC (L:List LC) (s:Int):JB L s []:=fun j p hp=>by cases hp
theorem atI_last {xs:List V} {v:V} {n:Nat} (hn:xs.length=n+1) (h:xs[n]?=some v):qC xs (-1)=some v:=by
 have e:v5 xs.length (-1)=some n:=by
  unfold v5
  rw [if_neg (by decide),if_pos (by omega)]
  congr 1
  omega
 unfold qC
 rw [e]
 exact h
def oA (K:W.Frag) (cs:Kd→Addr) (cR cN eL:Addr):Sp:=fun vs H Q E=>∃(x st:Addr) (s:Int) (us:List V) (ps:List (Nat×Bool)) (D:List Addr) (R:List RC) (L:List LC) (N:List (List (Int×Int))),vs=[.ref x,.int s,.ref st]∧CnAt cs cR cN D H x R L N∧H st=some (.tup us)∧AllAt (PAt H) us ps∧(∀p∈ps,p.1<L.length)∧ps.length≤100∧
 (JB L s ps→∀(r:Addr) (H':Hp),Same H H'→H r=none→H' r=some (.lst ((kS L s ps).map V.int))→Q (.ref r) H')∧(¬JB L s ps→∀H',Same H H'→E (.ref eL) none H')
def fY (K:W.Frag) (cs:Kd→Addr) (cR cN:Addr):Sp:=fun vs H Q _=>∃(x st:Addr) (s:Int) (us:List V) (ps:List (Nat×Bool)) (D:List Addr) (R:List RC) (L:List LC) (N:List (List (Int×Int))),vs=[.ref x,.int s,.ref st]∧CnAt cs cR cN D H x R L N∧H st=some (.tup us)∧AllAt (PAt H) us ps∧(∀p∈ps,p.1<L.length)∧ps.length≤100∧JB L s ps∧
 ∀(r:Addr) (H':Hp),Same H H'→H r=none→H' r=some (.lst ((kS L s ps).map V.int))→Q (.ref r) H'
theorem AK {K:W.Frag} {cs:Kd→Addr} {cR cN eL:Addr}:∀vs H Q E,fY K cs cR cN vs H Q E→oA K cs cR cN eL vs H Q (fun _ _ _=>False):=by
 rintro vs H Q E ⟨x,st,s,us,ps,D,R,L,N,e,h1,h2,h3,h4,h5,h6,q⟩
 exact ⟨x,st,s,us,ps,D,R,L,N,e,h1,h2,h3,h4,h5,fun _=>q,fun hno=>absurd h6 hno⟩
def StI (H:Hp) (t:Addr) (d:Int) (ms ps:List Int):Prop:=∃wt pt:Addr,H t=some (.tup [.int d,.ref wt,.ref pt])∧H wt=some (.tup (ms.map V.int))∧H pt=some (.tup (ps.map V.int))
theorem StI.same {H H':Hp} {t:Addr} {d:Int} {ms ps:List Int} (e:Same H H') (h:StI H t d ms ps):StI H' t d ms ps:=by
 obtain ⟨wt,pt,h1,h2,h3⟩:=h
 exact ⟨wt,pt,e _ _ h1,e _ _ h2,e _ _ h3⟩
theorem StAt.toI {H:Hp} {t:Addr} {d:Int} {ms:List Int} {pl:List Nat} (h:StAt H t d ms pl):StI H t d ms (pl.map fun (p:Nat)=>(p:Int)):=by
 obtain ⟨wt,pt,h1,h2,h3⟩:=h
 exact ⟨wt,pt,h1,h2,by rw [List.map_map];exact h3⟩
def JC (r l:Nat) (ms ms':List Int):Bool:=qI (kT (ms.map V.int) (some (r:Int)) (some (qB r l))) (kT (ms'.map V.int) (some (r:Int)) (some (qB r l)))
def dA (r:Nat) (ms ms':List Int):Bool:=(List.range r).all fun i=>decide (ms'.getD i 0≤ms.getD i 0)
def yY (r l:Nat) (d d':Int) (ms ms' ps ps':List Int):Bool:=decide (d=d')&&(qI (ps.map V.int) (ps'.map V.int)&&(JC r l ms ms'&&dA r ms ms'))
theorem bU (ms:List Int) (lo hi:Option Int):(kT (ms.map V.int) lo hi).all qH=true:=by
 obtain ⟨z,e,_⟩:=nH ms lo hi
 rw [e]
 exact zC _
theorem cM {ms:List Int} {r:Nat} {hi:Option Int} (h1:1≤r) (h2:1≤ms.length):¬(HT.sIx (ms.map V.int).length 0 (some (r:Int))=0∧HT.sIx (ms.map V.int).length (ms.map V.int).length hi=(ms.map V.int).length):=fun ⟨h,_⟩=>by
 rw [List.length_map,HT.sIx_nat] at h
 omega
theorem CN {ms:List Int} {r:Nat} (h:r≤ms.length):kT (ms.map V.int) (some (r:Int)) none=(ms.drop r).map V.int:=by
 unfold kT
 rw [List.length_map,HT.sIx_none,HT.sIx_nat,Nat.min_eq_left h,← List.map_drop,List.take_of_length_le (by rw [List.length_map,List.length_drop];exact Nat.le_refl _)]
def rK (cs:Kd→Addr) (cR cN:Addr):Sp:=fun vs H Q _=>∃(x w o:Addr) (ms ms':List Int) (D:List Addr) (R:List RC) (L:List LC) (N:List (List (Int×Int))),vs=[.ref x,.ref w,.ref o]∧CnAt cs cR cN D H x R L N∧H w=some (.tup (ms.map V.int))∧H o=some (.tup (ms'.map V.int))∧1≤R.length∧1≤ms.length∧1≤ms'.length∧∀H',Same H H'→Q (.bl (JC R.length L.length ms ms')) H'
def rG (cs:Kd→Addr) (cR cN:Addr):Sp:=fun vs H Q _=>∃(x w o:Addr) (ms ms':List Int) (D:List Addr) (R:List RC) (L:List LC) (N:List (List (Int×Int))),vs=[.ref x,.ref w,.ref o]∧CnAt cs cR cN D H x R L N∧H w=some (.tup (ms.map V.int))∧H o=some (.tup (ms'.map V.int))∧R.length≤100∧R.length≤ms.length∧R.length≤ms'.length∧∀H',Same H H'→Q (.bl (dA R.length ms ms')) H'
def rL (cs:Kd→Addr) (cR cN:Addr):Sp:=fun vs H Q _=>∃(x t o:Addr) (d d':Int) (ms ms' ps ps':List Int) (D:List Addr) (R:List RC) (L:List LC) (N:List (List (Int×Int))),vs=[.ref x,.ref t,.ref o]∧CnAt cs cR cN D H x R L N∧StI H t d ms ps∧StI H o d' ms' ps'∧1≤R.length∧R.length≤100∧L.length≤100∧R.length≤ms.length∧R.length≤ms'.length∧∀H',Same H H'→Q (.bl (yY R.length L.length d d' ms ms' ps ps')) H'
def zN (ms:List Int) (W:List (Int×Int)) (r:Nat):Int:=if ms.getD r 0<(W.getD r (0,0)).2 then ms.getD r 0 else (W.getD r (0,0)).2
def JA (k:Nat) (ms:List Int) (W:List (Int×Int)) (n:Nat):List (Nat×Nat×Int):=(List.range n).map fun r=>(r,k,zN ms W r)
def zZ (k:Nat) (W:List (Int×Int)) (n:Nat):List (Nat×Nat×Int):=(List.range n).map fun r=>(k,r,(W.getD r (0,0)).1)
def vW (k:Nat) (ms:List Int) (W:List (Int×Int)) (n:Nat):List (Nat×Nat×Int):=JA k ms W n++zZ k W n
theorem gI (k:Nat) (ms:List Int) (W:List (Int×Int)) (n:Nat):(JA k ms W n).length=n:=by unfold JA;rw [List.length_map,List.length_range]
theorem gA (k:Nat) (W:List (Int×Int)) (n:Nat):(zZ k W n).length=n:=by unfold zZ;rw [List.length_map,List.length_range]
theorem A4 {k:Nat} {ms:List Int} {W:List (Int×Int)} {n i:Nat} (h:i<n):(JA k ms W n).take (i+1)=(JA k ms W n).take i++[(i,k,zN ms W i)]:=by
 rw [List.take_add_one]
 unfold JA
 rw [List.getElem?_map,List.getElem?_range h]
 rfl
theorem AD {k:Nat} {W:List (Int×Int)} {n i:Nat} (h:i<n):(zZ k W n).take (i+1)=(zZ k W n).take i++[(k,i,(W.getD i (0,0)).1)]:=by
 rw [List.take_add_one]
 unfold zZ
 rw [List.getElem?_map,List.getElem?_range h]
 rfl
theorem m6 {k:Nat} {ms:List Int} {W:List (Int×Int)} {n m:Nat} (hk:k<m) (hn:n≤m):∀q∈vW k ms W n,q.1<m∧q.2.1<m:=fun q hq=>by
 rcases List.mem_append.mp hq with h|h
 ·obtain ⟨r,hr,rfl⟩:=List.mem_map.mp h
  have:=List.mem_range.mp hr
  exact ⟨by show r<m;omega,hk⟩
 ·obtain ⟨r,hr,rfl⟩:=List.mem_map.mp h
  have:=List.mem_range.mp hr
  exact ⟨hk,by show r<m;omega⟩
theorem i0 {W:List (Int×Int)} {i:Nat} {y:Int×Int} (h:W[i]?=some y):W.getD i (0,0)=y:=by rw [List.getD_eq_getElem?_getD,h];rfl
theorem o0 {ms:List Int} {W:List (Int×Int)} {i:Nat} {y:Int×Int} (h:W[i]?=some y):zN ms W i=if ms.getD i 0<y.2 then ms.getD i 0 else y.2:=by unfold zN;rw [i0 h]
theorem BY {ms:List Int} {W:List (Int×Int)} {i:Nat} {y:Int×Int} (h:W[i]?=some y):zN ms W i=if y.2<ms.getD i 0 then y.2 else ms.getD i 0:=by rw [o0 h];split<;>split<;>omega
def eC (R:List RC) (m:Nat) (ms:List Int) (W:List (Int×Int)) (gs:List Int):List (Nat×Nat×Int):=(vW (R.length+2*m+1) ms W R.length).filter kH++(qS (j9 (j4 R m)) (fun a=>gs.getD a 0) (j4 R m).length).filter kH
def zH (R:List RC) (m:Nat) (ms:List Int) (W:List (Int×Int)):List Int:=jX ms ((vW (R.length+2*m+1) ms W R.length).filter kH)
theorem fM {K:W.Frag} {H:Hp} {wq wa:Addr} {ws:List V} {R:List RC} {m:Nat} {ms:List Int} (hT:yV R) (h:AllAt (QAt H) ws (R.map (v9 (qB R.length m)))) (hwq:H wq=some (.lst ws)) (hwa:Ints K H wa ms) (hms:ms.length=R.length+2*m+2) (h1:R.length≤100) (h2:m≤100):Ready K H wq wa ws (j4 R m) ms :=
 ⟨SqL.of hwq,by have:=nS (K:=K) hT h;rw [bQ] at this;rw [hms];exact this,hwa,dP hT,by rw [v8];omega,by omega⟩
def gM (K:W.Frag) (cs:Kd→Addr) (cR cN:Addr):Sp:=fun vs H Q _=>∃(x t wl:Addr) (d:Int) (ms ps:List Int) (us:List V) (W:List (Int×Int)) (D:List Addr) (R:List RC) (L:List LC) (N:List (List (Int×Int))),vs=[.ref x,.ref t,.ref wl]∧CnAt cs cR cN D H x R L N∧StI H t d ms ps∧H wl=some (.lst us)∧AllAt (QAt H) us W∧W.length=R.length∧ms.length=R.length+2*L.length+2∧R.length≤100∧L.length≤100∧yV R∧
 ∀(r:Addr) (H':Hp) (gs:List Int) (ys:List V),Same H H'→H r=none→H' r=some (.lst ys)→PoursH H' ys (eC R L.length ms W gs) ms.length→Spl (j4 R L.length) (zH R L.length ms W) gs→Q (.ref r) H'
def oE (K:W.Frag) (cs:Kd→Addr) (cR cN:Addr):Sp:=fun vs H Q _=>∃(x t wl:Addr) (d:Int) (ms ps:List Int) (us:List V) (W:List (Int×Int)) (D:List Addr) (R:List RC) (L:List LC) (N:List (List (Int×Int))),vs=[.ref x,.ref t,.ref wl]∧CnAt cs cR cN D H x R L N∧StI H t d ms ps∧H wl=some (.lst us)∧AllAt (QAt H) us W∧W.length=R.length∧ms.length=R.length+2*L.length+2∧R.length≤100∧L.length≤100∧yV R∧
 ∀(r:Addr) (H':Hp) (gs:List Int),Same H H'→H r=none→StI H' r (d+1) (jX ms (eC R L.length ms W gs)) ps→Spl (j4 R L.length) (zH R L.length ms W) gs→Q (.ref r) H'
def qG (L:List LC) (y:kA) (p:Nat):Int:=if p=y.2.length then -1 else (kS L y.1 y.2).getD p 0
def pO:Sp:=fun vs H Q _=>∃(t:Addr) (y:kA) (p:Int),vs=[.ref t,.int p]∧WyAt H (.ref t) y∧Q (.int ((y.2.length:Int) - p)) H
def fX (cs:Kd→Addr) (cR cN:Addr):Sp:=fun vs H Q _=>∃(x t:Addr) (y:kA) (p:Nat) (D:List Addr) (R:List RC) (L:List LC) (N:List (List (Int×Int))),vs=[.ref x,.ref t,.int (p:Int)]∧CnAt cs cR cN D H x R L N∧WyAt H (.ref t) y∧WyOk L y∧p≤y.2.length∧∀H',Same H H'→Q (.int (qG L y p)) H'
def v0 (L:List LC) (ys:List kA) (pl:List Nat):List Int:=(List.range ys.length).map fun i=>qG L (ys.getD i (0,[])) (pl.getD i 0)
def o5 (cs:Kd→Addr) (cR cN:Addr):Sp:=fun vs H Q _=>∃(x wl st:Addr) (r:Int) (us:List V) (ys:List kA) (d:Int) (ms:List Int) (pl:List Nat) (D:List Addr) (R:List RC) (L:List LC) (N:List (List (Int×Int))),vs=[.ref x,.ref wl,.ref st,.int r]∧CnAt cs cR cN D H x R L N∧H wl=some (.lst us)∧AllAt (WyAt H) us ys∧StAt H st d ms pl∧Fleet L ys pl∧∀H',Same H H'→Q (.int (((v0 L ys pl).countP fun z=>decide (z=r):Nat):Int)) H'
def o9 (cs:Kd→Addr) (cR cN:Addr):Sp:=fun vs H Q _=>∃(x wl:Addr) (us:List V) (D:List Addr) (R:List RC) (L:List LC) (N:List (List (Int×Int))),vs=[.ref x,.ref wl]∧CnAt cs cR cN D H x R L N∧H wl=some (.lst us)∧us.length≤100∧R.length≤100∧L.length≤100∧yV R∧
 ∀(t wt zt:Addr) (H':Hp) (gs:List Int),Same H H'→H' t=some (.tup [.int 0,.ref wt,.ref zt])→H' wt=some (.tup ((yW (vK R L.length) (j4 R L.length) gs).map V.int))→Spl (j4 R L.length) (vK R L.length) gs→H' zt=some (.tup (List.replicate us.length (.int 0)))→Q (.ref t) H'
theorem EY (b:Bool):wv b=.str (cZ b):=by cases b<;>rfl
def vX (r l k:Nat) (lc:LC) (s:Str):Nat:=if s="high" then lc.high.toNat else if s="low" then lc.low.toNat else if s="chamber" then r+k else r+l+k
def cV (r l k:Nat) (lc:LC) (q:Str×Str×Int):Nat×Nat×Int:=(vX r l k lc q.1,vX r l k lc q.2.1,q.2.2)
inductive okW:Str→Prop
 |high:okW "high"
 |low:okW "low"
 |cham:okW "chamber"
 |bas:okW "basin"
theorem nU (r l k:Nat) (lc:LC):vX r l k lc "high"=lc.high.toNat:=if_pos rfl
theorem oZ (r l k:Nat) (lc:LC):vX r l k lc "low"=lc.low.toNat:=by unfold vX;rw [if_neg (show ¬("low":Str)="high" by decide +kernel),if_pos rfl]
theorem mI (r l k:Nat) (lc:LC):vX r l k lc "chamber"=r+k:=by unfold vX;rw [if_neg (show ¬("chamber":Str)="high" by decide +kernel),if_neg (show ¬("chamber":Str)="low" by decide +kernel),if_pos rfl]
theorem mJ (r l k:Nat) (lc:LC):vX r l k lc "basin"=r+l+k:=by unfold vX;rw [if_neg (show ¬("basin":Str)="high" by decide +kernel),if_neg (show ¬("basin":Str)="low" by decide +kernel),if_neg (show ¬("basin":Str)="chamber" by decide +kernel)]
theorem eK {r l k:Nat} {lc:LC} {s:Str} (h:okW s) (hg:lc.good r) (hk:k<l):vX r l k lc s<r+2*l+2:=by
 obtain ⟨g1,g2,g3,g4,_⟩:=hg
 cases h
 ·rw [nU];omega
 ·rw [oZ];omega
 ·rw [mI];omega
 ·rw [mJ];omega
def d4 (a b c d:V):List (j5×V):=[(.inr "high",a),(.inr "low",b),(.inr "chamber",c),(.inr "basin",d)]
theorem yE {s t:Str} (h:¬s=t):¬((Sum.inr s:j5)=(Sum.inr t:j5)):=fun e=>h (Sum.inr.inj e)
theorem EK (a b c d:V):Z0 [] [((.inr "high":j5),a),(.inr "low",b),(.inr "chamber",c),(.inr "basin",d)]=d4 a b c d:=by
 show vS (vS (vS (vS ([]:List (j5×V)) (Sum.inr "high") a) (Sum.inr "low") b) (Sum.inr "chamber") c) (Sum.inr "basin") d=_
 rw [eA a (valV_nil:qM [] (Sum.inr "high":j5)=none)]
 rw [eA b (by show qM [((.inr "high":j5),a)] (.inr "low")=none;rw [vJ (yE (by decide +kernel))];rfl)]
 rw [eA c (by show qM [((.inr "high":j5),a),(.inr "low",b)] (.inr "chamber")=none;rw [vJ (yE (by decide +kernel)),vJ (yE (by decide +kernel))];rfl)]
 rw [eA d (by show qM [((.inr "high":j5),a),(.inr "low",b),(.inr "chamber",c)] (.inr "basin")=none;rw [vJ (yE (by decide +kernel)),vJ (yE (by decide +kernel)),vJ (yE (by decide +kernel))];rfl)]
 rfl
theorem FT {H:Hp} {p:Addr} {a b c d:V} (h:H p=some (.dK (d4 a b c d))):DGet H p (.str "high") (some a)∧DGet H p (.str "low") (some b)∧DGet H p (.str "chamber") (some c)∧DGet H p (.str "basin") (some d):=by
 have e1:qM (d4 a b c d) (.inr "high")=some a:=by unfold d4;rw [JW rfl]
 have e2:qM (d4 a b c d) (.inr "low")=some b:=by unfold d4;rw [vJ (yE (by decide +kernel)),JW rfl]
 have e3:qM (d4 a b c d) (.inr "chamber")=some c:=by unfold d4;rw [vJ (yE (by decide +kernel)),vJ (yE (by decide +kernel)),JW rfl]
 have e4:qM (d4 a b c d) (.inr "basin")=some d:=by unfold d4;rw [vJ (yE (by decide +kernel)),vJ (yE (by decide +kernel)),vJ (yE (by decide +kernel)),JW rfl]
 refine ⟨?_,?_,?_,?_⟩
 ·rw [← e1];exact DGet.k (k:=.inr "high") h
 ·rw [← e2];exact DGet.k (k:=.inr "low") h
 ·rw [← e3];exact DGet.k (k:=.inr "chamber") h
 ·rw [← e4];exact DGet.k (k:=.inr "basin") h
theorem gO (kd:Kd) (room v b:Int):∀q∈vR kd room v b,okW q.1∧okW q.2.1:=fun q hq=>by
 obtain ⟨p,hp,rfl⟩:=List.mem_map.mp hq
 refine ⟨?_,.cham⟩
 cases kd
 ·have:=(List.mem_filter.mp hp).1
  rw [List.mem_singleton] at this
  rw [this];exact .high
 ·have:=(List.mem_filter.mp hp).1
  simp only [List.mem_cons,List.mem_nil_iff,or_false] at this
  rcases this with rfl|rfl
  ·exact .bas
  ·exact .high
 ·have:=(List.mem_filter.mp hp).1
  simp only [List.mem_cons,List.mem_nil_iff,or_false] at this
  rcases this with rfl|rfl
  ·exact .low
  ·exact .high
theorem cG (kd:Kd) (room v b:Int):∀q∈qX kd room v b,okW q.1∧okW q.2.1:=fun q hq=>by
 obtain ⟨p,hp,rfl⟩:=List.mem_map.mp hq
 refine ⟨.cham,?_⟩
 cases kd
 ·have:=(List.mem_filter.mp hp).1
  rw [List.mem_singleton] at this
  rw [this];exact .low
 ·have:=(List.mem_filter.mp hp).1
  simp only [List.mem_cons,List.mem_nil_iff,or_false] at this
  rcases this with rfl|rfl
  ·exact .bas
  ·exact .low
 ·have:=(List.mem_filter.mp hp).1
  rw [List.mem_singleton] at this
  rw [this];exact .low
theorem oH (kd:Kd) (room v:Int) (f:Bool) (b:Int) (w:Bool):∀q∈Z9 kd room v f b w,okW q.1∧okW q.2.1:=fun q hq=>by
 cases w<;>cases f
 ·rcases List.mem_append.mp hq with h|h
  ·exact gO _ _ _ _ q h
  ·exact cG _ _ _ _ q h
 ·exact cG _ _ _ _ q hq
 ·exact gO _ _ _ _ q hq
 ·rcases List.mem_append.mp hq with h|h
  ·exact cG _ _ _ _ q h
  ·exact gO _ _ _ _ q h
def yU (r:Nat) (ms:List Int) (k:Nat):Bool:=decide (0<ms.getD (r+k) 0)
def passQ (r:Nat) (L:List LC) (ms:List Int) (s:Nat×Bool):List (Nat×Nat×Int):=match L[s.1]? with
 |some l=>(Z9 l.kd l.room l.extra (yU r ms s.1) (ms.getD (r+L.length+s.1) 0) s.2).map (cV r L.length s.1 l)
 |none=>[]
def letQ (r:Nat) (L:List LC) (ms:List Int) (k:Nat):List (Nat×Nat×Int):=match L[k]? with
 |some l=>(qX l.kd l.room l.extra (ms.getD (r+L.length+k) 0)).map (cV r L.length k l)
 |none=>[]
def yC (R:List RC) (ms:List Int) (v:Nat):Bool:=match R[v]? with
 |some r=>decide (ms.getD v 0<r.least)
 |none=>false
def vP (R:List RC):List Int→List (Nat×Nat×Int)→Bool
 |_,[]=>false
 |ms,q::qs=>yC R (pour ms q) q.1||vP R (pour ms q) qs
def cD (R:List RC) (t:Int):Int:=match R[t.toNat]? with
 |some r=>r.berths
 |none=>0
def z9 (R:List RC) (L:List LC) (ys:List kA) (ms:List Int) (pl:List Nat) (b:Nat):Str :=
 if pl.getD b 0=(ys.getD b (0,[])).2.length then "home" else
 if ¬qG L (ys.getD b (0,[])) (pl.getD b 0+1) = -1∧cD R (qG L (ys.getD b (0,[])) (pl.getD b 0+1))≤(((v0 L ys pl).countP fun z=>decide (z=qG L (ys.getD b (0,[])) (pl.getD b 0+1)):Nat):Int) then "berth" else
 if vP R ms (passQ R.length L ms ((ys.getD b (0,[])).2.getD (pl.getD b 0) (0,true)))=true then "water" else ""
inductive Deed
 |pass (b:Nat)
 |let (k:Nat)
 |night
def yJ:Deed→List V
 |.pass b=>[.str "pass",.int (b:Int)]
 |.let k=>[.str "let",.int (k:Int)]
 |.night=>[.str "night"]
def qP (R:List RC) (L:List LC) (n:Nat) (ys:List kA) (d:Int) (ms:List Int) (pl:List Nat):Deed→Str
 |.pass b=>z9 R L ys ms pl b
 |.let k=>if yU R.length ms k=true then "" else "empty"
 |.night=>if d<(n:Int) then "" else "over"
def J4 (nb nl:Nat):Deed→Prop
 |.pass b=>b<nb
 |.let k=>k<nl
 |.night=>True
def gU (cs:Kd→Addr) (cR cN:Addr):Sp:=fun vs H Q _=>∃(x p:Addr) (k:Nat) (l:LC) (rs:List V) (ps:List (Str×Str×Int)) (D:List Addr) (R:List RC) (L:List LC) (N:List (List (Int×Int))),vs=[.ref x,.int (k:Int),.ref p]∧CnAt cs cR cN D H x R L N∧L[k]?=some l∧l.good R.length∧H p=some (.lst rs)∧PoursS H rs ps∧(∀q∈ps,okW q.1∧okW q.2.1)∧ps.length≤10∧
 ∀(r:Addr) (H':Hp) (zs:List V),Same H H'→H r=none→H' r=some (.lst zs)→PoursH H' zs (ps.map (cV R.length L.length k l)) (R.length+2*L.length+2)→Q (.ref r) H'
structure Stage (cs:Kd→Addr) (cR cN:Addr) (D:List Addr) (H:Hp) (x wl st:Addr) (us:List V) (R:List RC) (L:List LC) (N:List (List (Int×Int))) (ys:List kA) (d:Int) (ms:List Int) (pl:List Nat):Prop where
 cn:CnAt cs cR cN D H x R L N
 dr:Drawn R L N
 wls:H wl=some (.lst us)
 wys:AllAt (WyAt H) us ys
 sts:StAt H st d ms pl
 fl:Fleet L ys pl
 ml:ms.length=R.length+2*L.length+2
theorem Stage.same {cs:Kd→Addr} {cR cN:Addr} {D:List Addr} {H H':Hp} {x wl st:Addr} {us:List V} {R:List RC} {L:List LC} {N:List (List (Int×Int))} {ys:List kA} {d:Int} {ms:List Int} {pl:List Nat} (h:Stage cs cR cN D H x wl st us R L N ys d ms pl) (e:Same H H'):Stage cs cR cN D H' x wl st us R L N ys d ms pl:=⟨h.cn.same e,h.dr,e _ _ h.wls,h.wys.mono (WyAt.same e),h.sts.same e,h.fl,h.ml⟩
def pQ:Sp:=fun vs H Q _=>∃(t:Addr) (y:kA) (p:Nat) (s:Nat×Bool),vs=[.ref t,.int (p:Int)]∧WyAt H (.ref t) y∧y.2[p]?=some s∧∀v,PAt H v s→Q v H
def mT (cs:Kd→Addr) (cR cN:Addr):Sp:=fun vs H Q _=>∃(x wl st:Addr) (b:Nat) (r:RC) (us:List V) (ys:List kA) (d:Int) (ms:List Int) (pl:List Nat) (D:List Addr) (R:List RC) (L:List LC) (N:List (List (Int×Int))),vs=[.ref x,.ref wl,.ref st,.int (b:Int)]∧Stage cs cR cN D H x wl st us R L N ys d ms pl∧R[b]?=some r∧∀H',Same H H'→Q (.bl (decide (r.berths≤(((v0 L ys pl).countP fun z=>decide (z=(b:Int)):Nat):Int)))) H'
def gT (cs:Kd→Addr) (cR cN:Addr):Sp:=fun vs H Q _=>∃(x wl st:Addr) (b:Nat) (us:List V) (ys:List kA) (y:kA) (p:Nat) (s:Nat×Bool) (d:Int) (ms:List Int) (pl:List Nat) (D:List Addr) (R:List RC) (L:List LC) (N:List (List (Int×Int))),vs=[.ref x,.ref wl,.ref st,.int (b:Int)]∧Stage cs cR cN D H x wl st us R L N ys d ms pl∧ys[b]?=some y∧pl[b]?=some p∧y.2[p]?=some s∧
 ∀(r:Addr) (H':Hp) (zs:List V),Same H H'→H r=none→H' r=some (.lst zs)→PoursH H' zs (passQ R.length L ms s) ms.length→Q (.ref r) H'
def o7 (cs:Kd→Addr) (cR cN:Addr):Sp:=fun vs H Q _=>∃(x wl st:Addr) (k:Nat) (us:List V) (ys:List kA) (d:Int) (ms:List Int) (pl:List Nat) (D:List Addr) (R:List RC) (L:List LC) (N:List (List (Int×Int))),vs=[.ref x,.ref st,.int (k:Int)]∧Stage cs cR cN D H x wl st us R L N ys d ms pl∧k<L.length∧
 ∀(r:Addr) (H':Hp) (zs:List V),Same H H'→H r=none→H' r=some (.lst zs)→PoursH H' zs (letQ R.length L ms k) ms.length→Q (.ref r) H'
def rJ (cs:Kd→Addr) (cR cN:Addr):Sp:=fun vs H Q _=>∃(x w:Addr) (v:Nat) (ms:List Int) (D:List Addr) (R:List RC) (L:List LC) (N:List (List (Int×Int))),vs=[.ref x,.ref w,.int (v:Int)]∧CnAt cs cR cN D H x R L N∧H w=some (.tup (ms.map V.int))∧v<ms.length∧Q (.bl (yC R ms v)) H
def n3 (cs:Kd→Addr) (cR cN:Addr):Sp:=fun vs H Q _=>∃(x w p:Addr) (ms:List Int) (zs:List V) (qs:List (Nat×Nat×Int)) (D:List Addr) (R:List RC) (L:List LC) (N:List (List (Int×Int))),vs=[.ref x,.ref w,.ref p]∧CnAt cs cR cN D H x R L N∧H w=some (.tup (ms.map V.int))∧H p=some (.lst zs)∧PoursH H zs qs ms.length∧ms.length≤1000∧∀H',Same H H'→Q (.bl (vP R ms qs)) H'
def pN (cs:Kd→Addr) (cR cN:Addr):Sp:=fun vs H Q _=>∃(x wl st:Addr) (b:Nat) (us:List V) (ys:List kA) (d:Int) (ms:List Int) (pl:List Nat) (D:List Addr) (R:List RC) (L:List LC) (N:List (List (Int×Int))),vs=[.ref x,.ref wl,.ref st,.int (b:Int)]∧Stage cs cR cN D H x wl st us R L N ys d ms pl∧b<ys.length∧∀H',Same H H'→Q (.str (z9 R L ys ms pl b)) H'
def iB (cs:Kd→Addr) (cR cN:Addr):Sp:=fun vs H Q _=>∃(x wl st dd:Addr) (de:Deed) (us:List V) (ys:List kA) (d:Int) (ms:List Int) (pl:List Nat) (D:List Addr) (R:List RC) (L:List LC) (N:List (List (Int×Int))),vs=[.ref x,.ref wl,.ref st,.ref dd]∧Stage cs cR cN D H x wl st us R L N ys d ms pl∧H dd=some (.tup (yJ de))∧J4 ys.length L.length de∧∀H',Same H H'→Q (.str (qP R L N.length ys d ms pl de)) H'
theorem EB {L:List LC} {y:kA} {p:Nat} {s:Nat×Bool} (ok:WyOk L y) (hs:y.2[p]?=some s):qG L y p=(qU L s).1:=by
 have hp:=(List.getElem?_eq_some_iff.mp hs).1
 unfold qG
 rw [if_neg (by omega),List.getD_eq_getElem?_getD,ok.ok p s hs]
 rfl
theorem CL {R:List RC} {L:List LC} {N:List (List (Int×Int))} (d:Drawn R L N) {s:Nat×Bool} (h:s.1<L.length):0≤(qU L s).1∧(qU L s).1<(R.length:Int):=by
 obtain ⟨l,hl,g1,g2,g3,g4,_⟩:=mC d h
 obtain ⟨k,b⟩:=s
 cases b
 ·rw [JV hl];show 0≤l.high∧l.high<_;omega
 ·rw [JZ hl];show 0≤l.low∧l.low<_;omega
theorem pT {R:List RC} {L:List LC} {N:List (List (Int×Int))} (d:Drawn R L N) {y:kA} (ok:WyOk L y) {p:Nat} (hp:p<y.2.length):0≤qG L y p∧qG L y p<(R.length:Int):=by
 have hs:=List.getElem?_eq_getElem hp
 rw [EB ok hs]
 exact CL d (ok.lt _ (List.mem_of_getElem? hs))
theorem pC (L:List LC) (y:kA):qG L y y.2.length = -1:=if_pos rfl
def vM (R:List RC) (L:List LC) (N:List (List (Int×Int))) (ys:List kA) (d:Int) (ms:List Int) (pl:List Nat):Deed→List (Nat×Nat×Int)
 |.pass b=>passQ R.length L ms ((ys.getD b (0,[])).2.getD (pl.getD b 0) (0,true))
 |.let k=>letQ R.length L ms k
 |.night=>(vW (R.length+2*L.length+1) ms (N.getD d.toNat []) R.length).filter kH
def vV (R:List RC) (L:List LC) (N:List (List (Int×Int))) (ys:List kA) (d:Int) (ms:List Int) (pl:List Nat) (de:Deed) (gs:List Int):List (Nat×Nat×Int):=vM R L N ys d ms pl de++(qS (j9 (j4 R L.length)) (fun a=>gs.getD a 0) (j4 R L.length).length).filter kH
def yA (pl:List Nat) (b:Nat):List Nat:=(List.range pl.length).map fun i=>if i=b then pl.getD i 0+1 else pl.getD i 0
def bC (d:Int):Deed→Int
 |.night=>d+1
 |_=>d
def JX (pl:List Nat):Deed→List Nat
 |.pass b=>yA pl b
 |_=>pl
def gL (cs:Kd→Addr) (cR cN eW:Addr):Sp:=fun vs H Q E=>∃(x wl st dd:Addr) (de:Deed) (us:List V) (ys:List kA) (d:Int) (ms:List Int) (pl:List Nat) (D:List Addr) (R:List RC) (L:List LC) (N:List (List (Int×Int))),vs=[.ref x,.ref wl,.ref st,.ref dd]∧Stage cs cR cN D H x wl st us R L N ys d ms pl∧H dd=some (.tup (yJ de))∧J4 ys.length L.length de∧0≤d∧
 (qP R L N.length ys d ms pl de=""→∀(r:Addr) (H':Hp) (gs:List Int) (zs:List V),Same H H'→H r=none→H' r=some (.lst zs)→PoursH H' zs (vV R L N ys d ms pl de gs) ms.length→Spl (j4 R L.length) (jX ms (vM R L N ys d ms pl de)) gs→Q (.ref r) H')∧
 (¬qP R L N.length ys d ms pl de=""→∀H',Same H H'→E (.ref eW) none H')
def oC (cs:Kd→Addr) (cR cN eW:Addr):Sp:=fun vs H Q E=>∃(x wl st dd:Addr) (de:Deed) (us:List V) (ys:List kA) (d:Int) (ms:List Int) (pl:List Nat) (D:List Addr) (R:List RC) (L:List LC) (N:List (List (Int×Int))),vs=[.ref x,.ref wl,.ref st,.ref dd]∧Stage cs cR cN D H x wl st us R L N ys d ms pl∧H dd=some (.tup (yJ de))∧J4 ys.length L.length de∧0≤d∧
 (qP R L N.length ys d ms pl de=""→∀(r:Addr) (H':Hp) (gs:List Int),Same H H'→H r=none→StAt H' r (bC d de) (jX ms (vV R L N ys d ms pl de gs)) (JX pl de)→Spl (j4 R L.length) (jX ms (vM R L N ys d ms pl de)) gs→Q (.ref r) H')∧
 (¬qP R L N.length ys d ms pl de=""→∀H',Same H H'→E (.ref eW) none H')
def nZ:Sp:=fun vs H Q _=>∃(pt:Addr) (pl:List Nat) (b:Nat),vs=[.ref pt,.int (b:Int)]∧H pt=some (.tup (pl.map fun (p:Nat)=>V.int (p:Int)))∧pl.length≤100∧∀(r:Addr) (H':Hp),Same H H'→H r=none→H' r=some (.tup ((yA pl b).map fun (p:Nat)=>V.int (p:Int)))→Q (.ref r) H'
theorem nR {R:List RC} {L:List LC} {ys:List kA} {ms:List Int} {pl:List Nat} {b:Nat} (h:z9 R L ys ms pl b=""):¬pl.getD b 0=(ys.getD b (0,[])).2.length:=fun e=>by
 unfold z9 at h
 rw [if_pos e] at h
 exact absurd h (by decide +kernel)
theorem A9 (r:Nat) (L:List LC) (ms:List Int) (s:Nat×Bool):(passQ r L ms s).length≤4:=by
 unfold passQ
 split
 ·rw [List.length_map];exact mY _ _ _ _ _ _
 ·exact Nat.zero_le _
theorem CC (r:Nat) (L:List LC) (ms:List Int) (k:Nat):(letQ r L ms k).length≤4:=by
 unfold letQ
 split
 ·rw [List.length_map];exact Nat.le_trans (JY _ _ _ _) (by decide)
 ·exact Nat.zero_le _
theorem bP (pl:List Nat) (b:Nat):(yA pl b).length=pl.length:=by unfold yA;rw [List.length_map,List.length_range]
theorem lN {pl:List Nat} {b i:Nat} (h:i<pl.length):(yA pl b).take (i+1)=(yA pl b).take i++[if i=b then pl.getD i 0+1 else pl.getD i 0]:=by
 rw [List.take_add_one]
 unfold yA
 rw [List.getElem?_map,List.getElem?_range h]
 rfl
def mU:Sp:=fun vs H Q _=>∃(st dd wo:Addr) (de:Deed) (d:Int) (ms mo:List Int) (pl:List Nat),vs=[.ref st,.ref dd,.ref wo]∧StAt H st d ms pl∧H dd=some (.tup (yJ de))∧H wo=some (.tup (mo.map V.int))∧pl.length≤100∧∀(r:Addr) (H':Hp),Same H H'→H r=none→StAt H' r (bC d de) mo (JX pl de)→Q (.ref r) H'
def n5 (cs:Kd→Addr) (cR cN:Addr):Sp:=fun vs H Q _=>∃(x wl st dd:Addr) (de:Deed) (us:List V) (ys:List kA) (d:Int) (ms:List Int) (pl:List Nat) (D:List Addr) (R:List RC) (L:List LC) (N:List (List (Int×Int))),vs=[.ref x,.ref wl,.ref st,.ref dd]∧Stage cs cR cN D H x wl st us R L N ys d ms pl∧H dd=some (.tup (yJ de))∧J4 ys.length L.length de∧0≤d∧qP R L N.length ys d ms pl de=""∧
 ∀(r:Addr) (H':Hp) (gs:List Int) (zs:List V),Same H H'→H r=none→H' r=some (.lst zs)→PoursH H' zs (vV R L N ys d ms pl de gs) ms.length→Spl (j4 R L.length) (jX ms (vM R L N ys d ms pl de)) gs→Q (.ref r) H'
theorem A7 {cs:Kd→Addr} {cR cN eW:Addr}:∀vs H Q E,n5 cs cR cN vs H Q E→gL cs cR cN eW vs H Q (fun _ _ _=>False):=by
 rintro vs H Q E ⟨x,wl,st,dd,de,us,ys,d,ms,pl,D,R,L,N,e,h1,h2,h3,h4,h5,q⟩
 exact ⟨x,wl,st,dd,de,us,ys,d,ms,pl,D,R,L,N,e,h1,h2,h3,h4,fun _=>q,fun h=>absurd h5 h⟩
def fZ (cs:Kd→Addr) (cR cN:Addr):Sp:=fun vs H Q _=>∃(x wl st dd:Addr) (de:Deed) (us:List V) (ys:List kA) (d:Int) (ms:List Int) (pl:List Nat) (D:List Addr) (R:List RC) (L:List LC) (N:List (List (Int×Int))),vs=[.ref x,.ref wl,.ref st,.ref dd]∧Stage cs cR cN D H x wl st us R L N ys d ms pl∧H dd=some (.tup (yJ de))∧J4 ys.length L.length de∧0≤d∧qP R L N.length ys d ms pl de=""∧
 ∀(r:Addr) (H':Hp) (gs:List Int),Same H H'→H r=none→StAt H' r (bC d de) (jX ms (vV R L N ys d ms pl de gs)) (JX pl de)→Spl (j4 R L.length) (jX ms (vM R L N ys d ms pl de)) gs→Q (.ref r) H'
theorem BV {cs:Kd→Addr} {cR cN eW:Addr}:∀vs H Q E,fZ cs cR cN vs H Q E→oC cs cR cN eW vs H Q (fun _ _ _=>False):=by
 rintro vs H Q E ⟨x,wl,st,dd,de,us,ys,d,ms,pl,D,R,L,N,e,h1,h2,h3,h4,h5,q⟩
 exact ⟨x,wl,st,dd,de,us,ys,d,ms,pl,D,R,L,N,e,h1,h2,h3,h4,fun _=>q,fun h=>absurd h5 h⟩
def DdAt (H:Hp) (v:V) (de:Deed):Prop:=∃t,v=.ref t∧H t=some (.tup (yJ de))
theorem DdAt.same {H H':Hp} (e:Same H H') (v:V) (de:Deed):DdAt H v de→DdAt H' v de:=fun ⟨t,h1,h2⟩=>⟨t,h1,e _ _ h2⟩
theorem DdAt.put {H:Hp} {d:Addr} {ys:List V} {o:HO} (hd:H d=some (.lst ys)) (v:V) (de:Deed):DdAt H v de→DdAt (upd H d o) v de:=fun ⟨t,h1,h2⟩=>⟨t,h1,by rw [j6 (fun z=>by rw [z,hd] at h2;cases h2)];exact h2⟩
def passes (n:Nat):List Deed:=(List.range n).map Deed.pass
def lets (n:Nat):List Deed:=(List.range n).map Deed.let
def yN (nb nl:Nat):List Deed:=passes nb++lets nl++[.night]
theorem fR {nb nl:Nat} {de:Deed} (h:de∈yN nb nl):J4 nb nl de:=by
 rcases List.mem_append.mp h with h|h
 ·rcases List.mem_append.mp h with h|h
  ·obtain ⟨i,hi,rfl⟩:=List.mem_map.mp h;exact List.mem_range.mp hi
  ·obtain ⟨i,hi,rfl⟩:=List.mem_map.mp h;exact List.mem_range.mp hi
 ·rw [List.mem_singleton.mp h];trivial
theorem AllAt.app {α:Type} {P:V→α→Prop} {vs us:List V} {xs ys:List α} (h:AllAt P vs xs) (h':AllAt P us ys):AllAt P (vs++us) (xs++ys):=by
 refine ⟨by rw [List.length_append,List.length_append,h.1,h'.1],fun i v hi=>?_⟩
 by_cases hl:i<vs.length
 ·rw [List.getElem?_append_left hl] at hi
  obtain ⟨x,h1,h2⟩:=h.2 i v hi
  exact ⟨x,by rw [List.getElem?_append_left (by rw [← h.1];exact hl)];exact h1,h2⟩
 ·rw [List.getElem?_append_right (by omega)] at hi
  obtain ⟨x,h1,h2⟩:=h'.2 _ v hi
  exact ⟨x,by rw [List.getElem?_append_right (by rw [← h.1];omega),← h.1];exact h1,h2⟩
def GK (R:List RC) (L:List LC) (n:Nat) (ys:List kA) (d:Int) (ms:List Int) (pl:List Nat):List Deed:=(yN ys.length L.length).filter fun de=>decide (qP R L n ys d ms pl de="")
theorem xL (nb nl:Nat):(yN nb nl).length=nb+nl+1:=by unfold yN passes lets;rw [List.length_append,List.length_append,List.length_map,List.length_map,List.length_range,List.length_range];rfl
def rH (cs:Kd→Addr) (cR cN:Addr):Sp:=fun vs H Q _=>∃(x wl st:Addr) (us:List V) (ys:List kA) (d:Int) (ms:List Int) (pl:List Nat) (D:List Addr) (R:List RC) (L:List LC) (N:List (List (Int×Int))),vs=[.ref x,.ref wl,.ref st]∧Stage cs cR cN D H x wl st us R L N ys d ms pl∧∀(r:Addr) (zs:List V) (H':Hp),Same H H'→H r=none→H' r=some (.lst zs)→AllAt (DdAt H') zs (GK R L N.length ys d ms pl)→Q (.ref r) H'
theorem oM {R:List RC} {L:List LC} {n:Nat} {ys:List kA} {d:Int} {ms:List Int} {pl:List Nat} {i:Nat} {de:Deed} (h:(yN ys.length L.length)[i]?=some de):((yN ys.length L.length).take (i+1)).filter (fun de=>decide (qP R L n ys d ms pl de=""))=((yN ys.length L.length).take i).filter (fun de=>decide (qP R L n ys d ms pl de=""))++(if qP R L n ys d ms pl de="" then [de] else []):=by
 rw [List.take_add_one,h,List.filter_append]
 show _++[de].filter _=_
 rw [List.filter_cons]
 by_cases hw:qP R L n ys d ms pl de=""
 ·rw [if_pos (decide_eq_true hw),if_pos hw];rfl
 ·rw [if_neg (by rw [decide_eq_true_eq];exact hw),if_neg hw];rfl
theorem dS (j:Nat):∀a b:List (Nat×Nat×Int),kO (a++b) j=kO a j+kO b j
 |[],b=>by show kO b j=0+kO b j;omega
 |q::r,b=>by
  show _+kO (r++b) j=_+kO r j+kO b j
  rw [dS j r b]
  omega
theorem gE {j:Nat}:∀{qs:List (Nat×Nat×Int)},(∀q∈qs,q.1≠j∧q.2.1≠j)→kO qs j=0
 |[],_=>rfl
 |q::r,h=>by
  obtain ⟨h1,h2⟩:=h q List.mem_cons_self
  show (if q.2.1=j then q.2.2 else 0) - (if q.1=j then q.2.2 else 0)+kO r j=0
  rw [if_neg h1,if_neg h2,gE fun q hq=>h q (List.mem_cons_of_mem _ hq)]
  rfl
theorem lS {R:List RC} {m i:Nat} {r:RC} (h:R[i]?=some r):j9 (j4 R m) i=if r.target = -1 then R.length+2*m else r.target.toNat:=by
 unfold j9 j4
 rw [List.getD_eq_getElem?_getD,List.getElem?_map,h]
 rfl
theorem mO {R:List RC} {m:Nat} (hT:yV R):∀a,a<(j4 R m).length→j9 (j4 R m) a<R.length+2*m+2:=fun a ha=>by
 rw [v8] at ha
 have hr:=List.getElem?_eq_getElem ha
 rw [lS hr]
 have:=hT a _ hr
 split<;>omega
theorem oQ {R:List RC} {L:List LC} {N:List (List (Int×Int))} {ys:List kA} {d:Int} {ms:List Int} {pl:List Nat} (hd:Drawn R L N) (hm:ms.length=R.length+2*L.length+2):∀de,∀q∈vM R L N ys d ms pl de,q.1<ms.length∧q.2.1<ms.length:=by
 have key:∀(k:Nat) (l:LC) (ps:List (Str×Str×Int)),L[k]?=some l→(∀q∈ps,okW q.1∧okW q.2.1)→∀q∈ps.map (cV R.length L.length k l),q.1<ms.length∧q.2.1<ms.length:=fun k l ps hl ho q hq=>by
  obtain ⟨p,hp,rfl⟩:=List.mem_map.mp hq
  rw [hm]
  exact ⟨eK (ho p hp).1 (hd.lock _ _ hl) (List.getElem?_eq_some_iff.mp hl).1,eK (ho p hp).2 (hd.lock _ _ hl) (List.getElem?_eq_some_iff.mp hl).1⟩
 intro de q hq
 cases de with
 |pass b =>
  change q∈passQ R.length L ms _ at hq
  unfold passQ at hq
  split at hq
  ·rename_i l hl;exact key _ l _ hl (oH _ _ _ _ _ _) q hq
  ·cases hq
 |«let» k =>
  change q∈letQ R.length L ms k at hq
  unfold letQ at hq
  split at hq
  ·rename_i l hl;exact key _ l _ hl (cG _ _ _ _) q hq
  ·cases hq
 |night=>exact m6 (by omega) (by omega) q (List.mem_filter.mp hq).1
theorem A5 {R:List RC} {m j:Nat} {g:Nat→Int} (hT:yV R) (h1:R.length≤j) (h2:j<R.length+2*m):kO ((qS (j9 (j4 R m)) g (j4 R m).length).filter kH) j=0:=by
 rw [ZX]
 refine gE fun q hq=>?_
 obtain ⟨a,ha,rfl⟩:=List.mem_map.mp hq
 have ha:=mem_downs.mp ha
 rw [v8] at ha
 obtain ⟨r,hr⟩:∃r,R[a]?=some r:=⟨_,List.getElem?_eq_getElem ha⟩
 have ht:=hT a r hr
 refine ⟨by show a≠j;omega,?_⟩
 show j9 (j4 R m) a≠j
 rw [lS hr]
 split<;>omega
theorem mZ {k n j:Nat} {ms:List Int} {W:List (Int×Int)} (h1:n≤j) (h2:j≠k):kO ((vW k ms W n).filter kH) j=0:=by
 rw [ZX]
 refine gE fun q hq=>?_
 rcases List.mem_append.mp hq with h|h
 ·obtain ⟨i,hi,rfl⟩:=List.mem_map.mp h
  have:=List.mem_range.mp hi
  exact ⟨by show i≠j;omega,fun z=>h2 z.symm⟩
 ·obtain ⟨i,hi,rfl⟩:=List.mem_map.mp h
  have:=List.mem_range.mp hi
  exact ⟨fun z=>h2 z.symm,by show i≠j;omega⟩
theorem CJ {L:List LC} {ys:List kA} {pl:List Nat} {R:List RC} {n:Nat} {d:Int} {ms:List Int} {de:Deed} (hf:Fleet L ys pl) (hw:qP R L n ys d ms pl de=""):Fleet L ys (JX pl de):=by
 cases de with
 |night=>exact hf
 |«let» j=>exact hf
 |pass b =>
  refine ⟨by show (yA pl b).length=_;rw [bP];exact hf.len,hf.n10,hf.ok,fun i y p hy hp=>?_⟩
  have hi:i<pl.length:=by have:=(List.getElem?_eq_some_iff.mp hp).1;rw [show JX pl (.pass b)=yA pl b from rfl,bP] at this;exact this
  have hp:(yA pl b)[i]?=some p:=hp
  unfold yA at hp
  rw [List.getElem?_map,List.getElem?_range hi] at hp
  have hp:some (if i=b then pl.getD i 0+1 else pl.getD i 0)=some p:=hp
  have hp:=Option.some.inj hp
  have eg:pl[i]?=some (pl.getD i 0):=by rw [List.getD_eq_getElem?_getD,List.getElem?_eq_getElem hi];rfl
  have h1:=hf.le i y _ hy eg
  by_cases hb:i=b
  ·rw [if_pos hb] at hp
   subst hb
   have hne:=nR hw
   rw [show ys.getD i (0,[])=y by rw [List.getD_eq_getElem?_getD,hy];rfl] at hne
   omega
  ·rw [if_neg hb] at hp
   omega
def G1 (N:List (List (Int×Int))):Prop:=∀p∈N,∀q∈p,0≤q.1∧0≤q.2
theorem nW {k j:Nat} {f:Nat→Int} (hk:k≠j):∀n,kO ((List.range n).map fun r=>(r,k,f r)) j=if j<n then - f j else 0
 |0=>by rw [if_neg (Nat.not_lt_zero _)];rfl
 |n+1=>by
  rw [List.range_succ,List.map_append,dS,nW hk n]
  show _+((if k=j then f n else 0) - (if n=j then f n else 0)+0)=_
  rw [if_neg hk]
  by_cases h:n=j
  ·subst h
   rw [if_neg (Nat.lt_irrefl _),if_pos rfl,if_pos (Nat.lt_succ_self _)]
   omega
  ·rw [if_neg h]
   by_cases h2:j<n
   ·rw [if_pos h2,if_pos (by omega)];omega
   ·rw [if_neg h2,if_neg (by omega)];rfl
noncomputable def eS (R:List RC) (L:List LC) (ms:List Int):List Int:=open Classical in if h:∃gs,Spl (j4 R L.length) ms gs then yW ms (j4 R L.length) (Classical.choose h) else ms
theorem pB {R:List RC} {L:List LC} {N:List (List (Int×Int))} {ms gs:List Int} (hd:Drawn R L N) (h:Spl (j4 R L.length) ms gs):yW ms (j4 R L.length) gs=eS R L ms:=by
 have hex:∃gs,Spl (j4 R L.length) ms gs:=⟨gs,h⟩
 unfold eS
 rw [dif_pos hex,Spl.unique (gH (dP (m:=L.length) (zQ hd))) h (Classical.choose_spec hex)]
structure Wet (R:List RC) (L:List LC) (ms ms':List Int):Prop where
 len:ms'.length=ms.length
 up:∀i,i<R.length→ms.getD i 0≤ms'.getD i 0
 eq:∀i,R.length≤i→i<R.length+2*L.length→ms'.getD i 0=ms.getD i 0
theorem Wet.pour1 {R:List RC} {L:List LC} {ms ms':List Int} {q:Nat×Nat×Int} (h:Wet R L ms ms') (h1:q.1<ms.length) (h2:q.2.1<ms.length):Wet R L (pour ms q) (pour ms' q):=by
 have hl:=h.len
 refine ⟨by rw [bO,bO,hl],fun i hi=>?_,fun i i1 i2=>?_⟩
 ·rw [bR ms q i h1 h2,bR ms' q i (by omega) (by omega)]
  have:=h.up i hi
  omega
 ·rw [bR ms q i h1 h2,bR ms' q i (by omega) (by omega),h.eq i i1 i2]
theorem Wet.pours {R:List RC} {L:List LC} {ms ms':List Int} {qs:List (Nat×Nat×Int)} (h:Wet R L ms ms') (hq:∀q∈qs,q.1<ms.length∧q.2.1<ms.length):Wet R L (jX ms qs) (jX ms' qs):=by
 have hq':∀q∈qs,q.1<ms'.length∧q.2.1<ms'.length:=by rw [h.len];exact hq
 refine ⟨by rw [vB,vB,h.len],fun i hi=>?_,fun i i1 i2=>?_⟩
 ·rw [vU _ _ _ hq,vU _ _ _ hq']
  have:=h.up i hi
  omega
 ·rw [vU _ _ _ hq,vU _ _ _ hq',h.eq i i1 i2]
theorem lV {R:List RC} {L:List LC}:∀(qs:List (Nat×Nat×Int)) (ms ms':List Int),Wet R L ms ms'→(∀q∈qs,q.1<ms.length∧q.2.1<ms.length)→vP R ms qs=false→vP R ms' qs=false
 |[],_,_,_,_,_=>rfl
 |q::qs,ms,ms',h,hq,hs=>by
  change (yC R (pour ms q) q.1||vP R (pour ms q) qs)=false at hs
  rw [Bool.or_eq_false_iff] at hs
  obtain ⟨q1,q2⟩:=hq q List.mem_cons_self
  have hp:=h.pour1 q1 q2
  show (yC R (pour ms' q) q.1||vP R (pour ms' q) qs)=false
  rw [Bool.or_eq_false_iff]
  refine ⟨?_,lV qs _ _ hp (fun p hp=>by rw [bO];exact hq p (List.mem_cons_of_mem _ hp)) hs.2⟩
  have h1:=hs.1
  unfold yC at h1 ⊢
  cases hr:R[q.1]? with
  |none=>rfl
  |some r =>
   rw [hr] at h1
   have h2:=of_decide_eq_false h1
   have h3:=hp.up q.1 (List.getElem?_eq_some_iff.mp hr).1
   exact decide_eq_false (by omega)
theorem Wet.full {R:List RC} {L:List LC} {ms ms':List Int} {k:Nat} (h:Wet R L ms ms') (hk:k<L.length):yU R.length ms' k=yU R.length ms k:=by
 unfold yU
 rw [h.eq (R.length+k) (by omega) (by omega)]
theorem Wet.passEq {R:List RC} {L:List LC} {ms ms':List Int} (h:Wet R L ms ms') (s:Nat×Bool):passQ R.length L ms' s=passQ R.length L ms s:=by
 unfold My.passQ
 cases hl:L[s.1]? with
 |none=>rfl
 |some l =>
  have hk:=(List.getElem?_eq_some_iff.mp hl).1
  show (Z9 _ _ _ _ _ _).map _=(Z9 _ _ _ _ _ _).map _
  rw [h.full hk,h.eq (R.length+L.length+s.1) (by omega) (by omega)]
theorem Wet.letEq {R:List RC} {L:List LC} {ms ms':List Int} (h:Wet R L ms ms') (k:Nat):letQ R.length L ms' k=letQ R.length L ms k:=by
 unfold My.letQ
 cases hl:L[k]? with
 |none=>rfl
 |some l =>
  have hk:=(List.getElem?_eq_some_iff.mp hl).1
  show (qX _ _ _ _).map _=(qX _ _ _ _).map _
  rw [h.eq (R.length+L.length+k) (by omega) (by omega)]
theorem oX {R:List RC} {L:List LC} {N:List (List (Int×Int))} {ys:List kA} {d:Int} {ms ms':List Int} {pl:List Nat} {de:Deed} (hd:Drawn R L N) (hm:ms.length=R.length+2*L.length+2) (h:Wet R L ms ms') (hin:J4 ys.length L.length de) (hw:qP R L N.length ys d ms pl de=""):qP R L N.length ys d ms' pl de="":=by
 cases de with
 |night=>exact hw
 |«let» k =>
  change (if yU R.length ms k=true then ("":Str) else "empty")="" at hw
  show (if yU R.length ms' k=true then ("":Str) else "empty")=""
  rw [h.full hin]
  exact hw
 |pass b =>
  have hq:=oQ (N:=N) (ys:=ys) (d:=d) (pl:=pl) hd hm (.pass b)
  change z9 R L ys ms pl b="" at hw
  show z9 R L ys ms' pl b=""
  change ∀q∈My.passQ R.length L ms ((ys.getD b (0,[])).2.getD (pl.getD b 0) (0,true)),_ at hq
  unfold z9 at hw ⊢
  rw [h.passEq]
  split at hw
  ·rename_i h0
   rw [if_pos h0]
   exact hw
  ·rename_i h0
   rw [if_neg h0]
   split at hw
   ·rename_i h1
    rw [if_pos h1]
    exact hw
   ·rename_i h1
    rw [if_neg h1]
    split at hw
    ·exact absurd hw (by decide +kernel)
    ·rename_i h2
     rw [if_neg (by rw [lV _ _ _ h hq (Bool.eq_false_iff.mpr h2)];decide)]
theorem AX {R:List RC} {L:List LC} {N:List (List (Int×Int))} {ys:List kA} {d:Int} {ms ms':List Int} {pl:List Nat} {de:Deed} (hd:Drawn R L N) (hm:ms.length=R.length+2*L.length+2) (h:Wet R L ms ms') (hn:de≠.night):Wet R L (jX ms (vM R L N ys d ms pl de)) (jX ms' (vM R L N ys d ms' pl de)):=by
 have e:vM R L N ys d ms' pl de=vM R L N ys d ms pl de:=by
  cases de with
  |night=>exact absurd rfl hn
  |«let» k=>exact h.letEq k
  |pass b=>exact h.passEq _
 rw [e]
 exact h.pours (oQ hd hm de)
theorem mX {k j:Nat} {f:Nat→Int} (hk:k≠j):∀n,kO ((List.range n).map fun r=>(k,r,f r)) j=if j<n then f j else 0
 |0=>by rw [if_neg (Nat.not_lt_zero _)];rfl
 |n+1=>by
  rw [List.range_succ,List.map_append,dS,mX hk n]
  show _+((if n=j then f n else 0) - (if k=j then f n else 0)+0)=_
  rw [if_neg hk]
  by_cases h:n=j
  ·subst h
   rw [if_neg (Nat.lt_irrefl _),if_pos rfl,if_pos (Nat.lt_succ_self _)]
   omega
  ·rw [if_neg h]
   by_cases h2:j<n
   ·rw [if_pos h2,if_pos (by omega)];omega
   ·rw [if_neg h2,if_neg (by omega)];rfl
theorem gB {R:List RC} {m:Nat} {ms:List Int} {W:List (Int×Int)} (hm:ms.length=R.length+2*m+2):∀q∈(vW (R.length+2*m+1) ms W R.length).filter kH,q.1<ms.length∧q.2.1<ms.length:=fun q hq=>m6 (by omega) (by omega) q (List.mem_filter.mp hq).1
theorem oJ {R:List RC} {m:Nat} {ms:List Int} {W:List (Int×Int)} {j:Nat} (hm:ms.length=R.length+2*m+2) (hj:j<R.length):(zH R m ms W).getD j 0=ms.getD j 0 - zN ms W j+(W.getD j (0,0)).1:=by
 unfold zH
 rw [vU _ _ _ (gB hm),ZX]
 unfold vW
 rw [dS]
 have e1:kO (JA (R.length+2*m+1) ms W R.length) j=if j<R.length then - zN ms W j else 0:=nW (by omega) _
 have e2:kO (zZ (R.length+2*m+1) W R.length) j=if j<R.length then (W.getD j (0,0)).1 else 0:=mX (by omega) _
 rw [e1,e2,if_pos hj,if_pos hj]
 omega
def eV (n:Nat) (W W':List (Int×Int)):Prop:=∀i,i<n→(W.getD i (0,0)).1≤(W'.getD i (0,0)).1∧(W'.getD i (0,0)).2≤(W.getD i (0,0)).2
theorem AW {R:List RC} {L:List LC} {ms ms':List Int} {W W':List (Int×Int)} (hm:ms.length=R.length+2*L.length+2) (h:Wet R L ms ms') (hW:eV R.length W W'):Wet R L (zH R L.length ms W) (zH R L.length ms' W'):=by
 have hm':ms'.length=R.length+2*L.length+2:=by rw [h.len];exact hm
 refine ⟨by unfold zH;rw [vB,vB,h.len],fun i hi=>?_,fun i i1 i2=>?_⟩
 ·rw [oJ hm hi,oJ hm' hi]
  have h1:=h.up i hi
  obtain ⟨h2,h3⟩:=hW i hi
  unfold zN
  split<;>split<;>omega
 ·unfold zH
  rw [vU _ _ _ (gB hm),vU _ _ _ (gB hm'),mZ i1 (by omega),mZ i1 (by omega),h.eq i i1 i2]
theorem CQ {R:Nat} {c:Nat→Int} {t:Nat→Nat} {m m' g g':Nat→Int} (hA:J6 R t) (hm:∀i,i<R→m i≤m' i) (h:J0 R c t m g) (h':J0 R c t m' g') {j:Nat} (hj:j<R):after R t m g j≤after R t m' g' j:=by
 have hg:=fT hA hm h h' R (Nat.le_refl _)
 have hf:=fQ (t:=t) (g:=g) (g':=g') (j:=j) (R:=R) fun a ha _=>hg a (by omega) ha
 have hj':=hm j hj
 unfold after
 rw [if_pos hj,if_pos hj]
 have e:=h j hj
 have e':=h' j hj
 unfold yS at e e'
 split at e<;>split at e'<;>omega
def bV (R:List RC) (L:List LC) (gs:List Int):List (Nat×Nat×Int):=(qS (j9 (j4 R L.length)) (fun a=>gs.getD a 0) (j4 R L.length).length).filter kH
theorem lQ {R:List RC} {L:List LC} {N:List (List (Int×Int))} {ms ms' gs gs':List Int} (hd:Drawn R L N) (hm:ms.length=R.length+2*L.length+2) (h:Wet R L ms ms') (hS:Spl (j4 R L.length) ms gs) (hS':Spl (j4 R L.length) ms' gs'):Wet R L (jX ms (bV R L gs)) (jX ms' (bV R L gs')):=by
 have hm':ms'.length=R.length+2*L.length+2:=by rw [h.len];exact hm
 have hin:∀(ns ks:List Int),ns.length=R.length+2*L.length+2→∀q∈bV R L ks,q.1<ns.length∧q.2.1<ns.length:=fun ns ks hn q hq=>by
  refine fU (by rw [v8];omega) ?_ q (List.mem_filter.mp hq).1
  rw [hn]
  exact mO (zQ hd)
 have ht:∀(ns:List Int),ns.length=R.length+2*L.length+2→∀a,a<(j4 R L.length).length→j9 (j4 R L.length) a<ns.length:=fun ns hn=>by rw [hn];exact mO (zQ hd)
 have hs:∀(ns ks:List Int),ns.length=R.length+2*L.length+2→jX ns (bV R L ks)=yW ns (j4 R L.length) ks:=fun ns ks hn=>lW (fU (by rw [v8];omega) (ht ns hn))
 have hA:J6 (j4 R L.length).length (j9 (j4 R L.length)):=gH (dP (m:=L.length) (zQ hd))
 refine ⟨by rw [vB,vB,h.len],fun i hi=>?_,fun i i1 i2=>?_⟩
 ·rw [hs _ _ hm,hs _ _ hm',mV (by rw [v8];omega) (ht _ hm),mV (by rw [v8];omega) (ht _ hm')]
  exact CQ hA (fun j hj=>h.up j (by rw [v8] at hj;exact hj)) hS.2 hS'.2 (by rw [v8];exact hi)
 ·rw [vU _ _ _ (hin _ _ hm),vU _ _ _ (hin _ _ hm')]
  have e:∀ks,kO (bV R L ks) i=0:=fun ks=>A5 (zQ hd) i1 i2
  rw [e,e,h.eq i i1 i2]
theorem dQ (ms:List Int) (a b:List (Nat×Nat×Int)):jX ms (a++b)=jX (jX ms a) b:=List.foldl_append
theorem oY {R:List RC} {L:List LC} {N:List (List (Int×Int))} {ys:List kA} {d:Int} {ms ms' gs gs':List Int} {pl:List Nat} {de:Deed} (hd:Drawn R L N) (hm:ms.length=R.length+2*L.length+2) (h:Wet R L ms ms') (hn:de≠.night) (hS:Spl (j4 R L.length) (jX ms (vM R L N ys d ms pl de)) gs) (hS':Spl (j4 R L.length) (jX ms' (vM R L N ys d ms' pl de)) gs'):Wet R L (jX ms (vV R L N ys d ms pl de gs)) (jX ms' (vV R L N ys d ms' pl de gs')):=by
 unfold vV
 rw [dQ,dQ]
 exact lQ hd (by rw [vB];exact hm) (AX hd hm h hn) hS hS'
theorem x0 {R:List RC} {L:List LC} {N:List (List (Int×Int))} {ys:List kA} {d:Int} {ms ms' gs gs':List Int} {pl:List Nat} {W:List (Int×Int)} (hd:Drawn R L N) (hm:ms.length=R.length+2*L.length+2) (h:Wet R L ms ms') (hW:eV R.length (N.getD d.toNat []) W) (hS:Spl (j4 R L.length) (jX ms (vM R L N ys d ms pl .night)) gs) (hS':Spl (j4 R L.length) (zH R L.length ms' W) gs'):Wet R L (jX ms (vV R L N ys d ms pl .night gs)) (jX ms' (eC R L.length ms' W gs')):=by
 unfold vV eC
 rw [dQ,dQ]
 exact lQ hd (by rw [vB];exact hm) (AW hm h hW) hS hS'
theorem gQ {R:List RC} {L:List LC} {N:List (List (Int×Int))} {d:Int} {ms ms' ps:List Int} (hd:Drawn R L N) (hm:ms.length=R.length+2*L.length+2) (h:Wet R L ms ms'):yY R.length L.length d d ms' ms ps ps=true:=by
 have hm':ms'.length=R.length+2*L.length+2:=by rw [h.len];exact hm
 have e1:JC R.length L.length ms' ms=true:=by
  unfold JC
  rw [show kT (ms'.map V.int) (some (R.length:Int)) (some (qB R.length L.length))=kT (ms.map V.int) (some (R.length:Int)) (some (qB R.length L.length)) by
   unfold kT
   rw [List.length_map,List.length_map,hm,hm',HT.sIx_nat,show qB R.length L.length=((R.length+2*L.length:Nat):Int) by unfold qB;omega,HT.sIx_nat]
   rw [Nat.min_eq_left (by omega),Nat.min_eq_left (by omega)]
   refine List.ext_getElem? fun i=>?_
   rw [List.getElem?_take,List.getElem?_take]
   split
   ·rename_i hi
    rw [List.getElem?_drop,List.getElem?_drop,List.getElem?_map,List.getElem?_map,List.getElem?_eq_getElem (show R.length+i<ms.length by omega),List.getElem?_eq_getElem (show R.length+i<ms'.length by omega)]
    have:=h.eq (R.length+i) (by omega) (by omega)
    rw [List.getD_eq_getElem?_getD,List.getD_eq_getElem?_getD,List.getElem?_eq_getElem (show R.length+i<ms.length by omega),List.getElem?_eq_getElem (show R.length+i<ms'.length by omega)] at this
    exact congrArg (fun z=>some (V.int z)) this
   ·rfl]
  exact cA (bU _ _ _)
 have e2:dA R.length ms' ms=true:=by
  unfold dA
  rw [List.all_eq_true]
  exact fun i hi=>decide_eq_true (h.up i (List.mem_range.mp hi))
 unfold yY
 rw [decide_eq_true rfl,cA (zC _),e1,e2]
 rfl
structure Txt (K:W.Frag) (mg:Str→Option Value) (cP cB cU:Addr) (cR:Addr) (cN:Addr) (tkS:Tok) (eW eL:Addr) (tkH:Tok):Prop where
 z_list:mg "list"=none
 z_tuple:mg "tuple"=none
 z_max:mg "max"=none
 z_range:mg "range"=none
 z_len:mg "len"=none
 z_sum:mg "sum"=none
 z_zip:mg "zip"=none
 z_enumerate:mg "enumerate"=none
 z_min:mg "min"=none
 z_all:mg "all"=none
 z_int:mg "int"=none
 cl:∀kd,Cls K ((jF cP cB cU) kd)
 n_name:∀kd,NoAttr K ((jF cP cB cU) kd) "name"
 n_high:∀kd,NoAttr K ((jF cP cB cU) kd) "high"
 n_low:∀kd,NoAttr K ((jF cP cB cU) kd) "low"
 n_room:∀kd,NoAttr K ((jF cP cB cU) kd) "room"
 n_side:NoAttr K cB "side"
 n_lift:NoAttr K cU "lift"
 c_PlainLock:mg "PlainLock"=some (.ref cP)
 c_BasinLock:mg "BasinLock"=some (.ref cB)
 c_PumpLock:mg "PumpLock"=some (.ref cU)
 clR:Cls K cR
 nR_name:NoAttr K cR "name"
 nR_least:NoAttr K cR "least"
 nR_crest:NoAttr K cR "crest"
 nR_berths:NoAttr K cR "berths"
 nR_water:NoAttr K cR "water"
 nR_target:NoAttr K cR "target"
 c_Reach:mg "Reach"=some (.ref cR)
 clN:Cls K cN
 nN_reaches:NoAttr K cN "reaches"
 nN_locks:NoAttr K cN "locks"
 nN_nights:NoAttr K cN "nights"
 c_Canal:mg "Canal"=some (.ref cN)
 g_SEA:mg "SEA"=some (.int (-1) tkS)
 c_NotNow:mg "NotNow"=some (.ref eW)
 c_NotLinked:mg "NotLinked"=some (.ref eL)
 x_NotNow:iZ K eW
 x_NotLinked:iZ K eL
 g_HOME:mg "HOME"=some (.int (-1) tkH)
set_option maxHeartbeats 4000000
section
variable {P:Program} {w:World} {K:W.Frag} {mg:Str→Option Value} {base:Heap} {cP cB cU:Addr} {cR:Addr} {cN:Addr} {tkS:Tok} {eW eL:Addr} {tkH:Tok}
theorem bK:FnScope ["waters","pours","held","source","target","amount"] ["waters","pours"] (jD ZG):=⟨rfl,rfl,rfl,by decide +kernel,rfl,by decide +kernel,by decide +kernel⟩
theorem uO {f:Addr} {fd:FuncData} (F:Fun K "poured_all" "poured_all" ZG f fd) (T:Txt K mg cP cB cU cR cN tkS eW eL tkH) : FnOk P w K mg base jQ 1 f fd ["waters","pours"] (Z8 K):=by
 refine F.ok bK (fun vs H Q E h=>?_) (fun cdv A outer s H vs Q E hr h=>?_)
 ·obtain ⟨w,p,ws,rs,qs,rfl,hW,hP,hA,hn,q⟩:=h
  rfl
 obtain ⟨w,p,ws,rs,qs,rfl,hW,hP,hA,hn,q⟩:=h
 have hu:_<cLine:=hr.units0
 have hu1:=jV hr
 refine ⟨_,(@jI _ _ _ _ _ (jT (i:=2) bK.nd rfl (by first|exact Or.inl rfl|exact Or.inr rfl) (v6 bN (by rfl) T.z_list PyProof.Rows.boot_list (jA (pv 0) jB)))
   (@jI _ _ _ _ _ (yG PassesOwn.never rfl (qY (pv 1)) (iF rfl (kW (j7 (i:=3) bK.nd rfl (by first|exact Or.inl rfl|exact Or.inr rfl)) (kW (j7 (i:=4) bK.nd rfl (by first|exact Or.inl rfl|exact Or.inr rfl)) (kW (j7 (i:=5) bK.nd rfl (by first|exact Or.inl rfl|exact Or.inr rfl)) yF))))
    (@jI _ _ _ _ _ (gX (pv 2) (pv 3) gN (pv 5) ES d9)
   (@jJ _ _ _ (gX (pv 2) (pv 4) gN (pv 5) p0 d9))))
   (@jJ _ _ _ (@jO _ _ _ _ (v6 dO (by rfl) T.z_tuple PyProof.Rows.boot_tuple (jA (pv 2) jB)))))),?_⟩
 refine ⟨_,rfl,w,_,rfl,hW,fun l hl=>?_⟩
 have s0:Same H (upd H l (.lst (ws.map V.int))):=jK hl _
 refine ⟨_,rfl,p,rfl,⟨rs,s0.seq hP⟩,bZ (K:=K) (a:=p) (xs:=rs) (fun i σ Hi=>∃c3 c4 c5,σ=[some (.ref w),some (.ref p),some (.ref l),c3,c4,c5]∧Hi l=some (.lst ((jX ws (qs.take i)).map V.int))∧Same H Hi)
  ⟨none,none,none,rfl,jE,s0⟩ (fun i σ Hi _ ⟨_,_,_,_,_,s⟩=>s.seq hP) ?_ ?_⟩
 ·rintro i x σ Hi hx ⟨c3,c4,c5,rfl,hH,sm⟩
  obtain ⟨a,s,t,m,rfl,hq,hT,hs,ht⟩:=hA.2 i x hx
  have e0:(jX ws (qs.take i)).length=ws.length:=vB _ _
  refine ⟨a,_,rfl,iJ sm hT,rfl,_,_,rfl,_,_,rfl,_,_,rfl,rfl,?_⟩
  refine ⟨_,rfl,_,rfl,_,_,_,_,rfl,rfl,SqL.of hH,qF (by rw [e0];exact hs),_,rfl,jU (⟨_,_,_,_,rfl,rfl,hH,eI (by rw [List.length_map,e0];exact hs),?_⟩)⟩
  try dsimp only
  rw [dR]
  refine ⟨_,rfl,_,rfl,_,_,_,_,rfl,rfl,SqL.of jE,qF (by rw [List.length_set,e0];exact ht),_,rfl,jU (⟨_,_,_,_,rfl,rfl,jE,eI (by rw [List.length_map,List.length_set,e0];exact ht),?_⟩)⟩
  try dsimp only
  rw [dR]
  refine ⟨_,_,_,rfl,?_,kY hl (kY hl sm)⟩
  rw [jE,fL ws qs i _ hq]
  rfl
 ·rintro σ Hi ⟨c3,c4,c5,rfl,hH,sm⟩
  refine ⟨_,rfl,_,_,rfl,.inl ⟨SqL.of hH,fun r hr=>?_⟩⟩
  refine q r _ (kY (sm.free hr) sm) (sm.free hr) ?_
  rw [jE,hA.1,List.take_length]
theorem lG:FnScope ["weirs","waters","at","crest"] ["weirs","waters","at"] (jD ZD):=⟨rfl,rfl,rfl,by decide +kernel,rfl,by decide +kernel,by decide +kernel⟩
theorem uK {f:Addr} {fd:FuncData} (F:Fun K "over" "over" ZD f fd) (T:Txt K mg cP cB cU cR cN tkS eW eL tkH) : FnOk P w K mg base jQ 1 f fd ["weirs","waters","at"] (pP K):=by
 refine F.ok lG (fun vs H Q E h=>?_) (fun cdv A outer s H vs Q E hr h=>?_)
 ·obtain ⟨wq,wa,rs,ws,n,ms,i₁,rfl,hW,hA,hM,h1,h2,q⟩:=h
  rfl
 obtain ⟨wq,wa,rs,ws,n,ms,i₁,rfl,hW,hA,hM,h1,h2,q⟩:=h
 have hu:_<cLine:=hr.units0
 have hu1:=jV hr
 refine ⟨_,(@jI _ _ _ _ _ (jT (i:=3) lG.nd rfl (by first|exact Or.inl rfl|exact Or.inr rfl) (jH ix_tup (jH kF (pv 0) (pv 2) (fun _ _=>rfl)) jC (fun _ _=>rfl)))
   (@jJ _ _ _ (@jO _ _ _ _ (kD (BR rfl) (by rfl) T.z_max PyProof.Rows.boot_max (jA jC (jA (@jG _ _ _ _ _ _ _ _ vQ (jH pZ (pv 1) (pv 2) (fun _ _=>rfl)) (pv 3)) jB)))))),?_⟩
 obtain ⟨ta,hat,hT,_⟩:=dY hA h1
 refine ⟨_,rfl,_,rfl,wq,_,_,_,rfl,rfl,hW,hat,ta,_,_,_,rfl,rfl,hT,rfl,?_⟩
 refine ⟨_,rfl,_,rfl,B2 hM h2 ?_⟩
 exact ⟨_,rfl,jU (⟨_,_,rfl,q⟩)⟩
theorem wT:FnScope ["weirs"] ["weirs"] (jD Q8):=⟨rfl,rfl,rfl,by decide +kernel,rfl,by decide +kernel,by decide +kernel⟩
theorem t9 {f:Addr} {fd:FuncData} (F:Fun K "last_first" "last_first" Q8 f fd) (T:Txt K mg cP cB cU cR cN tkS eW eL tkH) : FnOk P w K mg base jQ 1 f fd ["weirs"] (iE K):=by
 refine F.ok wT (fun vs H Q E h=>?_) (fun cdv A outer s H vs Q E hr h=>?_)
 ·obtain ⟨wq,rs,rfl,hW,hn,q⟩:=h
  rfl
 obtain ⟨wq,rs,rfl,hW,hn,q⟩:=h
 have hu:_<cLine:=hr.units0
 have hu1:=jV hr
 refine ⟨_,(@jJ _ _ _ (@jO _ _ _ _ (v6 (xG rfl) (by rfl) T.z_list PyProof.Rows.boot_list (jA (v6 xZ (by rfl) T.z_range PyProof.Rows.boot_range (@jA _ _ _ _ _ (@jG _ _ _ _ _ _ _ _ vQ (kD kJ (by rfl) T.z_len PySem.boot_len (jA (pv 0) jB)) jC) (@jA _ _ _ _ _ (iK gZ jC) (@jA _ _ _ _ _ (iK gZ jC) jB (by rfl)) (by rfl)) (by rfl))) jB)))),?_⟩
 refine ⟨_,rfl,wq,_,rfl,.inl hW,_,_,rfl,rfl,_,rfl,_,rfl,_,_,_,rfl,(by decide),(by decide),fun p hp=>?_⟩
 refine ⟨p,_,_,_,rs.length,rfl,jE,AO hn,nG _,hn,fun l hl=>?_⟩
 refine q l _ ((jK hp _).trans (jK hl _)) ((jK hp _).free hl) ?_
 rw [jE]
 exact congrArg (fun x=>some (HO.lst x)) (AN rs.length)
theorem dN:FnScope ["weirs","waters","held","given","at"] ["weirs","waters"] (jD ZK):=⟨rfl,rfl,rfl,by decide +kernel,rfl,by decide +kernel,by decide +kernel⟩
theorem uU {f:Addr} {fd:FuncData} (F:Fun K "spills" "spills" ZK f fd) (T:Txt K mg cP cB cU cR cN tkS eW eL tkH) (D_last_first:Def P w K mg base 1 "last_first" ["weirs"] [] (iE K)) (D_over:Def P w K mg base 1 "over" ["weirs","waters","at"] [] (pP K)):FnOk P w K mg base jQ 2 f fd ["weirs","waters"] (n0 K):=by
 refine F.ok dN (fun vs H Q E h=>?_) (fun cdv A outer s H vs Q E hr h=>?_)
 ·obtain ⟨wq,wa,rs,ws,ms,rfl,hRd,q⟩:=h
  rfl
 obtain ⟨wq,wa,rs,ws,ms,rfl,hRd,q⟩:=h
 have hu:_<cLine:=hr.units0
 have hu1:=jV hr
 refine ⟨_,(@jI _ _ _ _ _ (jT (i:=2) dN.nd rfl (by first|exact Or.inl rfl|exact Or.inr rfl) (v6 bN (by rfl) T.z_list PyProof.Rows.boot_list (jA (pv 1) jB)))
   (@jI _ _ _ _ _ (jT (i:=3) dN.nd rfl (by first|exact Or.inl rfl|exact Or.inr rfl) (@jG _ _ _ _ _ _ _ _ pW (qE (jA jC jB)) (kD kJ (by rfl) T.z_len PySem.boot_len (jA (pv 0) jB))))
   (@jI _ _ _ _ _ (yG PassesOwn.never rfl (qY (jL D_last_first hr rfl (jA (pv 0) jB))) (j7 (i:=4) dN.nd rfl (by first|exact Or.inl rfl|exact Or.inr rfl))
    (@jI _ _ _ _ _ (EA (jL D_over hr rfl (@jA _ _ _ _ _ (pv 0) (@jA _ _ _ _ _ (pv 2) (@jA _ _ _ _ _ (pv 4) jB (by rfl)) (by rfl)) (by rfl))) (ED (pv 3) (pv 4) d9))
   (@jJ _ _ _ (gX (pv 2) (jH ix_tup (jH kF (pv 0) (pv 4) (fun _ _=>rfl)) jC (fun _ _=>rfl)) gN (jH kF (pv 3) (pv 4) (fun _ _=>rfl)) p0 d9))))
   (@jJ _ _ _ (@jO _ _ _ _ (pv 3)))))),?_⟩
 obtain ⟨hW,hA,hM,hAh,hRn,hn⟩:=id hRd
 have hAF:=gH hAh
 refine ⟨_,rfl,wa,_,rfl,hM,fun hl hhl=>?_⟩
 have t1:=jK hhl (.lst (ms.map V.int))
 refine ⟨zz1,fun lp hlp=>?_⟩
 have t2:=jK hlp (.lst [V.int 0])
 refine ⟨_,rfl,wq,_,rfl,.inl ((t1.trans t2).seq hW),lp,_,_,rfl,rfl,jE,by omega,by rw [hA.1];omega,?_,fun gp hgp=>?_⟩
 ·rw [Int.toNat_natCast,List.length_singleton,Nat.one_mul,hA.1]
  exact small (by omega)
 rw [Int.toNat_natCast,oF,hA.1]
 have t3:=jK hgp (.lst ((List.replicate ws.length (0:Int)).map V.int))
 have u3:=(t1.trans t2).trans t3
 have hlp':hl≠gp:=qJ (t2 _ _ jE) hgp
 refine ⟨_,rfl,wq,rs,rfl,u3.seq hW,by rw [hA.1];omega,fun df H1 s1 hdf0 hdf=>?_⟩
 have hl1:=s1 _ _ (t3 _ _ (t2 _ _ (jE:upd H hl (.lst (ms.map V.int)) hl=_)))
 have gp1:=s1 _ _ (jE:upd _ gp (.lst ((List.replicate ws.length (0:Int)).map V.int)) gp=_)
 have dhl:hl≠df:=qJ (t3 _ _ (t2 _ _ jE)) hdf0
 have dgp:gp≠df:=qJ jE hdf0
 have gf:H gp=none:=(t1.trans t2).free hgp
 refine ⟨df,rfl,⟨_,SqL.of hdf⟩,bZ (K:=K) (a:=df) (xs:=(q0 rs.length).map fun (i:Nat)=>V.int (i:Int)) (fun k σ Hi=>∃(hs gs:List Int) (c:Option V),σ=[some (.ref wq),some (.ref wa),some (.ref hl),some (.ref gp),c]∧Hi hl=some (.lst (hs.map V.int))∧Hi gp=some (.lst (gs.map V.int))∧
   Hi df=some (.lst ((q0 rs.length).map fun (i:Nat)=>V.int (i:Int)))∧SplInv ws ms hs gs k∧Same H Hi)
  ⟨ms,List.replicate ws.length 0,none,rfl,hl1,gp1,hdf,SplInv.start ws ms,u3.trans s1⟩ (fun i σ Hi _ ⟨_,_,_,_,_,_,hd,_⟩=>SqL.of hd) ?_ ?_⟩
 ·rintro k x σ Hi hx ⟨hs,gs,c,rfl,hH,hG,hD,hI,sm⟩
  obtain ⟨hk,rfl⟩:=oP hx
  rw [hA.1] at hk ⊢
  obtain ⟨i₁,hi₁⟩:∃i,i=ws.length - 1 - k:=⟨_,rfl⟩
  have hi:i₁<ws.length:=by omega
  have hst:=hI.step hAF hRn hk (by rw [← hi₁];exact mH hA i₁ hi)
  rw [← hi₁] at hst ⊢
  obtain ⟨ta,hat,hT,ht⟩:=dY (hA.same sm) hi
  have hAl:WeirsAt K Hi rs ws hs.length:=by rw [hI.lh];exact hA.same sm
  refine ⟨_,rfl,_,rfl,_,rfl,wq,hl,rs,ws,_,hs,i₁,rfl,sm.seq hW,hAl,.inl (SqL.of hH),hi,by rw [hI.lh];omega,?_⟩
  refine ⟨_,rfl,_,rfl,gp,_,_,_,rfl,rfl,hG,eI (by rw [List.length_map,hI.lg];exact hi),?_⟩
  rw [dR]
  have k1:∀o,Keep gp Hi (upd Hi gp o):=fun o=>(Keep.refl gp Hi).upd o
  have sG:∀o,Same H (upd Hi gp o):=fun o=>kY gf sm
  have hH':∀o,upd Hi gp o hl=some (.lst (hs.map V.int)):=fun o=>(k1 o) hl _ hlp' hH
  refine ⟨_,rfl,_,rfl,_,rfl,wq,_,_,_,rfl,rfl,(sG _).seq hW,hat,ta,_,_,_,rfl,rfl,(k1 _).sqt hG hT,rfl,kL (SqL.of (hH' _)) (qF (by rw [hI.lh];exact ht)) (⟨_,rfl,_,rfl,kL (SqL.of jE) (qF (by rw [List.length_set,hI.lg];exact hi)) (jU (⟨hl,_,_,_,rfl,rfl,hH' _,eI (by rw [List.length_map,hI.lh];exact ht),?_⟩))⟩)⟩
  rw [dR]
  refine ⟨_,_,_,rfl,jE,?_,?_,hst,kY hhl (sG _)⟩
  ·rw [j6 (Ne.symm hlp'),jE]
  ·rw [j6 (Ne.symm dhl),j6 (Ne.symm dgp),hD,hA.1]
 ·rintro σ Hi ⟨hs,gs,c,rfl,hH,hG,hD,hI,sm⟩
  rw [List.length_map,bM,hA.1] at hI
  refine ⟨_,rfl,?_⟩
  exact q gp Hi gs sm gf hG hI.spl
theorem lH:FnScope ["weirs","waters","given"] ["weirs","waters"] (jD JS):=⟨rfl,rfl,rfl,by decide +kernel,rfl,by decide +kernel,by decide +kernel⟩
theorem uT {f:Addr} {fd:FuncData} (F:Fun K "spill_pours" "spill_pours" JS f fd) (T:Txt K mg cP cB cU cR cN tkS eW eL tkH) (D_spills:Def P w K mg base 2 "spills" ["weirs","waters"] [] (n0 K)) (D_last_first:Def P w K mg base 1 "last_first" ["weirs"] [] (iE K)):FnOk P w K mg base jQ 3 f fd ["weirs","waters"] (gK K):=by
 refine F.ok lH (fun vs H Q E h=>?_) (fun cdv A outer s H vs Q E hr h=>?_)
 ·obtain ⟨wq,wa,rs,ws,ms,rfl,hRd,q⟩:=h
  rfl
 obtain ⟨wq,wa,rs,ws,ms,rfl,hRd,q⟩:=h
 have hu:_<cLine:=hr.units0
 have hu1:=jV hr
 refine ⟨_,(@jI _ _ _ _ _ (jT (i:=2) lH.nd rfl (by first|exact Or.inl rfl|exact Or.inr rfl) (jL D_spills hr rfl (jA (pv 0) (jA (pv 1) jB))))
   (@jJ _ _ _ (@jO _ _ _ _ (vE ["at","given","weirs"] (kP 1 [2,0]) rfl (kZ (jD JS) rfl rfl (by decide +kernel) (by decide +kernel) (by decide +kernel)) (qA 1 [2,0] rfl rfl (by decide +kernel)) (qY (jL D_last_first hr rfl (jA (pv 0) jB))) (fun _ _ _ _ _=>(j7 (i:=0) (show List.Nodup (["at","given","weirs"]:List Str) from by decide +kernel) rfl (by first|exact Or.inl rfl|exact Or.inr rfl))) (fun _ _ _ _ _=>(ZW (kB z0 (jH (eD K) (pv 1) (pv 0) (fun _ _=>rfl)) jC (j8 _)))) (fun _ _ _ _ _=>(kG (@jA _ _ _ _ _ (pv 0) (@jA _ _ _ _ _ (jH (yO K) (jH (eD K) (pv 2) (pv 0) (fun _ _=>rfl)) jC (fun _ _=>rfl)) (@jA _ _ _ _ _ (jH (eD K) (pv 1) (pv 0) (fun _ _=>rfl)) jB (by rfl)) (by rfl)) (by rfl)))))))),?_⟩
 refine ⟨_,rfl,_,rfl,wq,wa,rs,ws,ms,rfl,hRd,fun gp H1 gs s1 hgp0 hgp hS=>?_⟩
 obtain ⟨hW,hA,hM,hAh,hRn,hn⟩:=hRd.same s1
 refine ⟨_,rfl,wq,rs,rfl,hW,by rw [hA.1];omega,fun df H2 s2 hdf0 hdf=>?_⟩
 refine ⟨df,rfl,⟨_,SqL.of hdf⟩,fun D hD=>?_⟩
 refine JF (K:=K) (a:=df) (xs:=(q0 rs.length).map fun (i:Nat)=>V.int (i:Int)) (caps:=[some (.ref gp),some (.ref wq)]) (fun i ys Hi=>PoursH Hi ys (((qS (j9 ws) (fun a=>gs.getD a 0) ws.length).take i).filter kH) ms.length) hD (SqL.of hdf) (PoursH.nil _ _) ?_ ?_
 ·rintro i x ys Hi hx hi hle sm hY hR
  obtain ⟨hk,rfl⟩:=oP hx
  rw [hA.1] at hk ⊢
  obtain ⟨i₁,hi₁⟩:∃i',i'=ws.length - 1 - i:=⟨_,rfl⟩
  have hi':i₁<ws.length:=by omega
  rw [← hi₁]
  have s12:=s2.trans sm
  obtain ⟨ta,hat,hT,ht⟩:=dY (hA.same s12) hi'
  have ef:((qS (j9 ws) (fun a=>gs.getD a 0) ws.length).take (i+1)).filter kH=((qS (j9 ws) (fun a=>gs.getD a 0) ws.length).take i).filter kH++[(i₁,j9 ws i₁,gs.getD i₁ 0)].filter kH:=by
   rw [List.take_add_one,xR hk,← hi₁,List.filter_append]
   rfl
  refine ⟨_,rfl,_,rfl,kL (SqL.of (s12 _ _ hgp)) (qF (by rw [hS.1];exact hi')) (⟨rfl,_,rfl,?_⟩)⟩
  by_cases hz:gs.getD i₁ 0=0
  ·refine z3 (congrArg V.int hz) (d0 sm hY hle (Same.refl _) ?_)
   rw [ef,List.filter_cons,if_neg (by unfold kH;rw [decide_eq_true (show gs.getD i₁ 0=0 from hz)];decide)]
   show PoursH Hi ys (_++[]) _
   rw [List.append_nil]
   exact hR
  refine J8 (fun e=>hz (V.int.inj e)) ?_
  refine ⟨_,rfl,_,rfl,_,rfl,wq,_,_,_,rfl,rfl,s12.seq hW,hat,ta,_,_,_,rfl,rfl,hT,rfl,_,rfl,_,rfl,kL (SqL.of (s12 _ _ hgp)) (qF (by rw [hS.1];exact hi')) (⟨zz3,fun tp htp=>?_⟩)⟩
  have st:=jK htp (.tup [.int (i₁:Int),.int (j9 ws i₁:Int),.int (gs.getD i₁ 0)])
  refine vA hD sm hY hle (by omega) st ?_
  rw [ef,List.filter_cons,if_pos (by unfold kH;rw [decide_eq_false (show ¬gs.getD i₁ 0=0 from hz)];rfl)]
  exact ((hR.same st).snoc jE (by omega) ht).put (st _ _ hY)
 ·intro ys Hf sm hY hle hR
  rw [List.length_map,bM,hA.1,List.take_of_length_le (by unfold qS;rw [List.length_map,bM];exact Nat.le_refl _)] at hR
  have s12:=s2.trans sm
  exact q D Hf gs ys (s1.trans s12) ((s1.trans s2).free hD) hY hR hS
theorem w6:FnScope ["weirs","waters"] ["weirs","waters"] (jD ZJ):=⟨rfl,rfl,rfl,by decide +kernel,rfl,by decide +kernel,by decide +kernel⟩
theorem uS {f:Addr} {fd:FuncData} (F:Fun K "settled" "settled" ZJ f fd) (T:Txt K mg cP cB cU cR cN tkS eW eL tkH) (D_poured_all:Def P w K mg base 1 "poured_all" ["waters","pours"] [] (Z8 K)) (D_spill_pours:Def P w K mg base 3 "spill_pours" ["weirs","waters"] [] (gK K)):FnOk P w K mg base jQ 4 f fd ["weirs","waters"] (mQ K):=by
 refine F.ok w6 (fun vs H Q E h=>?_) (fun cdv A outer s H vs Q E hr h=>?_)
 ·obtain ⟨wq,wa,rs,ws,ms,rfl,hRd,q⟩:=h
  rfl
 obtain ⟨wq,wa,rs,ws,ms,rfl,hRd,q⟩:=h
 have hu:_<cLine:=hr.units0
 have hu1:=jV hr
 refine ⟨_,(@jJ _ _ _ (@jO _ _ _ _ (jL D_poured_all hr rfl (jA (pv 1) (jA (jL D_spill_pours hr rfl (jA (pv 0) (jA (pv 1) jB))) jB))))),?_⟩
 obtain ⟨hW,hA,hM,hAh,hRn,hn⟩:=id hRd
 refine ⟨_,rfl,_,rfl,_,rfl,wq,wa,rs,ws,ms,rfl,hRd,fun p H1 gs ys s1 hp0 hp hP hS=>?_⟩
 refine ⟨wa,p,ms,ys,_,rfl,hM.same s1,SqL.of hp,hP.pa,hn,fun r H' s' hr0 hr=>?_⟩
 rw [lW (fU hRn (mH hA))] at hr
 exact q r H' gs (s1.trans s') (s1.free hr0) hr hS
theorem xB:FnScope ["weirs","waters","pours"] ["weirs","waters","pours"] (jD ZP):=⟨rfl,rfl,rfl,by decide +kernel,rfl,by decide +kernel,by decide +kernel⟩
theorem uZ {f:Addr} {fd:FuncData} (F:Fun K "with_spills" "with_spills" ZP f fd) (T:Txt K mg cP cB cU cR cN tkS eW eL tkH) (D_spill_pours:Def P w K mg base 3 "spill_pours" ["weirs","waters"] [] (gK K)) (D_poured_all:Def P w K mg base 1 "poured_all" ["waters","pours"] [] (Z8 K)):FnOk P w K mg base jQ 4 f fd ["weirs","waters","pours"] (gS K):=by
 refine F.ok xB (fun vs H Q E h=>?_) (fun cdv A outer s H vs Q E hr h=>?_)
 ·obtain ⟨wq,wa,p,rs,ps,ws,ms,qs,rfl,hRd,hp,hP,h500,q⟩:=h
  rfl
 obtain ⟨wq,wa,p,rs,ps,ws,ms,qs,rfl,hRd,hp,hP,h500,q⟩:=h
 have hu:_<cLine:=hr.units0
 have hu1:=jV hr
 refine ⟨_,(@jJ _ _ _ (@jO _ _ _ _ (@jG _ _ _ _ _ _ _ _ J3 (pv 2) (jL D_spill_pours hr rfl (jA (pv 0) (jA (jL D_poured_all hr rfl (jA (pv 1) (jA (pv 2) jB))) jB)))))),?_⟩
 obtain ⟨hW,hA,hM,hAh,hRn,hn⟩:=id hRd
 refine ⟨_,rfl,_,rfl,_,rfl,_,rfl,wa,p,ms,ps,qs,rfl,hM,SqL.of hp,hP.pa,hn,fun wt H1 s1 hwt0 hwt=>?_⟩
 have el:(jX ms qs).length=ms.length:=vB _ _
 refine ⟨wq,wt,rs,ws,jX ms qs,rfl,⟨s1.seq hW,by rw [el];exact hA.same s1,.inr (SqT.of hwt),hAh,by rw [el];exact hRn,by rw [el];exact hn⟩,fun sp H2 gs ys s2 hsp0 hsp hPs hS=>?_⟩
 rw [el] at hPs
 have hl:=xS ws (fun a=>gs.getD a 0)
 refine ⟨p,sp,_,_,rfl,rfl,s2 _ _ (s1 _ _ hp),hsp,Nat.le_trans (show ps.length+ys.length≤1500 by rw [hPs.1];omega) (by decide),fun al hal=>?_⟩
 have s3:=jK hal (.lst (ps++ys))
 have s12:=s1.trans s2
 exact q al _ gs _ (s12.trans s3) (s12.free hal) jE ((hP.same (s12.trans s3)).append (hPs.same s3)) hS
theorem wZ:FnScope ["parts"] ["parts"] (jD JQ):=⟨rfl,rfl,rfl,by decide +kernel,rfl,by decide +kernel,by decide +kernel⟩
theorem uL {f:Addr} {fd:FuncData} (F:Fun K "parts_not_nought" "parts_not_nought" JQ f fd) (T:Txt K mg cP cB cU cR cN tkS eW eL tkH) : FnOk P w K mg base jQ 1 f fd ["parts"] (Z7 K):=by
  refine F.ok wZ (fun vs H Q E h=>?_) (fun cdv A outer s H vs Q E hr h=>?_)
  · obtain ⟨p,rs,ps,rfl,hP,hA,hn,q⟩:=h
    rfl
  obtain ⟨p,rs,ps,rfl,hP,hA,hn,q⟩:=h
  have hu:_<cLine:=hr.units0
  have hu1:=jV hr
  refine ⟨_,(@jJ _ _ _ (@jO _ _ _ _ (vE ["part"] (kP 1 []) rfl (kZ (jD JQ) rfl rfl (by decide +kernel) (by decide +kernel) (by decide +kernel)) (qA 1 [] rfl rfl (by decide +kernel)) (qY (pv 0)) (fun _ _ _ _ _=>(j7 (i:=0) (show List.Nodup (["part"]:List Str) from by decide +kernel) rfl (by first|exact Or.inl rfl|exact Or.inr rfl))) (fun _ _ _ _ _=>(ZW (kB z0 (jH (yO K) (pv 0) jC (fun _ _=>rfl)) jC (j8 _)))) (fun _ _ _ _ _=>(pv 0))))),?_⟩
  refine ⟨_,rfl,p,rfl,⟨rs,hP⟩,fun l hl=>?_⟩
  refine JF (K:=K) (a:=p) (xs:=rs) (caps:=[]) (fun i ys Hi=>PartsAt Hi ys ((ps.take i).filter vI)) hl hP PartsAt.nil ?_ ?_
  · rintro i x ys Hi hx hi hle sm hY hR
    obtain ⟨t,sN,nN,rfl,hps,hT⟩:=hA.2 i x hx
    have et:(ps.take (i+1)).filter vI=(ps.take i).filter vI++[(sN,nN)].filter vI:=by
      rw [List.take_add_one,hps,List.filter_append]
      rfl
    refine ⟨_,rfl,jM (SqT.of (sm _ _ hT)) rfl (⟨rfl,_,rfl,?_⟩)⟩
    by_cases hz:nN=0
    · refine z3 (by rw [hz]) ?_
      refine d0 sm hY hle (Same.refl _) ?_
      have e2:[(sN,nN)].filter vI=[]:=by rw [hz];rfl
      rw [et,e2,List.append_nil]
      exact hR
    · refine J8 (fun e=>hz (V.int.inj e)) ?_
      refine ⟨_,rfl,vA hl sm hY hle (by omega) (Same.refl _) ?_⟩
      have e2:[(sN,nN)].filter vI=[(sN,nN)]:=by
        rw [List.filter_cons,if_pos (show vI (sN,nN)=true by unfold vI;rw [decide_eq_false hz];rfl)]
        rfl
      rw [et,e2]
      exact (hR.snoc (sm _ _ hT)).keep ((Keep.refl l Hi).upd _) hY
  · intro ys Hf sm hY hle hR
    rw [hA.1,List.take_length] at hR
    exact q l Hf ys sm hl hY hR
theorem wE:FnScope ["self","name","high","low","room"] ["self","name","high","low","room"] (jD QK):=⟨rfl,rfl,rfl,by decide +kernel,rfl,by decide +kernel,by decide +kernel⟩
theorem sZ {f:Addr} {fd:FuncData} (F:Fun K "__init__" "PlainLock.__init__" QK f fd) (T:Txt K mg cP cB cU cR cN tkS eW eL tkH) : FnOk P w K mg base jQ 1 f fd ["self","name","high","low","room"] (ZV (jF cP cB cU)):=by
 refine F.ok wE (fun vs H Q E h=>?_) (fun cdv A outer s H vs Q E hr h=>?_)
 ·obtain ⟨kd,x,dx,n,h₁,l,r,rfl,hx,q⟩:=h
  rfl
 obtain ⟨kd,x,dx,n,h₁,l,r,rfl,hx,q⟩:=h
 have hu:_<cLine:=hr.units0
 have hu1:=jV hr
 refine ⟨_,(@jI _ _ _ _ _ (vL (pv 0) (pv 1) rfl)
   (@jI _ _ _ _ _ (vL (pv 0) (pv 2) rfl)
   (@jI _ _ _ _ _ (vL (pv 0) (pv 3) rfl)
   (@jJ _ _ _ (vL (pv 0) (pv 4) rfl))))),?_⟩
 refine ⟨_,rfl,_,rfl,x,_,dx,_,rfl,hx,T.cl kd,T.n_name kd,(by show 0<1000;decide),?_⟩
 refine ⟨_,rfl,_,rfl,x,_,dx,_,rfl,jE,T.cl kd,T.n_high kd,(by show 1<1000;decide),?_⟩
 refine ⟨_,rfl,_,rfl,x,_,dx,_,rfl,jE,T.cl kd,T.n_low kd,?_,?_⟩
 ·have:=yM "high" h₁ (jS "name" n [])
  have h2:(jS ("name":Str) n []).length=1:=rfl
  omega
 refine ⟨_,rfl,_,rfl,x,_,dx,_,rfl,jE,T.cl kd,T.n_room kd,?_,?_⟩
 ·have:=yM "low" l (jS "high" h₁ (jS "name" n []))
  have h1:=yM "high" h₁ (jS "name" n [])
  have h2:(jS ("name":Str) n []).length=1:=rfl
  omega
 exact q _ (((((Keep.refl x H).upd _).upd _).upd _).upd _) jE
theorem u4:FnScope ["self","name","high","low","room","side"] ["self","name","high","low","room","side"] (jD QB):=⟨rfl,rfl,rfl,by decide +kernel,rfl,by decide +kernel,by decide +kernel⟩
theorem sK {f:Addr} {fd:FuncData} (F:Fun K "__init__" "BasinLock.__init__" QB f fd) (T:Txt K mg cP cB cU cR cN tkS eW eL tkH) (CM_PlainLock___init__:CmD P w K mg base 1 "PlainLock" cP "__init__" ["self","name","high","low","room"] (ZV (jF cP cB cU))):FnOk P w K mg base jQ 2 f fd ["self","name","high","low","room","side"] (ZU (jF cP cB cU) .basin):=by
 refine F.ok u4 (fun vs H Q E h=>?_) (fun cdv A outer s H vs Q E hr h=>?_)
 ·obtain ⟨x,dx,n,h₁,l,r,v,rfl,hx,q⟩:=h
  rfl
 obtain ⟨x,dx,n,h₁,l,r,v,rfl,hx,q⟩:=h
 have hu:_<cLine:=hr.units0
 have hu1:=jV hr
 refine ⟨_,(@jI _ _ _ _ _ (zP (pG CM_PlainLock___init__ hr rfl (@jA _ _ _ _ _ (pv 0) (@jA _ _ _ _ _ (pv 1) (@jA _ _ _ _ _ (pv 2) (@jA _ _ _ _ _ (pv 3) (@jA _ _ _ _ _ (pv 4) jB (by rfl)) (by rfl)) (by rfl)) (by rfl)) (by rfl))))
   (@jJ _ _ _ (vL (pv 0) (pv 5) rfl))),?_⟩
 refine ⟨_,rfl,_,rfl,_,rfl,_,rfl,_,rfl,.basin,x,dx,n,h₁,l,r,rfl,hx,fun H' kp hx'=>?_⟩
 refine ⟨_,rfl,_,rfl,x,_,dx,_,rfl,hx',T.cl .basin,T.n_side,lY _ _ _ _,?_⟩
 exact q _ (kp.upd _) jE
theorem wH:FnScope ["self","name","high","low","room","lift"] ["self","name","high","low","room","lift"] (jD QN):=⟨rfl,rfl,rfl,by decide +kernel,rfl,by decide +kernel,by decide +kernel⟩
theorem tF {f:Addr} {fd:FuncData} (F:Fun K "__init__" "PumpLock.__init__" QN f fd) (T:Txt K mg cP cB cU cR cN tkS eW eL tkH) (CM_PlainLock___init__:CmD P w K mg base 1 "PlainLock" cP "__init__" ["self","name","high","low","room"] (ZV (jF cP cB cU))):FnOk P w K mg base jQ 2 f fd ["self","name","high","low","room","lift"] (ZU (jF cP cB cU) .pump):=by
 refine F.ok wH (fun vs H Q E h=>?_) (fun cdv A outer s H vs Q E hr h=>?_)
 ·obtain ⟨x,dx,n,h₁,l,r,v,rfl,hx,q⟩:=h
  rfl
 obtain ⟨x,dx,n,h₁,l,r,v,rfl,hx,q⟩:=h
 have hu:_<cLine:=hr.units0
 have hu1:=jV hr
 refine ⟨_,(@jI _ _ _ _ _ (zP (pG CM_PlainLock___init__ hr rfl (@jA _ _ _ _ _ (pv 0) (@jA _ _ _ _ _ (pv 1) (@jA _ _ _ _ _ (pv 2) (@jA _ _ _ _ _ (pv 3) (@jA _ _ _ _ _ (pv 4) jB (by rfl)) (by rfl)) (by rfl)) (by rfl)) (by rfl))))
   (@jJ _ _ _ (vL (pv 0) (pv 5) rfl))),?_⟩
 refine ⟨_,rfl,_,rfl,_,rfl,_,rfl,_,rfl,.pump,x,dx,n,h₁,l,r,rfl,hx,fun H' kp hx'=>?_⟩
 refine ⟨_,rfl,_,rfl,x,_,dx,_,rfl,hx',T.cl .pump,T.n_lift,lY _ _ _ _,?_⟩
 exact q _ (kp.upd _) jE
theorem wJ:FnScope ["self","name","least","crest","berths","water","target"] ["self","name","least","crest","berths","water","target"] (jD QP):=⟨rfl,rfl,rfl,by decide +kernel,rfl,by decide +kernel,by decide +kernel⟩
theorem tH {f:Addr} {fd:FuncData} (F:Fun K "__init__" "Reach.__init__" QP f fd) (T:Txt K mg cP cB cU cR cN tkS eW eL tkH) : FnOk P w K mg base jQ 1 f fd ["self","name","least","crest","berths","water","target"] (fN cR):=by
 refine F.ok wJ (fun vs H Q E h=>?_) (fun cdv A outer s H vs Q E hr h=>?_)
 ·obtain ⟨x,dx,v_name,v_least,v_crest,v_berths,v_water,v_target,rfl,hx,q⟩:=h
  rfl
 obtain ⟨x,dx,v_name,v_least,v_crest,v_berths,v_water,v_target,rfl,hx,q⟩:=h
 have hu:_<cLine:=hr.units0
 have hu1:=jV hr
 refine ⟨_,(@jI _ _ _ _ _ (vL (pv 0) (pv 1) rfl)
   (@jI _ _ _ _ _ (vL (pv 0) (pv 2) rfl)
   (@jI _ _ _ _ _ (vL (pv 0) (pv 3) rfl)
   (@jI _ _ _ _ _ (vL (pv 0) (pv 4) rfl)
   (@jI _ _ _ _ _ (vL (pv 0) (pv 5) rfl)
   (@jJ _ _ _ (vL (pv 0) (pv 6) rfl))))))),?_⟩
 have ln:∀(f:Str) (z:V) (fs:List (Str×V)) (m:Nat),fs.length≤m→(jS f z fs).length≤m+1:=fun f z fs m h=>Nat.le_trans (yM f z fs) (by omega)
 have l0:([]:List (Str×V)).length≤0:=Nat.le_refl _
 refine ⟨_,rfl,_,rfl,x,cR,dx,_,rfl,hx,T.clR,T.nR_name,by omega,?_⟩
 have l1:=ln "name" v_name _ _ l0
 refine ⟨_,rfl,_,rfl,x,cR,dx,_,rfl,jE,T.clR,T.nR_least,by omega,?_⟩
 have l2:=ln "least" v_least _ _ l1
 refine ⟨_,rfl,_,rfl,x,cR,dx,_,rfl,jE,T.clR,T.nR_crest,by omega,?_⟩
 have l3:=ln "crest" v_crest _ _ l2
 refine ⟨_,rfl,_,rfl,x,cR,dx,_,rfl,jE,T.clR,T.nR_berths,by omega,?_⟩
 have l4:=ln "berths" v_berths _ _ l3
 refine ⟨_,rfl,_,rfl,x,cR,dx,_,rfl,jE,T.clR,T.nR_water,by omega,?_⟩
 have l5:=ln "water" v_water _ _ l4
 refine ⟨_,rfl,_,rfl,x,cR,dx,_,rfl,jE,T.clR,T.nR_target,by omega,?_⟩
 have l6:=ln "target" v_target _ _ l5
 exact q _ _ (((((((Keep.refl x H).upd _).upd _).upd _).upd _).upd _).upd _) jE (AS _ _ _ _ _ _)
theorem wF:FnScope ["self","basin"] ["self","basin"] (jD QL):=⟨rfl,rfl,rfl,by decide +kernel,rfl,by decide +kernel,by decide +kernel⟩
theorem tD {f:Addr} {fd:FuncData} (F:Fun K "fill_parts" "PlainLock.fill_parts" QL f fd) (T:Txt K mg cP cB cU cR cN tkS eW eL tkH) (D_parts_not_nought:Def P w K mg base 1 "parts_not_nought" ["parts"] [] (Z7 K)):FnOk P w K mg base jQ 2 f fd ["self","basin"] (vD (jF cP cB cU) yI .plain):=by
 refine F.ok wF (fun vs H Q E h=>?_) (fun cdv A outer s H vs Q E hr h=>?_)
 ·obtain ⟨x,n,h₁,l,room,v,b,rfl,⟨dx,hx⟩,q⟩:=h
  rfl
 obtain ⟨x,n,h₁,l,room,v,b,rfl,⟨dx,hx⟩,q⟩:=h
 have hu:_<cLine:=hr.units0
 have hu1:=jV hr
 refine ⟨_,(@jJ _ _ _ (@jO _ _ _ _ (jL D_parts_not_nought hr rfl (jA (qE (jA (kG (jA j3 (jA (jZ (pv 0) rfl) jB))) jB)) jB)))),?_⟩
 refine ⟨_,rfl,j0 hx (T.cl .plain) (T.n_room .plain) (cI .plain _ _ _ _ _) (⟨zz2,fun tp htp=>⟨zz1,fun lp hlp=>?_⟩⟩)⟩
 have s1:=jK htp (.tup [.str "high",.int room])
 have s2:=jK hlp (.lst [V.ref tp])
 refine ⟨lp,[.ref tp],[("high",room)],rfl,SqL.of jE,PartsAt.nil.snoc (s2 _ _ jE),(by show 1≤10;decide),fun rr H' rs' sm hrr0 hrr hP=>?_⟩
 exact q rr H' rs' ((s1.trans s2).trans sm) ((s1.trans s2).free hrr0) hrr hP
theorem u5:FnScope ["self","basin"] ["self","basin"] (jD QC):=⟨rfl,rfl,rfl,by decide +kernel,rfl,by decide +kernel,by decide +kernel⟩
theorem sL {f:Addr} {fd:FuncData} (F:Fun K "fill_parts" "BasinLock.fill_parts" QC f fd) (T:Txt K mg cP cB cU cR cN tkS eW eL tkH) (D_parts_not_nought:Def P w K mg base 1 "parts_not_nought" ["parts"] [] (Z7 K)):FnOk P w K mg base jQ 2 f fd ["self","basin"] (vD (jF cP cB cU) yI .basin):=by
 refine F.ok u5 (fun vs H Q E h=>?_) (fun cdv A outer s H vs Q E hr h=>?_)
 ·obtain ⟨x,n,h₁,l,room,v,b,rfl,⟨dx,hx0⟩,q⟩:=h
  rfl
 obtain ⟨x,n,h₁,l,room,v,b,rfl,⟨dx,hx0⟩,q⟩:=h
 have hu:_<cLine:=hr.units0
 have hu1:=jV hr
 refine ⟨_,(@jJ _ _ _ (@jO _ _ _ _ (jL D_parts_not_nought hr rfl (jA (qE (jA (kG (jA j3 (jA (pv 1) jB))) (jA (kG (jA j3 (jA (@jG _ _ _ _ _ _ _ _ vQ (jZ (pv 0) rfl) (pv 1)) jB))) jB))) jB)))),?_⟩
 refine ⟨_,rfl,zz2,fun tp htp=>?_⟩
 have s1:=jK htp (.tup [.str "basin",.int b])
 have hx:=s1 _ _ hx0
 refine ⟨_,rfl,j0 hx (T.cl .basin) (T.n_room .basin) (cI .basin _ _ _ _ _) (⟨_,rfl,jU (⟨zz2,fun tq htq=>⟨zz2,fun lp hlp=>?_⟩⟩)⟩)⟩
 have s2:=jK htq (.tup [.str "high",.int (room - b)])
 have s3:=jK hlp (.lst [V.ref tp,V.ref tq])
 refine ⟨lp,[.ref tp,.ref tq],[("basin",b),("high",room - b)],rfl,SqL.of jE,(PartsAt.nil.snoc (s3 _ _ (s2 _ _ jE))).snoc (s3 _ _ jE),(by show 2≤10;decide),fun rr H' rs' sm hrr0 hrr hP=>?_⟩
 exact q rr H' rs' (((s1.trans s2).trans s3).trans sm) (((s1.trans s2).trans s3).free hrr0) hrr hP
theorem wI:FnScope ["self","basin"] ["self","basin"] (jD QO):=⟨rfl,rfl,rfl,by decide +kernel,rfl,by decide +kernel,by decide +kernel⟩
theorem tG {f:Addr} {fd:FuncData} (F:Fun K "fill_parts" "PumpLock.fill_parts" QO f fd) (T:Txt K mg cP cB cU cR cN tkS eW eL tkH) (D_parts_not_nought:Def P w K mg base 1 "parts_not_nought" ["parts"] [] (Z7 K)):FnOk P w K mg base jQ 2 f fd ["self","basin"] (vD (jF cP cB cU) yI .pump):=by
 refine F.ok wI (fun vs H Q E h=>?_) (fun cdv A outer s H vs Q E hr h=>?_)
 ·obtain ⟨x,n,h₁,l,room,v,b,rfl,⟨dx,hx0⟩,q⟩:=h
  rfl
 obtain ⟨x,n,h₁,l,room,v,b,rfl,⟨dx,hx0⟩,q⟩:=h
 have hu:_<cLine:=hr.units0
 have hu1:=jV hr
 refine ⟨_,(@jJ _ _ _ (@jO _ _ _ _ (jL D_parts_not_nought hr rfl (jA (qE (jA (kG (jA j3 (jA (jZ (pv 0) rfl) jB))) (jA (kG (jA j3 (jA (@jG _ _ _ _ _ _ _ _ vQ (jZ (pv 0) rfl) (jZ (pv 0) rfl)) jB))) jB))) jB)))),?_⟩
 refine ⟨_,rfl,j0 hx0 (T.cl .pump) (T.n_lift) (gR _ _ _ _ _ _) (⟨zz2,fun tp htp=>?_⟩)⟩
 have s1:=jK htp (.tup [.str "low",.int v])
 have hx:=s1 _ _ hx0
 refine ⟨_,rfl,j0 hx (T.cl .pump) (T.n_room .pump) (cI .pump _ _ _ _ _) (⟨_,rfl,j0 hx (T.cl .pump) (T.n_lift) (gR _ _ _ _ _ _) (jU (⟨zz2,fun tq htq=>⟨zz2,fun lp hlp=>?_⟩⟩))⟩)⟩
 have s2:=jK htq (.tup [.str "high",.int (room - v)])
 have s3:=jK hlp (.lst [V.ref tp,V.ref tq])
 refine ⟨lp,[.ref tp,.ref tq],[("low",v),("high",room - v)],rfl,SqL.of jE,(PartsAt.nil.snoc (s3 _ _ (s2 _ _ jE))).snoc (s3 _ _ jE),(by show 2≤10;decide),fun rr H' rs' sm hrr0 hrr hP=>?_⟩
 exact q rr H' rs' (((s1.trans s2).trans s3).trans sm) (((s1.trans s2).trans s3).free hrr0) hrr hP
theorem wG:FnScope ["self","basin"] ["self","basin"] (jD QM):=⟨rfl,rfl,rfl,by decide +kernel,rfl,by decide +kernel,by decide +kernel⟩
theorem tE {f:Addr} {fd:FuncData} (F:Fun K "let_parts" "PlainLock.let_parts" QM f fd) (T:Txt K mg cP cB cU cR cN tkS eW eL tkH) (D_parts_not_nought:Def P w K mg base 1 "parts_not_nought" ["parts"] [] (Z7 K)):FnOk P w K mg base jQ 2 f fd ["self","basin"] (CU (jF cP cB cU)):=by
 refine F.ok wG (fun vs H Q E h=>?_) (fun cdv A outer s H vs Q E hr h=>?_)
 ·obtain ⟨kd,x,n,h₁,l,room,v,b,rfl,⟨dx,hx⟩,q⟩:=h
  rfl
 obtain ⟨kd,x,n,h₁,l,room,v,b,rfl,⟨dx,hx⟩,q⟩:=h
 have hu:_<cLine:=hr.units0
 have hu1:=jV hr
 refine ⟨_,(@jJ _ _ _ (@jO _ _ _ _ (jL D_parts_not_nought hr rfl (jA (qE (jA (kG (jA j3 (jA (jZ (pv 0) rfl) jB))) jB)) jB)))),?_⟩
 refine ⟨_,rfl,j0 hx (T.cl kd) (T.n_room kd) (cI kd _ _ _ _ _) (⟨zz2,fun tp htp=>⟨zz1,fun lp hlp=>?_⟩⟩)⟩
 have s1:=jK htp (.tup [.str "low",.int room])
 have s2:=jK hlp (.lst [V.ref tp])
 refine ⟨lp,[.ref tp],[("low",room)],rfl,SqL.of jE,PartsAt.nil.snoc (s2 _ _ jE),(by show 1≤10;decide),fun rr H' rs' sm hrr0 hrr hP=>?_⟩
 exact q rr H' rs' ((s1.trans s2).trans sm) ((s1.trans s2).free hrr0) hrr hP
theorem lA:FnScope ["self","basin","saved"] ["self","basin"] (jD QD):=⟨rfl,rfl,rfl,by decide +kernel,rfl,by decide +kernel,by decide +kernel⟩
theorem sM {f:Addr} {fd:FuncData} (F:Fun K "let_parts" "BasinLock.let_parts" QD f fd) (T:Txt K mg cP cB cU cR cN tkS eW eL tkH) (D_parts_not_nought:Def P w K mg base 1 "parts_not_nought" ["parts"] [] (Z7 K)):FnOk P w K mg base jQ 2 f fd ["self","basin"] (vD (jF cP cB cU) yK .basin):=by
 refine F.ok lA (fun vs H Q E h=>?_) (fun cdv A outer s H vs Q E hr h=>?_)
 ·obtain ⟨x,n,h₁,l,room,v,b,rfl,⟨dx,hx0⟩,q⟩:=h
  rfl
 obtain ⟨x,n,h₁,l,room,v,b,rfl,⟨dx,hx0⟩,q⟩:=h
 have hu:_<cLine:=hr.units0
 have hu1:=jV hr
 refine ⟨_,(@jI _ _ _ _ _ (jT (i:=2) lA.nd rfl (by first|exact Or.inl rfl|exact Or.inr rfl) (@jG _ _ _ _ _ _ _ _ vQ (jZ (pv 0) rfl) (pv 1)))
   (@jJ _ _ _ (@jO _ _ _ _ (jL D_parts_not_nought hr rfl (jA (qE (jA (kG (jA j3 (jA (pv 2) jB))) (jA (kG (jA j3 (jA (@jG _ _ _ _ _ _ _ _ vQ (jZ (pv 0) rfl) (pv 2)) jB))) jB))) jB))))),?_⟩
 have hx:=hx0
 refine ⟨_,rfl,j0 hx (T.cl .basin) (T.n_side) (gR _ _ _ _ _ _) (⟨_,rfl,jU (?_)⟩)⟩
 refine ⟨_,rfl,zz2,fun tp htp=>?_⟩
 have s1:=jK htp (.tup [.str "basin",.int (v - b)])
 have hx:=s1 _ _ hx0
 refine ⟨_,rfl,j0 hx (T.cl .basin) (T.n_room .basin) (cI .basin _ _ _ _ _) (⟨_,rfl,jU (⟨zz2,fun tq htq=>⟨zz2,fun lp hlp=>?_⟩⟩)⟩)⟩
 have s2:=jK htq (.tup [.str "low",.int (room - (v - b))])
 have s3:=jK hlp (.lst [V.ref tp,V.ref tq])
 refine ⟨lp,[.ref tp,.ref tq],[("basin",v - b),("low",room - (v - b))],rfl,SqL.of jE,(PartsAt.nil.snoc (s3 _ _ (s2 _ _ jE))).snoc (s3 _ _ jE),(by show 2≤10;decide),fun rr H' rs' sm hrr0 hrr hP=>?_⟩
 exact q rr H' rs' (((s1.trans s2).trans s3).trans sm) (((s1.trans s2).trans s3).free hrr0) hrr hP
theorem u6:FnScope ["self","reaches","locks","nights"] ["self","reaches","locks","nights"] (jD JG):=⟨rfl,rfl,rfl,by decide +kernel,rfl,by decide +kernel,by decide +kernel⟩
theorem sO {f:Addr} {fd:FuncData} {ds:List Value} (F:FunD K "__init__" "Canal.__init__" JG f fd ds) (T:Txt K mg cP cB cU cR cN tkS eW eL tkH) : FnOk P w K mg base jQ 1 f fd ["self","reaches","locks","nights"] (fO (jF cP cB cU) cR cN):=by
 refine F.ok u6 (fun vs H Q E h=>?_) (fun cdv A outer s H vs Q E hr h=>?_)
 ·obtain ⟨x,dx,rl,ll,nv,rs,ls,R,L,N,rfl,hx,hrl,hll,hR,hL,hN,q⟩:=h
  rfl
 obtain ⟨x,dx,rl,ll,nv,rs,ls,R,L,N,rfl,hx,hrl,hll,hR,hL,hN,q⟩:=h
 have hu:_<cLine:=hr.units0
 have hu1:=jV hr
 refine ⟨_,(@jI _ _ _ _ _ (vL (pv 0) (v6 bN (by rfl) T.z_list PyProof.Rows.boot_list (jA (pv 1) jB)) rfl)
   (@jI _ _ _ _ _ (vL (pv 0) (v6 bN (by rfl) T.z_list PyProof.Rows.boot_list (jA (pv 2) jB)) rfl)
   (@jJ _ _ _ (vL (pv 0) (zD (kB EH (pv 3) EF (j8 _)) (qE jB) (vE ["night"] (kP 1 []) rfl (kZ (jD JG) rfl rfl (by decide +kernel) (by decide +kernel) (by decide +kernel)) (qA 1 [] rfl rfl (by decide +kernel)) (qY (pv 3)) (fun _ _ _ _ _=>(j7 (i:=0) (show List.Nodup (["night"]:List Str) from by decide +kernel) rfl (by first|exact Or.inl rfl|exact Or.inr rfl))) (fun _ _ _ _ _=>qR) (fun _ _ _ _ _=>(v6 (xH K) (by rfl) T.z_list PyProof.Rows.boot_list (jA (pv 0) jB))))) rfl)))),?_⟩
 have ln:∀(f:Str) (z:V) (fs:List (Str×V)) (m:Nat),fs.length≤m→(jS f z fs).length≤m+1:=fun f z fs m h=>Nat.le_trans (yM f z fs) (by omega)
 have nrx:rl≠x:=yT hrl hx (fun z=>nomatch z)
 have nlx:ll≠x:=yT hll hx (fun z=>nomatch z)
 refine ⟨_,rfl,rl,_,rfl,.inl (SqL.of hrl),fun r2 hr20=>?_⟩
 have s1:=jK hr20 (.lst rs)
 have nr2:r2≠x:=(qJ hx hr20).symm
 refine ⟨_,rfl,x,cN,dx,_,rfl,s1 _ _ hx,T.clN,T.nN_reaches,(by show 0<1000;decide),?_⟩
 have k1:Keep x H (upd (upd H r2 (.lst rs)) x (.ins cN dx (jS "reaches" (.ref r2) []))):=(Keep.of s1).upd _
 have hr2:upd (upd H r2 (.lst rs)) x (.ins cN dx (jS "reaches" (.ref r2) [])) r2=some (.lst rs):=by rw [j6 nr2];exact jE
 have hx1:upd (upd H r2 (.lst rs)) x (.ins cN dx (jS "reaches" (.ref r2) [])) x=some (.ins cN dx (jS "reaches" (.ref r2) [])):=jE
 generalize upd (upd H r2 (.lst rs)) x (.ins cN dx (jS "reaches" (.ref r2) []))=H1 at k1 hr2 hx1 ⊢
 have l1:=ln "reaches" (.ref r2) [] 0 (Nat.le_refl _)
 refine ⟨_,rfl,ll,_,rfl,.inl (SqL.of (k1 _ _ nlx hll)),fun l2 hl20=>?_⟩
 have s2:=jK hl20 (.lst ls)
 have nl2:l2≠x:=(qJ hx1 hl20).symm
 refine ⟨_,rfl,x,cN,dx,_,rfl,s2 _ _ hx1,T.clN,T.nN_locks,by omega,?_⟩
 have l2':=ln "locks" (.ref l2) _ _ l1
 have k2:Keep x H (upd (upd H1 l2 (.lst ls)) x (.ins cN dx (jS "locks" (.ref l2) (jS "reaches" (.ref r2) [])))):=(k1.trans (Keep.of s2)).upd _
 have hr2b:upd (upd H1 l2 (.lst ls)) x (.ins cN dx (jS "locks" (.ref l2) (jS "reaches" (.ref r2) []))) r2=some (.lst rs):=by rw [j6 nr2];exact s2 _ _ hr2
 have hl2:upd (upd H1 l2 (.lst ls)) x (.ins cN dx (jS "locks" (.ref l2) (jS "reaches" (.ref r2) []))) l2=some (.lst ls):=by rw [j6 nl2];exact jE
 have hx2:upd (upd H1 l2 (.lst ls)) x (.ins cN dx (jS "locks" (.ref l2) (jS "reaches" (.ref r2) []))) x=some (.ins cN dx (jS "locks" (.ref l2) (jS "reaches" (.ref r2) []))):=jE
 generalize upd (upd H1 l2 (.lst ls)) x (.ins cN dx (jS "locks" (.ref l2) (jS "reaches" (.ref r2) [])))=H2 at k2 hr2b hl2 hx2 ⊢
 have frR:∀D:List Addr,(∀d∈D,H d≠none)→r2∉D:=fun D hD z=>hD _ z hr20
 have frL:∀D:List Addr,(∀d∈D,H d≠none)→l2∉D:=fun D hD z=>by
  by_cases e:l2=x
  ·exact nl2 e
  ·cases hh:H l2 with
   |none=>exact hD _ z hh
   |some o=>rw [k1 _ _ e hh] at hl20;cases hl20
 have done:∀(n2:Addr) (ns:List V) (H3:Hp),Keep x H2 H3→H2 n2=none→H3 x=some (.ins cN dx (jS "locks" (.ref l2) (jS "reaches" (.ref r2) [])))→H3 n2=some (.lst ns)→(∀D:List Addr,(∀d∈D,H2 d≠none)→AllAt (NAt D H3) ns N)→Q .non (upd H3 x (.ins cN dx (jS "nights" (.ref n2) (jS "locks" (.ref l2) (jS "reaches" (.ref r2) []))))):=by
  intro n2 ns H3 k3 hn20 hx3 hn2 hNs
  have kf:Keep x H (upd H3 x (.ins cN dx (jS "nights" (.ref n2) (jS "locks" (.ref l2) (jS "reaches" (.ref r2) []))))):=(k2.trans k3).upd _
  have kl:Keep x H3 (upd H3 x (.ins cN dx (jS "nights" (.ref n2) (jS "locks" (.ref l2) (jS "reaches" (.ref r2) []))))):=(Keep.refl x H3).upd _
  have nn2:n2≠x:=fun z=>by rw [z,hx2] at hn20;cases hn20
  have old:∀d,H d≠none→H2 d≠none:=fun d hd=>by
   by_cases e:d=x
   ·rw [e,hx2];exact fun z=>nomatch z
   ·cases hh:H d with
    |none=>exact absurd hh hd
    |some o=>rw [k2 _ _ e hh];exact fun z=>nomatch z
  refine q _ kf fun D hD=>⟨dx,r2,l2,n2,_,rs,ls,ns,jE,AT _ _ _,?_,?_,?_,hR.mono (RcO.keepI kf hx),hL.mono (LkO.keepI kf hx),?_,frR D hD,frL D hD,fun z=>old _ (hD _ z) hn20⟩
  ·rw [j6 nr2];exact k3 _ _ nr2 hr2b
  ·rw [j6 nl2];exact k3 _ _ nl2 hl2
  ·rw [j6 nn2];exact hn2
  ·refine (hNs D (fun d hd=>old d (hD d hd))).mono ?_
   rintro v p ⟨l,qs,e1,e2,e3,e4⟩
   exact ⟨l,qs,e1,kl _ _ (fun z=>by rw [z,hx3] at e2;cases e2) e2,e3.mono (QAt.keep kl hx3 (fun _ z=>nomatch z)),e4⟩
 refine ⟨_,rfl,rfl,_,rfl,?_⟩
 rcases hN with ⟨rfl,rfl⟩|⟨nl,ns,rfl,hnl,hN,hnl100⟩
 ·refine qD rfl ⟨zz0,fun n2 hn20=>?_⟩
  have s3:=jK hn20 (.lst [])
  refine ⟨_,rfl,x,cN,dx,_,rfl,s3 _ _ hx2,T.clN,T.nN_nights,by omega,?_⟩
  exact done n2 [] _ (Keep.of s3) hn20 (s3 _ _ hx2) jE (fun D _=>AllAt.nil)
 ·have nnx:nl≠x:=yT hnl hx (fun z=>nomatch z)
  have hnl2:=k2 _ _ nnx hnl
  have hN2:AllAt (NAt [] H2) ns N:=hN.mono fun v p=>by
   rintro ⟨l,qs,e1,e2,e3,e4⟩
   exact ⟨l,qs,e1,k2 _ _ (yT e2 hx (fun z=>nomatch z)) e2,e3.mono (QAt.keep k2 hx (fun _ z=>nomatch z)),e4⟩
  refine kM (fun z=>nomatch z) ⟨_,rfl,nl,rfl,⟨_,SqL.of hnl2⟩,fun n2 hn20=>?_⟩
  refine JF (K:=K) (a:=nl) (xs:=ns) (caps:=[]) (fun i ys Hi=>(∀D:List Addr,n2∈D→(∀d∈D,d≠n2→H2 d≠none)→AllAt (NAt D Hi) ys (N.take i))) hn20 (SqL.of hnl2) (fun D _ _=>AllAt.nil) ?_ ?_
  ·rintro i v ys Hi hv hi hle sm hY hI
   obtain ⟨p,hp,l,qs,rfl,hl,hq,_⟩:=hN2.2 i v hv
   refine qT (kI ?_)
   refine ⟨_,rfl,l,qs,rfl,.inl (SqL.of (sm _ _ hl)),fun c hc0=>?_⟩
   have u:=jK hc0 (.lst qs)
   refine vA hn20 sm hY hle (by omega) u ?_
   intro D hnD hD
   rw [List.take_add_one,hp]
   refine (((hI D hnD hD).mono (NAt.same u)).snoc (v:=.ref c) (x:=p) ⟨c,qs,rfl,jE,(hq.mono (QAt.same sm)).mono (QAt.same u),fun z=>?_⟩).mono (NAt.put (u _ _ hY) hnD)
   by_cases e:c=n2
   ·rw [e,hY] at hc0;cases hc0
   ·cases hh:H2 c with
    |none=>exact hD _ z e hh
    |some o=>rw [sm _ _ hh] at hc0;cases hc0
  rintro ys H3 s3 hY hle hI
  rw [hN2.1,List.take_length] at hI
  refine ⟨_,rfl,x,cN,dx,_,rfl,s3 _ _ hx2,T.clN,T.nN_nights,by omega,?_⟩
  exact done n2 ys H3 (Keep.of s3) hn20 (s3 _ _ hx2) hY (fun D hD=>(hI (n2::D) List.mem_cons_self (fun d hd ne=>(List.mem_cons.mp hd).elim (fun z=>absurd z ne) (hD d))).mono (NAt.less (fun d hd=>List.mem_cons_of_mem _ hd)))
theorem wB:FnScope ["self"] ["self"] (jD QI):=⟨rfl,rfl,rfl,by decide +kernel,rfl,by decide +kernel,by decide +kernel⟩
theorem sV {f:Addr} {fd:FuncData} (F:Fun K "sea" "Canal.sea" QI f fd) (T:Txt K mg cP cB cU cR cN tkS eW eL tkH) : FnOk P w K mg base jQ 1 f fd ["self"] (yB (jF cP cB cU) cR cN qB):=by
 refine F.ok wB (fun vs H Q E h=>?_) (fun cdv A outer s H vs Q E hr h=>?_)
 ·obtain ⟨x,D,R,L,N,rfl,⟨dx,rl,ll,nl,fs,rs,ls,ns,hx,hf,hrl,hll,hnl,hR,hL,hN,d1,d2,d3⟩,q⟩:=h
  rfl
 obtain ⟨x,D,R,L,N,rfl,⟨dx,rl,ll,nl,fs,rs,ls,ns,hx,hf,hrl,hll,hnl,hR,hL,hN,d1,d2,d3⟩,q⟩:=h
 have hu:_<cLine:=hr.units0
 have hu1:=jV hr
 refine ⟨_,(@jJ _ _ _ (@jO _ _ _ _ (@jG _ _ _ _ _ _ _ _ jY (kD kJ (by rfl) T.z_len PySem.boot_len (jA (jZ (pv 0) rfl) jB)) (@jG _ _ _ _ _ _ _ _ kC jC (kD kJ (by rfl) T.z_len PySem.boot_len (jA (jZ (pv 0) rfl) jB)))))),?_⟩
 refine ⟨_,rfl,j0 hx (T.clN) (T.nN_reaches) (hf.1) (⟨_,_,rfl,.inl (SqL.of hrl),_,rfl,j0 hx (T.clN) (T.nN_locks) (hf.2.1) (⟨_,_,rfl,.inl (SqL.of hll),_,_,rfl,rfl,.inl ⟨by decide,by decide⟩,_,_,rfl,rfl,?_⟩)⟩)⟩
 rw [hR.1,hL.1]
 exact q
theorem wC:FnScope ["self"] ["self"] (jD QJ):=⟨rfl,rfl,rfl,by decide +kernel,rfl,by decide +kernel,by decide +kernel⟩
theorem sW {f:Addr} {fd:FuncData} (F:Fun K "sky" "Canal.sky" QJ f fd) (T:Txt K mg cP cB cU cR cN tkS eW eL tkH) (MM_Canal_sea:MeD P w K mg base 1 cN "sea" ["self"] (yB (jF cP cB cU) cR cN qB)):FnOk P w K mg base jQ 2 f fd ["self"] (yB (jF cP cB cU) cR cN bD):=by
 refine F.ok wC (fun vs H Q E h=>?_) (fun cdv A outer s H vs Q E hr h=>?_)
 ·obtain ⟨x,D,R,L,N,rfl,hc,q⟩:=h
  rfl
 obtain ⟨x,D,R,L,N,rfl,hc,q⟩:=h
 have hu:_<cLine:=hr.units0
 have hu1:=jV hr
 refine ⟨_,(@jJ _ _ _ (@jO _ _ _ _ (@jG _ _ _ _ _ _ _ _ jY (yH MM_Canal_sea hr (pv 0)) jC))),?_⟩
 have hc0:=hc
 obtain ⟨dx,rl,ll,nl,fs,rs,ls,ns,hx,hf,hrl,hll,hnl,hR,hL,hN,d1,d2,d3⟩:=hc
 exact ⟨_,rfl,x,dx,_,rfl,hx,hf.no (by decide +kernel) (by decide +kernel) (by decide +kernel),x,D,R,L,N,rfl,hc0,_,_,rfl,rfl,q⟩
theorem wA:FnScope ["self"] ["self"] (jD QH):=⟨rfl,rfl,rfl,by decide +kernel,rfl,by decide +kernel,by decide +kernel⟩
theorem sU {f:Addr} {fd:FuncData} (F:Fun K "many" "Canal.many" QH f fd) (T:Txt K mg cP cB cU cR cN tkS eW eL tkH) (MM_Canal_sky:MeD P w K mg base 2 cN "sky" ["self"] (yB (jF cP cB cU) cR cN bD)):FnOk P w K mg base jQ 3 f fd ["self"] (yB (jF cP cB cU) cR cN cS):=by
 refine F.ok wA (fun vs H Q E h=>?_) (fun cdv A outer s H vs Q E hr h=>?_)
 ·obtain ⟨x,D,R,L,N,rfl,hc,q⟩:=h
  rfl
 obtain ⟨x,D,R,L,N,rfl,hc,q⟩:=h
 have hu:_<cLine:=hr.units0
 have hu1:=jV hr
 refine ⟨_,(@jJ _ _ _ (@jO _ _ _ _ (@jG _ _ _ _ _ _ _ _ jY (yH MM_Canal_sky hr (pv 0)) jC))),?_⟩
 have hc0:=hc
 obtain ⟨dx,rl,ll,nl,fs,rs,ls,ns,hx,hf,hrl,hll,hnl,hR,hL,hN,d1,d2,d3⟩:=hc
 exact ⟨_,rfl,x,dx,_,rfl,hx,hf.no (by decide +kernel) (by decide +kernel) (by decide +kernel),x,D,R,L,N,rfl,hc0,_,_,rfl,rfl,q⟩
theorem u8:FnScope ["self","k"] ["self","k"] (jD QF):=⟨rfl,rfl,rfl,by decide +kernel,rfl,by decide +kernel,by decide +kernel⟩
theorem sQ {f:Addr} {fd:FuncData} (F:Fun K "chamber" "Canal.chamber" QF f fd) (T:Txt K mg cP cB cU cR cN tkS eW eL tkH) : FnOk P w K mg base jQ 1 f fd ["self","k"] (zL (jF cP cB cU) cR cN vY):=by
 refine F.ok u8 (fun vs H Q E h=>?_) (fun cdv A outer s H vs Q E hr h=>?_)
 ·obtain ⟨x,D,R,L,N,k,rfl,⟨dx,rl,ll,nl,fs,rs,ls,ns,hx,hf,hrl,hll,hnl,hR,hL,hN,d1,d2,d3⟩,q⟩:=h
  rfl
 obtain ⟨x,D,R,L,N,k,rfl,⟨dx,rl,ll,nl,fs,rs,ls,ns,hx,hf,hrl,hll,hnl,hR,hL,hN,d1,d2,d3⟩,q⟩:=h
 have hu:_<cLine:=hr.units0
 have hu1:=jV hr
 refine ⟨_,(@jJ _ _ _ (@jO _ _ _ _ (@jG _ _ _ _ _ _ _ _ jY (kD kJ (by rfl) T.z_len PySem.boot_len (jA (jZ (pv 0) rfl) jB)) (pv 1)))),?_⟩
 refine ⟨_,rfl,j0 hx (T.clN) (T.nN_reaches) (hf.1) (⟨_,_,rfl,.inl (SqL.of hrl),_,rfl,jU (?_)⟩)⟩
 rw [hR.1]
 exact q
theorem u7:FnScope ["self","k"] ["self","k"] (jD QE):=⟨rfl,rfl,rfl,by decide +kernel,rfl,by decide +kernel,by decide +kernel⟩
theorem sP {f:Addr} {fd:FuncData} (F:Fun K "basin" "Canal.basin" QE f fd) (T:Txt K mg cP cB cU cR cN tkS eW eL tkH) : FnOk P w K mg base jQ 1 f fd ["self","k"] (zL (jF cP cB cU) cR cN q9):=by
 refine F.ok u7 (fun vs H Q E h=>?_) (fun cdv A outer s H vs Q E hr h=>?_)
 ·obtain ⟨x,D,R,L,N,k,rfl,⟨dx,rl,ll,nl,fs,rs,ls,ns,hx,hf,hrl,hll,hnl,hR,hL,hN,d1,d2,d3⟩,q⟩:=h
  rfl
 obtain ⟨x,D,R,L,N,k,rfl,⟨dx,rl,ll,nl,fs,rs,ls,ns,hx,hf,hrl,hll,hnl,hR,hL,hN,d1,d2,d3⟩,q⟩:=h
 have hu:_<cLine:=hr.units0
 have hu1:=jV hr
 refine ⟨_,(@jJ _ _ _ (@jO _ _ _ _ (@jG _ _ _ _ _ _ _ _ jY (@jG _ _ _ _ _ _ _ _ jY (kD kJ (by rfl) T.z_len PySem.boot_len (jA (jZ (pv 0) rfl) jB)) (kD kJ (by rfl) T.z_len PySem.boot_len (jA (jZ (pv 0) rfl) jB))) (pv 1)))),?_⟩
 refine ⟨_,rfl,j0 hx (T.clN) (T.nN_reaches) (hf.1) (⟨_,_,rfl,.inl (SqL.of hrl),_,rfl,j0 hx (T.clN) (T.nN_locks) (hf.2.1) (⟨_,_,rfl,.inl (SqL.of hll),_,_,rfl,rfl,_,rfl,jU (?_)⟩)⟩)⟩
 rw [hR.1,hL.1]
 exact q
theorem wD:FnScope ["self"] ["self"] (jD JI):=⟨rfl,rfl,rfl,by decide +kernel,rfl,by decide +kernel,by decide +kernel⟩
theorem sY {f:Addr} {fd:FuncData} (F:Fun K "weirs" "Canal.weirs" JI f fd) (T:Txt K mg cP cB cU cR cN tkS eW eL tkH) (MM_Canal_sea:MeD P w K mg base 1 cN "sea" ["self"] (yB (jF cP cB cU) cR cN qB)):FnOk P w K mg base jQ 2 f fd ["self"] (bW (jF cP cB cU) cR cN):=by
 refine F.ok wD (fun vs H Q E h=>?_) (fun cdv A outer s H vs Q E hr h=>?_)
 ·obtain ⟨x,D,R,L,N,rfl,hc,hR100,q⟩:=h
  rfl
 obtain ⟨x,D,R,L,N,rfl,hc,hR100,q⟩:=h
 have hu:_<cLine:=hr.units0
 have hu1:=jV hr
 refine ⟨_,(@jJ _ _ _ (@jO _ _ _ _ (vE ["reach","self"] (kP 1 [0]) rfl (kZ (jD JI) rfl rfl (by decide +kernel) (by decide +kernel) (by decide +kernel)) (qA 1 [0] rfl rfl (by decide +kernel)) (qY (jZ (pv 0) rfl)) (fun _ _ _ _ _=>(j7 (i:=0) (show List.Nodup (["reach","self"]:List Str) from by decide +kernel) rfl (by first|exact Or.inl rfl|exact Or.inr rfl))) (fun _ _ _ _ _=>qR) (fun _ _ _ _ _=>(kG (jA (eG K (pv 0) rfl) (jA (zD (kB kR (eG K (pv 0) rfl) (cE (v:=.int (-1)) rfl T.g_SEA ⟨_,rfl⟩) (j8 _)) (yH MM_Canal_sea hr (pv 1)) (eG K (pv 0) rfl)) jB))))))),?_⟩
 have hc0:=hc
 obtain ⟨dx,rl,ll,nl,fs,rs,ls,ns,hx,hf,hrl,hll,hnl,hR,hL,hN,d1,d2,d3⟩:=hc
 refine ⟨_,rfl,j0 hx (T.clN) (T.nN_reaches) (hf.1) (⟨rl,rfl,⟨_,SqL.of hrl⟩,fun wl hwl0=>?_⟩)⟩
 refine JF (K:=K) (a:=rl) (xs:=rs) (caps:=[some (.ref x)]) (fun i ys Hi=>AllAt (QAt Hi) ys ((R.take i).map (v9 (qB R.length L.length)))) hwl0 (SqL.of hrl) AllAt.nil ?_ ?_
 ·rintro i v ys Hi hv hi hle sm hY hW
  obtain ⟨r,hr,y,rfl,dy,gs,hy,hg⟩:=hR.2 i v hv
  have hy:=sm _ _ hy
  have hi100:i<100:=by rw [hR.1] at hi;omega
  refine qT (kI ?_)
  refine ⟨_,rfl,j0 hy (T.clR) (T.nR_crest) (hg.2.2.1) (⟨_,rfl,j0 hy (T.clR) (T.nR_target) (hg.2.2.2.2.2) (⟨rfl,_,rfl,?_⟩)⟩)⟩
  have put:∀z:Int,z=(v9 (qB R.length L.length) r).2→∀tp,Hi tp=none→∃ys',upd Hi tp (.tup [.int r.crest,.int z]) wl=some (.lst ys')∧ys'.length<sizeLine∧zK H wl [some (.ref x)] (fun i ys Hi=>AllAt (QAt Hi) ys ((R.take i).map (v9 (qB R.length L.length)))) (i+1) [some (.ref y),some (.ref x)] (upd (upd Hi tp (.tup [.int r.crest,.int z])) wl (.lst (ys'++[.ref tp]))):=by
   intro z hz tp htp
   have u:=jK htp (.tup [V.int r.crest,V.int z])
   exact vA (R:=fun i ys Hi=>AllAt (QAt Hi) ys ((R.take i).map (v9 (qB R.length L.length)))) (c:=some (.ref y)) (caps:=[some (.ref x)]) (v:=.ref tp) hwl0 sm hY hle (by omega) u (by
    rw [List.take_add_one,hr,List.map_append]
    exact ((hW.mono (QAt.same u)).snoc (v:=.ref tp) (x:=v9 (qB R.length L.length) r) ⟨tp,rfl,by rw [← hz];exact jE⟩).mono (QAt.put (u _ _ hY)))
  by_cases ht:r.target = -1
  ·refine qD (congrArg V.int ht) ⟨_,rfl,x,dx,_,rfl,(sm _ _ hx),hf.no (by decide +kernel) (by decide +kernel) (by decide +kernel),x,D,R,L,N,rfl,hc0.same sm,zz2,fun tp htp=>?_⟩
   exact put _ (by unfold v9;rw [if_pos ht]) tp htp
  ·refine kM (fun z=>ht (V.int.inj z)) ⟨_,rfl,j0 hy (T.clR) (T.nR_target) (hg.2.2.2.2.2) (⟨zz2,fun tp htp=>?_⟩)⟩
   exact put _ (by unfold v9;rw [if_neg ht]) tp htp
 rintro ys Hf sm hY hle hW
 rw [hR.1,List.take_length] at hW
 exact q wl ys Hf sm hwl0 hY hW
theorem fD:FnScope ["self","waters","others"] ["self"] (jD JH):=⟨rfl,rfl,rfl,by decide +kernel,rfl,by decide +kernel,by decide +kernel⟩
theorem sX {f:Addr} {fd:FuncData} (F:Fun K "start" "Canal.start" JH f fd) (T:Txt K mg cP cB cU cR cN tkS eW eL tkH) (MM_Canal_many:MeD P w K mg base 3 cN "many" ["self"] (yB (jF cP cB cU) cR cN cS)) (D_settled:Def P w K mg base 4 "settled" ["weirs","waters"] [] (mQ K)) (MM_Canal_weirs:MeD P w K mg base 2 cN "weirs" ["self"] (bW (jF cP cB cU) cR cN)):FnOk P w K mg base jQ 5 f fd ["self"] (gJ (jF cP cB cU) cR cN):=by
 refine F.ok fD (fun vs H Q E h=>?_) (fun cdv A outer s H vs Q E hr h=>?_)
 ·obtain ⟨x,D,R,L,N,rfl,hc,hR100,hL100,hT,q⟩:=h
  rfl
 obtain ⟨x,D,R,L,N,rfl,hc,hR100,hL100,hT,q⟩:=h
 have hu:_<cLine:=hr.units0
 have hu1:=jV hr
 refine ⟨_,(@jI _ _ _ _ _ (zB (i:=1) ["reach"] (kP 1 []) fD.nd rfl (by first|exact Or.inl rfl|exact Or.inr rfl) rfl (kZ (jD JH) rfl rfl (by decide +kernel) (by decide +kernel) (by decide +kernel)) (qA 1 [] rfl rfl (by decide +kernel)) (qY (jZ (pv 0) rfl)) (fun _ _ _ _ _=>(j7 (i:=0) (show List.Nodup (["reach"]:List Str) from by decide +kernel) rfl (by first|exact Or.inl rfl|exact Or.inr rfl))) (fun _ _ _ _ _=>qR) (fun _ _ _ _ _=>(eG K (pv 0) rfl)))
   (@jI _ _ _ _ _ (jT (i:=2) fD.nd rfl (by first|exact Or.inl rfl|exact Or.inr rfl) (@jG _ _ _ _ _ _ _ _ pW (qE (jA jC jB)) (@jG _ _ _ _ _ _ _ _ vQ (yH MM_Canal_many hr (pv 0)) (kD kJ (by rfl) T.z_len PySem.boot_len (jA (pv 1) jB)))))
   (@jJ _ _ _ (@jO _ _ _ _ (jL D_settled hr rfl (jA (yH MM_Canal_weirs hr (pv 0)) (jA (@jG _ _ _ _ _ _ _ _ J3 (pv 1) (pv 2)) jB))))))),?_⟩
 have hc0:=hc
 obtain ⟨dx,rl,ll,nl,fs,rs,ls,ns,hx,hf,hrl,hll,hnl,hR,hL,hN,d1,d2,d3⟩:=hc
 refine ⟨_,rfl,j0 hx (T.clN) (T.nN_reaches) (hf.1) (⟨rl,rfl,⟨_,SqL.of hrl⟩,fun wl hwl0=>?_⟩)⟩
 refine JF (K:=K) (a:=rl) (xs:=rs) (caps:=[]) (fun i ys Hi=>ys=((R.take i).map (·.water)).map V.int) hwl0 (SqL.of hrl) rfl ?_ ?_
 ·rintro i v ys Hi hv hi hle sm hY rfl
  obtain ⟨r,hr,y,rfl,dy,gs,hy,hg⟩:=hR.2 i v hv
  have hy:=sm _ _ hy
  have hi100:i<100:=by rw [hR.1] at hi;omega
  refine qT (kI ⟨_,rfl,j0 hy (T.clR) (T.nR_water) (hg.2.2.2.2.1) (vA hwl0 sm hY hle (by omega) (Same.refl _) ?_)⟩)
  rw [List.take_add_one,hr,List.map_append,List.map_append]
  rfl
 rintro ys H1 s1 hwl hle rfl
 rw [hR.1,List.take_length] at hwl
 refine ⟨zz1,fun lp hlp=>?_⟩
 have s2:=jK hlp (.lst [V.int 0])
 have s12:=s1.trans s2
 refine ⟨_,rfl,x,dx,_,rfl,(s12 _ _ hx),hf.no (by decide +kernel) (by decide +kernel) (by decide +kernel),x,D,R,L,N,rfl,hc0.same s12,_,rfl,wl,_,rfl,.inl (SqL.of (s2 _ _ hwl)),_,_,rfl,rfl,?_⟩
 have e1:cS R.length L.length - (((((R.map (·.water)).map V.int).length:Nat)):Int)=((2*L.length+2:Nat):Int):=by
  rw [List.length_map,List.length_map];unfold cS;omega
 try dsimp only
 rw [e1]
 refine ⟨lp,_,_,rfl,rfl,jE,by omega,by omega,?_,fun gp hgp=>?_⟩
 ·rw [Int.toNat_natCast,List.length_singleton,Nat.one_mul]
  exact small (by omega)
 rw [Int.toNat_natCast,oF]
 have s3:=jK hgp (.lst ((List.replicate (2*L.length+2) (0:Int)).map V.int))
 have s13:=s12.trans s3
 have hgp3:upd (upd H1 lp (.lst [V.int 0])) gp (.lst ((List.replicate (2*L.length+2) (0:Int)).map V.int)) gp=_:=jE
 have hwl3:=s3 _ _ (s2 _ _ hwl)
 generalize upd (upd H1 lp (.lst [V.int 0])) gp (.lst ((List.replicate (2*L.length+2) (0:Int)).map V.int))=H3 at s3 s13 hgp3 hwl3 ⊢
 refine ⟨_,rfl,x,dx,_,rfl,(s13 _ _ hx),hf.no (by decide +kernel) (by decide +kernel) (by decide +kernel),x,D,R,L,N,rfl,hc0.same s13,hR100,fun wq ws H4 s4 hwq0 hwq hW=>?_⟩
 refine ⟨_,rfl,_,rfl,wl,gp,_,_,rfl,rfl,s4 _ _ hwl3,s4 _ _ hgp3,?_,fun al hal=>?_⟩
 ·rw [List.length_map,List.length_map,List.length_map,List.length_replicate]
  exact small (by omega)
 have e2:(R.map (·.water)).map V.int++(List.replicate (2*L.length+2) (0:Int)).map V.int=(vK R L.length).map V.int:=by unfold vK;rw [List.map_append]
 rw [e2]
 have s5:=jK hal (.lst ((vK R L.length).map V.int))
 have s15:=(s13.trans s4).trans s5
 refine ⟨wq,al,ws,j4 R L.length,vK R L.length,rfl,⟨SqL.of (s5 _ _ hwq),nS hT (hW.mono (QAt.same s5)),.inl (SqL.of jE),dP hT,by rw [v8,bQ];omega,by rw [bQ];omega⟩,fun r H' gs s' hr0 hr hSp=>?_⟩
 exact q r H' gs (s15.trans s') (s15.free hr0) hr hSp
theorem u9:FnScope ["self","waters","k"] ["self","waters","k"] (jD QG):=⟨rfl,rfl,rfl,by decide +kernel,rfl,by decide +kernel,by decide +kernel⟩
theorem sR {f:Addr} {fd:FuncData} (F:Fun K "full" "Canal.full" QG f fd) (T:Txt K mg cP cB cU cR cN tkS eW eL tkH) (MM_Canal_chamber:MeD P w K mg base 1 cN "chamber" ["self","k"] (zL (jF cP cB cU) cR cN vY)):FnOk P w K mg base jQ 2 f fd ["self","waters","k"] (eF (jF cP cB cU) cR cN):=by
 refine F.ok u9 (fun vs H Q E h=>?_) (fun cdv A outer s H vs Q E hr h=>?_)
 ·obtain ⟨x,wa,D,R,L,N,ms,k,rfl,hc,hwa,hk,q⟩:=h
  rfl
 obtain ⟨x,wa,D,R,L,N,ms,k,rfl,hc,hwa,hk,q⟩:=h
 have hu:_<cLine:=hr.units0
 have hu1:=jV hr
 refine ⟨_,(@jJ _ _ _ (@jO _ _ _ _ (zF FF (jH ix_tup (pv 1) (J9 MM_Canal_chamber hr (pv 0) (jA (pv 2) jB)) (fun _ _=>rfl)) jC (j8 _)))),?_⟩
 have hc0:=hc
 obtain ⟨dx,rl,ll,nl,fs,rs,ls,ns,hx,hf,hrl,hll,hnl,hR,hL,hN,d1,d2,d3⟩:=hc
 have hat:qC (ms.map V.int) (vY R.length L.length (k:Int))=some (.int (ms.getD (R.length+k) 0)):=by
  rw [show vY R.length L.length (k:Int)=((R.length+k:Nat):Int) by unfold vY;omega]
  exact qF hk
 exact ⟨_,rfl,_,rfl,x,dx,_,rfl,hx,hf.no (by decide +kernel) (by decide +kernel) (by decide +kernel),_,rfl,x,D,R,L,N,_,rfl,hc0,jM (SqT.of hwa) hat (jU (q))⟩
theorem wP:FnScope ["lock","basin"] ["lock","basin"] (jD JL):=⟨rfl,rfl,rfl,by decide +kernel,rfl,by decide +kernel,by decide +kernel⟩
theorem t4 {f:Addr} {fd:FuncData} (F:Fun K "filling" "filling" JL f fd) (T:Txt K mg cP cB cU cR cN tkS eW eL tkH) (MP_fill_parts:MeK P w K mg base 2 (jF cP cB cU) "fill_parts" ["self","basin"] (vD (jF cP cB cU) yI)):FnOk P w K mg base jQ 3 f fd ["lock","basin"] (bX (jF cP cB cU) vR):=by
 refine F.ok wP (fun vs H Q E h=>?_) (fun cdv A outer s H vs Q E hr h=>?_)
 ·obtain ⟨x,kd,n,h₁,l,room,v,b,rfl,⟨dx,hx⟩,q⟩:=h
  rfl
 obtain ⟨x,kd,n,h₁,l,room,v,b,rfl,⟨dx,hx⟩,q⟩:=h
 have hu:_<cLine:=hr.units0
 have hu1:=jV hr
 refine ⟨_,(@jJ _ _ _ (@jO _ _ _ _ (vE ["giver","amount"] (kP 2 []) rfl (kZ (jD JL) rfl rfl (by decide +kernel) (by decide +kernel) (by decide +kernel)) (qA 2 [] rfl rfl (by decide +kernel)) (qY (rN MP_fill_parts hr (pv 0) (jA (pv 1) jB))) (fun _ _ _ _ _=>(zE (n:=2) K rfl (kW (j7 (i:=0) (show List.Nodup (["giver","amount"]:List Str) from by decide +kernel) rfl (by first|exact Or.inl rfl|exact Or.inr rfl)) (kW (j7 (i:=1) (show List.Nodup (["giver","amount"]:List Str) from by decide +kernel) rfl (by first|exact Or.inl rfl|exact Or.inr rfl)) yF)))) (fun _ _ _ _ _=>qR) (fun _ _ _ _ _=>(kG (@jA _ _ _ _ _ (pv 0) (@jA _ _ _ _ _ j3 (@jA _ _ _ _ _ (pv 1) jB (by rfl)) (by rfl)) (by rfl))))))),?_⟩
 refine ⟨_,rfl,kd,x,dx,_,rfl,hx,DN kd _ _ _ _ _,_,rfl,x,n,h₁,l,room,v,b,rfl,⟨dx,hx⟩,fun pl H1 rs s1 hpl0 hpl hP=>?_⟩
 have hplen:=nE kd room v b
 refine ⟨pl,rfl,⟨_,SqL.of hpl⟩,fun D hD=>?_⟩
 have u0:=jK hD (.lst [])
 refine ZS (K:=K) (a:=pl) (xs:=rs) (fun i σ Hi=>∃(c1 c2:Option V) (ys:List V),σ=[c1,c2]∧Hi D=some (.lst ys)∧PoursS Hi ys ((yI kd room v b).take i |>.map (fun p=>(p.1,"chamber",p.2)))∧Same H1 Hi)
  ⟨none,none,[],rfl,jE,PoursS.nil,u0⟩ (fun i σ Hi _ ⟨_,_,_,_,_,_,s⟩=>SqL.of (s _ _ hpl)) ?_ ?_
 ·rintro i y σ Hi hy ⟨c1,c2,ys,rfl,hY,hA,sm⟩
  have hi:i<rs.length:=(List.getElem?_eq_some_iff.mp hy).1
  obtain ⟨t,sN,nN,rfl,hps,hT⟩:=hP.2 i y hy
  have hl:ys.length≤i:=by rw [hA.1,List.length_map];exact List.length_take_le _ _
  refine ⟨t,_,rfl,SqT.of (sm _ _ hT),rfl,_,_,rfl,_,_,rfl,rfl,?_⟩
  refine qT (kI ?_)
  refine ⟨_,rfl,_,rfl,zz3,fun tp htp=>?_⟩
  have v1:∀o,Same Hi (upd Hi tp o):=fun o=>jK htp o
  refine ⟨ys,v1 _ _ _ hY,qQ (by rw [hP.1] at hi;omega),_,_,ys++[.ref tp],rfl,jE,?_,kY hD (sm.trans (v1 _))⟩
  rw [lJ hps]
  exact PoursS.keep ((Keep.refl D _).upd _) (v1 _ _ _ hY) ((hA.same (v1 _)).append (PoursS.one jE))
 ·rintro σ Hi ⟨c1,c2,ys,rfl,hY,hA,sm⟩
  rw [hP.1,List.take_length] at hA
  exact q D Hi ys (s1.trans sm) (s1.free hD) hY hA
theorem wV:FnScope ["lock","basin"] ["lock","basin"] (jD JN):=⟨rfl,rfl,rfl,by decide +kernel,rfl,by decide +kernel,by decide +kernel⟩
theorem uC {f:Addr} {fd:FuncData} (F:Fun K "letting" "letting" JN f fd) (T:Txt K mg cP cB cU cR cN tkS eW eL tkH) (MP_let_parts:MeK P w K mg base 2 (jF cP cB cU) "let_parts" ["self","basin"] (vD (jF cP cB cU) yK)):FnOk P w K mg base jQ 3 f fd ["lock","basin"] (bX (jF cP cB cU) qX):=by
 refine F.ok wV (fun vs H Q E h=>?_) (fun cdv A outer s H vs Q E hr h=>?_)
 ·obtain ⟨x,kd,n,h₁,l,room,v,b,rfl,⟨dx,hx⟩,q⟩:=h
  rfl
 obtain ⟨x,kd,n,h₁,l,room,v,b,rfl,⟨dx,hx⟩,q⟩:=h
 have hu:_<cLine:=hr.units0
 have hu1:=jV hr
 refine ⟨_,(@jJ _ _ _ (@jO _ _ _ _ (vE ["taker","amount"] (kP 2 []) rfl (kZ (jD JN) rfl rfl (by decide +kernel) (by decide +kernel) (by decide +kernel)) (qA 2 [] rfl rfl (by decide +kernel)) (qY (rN MP_let_parts hr (pv 0) (jA (pv 1) jB))) (fun _ _ _ _ _=>(zE (n:=2) K rfl (kW (j7 (i:=0) (show List.Nodup (["taker","amount"]:List Str) from by decide +kernel) rfl (by first|exact Or.inl rfl|exact Or.inr rfl)) (kW (j7 (i:=1) (show List.Nodup (["taker","amount"]:List Str) from by decide +kernel) rfl (by first|exact Or.inl rfl|exact Or.inr rfl)) yF)))) (fun _ _ _ _ _=>qR) (fun _ _ _ _ _=>(kG (@jA _ _ _ _ _ j3 (@jA _ _ _ _ _ (pv 0) (@jA _ _ _ _ _ (pv 1) jB (by rfl)) (by rfl)) (by rfl))))))),?_⟩
 refine ⟨_,rfl,kd,x,dx,_,rfl,hx,EU kd _ _ _ _ _,_,rfl,x,n,h₁,l,room,v,b,rfl,⟨dx,hx⟩,fun pl H1 rs s1 hpl0 hpl hP=>?_⟩
 have hplen:=oN kd room v b
 refine ⟨pl,rfl,⟨_,SqL.of hpl⟩,fun D hD=>?_⟩
 have u0:=jK hD (.lst [])
 refine ZS (K:=K) (a:=pl) (xs:=rs) (fun i σ Hi=>∃(c1 c2:Option V) (ys:List V),σ=[c1,c2]∧Hi D=some (.lst ys)∧PoursS Hi ys ((yK kd room v b).take i |>.map (fun p=>("chamber",p.1,p.2)))∧Same H1 Hi)
  ⟨none,none,[],rfl,jE,PoursS.nil,u0⟩ (fun i σ Hi _ ⟨_,_,_,_,_,_,s⟩=>SqL.of (s _ _ hpl)) ?_ ?_
 ·rintro i y σ Hi hy ⟨c1,c2,ys,rfl,hY,hA,sm⟩
  have hi:i<rs.length:=(List.getElem?_eq_some_iff.mp hy).1
  obtain ⟨t,sN,nN,rfl,hps,hT⟩:=hP.2 i y hy
  have hl:ys.length≤i:=by rw [hA.1,List.length_map];exact List.length_take_le _ _
  refine ⟨t,_,rfl,SqT.of (sm _ _ hT),rfl,_,_,rfl,_,_,rfl,rfl,?_⟩
  refine qT (kI ?_)
  refine ⟨_,rfl,_,rfl,zz3,fun tp htp=>?_⟩
  have v1:∀o,Same Hi (upd Hi tp o):=fun o=>jK htp o
  refine ⟨ys,v1 _ _ _ hY,qQ (by rw [hP.1] at hi;omega),_,_,ys++[.ref tp],rfl,jE,?_,kY hD (sm.trans (v1 _))⟩
  rw [lJ hps]
  exact PoursS.keep ((Keep.refl D _).upd _) (v1 _ _ _ hY) ((hA.same (v1 _)).append (PoursS.one jE))
 ·rintro σ Hi ⟨c1,c2,ys,rfl,hY,hA,sm⟩
  rw [hP.1,List.take_length] at hA
  exact q D Hi ys (s1.trans sm) (s1.free hD) hY hA
theorem wQ:FnScope ["vessel","pours"] ["vessel","pours"] (jD JM):=⟨rfl,rfl,rfl,by decide +kernel,rfl,by decide +kernel,by decide +kernel⟩
theorem t5 {f:Addr} {fd:FuncData} (F:Fun K "given_by" "given_by" JM f fd) (T:Txt K mg cP cB cU cR cN tkS eW eL tkH) : FnOk P w K mg base jQ 1 f fd ["vessel","pours"] (o8):=by
 refine F.ok wQ (fun vs H Q E h=>?_) (fun cdv A outer s H vs Q E hr h=>?_)
 ·obtain ⟨s₁,p,rs,qs,rfl,hP,hA,hn,q⟩:=h
  rfl
 obtain ⟨s₁,p,rs,qs,rfl,hP,hA,hn,q⟩:=h
 have hu:_<cLine:=hr.units0
 have hu1:=jV hr
 refine ⟨_,(@jJ _ _ _ (@jO _ _ _ _ (kD (nJ rfl) (by rfl) T.z_sum PyProof.Rows.boot_sum (jA (vE ["source","target","amount","vessel"] (kP 3 [0]) rfl (kZ (jD JM) rfl rfl (by decide +kernel) (by decide +kernel) (by decide +kernel)) (qA 3 [0] rfl rfl (by decide +kernel)) (qY (pv 1)) (fun _ _ _ _ _=>(zE (n:=3) K rfl (kW (j7 (i:=0) (show List.Nodup (["source","target","amount","vessel"]:List Str) from by decide +kernel) rfl (by first|exact Or.inl rfl|exact Or.inr rfl)) (kW (j7 (i:=1) (show List.Nodup (["source","target","amount","vessel"]:List Str) from by decide +kernel) rfl (by first|exact Or.inl rfl|exact Or.inr rfl)) (kW (j7 (i:=2) (show List.Nodup (["source","target","amount","vessel"]:List Str) from by decide +kernel) rfl (by first|exact Or.inl rfl|exact Or.inr rfl)) yF))))) (fun _ _ _ _ _=>(ZW (kB kR (pv 0) (pv 3) (j8 _)))) (fun _ _ _ _ _=>(pv 2))) jB)))),?_⟩
 refine ⟨_,rfl,p,rfl,⟨_,SqL.of hP⟩,fun D hD=>?_⟩
 have u0:=jK hD (.lst [])
 refine ZS (K:=K) (a:=p) (xs:=rs) (fun i σ Hi=>∃(c1 c2 c3:Option V),σ=[c1,c2,c3,some (.str s₁)]∧Hi D=some (.lst ((zM (dB s₁) (qs.take i)).map V.int))∧Same H Hi)
  ⟨none,none,none,rfl,jE,u0⟩ (fun i σ Hi _ ⟨_,_,_,_,_,s⟩=>SqL.of (s _ _ hP)) ?_ ?_
 ·rintro i y σ Hi hy ⟨c1,c2,c3,rfl,hY,sm⟩
  have hi:i<rs.length:=(List.getElem?_eq_some_iff.mp hy).1
  obtain ⟨t,sS,sT,nN,rfl,hq,hT⟩:=hA.2 i y hy
  have hat:=mF (dB s₁) qs i _ hq
  have hal:=nQ (dB s₁) qs i
  refine ⟨t,_,rfl,SqT.of (sm _ _ hT),rfl,_,_,rfl,_,_,rfl,_,_,rfl,rfl,?_⟩
  refine ⟨_,rfl,_,rfl,rfl,_,rfl,?_⟩
  rw [oR]
  by_cases c:(dB s₁) (sS,sT,nN)=true
  ·rw [if_pos c] at hat
   have c':=of_decide_eq_true c
   refine qD c' ⟨_,rfl,_,hY,qQ (by rw [List.length_map];omega),_,_,_,rfl,?_,kY hD sm⟩
   rw [jE,hat,List.map_append]
   rfl
  ·rw [if_neg c,List.append_nil] at hat
   have c':¬_:=of_decide_eq_false (Bool.eq_false_iff.mpr c)
   refine kM c' ⟨_,_,_,rfl,?_,sm⟩
   rw [hY,hat]
 ·rintro σ Hi ⟨c1,c2,c3,rfl,hY,sm⟩
  rw [hA.1,List.take_length] at hY
  exact ⟨D,_,rfl,SqL.of hY,q Hi sm⟩
theorem lE:FnScope ["basin","pours","got"] ["basin","pours"] (jD JJ):=⟨rfl,rfl,rfl,by decide +kernel,rfl,by decide +kernel,by decide +kernel⟩
theorem tW {f:Addr} {fd:FuncData} (F:Fun K "basin_after" "basin_after" JJ f fd) (T:Txt K mg cP cB cU cR cN tkS eW eL tkH) (D_given_by:Def P w K mg base 1 "given_by" ["vessel","pours"] [] (o8)):FnOk P w K mg base jQ 2 f fd ["basin","pours"] (pA):=by
 refine F.ok lE (fun vs H Q E h=>?_) (fun cdv A outer s H vs Q E hr h=>?_)
 ·obtain ⟨b,p,rs,qs,rfl,hP,hA,hn,q⟩:=h
  rfl
 obtain ⟨b,p,rs,qs,rfl,hP,hA,hn,q⟩:=h
 have hu:_<cLine:=hr.units0
 have hu1:=jV hr
 refine ⟨_,(@jI _ _ _ _ _ (jT (i:=2) lE.nd rfl (by first|exact Or.inl rfl|exact Or.inr rfl) (kD (nJ rfl) (by rfl) T.z_sum PyProof.Rows.boot_sum (jA (vE ["source","target","amount"] (kP 3 []) rfl (kZ (jD JJ) rfl rfl (by decide +kernel) (by decide +kernel) (by decide +kernel)) (qA 3 [] rfl rfl (by decide +kernel)) (qY (pv 1)) (fun _ _ _ _ _=>(zE (n:=3) K rfl (kW (j7 (i:=0) (show List.Nodup (["source","target","amount"]:List Str) from by decide +kernel) rfl (by first|exact Or.inl rfl|exact Or.inr rfl)) (kW (j7 (i:=1) (show List.Nodup (["source","target","amount"]:List Str) from by decide +kernel) rfl (by first|exact Or.inl rfl|exact Or.inr rfl)) (kW (j7 (i:=2) (show List.Nodup (["source","target","amount"]:List Str) from by decide +kernel) rfl (by first|exact Or.inl rfl|exact Or.inr rfl)) yF))))) (fun _ _ _ _ _=>(ZW (kB kR (pv 1) j3 (j8 _)))) (fun _ _ _ _ _=>(pv 2))) jB)))
   (@jJ _ _ _ (@jO _ _ _ _ (@jG _ _ _ _ _ _ _ _ vQ (@jG _ _ _ _ _ _ _ _ jY (pv 0) (pv 2)) (jL D_given_by hr rfl (jA j3 (jA (pv 1) jB))))))),?_⟩
 refine ⟨_,rfl,p,rfl,⟨_,SqL.of hP⟩,fun D hD=>?_⟩
 have u0:=jK hD (.lst [])
 refine ZS (K:=K) (a:=p) (xs:=rs) (fun i σ Hi=>∃(c1 c2 c3:Option V),σ=[c1,c2,c3]∧Hi D=some (.lst ((zM (toS "basin") (qs.take i)).map V.int))∧Same H Hi)
  ⟨none,none,none,rfl,jE,u0⟩ (fun i σ Hi _ ⟨_,_,_,_,_,s⟩=>SqL.of (s _ _ hP)) ?_ ?_
 ·rintro i y σ Hi hy ⟨c1,c2,c3,rfl,hY,sm⟩
  have hi:i<rs.length:=(List.getElem?_eq_some_iff.mp hy).1
  obtain ⟨t,sS,sT,nN,rfl,hq,hT⟩:=hA.2 i y hy
  have hat:=mF (toS "basin") qs i _ hq
  have hal:=nQ (toS "basin") qs i
  refine ⟨t,_,rfl,SqT.of (sm _ _ hT),rfl,_,_,rfl,_,_,rfl,_,_,rfl,rfl,?_⟩
  refine ⟨_,rfl,rfl,_,rfl,?_⟩
  rw [oR]
  by_cases c:(toS "basin") (sS,sT,nN)=true
  ·rw [if_pos c] at hat
   have c':=of_decide_eq_true c
   refine qD c' ⟨_,rfl,_,hY,qQ (by rw [List.length_map];omega),_,_,_,rfl,?_,kY hD sm⟩
   rw [jE,hat,List.map_append]
   rfl
  ·rw [if_neg c,List.append_nil] at hat
   have c':¬_:=of_decide_eq_false (Bool.eq_false_iff.mpr c)
   refine kM c' ⟨_,_,_,rfl,?_,sm⟩
   rw [hY,hat]
 ·rintro σ Hi ⟨c1,c2,c3,rfl,hY,sm⟩
  rw [hA.1,List.take_length] at hY
  refine ⟨D,_,rfl,SqL.of hY,?_⟩
  refine ⟨_,rfl,_,rfl,jU (⟨_,rfl,"basin",p,rs,qs,rfl,sm _ _ hP,hA.same sm,hn,fun H' s2=>⟨_,_,rfl,rfl,q H' (sm.trans s2)⟩⟩)⟩
theorem fH:FnScope ["lock","full","basin","way","made_ready"] ["lock","full","basin","way"] (jD ZF):=⟨rfl,rfl,rfl,by decide +kernel,rfl,by decide +kernel,by decide +kernel⟩
theorem uN {f:Addr} {fd:FuncData} (F:Fun K "passage" "passage" ZF f fd) (T:Txt K mg cP cB cU cR cN tkS eW eL tkH) (D_letting:Def P w K mg base 3 "letting" ["lock","basin"] [] (bX (jF cP cB cU) qX)) (D_filling:Def P w K mg base 3 "filling" ["lock","basin"] [] (bX (jF cP cB cU) vR)) (D_basin_after:Def P w K mg base 2 "basin_after" ["basin","pours"] [] (pA)):FnOk P w K mg base jQ 4 f fd ["lock","full","basin","way"] (mR (jF cP cB cU)):=by
 refine F.ok fH (fun vs H Q E h=>?_) (fun cdv A outer s H vs Q E hr h=>?_)
 ·obtain ⟨x,kd,n,h₁,l,room,v,b,f,w,rfl,hx,q⟩:=h
  rfl
 obtain ⟨x,kd,n,h₁,l,room,v,b,f,w,rfl,hx,q⟩:=h
 have hu:_<cLine:=hr.units0
 have hu1:=jV hr
 refine ⟨_,(@jI _ _ _ _ _ (kN (kB kR (pv 3) j3 (j8 _)) (@jI _ _ _ _ _ (jT (i:=4) fH.nd rfl (by first|exact Or.inl rfl|exact Or.inr rfl) (zD (zW (pv 1)) (jL D_letting hr rfl (jA (pv 0) (jA (pv 2) jB))) (qE jB)))
   (@jJ _ _ _ (@jO _ _ _ _ (@jG _ _ _ _ _ _ _ _ J3 (pv 4) (jL D_filling hr rfl (jA (pv 0) (jA (jL D_basin_after hr rfl (jA (pv 2) (jA (pv 4) jB))) jB))))))) kQ)
   (@jI _ _ _ _ _ (jT (i:=4) fH.nd rfl (by first|exact Or.inl rfl|exact Or.inr rfl) (zD (zW (pv 1)) (qE jB) (jL D_filling hr rfl (jA (pv 0) (jA (pv 2) jB)))))
   (@jJ _ _ _ (@jO _ _ _ _ (@jG _ _ _ _ _ _ _ _ J3 (pv 4) (jL D_letting hr rfl (jA (pv 0) (jA (jL D_basin_after hr rfl (jA (pv 2) (jA (pv 4) jB))) jB)))))))),?_⟩
 cases w with
 |true =>
  refine ⟨_,rfl,rfl,_,rfl,qD rfl ?_⟩
  cases f with
  |true =>
   refine ⟨_,rfl,_,rfl,kI ⟨_,rfl,_,rfl,x,kd,n,h₁,l,room,v,b,rfl,hx,fun m H1 rs s1 hm0 hm hA=>?_⟩⟩
   have hl:=JY kd room v b
   have hl2:=bT kd room v (yQ b (qX kd room v b))
   refine ⟨_,rfl,_,rfl,_,rfl,_,rfl,b,m,rs,_,rfl,hm,hA,by rw [hA.1];omega,fun H2 s2=>?_⟩
   refine ⟨x,kd,n,h₁,l,room,v,_,rfl,(hx.same s1).same s2,fun z H3 rs3 s3 hz0 hz hA3=>?_⟩
   refine ⟨m,z,_,_,rfl,rfl,s3 _ _ (s2 _ _ hm),hz,small (by rw [hA.1,hA3.1];omega),fun y hy0=>?_⟩
   have s4:=jK hy0 (.lst (rs++rs3))
   exact q y _ (rs++rs3) (((s1.trans s2).trans s3).trans s4) (((s1.trans s2).trans s3).free hy0) jE ((((hA.same s2).same s3).append hA3).same s4)
  |false =>
   refine ⟨_,rfl,_,rfl,q8 ⟨zz0,fun m hm0=>?_⟩⟩
   have s1:=jK hm0 (.lst [])
   have hm:upd H m (.lst []) m=some (.lst []):=jE
   generalize upd H m (.lst [])=H1 at s1 hm ⊢
   refine ⟨_,rfl,_,rfl,_,rfl,_,rfl,b,m,[],[],rfl,hm,PoursS.nil,by decide,fun H2 s2=>?_⟩
   rw [mG]
   refine ⟨x,kd,n,h₁,l,room,v,b,rfl,(hx.same s1).same s2,fun z H3 rs3 s3 hz0 hz hA3=>?_⟩
   refine ⟨m,z,_,_,rfl,rfl,s3 _ _ (s2 _ _ hm),hz,small (by rw [hA3.1];have:=bT kd room v b;have:=JY kd room v b;show 0+_≤1000;omega),fun y hy0=>?_⟩
   have s4:=jK hy0 (.lst ([]++rs3))
   exact q y _ rs3 (((s1.trans s2).trans s3).trans s4) (((s1.trans s2).trans s3).free hy0) jE (hA3.same s4)
 |false =>
  refine ⟨_,rfl,rfl,_,rfl,kM EZ ?_⟩
  cases f with
  |false =>
   refine ⟨_,rfl,_,rfl,q8 ⟨_,rfl,_,rfl,x,kd,n,h₁,l,room,v,b,rfl,hx,fun m H1 rs s1 hm0 hm hA=>?_⟩⟩
   have hl:=bT kd room v b
   have hl2:=JY kd room v (yQ b (vR kd room v b))
   refine ⟨_,rfl,_,rfl,_,rfl,_,rfl,b,m,rs,_,rfl,hm,hA,by rw [hA.1];omega,fun H2 s2=>?_⟩
   refine ⟨x,kd,n,h₁,l,room,v,_,rfl,(hx.same s1).same s2,fun z H3 rs3 s3 hz0 hz hA3=>?_⟩
   refine ⟨m,z,_,_,rfl,rfl,s3 _ _ (s2 _ _ hm),hz,small (by rw [hA.1,hA3.1];omega),fun y hy0=>?_⟩
   have s4:=jK hy0 (.lst (rs++rs3))
   exact q y _ (rs++rs3) (((s1.trans s2).trans s3).trans s4) (((s1.trans s2).trans s3).free hy0) jE ((((hA.same s2).same s3).append hA3).same s4)
  |true =>
   refine ⟨_,rfl,_,rfl,kI ⟨zz0,fun m hm0=>?_⟩⟩
   have s1:=jK hm0 (.lst [])
   have hm:upd H m (.lst []) m=some (.lst []):=jE
   generalize upd H m (.lst [])=H1 at s1 hm ⊢
   refine ⟨_,rfl,_,rfl,_,rfl,_,rfl,b,m,[],[],rfl,hm,PoursS.nil,by decide,fun H2 s2=>?_⟩
   rw [mG]
   refine ⟨x,kd,n,h₁,l,room,v,b,rfl,(hx.same s1).same s2,fun z H3 rs3 s3 hz0 hz hA3=>?_⟩
   refine ⟨m,z,_,_,rfl,rfl,s3 _ _ (s2 _ _ hm),hz,small (by rw [hA3.1];have:=bT kd room v b;have:=JY kd room v b;show 0+_≤1000;omega),fun y hy0=>?_⟩
   have s4:=jK hy0 (.lst ([]++rs3))
   exact q y _ rs3 (((s1.trans s2).trans s3).trans s4) (((s1.trans s2).trans s3).free hy0) jE (hA3.same s4)
theorem w8:FnScope ["lock","side"] ["lock","side"] (jD ZL):=⟨rfl,rfl,rfl,by decide +kernel,rfl,by decide +kernel,by decide +kernel⟩
theorem uV {f:Addr} {fd:FuncData} (F:Fun K "step_ends" "step_ends" ZL f fd) (T:Txt K mg cP cB cU cR cN tkS eW eL tkH) : FnOk P w K mg base jQ 1 f fd ["lock","side"] (pS (jF cP cB cU)):=by
 refine F.ok w8 (fun vs H Q E h=>?_) (fun cdv A outer s H vs Q E hr h=>?_)
 ·obtain ⟨y,l,b,rfl,⟨y₂,e,dl,hl⟩,q⟩:=h
  rfl
 obtain ⟨y,l,b,rfl,⟨y₂,e,dl,hl⟩,q⟩:=h
 have hu:_<cLine:=hr.units0
 have hu1:=jV hr
 refine ⟨_,(@jJ _ _ _ (@jO _ _ _ _ (zD (kB kR (pv 1) j3 (j8 _)) (kG (jA (jZ (pv 0) rfl) (jA (jZ (pv 0) rfl) jB))) (kG (jA (jZ (pv 0) rfl) (jA (jZ (pv 0) rfl) jB)))))),?_⟩
 cases e
 refine ⟨_,rfl,rfl,_,rfl,?_⟩
 rw [p8]
 cases b with
 |true=>exact kI ⟨_,rfl,j0 hl (T.cl l.kd) (T.n_low l.kd) (Z4 l.kd _ _ _ _ _) (⟨_,rfl,j0 hl (T.cl l.kd) (T.n_high l.kd) (ZY l.kd _ _ _ _ _) (⟨zz2,fun t ht=>q t _ (jK ht _) ht jE⟩)⟩)⟩
 |false=>exact q8 ⟨_,rfl,j0 hl (T.cl l.kd) (T.n_high l.kd) (ZY l.kd _ _ _ _ _) (⟨_,rfl,j0 hl (T.cl l.kd) (T.n_low l.kd) (Z4 l.kd _ _ _ _ _) (⟨zz2,fun t ht=>q t _ (jK ht _) ht jE⟩)⟩)⟩
theorem bI:FnScope ["canal","start","steps","along","k","side","ends"] ["canal","start","steps"] (jD ZA):=⟨rfl,rfl,rfl,by decide +kernel,rfl,by decide +kernel,by decide +kernel⟩
theorem uD {f:Addr} {fd:FuncData} (F:Fun K "linked" "linked" ZA f fd) (T:Txt K mg cP cB cU cR cN tkS eW eL tkH) (D_step_ends:Def P w K mg base 1 "step_ends" ["lock","side"] [] (pS (jF cP cB cU))):FnOk P w K mg base (vG P w) 2 f fd ["canal","start","steps"] (oA K (jF cP cB cU) cR cN eL):=by
 refine F.okX bI (fun vs H Q E h=>?_) (fun cdv A outer s H vs Q E hr h=>?_)
 ·obtain ⟨x,st,s₁,us,ps,D,R,L,N,rfl,⟨dx,rl,ll,nl,fs,rs,ls,ns,hx,hf,hrl,hll,hnl,hR,hL,hN,d1,d2,d3⟩,hst,hP,hlt,h100,qv,qe⟩:=h
  rfl
 obtain ⟨x,st,s₁,us,ps,D,R,L,N,rfl,⟨dx,rl,ll,nl,fs,rs,ls,ns,hx,hf,hrl,hll,hnl,hR,hL,hN,d1,d2,d3⟩,hst,hP,hlt,h100,qv,qe⟩:=h
 have hu:_<cLine:=hr.units0
 have hu1:=jV hr
 refine ⟨_,(@jI _ _ _ _ _ (jT (i:=3) bI.nd rfl (by first|exact Or.inl rfl|exact Or.inr rfl) (qE (jA (pv 1) jB)))
   (@jI _ _ _ _ _ (yG EG rfl (EC (pv 2)) (iF rfl (kW (j7 (i:=4) bI.nd rfl (by first|exact Or.inl rfl|exact Or.inr rfl)) (kW (j7 (i:=5) bI.nd rfl (by first|exact Or.inl rfl|exact Or.inr rfl)) yF)))
    (@jI _ _ _ _ _ (jT (i:=6) bI.nd rfl (by first|exact Or.inl rfl|exact Or.inr rfl) (jL D_step_ends hr rfl (jA (jH kF (jZ (pv 0) rfl) (pv 4) (fun _ _=>rfl)) (jA (pv 5) jB))))
   (@jI _ _ _ _ _ (kN (kB z0 (jH ix_tup (pv 6) jC (fun _ _=>rfl)) (jH kF (pv 3) (iK gZ jC) (fun _ _=>rfl)) (j8 _)) (@jJ _ _ _ (oG mL rfl rfl T.c_NotLinked T.x_NotLinked (jA j3 jB))) kQ)
   (@jJ _ _ _ (zP (J7 PySem.F.plainAttrs_list PySem.F.slot_list_append PySem.F.type_list_append JU (pv 3) (jA (jH ix_tup (pv 6) jC (fun _ _=>rfl)) jB)))))))
   (@jJ _ _ _ (@jO _ _ _ _ (pv 3))))),?_⟩
 refine ⟨_,rfl,zz1,fun al hal0=>?_⟩
 have s1:=jK hal0 (.lst [V.int s₁])
 refine ⟨_,rfl,st,rfl,⟨_,SqT.of (s1 _ _ hst)⟩,DL (K:=K) (a:=st) (xs:=us) (fun i σ Hi=>∃c4 c5 c6:Option V,σ=[some (.ref x),some (.int s₁),some (.ref st),some (.ref al),c4,c5,c6]∧Hi al=some (.lst ((kS L s₁ (ps.take i)).map V.int))∧(∀(j:Nat) (p:Nat×Bool),j<i→ps[j]?=some p→(kS L s₁ ps)[j]?=some (qU L p).1)∧Same H Hi)
  ⟨none,none,none,rfl,jE,fun j p hj=>absurd hj (Nat.not_lt_zero j),s1⟩ (fun i σ Hi _ ⟨_,_,_,_,_,_,s⟩=>SqT.of (s _ _ hst)) ?_ ?_⟩
 ·rintro i v σ Hi hv ⟨c4,c5,c6,rfl,hal,hok,sm⟩
  obtain ⟨⟨pk,pb⟩,hp,t,rfl,ht⟩:=hP.2 i v hv
  have hpl:pk<L.length:=hlt _ (List.mem_of_getElem? hp)
  have hi:i<ps.length:=(List.getElem?_eq_some_iff.mp hp).1
  obtain ⟨l,hl'⟩:∃l,L[pk]?=some l:=⟨_,List.getElem?_eq_getElem hpl⟩
  obtain ⟨w,hw,y,rfl,dl,hl⟩:=hL.get hl'
  have hdl:(kS L s₁ (ps.take i)).length=i+1:=by rw [cC,List.length_take];omega
  obtain ⟨z,hz⟩:∃z,(kS L s₁ (ps.take i))[i]?=some z:=⟨_,List.getElem?_eq_getElem (by omega)⟩
  have hlast:qC ((kS L s₁ (ps.take i)).map V.int) (-1)=some (.int z):=atI_last (n:=i) (by rw [List.length_map,hdl]) (by rw [List.getElem?_map,hz];rfl)
  refine ⟨t,_,rfl,SqT.of (sm _ _ ht),rfl,_,_,rfl,_,_,rfl,rfl,?_⟩
  refine ⟨_,rfl,j0 ((sm _ _ hx)) (T.clN) (T.nN_locks) (hf.2.1) (⟨_,rfl,kL (SqL.of (sm _ _ hll)) (kX hw) (⟨_,rfl,y,l,pb,rfl,⟨y,rfl,dl,sm _ _ hl⟩,fun te He se hte0 hte=>?_⟩)⟩)⟩
  have smE:=sm.trans se
  have halE:=se _ _ hal
  have ee:qU L (pk,pb)=(if pb then l.low else l.high,if pb then l.high else l.low):=by cases pb;exact JV hl';exact JZ hl'
  have hdue:(kS L s₁ ps)[i]?=some z:=by rw [DP (by omega)];exact hz
  refine ⟨_,rfl,jM (SqT.of hte) rfl (⟨_,rfl,_,rfl,kL (SqL.of halE) hlast (⟨rfl,_,rfl,?_⟩)⟩)⟩
  by_cases h:(if pb then l.low else l.high)=z
  ·refine z3 (congrArg V.int h) ?_
   refine ⟨_,rfl,.inl ⟨rfl,_,SqL.of halE⟩,_,rfl,jM (SqT.of hte) rfl (⟨al,_,_,rfl,rfl,halE,qQ (by rw [List.length_map,hdl];omega),?_⟩)⟩
   refine ⟨_,_,_,rfl,?_,fun j p hj hpj=>?_,kY hal0 smE⟩
   ·rw [jE,List.take_add_one,hp]
    show _=some (HO.lst ((kS L s₁ (ps.take i++[(pk,pb)])).map V.int))
    rw [gF,List.map_append,ee]
    rfl
   ·by_cases c:j=i
    ·subst c
     rw [hp] at hpj
     cases hpj
     rw [hdue,ee,h]
    ·exact hok j p (by omega) hpj
  ·refine J8 (fun e=>h (V.int.inj e)) ⟨by show 1≤sizeLine;decide,qe (fun ok=>h ?_) _ smE⟩
   have:=ok i _ hp
   rw [hdue,ee] at this
   exact (Option.some.inj this).symm
 rintro σ Hi ⟨c4,c5,c6,rfl,hal,hok,sm⟩
 rw [hP.1,List.take_length] at hal
 exact ⟨_,rfl,qv (fun j p hp=>hok j p (by rw [hP.1];exact (List.getElem?_eq_some_iff.mp hp).1) hp) al Hi sm hal0 hal⟩
theorem w9:FnScope ["way","place"] ["way","place"] (jD ZM):=⟨rfl,rfl,rfl,by decide +kernel,rfl,by decide +kernel,by decide +kernel⟩
theorem uW {f:Addr} {fd:FuncData} (F:Fun K "steps_to_do" "steps_to_do" ZM f fd) (T:Txt K mg cP cB cU cR cN tkS eW eL tkH) : FnOk P w K mg base jQ 1 f fd ["way","place"] (pO):=by
 refine F.ok w9 (fun vs H Q E h=>?_) (fun cdv A outer s H vs Q E hr h=>?_)
 ·obtain ⟨t,y,p,rfl,⟨t₂,st,us,e,h1,h2,h3⟩,q⟩:=h
  rfl
 obtain ⟨t,y,p,rfl,⟨t₂,st,us,e,h1,h2,h3⟩,q⟩:=h
 have hu:_<cLine:=hr.units0
 have hu1:=jV hr
 refine ⟨_,(@jJ _ _ _ (@jO _ _ _ _ (@jG _ _ _ _ _ _ _ _ vQ (kD kJ (by rfl) T.z_len PySem.boot_len (jA (jH ix_tup (pv 0) jC (fun _ _=>rfl)) jB)) (pv 1)))),?_⟩
 cases e
 refine ⟨_,rfl,jM (SqT.of h1) rfl (⟨st,_,rfl,.inr (SqT.of h2),_,rfl,jU (?_)⟩)⟩
 rw [h3.1]
 exact q
theorem w4:FnScope ["canal","way","place"] ["canal","way","place"] (jD ZI):=⟨rfl,rfl,rfl,by decide +kernel,rfl,by decide +kernel,by decide +kernel⟩
theorem uQ {f:Addr} {fd:FuncData} (F:Fun K "reach_of" "reach_of" ZI f fd) (T:Txt K mg cP cB cU cR cN tkS eW eL tkH) (D_steps_to_do:Def P w K mg base 1 "steps_to_do" ["way","place"] [] (pO)) (D_linked:Def P w K mg base 2 "linked" ["canal","start","steps"] [] (fY K (jF cP cB cU) cR cN)):FnOk P w K mg base jQ 3 f fd ["canal","way","place"] (fX (jF cP cB cU) cR cN):=by
 refine F.ok w4 (fun vs H Q E h=>?_) (fun cdv A outer s H vs Q E hr h=>?_)
 ·obtain ⟨x,t,y,p,D,R,L,N,rfl,hc,hwy,ok,hp,q⟩:=h
  rfl
 obtain ⟨x,t,y,p,D,R,L,N,rfl,hc,hwy,ok,hp,q⟩:=h
 have hu:_<cLine:=hr.units0
 have hu1:=jV hr
 refine ⟨_,(@jI _ _ _ _ _ (kN (kB kR (jL D_steps_to_do hr rfl (jA (pv 1) (jA (pv 2) jB))) jC (j8 _)) (@jJ _ _ _ (@jO _ _ _ _ (cE (v:=.int (-1)) rfl T.g_HOME ⟨_,rfl⟩))) kQ)
   (@jJ _ _ _ (@jO _ _ _ _ (jH kF (jL D_linked hr rfl (@jA _ _ _ _ _ (pv 0) (@jA _ _ _ _ _ (jH ix_tup (pv 1) jC (fun _ _=>rfl)) (@jA _ _ _ _ _ (jH ix_tup (pv 1) jC (fun _ _=>rfl)) jB (by rfl)) (by rfl)) (by rfl))) (pv 2) (fun _ _=>rfl))))),?_⟩
 obtain ⟨t₂,st,us,e,h1,h2,h3⟩:=id hwy
 cases e
 refine ⟨_,rfl,_,rfl,t,y,_,rfl,hwy,rfl,_,rfl,?_⟩
 by_cases h:p=y.2.length
 ·refine qD (congrArg V.int (by omega)) ?_
  have:=q H (Same.refl _)
  rw [show qG L y p = -1 from if_pos h] at this
  exact this
 ·refine kM (fun z=>h (by have:=V.int.inj z;omega)) ?_
  have hle:=ok.le
  refine ⟨_,rfl,_,rfl,jM (SqT.of h1) rfl (⟨_,rfl,jM (SqT.of h1) rfl (⟨x,st,y.1,us,y.2,D,R,L,N,rfl,hc,h2,h3,ok.lt,by omega,ok.ok,fun r H' s' hr0 hr=>?_⟩)⟩)⟩
  have hl:p<(kS L y.1 y.2).length:=by rw [cC];omega
  refine ⟨_,rfl,kL (SqL.of hr) (qF hl) (?_)⟩
  have:=q H' s'
  rw [show qG L y p=(kS L y.1 y.2).getD p 0 from if_neg h] at this
  exact this
theorem wW:FnScope ["canal","ways","state","reach"] ["canal","ways","state","reach"] (jD JO):=⟨rfl,rfl,rfl,by decide +kernel,rfl,by decide +kernel,by decide +kernel⟩
theorem uF {f:Addr} {fd:FuncData} (F:Fun K "lying" "lying" JO f fd) (T:Txt K mg cP cB cU cR cN tkS eW eL tkH) (D_reach_of:Def P w K mg base 3 "reach_of" ["canal","way","place"] [] (fX (jF cP cB cU) cR cN)):FnOk P w K mg base jQ 4 f fd ["canal","ways","state","reach"] (o5 (jF cP cB cU) cR cN):=by
 refine F.ok wW (fun vs H Q E h=>?_) (fun cdv A outer s H vs Q E hr h=>?_)
 ·obtain ⟨x,wl,st,r,us,ys,d,ms,pl,D,R,L,N,rfl,hc,hwl,hA,⟨wt,pt,hst,hwt,hpt⟩,hfl,q⟩:=h
  rfl
 obtain ⟨x,wl,st,r,us,ys,d,ms,pl,D,R,L,N,rfl,hc,hwl,hA,⟨wt,pt,hst,hwt,hpt⟩,hfl,q⟩:=h
 have hu:_<cLine:=hr.units0
 have hu1:=jV hr
 refine ⟨_,(@jJ _ _ _ (@jO _ _ _ _ (J7 PySem.F.plainAttrs_list PySem.F.slot_list_count PySem.F.type_list_count CA (vE ["way","place","canal"] (kP 2 [0]) rfl (kZ (jD JO) rfl rfl (by decide +kernel) (by decide +kernel) (by decide +kernel)) (qA 2 [0] rfl rfl (by decide +kernel)) (C4 (by rfl) T.z_zip (jA (pv 1) (jA (jH ix_tup (pv 2) jC (fun _ _=>rfl)) jB))) (fun _ _ _ _ _=>(zE (n:=2) K rfl (kW (j7 (i:=0) (show List.Nodup (["way","place","canal"]:List Str) from by decide +kernel) rfl (by first|exact Or.inl rfl|exact Or.inr rfl)) (kW (j7 (i:=1) (show List.Nodup (["way","place","canal"]:List Str) from by decide +kernel) rfl (by first|exact Or.inl rfl|exact Or.inr rfl)) yF)))) (fun _ _ _ _ _=>qR) (fun _ _ _ _ _=>(jL D_reach_of hr rfl (@jA _ _ _ _ _ (pv 2) (@jA _ _ _ _ _ (pv 0) (@jA _ _ _ _ _ (pv 1) jB (by rfl)) (by rfl)) (by rfl))))) (jA (pv 3) jB)))),?_⟩
 refine ⟨_,rfl,_,rfl,jM (SqT.of hst) rfl (⟨wl,pt,rfl,⟨_,SqL.of hwl⟩,⟨_,SqT.of hpt⟩,fun D₁ hD₁=>?_⟩)⟩
 refine x8 (K:=K) (a1:=wl) (a2:=pt) (xs:=us) (ys:=pl.map fun (p:Nat)=>V.int (p:Int)) (fun i σ Hi=>∃c1 c2:Option V,σ=[c1,c2,some (.ref x)]∧Hi D₁=some (.lst (((v0 L ys pl).take i).map V.int))∧Same H Hi)
  ⟨none,none,rfl,by rw [jE,List.take_zero];rfl,jK hD₁ _⟩ (fun i σ Hi _ ⟨_,_,_,_,s⟩=>⟨SqL.of (s _ _ hwl),SqT.of (s _ _ hpt)⟩) (by rw [hA.1,List.length_map,hfl.len]) ?_ ?_
 ·rintro i v z σ Hi T₁ hv hz ⟨c1,c2,rfl,hY,sm⟩ hT
  obtain ⟨y,hy,hwy⟩:=hA.2 i v hv
  have hi:i<ys.length:=(List.getElem?_eq_some_iff.mp hy).1
  obtain ⟨t,st₂,us₂,rfl,hw1,hw2,hw3⟩:=id hwy
  have hip:i<pl.length:=by rw [hfl.len];exact hi
  rw [List.getElem?_map,List.getElem?_eq_getElem hip] at hz
  cases hz
  have u:=jK hT (.tup [V.ref t,V.int ((pl[i]:Nat):Int)])
  have smu:=sm.trans u
  have hwy2:=WyAt.same smu _ _ hwy
  have hp:=hfl.le i y pl[i] hy (List.getElem?_eq_getElem hip)
  have hg1:ys.getD i (0,[])=y:=by rw [List.getD_eq_getElem?_getD,hy];rfl
  have hg2:pl.getD i 0=pl[i]:=by rw [List.getD_eq_getElem?_getD,List.getElem?_eq_getElem hip];rfl
  have h10:=hfl.n10
  have hYu:=u _ _ hY
  refine ⟨T₁,_,rfl,SqT.of jE,rfl,_,_,rfl,_,_,rfl,rfl,?_⟩
  generalize upd Hi T₁ (.tup [V.ref t,V.int ((pl[i]:Nat):Int)])=Hj at u smu hwy2 hYu ⊢
  refine qT (kI ?_)
  refine ⟨_,rfl,_,rfl,_,rfl,x,t,y,pl[i],D,R,L,N,rfl,hc.same smu,hwy2,hfl.ok y (List.mem_of_getElem? hy),hp,fun H' s'=>?_⟩
  refine ⟨_,s' _ _ hYu,qQ (by rw [List.length_map,List.length_take];unfold v0;rw [List.length_map,List.length_range];omega),_,_,rfl,?_,kY hD₁ (smu.trans s')⟩
  rw [jE,List.take_add_one,show (v0 L ys pl)[i]?=some (qG L y pl[i]) by unfold v0;rw [List.getElem?_map,List.getElem?_range hi,← hg1,← hg2];rfl,List.map_append]
  rfl
 rintro σ Hf ⟨c1,c2,rfl,hY,sm⟩
 rw [hA.1,List.take_of_length_le (by unfold v0;rw [List.length_map,List.length_range];exact Nat.le_refl _)] at hY
 refine ⟨.inl ⟨rfl,_,SqL.of hY⟩,_,rfl,D₁,_,_,rfl,rfl,hY,rfl,zC _,?_⟩
 have e:((v0 L ys pl).map V.int).countP (fun z=>qN z (.int r))=(v0 L ys pl).countP fun z=>decide (z=r):=by rw [List.countP_map];rfl
 rw [e]
 exact q Hf sm
theorem wN:FnScope ["canal","ways"] ["canal","ways"] (jD Q3):=⟨rfl,rfl,rfl,by decide +kernel,rfl,by decide +kernel,by decide +kernel⟩
theorem tX {f:Addr} {fd:FuncData} (F:Fun K "begun" "begun" Q3 f fd) (T:Txt K mg cP cB cU cR cN tkS eW eL tkH) (MM_Canal_start:MeD P w K mg base 5 cN "start" ["self"] (gJ (jF cP cB cU) cR cN)):FnOk P w K mg base jQ 6 f fd ["canal","ways"] (o9 (jF cP cB cU) cR cN):=by
 refine F.ok wN (fun vs H Q E h=>?_) (fun cdv A outer s H vs Q E hr h=>?_)
 ·obtain ⟨x,wl,us,D,R,L,N,rfl,hc,hwl,h100,b1,b2,hT,q⟩:=h
  rfl
 obtain ⟨x,wl,us,D,R,L,N,rfl,hc,hwl,h100,b1,b2,hT,q⟩:=h
 have hu:_<cLine:=hr.units0
 have hu1:=jV hr
 refine ⟨_,(@jJ _ _ _ (@jO _ _ _ _ (kG (@jA _ _ _ _ _ jC (@jA _ _ _ _ _ (yH MM_Canal_start hr (pv 0)) (@jA _ _ _ _ _ (@jG _ _ _ _ _ _ _ _ DA (kG (jA jC jB)) (kD kJ (by rfl) T.z_len PySem.boot_len (jA (pv 1) jB))) jB (by rfl)) (by rfl)) (by rfl))))),?_⟩
 have hc0:=hc
 obtain ⟨dx,rl,ll,nl,fs,rs,ls,nv,hx,hf,hrl,hll,hnl,hR,hL,hN,d1,d2,d3⟩:=hc
 refine ⟨_,rfl,x,dx,_,rfl,hx,hf.no (by decide +kernel) (by decide +kernel) (by decide +kernel),x,D,R,L,N,rfl,hc0,b1,b2,hT,fun wt H1 gs s1 hwt0 hwt hSp=>?_⟩
 refine ⟨zz1,fun p hp=>?_⟩
 have s2:=jK hp (.tup [V.int 0])
 refine ⟨_,rfl,wl,_,rfl,.inl (SqL.of (s2 _ _ (s1 _ _ hwl))),?_⟩
 have s12:=s1.trans s2
 have fin:∀(zt:Addr) (H3:Hp),Same (upd H1 p (.tup [V.int 0])) H3→H3 zt=some (.tup (List.replicate us.length (.int 0)))→(3≤sizeLine∧∀t,H3 t=none→Q (.ref t) (upd H3 t (.tup [.int 0,.ref wt,.ref zt]))):=fun zt H3 s3 hzt=>⟨by decide,fun t ht=>by
  have s4:=jK ht (.tup [V.int 0,V.ref wt,V.ref zt])
  exact q t wt zt _ gs ((s12.trans s3).trans s4) jE (s4 _ _ (s3 _ _ (s2 _ _ hwt))) hSp (s4 _ _ hzt)⟩
 refine ⟨p,.int 0,us.length,rfl,rfl,jE,by omega,fun h1=>?_,fun h1 zt hzt=>?_⟩
 ·exact fin p _ (Same.refl _) (by rw [h1];exact jE)
 ·exact fin zt _ (jK hzt _) jE
theorem bJ:FnScope ["canal","state","weather","waters","sky","sun","rain"] ["canal","state","weather"] (jD y7):=⟨rfl,rfl,rfl,by decide +kernel,rfl,by decide +kernel,by decide +kernel⟩
theorem uI {f:Addr} {fd:FuncData} (F:Fun K "night_pours" "night_pours" y7 f fd) (T:Txt K mg cP cB cU cR cN tkS eW eL tkH) (MM_Canal_sky:MeD P w K mg base 2 cN "sky" ["self"] (yB (jF cP cB cU) cR cN bD)) (D_with_spills:Def P w K mg base 4 "with_spills" ["weirs","waters","pours"] [] (gS K)) (MM_Canal_weirs:MeD P w K mg base 2 cN "weirs" ["self"] (bW (jF cP cB cU) cR cN)):FnOk P w K mg base jQ 5 f fd ["canal","state","weather"] (gM K (jF cP cB cU) cR cN):=by
 refine F.ok bJ (fun vs H Q E h=>?_) (fun cdv A outer s H vs Q E hr h=>?_)
 ·obtain ⟨x,t,wl,d,ms,ps,us,W,D,R,L,N,rfl,hc,⟨wt,pt,h1,h2,h3⟩,hwl,hA,hWR,hms,hR100,hL100,hTg,q⟩:=h
  rfl
 obtain ⟨x,t,wl,d,ms,ps,us,W,D,R,L,N,rfl,hc,⟨wt,pt,h1,h2,h3⟩,hwl,hA,hWR,hms,hR100,hL100,hTg,q⟩:=h
 have hu:_<cLine:=hr.units0
 have hu1:=jV hr
 refine ⟨_,(@jI _ _ _ _ _ (jT (i:=3) bJ.nd rfl (by first|exact Or.inl rfl|exact Or.inr rfl) (jH ix_tup (pv 1) jC (fun _ _=>rfl)))
   (@jI _ _ _ _ _ (jT (i:=4) bJ.nd rfl (by first|exact Or.inl rfl|exact Or.inr rfl) (yH MM_Canal_sky hr (pv 0)))
   (@jI _ _ _ _ _ (zB (i:=5) ["at","pair","sky","waters"] (kP 2 [4,3]) bJ.nd rfl (by first|exact Or.inl rfl|exact Or.inr rfl) rfl (kZ (jD y7) rfl rfl (by decide +kernel) (by decide +kernel) (by decide +kernel)) (qA 2 [4,3] rfl rfl (by decide +kernel)) (pE (by rfl) T.z_enumerate (jA (pv 2) jB)) (fun _ _ _ _ _=>(zE (n:=2) K rfl (kW (j7 (i:=0) (show List.Nodup (["at","pair","sky","waters"]:List Str) from by decide +kernel) rfl (by first|exact Or.inl rfl|exact Or.inr rfl)) (kW (j7 (i:=1) (show List.Nodup (["at","pair","sky","waters"]:List Str) from by decide +kernel) rfl (by first|exact Or.inl rfl|exact Or.inr rfl)) yF)))) (fun _ _ _ _ _=>qR) (fun _ _ _ _ _=>(kG (@jA _ _ _ _ _ (pv 0) (@jA _ _ _ _ _ (pv 2) (@jA _ _ _ _ _ (kD (nK rfl) (by rfl) T.z_min PyProof.Rows.boot_min (jA (jH (yO K) (pv 1) jC (fun _ _=>rfl)) (jA (jH (yO K) (pv 3) (pv 0) (fun _ _=>rfl)) jB))) jB (by rfl)) (by rfl)) (by rfl)))))
   (@jI _ _ _ _ _ (zB (i:=6) ["at","pair","sky"] (kP 2 [4]) bJ.nd rfl (by first|exact Or.inl rfl|exact Or.inr rfl) rfl (kZ (jD y7) rfl rfl (by decide +kernel) (by decide +kernel) (by decide +kernel)) (qA 2 [4] rfl rfl (by decide +kernel)) (pE (by rfl) T.z_enumerate (jA (pv 2) jB)) (fun _ _ _ _ _=>(zE (n:=2) K rfl (kW (j7 (i:=0) (show List.Nodup (["at","pair","sky"]:List Str) from by decide +kernel) rfl (by first|exact Or.inl rfl|exact Or.inr rfl)) (kW (j7 (i:=1) (show List.Nodup (["at","pair","sky"]:List Str) from by decide +kernel) rfl (by first|exact Or.inl rfl|exact Or.inr rfl)) yF)))) (fun _ _ _ _ _=>qR) (fun _ _ _ _ _=>(kG (@jA _ _ _ _ _ (pv 2) (@jA _ _ _ _ _ (pv 0) (@jA _ _ _ _ _ (jH (yO K) (pv 1) jC (fun _ _=>rfl)) jB (by rfl)) (by rfl)) (by rfl)))))
   (@jJ _ _ _ (@jO _ _ _ _ (jL D_with_spills hr rfl (@jA _ _ _ _ _ (yH MM_Canal_weirs hr (pv 0)) (@jA _ _ _ _ _ (pv 3) (@jA _ _ _ _ _ (vE ["pour"] (kP 1 []) rfl (kZ (jD y7) rfl rfl (by decide +kernel) (by decide +kernel) (by decide +kernel)) (qA 1 [] rfl rfl (by decide +kernel)) (qY (@jG _ _ _ _ _ _ _ _ J3 (pv 5) (pv 6))) (fun _ _ _ _ _=>(j7 (i:=0) (show List.Nodup (["pour"]:List Str) from by decide +kernel) rfl (by first|exact Or.inl rfl|exact Or.inr rfl))) (fun _ _ _ _ _=>(ZW (kB z0 (jH (yO K) (pv 0) jC (fun _ _=>rfl)) jC (j8 _)))) (fun _ _ _ _ _=>(pv 0))) jB (by rfl)) (by rfl)) (by rfl))))))))),?_⟩
 have hc0:=hc
 obtain ⟨dx,rl,ll,nl,fs,rs,ls,nv,hx,hf,hrl,hll,hnl,hR,hL,hN,d1,d2,d3⟩:=hc
 obtain ⟨sk,hsk⟩:∃sk,sk=R.length+2*L.length+1:=⟨_,rfl⟩
 have esk:bD R.length L.length=(sk:Int):=by unfold bD;omega
 refine ⟨_,rfl,jM (SqT.of h1) rfl (?_)⟩
 refine ⟨_,rfl,x,dx,_,rfl,hx,hf.no (by decide +kernel) (by decide +kernel) (by decide +kernel),x,D,R,L,N,rfl,hc0,?_⟩
 rw [esk]
 refine ⟨_,rfl,wl,rfl,⟨_,SqL.of hwl⟩,fun D₁ hD₁=>?_⟩
 refine lR (K:=K) (a:=wl) (xs:=us) (fun i σ Hi=>∃c1 c2:Option V,σ=[c1,c2,some (.int (sk:Int)),some (.ref wt)]∧∃ys:List V,Hi D₁=some (.lst ys)∧PoursH Hi ys ((JA sk ms W R.length).take i) ms.length∧Same H Hi) ⟨none,none,rfl,[],jE,PoursH.nil _ _,jK hD₁ _⟩ (fun i σ Hi _ ⟨_,_,_,_,_,_,s⟩=>SqL.of (s _ _ hwl)) ?_ ?_
 ·rintro i v σ Hi T₁ hv ⟨c1,c2,rfl,ys,hY,hP,sm⟩ hT
  have hi:i<us.length:=(List.getElem?_eq_some_iff.mp hv).1
  rw [hA.1] at hi
  obtain ⟨y,hy,t1,rfl,ht1⟩:=hA.2 i v hv
  have u:=jK hT (.tup [V.int (i:Int),V.ref t1])
  have smu:=sm.trans u
  have hYu:=u _ _ hY
  refine ⟨T₁,_,rfl,SqT.of jE,rfl,_,_,rfl,_,_,rfl,rfl,?_⟩
  generalize upd Hi T₁ (.tup [V.int (i:Int),V.ref t1])=Hj at u smu hYu ⊢
  refine qT (kI ?_)
  refine ⟨_,rfl,_,rfl,_,rfl,jM (SqT.of (smu _ _ ht1)) rfl (⟨_,rfl,_,rfl,jM (SqT.of (smu _ _ h2)) (qF (by omega)) (⟨_,_,rfl,?_⟩)⟩)⟩
  try dsimp only
  first|rw [← o0 hy]|rw [← BY hy]
  refine ⟨zz3,fun tp htp=>?_⟩
  have u2:=jK htp (.tup [V.int (i:Int),V.int (sk:Int),V.int (zN ms W i)])
  have hY2:=u2 _ _ hYu
  have hlen:=hP.1
  rw [List.length_take,gI] at hlen
  refine ⟨ys,hY2,qQ (by omega),_,_,rfl,ys++[.ref tp],jE,?_,kY hD₁ (smu.trans u2)⟩
  rw [A4 (by omega)]
  exact (((hP.same u).same u2).snoc jE (by omega) (by omega)).put hY2
 rintro σ H1 ⟨c1,c2,rfl,ys1,hY1,hP1,s1⟩
 rw [hA.1,hWR,List.take_of_length_le (by rw [gI];exact Nat.le_refl _)] at hP1
 refine ⟨_,rfl,wl,rfl,⟨_,SqL.of (s1 _ _ hwl)⟩,fun D₂ hD₂=>?_⟩
 refine lR (K:=K) (a:=wl) (xs:=us) (fun i σ Hi=>∃c1 c2:Option V,σ=[c1,c2,some (.int (sk:Int))]∧∃ys:List V,Hi D₂=some (.lst ys)∧PoursH Hi ys ((zZ sk W R.length).take i) ms.length∧Same H1 Hi) ⟨none,none,rfl,[],jE,PoursH.nil _ _,jK hD₂ _⟩ (fun i σ Hi _ ⟨_,_,_,_,_,_,s⟩=>SqL.of (s _ _ (s1 _ _ hwl))) ?_ ?_
 ·rintro i v σ Hi T₁ hv ⟨c1,c2,rfl,ys,hY,hP,sm⟩ hT
  have hi:i<us.length:=(List.getElem?_eq_some_iff.mp hv).1
  rw [hA.1] at hi
  obtain ⟨y,hy,t1,rfl,ht1⟩:=hA.2 i v hv
  have ht1:=s1 _ _ ht1
  have u:=jK hT (.tup [V.int (i:Int),V.ref t1])
  have smu:=sm.trans u
  have hYu:=u _ _ hY
  refine ⟨T₁,_,rfl,SqT.of jE,rfl,_,_,rfl,_,_,rfl,rfl,?_⟩
  generalize upd Hi T₁ (.tup [V.int (i:Int),V.ref t1])=Hj at u smu hYu ⊢
  refine qT (kI ?_)
  refine ⟨_,rfl,_,rfl,_,rfl,jM (SqT.of (smu _ _ ht1)) rfl (?_)⟩
  rw [show y.1=(W.getD i (0,0)).1 by rw [i0 hy]]
  refine ⟨zz3,fun tp htp=>?_⟩
  have u2:=jK htp (.tup [V.int (sk:Int),V.int (i:Int),V.int (W.getD i (0,0)).1])
  have hY2:=u2 _ _ hYu
  have hlen:=hP.1
  rw [List.length_take,gA] at hlen
  refine ⟨ys,hY2,qQ (by omega),_,_,rfl,ys++[.ref tp],jE,?_,kY hD₂ (smu.trans u2)⟩
  rw [AD (by omega)]
  exact (((hP.same u).same u2).snoc jE (by omega) (by omega)).put hY2
 rintro σ H2 ⟨c1',c2',rfl,ys2,hY2,hP2,s2⟩
 rw [hA.1,hWR,List.take_of_length_le (by rw [gA];exact Nat.le_refl _)] at hP2
 have s12:=s1.trans s2
 have hl1:=hP1.1
 have hl2:=hP2.1
 rw [gI] at hl1
 rw [gA] at hl2
 refine ⟨_,rfl,x,dx,_,rfl,(s12 _ _ hx),hf.no (by decide +kernel) (by decide +kernel) (by decide +kernel),x,D,R,L,N,rfl,hc0.same s12,hR100,fun wq ws H3 s3 hwq0 hwq hW=>?_⟩
 have s13:=s12.trans s3
 refine ⟨_,rfl,_,rfl,_,rfl,D₁,D₂,_,_,rfl,rfl,s3 _ _ (s2 _ _ hY1),s3 _ _ hY2,small (by omega),fun al hal=>?_⟩
 have s4:=jK hal (.lst (ys1++ys2))
 have hal4:upd H3 al (.lst (ys1++ys2)) al=_:=jE
 have hP4:PoursH (upd H3 al (.lst (ys1++ys2))) (ys1++ys2) (vW sk ms W R.length) ms.length:=(((hP1.same s2).same s3).same s4).append ((hP2.same s3).same s4)
 have s14:=s13.trans s4
 have hwq4:=s4 _ _ hwq
 have hW4:=hW.mono (QAt.same s4)
 generalize upd H3 al (.lst (ys1++ys2))=H4 at s4 hal4 hP4 s14 hwq4 hW4 ⊢
 refine ⟨al,rfl,⟨_,SqL.of hal4⟩,fun Df hDf=>?_⟩
 refine JF (K:=K) (a:=al) (xs:=ys1++ys2) (caps:=[]) (fun i ys Hi=>PoursH Hi ys (((vW sk ms W R.length).take i).filter kH) ms.length) hDf (SqL.of hal4) (PoursH.nil _ _) ?_ ?_
 ·rintro i v ys Hi hv hi hle sm hY hP
  rw [List.length_append] at hi
  obtain ⟨a,s,tt,m,rfl,hq,hT,hs,ht⟩:=hP4.2 i v hv
  have ef:((vW sk ms W R.length).take (i+1)).filter kH=((vW sk ms W R.length).take i).filter kH++[(s,tt,m)].filter kH:=by
   rw [List.take_add_one,hq,List.filter_append]
   rfl
  refine ⟨_,rfl,jM (SqT.of (sm _ _ hT)) rfl (⟨rfl,_,rfl,?_⟩)⟩
  by_cases hz:m=0
  ·refine z3 (congrArg V.int hz) (d0 sm hY hle (Same.refl _) ?_)
   rw [ef,List.filter_cons,if_neg (by unfold kH;rw [decide_eq_true (show m=0 from hz)];decide)]
   show PoursH Hi ys (_++[]) _
   rw [List.append_nil]
   exact hP
  refine J8 (fun e=>hz (V.int.inj e)) ⟨_,rfl,vA hDf sm hY hle (by omega) (Same.refl _) ?_⟩
  rw [ef,List.filter_cons,if_pos (by unfold kH;rw [decide_eq_false (show ¬m=0 from hz)];rfl)]
  exact (hP.snoc (sm _ _ hT) hs ht).put hY
 rintro ys H5 s5 hY5 hle5 hP5
 rw [hP4.1,List.take_of_length_le (Nat.le_refl _)] at hP5
 have s15:=s14.trans s5
 refine ⟨wq,wt,Df,ws,ys,j4 R L.length,ms,_,rfl,fM hTg (hW4.mono (QAt.same s5)) (s5 _ _ hwq4) (.inr (SqT.of (s15 _ _ h2))) hms hR100 hL100,hY5,hP5,?_,fun r H' gs zs s' hr0 hr hP' hS=>?_⟩
 ·rw [List.length_append] at hle5
  omega
 subst hsk
 exact q r H' gs zs (s15.trans s') (s15.free hr0) hr hP' hS
theorem wR:FnScope ["canal","ways","state","reach"] ["canal","ways","state","reach"] (jD Q6):=⟨rfl,rfl,rfl,by decide +kernel,rfl,by decide +kernel,by decide +kernel⟩
theorem t6 {f:Addr} {fd:FuncData} (F:Fun K "has_no_berth" "has_no_berth" Q6 f fd) (T:Txt K mg cP cB cU cR cN tkS eW eL tkH) (D_lying:Def P w K mg base 4 "lying" ["canal","ways","state","reach"] [] (o5 (jF cP cB cU) cR cN)):FnOk P w K mg base jQ 5 f fd ["canal","ways","state","reach"] (mT (jF cP cB cU) cR cN):=by
 refine F.ok wR (fun vs H Q E h=>?_) (fun cdv A outer s H vs Q E hr h=>?_)
 ·obtain ⟨x,wl,st,b,r,us,ys,d,ms,pl,D,R,L,N,rfl,hG,hrc,q⟩:=h
  rfl
 obtain ⟨x,wl,st,b,r,us,ys,d,ms,pl,D,R,L,N,rfl,hG,hrc,q⟩:=h
 have hu:_<cLine:=hr.units0
 have hu1:=jV hr
 refine ⟨_,(@jJ _ _ _ (@jO _ _ _ _ (zF rO (jL D_lying hr rfl (@jA _ _ _ _ _ (pv 0) (@jA _ _ _ _ _ (pv 1) (@jA _ _ _ _ _ (pv 2) (@jA _ _ _ _ _ (pv 3) jB (by rfl)) (by rfl)) (by rfl)) (by rfl))) (jZ (jH kF (jZ (pv 0) rfl) (pv 3) (fun _ _=>rfl)) rfl) (j8 _)))),?_⟩
 obtain ⟨hc,hdr,hwl,hA,hst,hfl,hml⟩:=id hG
 have hc0:=hc
 obtain ⟨dx,rl,ll,nl,fs,rs,ls,nv,hx,hf,hrl,hll,hnl,hR,hL,hN,d1,d2,d3⟩:=hc
 obtain ⟨z,hz,yr,rfl,dy,gs,hyr,hg⟩:=hR.get hrc
 refine ⟨_,rfl,_,rfl,_,rfl,_,rfl,x,wl,st,_,us,ys,d,ms,pl,D,R,L,N,rfl,hc0,hwl,hA,hst,hfl,fun H3 s3=>?_⟩
 exact ⟨_,rfl,j0 ((s3 _ _ hx)) (T.clN) (T.nN_reaches) (hf.1) (⟨_,rfl,kL (SqL.of (s3 _ _ hrl)) (kX hz) (j0 ((s3 _ _ hyr)) (T.clR) (T.nR_berths) (hg.2.2.2.1) (jU (q H3 s3)))⟩)⟩
theorem wX:FnScope ["way","place"] ["way","place"] (jD ZC):=⟨rfl,rfl,rfl,by decide +kernel,rfl,by decide +kernel,by decide +kernel⟩
theorem uH {f:Addr} {fd:FuncData} (F:Fun K "next_step" "next_step" ZC f fd) (T:Txt K mg cP cB cU cR cN tkS eW eL tkH) : FnOk P w K mg base jQ 1 f fd ["way","place"] (pQ):=by
 refine F.ok wX (fun vs H Q E h=>?_) (fun cdv A outer s H vs Q E hr h=>?_)
 ·obtain ⟨t,y,p,s₁,rfl,⟨t₂,st₂,vs₂,e,hw1,hw2,hw3⟩,hs,q⟩:=h
  rfl
 obtain ⟨t,y,p,s₁,rfl,⟨t₂,st₂,vs₂,e,hw1,hw2,hw3⟩,hs,q⟩:=h
 have hu:_<cLine:=hr.units0
 have hu1:=jV hr
 refine ⟨_,(@jJ _ _ _ (@jO _ _ _ _ (jH ix_tup (jH ix_tup (pv 0) jC (fun _ _=>rfl)) (pv 1) (fun _ _=>rfl)))),?_⟩
 cases e
 obtain ⟨v3,hv3,hP3⟩:=hw3.get hs
 exact ⟨_,rfl,jM (SqT.of hw1) rfl (⟨_,rfl,jM (SqT.of hw2) (kX hv3) (q _ hP3)⟩)⟩
theorem wY:FnScope ["places","boat"] ["places","boat"] (jD JP):=⟨rfl,rfl,rfl,by decide +kernel,rfl,by decide +kernel,by decide +kernel⟩
theorem uJ {f:Addr} {fd:FuncData} (F:Fun K "one_step_on" "one_step_on" JP f fd) (T:Txt K mg cP cB cU cR cN tkS eW eL tkH) : FnOk P w K mg base jQ 1 f fd ["places","boat"] (nZ):=by
 refine F.ok wY (fun vs H Q E h=>?_) (fun cdv A outer s H vs Q E hr h=>?_)
 ·obtain ⟨pt,pl,b,rfl,hpt,h100,q⟩:=h
  rfl
 obtain ⟨pt,pl,b,rfl,hpt,h100,q⟩:=h
 have hu:_<cLine:=hr.units0
 have hu1:=jV hr
 refine ⟨_,(@jJ _ _ _ (@jO _ _ _ _ (v6 dO (by rfl) T.z_tuple PyProof.Rows.boot_tuple (jA (vE ["at","place","boat"] (kP 2 [1]) rfl (kZ (jD JP) rfl rfl (by decide +kernel) (by decide +kernel) (by decide +kernel)) (qA 2 [1] rfl rfl (by decide +kernel)) (B5 (by rfl) T.z_enumerate (jA (pv 0) jB)) (fun _ _ _ _ _=>(zE (n:=2) K rfl (kW (j7 (i:=0) (show List.Nodup (["at","place","boat"]:List Str) from by decide +kernel) rfl (by first|exact Or.inl rfl|exact Or.inr rfl)) (kW (j7 (i:=1) (show List.Nodup (["at","place","boat"]:List Str) from by decide +kernel) rfl (by first|exact Or.inl rfl|exact Or.inr rfl)) yF)))) (fun _ _ _ _ _=>qR) (fun _ _ _ _ _=>(zD (kB kR (pv 0) (pv 2) (j8 _)) (@jG _ _ _ _ _ _ _ _ jY (pv 1) jC) (pv 1)))) jB)))),?_⟩
 refine ⟨_,rfl,pt,rfl,⟨_,SqT.of hpt⟩,fun D₁ hD₁=>?_⟩
 refine xO (K:=K) (a:=pt) (xs:=pl.map fun (p:Nat)=>V.int (p:Int)) (fun i σ Hi=>∃c1 c2:Option V,σ=[c1,c2,some (.int (b:Int))]∧Hi D₁=some (.lst (((yA pl b).take i).map fun (p:Nat)=>V.int (p:Int)))∧Same H Hi) ⟨none,none,rfl,jE,jK hD₁ _⟩ (fun i σ Hi _ ⟨_,_,_,_,s⟩=>SqT.of (s _ _ hpt)) ?_ ?_
 ·rintro i v σ Hi T₁ hv ⟨c1,c2,rfl,hY,sm⟩ hT
  have hi:i<pl.length:=by have:=(List.getElem?_eq_some_iff.mp hv).1;rw [List.length_map] at this;exact this
  rw [List.getElem?_map,List.getElem?_eq_getElem hi] at hv
  cases hv
  have u:=jK hT (.tup [V.int (i:Int),V.int ((pl[i]:Nat):Int)])
  have smu:=sm.trans u
  have hYu:=u _ _ hY
  refine ⟨T₁,_,rfl,SqT.of jE,rfl,_,_,rfl,_,_,rfl,rfl,?_⟩
  generalize upd Hi T₁ (.tup [V.int (i:Int),V.int ((pl[i]:Nat):Int)])=Hj at u smu hYu ⊢
  have eg:pl.getD i 0=pl[i]:=by rw [List.getD_eq_getElem?_getD,List.getElem?_eq_getElem hi];rfl
  refine qT (kI ?_)
  refine ⟨_,rfl,_,rfl,rfl,_,rfl,?_⟩
  by_cases h:i=b
  ·refine qD (by rw [h]) ⟨_,rfl,jU (⟨_,hYu,qQ (by rw [List.length_map,List.length_take,bP];omega),_,_,rfl,?_,kY hD₁ smu⟩)⟩
   rw [jE,lN hi,if_pos h,eg,List.map_append]
   rfl
  ·refine kM (fun e=>h (by have:=V.int.inj e;omega)) ⟨_,rfl,_,hYu,qQ (by rw [List.length_map,List.length_take,bP];omega),_,_,rfl,?_,kY hD₁ smu⟩
   rw [jE,lN hi,if_neg h,eg,List.map_append]
   rfl
 rintro σ Hf ⟨c1,c2,rfl,hY,sm⟩
 rw [List.length_map,List.take_of_length_le (by rw [bP];exact Nat.le_refl _)] at hY
 refine ⟨D₁,_,rfl,.inl ⟨SqL.of hY,fun r hr0=>?_⟩⟩
 exact q r _ (sm.trans (jK hr0 _)) (sm.free hr0) jE
theorem wO:FnScope ["state","deed","waters"] ["state","deed","waters"] (jD Q4):=⟨rfl,rfl,rfl,by decide +kernel,rfl,by decide +kernel,by decide +kernel⟩
theorem tZ {f:Addr} {fd:FuncData} (F:Fun K "counted_on" "counted_on" Q4 f fd) (T:Txt K mg cP cB cU cR cN tkS eW eL tkH) (D_one_step_on:Def P w K mg base 1 "one_step_on" ["places","boat"] [] (nZ)):FnOk P w K mg base jQ 2 f fd ["state","deed","waters"] (mU):=by
 refine F.ok wO (fun vs H Q E h=>?_) (fun cdv A outer s H vs Q E hr h=>?_)
 ·obtain ⟨st,dd,wo,de,d,ms,mo,pl,rfl,hst,hdd,hwo,h100,q⟩:=h
  rfl
 obtain ⟨st,dd,wo,de,d,ms,mo,pl,rfl,hst,hdd,hwo,h100,q⟩:=h
 have hu:_<cLine:=hr.units0
 have hu1:=jV hr
 refine ⟨_,(@jI _ _ _ _ _ (kN (kB kR (jH ix_tup (pv 1) jC (fun _ _=>rfl)) j3 (j8 _)) (@jJ _ _ _ (@jO _ _ _ _ (kG (@jA _ _ _ _ _ (@jG _ _ _ _ _ _ _ _ jY (jH ix_tup (pv 0) jC (fun _ _=>rfl)) jC) (@jA _ _ _ _ _ (pv 2) (@jA _ _ _ _ _ (jH ix_tup (pv 0) jC (fun _ _=>rfl)) jB (by rfl)) (by rfl)) (by rfl))))) kQ)
   (@jI _ _ _ _ _ (kN (kB kR (jH ix_tup (pv 1) jC (fun _ _=>rfl)) j3 (j8 _)) (@jJ _ _ _ (@jO _ _ _ _ (kG (@jA _ _ _ _ _ (jH ix_tup (pv 0) jC (fun _ _=>rfl)) (@jA _ _ _ _ _ (pv 2) (@jA _ _ _ _ _ (jL D_one_step_on hr rfl (jA (jH ix_tup (pv 0) jC (fun _ _=>rfl)) (jA (jH ix_tup (pv 1) jC (fun _ _=>rfl)) jB))) jB (by rfl)) (by rfl)) (by rfl))))) kQ)
   (@jJ _ _ _ (@jO _ _ _ _ (kG (@jA _ _ _ _ _ (jH ix_tup (pv 0) jC (fun _ _=>rfl)) (@jA _ _ _ _ _ (pv 2) (@jA _ _ _ _ _ (jH ix_tup (pv 0) jC (fun _ _=>rfl)) jB (by rfl)) (by rfl)) (by rfl))))))),?_⟩
 obtain ⟨wt,pt,hst1,hwt,hpt⟩:=id hst
 cases de with
 |night =>
  refine ⟨_,rfl,jM (SqT.of hdd) rfl (⟨rfl,_,rfl,qD rfl ?_⟩)⟩
  refine ⟨_,rfl,jM (SqT.of hst1) rfl (jU (⟨_,rfl,_,rfl,jM (SqT.of hst1) rfl (⟨zz3,fun t3 ht3=>?_⟩)⟩))⟩
  have s3:=jK ht3 (.tup [V.int (d+1),V.ref wo,V.ref pt])
  exact q t3 _ s3 ht3 ⟨wo,pt,jE,s3 _ _ hwo,s3 _ _ hpt⟩
 |pass b =>
  refine ⟨_,rfl,jM (SqT.of hdd) rfl (⟨rfl,_,rfl,kM (fun e=>absurd (V.str.inj e) (by decide +kernel)) ?_⟩)⟩
  refine ⟨_,rfl,jM (SqT.of hdd) rfl (⟨rfl,_,rfl,qD rfl ?_⟩)⟩
  refine ⟨_,rfl,jM (SqT.of hst1) rfl (⟨_,rfl,_,rfl,jM (SqT.of hst1) rfl (⟨_,rfl,jM (SqT.of hdd) rfl (⟨pt,pl,b,rfl,hpt,h100,fun po H3 s3 hpo0 hpo=>?_⟩)⟩)⟩)⟩
  refine ⟨zz3,fun t3 ht3=>?_⟩
  have s4:=jK ht3 (.tup [V.int d,V.ref wo,V.ref po])
  exact q t3 _ (s3.trans s4) (s3.free ht3) ⟨wo,po,jE,s4 _ _ (s3 _ _ hwo),s4 _ _ hpo⟩
 |«let» k =>
  refine ⟨_,rfl,jM (SqT.of hdd) rfl (⟨rfl,_,rfl,kM (fun e=>absurd (V.str.inj e) (by decide +kernel)) ?_⟩)⟩
  refine ⟨_,rfl,jM (SqT.of hdd) rfl (⟨rfl,_,rfl,kM (fun e=>absurd (V.str.inj e) (by decide +kernel)) ?_⟩)⟩
  refine ⟨_,rfl,jM (SqT.of hst1) rfl (⟨_,rfl,_,rfl,jM (SqT.of hst1) rfl (⟨zz3,fun t3 ht3=>?_⟩)⟩)⟩
  have s3:=jK ht3 (.tup [V.int d,V.ref wo,V.ref pt])
  exact q t3 _ s3 ht3 ⟨wo,pt,jE,s3 _ _ hwo,s3 _ _ hpt⟩
theorem fF:FnScope ["canal","k","named","lock","vessel"] ["canal","k","named"] (jD JK):=⟨rfl,rfl,rfl,by decide +kernel,rfl,by decide +kernel,by decide +kernel⟩
theorem tY {f:Addr} {fd:FuncData} (F:Fun K "by_number" "by_number" JK f fd) (T:Txt K mg cP cB cU cR cN tkS eW eL tkH) (MM_Canal_basin:MeD P w K mg base 1 cN "basin" ["self","k"] (zL (jF cP cB cU) cR cN q9)) (MM_Canal_chamber:MeD P w K mg base 1 cN "chamber" ["self","k"] (zL (jF cP cB cU) cR cN vY)):FnOk P w K mg base jQ 2 f fd ["canal","k","named"] (gU (jF cP cB cU) cR cN):=by
 refine F.ok fF (fun vs H Q E h=>?_) (fun cdv A outer s H vs Q E hr h=>?_)
 ·obtain ⟨x,p,k,l,rp,ps,D,R,L,N,rfl,hc,hl',hg,hp,hP,hok,h10,q⟩:=h
  rfl
 obtain ⟨x,p,k,l,rp,ps,D,R,L,N,rfl,hc,hl',hg,hp,hP,hok,h10,q⟩:=h
 have hu:_<cLine:=hr.units0
 have hu1:=jV hr
 refine ⟨_,(@jI _ _ _ _ _ (jT (i:=3) fF.nd rfl (by first|exact Or.inl rfl|exact Or.inr rfl) (jH kF (jZ (pv 0) rfl) (pv 1) (fun _ _=>rfl)))
   (@jI _ _ _ _ _ (jT (i:=4) fF.nd rfl (by first|exact Or.inl rfl|exact Or.inr rfl) (C7 (eB j3 (jZ (pv 3) rfl) (eB j3 (jZ (pv 3) rfl) (eB j3 (J9 MM_Canal_chamber hr (pv 0) (jA (pv 1) jB)) (eB j3 (J9 MM_Canal_basin hr (pv 0) (jA (pv 1) jB)) C3)))) rfl rfl (List.cons_ne_nil _ _) (by decide)))
   (@jJ _ _ _ (@jO _ _ _ _ (vE ["source","target","amount","vessel"] (kP 3 [4]) rfl (kZ (jD JK) rfl rfl (by decide +kernel) (by decide +kernel) (by decide +kernel)) (qA 3 [4] rfl rfl (by decide +kernel)) (qY (pv 2)) (fun _ _ _ _ _=>(zE (n:=3) K rfl (kW (j7 (i:=0) (show List.Nodup (["source","target","amount","vessel"]:List Str) from by decide +kernel) rfl (by first|exact Or.inl rfl|exact Or.inr rfl)) (kW (j7 (i:=1) (show List.Nodup (["source","target","amount","vessel"]:List Str) from by decide +kernel) rfl (by first|exact Or.inl rfl|exact Or.inr rfl)) (kW (j7 (i:=2) (show List.Nodup (["source","target","amount","vessel"]:List Str) from by decide +kernel) rfl (by first|exact Or.inl rfl|exact Or.inr rfl)) yF))))) (fun _ _ _ _ _=>qR) (fun _ _ _ _ _=>(kG (@jA _ _ _ _ _ (pF hu1 (pv 3) (pv 0) (fun _ _=>rfl)) (@jA _ _ _ _ _ (pF hu1 (pv 3) (pv 1) (fun _ _=>rfl)) (@jA _ _ _ _ _ (pv 2) jB (by rfl)) (by rfl)) (by rfl))))))))),?_⟩
 have hc0:=hc
 obtain ⟨dx,rl,ll,nl,fs,rs,ls,nv,hx,hf,hrl,hll,hnl,hR,hL,hN,d1,d2,d3⟩:=hc
 obtain ⟨v,hv,y,rfl,dl,hl⟩:=hL.get hl'
 have hkL:k<L.length:=(List.getElem?_eq_some_iff.mp hl').1
 refine ⟨_,rfl,j0 hx (T.clN) (T.nN_locks) (hf.2.1) (⟨_,rfl,kL (SqL.of hll) (kX hv) (?_)⟩)⟩
 refine fun w hw0=>?_
 have s0:=jK hw0 (.dK [])
 refine ⟨_,rfl,j0 ((s0 _ _ hl)) (T.cl l.kd) (T.n_high l.kd) (ZY l.kd _ _ _ _ _) (⟨_,rfl,j0 ((s0 _ _ hl)) (T.cl l.kd) (T.n_low l.kd) (Z4 l.kd _ _ _ _ _) (⟨_,rfl,x,dx,_,rfl,(s0 _ _ hx),hf.no (by decide +kernel) (by decide +kernel) (by decide +kernel),_,rfl,x,D,R,L,N,_,rfl,hc0.same s0,_,rfl,x,dx,_,rfl,(s0 _ _ hx),hf.no (by decide +kernel) (by decide +kernel) (by decide +kernel),_,rfl,x,D,R,L,N,_,rfl,hc0.same s0,?_⟩)⟩)⟩
 refine ⟨jE,[(.inr "high",.int l.high),(.inr "low",.int l.low),(.inr "chamber",.int (vY R.length L.length (k:Int))),(.inr "basin",.int (q9 R.length L.length (k:Int)))],rfl,(by show 4≤15;decide),?_⟩
 rw [EK]
 have s1:Same H (upd (upd H w (.dK [])) w (.dK (d4 (.int l.high) (.int l.low) (.int (vY R.length L.length (k:Int))) (.int (q9 R.length L.length (k:Int)))))):=kY hw0 s0
 have hw:upd (upd H w (.dK [])) w (.dK (d4 (.int l.high) (.int l.low) (.int (vY R.length L.length (k:Int))) (.int (q9 R.length L.length (k:Int))))) w=_:=jE
 generalize upd (upd H w (.dK [])) w (.dK (d4 (.int l.high) (.int l.low) (.int (vY R.length L.length (k:Int))) (.int (q9 R.length L.length (k:Int)))))=H1 at s1 hw ⊢
 have hdg:∀(Hi:Hp) (s:Str),Same H1 Hi→okW s→DGet Hi w (.str s) (some (.int ((vX R.length L.length k l s:Nat):Int))):=fun Hi s sm hs=>by
  obtain ⟨e1,e2,e3,e4⟩:=FT (sm _ _ hw)
  obtain ⟨g1,g2,g3,g4,_⟩:=hg
  cases hs
  ·rw [nU,show ((l.high.toNat:Nat):Int)=l.high by omega];exact e1
  ·rw [oZ,show ((l.low.toNat:Nat):Int)=l.low by omega];exact e2
  ·rw [mI,show ((R.length+k:Nat):Int)=vY R.length L.length (k:Int) by unfold vY;omega];exact e3
  ·rw [mJ,show ((R.length+L.length+k:Nat):Int)=q9 R.length L.length (k:Int) by unfold q9;omega];exact e4
 refine ⟨_,rfl,p,rfl,⟨_,SqL.of (s1 _ _ hp)⟩,fun D₁ hD₁=>?_⟩
 refine ZS (K:=K) (a:=p) (xs:=rp) (fun i σ Hi=>∃(c1 c2 c3:Option V) (zs:List V),σ=[c1,c2,c3,some (.ref w)]∧Hi D₁=some (.lst zs)∧PoursH Hi zs ((ps.take i).map (cV R.length L.length k l)) (R.length+2*L.length+2)∧Same H1 Hi)
  ⟨none,none,none,[],rfl,jE,PoursH.nil _ _,jK hD₁ _⟩ (fun i σ Hi _ ⟨_,_,_,_,_,_,_,s⟩=>SqL.of (s _ _ (s1 _ _ hp))) ?_ ?_
 ·rintro i v σ Hi hv ⟨c1,c2,c3,zs,rfl,hY,hA,sm⟩
  have hi:i<rp.length:=(List.getElem?_eq_some_iff.mp hv).1
  rw [hP.1] at hi
  obtain ⟨t,sS,sT,nN,rfl,hps,hT⟩:=hP.2 i v hv
  obtain ⟨o1,o2⟩:=hok _ (List.mem_of_getElem? hps)
  have hlz:zs.length≤i:=by rw [hA.1,List.length_map];exact List.length_take_le _ _
  refine ⟨t,_,rfl,SqT.of (sm _ _ (s1 _ _ hT)),rfl,_,_,rfl,_,_,rfl,_,_,rfl,rfl,?_⟩
  refine qT (kI ?_)
  refine ⟨_,rfl,_,rfl,w,_,rfl,hdg Hi _ sm o1,_,rfl,_,rfl,w,_,rfl,hdg Hi _ sm o2,_,rfl,zz3,fun tp htp=>?_⟩
  have u:=jK htp (.tup [V.int ((vX R.length L.length k l sS:Nat):Int),V.int ((vX R.length L.length k l sT:Nat):Int),V.int nN])
  refine ⟨zs,u _ _ hY,qQ (by omega),_,_,_,zs++[.ref tp],rfl,jE,?_,kY hD₁ (sm.trans u)⟩
  rw [List.take_add_one,hps,List.map_append]
  exact ((hA.same u).snoc jE (eK o1 hg hkL) (eK o2 hg hkL)).put (u _ _ hY)
 rintro σ Hf ⟨c1,c2,c3,zs,rfl,hY,hA,sm⟩
 rw [hP.1,List.take_length] at hA
 exact q D₁ Hf zs (s1.trans sm) (s1.free hD₁) hY hA
theorem dL:FnScope ["canal","ways","state","boat","step","k","basin"] ["canal","ways","state","boat"] (jD ZE):=⟨rfl,rfl,rfl,by decide +kernel,rfl,by decide +kernel,by decide +kernel⟩
theorem uM {f:Addr} {fd:FuncData} (F:Fun K "pass_pours" "pass_pours" ZE f fd) (T:Txt K mg cP cB cU cR cN tkS eW eL tkH) (D_next_step:Def P w K mg base 1 "next_step" ["way","place"] [] (pQ)) (MM_Canal_basin:MeD P w K mg base 1 cN "basin" ["self","k"] (zL (jF cP cB cU) cR cN q9)) (D_by_number:Def P w K mg base 2 "by_number" ["canal","k","named"] [] (gU (jF cP cB cU) cR cN)) (D_passage:Def P w K mg base 4 "passage" ["lock","full","basin","way"] [] (mR (jF cP cB cU))) (MM_Canal_full:MeD P w K mg base 2 cN "full" ["self","waters","k"] (eF (jF cP cB cU) cR cN)):FnOk P w K mg base jQ 6 f fd ["canal","ways","state","boat"] (gT (jF cP cB cU) cR cN):=by
 refine F.ok dL (fun vs H Q E h=>?_) (fun cdv A outer s H vs Q E hr h=>?_)
 ·obtain ⟨x,wl,st,b,us,ys,y,p,s₁,d,ms,pl,D,R,L,N,rfl,hG,hy,hpp,hs,q⟩:=h
  rfl
 obtain ⟨x,wl,st,b,us,ys,y,p,s₁,d,ms,pl,D,R,L,N,rfl,hG,hy,hpp,hs,q⟩:=h
 have hu:_<cLine:=hr.units0
 have hu1:=jV hr
 refine ⟨_,(@jI _ _ _ _ _ (jT (i:=4) dL.nd rfl (by first|exact Or.inl rfl|exact Or.inr rfl) (jL D_next_step hr rfl (jA (jH kF (pv 1) (pv 3) (fun _ _=>rfl)) (jA (jH ix_tup (jH ix_tup (pv 2) jC (fun _ _=>rfl)) (pv 3) (fun _ _=>rfl)) jB))))
   (@jI _ _ _ _ _ (jT (i:=5) dL.nd rfl (by first|exact Or.inl rfl|exact Or.inr rfl) (jH ix_tup (pv 4) jC (fun _ _=>rfl)))
   (@jI _ _ _ _ _ (jT (i:=6) dL.nd rfl (by first|exact Or.inl rfl|exact Or.inr rfl) (jH ix_tup (jH ix_tup (pv 2) jC (fun _ _=>rfl)) (J9 MM_Canal_basin hr (pv 0) (jA (pv 5) jB)) (fun _ _=>rfl)))
   (@jJ _ _ _ (@jO _ _ _ _ (jL D_by_number hr rfl (@jA _ _ _ _ _ (pv 0) (@jA _ _ _ _ _ (pv 5) (@jA _ _ _ _ _ (jL D_passage hr rfl (@jA _ _ _ _ _ (jH kF (jZ (pv 0) rfl) (pv 5) (fun _ _=>rfl)) (@jA _ _ _ _ _ (J9 MM_Canal_full hr (pv 0) (jA (jH ix_tup (pv 2) jC (fun _ _=>rfl)) (jA (pv 5) jB))) (@jA _ _ _ _ _ (pv 6) (@jA _ _ _ _ _ (jH ix_tup (pv 4) jC (fun _ _=>rfl)) jB (by rfl)) (by rfl)) (by rfl)) (by rfl))) jB (by rfl)) (by rfl)) (by rfl)))))))),?_⟩
 obtain ⟨hc,hdr,hwl,hA,⟨wt,pt,hst1,hwt,hpt⟩,hfl,hml⟩:=id hG
 have hc0:=hc
 obtain ⟨dx,rl,ll,nl,fs,rs,ls,nv,hx,hf,hrl,hll,hnl,hR,hL,hN,d1,d2,d3⟩:=hc
 obtain ⟨v,hvy,t,st₂,vs₂,rfl,hw1,hw2,hw3⟩:=hA.get hy
 have hyok:=hfl.ok y (List.mem_of_getElem? hy)
 have hkL:=hyok.lt s₁ (List.mem_of_getElem? hs)
 obtain ⟨l,hl'⟩:∃l,L[s₁.1]?=some l:=⟨_,List.getElem?_eq_getElem hkL⟩
 obtain ⟨v4,hv4,y4,rfl,dl,hl⟩:=hL.get hl'
 have hgd:=hdr.lock _ _ hl'
 have ebas:q9 R.length L.length (s₁.1:Int)=((R.length+L.length+s₁.1:Nat):Int):=by unfold q9;omega
 have hat:qC (ms.map V.int) (q9 R.length L.length (s₁.1:Int))=some (.int (ms.getD (R.length+L.length+s₁.1) 0)):=by rw [ebas];exact qF (by omega)
 refine ⟨_,rfl,_,rfl,wl,_,_,_,rfl,rfl,SqL.of hwl,kX hvy,_,rfl,st,_,_,_,rfl,rfl,SqT.of hst1,rfl,_,rfl,pt,_,_,_,rfl,rfl,SqT.of hpt,kX (v:=.int (p:Int)) (by rw [List.getElem?_map,hpp];rfl),t,y,p,s₁,rfl,⟨t,st₂,vs₂,rfl,hw1,hw2,hw3⟩,hs,fun v3 ⟨t3,e3,ht3⟩=>?_⟩
 subst e3
 refine ⟨_,rfl,t3,_,_,_,rfl,rfl,SqT.of ht3,rfl,?_⟩
 refine ⟨_,rfl,st,_,_,_,rfl,rfl,SqT.of hst1,rfl,_,rfl,x,dx,_,rfl,hx,hf.no (by decide +kernel) (by decide +kernel) (by decide +kernel),_,rfl,x,D,R,L,N,_,rfl,hc0,wt,_,_,_,rfl,rfl,SqT.of hwt,hat,?_⟩
 refine ⟨_,rfl,_,rfl,_,rfl,x,cN,dx,_,_,rfl,hx,T.clN,T.nN_locks,hf.2.1,_,rfl,ll,_,_,_,rfl,rfl,SqL.of hll,kX hv4,_,rfl,x,dx,_,rfl,hx,hf.no (by decide +kernel) (by decide +kernel) (by decide +kernel),_,rfl,st,_,_,_,rfl,rfl,SqT.of hst1,rfl,_,rfl,x,wt,D,R,L,N,ms,s₁.1,rfl,hc0,hwt,by omega,_,rfl,_,rfl,t3,_,_,_,rfl,rfl,SqT.of ht3,rfl,y4,l.kd,_,_,_,l.room,l.extra,_,_,s₁.2,(by rw [EY];rfl),⟨dl,hl⟩,fun r H1 rs s1 hr0 hr hP=>?_⟩
 refine ⟨x,r,s₁.1,l,rs,_,D,R,L,N,rfl,hc0.same s1,hl',hgd,hr,hP,oH _ _ _ _ _ _,Nat.le_trans (mY _ _ _ _ _ _) (by decide),fun r2 H2 zs s2 hr20 hr2 hP2=>?_⟩
 refine q r2 H2 zs (s1.trans s2) (s1.free hr20) hr2 ?_
 unfold passQ yU
 rw [hl',hml]
 exact hP2
theorem wU:FnScope ["canal","state","k"] ["canal","state","k"] (jD Q9):=⟨rfl,rfl,rfl,by decide +kernel,rfl,by decide +kernel,by decide +kernel⟩
theorem uB {f:Addr} {fd:FuncData} (F:Fun K "let_pours" "let_pours" Q9 f fd) (T:Txt K mg cP cB cU cR cN tkS eW eL tkH) (D_by_number:Def P w K mg base 2 "by_number" ["canal","k","named"] [] (gU (jF cP cB cU) cR cN)) (D_letting:Def P w K mg base 3 "letting" ["lock","basin"] [] (bX (jF cP cB cU) qX)) (MM_Canal_basin:MeD P w K mg base 1 cN "basin" ["self","k"] (zL (jF cP cB cU) cR cN q9)):FnOk P w K mg base jQ 4 f fd ["canal","state","k"] (o7 (jF cP cB cU) cR cN):=by
 refine F.ok wU (fun vs H Q E h=>?_) (fun cdv A outer s H vs Q E hr h=>?_)
 ·obtain ⟨x,wl,st,k,us,ys,d,ms,pl,D,R,L,N,rfl,hG,hkL,q⟩:=h
  rfl
 obtain ⟨x,wl,st,k,us,ys,d,ms,pl,D,R,L,N,rfl,hG,hkL,q⟩:=h
 have hu:_<cLine:=hr.units0
 have hu1:=jV hr
 refine ⟨_,(@jJ _ _ _ (@jO _ _ _ _ (jL D_by_number hr rfl (@jA _ _ _ _ _ (pv 0) (@jA _ _ _ _ _ (pv 2) (@jA _ _ _ _ _ (jL D_letting hr rfl (jA (jH kF (jZ (pv 0) rfl) (pv 2) (fun _ _=>rfl)) (jA (jH ix_tup (jH ix_tup (pv 1) jC (fun _ _=>rfl)) (J9 MM_Canal_basin hr (pv 0) (jA (pv 2) jB)) (fun _ _=>rfl)) jB))) jB (by rfl)) (by rfl)) (by rfl))))),?_⟩
 obtain ⟨hc,hdr,hwl,hA,⟨wt,pt,hst1,hwt,hpt⟩,hfl,hml⟩:=id hG
 have hc0:=hc
 obtain ⟨dx,rl,ll,nl,fs,rs,ls,nv,hx,hf,hrl,hll,hnl,hR,hL,hN,d1,d2,d3⟩:=hc
 obtain ⟨l,hl'⟩:∃l,L[k]?=some l:=⟨_,List.getElem?_eq_getElem hkL⟩
 obtain ⟨v4,hv4,y4,rfl,dl,hl⟩:=hL.get hl'
 have hgd:=hdr.lock _ _ hl'
 have hat:qC (ms.map V.int) (q9 R.length L.length (k:Int))=some (.int (ms.getD (R.length+L.length+k) 0)):=by
  rw [show q9 R.length L.length (k:Int)=((R.length+L.length+k:Nat):Int) by unfold q9;omega]
  exact qF (by omega)
 refine ⟨_,rfl,_,rfl,_,rfl,j0 hx (T.clN) (T.nN_locks) (hf.2.1) (⟨_,rfl,kL (SqL.of hll) (kX hv4) (⟨_,rfl,jM (SqT.of hst1) rfl (⟨_,rfl,x,dx,_,rfl,hx,hf.no (by decide +kernel) (by decide +kernel) (by decide +kernel),_,rfl,x,D,R,L,N,_,rfl,hc0,jM (SqT.of hwt) hat (⟨y4,l.kd,_,_,_,l.room,l.extra,_,rfl,⟨dl,hl⟩,fun r H1 rs s1 hr0 hr hP=>?_⟩)⟩)⟩)⟩)⟩
 refine ⟨x,r,k,l,rs,_,D,R,L,N,rfl,hc0.same s1,hl',hgd,hr,hP,cG _ _ _ _,Nat.le_trans (JY _ _ _ _) (by decide),fun r2 H2 zs s2 hr20 hr2 hP2=>?_⟩
 refine q r2 H2 zs (s1.trans s2) (s1.free hr20) hr2 ?_
 unfold letQ
 rw [hl',hml]
 exact hP2
theorem wS:FnScope ["canal","waters","vessel"] ["canal","waters","vessel"] (jD Q7):=⟨rfl,rfl,rfl,by decide +kernel,rfl,by decide +kernel,by decide +kernel⟩
theorem t7 {f:Addr} {fd:FuncData} (F:Fun K "is_below_least" "is_below_least" Q7 f fd) (T:Txt K mg cP cB cU cR cN tkS eW eL tkH) : FnOk P w K mg base jQ 1 f fd ["canal","waters","vessel"] (rJ (jF cP cB cU) cR cN):=by
 refine F.ok wS (fun vs H Q E h=>?_) (fun cdv A outer s H vs Q E hr h=>?_)
 ·obtain ⟨x,w,v,ms,D,R,L,N,rfl,hc,hw,hv,q⟩:=h
  rfl
 obtain ⟨x,w,v,ms,D,R,L,N,rfl,hc,hw,hv,q⟩:=h
 have hu:_<cLine:=hr.units0
 have hu1:=jV hr
 refine ⟨_,(@jJ _ _ _ (@jO _ _ _ _ (pV (zF eP (pv 2) (kD kJ (by rfl) T.z_len PySem.boot_len (jA (jZ (pv 0) rfl) jB)) (j8 _)) (pU (zF eP (jH ix_tup (pv 1) (pv 2) (fun _ _=>rfl)) (jZ (jH kF (jZ (pv 0) rfl) (pv 2) (fun _ _=>rfl)) rfl) (j8 _)))))),?_⟩
 obtain ⟨dx,rl,ll,nl,fs,rs,ls,nv,hx,hf,hrl,hll,hnl,hR,hL,hN,d1,d2,d3⟩:=hc
 refine ⟨_,rfl,_,rfl,j0 hx (T.clN) (T.nN_reaches) (hf.1) (⟨rl,_,rfl,.inl (SqL.of hrl),_,_,rfl,rfl,_,rfl,?_⟩)⟩
 rw [hR.1]
 by_cases h:v<R.length
 ·obtain ⟨r,hr⟩:∃r,R[v]?=some r:=⟨_,List.getElem?_eq_getElem h⟩
  obtain ⟨z,hz,y,rfl,dy,gs,hy,hg⟩:=hR.get hr
  refine qD (by omega) ⟨_,rfl,_,rfl,jM (SqT.of hw) (qF hv) (⟨_,rfl,j0 hx (T.clN) (T.nN_reaches) (hf.1) (⟨_,rfl,kL (SqL.of hrl) (kX hz) (j0 hy (T.clR) (T.nR_least) (hg.2.1) (jU (?_)))⟩)⟩)⟩
  rw [show yC R ms v=decide (ms.getD v 0<r.least) by unfold yC;rw [hr]] at q
  exact q
 ·refine kM (by omega) ?_
  rw [show yC R ms v=false by unfold yC;rw [List.getElem?_eq_none (by omega)]] at q
  exact q
theorem dJ:FnScope ["canal","waters","moved","held","pour"] ["canal","waters","moved"] (jD Q5):=⟨rfl,rfl,rfl,by decide +kernel,rfl,by decide +kernel,by decide +kernel⟩
theorem t0 {f:Addr} {fd:FuncData} (F:Fun K "falls_short" "falls_short" Q5 f fd) (T:Txt K mg cP cB cU cR cN tkS eW eL tkH) (D_poured_all:Def P w K mg base 1 "poured_all" ["waters","pours"] [] (Z8 K)) (D_is_below_least:Def P w K mg base 1 "is_below_least" ["canal","waters","vessel"] [] (rJ (jF cP cB cU) cR cN)):FnOk P w K mg base jQ 2 f fd ["canal","waters","moved"] (n3 (jF cP cB cU) cR cN):=by
 refine F.ok dJ (fun vs H Q E h=>?_) (fun cdv A outer s H vs Q E hr h=>?_)
 ·obtain ⟨x,w,p,ms,zs,qs,D,R,L,N,rfl,hc,hw,hp,hP,h1000,q⟩:=h
  rfl
 obtain ⟨x,w,p,ms,zs,qs,D,R,L,N,rfl,hc,hw,hp,hP,h1000,q⟩:=h
 have hu:_<cLine:=hr.units0
 have hu1:=jV hr
 refine ⟨_,(@jI _ _ _ _ _ (jT (i:=3) dJ.nd rfl (by first|exact Or.inl rfl|exact Or.inr rfl) (pv 1))
   (@jI _ _ _ _ _ (yG PassesOwn.never rfl (qY (pv 2)) (j7 (i:=4) dJ.nd rfl (by first|exact Or.inl rfl|exact Or.inr rfl))
    (@jI _ _ _ _ _ (jT (i:=3) dJ.nd rfl (by first|exact Or.inl rfl|exact Or.inr rfl) (jL D_poured_all hr rfl (jA (pv 3) (jA (qE (jA (pv 4) jB)) jB))))
   (@jJ _ _ _ (kN (zW (jL D_is_below_least hr rfl (@jA _ _ _ _ _ (pv 0) (@jA _ _ _ _ _ (pv 3) (@jA _ _ _ _ _ (jH ix_tup (pv 4) jC (fun _ _=>rfl)) jB (by rfl)) (by rfl)) (by rfl)))) (@jJ _ _ _ (@jO _ _ _ _ yR)) kQ))))
   (@jJ _ _ _ (@jO _ _ _ _ yR)))),?_⟩
 refine ⟨_,rfl,?_⟩
 refine ⟨_,rfl,p,rfl,⟨_,SqL.of hp⟩,bZ (K:=K) (a:=p) (xs:=zs) (fun i σ Hi=>∃(h:Addr) (c:Option V),σ=[some (.ref x),some (.ref w),some (.ref p),some (.ref h),c]∧Hi h=some (.tup ((jX ms (qs.take i)).map V.int))∧vP R ms qs=vP R (jX ms (qs.take i)) (qs.drop i)∧Same H Hi)
  ⟨w,none,rfl,hw,rfl,Same.refl _⟩ (fun i σ Hi _ ⟨_,_,_,_,_,s⟩=>SqL.of (s _ _ hp)) ?_ ?_⟩
 ·rintro i v σ Hi hv ⟨h,c,rfl,hh,he,sm⟩
  obtain ⟨a,s,t,m,rfl,hq,hT,hs,ht⟩:=hP.2 i v hv
  have el:(jX ms (qs.take i)).length=ms.length:=vB _ _
  refine ⟨_,rfl,_,rfl,zz1,fun lp hlp=>?_⟩
  have u:=jK hlp (.lst [V.ref a])
  refine ⟨h,lp,_,[.ref a],[(s,t,m)],rfl,.inr (SqT.of (u _ _ hh)),SqL.of jE,(PoursH.nil _ _ |>.snoc (u _ _ (sm _ _ hT)) (by rw [el];exact hs) (by rw [el];exact ht)).pa,by rw [el];exact h1000,fun r H' s' hr0 hr=>?_⟩
  have sm2:=(sm.trans u).trans s'
  have ep:jX (jX ms (qs.take i)) [(s,t,m)]=jX ms (qs.take (i+1)):=by rw [fL ms qs i _ hq];rfl
  rw [ep] at hr
  have ed:qs.drop i=(s,t,m)::qs.drop (i+1):=(List.drop_eq_getElem_cons (List.getElem?_eq_some_iff.mp hq).1).trans (by rw [(List.getElem?_eq_some_iff.mp hq).2])
  have he2:vP R ms qs=(yC R (jX ms (qs.take (i+1))) s||vP R (jX ms (qs.take (i+1))) (qs.drop (i+1))):=by
   rw [he,ed]
   show (yC R (pour (jX ms (qs.take i)) (s,t,m)) s||vP R (pour (jX ms (qs.take i)) (s,t,m)) (qs.drop (i+1)))=_
   rw [fL ms qs i _ hq]
  have el2:(jX ms (qs.take (i+1))).length=ms.length:=vB _ _
  refine ⟨_,rfl,_,rfl,_,rfl,jM (SqT.of (sm2 _ _ hT)) rfl (⟨x,r,s,_,D,R,L,N,rfl,hc.same sm2,hr,by rw [el2];exact hs,_,rfl,?_⟩)⟩
  cases hb:yC R (jX ms (qs.take (i+1))) s with
  |true =>
   refine kI ?_
   have:=q H' sm2
   rw [he2,hb] at this
   exact this
  |false =>
   refine q8 ⟨r,_,rfl,hr,?_,sm2⟩
   rw [he2,hb]
   rfl
 rintro σ Hi ⟨h,c,rfl,hh,he,sm⟩
 rw [hP.1,List.drop_length] at he
 have:=q Hi sm
 rw [he] at this
 exact this
theorem fI:FnScope ["canal","ways","state","boat","place","target"] ["canal","ways","state","boat"] (jD ZN):=⟨rfl,rfl,rfl,by decide +kernel,rfl,by decide +kernel,by decide +kernel⟩
theorem uX {f:Addr} {fd:FuncData} (F:Fun K "why_no_pass" "why_no_pass" ZN f fd) (T:Txt K mg cP cB cU cR cN tkS eW eL tkH) (D_reach_of:Def P w K mg base 3 "reach_of" ["canal","way","place"] [] (fX (jF cP cB cU) cR cN)) (D_has_no_berth:Def P w K mg base 5 "has_no_berth" ["canal","ways","state","reach"] [] (mT (jF cP cB cU) cR cN)) (D_falls_short:Def P w K mg base 2 "falls_short" ["canal","waters","moved"] [] (n3 (jF cP cB cU) cR cN)) (D_pass_pours:Def P w K mg base 6 "pass_pours" ["canal","ways","state","boat"] [] (gT (jF cP cB cU) cR cN)):FnOk P w K mg base jQ 7 f fd ["canal","ways","state","boat"] (pN (jF cP cB cU) cR cN):=by
  refine F.ok fI (fun vs H Q E h=>?_) (fun cdv A outer s H vs Q E hr h=>?_)
  · obtain ⟨x,wl,st,b,us,ys,d,ms,pl,D,R,L,N,rfl,hG,hb,q⟩:=h
    rfl
  obtain ⟨x,wl,st,b,us,ys,d,ms,pl,D,R,L,N,rfl,hG,hb,q⟩:=h
  have hu:_<cLine:=hr.units0
  have hu1:=jV hr
  refine ⟨_,(@jI _ _ _ _ _ (jT (i:=4) fI.nd rfl (by first|exact Or.inl rfl|exact Or.inr rfl) (jH ix_tup (jH ix_tup (pv 2) jC (fun _ _=>rfl)) (pv 3) (fun _ _=>rfl)))
      (@jI _ _ _ _ _ (kN (kB kR (jL D_reach_of hr rfl (@jA _ _ _ _ _ (pv 0) (@jA _ _ _ _ _ (jH kF (pv 1) (pv 3) (fun _ _=>rfl)) (@jA _ _ _ _ _ (pv 4) jB (by rfl)) (by rfl)) (by rfl))) (cE (v:=.int (-1)) rfl T.g_HOME ⟨_,rfl⟩) (j8 _)) (@jJ _ _ _ (@jO _ _ _ _ j3)) kQ)
      (@jI _ _ _ _ _ (jT (i:=5) fI.nd rfl (by first|exact Or.inl rfl|exact Or.inr rfl) (jL D_reach_of hr rfl (@jA _ _ _ _ _ (pv 0) (@jA _ _ _ _ _ (jH kF (pv 1) (pv 3) (fun _ _=>rfl)) (@jA _ _ _ _ _ (@jG _ _ _ _ _ _ _ _ jY (pv 4) jC) jB (by rfl)) (by rfl)) (by rfl))))
      (gW (kN (PW.pt (D8 (kB z0 (pv 5) (cE (v:=.int (-1)) rfl T.g_HOME ⟨_,rfl⟩) (j8 _)) (C2 (zW (jL D_has_no_berth hr rfl (@jA _ _ _ _ _ (pv 0) (@jA _ _ _ _ _ (pv 1) (@jA _ _ _ _ _ (pv 2) (@jA _ _ _ _ _ (pv 5) jB (by rfl)) (by rfl)) (by rfl)) (by rfl))))))) (@jJ _ _ _ (@jO _ _ _ _ j3)) kQ)
      (@jI _ _ _ _ _ (kN (zW (jL D_falls_short hr rfl (@jA _ _ _ _ _ (pv 0) (@jA _ _ _ _ _ (jH ix_tup (pv 2) jC (fun _ _=>rfl)) (@jA _ _ _ _ _ (jL D_pass_pours hr rfl (@jA _ _ _ _ _ (pv 0) (@jA _ _ _ _ _ (pv 1) (@jA _ _ _ _ _ (pv 2) (@jA _ _ _ _ _ (pv 3) jB (by rfl)) (by rfl)) (by rfl)) (by rfl))) jB (by rfl)) (by rfl)) (by rfl)))) (@jJ _ _ _ (@jO _ _ _ _ j3)) kQ)
      (@jJ _ _ _ (@jO _ _ _ _ j3))))))),?_⟩
  obtain ⟨hc,hdr,hwl,hA,hst,hfl,hml⟩:=id hG
  obtain ⟨wt,pt,hst1,hwt,hpt⟩:=id hst
  have hc0:=hc
  obtain ⟨dx,rl,ll,nl,fs,rs,ls,nv,hx,hf,hrl,hll,hnl,hR,hL,hN,d1,d2,d3⟩:=hc
  have b1:=hdr.r8
  have b2:=hdr.l8
  obtain ⟨y,hy⟩:∃y,ys[b]?=some y:=⟨_,List.getElem?_eq_getElem hb⟩
  obtain ⟨p,hp⟩:∃p,pl[b]?=some p:=⟨_,List.getElem?_eq_getElem (by rw [hfl.len];exact hb)⟩
  obtain ⟨v,hvy,hwy⟩:=hA.get hy
  obtain ⟨t,st₂,vs₂,rfl,hw1,hw2,hw3⟩:=id hwy
  have hple:=hfl.le b y p hy hp
  have hyok:=hfl.ok y (List.mem_of_getElem? hy)
  have ey:ys.getD b (0,[])=y:=by rw [List.getD_eq_getElem?_getD,hy];rfl
  have ep:pl.getD b 0=p:=by rw [List.getD_eq_getElem?_getD,hp];rfl
  unfold z9 at q
  rw [ey,ep] at q
  refine ⟨_,rfl,jM (SqT.of hst1) rfl (⟨_,rfl,jM (SqT.of hpt) (kX (v:=.int (p:Int)) (by rw [List.getElem?_map,hp];rfl)) (?_)⟩)⟩
  refine ⟨_,rfl,_,rfl,_,rfl,kL (SqL.of hwl) (kX hvy) (⟨_,rfl,x,t,y,p,D,R,L,N,rfl,hc0,hwy,hyok,hple,fun H1 s1=>⟨rfl,_,rfl,?_⟩⟩)⟩
  by_cases h0:p=y.2.length
  · refine qD (by rw [h0,pC]) ?_
    have:=q H1 s1
    rw [if_pos h0] at this
    exact this
  have hlt:p<y.2.length:=by omega
  have hpin:=pT hdr hyok hlt
  refine kM (fun e=>by have:=V.int.inj e;omega) ?_
  have q:∀H',Same H H'→Q (.str (if ¬qG L y (p+1) = -1∧cD R (qG L y (p+1))≤(((v0 L ys pl).countP fun z=>decide (z=qG L y (p+1)):Nat):Int) then "berth" else if vP R ms (passQ R.length L ms (y.2.getD p (0,true)))=true then "water" else "")) H':=fun H' s'=>by
    have:=q H' s'
    rw [if_neg h0] at this
    exact this
  have s01:=s1
  refine ⟨_,rfl,_,rfl,_,rfl,kL (SqL.of (s1 _ _ hwl)) (kX hvy) (⟨_,rfl,jU (⟨x,t,y,p+1,D,R,L,N,rfl,hc0.same s1,WyAt.same s1 _ _ hwy,hyok,by omega,fun H2 s2=>?_⟩)⟩)⟩
  have s02:=s1.trans s2
  refine ⟨fun σ' Ha=>σ'=[some (.ref x),some (.ref wl),some (.ref st),some (.int (b:Int)),some (.int (p:Int)),some (.int (qG L y (p+1)))]∧Same H Ha∧¬(¬qG L y (p+1) = -1∧cD R (qG L y (p+1))≤(((v0 L ys pl).countP fun z=>decide (z=qG L y (p+1)):Nat):Int)),?_,?_⟩
  · refine ⟨_,rfl,rfl,_,rfl,?_⟩
    by_cases h1:qG L y (p+1) = -1
    · exact z3 (congrArg V.int h1) (q8 ⟨rfl,s02,fun z=>z.1 h1⟩)
    refine J8 (fun e=>h1 (V.int.inj e)) ?_
    have hlt2:p+1<y.2.length:=by
      by_cases e:p+1=y.2.length
      · rw [e,pC] at h1;exact absurd rfl h1
      · omega
    have hpin2:=pT hdr hyok hlt2
    obtain ⟨tn,htn⟩:∃tn:Nat,qG L y (p+1)=(tn:Int):=⟨(qG L y (p+1)).toNat,by omega⟩
    rw [htn] at h1 ⊢
    obtain ⟨r,hr⟩:∃r,R[tn]?=some r:=⟨_,List.getElem?_eq_getElem (by omega)⟩
    have eb:cD R (tn:Int)=r.berths:=by unfold cD;rw [show ((tn:Nat):Int).toNat=tn from rfl,hr]
    refine ⟨_,rfl,_,rfl,_,rfl,_,rfl,x,wl,st,tn,r,us,ys,d,ms,pl,D,R,L,N,rfl,hG.same s02,hr,fun H3 s3=>⟨_,rfl,?_⟩⟩
    have s03:=s02.trans s3
    by_cases h2:r.berths≤(((v0 L ys pl).countP fun z=>decide (z=(tn:Int)):Nat):Int)
    · rw [decide_eq_true h2]
      refine kI ?_
      have:=q H3 s03
      rw [htn,eb,if_pos ⟨h1,h2⟩] at this
      exact this
    · rw [decide_eq_false h2]
      exact q8 ⟨rfl,s03,fun z=>h2 (by rw [eb] at z;exact z.2)⟩
  rintro σ' H3 ⟨rfl,s03,hno⟩
  obtain ⟨s₁,hs⟩:∃s,y.2[p]?=some s:=⟨_,List.getElem?_eq_getElem hlt⟩
  have es:y.2.getD p (0,true)=s₁:=by rw [List.getD_eq_getElem?_getD,hs];rfl
  refine ⟨_,rfl,_,rfl,jM (SqT.of (s03 _ _ hst1)) rfl (⟨_,rfl,_,rfl,_,rfl,_,rfl,x,wl,st,b,us,ys,y,p,s₁,d,ms,pl,D,R,L,N,rfl,hG.same s03,hy,hp,hs,fun r H4 zs s4 hr0 hr hP=>?_⟩)⟩
  have s04:=s03.trans s4
  refine ⟨x,wt,r,ms,zs,_,D,R,L,N,rfl,hc0.same s04,s04 _ _ hwt,hr,hP,by omega,fun H5 s5=>⟨_,rfl,?_⟩⟩
  have:=q H5 (s04.trans s5)
  rw [if_neg hno,es] at this
  cases hsb:vP R ms (passQ R.length L ms s₁) with
  |true =>
    refine kI ?_
    rw [hsb,if_pos rfl] at this
    exact this
  |false =>
    refine q8 ?_
    rw [hsb,if_neg (by decide)] at this
    exact this
theorem xA:FnScope ["canal","ways","state","deed"] ["canal","ways","state","deed"] (jD ZO):=⟨rfl,rfl,rfl,by decide +kernel,rfl,by decide +kernel,by decide +kernel⟩
theorem uY {f:Addr} {fd:FuncData} (F:Fun K "why_not" "why_not" ZO f fd) (T:Txt K mg cP cB cU cR cN tkS eW eL tkH) (D_why_no_pass:Def P w K mg base 7 "why_no_pass" ["canal","ways","state","boat"] [] (pN (jF cP cB cU) cR cN)) (MM_Canal_full:MeD P w K mg base 2 cN "full" ["self","waters","k"] (eF (jF cP cB cU) cR cN)):FnOk P w K mg base jQ 8 f fd ["canal","ways","state","deed"] (iB (jF cP cB cU) cR cN):=by
 refine F.ok xA (fun vs H Q E h=>?_) (fun cdv A outer s H vs Q E hr h=>?_)
 ·obtain ⟨x,wl,st,dd,de,us,ys,d,ms,pl,D,R,L,N,rfl,hG,hdd,hin,q⟩:=h
  rfl
 obtain ⟨x,wl,st,dd,de,us,ys,d,ms,pl,D,R,L,N,rfl,hG,hdd,hin,q⟩:=h
 have hu:_<cLine:=hr.units0
 have hu1:=jV hr
 refine ⟨_,(@jI _ _ _ _ _ (kN (kB kR (jH ix_tup (pv 3) jC (fun _ _=>rfl)) j3 (j8 _)) (@jJ _ _ _ (@jO _ _ _ _ (jL D_why_no_pass hr rfl (@jA _ _ _ _ _ (pv 0) (@jA _ _ _ _ _ (pv 1) (@jA _ _ _ _ _ (pv 2) (@jA _ _ _ _ _ (jH ix_tup (pv 3) jC (fun _ _=>rfl)) jB (by rfl)) (by rfl)) (by rfl)) (by rfl))))) kQ)
   (@jI _ _ _ _ _ (kN (kB kR (jH ix_tup (pv 3) jC (fun _ _=>rfl)) j3 (j8 _)) (@jJ _ _ _ (@jO _ _ _ _ (zD (zW (J9 MM_Canal_full hr (pv 0) (jA (jH ix_tup (pv 2) jC (fun _ _=>rfl)) (jA (jH ix_tup (pv 3) jC (fun _ _=>rfl)) jB)))) j3 j3))) kQ)
   (@jJ _ _ _ (@jO _ _ _ _ (zD (kB eP (jH ix_tup (pv 2) jC (fun _ _=>rfl)) (kD kJ (by rfl) T.z_len PySem.boot_len (jA (jZ (pv 0) rfl) jB)) (j8 _)) j3 j3))))),?_⟩
 obtain ⟨hc,hdr,hwl,hA,hst,hfl,hml⟩:=id hG
 obtain ⟨wt,pt,hst1,hwt,hpt⟩:=id hst
 have hc0:=hc
 obtain ⟨dx,rl,ll,nl,fs,rs,ls,nv,hx,hf,hrl,hll,hnl,hR,hL,hN,d1,d2,d3⟩:=hc
 cases de with
 |pass b =>
  refine ⟨_,rfl,jM (SqT.of hdd) rfl (⟨rfl,_,rfl,qD rfl ?_⟩)⟩
  exact ⟨_,rfl,_,rfl,_,rfl,_,rfl,jM (SqT.of hdd) rfl (⟨x,wl,st,b,us,ys,d,ms,pl,D,R,L,N,rfl,hG,hin,q⟩)⟩
 |«let» k =>
  have hk:k<L.length:=hin
  refine ⟨_,rfl,jM (SqT.of hdd) rfl (⟨rfl,_,rfl,kM (fun e=>absurd (V.str.inj e) (by decide +kernel)) ?_⟩)⟩
  refine ⟨_,rfl,jM (SqT.of hdd) rfl (⟨rfl,_,rfl,qD rfl ?_⟩)⟩
  refine ⟨_,rfl,x,dx,_,rfl,hx,hf.no (by decide +kernel) (by decide +kernel) (by decide +kernel),_,rfl,jM (SqT.of hst1) rfl (⟨_,rfl,jM (SqT.of hdd) rfl (⟨x,wt,D,R,L,N,ms,k,rfl,hc0,hwt,by omega,_,rfl,?_⟩)⟩)⟩
  have:=q H (Same.refl _)
  change Q (.str (if yU R.length ms k=true then "" else "empty")) H at this
  unfold yU at this
  by_cases h:0<ms.getD (R.length+k) 0
  ·rw [if_pos (decide_eq_true h)] at this
   exact qD h this
  ·rw [if_neg (by rw [decide_eq_true_eq];exact h)] at this
   exact kM h this
 |night =>
  refine ⟨_,rfl,jM (SqT.of hdd) rfl (⟨rfl,_,rfl,kM (fun e=>absurd (V.str.inj e) (by decide +kernel)) ?_⟩)⟩
  refine ⟨_,rfl,jM (SqT.of hdd) rfl (⟨rfl,_,rfl,kM (fun e=>absurd (V.str.inj e) (by decide +kernel)) ?_⟩)⟩
  refine ⟨_,rfl,jM (SqT.of hst1) rfl (⟨_,rfl,j0 hx (T.clN) (T.nN_nights) (hf.2.2.1) (⟨nl,_,rfl,.inl (SqL.of hnl),_,_,rfl,rfl,_,rfl,?_⟩)⟩)⟩
  rw [hN.1]
  have:=q H (Same.refl _)
  change Q (.str (if d<(N.length:Int) then "" else "over")) H at this
  by_cases h:d<(N.length:Int)
  ·rw [if_pos h] at this
   exact qD h this
  ·rw [if_neg h] at this
   exact kM h this
theorem dM:FnScope ["canal","ways","state","deed","word","passes","moved"] ["canal","ways","state","deed"] (jD ZH):=⟨rfl,rfl,rfl,by decide +kernel,rfl,by decide +kernel,by decide +kernel⟩
theorem uP {f:Addr} {fd:FuncData} (F:Fun K "pours" "pours" ZH f fd) (T:Txt K mg cP cB cU cR cN tkS eW eL tkH) (D_why_not:Def P w K mg base 8 "why_not" ["canal","ways","state","deed"] [] (iB (jF cP cB cU) cR cN)) (D_night_pours:Def P w K mg base 5 "night_pours" ["canal","state","weather"] [] (gM K (jF cP cB cU) cR cN)) (D_pass_pours:Def P w K mg base 6 "pass_pours" ["canal","ways","state","boat"] [] (gT (jF cP cB cU) cR cN)) (D_let_pours:Def P w K mg base 4 "let_pours" ["canal","state","k"] [] (o7 (jF cP cB cU) cR cN)) (D_with_spills:Def P w K mg base 4 "with_spills" ["weirs","waters","pours"] [] (gS K)) (MM_Canal_weirs:MeD P w K mg base 2 cN "weirs" ["self"] (bW (jF cP cB cU) cR cN)):FnOk P w K mg base (vG P w) 9 f fd ["canal","ways","state","deed"] (gL (jF cP cB cU) cR cN eW):=by
 refine F.okX dM (fun vs H Q E h=>?_) (fun cdv A outer s H vs Q E hr h=>?_)
 ·obtain ⟨x,wl,st,dd,de,us,ys,d,ms,pl,D,R,L,N,rfl,hG,hdd,hin,hd0,qv,qe⟩:=h
  rfl
 obtain ⟨x,wl,st,dd,de,us,ys,d,ms,pl,D,R,L,N,rfl,hG,hdd,hin,hd0,qv,qe⟩:=h
 have hu:_<cLine:=hr.units0
 have hu1:=jV hr
 refine ⟨_,(@jI _ _ _ _ _ (jT (i:=4) dM.nd rfl (by first|exact Or.inl rfl|exact Or.inr rfl) (jL D_why_not hr rfl (@jA _ _ _ _ _ (pv 0) (@jA _ _ _ _ _ (pv 1) (@jA _ _ _ _ _ (pv 2) (@jA _ _ _ _ _ (pv 3) jB (by rfl)) (by rfl)) (by rfl)) (by rfl))))
   (@jI _ _ _ _ _ (kN (kB z0 (pv 4) j3 (j8 _)) (@jJ _ _ _ (oG mL rfl rfl T.c_NotNow T.x_NotNow (jA (pv 4) jB))) kQ)
   (@jI _ _ _ _ _ (kN (kB kR (jH ix_tup (pv 3) jC (fun _ _=>rfl)) j3 (j8 _)) (@jJ _ _ _ (@jO _ _ _ _ (jL D_night_pours hr rfl (@jA _ _ _ _ _ (pv 0) (@jA _ _ _ _ _ (pv 2) (@jA _ _ _ _ _ (jH kF (jZ (pv 0) rfl) (jH ix_tup (pv 2) jC (fun _ _=>rfl)) (fun _ _=>rfl)) jB (by rfl)) (by rfl)) (by rfl))))) kQ)
   (@jI _ _ _ _ _ (jT (i:=5) dM.nd rfl (by first|exact Or.inl rfl|exact Or.inr rfl) (zF kR (jH ix_tup (pv 3) jC (fun _ _=>rfl)) j3 (j8 _)))
   (@jI _ _ _ _ _ (jT (i:=6) dM.nd rfl (by first|exact Or.inl rfl|exact Or.inr rfl) (zD (zW (pv 5)) (jL D_pass_pours hr rfl (@jA _ _ _ _ _ (pv 0) (@jA _ _ _ _ _ (pv 1) (@jA _ _ _ _ _ (pv 2) (@jA _ _ _ _ _ (jH ix_tup (pv 3) jC (fun _ _=>rfl)) jB (by rfl)) (by rfl)) (by rfl)) (by rfl))) (jL D_let_pours hr rfl (@jA _ _ _ _ _ (pv 0) (@jA _ _ _ _ _ (pv 2) (@jA _ _ _ _ _ (jH ix_tup (pv 3) jC (fun _ _=>rfl)) jB (by rfl)) (by rfl)) (by rfl)))))
   (@jJ _ _ _ (@jO _ _ _ _ (jL D_with_spills hr rfl (@jA _ _ _ _ _ (yH MM_Canal_weirs hr (pv 0)) (@jA _ _ _ _ _ (jH ix_tup (pv 2) jC (fun _ _=>rfl)) (@jA _ _ _ _ _ (pv 6) jB (by rfl)) (by rfl)) (by rfl)))))))))),?_⟩
 obtain ⟨hc,hdr,hwl,hA,hst,hfl,hml⟩:=id hG
 obtain ⟨wt,pt,hst1,hwt,hpt⟩:=id hst
 have hc0:=hc
 obtain ⟨dx,rl,ll,nl,fs,rs,ls,nv,hx,hf,hrl,hll,hnl,hR,hL,hN,d1,d2,d3⟩:=hc
 have b1:=hdr.r8
 have b2:=hdr.l8
 have hTg:=zQ hdr
 refine ⟨_,rfl,_,rfl,_,rfl,_,rfl,x,wl,st,dd,de,us,ys,d,ms,pl,D,R,L,N,rfl,hG,hdd,hin,fun H1 s1=>?_⟩
 refine ⟨_,rfl,rfl,_,rfl,?_⟩
 by_cases hw:qP R L N.length ys d ms pl de=""
 rotate_left
 ·exact J8 (fun e=>hw (V.str.inj e)) ⟨_,rfl,by show 1≤sizeLine;decide,qe hw _ s1⟩
 refine z3 (congrArg V.str hw) ?_
 have qv:=qv hw
 have hdd1:=s1 _ _ hdd
 have hst11:=s1 _ _ hst1
 cases de with
 |night =>
  have hdN:d<(N.length:Int):=by
   change (if d<(N.length:Int) then ("":Str) else "over")="" at hw
   by_cases h:d<(N.length:Int)
   ·exact h
   ·rw [if_neg h] at hw;exact absurd hw (by decide +kernel)
  obtain ⟨dn,hdn⟩:∃dn:Nat,d=(dn:Int):=⟨d.toNat,by omega⟩
  subst hdn
  obtain ⟨W,hWn⟩:∃W,N[dn]?=some W:=⟨_,List.getElem?_eq_getElem (by omega)⟩
  obtain ⟨v,hv,wn,qs,rfl,hwn,hqs,_⟩:=hN.get hWn
  have eW:N.getD (dn:Int).toNat []=W:=by rw [Int.toNat_natCast,List.getD_eq_getElem?_getD,hWn];rfl
  refine ⟨_,rfl,jM (SqT.of hdd1) rfl (⟨rfl,_,rfl,qD rfl ?_⟩)⟩
  refine ⟨_,rfl,_,rfl,_,rfl,j0 ((s1 _ _ hx)) (T.clN) (T.nN_nights) (hf.2.2.1) (⟨_,rfl,jM (SqT.of hst11) rfl (kL (SqL.of (s1 _ _ hnl)) (kX hv) (⟨x,st,wn,_,ms,_,qs,W,D,R,L,N,rfl,hc0.same s1,hst.toI.same s1,s1 _ _ hwn,hqs.mono (QAt.same s1),hdr.night W (List.mem_of_getElem? hWn),hml,by omega,by omega,hTg,fun r H2 gs zs s2 hr0 hr hP hS=>?_⟩))⟩)⟩
  refine qv r H2 gs zs (s1.trans s2) (s1.free hr0) hr ?_ ?_
  ·show PoursH H2 zs ((vW (R.length+2*L.length+1) ms (N.getD (dn:Int).toNat []) R.length).filter kH++_) _
   rw [eW]
   exact hP
  ·show Spl _ (jX ms ((vW (R.length+2*L.length+1) ms (N.getD (dn:Int).toNat []) R.length).filter kH)) gs
   rw [eW]
   exact hS
 |pass b =>
  have hb:b<ys.length:=hin
  obtain ⟨y,hy⟩:∃y,ys[b]?=some y:=⟨_,List.getElem?_eq_getElem hb⟩
  obtain ⟨p,hp⟩:∃p,pl[b]?=some p:=⟨_,List.getElem?_eq_getElem (by rw [hfl.len];exact hb)⟩
  have hple:=hfl.le b y p hy hp
  have ey:ys.getD b (0,[])=y:=by rw [List.getD_eq_getElem?_getD,hy];rfl
  have ep:pl.getD b 0=p:=by rw [List.getD_eq_getElem?_getD,hp];rfl
  have hne:=nR hw
  rw [ey,ep] at hne
  obtain ⟨s₁,hs⟩:∃s,y.2[p]?=some s:=⟨_,List.getElem?_eq_getElem (by omega)⟩
  have es:y.2.getD p (0,true)=s₁:=by rw [List.getD_eq_getElem?_getD,hs];rfl
  refine ⟨_,rfl,jM (SqT.of hdd1) rfl (⟨rfl,_,rfl,kM (fun e=>absurd (V.str.inj e) (by decide +kernel)) ?_⟩)⟩
  refine ⟨_,rfl,jM (SqT.of hdd1) rfl (⟨rfl,?_⟩)⟩
  rw [decide_eq_true rfl]
  refine ⟨_,rfl,_,rfl,kI ?_⟩
  refine ⟨_,rfl,_,rfl,_,rfl,_,rfl,jM (SqT.of hdd1) rfl (⟨x,wl,st,b,us,ys,y,p,s₁,d,ms,pl,D,R,L,N,rfl,hG.same s1,hy,hp,hs,fun m H2 zs s2 hm0 hm hP=>?_⟩)⟩
  have s12:=s1.trans s2
  refine ⟨_,rfl,x,dx,_,rfl,(s12 _ _ hx),hf.no (by decide +kernel) (by decide +kernel) (by decide +kernel),x,D,R,L,N,rfl,hc0.same s12,by omega,fun wq ws H3 s3 hwq0 hwq hW=>?_⟩
  have s13:=s12.trans s3
  have hl:=hP.1
  refine ⟨_,rfl,jM (SqT.of (s13 _ _ hst1)) rfl (⟨_,rfl,wq,wt,m,ws,zs,j4 R L.length,ms,_,rfl,fM hTg hW hwq (.inr (SqT.of (s13 _ _ hwt))) hml (by omega) (by omega),s3 _ _ hm,hP.same s3,?_,fun r H4 gs zs4 s4 hr0 hr hP4 hS=>?_⟩)⟩
  ·rw [hl]
   exact Nat.le_trans (A9 _ _ _ _) (by decide)
  have e:vM R L N ys d ms pl (.pass b)=passQ R.length L ms s₁:=by show passQ R.length L ms _=_;rw [ey,ep,es]
  refine qv r H4 gs zs4 (s13.trans s4) (s13.free hr0) hr ?_ ?_
  ·unfold vV;rw [e];exact hP4
  ·rw [e];exact hS
 |«let» k =>
  have hk:k<L.length:=hin
  refine ⟨_,rfl,jM (SqT.of hdd1) rfl (⟨rfl,_,rfl,kM (fun e=>absurd (V.str.inj e) (by decide +kernel)) ?_⟩)⟩
  refine ⟨_,rfl,jM (SqT.of hdd1) rfl (⟨rfl,?_⟩)⟩
  rw [decide_eq_false (fun e=>absurd (V.str.inj e) (show ¬("let":Str)="pass" by decide +kernel))]
  refine ⟨_,rfl,_,rfl,q8 ?_⟩
  refine ⟨_,rfl,_,rfl,_,rfl,jM (SqT.of hdd1) rfl (⟨x,wl,st,k,us,ys,d,ms,pl,D,R,L,N,rfl,hG.same s1,hk,fun m H2 zs s2 hm0 hm hP=>?_⟩)⟩
  have s12:=s1.trans s2
  refine ⟨_,rfl,x,dx,_,rfl,(s12 _ _ hx),hf.no (by decide +kernel) (by decide +kernel) (by decide +kernel),x,D,R,L,N,rfl,hc0.same s12,by omega,fun wq ws H3 s3 hwq0 hwq hW=>?_⟩
  have s13:=s12.trans s3
  have hl:=hP.1
  refine ⟨_,rfl,jM (SqT.of (s13 _ _ hst1)) rfl (⟨_,rfl,wq,wt,m,ws,zs,j4 R L.length,ms,_,rfl,fM hTg hW hwq (.inr (SqT.of (s13 _ _ hwt))) hml (by omega) (by omega),s3 _ _ hm,hP.same s3,?_,fun r H4 gs zs4 s4 hr0 hr hP4 hS=>?_⟩)⟩
  ·rw [hl]
   exact Nat.le_trans (CC _ _ _ _) (by decide)
  exact qv r H4 gs zs4 (s13.trans s4) (s13.free hr0) hr hP4 hS
theorem wL:FnScope ["canal","ways","state","deed"] ["canal","ways","state","deed"] (jD Q0):=⟨rfl,rfl,rfl,by decide +kernel,rfl,by decide +kernel,by decide +kernel⟩
theorem tT {f:Addr} {fd:FuncData} (F:Fun K "after" "after" Q0 f fd) (T:Txt K mg cP cB cU cR cN tkS eW eL tkH) (D_counted_on:Def P w K mg base 2 "counted_on" ["state","deed","waters"] [] (mU)) (D_poured_all:Def P w K mg base 1 "poured_all" ["waters","pours"] [] (Z8 K)) (DX_pours:DefX P w K mg base 9 "pours" ["canal","ways","state","deed"] [] (gL (jF cP cB cU) cR cN eW)):FnOk P w K mg base (vG P w) 10 f fd ["canal","ways","state","deed"] (oC (jF cP cB cU) cR cN eW):=by
 refine F.okX wL (fun vs H Q E h=>?_) (fun cdv A outer s H vs Q E hr h=>?_)
 ·obtain ⟨x,wl,st,dd,de,us,ys,d,ms,pl,D,R,L,N,rfl,hG,hdd,hin,hd0,qv,qe⟩:=h
  rfl
 obtain ⟨x,wl,st,dd,de,us,ys,d,ms,pl,D,R,L,N,rfl,hG,hdd,hin,hd0,qv,qe⟩:=h
 have hu:_<cLine:=hr.units0
 have hu1:=jV hr
 refine ⟨_,(@jJ _ _ _ (@jO _ _ _ _ (jL D_counted_on hr rfl (@jA _ _ _ _ _ (pv 2) (@jA _ _ _ _ _ (pv 3) (@jA _ _ _ _ _ (jL D_poured_all hr rfl (jA (jH ix_tup (pv 2) jC (fun _ _=>rfl)) (jA (C8 DX_pours CG hr rfl (@jA _ _ _ _ _ (pv 0) (@jA _ _ _ _ _ (pv 1) (@jA _ _ _ _ _ (pv 2) (@jA _ _ _ _ _ (pv 3) jB (by rfl)) (by rfl)) (by rfl)) (by rfl))) jB))) jB (by rfl)) (by rfl)) (by rfl))))),?_⟩
 obtain ⟨hc,hdr,hwl,hA,hst,hfl,hml⟩:=id hG
 obtain ⟨wt,pt,hst1,hwt,hpt⟩:=id hst
 have b1:=hdr.r8
 have b2:=hdr.l8
 have h10:=hfl.n10
 have hln:=hfl.len
 refine ⟨_,rfl,_,rfl,_,rfl,jM (SqT.of hst1) rfl (⟨_,rfl,_,rfl,_,rfl,_,rfl,x,wl,st,dd,de,us,ys,d,ms,pl,D,R,L,N,rfl,hG,hdd,hin,hd0,fun hw r H1 gs zs s1 hr0 hr hP hS=>?_,fun hw H1 s1=>qe hw _ s1⟩)⟩
 have qv:=qv hw
 refine ⟨wt,r,ms,zs,_,rfl,.inr (SqT.of (s1 _ _ hwt)),SqL.of hr,hP.pa,by omega,fun wo H2 s2 hwo0 hwo=>?_⟩
 have s12:=s1.trans s2
 exact ⟨st,dd,wo,de,d,ms,_,pl,rfl,hst.same s12,s12 _ _ hdd,hwo,by omega,fun r3 H3 s3 hr30 h3=>qv r3 H3 gs (s12.trans s3) (s12.free hr30) h3 hS⟩
theorem fG:FnScope ["canal","ways","state","passes","lets"] ["canal","ways","state"] (jD y6):=⟨rfl,rfl,rfl,by decide +kernel,rfl,by decide +kernel,by decide +kernel⟩
theorem uG {f:Addr} {fd:FuncData} (F:Fun K "may" "may" y6 f fd) (T:Txt K mg cP cB cU cR cN tkS eW eL tkH) (D_why_not:Def P w K mg base 8 "why_not" ["canal","ways","state","deed"] [] (iB (jF cP cB cU) cR cN)):FnOk P w K mg base jQ 9 f fd ["canal","ways","state"] (rH (jF cP cB cU) cR cN):=by
 refine F.ok fG (fun vs H Q E h=>?_) (fun cdv A outer s H vs Q E hr h=>?_)
 ·obtain ⟨x,wl,st,us,ys,d,ms,pl,D,R,L,N,rfl,hG,q⟩:=h
  rfl
 obtain ⟨x,wl,st,us,ys,d,ms,pl,D,R,L,N,rfl,hG,q⟩:=h
 have hu:_<cLine:=hr.units0
 have hu1:=jV hr
 refine ⟨_,(@jI _ _ _ _ _ (zB (i:=3) ["boat"] (kP 1 []) fG.nd rfl (by first|exact Or.inl rfl|exact Or.inr rfl) rfl (kZ (jD y6) rfl rfl (by decide +kernel) (by decide +kernel) (by decide +kernel)) (qA 1 [] rfl rfl (by decide +kernel)) (vN (by rfl) T.z_range (jA (kD kJ (by rfl) T.z_len PySem.boot_len (jA (pv 1) jB)) jB)) (fun _ _ _ _ _=>(j7 (i:=0) (show List.Nodup (["boat"]:List Str) from by decide +kernel) rfl (by first|exact Or.inl rfl|exact Or.inr rfl))) (fun _ _ _ _ _=>qR) (fun _ _ _ _ _=>(kG (jA j3 (jA (pv 0) jB)))))
   (@jI _ _ _ _ _ (zB (i:=4) ["k"] (kP 1 []) fG.nd rfl (by first|exact Or.inl rfl|exact Or.inr rfl) rfl (kZ (jD y6) rfl rfl (by decide +kernel) (by decide +kernel) (by decide +kernel)) (qA 1 [] rfl rfl (by decide +kernel)) (vN (by rfl) T.z_range (jA (kD kJ (by rfl) T.z_len PySem.boot_len (jA (jZ (pv 0) rfl) jB)) jB)) (fun _ _ _ _ _=>(j7 (i:=0) (show List.Nodup (["k"]:List Str) from by decide +kernel) rfl (by first|exact Or.inl rfl|exact Or.inr rfl))) (fun _ _ _ _ _=>qR) (fun _ _ _ _ _=>(kG (jA j3 (jA (pv 0) jB)))))
   (@jJ _ _ _ (@jO _ _ _ _ (vE ["deed","canal","ways","state"] (kP 1 [0,1,2]) rfl (kZ (jD y6) rfl rfl (by decide +kernel) (by decide +kernel) (by decide +kernel)) (qA 1 [0,1,2] rfl rfl (by decide +kernel)) (qY (@jG _ _ _ _ _ _ _ _ J3 (@jG _ _ _ _ _ _ _ _ J3 (pv 3) (pv 4)) (qE (jA (kG (jA j3 jB)) jB)))) (fun _ _ _ _ _=>(j7 (i:=0) (show List.Nodup (["deed","canal","ways","state"]:List Str) from by decide +kernel) rfl (by first|exact Or.inl rfl|exact Or.inr rfl))) (fun _ _ _ _ _=>(ZW (kB kR (jL D_why_not hr rfl (@jA _ _ _ _ _ (pv 1) (@jA _ _ _ _ _ (pv 2) (@jA _ _ _ _ _ (pv 3) (@jA _ _ _ _ _ (pv 0) jB (by rfl)) (by rfl)) (by rfl)) (by rfl))) j3 (j8 _)))) (fun _ _ _ _ _=>(pv 0))))))),?_⟩
 obtain ⟨hc,hdr,hwl,hA,hst,hfl,hml⟩:=id hG
 obtain ⟨dx,rl,ll,nl,fs,rs,ls,nv,hx,hf,hrl,hll,hnl,hR,hL,hN,d1,d2,d3⟩:=hc
 have b1:=hdr.r8
 have b2:=hdr.l8
 have h10:=hfl.n10
 have hul:=hA.1
 refine ⟨_,rfl,wl,_,rfl,.inl (SqL.of hwl),_,rfl,by omega,by omega,fun D₁ hD₁=>?_⟩
 refine zA (n:=((us.length:Nat):Int).toNat) (caps:=[]) (fun i zs Hi=>AllAt (DdAt Hi) zs (passes i)) hD₁ AllAt.nil ?_ ?_
 ·rintro i zs Hi hi hle sm hY hZ
  rw [Int.toNat_natCast] at hi
  rw [Int.zero_add]
  refine qT (kI ⟨_,rfl,zz2,fun tp htp=>?_⟩)
  have u:=jK htp (.tup [V.str "pass",V.int (i:Int)])
  refine vA hD₁ sm hY hle (by omega) u ?_
  rw [show passes (i+1)=passes i++[.pass i] by unfold passes;rw [List.range_succ,List.map_append];rfl]
  exact ((hZ.mono (DdAt.same u)).snoc (v:=.ref tp) (x:=.pass i) ⟨tp,rfl,jE⟩).mono (DdAt.put (u _ _ hY))
 rintro zs H1 s1 hY1 hle1 hZ1
 rw [Int.toNat_natCast] at hZ1
 refine ⟨_,rfl,j0 ((s1 _ _ hx)) (T.clN) (T.nN_locks) (hf.2.1) (⟨ll,_,rfl,.inl (SqL.of (s1 _ _ hll)),_,rfl,by omega,by rw [hL.1];omega,fun D₂ hD₂=>?_⟩)⟩
 refine zA (n:=((ls.length:Nat):Int).toNat) (caps:=[]) (fun i zs Hi=>AllAt (DdAt Hi) zs (lets i)) hD₂ AllAt.nil ?_ ?_
 ·rintro i zs Hi hi hle sm hY hZ
  rw [Int.toNat_natCast,hL.1] at hi
  rw [Int.zero_add]
  refine qT (kI ⟨_,rfl,zz2,fun tp htp=>?_⟩)
  have u:=jK htp (.tup [V.str "let",V.int (i:Int)])
  refine vA hD₂ sm hY hle (by omega) u ?_
  rw [show lets (i+1)=lets i++[.let i] by unfold lets;rw [List.range_succ,List.map_append];rfl]
  exact ((hZ.mono (DdAt.same u)).snoc (v:=.ref tp) (x:=.let i) ⟨tp,rfl,jE⟩).mono (DdAt.put (u _ _ hY))
 rintro zs2 H2 s2 hY2 hle2 hZ2
 rw [Int.toNat_natCast,hL.1] at hZ2
 have l1:=hZ1.1
 have l2:=hZ2.1
 unfold passes at l1
 unfold lets at l2
 rw [List.length_map,List.length_range] at l1 l2
 refine ⟨_,rfl,_,rfl,D₁,D₂,_,_,rfl,rfl,s2 _ _ hY1,hY2,small (by omega),fun al hal=>?_⟩
 have s3:=jK hal (.lst (zs++zs2))
 refine ⟨zz1,fun tp htp=>?_⟩
 have s4:=jK htp (.tup [V.str "night"])
 refine ⟨zz1,fun lp hlp=>?_⟩
 have s5:=jK hlp (.lst [V.ref tp])
 have hal5:=s5 _ _ (s4 _ _ (jE:upd H2 al (.lst (zs++zs2)) al=_))
 refine ⟨al,lp,_,_,rfl,rfl,hal5,jE,small (by rw [List.length_append,l1,l2];show _+1≤1000;omega),fun rr hrr=>?_⟩
 have s6:=jK hrr (.lst (zs++zs2++[V.ref tp]))
 have s36:=((s3.trans s4).trans s5).trans s6
 have s26:=s2.trans s36
 have s16:=s1.trans s26
 have hZ:AllAt (DdAt (upd (upd (upd (upd H2 al (.lst (zs++zs2))) tp (.tup [V.str "night"])) lp (.lst [V.ref tp])) rr (.lst (zs++zs2++[V.ref tp])))) (zs++zs2++[V.ref tp]) (yN ys.length L.length):=by
  unfold yN
  rw [← hul]
  exact ((hZ1.mono (DdAt.same s26)).app (hZ2.mono (DdAt.same s36))).snoc (v:=.ref tp) (x:=.night) ⟨tp,rfl,s6 _ _ (s5 _ _ jE)⟩
 have hrr1:upd (upd (upd (upd H2 al (.lst (zs++zs2))) tp (.tup [V.str "night"])) lp (.lst [V.ref tp])) rr (.lst (zs++zs2++[V.ref tp])) rr=_:=jE
 generalize upd (upd (upd (upd H2 al (.lst (zs++zs2))) tp (.tup [V.str "night"])) lp (.lst [V.ref tp])) rr (.lst (zs++zs2++[V.ref tp]))=H6 at hZ hrr1 s16 ⊢
 have hln:=hZ.1
 rw [xL] at hln
 generalize zs++zs2++[V.ref tp]=za at hZ hrr1 hln ⊢
 refine ⟨rr,rfl,⟨_,SqL.of hrr1⟩,fun Df hDf=>?_⟩
 refine JF (K:=K) (a:=rr) (xs:=za) (caps:=[some (.ref x),some (.ref wl),some (.ref st)]) (fun i zs Hi=>AllAt (DdAt Hi) zs (((yN ys.length L.length).take i).filter fun de=>decide (qP R L N.length ys d ms pl de=""))) hDf (SqL.of hrr1) AllAt.nil ?_ ?_
 ·rintro i v zs Hi hv hi hle sm hY hzz
  obtain ⟨de,hde,t,rfl,ht⟩:=hZ.2 i v hv
  have hin:=fR (List.mem_of_getElem? hde)
  refine ⟨_,rfl,_,rfl,_,rfl,_,rfl,x,wl,st,t,de,us,ys,d,ms,pl,D,R,L,N,rfl,hG.same (s16.trans sm),sm _ _ ht,hin,fun H7 s7=>⟨rfl,_,rfl,?_⟩⟩
  by_cases hw:qP R L N.length ys d ms pl de=""
  ·refine qD (congrArg V.str hw) ⟨_,rfl,vA hDf sm hY hle (by omega) s7 ?_⟩
   rw [oM hde,if_pos hw]
   exact ((hzz.mono (DdAt.same s7)).snoc (v:=.ref t) (x:=de) ⟨t,rfl,s7 _ _ (sm _ _ ht)⟩).mono (DdAt.put (s7 _ _ hY))
  ·refine kM (fun e=>hw (V.str.inj e)) (d0 sm hY hle s7 ?_)
   rw [oM hde,if_neg hw,List.append_nil]
   exact hzz.mono (DdAt.same s7)
 rintro zr H8 s8 hY hle hzz
 rw [hZ.1,List.take_length] at hzz
 exact q Df zr H8 (s16.trans s8) (s16.free hDf) hY hzz
theorem lD:FnScope ["canal","state","weather","waters"] ["canal","state","weather"] (jD Q1):=⟨rfl,rfl,rfl,by decide +kernel,rfl,by decide +kernel,by decide +kernel⟩
theorem tU {f:Addr} {fd:FuncData} (F:Fun K "after_night" "after_night" Q1 f fd) (T:Txt K mg cP cB cU cR cN tkS eW eL tkH) (D_poured_all:Def P w K mg base 1 "poured_all" ["waters","pours"] [] (Z8 K)) (D_night_pours:Def P w K mg base 5 "night_pours" ["canal","state","weather"] [] (gM K (jF cP cB cU) cR cN)):FnOk P w K mg base jQ 6 f fd ["canal","state","weather"] (oE K (jF cP cB cU) cR cN):=by
 refine F.ok lD (fun vs H Q E h=>?_) (fun cdv A outer s H vs Q E hr h=>?_)
 ·obtain ⟨x,t,wl,d,ms,ps,us,W,D,R,L,N,rfl,hc,hst,hwl,hA,hWR,hms,hR100,hL100,hTg,q⟩:=h
  rfl
 obtain ⟨x,t,wl,d,ms,ps,us,W,D,R,L,N,rfl,hc,hst,hwl,hA,hWR,hms,hR100,hL100,hTg,q⟩:=h
 have hu:_<cLine:=hr.units0
 have hu1:=jV hr
 refine ⟨_,(@jI _ _ _ _ _ (jT (i:=3) lD.nd rfl (by first|exact Or.inl rfl|exact Or.inr rfl) (jL D_poured_all hr rfl (jA (jH ix_tup (pv 1) jC (fun _ _=>rfl)) (jA (jL D_night_pours hr rfl (@jA _ _ _ _ _ (pv 0) (@jA _ _ _ _ _ (pv 1) (@jA _ _ _ _ _ (pv 2) jB (by rfl)) (by rfl)) (by rfl))) jB))))
   (@jJ _ _ _ (@jO _ _ _ _ (kG (@jA _ _ _ _ _ (@jG _ _ _ _ _ _ _ _ jY (jH ix_tup (pv 1) jC (fun _ _=>rfl)) jC) (@jA _ _ _ _ _ (pv 3) (@jA _ _ _ _ _ (jH ix_tup (pv 1) jC (fun _ _=>rfl)) jB (by rfl)) (by rfl)) (by rfl)))))),?_⟩
 obtain ⟨wt,pt,h1,h2,h3⟩:=id hst
 refine ⟨_,rfl,jM (SqT.of h1) rfl (⟨_,rfl,_,rfl,_,rfl,x,t,wl,d,ms,ps,us,W,D,R,L,N,rfl,hc,hst,hwl,hA,hWR,hms,hR100,hL100,hTg,fun r H1 gs ys s1 hr0 hr hP hS=>?_⟩)⟩
 refine ⟨wt,r,ms,ys,_,rfl,.inr (SqT.of (s1 _ _ h2)),SqL.of hr,hP.pa,by omega,fun wo H2 s2 hwo0 hwo=>?_⟩
 have s12:=s1.trans s2
 refine ⟨_,rfl,jM (SqT.of (s12 _ _ h1)) rfl (jU (⟨_,rfl,_,rfl,jM (SqT.of (s12 _ _ h1)) rfl (⟨zz3,fun t3 ht3=>?_⟩)⟩))⟩
 have s3:=jK ht3 (.tup [V.int (d+1),V.ref wo,V.ref pt])
 exact q t3 _ gs (s12.trans s3) (s12.free ht3) ⟨wo,pt,jE,s3 _ _ hwo,s3 _ _ (s12 _ _ h3)⟩ hS
theorem lF:FnScope ["canal","waters","others","first"] ["canal","waters","others"] (jD ZB):=⟨rfl,rfl,rfl,by decide +kernel,rfl,by decide +kernel,by decide +kernel⟩
theorem uE {f:Addr} {fd:FuncData} (F:Fun K "locks_hold_the_same" "locks_hold_the_same" ZB f fd) (T:Txt K mg cP cB cU cR cN tkS eW eL tkH) (MM_Canal_sea:MeD P w K mg base 1 cN "sea" ["self"] (yB (jF cP cB cU) cR cN qB)):FnOk P w K mg base jQ 2 f fd ["canal","waters","others"] (rK (jF cP cB cU) cR cN):=by
 refine F.ok lF (fun vs H Q E h=>?_) (fun cdv A outer s H vs Q E hr h=>?_)
 ·obtain ⟨x,w,o,ms,ms',D,R,L,N,rfl,hc,hw,ho,r1,m1,m2,q⟩:=h
  rfl
 obtain ⟨x,w,o,ms,ms',D,R,L,N,rfl,hc,hw,ho,r1,m1,m2,q⟩:=h
 have hu:_<cLine:=hr.units0
 have hu1:=jV hr
 refine ⟨_,(@jI _ _ _ _ _ (jT (i:=3) lF.nd rfl (by first|exact Or.inl rfl|exact Or.inr rfl) (kD kJ (by rfl) T.z_len PySem.boot_len (jA (jZ (pv 0) rfl) jB)))
   (@jJ _ _ _ (@jO _ _ _ _ (zF (EJ hu) (ZT cJ (pv 1) (yL (pv 3)) (yL (yH MM_Canal_sea hr (pv 0)))) (ZT cJ (pv 2) (yL (pv 3)) (yL (yH MM_Canal_sea hr (pv 0)))) (j8 _))))),?_⟩
 have hc0:=hc
 obtain ⟨dx,rl,ll,nl,fs,rs,ls,nv,hx,hf,hrl,hll,hnl,hR,hL,hN,d1,d2,d3⟩:=hc
 refine ⟨_,rfl,j0 hx (T.clN) (T.nN_reaches) (hf.1) (⟨rl,_,rfl,.inl (SqL.of hrl),?_⟩)⟩
 rw [hR.1]
 refine ⟨_,rfl,_,rfl,_,rfl,_,rfl,x,dx,_,rfl,hx,hf.no (by decide +kernel) (by decide +kernel) (by decide +kernel),x,D,R,L,N,rfl,hc0,_,rfl,w,_,rfl,SqT.of hw,cM r1 m1,fun p1 hp1=>?_⟩
 have s1:=jK hp1 (.tup (kT (ms.map V.int) (some (R.length:Int)) (some (qB R.length L.length))))
 refine ⟨_,rfl,_,rfl,_,rfl,_,rfl,x,dx,_,rfl,(s1 _ _ hx),hf.no (by decide +kernel) (by decide +kernel) (by decide +kernel),x,D,R,L,N,rfl,hc0.same s1,_,rfl,o,_,rfl,SqT.of (s1 _ _ ho),cM r1 m2,fun p2 hp2=>?_⟩
 have s2:=jK hp2 (.tup (kT (ms'.map V.int) (some (R.length:Int)) (some (qB R.length L.length))))
 exact ⟨p1,p2,_,_,rfl,rfl,SqT.of (s2 _ _ jE),SqT.of jE,bU _ _ _,bU _ _ _,q _ (s1.trans s2)⟩
theorem w5:FnScope ["canal","waters","others"] ["canal","waters","others"] (jD JR):=⟨rfl,rfl,rfl,by decide +kernel,rfl,by decide +kernel,by decide +kernel⟩
theorem uR {f:Addr} {fd:FuncData} (F:Fun K "reaches_hold_as_much" "reaches_hold_as_much" JR f fd) (T:Txt K mg cP cB cU cR cN tkS eW eL tkH) : FnOk P w K mg base jQ 1 f fd ["canal","waters","others"] (rG (jF cP cB cU) cR cN):=by
 refine F.ok w5 (fun vs H Q E h=>?_) (fun cdv A outer s H vs Q E hr h=>?_)
 ·obtain ⟨x,w,o,ms,ms',D,R,L,N,rfl,hc,hw,ho,r1,m1,m2,q⟩:=h
  rfl
 obtain ⟨x,w,o,ms,ms',D,R,L,N,rfl,hc,hw,ho,r1,m1,m2,q⟩:=h
 have hu:_<cLine:=hr.units0
 have hu1:=jV hr
 refine ⟨_,(@jJ _ _ _ (@jO _ _ _ _ (kD (BT rfl) (by rfl) T.z_all PyProof.Rows.boot_all (jA (vE ["at","waters","others"] (kP 1 [1,2]) rfl (kZ (jD JR) rfl rfl (by decide +kernel) (by decide +kernel) (by decide +kernel)) (qA 1 [1,2] rfl rfl (by decide +kernel)) (vN (by rfl) T.z_range (jA (kD kJ (by rfl) T.z_len PySem.boot_len (jA (jZ (pv 0) rfl) jB)) jB)) (fun _ _ _ _ _=>(j7 (i:=0) (show List.Nodup (["at","waters","others"]:List Str) from by decide +kernel) rfl (by first|exact Or.inl rfl|exact Or.inr rfl))) (fun _ _ _ _ _=>qR) (fun _ _ _ _ _=>(zF rO (jH (yO K) (pv 1) (pv 0) (fun _ _=>rfl)) (jH (yO K) (pv 2) (pv 0) (fun _ _=>rfl)) (j8 _)))) jB)))),?_⟩
 obtain ⟨dx,rl,ll,nl,fs,rs,ls,nv,hx,hf,hrl,hll,hnl,hR,hL,hN,d1,d2,d3⟩:=hc
 refine ⟨_,rfl,j0 hx (T.clN) (T.nN_reaches) (hf.1) (⟨rl,_,rfl,.inl (SqL.of hrl),_,rfl,by omega,by rw [hR.1];omega,fun D₁ hD₁=>?_⟩)⟩
 refine zA (n:=((rs.length:Nat):Int).toNat) (caps:=[some (.ref w),some (.ref o)]) (fun i zs _=>zs=((List.range i).map fun i=>decide (ms'.getD i 0≤ms.getD i 0)).map V.bl) hD₁ rfl ?_ ?_
 ·rintro i zs Hi hi hle sm hY rfl
  rw [Int.toNat_natCast,hR.1] at hi
  rw [Int.zero_add]
  refine qT (kI ⟨_,rfl,_,rfl,jM (SqT.of (sm _ _ hw)) (qF (by omega)) (⟨_,rfl,_,rfl,jM (SqT.of (sm _ _ ho)) (qF (by omega)) (jU (vA hD₁ sm hY hle (by omega) (Same.refl _) ?_))⟩)⟩)
  rw [List.range_succ,List.map_append,List.map_append]
  rfl
 rintro zs H1 s1 hY hle rfl
 rw [Int.toNat_natCast,hR.1] at hY
 refine ⟨D₁,_,rfl,SqL.of hY,?_⟩
 rw [List.all_map]
 exact q H1 s1
theorem wM:FnScope ["canal","state","other"] ["canal","state","other"] (jD Q2):=⟨rfl,rfl,rfl,by decide +kernel,rfl,by decide +kernel,by decide +kernel⟩
theorem tV {f:Addr} {fd:FuncData} (F:Fun K "as_wet" "as_wet" Q2 f fd) (T:Txt K mg cP cB cU cR cN tkS eW eL tkH) (D_reaches_hold_as_much:Def P w K mg base 1 "reaches_hold_as_much" ["canal","waters","others"] [] (rG (jF cP cB cU) cR cN)) (D_locks_hold_the_same:Def P w K mg base 2 "locks_hold_the_same" ["canal","waters","others"] [] (rK (jF cP cB cU) cR cN)):FnOk P w K mg base jQ 3 f fd ["canal","state","other"] (rL (jF cP cB cU) cR cN):=by
 refine F.ok wM (fun vs H Q E h=>?_) (fun cdv A outer s H vs Q E hr h=>?_)
 ·obtain ⟨x,t,o,d,d',ms,ms',ps,ps',D,R,L,N,rfl,hc,⟨wt,pt,h1,h2,h3⟩,⟨wo,po,g1,g2,g3⟩,r1,r2,l2,m1,m2,q⟩:=h
  rfl
 obtain ⟨x,t,o,d,d',ms,ms',ps,ps',D,R,L,N,rfl,hc,⟨wt,pt,h1,h2,h3⟩,⟨wo,po,g1,g2,g3⟩,r1,r2,l2,m1,m2,q⟩:=h
 have hu:_<cLine:=hr.units0
 have hu1:=jV hr
 refine ⟨_,(@jI _ _ _ _ _ (kN (PW.pt (cO (kB z0 (jH ix_tup (pv 1) jC (fun _ _=>rfl)) (jH ix_tup (pv 2) jC (fun _ _=>rfl)) (j8 _)) (eM (kB (iG hu) (jH ix_tup (pv 1) jC (fun _ _=>rfl)) (jH ix_tup (pv 2) jC (fun _ _=>rfl)) (j8 _))))) (@jJ _ _ _ (@jO _ _ _ _ yR)) kQ)
   (@jJ _ _ _ (@jO _ _ _ _ (pV (jL D_locks_hold_the_same hr rfl (@jA _ _ _ _ _ (pv 0) (@jA _ _ _ _ _ (jH ix_tup (pv 1) jC (fun _ _=>rfl)) (@jA _ _ _ _ _ (jH ix_tup (pv 2) jC (fun _ _=>rfl)) jB (by rfl)) (by rfl)) (by rfl))) (pU (jL D_reaches_hold_as_much hr rfl (@jA _ _ _ _ _ (pv 0) (@jA _ _ _ _ _ (jH ix_tup (pv 1) jC (fun _ _=>rfl)) (@jA _ _ _ _ _ (jH ix_tup (pv 2) jC (fun _ _=>rfl)) jB (by rfl)) (by rfl)) (by rfl)))))))),?_⟩
 have e0:¬d=d'→yY R.length L.length d d' ms ms' ps ps'=false:=fun h=>by unfold yY;rw [decide_eq_false h];rfl
 have e1:qI (ps.map V.int) (ps'.map V.int)=false→yY R.length L.length d d' ms ms' ps ps'=false:=fun h=>by unfold yY;rw [h];cases decide (d=d')<;>rfl
 have e2:d=d'→qI (ps.map V.int) (ps'.map V.int)=true→yY R.length L.length d d' ms ms' ps ps'=(JC R.length L.length ms ms'&&dA R.length ms ms'):=fun h h'=>by unfold yY;rw [decide_eq_true h,h'];rfl
 refine ⟨_,rfl,jM (SqT.of h1) rfl (⟨_,rfl,jM (SqT.of g1) rfl (⟨rfl,_,rfl,?_⟩)⟩)⟩
 by_cases hd:d=d'
 rotate_left
 ·refine J8 (fun z=>hd (V.int.inj z)) (kI ?_)
  have:=q H (Same.refl _)
  rw [e0 hd] at this
  exact this
 refine z3 (congrArg V.int hd) ?_
 refine ⟨_,rfl,jM (SqT.of h1) rfl (⟨_,rfl,jM (SqT.of g1) rfl (⟨pt,po,_,_,rfl,rfl,SqT.of h3,SqT.of g3,zC _,zC _,_,rfl,?_⟩)⟩)⟩
 show if (!qI (ps.map V.int) (ps'.map V.int))=true then _ else _
 cases hp:qI (ps.map V.int) (ps'.map V.int) with
 |false =>
  refine kI ?_
  have:=q H (Same.refl _)
  rw [e1 hp] at this
  exact this
 |true =>
 refine q8 ?_
 have e2:=e2 hd hp
 refine ⟨_,rfl,_,rfl,jM (SqT.of h1) rfl (⟨_,rfl,jM (SqT.of g1) rfl (⟨x,wt,wo,ms,ms',D,R,L,N,rfl,hc,h2,g2,r1,by omega,by omega,fun H1 s1=>?_⟩)⟩)⟩
 refine ⟨_,rfl,?_⟩
 cases hl:JC R.length L.length ms ms' with
 |false =>
  refine q8 ?_
  have:=q H1 s1
  rw [e2,hl] at this
  exact this
 |true =>
  refine kI ⟨_,rfl,_,rfl,jM (SqT.of (s1 _ _ h1)) rfl (⟨_,rfl,jM (SqT.of (s1 _ _ g1)) rfl (⟨x,wt,wo,ms,ms',D,R,L,N,rfl,hc.same s1,s1 _ _ h2,s1 _ _ g2,r2,m1,m2,fun H2 s2=>?_⟩)⟩)⟩
  have:=q H2 (s1.trans s2)
  rw [e2,hl] at this
  exact this
theorem xQ {cs:Kd→Addr} {cR cN:Addr} {D:List Addr} {H:Hp} {x wl st wt zt:Addr} {us:List V} {R:List RC} {L:List LC} {N:List (List (Int×Int))} {ys:List kA} {gs:List Int} (hc:CnAt cs cR cN D H x R L N) (hd:Drawn R L N) (hwl:H wl=some (.lst us)) (hA:AllAt (WyAt H) us ys) (h10:ys.length≤10) (hok:∀y∈ys,WyOk L y) (hst:H st=some (.tup [.int 0,.ref wt,.ref zt])) (hwt:H wt=some (.tup ((yW (vK R L.length) (j4 R L.length) gs).map V.int))) (hzt:H zt=some (.tup (List.replicate us.length (.int 0)))) (hS:Spl (j4 R L.length) (vK R L.length) gs):Stage cs cR cN D H x wl st us R L N ys 0 (eS R L (vK R L.length)) (List.replicate ys.length 0):=by
 have e:=pB hd hS
 refine ⟨hc,hd,hwl,hA,⟨wt,zt,hst,by rw [hwt,e],by rw [hzt,hA.1,List.map_replicate];rfl⟩,⟨List.length_replicate,h10,hok,fun i y p _ hp=>?_⟩,by rw [← e,xT,bQ]⟩
 rw [List.getElem?_replicate] at hp
 split at hp
 ·cases hp;exact Nat.zero_le _
 ·cases hp
theorem BL {K:W.Frag} {a:Addr} {xs:List V} {g:TG} {tb:TS} {D:Ends} {σ:St} {H:Hp} (Pv:Nat→St→Hp→Prop) (h0:Pv 0 σ H) (hl:∀i σ H,i≤xs.length→Pv i σ H→SqL K H a xs) (hd:∀i σ H,i≤xs.length→Pv i σ H→D.nx σ H)
  (hs:(∀i σ H,i≤xs.length→Pv i σ H→D.nx σ H)→∀i x σ H,xs[i]?=some x→Pv i σ H→g x σ H fun σ2 H2=>tb {D with nx:=Pv (i+1),ct:=Pv (i+1),bk:=D.nx} σ2 H2) :
  ∃W:Nat→Nat→St→Hp→Prop,(∃m,W 0 m σ H)∧∀i m σ H,W i m σ H→
   ((yZ K a).stop i H∧D.nx σ H)∨((yZ K a).go i H∧∃N:St→Hp→Prop,(∀σ' H',N σ' H'→∃m',m'<m∧W (i+1) m' σ' H')∧∀x H',(yZ K a).yld i H x H'→g x σ H' fun σ2 H2=>tb {D with nx:=N,ct:=N,bk:=D.nx} σ2 H2) :=
 bZ Pv h0 hl (hs hd) fun σ H p=>hd _ σ H (Nat.le_refl _) p
theorem EX {d:Int} (h:0≤d) (de:Deed):0≤bC d de:=by
 cases de with
 |night=>show 0≤d+1;omega
 |«let» j=>exact h
 |pass b=>exact h
def iD (K:W.Frag):Sp:=fun vs H Q _=>∃(s:Addr) (ns:List Int) (k:Int),vs=[.ref s,.int k]∧SqL K H s (ns.map V.int)∧ns.length≤63∧0≤k∧k≤10000∧∀z:Int,0≤z→Q (.int z) H
def nY (K:W.Frag) (cs:Kd→Addr) (cR cN:Addr):Sp:=fun vs H Q _=>∃(s x:Addr) (ns:List Int) (d:Nat) (D:List Addr) (R:List RC) (L:List LC) (N:List (List (Int×Int))),vs=[.ref s,.ref x,.int (d:Int)]∧SqL K H s (ns.map V.int)∧ns.length≤63∧CnAt cs cR cN D H x R L N∧Drawn R L N∧G1 N∧d<N.length∧
 ∀(l:Addr) (us:List V) (p:List (Int×Int)) (H':Hp),p.length=R.length→eV R.length (N.getD d []) p→Same H H'→H' l=some (.lst us)→AllAt (QAt H') us p→Q (.ref l) H'
def pR (cs:Kd→Addr) (cR cN:Addr):Sp:=fun vs H Q _=>∃(x t o:Addr) (d:Int) (ms ms' ps:List Int) (D:List Addr) (R:List RC) (L:List LC) (N:List (List (Int×Int))),vs=[.ref x,.ref t,.ref o]∧CnAt cs cR cN D H x R L N∧Drawn R L N∧StI H t d ms' ps∧StI H o d ms ps∧ms.length=R.length+2*L.length+2∧Wet R L ms ms'∧∀H',Same H H'→Q (.bl true) H'
def bG (H:Hp) (t:Addr) (de:Deed) (a:Addr):Bool:=if a=t then true else match H a with|some (.tup xs)=>qI xs (yJ de)|_=>false
theorem gG (de:Deed):(yJ de).all qH=true:=by cases de<;>rfl
theorem EW {K:W.Frag} {H:Hp} {t a:Addr} {de da:Deed} (ht:H t=some (.tup (yJ de))) (ha:H a=some (.tup (yJ da))):DEq K H (.ref a) (.ref t) (bG H t de a):=by
 unfold bG
 by_cases e:a=t
 ·subst e
  rw [if_pos rfl]
  exact .same a
 ·rw [if_neg e,ha]
  exact .tup e (SqT.of ha) (SqT.of ht) (gG _) (gG _)
theorem BU {H:Hp} {t:Addr} {de:Deed} {us:List V} {qs:List Deed} (h:AllAt (DdAt H) us qs) (hm:de∈qs):cW (bG H t de) us=true:=by
 obtain ⟨i,hi,e⟩:=List.mem_iff_getElem.mp hm
 obtain ⟨v,hv,a,rfl,ha⟩:=h.get (i:=i) (x:=de) (by rw [List.getElem?_eq_getElem hi,e])
 unfold cW
 rw [List.any_eq_true]
 refine ⟨.ref a,List.mem_of_getElem? hv,?_⟩
 show bG H t de a=true
 unfold bG
 by_cases e:a=t
 ·rw [if_pos e]
 ·rw [if_neg e,ha]
  exact cA (gG _)
theorem AV {R:List RC} {L:List LC} {ms as:List Int} (hm:ms.length=R.length+2*L.length+2) (ha:as.length=R.length) (h0:∀z∈as,0≤z):Wet R L ms (((List.range R.length).map fun i=>ms.getD i 0+as.getD i 0)++ms.drop R.length):=by
 have hl:((List.range R.length).map fun i=>ms.getD i 0+as.getD i 0).length=R.length:=by rw [List.length_map,List.length_range]
 refine ⟨by rw [List.length_append,hl,List.length_drop];omega,fun i hi=>?_,fun i i1 i2=>?_⟩
 ·rw [List.getD_eq_getElem?_getD (l:=_++_),List.getElem?_append_left (by rw [hl];exact hi),List.getElem?_map,List.getElem?_range hi]
  have:0≤as.getD i 0:=by
   rw [List.getD_eq_getElem?_getD,List.getElem?_eq_getElem (show i<as.length by omega)]
   exact h0 _ (List.getElem_mem _)
  show ms.getD i 0≤ms.getD i 0+as.getD i 0
  omega
 ·rw [List.getD_eq_getElem?_getD (l:=_++_),List.getElem?_append_right (by rw [hl];exact i1),hl,List.getElem?_drop,Nat.add_sub_cancel' i1,← List.getD_eq_getElem?_getD]
theorem lB:FnScope ["script","k","many","cell"] ["script","k","many"] (jD QR):=⟨rfl,rfl,rfl,by decide +kernel,rfl,by decide +kernel,by decide +kernel⟩
theorem tK {f:Addr} {fd:FuncData} (F:Fun K "_law_draw" "_law_draw" QR f fd) (T:Txt K mg cP cB cU cR cN tkS eW eL tkH) : FnOk P w K mg base jQ 1 f fd ["script","k","many"] (zV K):=by
 refine F.ok lB (fun vs H Q E h=>?_) (fun cdv A outer s H vs Q E hr h=>?_)
 ·obtain ⟨s,ns,k,m,rfl,hS,h63,hk0,hk1,hm,q⟩:=h
  rfl
 obtain ⟨s,ns,k,m,rfl,hS,h63,hk0,hk1,hm,q⟩:=h
 have hu:_<cLine:=hr.units0
 have hu1:=jV hr
 refine ⟨_,(@jI _ _ _ _ _ (kN (kB kR (kD kJ (by rfl) T.z_len PySem.boot_len (jA (pv 0) jB)) jC (j8 _)) (@jJ _ _ _ (@jO _ _ _ _ (@jG _ _ _ _ _ _ _ _ zG (@jG _ _ _ _ _ _ _ _ jY (@jG _ _ _ _ _ _ _ _ kC (@jG _ _ _ _ _ _ _ _ kC (pv 1) (pv 1)) jC) (@jG _ _ _ _ _ _ _ _ kC jC (pv 1))) (pv 2)))) kQ)
   (@jI _ _ _ _ _ (jT (i:=3) lB.nd rfl (by first|exact Or.inl rfl|exact Or.inr rfl) (@jG _ _ _ _ _ _ _ _ zG (jH kF (pv 0) (@jG _ _ _ _ _ _ _ _ zG (pv 1) (kD kJ (by rfl) T.z_len PySem.boot_len (jA (pv 0) jB))) (fun _ _=>rfl)) jC))
   (@jJ _ _ _ (@jO _ _ _ _ (@jG _ _ _ _ _ _ _ _ zG (@jG _ _ _ _ _ _ _ _ zG (@jG _ _ _ _ _ _ _ _ jY (@jG _ _ _ _ _ _ _ _ kC (pv 3) (@jG _ _ _ _ _ _ _ _ jY (@jG _ _ _ _ _ _ _ _ kC (pv 1) (pv 1)) jC)) (@jG _ _ _ _ _ _ _ _ kC (pv 1) jC)) jC) (pv 2)))))),?_⟩
 have hml:(ns.map V.int).length=ns.length:=List.length_map _
 obtain ⟨kk0,kk1⟩:=FM hk0 hk1
 have hm0:(0:Int)<m:=by omega
 refine ⟨_,rfl,s,_,rfl,.inl hS,rfl,_,rfl,?_⟩
 by_cases h0:ns.length=0
 ·refine qD (by rw [hml,h0];rfl) ?_
  refine ⟨_,rfl,_,rfl,jU (⟨.inl ⟨by omega,by omega⟩,_,_,rfl,rfl,.inr ⟨by decide,by decide⟩,_,rfl,jU (⟨.inl ⟨by decide,by decide⟩,_,_,rfl,rfl,_,rfl,jU (⟨hm0,?_⟩)⟩)⟩)⟩
  exact q _ (Int.emod_nonneg _ (by omega)) (Int.emod_lt_of_pos _ hm0)
 refine kM (fun z=>h0 (by have:=V.int.inj z;rw [hml] at this;omega)) ?_
 have hl0:(0:Int)<(((ns.map V.int).length:Nat):Int):=by rw [hml];omega
 obtain ⟨j,ej,lj⟩:=fW (a:=k) hl0
 have lj:j<ns.length:=by rw [hml] at lj;omega
 refine ⟨_,rfl,_,rfl,_,rfl,s,_,rfl,.inl hS,_,_,rfl,rfl,hl0,?_⟩
 try dsimp only
 rw [ej]
 refine ⟨s,_,_,_,rfl,rfl,hS,qF lj,_,_,rfl,rfl,(by show (0:Int)<1000003;decide),?_⟩
 have c0:=Int.emod_nonneg (ns.getD j 0) (by decide:(1000003:Int)≠0)
 have c1:=Int.emod_lt_of_pos (ns.getD j 0) (by decide:(0:Int)<1000003)
 try dsimp only
 generalize ns.getD j 0%1000003=cell at c0 c1 ⊢
 refine ⟨_,rfl,_,rfl,_,rfl,jU (⟨.inl ⟨by omega,by omega⟩,_,_,rfl,rfl,_,_,rfl,rfl,.inl ⟨by omega,by omega⟩,_,rfl,jU (⟨.inr ⟨by decide,by decide⟩,_,_,rfl,rfl,_,_,rfl,rfl,(by show (0:Int)<2147483647;decide),_,rfl,jU (⟨hm0,?_⟩)⟩)⟩)⟩
 exact q _ (Int.emod_nonneg _ (by omega)) (Int.emod_lt_of_pos _ hm0)
theorem wK:FnScope ["script"] ["script"] (jD QW):=⟨rfl,rfl,rfl,by decide +kernel,rfl,by decide +kernel,by decide +kernel⟩
theorem tP {f:Addr} {fd:FuncData} (F:Fun K "_law_unit" "_law_unit" QW f fd) (T:Txt K mg cP cB cU cR cN tkS eW eL tkH) : FnOk P w K mg base jQ 1 f fd ["script"] (iC K):=by
 refine F.ok wK (fun vs H Q E h=>?_) (fun cdv A outer s H vs Q E hr h=>?_)
 ·obtain ⟨s,ns,rfl,hS,h63,q⟩:=h
  rfl
 obtain ⟨s,ns,rfl,hS,h63,q⟩:=h
 have hu:_<cLine:=hr.units0
 have hu1:=jV hr
 refine ⟨_,(@jI _ _ _ _ _ (kN (kB kR (kD kJ (by rfl) T.z_len PySem.boot_len (jA (pv 0) jB)) jC (j8 _)) (@jJ _ _ _ (@jO _ _ _ _ jC)) kQ)
   (@jJ _ _ _ (@jO _ _ _ _ (@jG _ _ _ _ _ _ _ _ jY jC (@jG _ _ _ _ _ _ _ _ zG (jH kF (pv 0) jC (fun _ _=>rfl)) (@jG _ _ _ _ _ _ _ _ pX jC jC)))))),?_⟩
 have hml:(ns.map V.int).length=ns.length:=List.length_map _
 refine ⟨_,rfl,s,_,rfl,.inl hS,rfl,_,rfl,?_⟩
 by_cases h0:ns.length=0
 ·exact qD (by rw [hml,h0];rfl) (q 1 (by decide) (by decide))
 refine kM (fun z=>h0 (by have:=V.int.inj z;rw [hml] at this;omega)) ?_
 have e10:(10:Int) ^ Int.toNat 10=10000000000:=by decide +kernel
 have u0:=Int.emod_nonneg (ns.getD 0 0) (show (10:Int) ^ Int.toNat 10≠0 from by decide +kernel)
 have u1:=Int.emod_lt_of_pos (ns.getD 0 0) (show (0:Int)<10 ^ Int.toNat 10 from by decide +kernel)
 refine ⟨_,rfl,s,_,_,_,rfl,rfl,hS,qF (s:=0) (by omega),_,_,rfl,rfl,⟨by decide,by decide,by decide⟩,_,_,rfl,rfl,(show (0:Int)<10 ^ Int.toNat 10 from by decide +kernel),_,_,rfl,rfl,?_⟩
 rw [e10] at u0 u1
 try dsimp only
 rw [e10]
 exact q _ (by omega) (by omega)
theorem ZR:FnScope ["script","k","unit","named","least","crest","water","berths"] ["script","k","unit"] (jD QU):=⟨rfl,rfl,rfl,by decide +kernel,rfl,by decide +kernel,by decide +kernel⟩
theorem tN {f:Addr} {fd:FuncData} (F:Fun K "_law_reach" "_law_reach" QU f fd) (T:Txt K mg cP cB cU cR cN tkS eW eL tkH) (D__law_draw:Def P w K mg base 1 "_law_draw" ["script","k","many"] [] (zV K)) (M_Reach:MkD P w K mg base 1 "Reach" cR ["self","name","least","crest","berths","water","target"] (fN cR)):FnOk P w K mg base jQ 3 f fd ["script","k","unit"] (n4 K cR):=by
 refine F.ok ZR (fun vs H Q E h=>?_) (fun cdv A outer s H vs Q E hr h=>?_)
 ·obtain ⟨s,ns,k,u,rfl,hS,h63,hk,hv0,hv1,q⟩:=h
  rfl
 obtain ⟨s,ns,k,u,rfl,hS,h63,hk,hv0,hv1,q⟩:=h
 have hu:_<cLine:=hr.units0
 have hu1:=jV hr
 refine ⟨_,(@jI _ _ _ _ _ (@jT _ _ 3 _ _ _ _ ZR.nd rfl (by first|exact Or.inl rfl|exact Or.inr rfl) (jH kF (qE (@jA _ _ _ _ _ j3 (@jA _ _ _ _ _ j3 (@jA _ _ _ _ _ j3 (@jA _ _ _ _ _ j3 (@jA _ _ _ _ _ j3 (@jA _ _ _ _ _ j3 (@jA _ _ _ _ _ j3 (@jA _ _ _ _ _ j3 jB (by rfl)) (by rfl)) (by rfl)) (by rfl)) (by rfl)) (by rfl)) (by rfl)) (by rfl))) (pv 1) (fun _ _=>rfl)) (by rfl) (by first|exact .inl rfl|exact .inr rfl|assumption))
   (@jI _ _ _ _ _ (jT (i:=4) ZR.nd rfl (by first|exact Or.inl rfl|exact Or.inr rfl) (@jG _ _ _ _ _ _ _ _ kC (jL D__law_draw hr rfl (@jA _ _ _ _ _ (pv 0) (@jA _ _ _ _ _ (@jG _ _ _ _ _ _ _ _ jY (@jG _ _ _ _ _ _ _ _ kC jC (pv 1)) jC) (@jA _ _ _ _ _ jC jB (by rfl)) (by rfl)) (by rfl))) (pv 2)))
   (@jI _ _ _ _ _ (jT (i:=5) ZR.nd rfl (by first|exact Or.inl rfl|exact Or.inr rfl) (@jG _ _ _ _ _ _ _ _ jY (@jG _ _ _ _ _ _ _ _ jY (pv 4) (@jG _ _ _ _ _ _ _ _ kC (jL D__law_draw hr rfl (@jA _ _ _ _ _ (pv 0) (@jA _ _ _ _ _ (@jG _ _ _ _ _ _ _ _ jY (@jG _ _ _ _ _ _ _ _ kC jC (pv 1)) jC) (@jA _ _ _ _ _ jC jB (by rfl)) (by rfl)) (by rfl))) (pv 2))) (jL D__law_draw hr rfl (@jA _ _ _ _ _ (pv 0) (@jA _ _ _ _ _ (@jG _ _ _ _ _ _ _ _ jY (@jG _ _ _ _ _ _ _ _ kC jC (pv 1)) jC) (@jA _ _ _ _ _ jC jB (by rfl)) (by rfl)) (by rfl)))))
   (@jI _ _ _ _ _ (jT (i:=6) ZR.nd rfl (by first|exact Or.inl rfl|exact Or.inr rfl) (@jG _ _ _ _ _ _ _ _ jY (@jG _ _ _ _ _ _ _ _ kC (jL D__law_draw hr rfl (@jA _ _ _ _ _ (pv 0) (@jA _ _ _ _ _ (@jG _ _ _ _ _ _ _ _ jY (@jG _ _ _ _ _ _ _ _ kC jC (pv 1)) jC) (@jA _ _ _ _ _ jC jB (by rfl)) (by rfl)) (by rfl))) (pv 2)) (jL D__law_draw hr rfl (@jA _ _ _ _ _ (pv 0) (@jA _ _ _ _ _ (@jG _ _ _ _ _ _ _ _ jY (@jG _ _ _ _ _ _ _ _ kC jC (pv 1)) jC) (@jA _ _ _ _ _ jC jB (by rfl)) (by rfl)) (by rfl)))))
   (@jI _ _ _ _ _ (jT (i:=7) ZR.nd rfl (by first|exact Or.inl rfl|exact Or.inr rfl) (jH kF (qE (@jA _ _ _ _ _ jC (@jA _ _ _ _ _ jC (@jA _ _ _ _ _ jC (@jA _ _ _ _ _ jC jB (by rfl)) (by rfl)) (by rfl)) (by rfl))) (jL D__law_draw hr rfl (@jA _ _ _ _ _ (pv 0) (@jA _ _ _ _ _ (@jG _ _ _ _ _ _ _ _ jY (@jG _ _ _ _ _ _ _ _ kC jC (pv 1)) jC) (@jA _ _ _ _ _ jC jB (by rfl)) (by rfl)) (by rfl))) (fun _ _=>rfl)))
   (@jJ _ _ _ (@jO _ _ _ _ (cQ M_Reach hr rfl (@jA _ _ _ _ _ (pv 3) (@jA _ _ _ _ _ (pv 4) (@jA _ _ _ _ _ (pv 5) (@jA _ _ _ _ _ (pv 7) (@jA _ _ _ _ _ (pv 6) (@jA _ _ _ _ _ (@jG _ _ _ _ _ _ _ _ vQ (jL D__law_draw hr rfl (@jA _ _ _ _ _ (pv 0) (@jA _ _ _ _ _ (@jG _ _ _ _ _ _ _ _ jY (@jG _ _ _ _ _ _ _ _ kC jC (pv 1)) jC) (@jA _ _ _ _ _ (@jG _ _ _ _ _ _ _ _ jY (pv 1) jC) jB (by rfl)) (by rfl)) (by rfl))) jC) jB (by rfl)) (by rfl)) (by rfl)) (by rfl)) (by rfl)) (by rfl)))))))))),?_⟩
 refine ⟨zz8,fun p hp=>?_⟩
 have s1:=jK hp (.lst ([("mere":Str),"merea","amere","me","pool","poolmereandp","z","sean"].map V.str))
 obtain ⟨nm,hnm⟩:=rA [("mere":Str),"merea","amere","me","pool","poolmereandp","z","sean"] (k:=k) hk
 refine ⟨_,rfl,kL (SqL.of jE) hnm (?_)⟩
 have hS1:=s1.seq hS
 refine ⟨_,rfl,_,rfl,jU (⟨.inl ⟨by decide,by decide⟩,_,_,rfl,rfl,s,ns,_,_,rfl,hS1,h63,by omega,by omega,by omega,fun d1 d10 d11=>?_⟩)⟩
 obtain ⟨a1,a2⟩:=ZZ d10 (show d1≤3 by omega) hv0 hv1 (by decide)
 refine ⟨_,rfl,jU (⟨.inl ⟨by omega,by omega⟩,?_⟩)⟩
 try dsimp only
 generalize d1*u=le at a1 a2 ⊢
 refine ⟨_,rfl,_,rfl,_,rfl,jU (⟨.inl ⟨by decide,by decide⟩,_,_,rfl,rfl,s,ns,_,_,rfl,hS1,h63,by omega,by omega,by omega,fun d2 d20 d21=>?_⟩)⟩
 obtain ⟨b1,b2⟩:=ZZ d20 (show d2≤8 by omega) hv0 hv1 (by decide)
 refine ⟨_,rfl,jU (⟨.inl ⟨by omega,by omega⟩,_,_,rfl,rfl,?_⟩)⟩
 try dsimp only
 generalize d2*u=cr at b1 b2 ⊢
 refine ⟨_,rfl,_,rfl,jU (⟨.inl ⟨by decide,by decide⟩,_,_,rfl,rfl,s,ns,_,_,rfl,hS1,h63,by omega,by omega,by omega,fun d3 d30 d31=>?_⟩)⟩
 refine ⟨_,_,rfl,rfl,?_⟩
 refine ⟨_,rfl,_,rfl,jU (⟨.inl ⟨by decide,by decide⟩,_,_,rfl,rfl,s,ns,_,_,rfl,hS1,h63,by omega,by omega,by omega,fun d4 d40 d41=>?_⟩)⟩
 obtain ⟨c1,c2⟩:=ZZ d40 (show d4≤12 by omega) hv0 hv1 (by decide)
 refine ⟨_,rfl,jU (⟨.inl ⟨by omega,by omega⟩,?_⟩)⟩
 try dsimp only
 generalize d4*u=wa at c1 c2 ⊢
 refine ⟨_,rfl,_,rfl,jU (⟨.inl ⟨by decide,by decide⟩,_,_,rfl,rfl,s,ns,_,_,rfl,hS1,h63,by omega,by omega,by omega,fun d5 d50 d51=>?_⟩)⟩
 refine ⟨_,_,rfl,rfl,?_⟩
 refine ⟨zz4,fun p2 hp2=>?_⟩
 have s2:=jK hp2 (.lst ([(1:Int),1,2,9].map V.int))
 have hS2:=s2.seq hS1
 refine ⟨_,rfl,_,rfl,jU (⟨.inl ⟨by decide,by decide⟩,_,_,rfl,rfl,s,ns,_,_,rfl,hS2,h63,by omega,by omega,by omega,fun d6 d60 d61=>?_⟩)⟩
 obtain ⟨be,hbe,hat⟩:=rB [(1:Int),1,2,9] d60 d61
 refine (kL (SqL.of jE) hat (?_))
 have hbe':1≤be∧be≤9:=by
  simp only [List.mem_cons,List.mem_nil_iff,or_false] at hbe
  rcases hbe with rfl|rfl|rfl|rfl<;>decide
 refine ⟨_,rfl,_,rfl,_,rfl,_,rfl,_,rfl,?_⟩
 refine ⟨_,rfl,_,rfl,jU (⟨.inl ⟨by decide,by decide⟩,_,_,rfl,rfl,_,rfl,jU (⟨s,ns,_,_,rfl,hS2,h63,by omega,by omega,by omega,fun d7 d70 d71=>?_⟩)⟩)⟩
 refine ⟨_,_,rfl,rfl,?_⟩
 intro x dx nx ndx nex
 refine ⟨x,dx,_,_,_,_,_,_,rfl,jE,fun H' fs kp hx hfl=>⟨rfl,?_⟩⟩
 have w12:=s1.trans s2
 exact q x ⟨nm,le,le+cr+d3,be,wa+d5,d7 - 1⟩ H' ⟨a1,by show le≤le+cr+d3;omega,by show le+cr+d3≤999999999999;omega,hbe'.1,hbe'.2,by show 0≤wa+d5;omega,by show wa+d5≤999999999999;omega,by show -1≤d7 - 1;omega,by show d7 - 1<(k:Int);omega⟩ (w12.trans (bY nx (cF nx ndx) kp)) (w12.free nx) ⟨dx,fs,hx,hfl⟩
theorem JT:FnScope ["script","k","reaches","unit","named","high","low","room","part","made"] ["script","k","reaches","unit"] (jD QS):=⟨rfl,rfl,rfl,by decide +kernel,rfl,by decide +kernel,by decide +kernel⟩
theorem tL {f:Addr} {fd:FuncData} (F:Fun K "_law_lock" "_law_lock" QS f fd) (T:Txt K mg cP cB cU cR cN tkS eW eL tkH) (D__law_draw:Def P w K mg base 1 "_law_draw" ["script","k","many"] [] (zV K)) (M_BasinLock:MkD P w K mg base 2 "BasinLock" cB ["self","name","high","low","room","side"] (ZU (jF cP cB cU) .basin)) (M_PumpLock:MkD P w K mg base 2 "PumpLock" cU ["self","name","high","low","room","lift"] (ZU (jF cP cB cU) .pump)) (M_PlainLock:MkD P w K mg base 1 "PlainLock" cP ["self","name","high","low","room"] (ZV (jF cP cB cU))):FnOk P w K mg base jQ 4 f fd ["script","k","reaches","unit"] (o6 K (jF cP cB cU)):=by
 refine F.ok JT (fun vs H Q E h=>?_) (fun cdv A outer s H vs Q E hr h=>?_)
 ·obtain ⟨s,ns,k,n,u,rfl,hS,h63,hk,hn2,hn8,hv0,hv1,q⟩:=h
  rfl
 obtain ⟨s,ns,k,n,u,rfl,hS,h63,hk,hn2,hn8,hv0,hv1,q⟩:=h
 have hu:_<cLine:=hr.units0
 have hu1:=jV hr
 refine ⟨_,(@jI _ _ _ _ _ (jT (i:=4) JT.nd rfl (by first|exact Or.inl rfl|exact Or.inr rfl) (jH kF (qE (@jA _ _ _ _ _ j3 (@jA _ _ _ _ _ j3 (@jA _ _ _ _ _ j3 (@jA _ _ _ _ _ j3 jB (by rfl)) (by rfl)) (by rfl)) (by rfl))) (pv 1) (fun _ _=>rfl)))
   (@jI _ _ _ _ _ (jT (i:=5) JT.nd rfl (by first|exact Or.inl rfl|exact Or.inr rfl) (@jG _ _ _ _ _ _ _ _ jY jC (jL D__law_draw hr rfl (@jA _ _ _ _ _ (pv 0) (@jA _ _ _ _ _ (@jG _ _ _ _ _ _ _ _ jY jC (@jG _ _ _ _ _ _ _ _ kC jC (pv 1))) (@jA _ _ _ _ _ (@jG _ _ _ _ _ _ _ _ vQ (pv 2) jC) jB (by rfl)) (by rfl)) (by rfl)))))
   (@jI _ _ _ _ _ (jT (i:=6) JT.nd rfl (by first|exact Or.inl rfl|exact Or.inr rfl) (jL D__law_draw hr rfl (@jA _ _ _ _ _ (pv 0) (@jA _ _ _ _ _ (@jG _ _ _ _ _ _ _ _ jY jC (@jG _ _ _ _ _ _ _ _ kC jC (pv 1))) (@jA _ _ _ _ _ (pv 5) jB (by rfl)) (by rfl)) (by rfl))))
   (@jI _ _ _ _ _ (jT (i:=7) JT.nd rfl (by first|exact Or.inl rfl|exact Or.inr rfl) (@jG _ _ _ _ _ _ _ _ jY (@jG _ _ _ _ _ _ _ _ kC (@jG _ _ _ _ _ _ _ _ jY jC (jL D__law_draw hr rfl (@jA _ _ _ _ _ (pv 0) (@jA _ _ _ _ _ (@jG _ _ _ _ _ _ _ _ jY jC (@jG _ _ _ _ _ _ _ _ kC jC (pv 1))) (@jA _ _ _ _ _ jC jB (by rfl)) (by rfl)) (by rfl)))) (pv 3)) (jL D__law_draw hr rfl (@jA _ _ _ _ _ (pv 0) (@jA _ _ _ _ _ (@jG _ _ _ _ _ _ _ _ jY jC (@jG _ _ _ _ _ _ _ _ kC jC (pv 1))) (@jA _ _ _ _ _ jC jB (by rfl)) (by rfl)) (by rfl)))))
   (@jI _ _ _ _ _ (jT (i:=8) JT.nd rfl (by first|exact Or.inl rfl|exact Or.inr rfl) (jH kF (qE (@jA _ _ _ _ _ jC (@jA _ _ _ _ _ (pv 7) (@jA _ _ _ _ _ (@jG _ _ _ _ _ _ _ _ jY jC (@jG _ _ _ _ _ _ _ _ eH (pv 7) jC)) (@jA _ _ _ _ _ (@jG _ _ _ _ _ _ _ _ vQ (pv 7) (@jG _ _ _ _ _ _ _ _ eH (pv 7) jC)) jB (by rfl)) (by rfl)) (by rfl)) (by rfl))) (jL D__law_draw hr rfl (@jA _ _ _ _ _ (pv 0) (@jA _ _ _ _ _ (@jG _ _ _ _ _ _ _ _ jY jC (@jG _ _ _ _ _ _ _ _ kC jC (pv 1))) (@jA _ _ _ _ _ jC jB (by rfl)) (by rfl)) (by rfl))) (fun _ _=>rfl)))
   (@jI _ _ _ _ _ (jT (i:=9) JT.nd rfl (by first|exact Or.inl rfl|exact Or.inr rfl) (jL D__law_draw hr rfl (@jA _ _ _ _ _ (pv 0) (@jA _ _ _ _ _ (@jG _ _ _ _ _ _ _ _ jY jC (@jG _ _ _ _ _ _ _ _ kC jC (pv 1))) (@jA _ _ _ _ _ jC jB (by rfl)) (by rfl)) (by rfl))))
   (@jI _ _ _ _ _ (kN (kB kR (pv 9) jC (j8 _)) (@jJ _ _ _ (@jO _ _ _ _ (cQ M_BasinLock hr rfl (@jA _ _ _ _ _ (pv 4) (@jA _ _ _ _ _ (pv 5) (@jA _ _ _ _ _ (pv 6) (@jA _ _ _ _ _ (pv 7) (@jA _ _ _ _ _ (pv 8) jB (by rfl)) (by rfl)) (by rfl)) (by rfl)) (by rfl))))) kQ)
   (@jI _ _ _ _ _ (kN (kB kR (pv 9) jC (j8 _)) (@jJ _ _ _ (@jO _ _ _ _ (cQ M_PumpLock hr rfl (@jA _ _ _ _ _ (pv 4) (@jA _ _ _ _ _ (pv 5) (@jA _ _ _ _ _ (pv 6) (@jA _ _ _ _ _ (pv 7) (@jA _ _ _ _ _ (pv 8) jB (by rfl)) (by rfl)) (by rfl)) (by rfl)) (by rfl))))) kQ)
   (@jJ _ _ _ (@jO _ _ _ _ (cQ M_PlainLock hr rfl (@jA _ _ _ _ _ (pv 4) (@jA _ _ _ _ _ (pv 5) (@jA _ _ _ _ _ (pv 6) (@jA _ _ _ _ _ (pv 7) jB (by rfl)) (by rfl)) (by rfl)) (by rfl))))))))))))),?_⟩
 refine ⟨zz4,fun p hp=>?_⟩
 have s1:=jK hp (.lst ([("gate":Str),"gatea","mere","g"].map V.str))
 obtain ⟨nm,hnm⟩:=rA [("gate":Str),"gatea","mere","g"] (k:=k) hk
 refine ⟨_,rfl,kL (SqL.of jE) hnm (?_)⟩
 have hS1:=s1.seq hS
 refine ⟨_,rfl,_,rfl,jU (⟨.inl ⟨by decide,by decide⟩,_,_,rfl,rfl,_,rfl,jU (⟨s,ns,_,_,rfl,hS1,h63,by omega,by omega,by omega,fun h1 h10 h11=>?_⟩)⟩)⟩
 refine ⟨_,_,rfl,rfl,?_⟩
 refine ⟨_,rfl,_,rfl,jU (⟨.inl ⟨by decide,by decide⟩,_,_,rfl,rfl,_,rfl,s,ns,_,_,rfl,hS1,h63,by omega,by omega,by omega,fun lo lo0 lo1=>?_⟩)⟩
 refine ⟨_,rfl,_,rfl,jU (⟨.inl ⟨by decide,by decide⟩,_,_,rfl,rfl,s,ns,_,_,rfl,hS1,h63,by omega,by omega,by omega,fun d2 d20 d21=>?_⟩)⟩
 obtain ⟨b1,b2⟩:=ZZ (a:=1+d2) (by omega) (show 1+d2≤4 by omega) hv0 hv1 (by decide)
 refine ⟨_,_,rfl,rfl,_,rfl,jU (⟨.inl ⟨by omega,by omega⟩,?_⟩)⟩
 have b3:1≤(1+d2)*u:=by
  have:=Int.mul_le_mul (show (1:Int)≤1+d2 by omega) hv0 (by decide) (by omega)
  omega
 try dsimp only
 generalize (1+d2)*u=r0 at b1 b2 b3 ⊢
 refine ⟨_,rfl,_,rfl,jU (⟨.inl ⟨by decide,by decide⟩,_,_,rfl,rfl,s,ns,_,_,rfl,hS1,h63,by omega,by omega,by omega,fun d3 d30 d31=>?_⟩)⟩
 refine ⟨_,_,rfl,rfl,?_⟩
 have ro1:1≤r0+d3:=by omega
 have ro2:r0+d3≤999999999999:=by omega
 try dsimp only
 generalize r0+d3=ro at ro1 ro2 ⊢
 refine ⟨_,rfl,_,rfl,jU (⟨⟨by decide,by decide⟩,_,_,rfl,rfl,_,rfl,_,rfl,jU (⟨⟨by decide,by decide⟩,_,_,rfl,rfl,zz4,fun p2 hp2=>?_⟩)⟩)⟩
 have s2:=jK hp2 (.lst ([(1:Int),ro,1+ro / 2,ro - ro / 3].map V.int))
 have hS2:=s2.seq hS1
 refine ⟨_,rfl,_,rfl,jU (⟨.inl ⟨by decide,by decide⟩,_,_,rfl,rfl,s,ns,_,_,rfl,hS2,h63,by omega,by omega,by omega,fun d4 d40 d41=>?_⟩)⟩
 obtain ⟨pa,hpa,hat⟩:=rB [(1:Int),ro,1+ro / 2,ro - ro / 3] d40 d41
 refine (kL (SqL.of jE) hat (?_))
 have hpa:1≤pa∧pa≤ro:=by
  simp only [List.mem_cons,List.mem_nil_iff,or_false] at hpa
  rcases hpa with rfl|rfl|rfl|rfl<;>omega
 refine ⟨_,rfl,_,rfl,jU (⟨.inl ⟨by decide,by decide⟩,_,_,rfl,rfl,s,ns,_,_,rfl,hS2,h63,by omega,by omega,by omega,fun d5 d50 d51=>?_⟩)⟩
 have w12:=s1.trans s2
 refine ⟨_,rfl,rfl,_,rfl,eU (fun _=>?_) (fun _=>?_)⟩
 ·refine ⟨_,rfl,_,rfl,_,rfl,_,rfl,_,rfl,?_⟩
  intro x dx nx ndx nex
  refine ⟨x,dx,_,_,_,_,_,rfl,jE,fun H' kp hx=>⟨rfl,?_⟩⟩
  refine q x ⟨nm,1+h1,lo,ro,.basin,pa⟩ H' ⟨by show 1≤1+h1;omega,by show 1+h1<(n:Int);omega,lo0,by show lo<1+h1;omega,ro1,ro2,(fun z=>nomatch z),fun _=>hpa⟩ (w12.trans (bY nx (cF nx ndx) kp)) (w12.free nx) ⟨x,rfl,dx,hx⟩
 refine ⟨_,rfl,rfl,_,rfl,eU (fun _=>?_) (fun _=>?_)⟩
 ·refine ⟨_,rfl,_,rfl,_,rfl,_,rfl,_,rfl,?_⟩
  intro x dx nx ndx nex
  refine ⟨x,dx,_,_,_,_,_,rfl,jE,fun H' kp hx=>⟨rfl,?_⟩⟩
  refine q x ⟨nm,1+h1,lo,ro,.pump,pa⟩ H' ⟨by show 1≤1+h1;omega,by show 1+h1<(n:Int);omega,lo0,by show lo<1+h1;omega,ro1,ro2,(fun z=>nomatch z),fun _=>hpa⟩ (w12.trans (bY nx (cF nx ndx) kp)) (w12.free nx) ⟨x,rfl,dx,hx⟩
 refine ⟨_,rfl,_,rfl,_,rfl,_,rfl,?_⟩
 intro x dx nx ndx nex
 refine ⟨.plain,x,dx,_,_,_,_,rfl,jE,fun H' kp hx=>⟨rfl,?_⟩⟩
 refine q x ⟨nm,1+h1,lo,ro,.plain,0⟩ H' ⟨by show 1≤1+h1;omega,by show 1+h1<(n:Int);omega,lo0,by show lo<1+h1;omega,ro1,ro2,fun _=>rfl,fun z=>absurd rfl z⟩ (w12.trans (bY nx (cF nx ndx) kp)) (w12.free nx) ⟨x,rfl,dx,hx⟩
theorem dI:FnScope ["script","k","reaches","unit","some","r","comes"] ["script","k","reaches","unit"] (jD QY):=⟨rfl,rfl,rfl,by decide +kernel,rfl,by decide +kernel,by decide +kernel⟩
theorem tR {f:Addr} {fd:FuncData} (F:Fun K "_law_weather" "_law_weather" QY f fd) (T:Txt K mg cP cB cU cR cN tkS eW eL tkH) (D__law_draw:Def P w K mg base 1 "_law_draw" ["script","k","many"] [] (zV K)):FnOk P w K mg base jQ 2 f fd ["script","k","reaches","unit"] (mP K):=by
 refine F.ok dI (fun vs H Q E h=>?_) (fun cdv A outer s H vs Q E hr h=>?_)
 ·obtain ⟨s,ns,k,n,u,rfl,hS,h63,hk,hn8,hv0,hv1,q⟩:=h
  rfl
 obtain ⟨s,ns,k,n,u,rfl,hS,h63,hk,hn8,hv0,hv1,q⟩:=h
 have hu:_<cLine:=hr.units0
 have hu1:=jV hr
 refine ⟨_,(@jI _ _ _ _ _ (jT (i:=4) dI.nd rfl (by first|exact Or.inl rfl|exact Or.inr rfl) (qE jB))
   (@jI _ _ _ _ _ (yG PassesOwn.never rfl (vN (by rfl) T.z_range (jA (pv 2) jB)) (j7 (i:=5) dI.nd rfl (by first|exact Or.inl rfl|exact Or.inr rfl))
    (@jI _ _ _ _ _ (jT (i:=6) dI.nd rfl (by first|exact Or.inl rfl|exact Or.inr rfl) (@jG _ _ _ _ _ _ _ _ kC (jL D__law_draw hr rfl (@jA _ _ _ _ _ (pv 0) (@jA _ _ _ _ _ (@jG _ _ _ _ _ _ _ _ jY (@jG _ _ _ _ _ _ _ _ jY jC (@jG _ _ _ _ _ _ _ _ kC jC (pv 1))) (@jG _ _ _ _ _ _ _ _ kC jC (pv 5))) (@jA _ _ _ _ _ jC jB (by rfl)) (by rfl)) (by rfl))) (pv 3)))
   (@jJ _ _ _ (zP (J7 PySem.F.plainAttrs_list PySem.F.slot_list_append PySem.F.type_list_append JU (pv 4) (jA (kG (jA (pv 6) (jA (@jG _ _ _ _ _ _ _ _ eH (@jG _ _ _ _ _ _ _ _ kC (jL D__law_draw hr rfl (@jA _ _ _ _ _ (pv 0) (@jA _ _ _ _ _ (@jG _ _ _ _ _ _ _ _ jY (@jG _ _ _ _ _ _ _ _ jY jC (@jG _ _ _ _ _ _ _ _ kC jC (pv 1))) (@jG _ _ _ _ _ _ _ _ kC jC (pv 5))) (@jA _ _ _ _ _ jC jB (by rfl)) (by rfl)) (by rfl))) (pv 3)) jC) jB))) jB))))))
   (@jJ _ _ _ (@jO _ _ _ _ (pv 4))))),?_⟩
 refine ⟨zz0,fun l hl0=>?_⟩
 refine ⟨_,rfl,_,rfl,by omega,by omega,bS (n:=((n:Nat):Int).toNat) (fun i σ Hi=>∃(us:List V) (p:List (Int×Int)) (c5 c6:Option V),σ=[some (.ref s),some (.int (k:Int)),some (.int (n:Int)),some (.int u),some (.ref l),c5,c6]∧Hi l=some (.lst us)∧AllAt (QAt Hi) us p∧p.length=i∧(∀q∈p,0≤q.1∧0≤q.2)∧Same H Hi)
  ⟨[],[],none,none,rfl,jE,AllAt.nil,rfl,(fun q hq=>by cases hq),jK hl0 _⟩ ?_ ?_⟩
 ·rintro i σ Hi hi ⟨us,p,c5,c6,rfl,hl,hA,hp,hnn,sm⟩
  rw [Int.toNat_natCast] at hi
  rw [Int.zero_add]
  have hSi:=sm.seq hS
  refine ⟨_,rfl,_,rfl,jU (⟨.inl ⟨by decide,by decide⟩,_,_,rfl,rfl,_,rfl,jU (⟨.inl ⟨by decide,by decide⟩,_,_,rfl,rfl,s,ns,_,_,rfl,hSi,h63,by omega,by omega,by omega,fun d1 d10 d11=>?_⟩)⟩)⟩
  refine ⟨_,rfl,jU (⟨.inl ⟨by omega,by omega⟩,?_⟩)⟩
  refine ⟨_,rfl,.inl ⟨rfl,_,SqL.of hl⟩,_,rfl,_,rfl,_,rfl,jU (⟨.inl ⟨by decide,by decide⟩,_,_,rfl,rfl,_,rfl,jU (⟨.inl ⟨by decide,by decide⟩,_,_,rfl,rfl,s,ns,_,_,rfl,hSi,h63,by omega,by omega,by omega,fun d2 d20 d21=>?_⟩)⟩)⟩
  refine ⟨_,rfl,jU (⟨.inl ⟨by omega,by omega⟩,_,_,rfl,rfl,⟨by decide,by decide⟩,zz2,fun tp htp=>?_⟩)⟩
  have v:=jK htp (.tup [V.int (d1*u),V.int (d2*u / 2)])
  refine ⟨l,_,_,rfl,rfl,v _ _ hl,qQ (by rw [hA.1];omega),?_⟩
  refine ⟨us++[.ref tp],p++[(d1*u,d2*u / 2)],_,_,rfl,jE,?_,by rw [List.length_append,hp];rfl,fun q hq=>?_,kY hl0 (sm.trans v)⟩
  rotate_left
  ·rcases List.mem_append.mp hq with h|h
   ·exact hnn q h
   ·rw [List.mem_singleton.mp h]
    have m1:=(ZZ d10 (show d1≤3 by omega) hv0 hv1 (by decide)).1
    have m2:=(ZZ d20 (show d2≤3 by omega) hv0 hv1 (by decide)).1
    exact ⟨m1,by show 0≤d2*u / 2;omega⟩
  exact ((hA.mono (QAt.same v)).snoc (v:=.ref tp) (x:=(d1*u,d2*u / 2)) ⟨tp,rfl,jE⟩).mono (QAt.put (v _ _ hl))
 rintro σ Hi ⟨us,p,c5,c6,rfl,hl,hA,hp,hnn,sm⟩
 rw [Int.toNat_natCast] at hp
 exact ⟨_,rfl,q l p Hi hp hnn sm hl0 ⟨l,us,rfl,hl,hA,by simp⟩⟩
theorem ZQ:FnScope ["script","most_reaches","most_locks","most_nights","unit","many","reaches","locks","nights"] ["script","most_reaches","most_locks","most_nights"] (jD y0):=⟨rfl,rfl,rfl,by decide +kernel,rfl,by decide +kernel,by decide +kernel⟩
theorem tJ {f:Addr} {fd:FuncData} (F:Fun K "_law_canal" "_law_canal" y0 f fd) (T:Txt K mg cP cB cU cR cN tkS eW eL tkH) (D__law_unit:Def P w K mg base 1 "_law_unit" ["script"] [] (iC K)) (D__law_draw:Def P w K mg base 1 "_law_draw" ["script","k","many"] [] (zV K)) (D__law_reach:Def P w K mg base 3 "_law_reach" ["script","k","unit"] [] (n4 K cR)) (D__law_lock:Def P w K mg base 4 "_law_lock" ["script","k","reaches","unit"] [] (o6 K (jF cP cB cU))) (D__law_weather:Def P w K mg base 2 "_law_weather" ["script","k","reaches","unit"] [] (mP K)) (M_Canal:MkD P w K mg base 1 "Canal" cN ["self","reaches","locks","nights"] (fO (jF cP cB cU) cR cN)):FnOk P w K mg base jQ 6 f fd ["script","most_reaches","most_locks","most_nights"] (oB K (jF cP cB cU) cR cN):=by
 refine F.ok ZQ (fun vs H Q E h=>?_) (fun cdv A outer s H vs Q E hr h=>?_)
 ·obtain ⟨s,ns,mr,ml,mn,rfl,hS,h63,hr2,hr8,hl1,hl4,hn5,q⟩:=h
  rfl
 obtain ⟨s,ns,mr,ml,mn,rfl,hS,h63,hr2,hr8,hl1,hl4,hn5,q⟩:=h
 have hu:_<cLine:=hr.units0
 have hu1:=jV hr
 refine ⟨_,(@jI _ _ _ _ _ (jT (i:=4) ZQ.nd rfl (by first|exact Or.inl rfl|exact Or.inr rfl) (jL D__law_unit hr rfl (jA (pv 0) jB)))
   (@jI _ _ _ _ _ (jT (i:=5) ZQ.nd rfl (by first|exact Or.inl rfl|exact Or.inr rfl) (@jG _ _ _ _ _ _ _ _ jY jC (jL D__law_draw hr rfl (@jA _ _ _ _ _ (pv 0) (@jA _ _ _ _ _ jC (@jA _ _ _ _ _ (@jG _ _ _ _ _ _ _ _ vQ (pv 1) jC) jB (by rfl)) (by rfl)) (by rfl)))))
   (@jI _ _ _ _ _ (zB (i:=6) ["k","script","unit"] (kP 1 [0,4]) ZQ.nd rfl (by first|exact Or.inl rfl|exact Or.inr rfl) rfl (kZ (jD y0) rfl rfl (by decide +kernel) (by decide +kernel) (by decide +kernel)) (qA 1 [0,4] rfl rfl (by decide +kernel)) (vN (by rfl) T.z_range (jA (pv 5) jB)) (fun _ _ _ _ _=>(j7 (i:=0) (show List.Nodup (["k","script","unit"]:List Str) from by decide +kernel) rfl (by first|exact Or.inl rfl|exact Or.inr rfl))) (fun _ _ _ _ _=>qR) (fun _ _ _ _ _=>(jL D__law_reach hr rfl (@jA _ _ _ _ _ (pv 1) (@jA _ _ _ _ _ (pv 0) (@jA _ _ _ _ _ (pv 2) jB (by rfl)) (by rfl)) (by rfl)))))
   (@jI _ _ _ _ _ (zB (i:=7) ["k","script","many","unit"] (kP 1 [0,5,4]) ZQ.nd rfl (by first|exact Or.inl rfl|exact Or.inr rfl) rfl (kZ (jD y0) rfl rfl (by decide +kernel) (by decide +kernel) (by decide +kernel)) (qA 1 [0,5,4] rfl rfl (by decide +kernel)) (vN (by rfl) T.z_range (jA (@jG _ _ _ _ _ _ _ _ jY jC (jL D__law_draw hr rfl (@jA _ _ _ _ _ (pv 0) (@jA _ _ _ _ _ jC (@jA _ _ _ _ _ (pv 2) jB (by rfl)) (by rfl)) (by rfl)))) jB)) (fun _ _ _ _ _=>(j7 (i:=0) (show List.Nodup (["k","script","many","unit"]:List Str) from by decide +kernel) rfl (by first|exact Or.inl rfl|exact Or.inr rfl))) (fun _ _ _ _ _=>qR) (fun _ _ _ _ _=>(jL D__law_lock hr rfl (@jA _ _ _ _ _ (pv 1) (@jA _ _ _ _ _ (pv 0) (@jA _ _ _ _ _ (pv 2) (@jA _ _ _ _ _ (pv 3) jB (by rfl)) (by rfl)) (by rfl)) (by rfl)))))
   (@jI _ _ _ _ _ (zB (i:=8) ["k","script","many","unit"] (kP 1 [0,5,4]) ZQ.nd rfl (by first|exact Or.inl rfl|exact Or.inr rfl) rfl (kZ (jD y0) rfl rfl (by decide +kernel) (by decide +kernel) (by decide +kernel)) (qA 1 [0,5,4] rfl rfl (by decide +kernel)) (vN (by rfl) T.z_range (jA (jL D__law_draw hr rfl (@jA _ _ _ _ _ (pv 0) (@jA _ _ _ _ _ jC (@jA _ _ _ _ _ (@jG _ _ _ _ _ _ _ _ jY (pv 3) jC) jB (by rfl)) (by rfl)) (by rfl))) jB)) (fun _ _ _ _ _=>(j7 (i:=0) (show List.Nodup (["k","script","many","unit"]:List Str) from by decide +kernel) rfl (by first|exact Or.inl rfl|exact Or.inr rfl))) (fun _ _ _ _ _=>qR) (fun _ _ _ _ _=>(jL D__law_weather hr rfl (@jA _ _ _ _ _ (pv 1) (@jA _ _ _ _ _ (pv 0) (@jA _ _ _ _ _ (pv 2) (@jA _ _ _ _ _ (pv 3) jB (by rfl)) (by rfl)) (by rfl)) (by rfl)))))
   (@jJ _ _ _ (@jO _ _ _ _ (cQ M_Canal hr rfl (@jA _ _ _ _ _ (pv 6) (@jA _ _ _ _ _ (pv 7) (@jA _ _ _ _ _ (pv 8) jB (by rfl)) (by rfl)) (by rfl)))))))))),?_⟩
 refine ⟨_,rfl,s,ns,rfl,hS,h63,fun u hv0 hv1=>?_⟩
 refine ⟨_,rfl,_,rfl,jU (⟨s,ns,_,_,rfl,hS,h63,by omega,by omega,by omega,fun m0 m00 m01=>?_⟩)⟩
 refine ⟨_,_,rfl,rfl,?_⟩
 obtain ⟨n,hn⟩:∃n:Nat,2+m0=(n:Int):=⟨(2+m0).toNat,by omega⟩
 try dsimp only
 rw [hn]
 have hn2:2≤n:=by omega
 have hn8:n≤8:=by omega
 refine ⟨_,rfl,_,rfl,by omega,by omega,fun rl hrl0=>?_⟩
 refine zA (n:=((n:Nat):Int).toNat) (caps:=[some (.ref s),some (.int u)]) (fun i ys Hi=>∃R:List RC,AllAt (RcO cR Hi) ys R∧R.length=i∧∀(j:Nat) (r:RC),R[j]?=some r→r.good j) hrl0 ⟨[],AllAt.nil,rfl,fun j r hj=>by cases hj⟩ ?_ ?_
 ·rintro i ys Hi hi hle sm hY ⟨R,hR,hRl,hRg⟩
  rw [Int.toNat_natCast] at hi
  rw [Int.zero_add]
  refine qT (kI ⟨_,rfl,_,rfl,_,rfl,s,ns,i,u,rfl,sm.seq hS,h63,by omega,hv0,hv1,fun x r H' hg s' hx0 hx=>vA hrl0 sm hY hle (by omega) s' ?_⟩)
  refine ⟨R++[r],((hR.mono (RcO.same s')).snoc (v:=.ref x) (x:=r) ⟨x,rfl,hx⟩).mono (RcO.keep ((Keep.refl rl H').upd _) (s' _ _ hY)),by rw [List.length_append,hRl];rfl,fun j r' hj=>?_⟩
  by_cases hl:j<R.length
  ·rw [List.getElem?_append_left hl] at hj;exact hRg j r' hj
  ·rw [List.getElem?_append_right (by omega)] at hj
   have hz:j - R.length=0:=by
    have:=(List.getElem?_eq_some_iff.mp hj).1
    rw [List.length_singleton] at this
    omega
   rw [hz] at hj
   cases hj
   rw [show j=i by omega]
   exact hg
 rintro rs H1 s1 hrl hle1 ⟨R,hR,hRl,hRg⟩
 rw [Int.toNat_natCast] at hRl
 refine ⟨_,rfl,_,rfl,s,ns,_,_,rfl,s1.seq hS,h63,by omega,by omega,by omega,fun m1 m10 m11=>?_⟩
 refine ⟨_,_,rfl,rfl,?_⟩
 obtain ⟨m,hm⟩:∃m:Nat,1+m1=(m:Int):=⟨(1+m1).toNat,by omega⟩
 try dsimp only
 rw [hm]
 refine ⟨_,rfl,by omega,by omega,fun ll hll0=>?_⟩
 refine zA (n:=((m:Nat):Int).toNat) (caps:=[some (.ref s),some (.int (n:Int)),some (.int u)]) (fun i ys Hi=>∃L:List LC,AllAt (LkO (jF cP cB cU) Hi) ys L∧L.length=i∧∀l∈L,l.good n) hll0 ⟨[],AllAt.nil,rfl,fun l hl=>by cases hl⟩ ?_ ?_
 ·rintro i ys Hi hi hle sm hY ⟨L,hL,hLl,hLg⟩
  rw [Int.toNat_natCast] at hi
  rw [Int.zero_add]
  refine qT (kI ⟨_,rfl,_,rfl,_,rfl,_,rfl,s,ns,i,n,u,rfl,(s1.trans sm).seq hS,h63,by omega,hn2,hn8,hv0,hv1,fun x l H' hg s' hx0 hx=>vA hll0 sm hY hle (by omega) s' ?_⟩)
  refine ⟨L++[l],((hL.mono (LkO.same s')).snoc (v:=.ref x) (x:=l) hx).mono (LkO.keep ((Keep.refl ll H').upd _) (s' _ _ hY)),by rw [List.length_append,hLl];rfl,fun l' hl'=>?_⟩
  rcases List.mem_append.mp hl' with hl'|hl'
  ·exact hLg l' hl'
  ·rw [List.mem_singleton.mp hl'];exact hg
 rintro ls H2 s2 hll hle2 ⟨L,hL,hLl,hLg⟩
 rw [Int.toNat_natCast] at hLl
 have s12:=s1.trans s2
 refine ⟨_,rfl,_,rfl,jU (⟨s,ns,_,_,rfl,s12.seq hS,h63,by omega,by omega,by omega,fun m2 m20 m21=>?_⟩)⟩
 obtain ⟨c,hc⟩:∃c:Nat,m2=(c:Int):=⟨m2.toNat,by omega⟩
 rw [hc]
 refine ⟨_,rfl,by omega,by omega,fun nl hnl0=>?_⟩
 refine zA (n:=((c:Nat):Int).toNat) (caps:=[some (.ref s),some (.int (n:Int)),some (.int u)]) (fun i ys Hi=>∃N:List (List (Int×Int)),AllAt (NAt [nl] Hi) ys N∧N.length=i∧(∀p∈N,∀q∈p,0≤q.1∧0≤q.2)∧∀p∈N,p.length=n) hnl0 ⟨[],AllAt.nil,rfl,(fun l hl=>by cases hl),fun l hl=>by cases hl⟩ ?_ ?_
 ·rintro i ys Hi hi hle sm hY ⟨N,hN,hNl,hNn,hNg⟩
  rw [Int.toNat_natCast] at hi
  rw [Int.zero_add]
  refine qT (kI ⟨_,rfl,_,rfl,_,rfl,_,rfl,s,ns,i,n,u,rfl,(s12.trans sm).seq hS,h63,by omega,hn8,hv0,hv1,fun l p H' hg hgn s' hl0 hl=>vA hnl0 sm hY hle (by omega) s' ?_⟩)
  obtain ⟨l',qs,e,h1,h2,_⟩:=hl
  cases e
  refine ⟨N++[p],((hN.mono (NAt.same s')).snoc (v:=.ref l) (x:=p) ⟨l,qs,rfl,h1,h2,fun z=>qJ hY hl0 (List.mem_singleton.mp z).symm⟩).mono (NAt.put (s' _ _ hY) (by simp)),by rw [List.length_append,hNl];rfl,(fun p' hp'=>(List.mem_append.mp hp').elim (hNn p') fun h=>by rw [List.mem_singleton.mp h];exact hgn),fun p' hp'=>?_⟩
  rcases List.mem_append.mp hp' with hp'|hp'
  ·exact hNg p' hp'
  ·rw [List.mem_singleton.mp hp'];exact hg
 rintro nv H3 s3 hnl hle3 ⟨N,hN,hNl,hNn,hNg⟩
 rw [Int.toNat_natCast] at hNl
 refine ⟨_,rfl,_,rfl,_,rfl,?_⟩
 intro x dx nx ndx nex
 have v:=fun o o'=>cF (o:=o) (o':=o') nx ndx
 refine ⟨x,dx,rl,ll,_,rs,ls,R,L,N,rfl,jE,v _ _ _ _ (s3 _ _ (s2 _ _ hrl)),v _ _ _ _ (s3 _ _ hll),(hR.mono (RcO.same (s2.trans s3))).mono (RcO.same (v _ _)),(hL.mono (LkO.same s3)).mono (LkO.same (v _ _)),.inr ⟨nl,nv,rfl,v _ _ _ _ hnl,(hN.mono (NAt.same (v _ _))).mono (NAt.less (by simp)),by rw [hN.1];omega⟩,fun H' kp hC=>⟨rfl,?_⟩⟩
 have w:=s12.trans s3
 exact q x R L N H' ⟨by omega,by omega,by omega,by omega,hRg,fun i l hl=>by rw [hRl];exact hLg l (List.mem_of_getElem? hl),fun p hp=>by rw [hRl];exact hNg p hp⟩ hNn (by omega) (by omega) (w.trans (bY nx (v _ _) kp)) (w.free nx) (hC [] (fun d hd=>nomatch hd))
theorem fE:FnScope ["canal","reach","some","k"] ["canal","reach"] (jD QV):=⟨rfl,rfl,rfl,by decide +kernel,rfl,by decide +kernel,by decide +kernel⟩
theorem tO {f:Addr} {fd:FuncData} (F:Fun K "_law_turns" "_law_turns" QV f fd) (T:Txt K mg cP cB cU cR cN tkS eW eL tkH) : FnOk P w K mg base jQ 1 f fd ["canal","reach"] (o4 (jF cP cB cU) cR cN):=by
 refine F.ok fE (fun vs H Q E h=>?_) (fun cdv A outer s H vs Q E hr h=>?_)
 ·obtain ⟨x,r,D,R,L,N,rfl,⟨dx,rl,ll,nl,fs,rs,ls,ns,hx,hf,hrl,hll,hnl,hR,hL,hN,d1,d2,d3⟩,b8,q⟩:=h
  rfl
 obtain ⟨x,r,D,R,L,N,rfl,⟨dx,rl,ll,nl,fs,rs,ls,ns,hx,hf,hrl,hll,hnl,hR,hL,hN,d1,d2,d3⟩,b8,q⟩:=h
 have hu:_<cLine:=hr.units0
 have hu1:=jV hr
 refine ⟨_,(@jI _ _ _ _ _ (jT (i:=2) fE.nd rfl (by first|exact Or.inl rfl|exact Or.inr rfl) (qE jB))
   (@jI _ _ _ _ _ (yG PassesOwn.never rfl (vN (by rfl) T.z_range (jA (kD kJ (by rfl) T.z_len PySem.boot_len (jA (jZ (pv 0) rfl) jB)) jB)) (j7 (i:=3) fE.nd rfl (by first|exact Or.inl rfl|exact Or.inr rfl))
    (gW (kN (kB kR (jZ (jH kF (jZ (pv 0) rfl) (pv 3) (fun _ _=>rfl)) rfl) (pv 1) (j8 _)) (@jJ _ _ _ (zP (J7 PySem.F.plainAttrs_list PySem.F.slot_list_append PySem.F.type_list_append JU (pv 2) (jA (kG (jA (pv 3) (jA j3 jB))) jB)))) kQ)
   (@jJ _ _ _ (kN (kB kR (jZ (jH kF (jZ (pv 0) rfl) (pv 3) (fun _ _=>rfl)) rfl) (pv 1) (j8 _)) (@jJ _ _ _ (zP (J7 PySem.F.plainAttrs_list PySem.F.slot_list_append PySem.F.type_list_append JU (pv 2) (jA (kG (jA (pv 3) (jA j3 jB))) jB)))) kQ))))
   (@jJ _ _ _ (@jO _ _ _ _ (pv 2))))),?_⟩
 refine ⟨zz0,fun ol hol0=>?_⟩
 have s1:=jK hol0 (.lst [])
 refine ⟨_,rfl,x,cN,dx,_,_,rfl,(s1 _ _ hx),T.clN,T.nN_locks,hf.2.1,ll,_,rfl,.inl (SqL.of (s1 _ _ hll)),_,rfl,by omega,by rw [hL.1];omega,bS (n:=((ls.length:Nat):Int).toNat) (fun i σ Hi=>∃(us:List V) (c:Option V),σ=[some (.ref x),some (.int r),some (.ref ol),c]∧Hi ol=some (.lst us)∧AllAt (PAt Hi) us (zT L r i)∧Same H Hi)
  ⟨[],none,rfl,jE,AllAt.nil,s1⟩ ?_ ?_⟩
 ·rintro i σ Hi hi ⟨us,c,rfl,hol,hA,sm⟩
  rw [Int.toNat_natCast,hL.1] at hi
  rw [Int.zero_add]
  obtain ⟨l,hl'⟩:∃l,L[i]?=some l:=⟨_,List.getElem?_eq_getElem hi⟩
  obtain ⟨v,hv,y,rfl,dl,hl⟩:=hL.get hl'
  have hlen:=xP L r i
  have ek:zY L r i=(if l.low=r then [(i,true)] else [])++(if l.high=r then [(i,false)] else []):=by unfold zY;rw [hl']
  refine ⟨fun σ' H'=>∃us:List V,σ'=[some (.ref x),some (.int r),some (.ref ol),some (.int (i:Int))]∧H' ol=some (.lst us)∧AllAt (PAt H') us (zT L r i++(if l.low=r then [(i,true)] else []))∧Same H H',?_,?_⟩
  ·refine ⟨_,rfl,j0 ((sm _ _ hx)) (T.clN) (T.nN_locks) (hf.2.1) (⟨_,rfl,kL (SqL.of (sm _ _ hll)) (kX hv) (j0 ((sm _ _ hl)) (T.cl l.kd) (T.n_low l.kd) (Z4 l.kd _ _ _ _ _) (⟨_,rfl,rfl,_,rfl,?_⟩))⟩)⟩
   by_cases h:l.low=r
   ·refine qD (congrArg V.int h) ⟨_,rfl,.inl ⟨rfl,_,SqL.of hol⟩,_,rfl,zz2,fun tp htp=>?_⟩
    have u:=jK htp (.tup [V.int (i:Int),V.str "up"])
    refine ⟨ol,_,_,rfl,rfl,u _ _ hol,qQ (by rw [hA.1];omega),_,rfl,jE,?_,kY hol0 (sm.trans u)⟩
    rw [if_pos h]
    exact ((hA.mono (PAt.same u)).snoc (v:=.ref tp) (x:=(i,true)) ⟨tp,rfl,jE⟩).mono (PAt.put (u _ _ hol))
   ·refine kM (fun z=>h (V.int.inj z)) ⟨us,rfl,hol,?_,sm⟩
    rw [if_neg h,List.append_nil]
    exact hA
  rintro σ' H' ⟨us,rfl,hol,hA,sm⟩
  have hl2:(if l.low=r then [(i,true)] else ([]:List (Nat×Bool))).length≤1:=by split<;>simp
  refine ⟨_,rfl,j0 ((sm _ _ hx)) (T.clN) (T.nN_locks) (hf.2.1) (⟨_,rfl,kL (SqL.of (sm _ _ hll)) (kX hv) (j0 ((sm _ _ hl)) (T.cl l.kd) (T.n_high l.kd) (ZY l.kd _ _ _ _ _) (⟨_,rfl,rfl,_,rfl,?_⟩))⟩)⟩
  by_cases h:l.high=r
  ·refine qD (congrArg V.int h) ⟨_,rfl,.inl ⟨rfl,_,SqL.of hol⟩,_,rfl,zz2,fun tp htp=>?_⟩
   have u:=jK htp (.tup [V.int (i:Int),V.str "down"])
   refine ⟨ol,_,_,rfl,rfl,u _ _ hol,qQ (by rw [hA.1,List.length_append];omega),_,_,rfl,jE,?_,kY hol0 (sm.trans u)⟩
   rw [fK,ek,if_pos h,← List.append_assoc]
   exact ((hA.mono (PAt.same u)).snoc (v:=.ref tp) (x:=(i,false)) ⟨tp,rfl,jE⟩).mono (PAt.put (u _ _ hol))
  ·refine kM (fun z=>h (V.int.inj z)) ⟨us,_,rfl,hol,?_,sm⟩
   rw [fK,ek,if_neg h,List.append_nil]
   exact hA
 rintro σ Hi ⟨us,c,rfl,hol,hA,sm⟩
 rw [Int.toNat_natCast,hL.1] at hA
 exact ⟨_,rfl,q ol us Hi sm hol0 hol hA⟩
theorem y8:FnScope ["script","k","canal","most","lock","at","start","steps","j","some","step"] ["script","k","canal","most"] (jD QX):=⟨rfl,rfl,rfl,by decide +kernel,rfl,by decide +kernel,by decide +kernel⟩
theorem tQ {f:Addr} {fd:FuncData} (F:Fun K "_law_way" "_law_way" QX f fd) (T:Txt K mg cP cB cU cR cN tkS eW eL tkH) (D__law_draw:Def P w K mg base 1 "_law_draw" ["script","k","many"] [] (zV K)) (D__law_turns:Def P w K mg base 1 "_law_turns" ["canal","reach"] [] (o4 (jF cP cB cU) cR cN)):FnOk P w K mg base jQ 2 f fd ["script","k","canal","most"] (rF K (jF cP cB cU) cR cN):=by
 refine F.ok y8 (fun vs H Q E h=>?_) (fun cdv A outer s H vs Q E hr h=>?_)
 ·obtain ⟨s,x,ns,k,mo,D,R,L,N,rfl,hS,h63,hk,hm1,hm8,hc,hdr,b1,q⟩:=h
  rfl
 obtain ⟨s,x,ns,k,mo,D,R,L,N,rfl,hS,h63,hk,hm1,hm8,hc,hdr,b1,q⟩:=h
 have hu:_<cLine:=hr.units0
 have hu1:=jV hr
 refine ⟨_,(@jI _ _ _ _ _ (jT (i:=4) y8.nd rfl (by first|exact Or.inl rfl|exact Or.inr rfl) (jH kF (jZ (pv 2) rfl) (jL D__law_draw hr rfl (@jA _ _ _ _ _ (pv 0) (@jA _ _ _ _ _ (@jG _ _ _ _ _ _ _ _ jY jC (@jG _ _ _ _ _ _ _ _ kC jC (pv 1))) (@jA _ _ _ _ _ (kD kJ (by rfl) T.z_len PySem.boot_len (jA (jZ (pv 2) rfl) jB)) jB (by rfl)) (by rfl)) (by rfl))) (fun _ _=>rfl)))
   (@jI _ _ _ _ _ (jT (i:=5) y8.nd rfl (by first|exact Or.inl rfl|exact Or.inr rfl) (jH kF (qE (jA (jZ (pv 4) rfl) (jA (jZ (pv 4) rfl) jB))) (jL D__law_draw hr rfl (@jA _ _ _ _ _ (pv 0) (@jA _ _ _ _ _ (@jG _ _ _ _ _ _ _ _ jY jC (@jG _ _ _ _ _ _ _ _ kC jC (pv 1))) (@jA _ _ _ _ _ jC jB (by rfl)) (by rfl)) (by rfl))) (fun _ _=>rfl)))
   (@jI _ _ _ _ _ (jT (i:=6) y8.nd rfl (by first|exact Or.inl rfl|exact Or.inr rfl) (pv 5))
   (@jI _ _ _ _ _ (jT (i:=7) y8.nd rfl (by first|exact Or.inl rfl|exact Or.inr rfl) (qE jB))
   (@jI _ _ _ _ _ (yG PassesOwn.never rfl (vN (by rfl) T.z_range (jA (@jG _ _ _ _ _ _ _ _ jY jC (jL D__law_draw hr rfl (@jA _ _ _ _ _ (pv 0) (@jA _ _ _ _ _ (@jG _ _ _ _ _ _ _ _ jY jC (@jG _ _ _ _ _ _ _ _ kC jC (pv 1))) (@jA _ _ _ _ _ (pv 3) jB (by rfl)) (by rfl)) (by rfl)))) jB)) (j7 (i:=8) y8.nd rfl (by first|exact Or.inl rfl|exact Or.inr rfl))
    (@jI _ _ _ _ _ (jT (i:=9) y8.nd rfl (by first|exact Or.inl rfl|exact Or.inr rfl) (jL D__law_turns hr rfl (jA (pv 2) (jA (pv 5) jB))))
   (@jI _ _ _ _ _ (jT (i:=10) y8.nd rfl (by first|exact Or.inl rfl|exact Or.inr rfl) (jH kF (pv 9) (jL D__law_draw hr rfl (@jA _ _ _ _ _ (pv 0) (@jA _ _ _ _ _ (@jG _ _ _ _ _ _ _ _ jY (@jG _ _ _ _ _ _ _ _ jY jC (@jG _ _ _ _ _ _ _ _ kC jC (pv 1))) (pv 8)) (@jA _ _ _ _ _ (kD kJ (by rfl) T.z_len PySem.boot_len (jA (pv 9) jB)) jB (by rfl)) (by rfl)) (by rfl))) (fun _ _=>rfl)))
   (@jI _ _ _ _ _ (zP (J7 PySem.F.plainAttrs_list PySem.F.slot_list_append PySem.F.type_list_append JU (pv 7) (jA (pv 10) jB)))
   (@jJ _ _ _ (jT (i:=5) y8.nd rfl (by first|exact Or.inl rfl|exact Or.inr rfl) (jH kF (qE (jA (jZ (jH kF (jZ (pv 2) rfl) (jH ix_tup (pv 10) jC (fun _ _=>rfl)) (fun _ _=>rfl)) rfl) (jA (jZ (jH kF (jZ (pv 2) rfl) (jH ix_tup (pv 10) jC (fun _ _=>rfl)) (fun _ _=>rfl)) rfl) jB))) (v6 BS (by rfl) T.z_int PyProof.Rows.boot_int (jA (zF kR (jH ix_tup (pv 10) jC (fun _ _=>rfl)) j3 (j8 _)) jB)) (fun _ _=>rfl))))))))
   (@jJ _ _ _ (@jO _ _ _ _ (kG (jA (pv 6) (jA (v6 dO (by rfl) T.z_tuple PyProof.Rows.boot_tuple (jA (pv 7) jB)) jB)))))))))),?_⟩
 have hc0:=hc
 obtain ⟨dx,rl,ll,nl,fs,rs,ls,nv,hx,hf,hrl,hll,hnl,hR,hL,hN,d1,d2,d3⟩:=hc
 have b8:=hdr.l8
 refine ⟨_,rfl,j0 hx (T.clN) (T.nN_locks) (hf.2.1) (⟨_,rfl,_,rfl,jU (⟨.inl ⟨by decide,by decide⟩,_,_,rfl,rfl,_,rfl,j0 hx (T.clN) (T.nN_locks) (hf.2.1) (⟨ll,_,rfl,.inl (SqL.of hll),s,ns,_,_,rfl,hS,h63,by omega,by omega,by rw [hL.1];omega,fun d1 d10 d11=>?_⟩)⟩)⟩)⟩
 obtain ⟨k1,hk1⟩:∃k1:Nat,d1=(k1:Int):=⟨d1.toNat,by omega⟩
 subst hk1
 have hk1L:k1<L.length:=by rw [hL.1] at d11;omega
 obtain ⟨l0,hl0⟩:∃l,L[k1]?=some l:=⟨_,List.getElem?_eq_getElem hk1L⟩
 obtain ⟨v,hv,yl,rfl,dl,hl⟩:=hL.get hl0
 refine (kL (SqL.of hll) (kX hv) (?_))
 refine ⟨_,rfl,j0 hl (T.cl l0.kd) (T.n_low l0.kd) (Z4 l0.kd _ _ _ _ _) (⟨_,rfl,j0 hl (T.cl l0.kd) (T.n_high l0.kd) (ZY l0.kd _ _ _ _ _) (⟨zz2,fun p1 hp1=>?_⟩)⟩)⟩
 have s1:=jK hp1 (.lst [V.int l0.low,V.int l0.high])
 refine ⟨_,rfl,_,rfl,jU (⟨.inl ⟨by decide,by decide⟩,_,_,rfl,rfl,s,ns,_,_,rfl,s1.seq hS,h63,by omega,by omega,by omega,fun d2 d20 d21=>?_⟩)⟩
 obtain ⟨a0,hat,hend⟩:∃a0:Int,qC [V.int l0.low,V.int l0.high] d2=some (.int a0)∧EndAt L a0:=by
  obtain ⟨k2,hk2⟩:∃k2:Nat,d2=(k2:Int):=⟨d2.toNat,by omega⟩
  subst hk2
  rcases k2 with _|_|k2
  ·exact ⟨l0.low,rfl,(k1,true),hk1L,by rw [JZ hl0]⟩
  ·exact ⟨l0.high,rfl,(k1,false),hk1L,by rw [JV hl0]⟩
  ·omega
 refine (kL (SqL.of jE) hat (?_))
 refine ⟨_,rfl,zz0,fun sp hsp0=>?_⟩
 have s2:=jK hsp0 (.lst [])
 have s12:=s1.trans s2
 have hsp:upd (upd H p1 (.lst [V.int l0.low,V.int l0.high])) sp (.lst []) sp=some (.lst []):=jE
 have hspf:=s1.free hsp0
 generalize upd (upd H p1 (.lst [V.int l0.low,V.int l0.high])) sp (.lst [])=H2 at s2 s12 hsp ⊢
 refine ⟨_,rfl,_,rfl,jU (⟨.inl ⟨by decide,by decide⟩,_,_,rfl,rfl,_,rfl,s,ns,_,_,rfl,s12.seq hS,h63,by omega,by omega,by omega,fun m0 m00 m01=>?_⟩)⟩
 obtain ⟨n,hn⟩:∃n:Nat,1+m0=(n:Int):=⟨(1+m0).toNat,by omega⟩
 refine ⟨_,_,rfl,rfl,(n:Int),(by show [V.int (1+m0)]=_;rw [hn]),by omega,by omega,?_⟩
 refine bS (n:=((n:Nat):Int).toNat) (fun i σ Hi=>∃(a:Int) (ps:List (Nat×Bool)) (us:List V) (c8 c9 c10:Option V),σ=[some (.ref s),some (.int (k:Int)),some (.ref x),some (.int (mo:Int)),some (.ref yl),some (.int a),some (.int a0),some (.ref sp),c8,c9,c10]∧Hi sp=some (.lst us)∧AllAt (PAt Hi) us ps∧(∀p∈ps,p.1<L.length)∧ps.length=i∧(kS L a0 ps)[ps.length]?=some a∧JB L a0 ps∧EndAt L a∧Same H Hi)
  ⟨a0,[],[],none,none,none,rfl,hsp,AllAt.nil,fun p hp=>(by cases hp),rfl,rfl,DC _ _,hend,s12⟩ ?_ ?_
 ·rintro i σ Hi hi ⟨a,ps,us,c8,c9,c10,rfl,hsp,hA,hlt,hpl,hlast,hok,hen,sm⟩
  rw [Int.toNat_natCast] at hi
  rw [Int.zero_add]
  refine ⟨_,rfl,_,rfl,x,a,_,R,L,N,rfl,hc0.same sm,b8,fun so tus H4 s4 hso0 hso hTA=>?_⟩
  have sm4:=sm.trans s4
  have htl:=hen.turns
  refine ⟨_,rfl,_,rfl,_,rfl,jU (⟨.inl ⟨by decide,by decide⟩,_,_,rfl,rfl,_,rfl,jU (⟨_,rfl,so,_,rfl,.inl (SqL.of hso),s,ns,_,_,rfl,sm4.seq hS,h63,by omega,by omega,by rw [hTA.1];omega,fun d4 d40 d41=>?_⟩)⟩)⟩
  obtain ⟨m,hm⟩:∃m:Nat,d4=(m:Int):=⟨d4.toNat,by omega⟩
  subst hm
  have hml:m<tus.length:=by omega
  obtain ⟨p,hp,t,et,ht⟩:=hTA.2 m _ (List.getElem?_eq_getElem hml)
  obtain ⟨hpL,hpe⟩:=turns_mem.mp (List.mem_of_getElem? hp)
  refine (kL (SqL.of hso) (kX (v:=.ref t) (by rw [List.getElem?_eq_getElem hml,et])) (?_))
  have hsp4:=s4 _ _ hsp
  refine ⟨_,rfl,.inl ⟨rfl,_,SqL.of hsp4⟩,_,rfl,sp,_,_,rfl,rfl,hsp4,qQ (by rw [hA.1];omega),?_⟩
  have hA5:AllAt (PAt (upd H4 sp (.lst (us++[.ref t])))) (us++[.ref t]) (ps++[p]):=((hA.mono (PAt.same s4)).snoc ⟨t,rfl,ht⟩).mono (PAt.put hsp4)
  have sm5:Same H (upd H4 sp (.lst (us++[.ref t]))):=kY hspf sm4
  have hsp5:upd H4 sp (.lst (us++[.ref t])) sp=some (.lst (us++[.ref t])):=jE
  have ht:upd H4 sp (.lst (us++[.ref t])) t=some (.tup [.int (p.1:Int),.str (cZ p.2)]):=by rw [j6 (fun z=>by rw [z,hsp4] at ht;cases ht)];exact ht
  generalize upd H4 sp (.lst (us++[.ref t]))=H5 at hA5 sm5 hsp5 ht ⊢
  obtain ⟨l,hl',hlg⟩:=mC hdr hpL
  obtain ⟨w,hw,y,rfl,dl,hl⟩:=hL.get hl'
  refine ⟨_,rfl,j0 ((sm5 _ _ hx)) (T.clN) (T.nN_locks) (hf.2.1) (⟨_,rfl,jM (SqT.of ht) rfl (kL (SqL.of (sm5 _ _ hll)) (kX hw) (j0 ((sm5 _ _ hl)) (T.cl l.kd) (T.n_low l.kd) (Z4 l.kd _ _ _ _ _) (⟨_,rfl,j0 ((sm5 _ _ hx)) (T.clN) (T.nN_locks) (hf.2.1) (⟨_,rfl,jM (SqT.of ht) rfl (kL (SqL.of (sm5 _ _ hll)) (kX hw) (j0 ((sm5 _ _ hl)) (T.cl l.kd) (T.n_high l.kd) (ZY l.kd _ _ _ _ _) (⟨zz2,fun pl hpl0=>?_⟩)))⟩)⟩)))⟩)⟩
  have u:=jK hpl0 (.lst [V.int l.low,V.int l.high])
  refine ⟨_,rfl,jM (SqT.of (u _ _ ht)) rfl (⟨rfl,.inr ⟨_,rfl,?_⟩⟩)⟩
  rw [p8]
  have hat:qC [V.int l.low,V.int l.high] (if p.2=true then 1 else 0)=some (.int (qU L p).2):=by
   obtain ⟨pk,pb⟩:=p
   cases pb
   ·rw [JV hl'];rfl
   ·rw [JZ hl'];rfl
  refine (kL (SqL.of jE) hat (?_))
  refine ⟨_,ps++[p],us++[.ref t],_,_,_,rfl,u _ _ hsp5,hA5.mono (PAt.same u),fun p' hp'=>?_,by rw [List.length_append,hpl];rfl,?_,(B7 hlast).mpr ⟨hok,hpe⟩,EndAt.next hpL,sm5.trans u⟩
  ·rcases List.mem_append.mp hp' with h|h
   ·exact hlt p' h
   ·rw [List.mem_singleton.mp h];exact hpL
  ·rw [gF,List.length_append,List.getElem?_append_right (by rw [cC];exact Nat.le_refl _),cC]
   show [(qU L p).2][ps.length+1 - (ps.length+1)]?=_
   rw [Nat.sub_self]
   rfl
 rintro σ Hi ⟨a,ps,us,c8,c9,c10,rfl,hsp,hA,hlt,hpl,hlast,hok,hen,sm⟩
 rw [Int.toNat_natCast] at hpl
 refine ⟨_,rfl,_,rfl,sp,us,rfl,.inl ⟨SqL.of hsp,fun st hst0=>?_⟩⟩
 have v1:=jK hst0 (.tup us)
 refine ⟨zz2,fun t ht0=>?_⟩
 have v2:=jK ht0 (.tup [V.int a0,V.ref st])
 have w:=(sm.trans v1).trans v2
 exact q t (a0,ps) _ ⟨hlt,hok,by show ps.length≤8;omega⟩ (by show ps.length≤mo;omega) w ((sm.trans v1).free ht0) ⟨t,st,us,rfl,jE,v2 _ _ jE,hA.mono (PAt.same (v1.trans v2))⟩
theorem lC:FnScope ["script","k","way"] ["script","k"] (jD QT):=⟨rfl,rfl,rfl,by decide +kernel,rfl,by decide +kernel,by decide +kernel⟩
theorem tM {f:Addr} {fd:FuncData} (F:Fun K "_law_more" "_law_more" QT f fd) (T:Txt K mg cP cB cU cR cN tkS eW eL tkH) (D__law_draw:Def P w K mg base 1 "_law_draw" ["script","k","many"] [] (zV K)) (D__law_unit:Def P w K mg base 1 "_law_unit" ["script"] [] (iC K)):FnOk P w K mg base jQ 2 f fd ["script","k"] (iD K):=by
 refine F.ok lC (fun vs H Q E h=>?_) (fun cdv A outer s H vs Q E hr h=>?_)
 ·obtain ⟨s,ns,k,rfl,hS,h63,hk0,hk1,q⟩:=h
  rfl
 obtain ⟨s,ns,k,rfl,hS,h63,hk0,hk1,q⟩:=h
 have hu:_<cLine:=hr.units0
 have hu1:=jV hr
 refine ⟨_,(@jI _ _ _ _ _ (jT (i:=2) lC.nd rfl (by first|exact Or.inl rfl|exact Or.inr rfl) (jL D__law_draw hr rfl (@jA _ _ _ _ _ (pv 0) (@jA _ _ _ _ _ (pv 1) (@jA _ _ _ _ _ jC jB (by rfl)) (by rfl)) (by rfl))))
   (@jI _ _ _ _ _ (kN (PW.pt (cO (kB kR (pv 2) jC (j8 _)) (eM (kB kR (kD kJ (by rfl) T.z_len PySem.boot_len (jA (pv 0) jB)) jC (j8 _))))) (@jJ _ _ _ (@jO _ _ _ _ jC)) kQ)
   (@jI _ _ _ _ _ (kN (kB kR (pv 2) jC (j8 _)) (@jJ _ _ _ (@jO _ _ _ _ (@jG _ _ _ _ _ _ _ _ zG (@jG _ _ _ _ _ _ _ _ eH (jH kF (pv 0) (@jG _ _ _ _ _ _ _ _ zG (pv 1) (kD kJ (by rfl) T.z_len PySem.boot_len (jA (pv 0) jB))) (fun _ _=>rfl)) jC) (@jG _ _ _ _ _ _ _ _ pX jC jC)))) kQ)
   (@jJ _ _ _ (@jO _ _ _ _ (@jG _ _ _ _ _ _ _ _ kC (jL D__law_draw hr rfl (@jA _ _ _ _ _ (pv 0) (@jA _ _ _ _ _ (@jG _ _ _ _ _ _ _ _ jY (pv 1) jC) (@jA _ _ _ _ _ jC jB (by rfl)) (by rfl)) (by rfl))) (jL D__law_unit hr rfl (jA (pv 0) jB)))))))),?_⟩
 have hml:(ns.map V.int).length=ns.length:=List.length_map _
 refine ⟨_,rfl,_,rfl,s,ns,_,_,rfl,hS,h63,hk0,by omega,by omega,fun wy w0 w1=>?_⟩
 refine ⟨_,rfl,rfl,_,rfl,eU (fun _=>kI (q 0 (Int.le_refl 0))) (fun _=>?_)⟩
 refine ⟨_,rfl,s,_,rfl,.inl hS,rfl,_,rfl,?_⟩
 by_cases h0:ns.length=0
 ·exact qD (by rw [hml,h0];rfl) (q 0 (Int.le_refl 0))
 refine kM (fun z=>h0 (by have:=V.int.inj z;rw [hml] at this;omega)) ?_
 have hl0:(0:Int)<(((ns.map V.int).length:Nat):Int):=by rw [hml];omega
 refine ⟨_,rfl,rfl,_,rfl,eU (fun _=>?_) (fun _=>?_)⟩
 ·obtain ⟨j,ej,lj⟩:=fW (a:=k) hl0
  have lj:j<ns.length:=by rw [hml] at lj;omega
  refine ⟨_,rfl,_,rfl,_,rfl,s,_,rfl,.inl hS,_,_,rfl,rfl,hl0,?_⟩
  try dsimp only
  rw [ej]
  refine ⟨s,_,_,_,rfl,rfl,hS,qF lj,_,_,rfl,rfl,⟨by decide,by decide⟩,_,_,rfl,rfl,⟨by decide,by decide,by decide⟩,_,_,rfl,rfl,(show (0:Int)<10 ^ Int.toNat 11 from by decide +kernel),?_⟩
  exact q _ (Int.emod_nonneg _ (show (10:Int) ^ Int.toNat 11≠0 from by decide +kernel))
 refine ⟨_,rfl,_,rfl,jU (⟨s,ns,_,_,rfl,hS,h63,by omega,by omega,by omega,fun a a0 a1=>⟨_,rfl,s,ns,rfl,hS,h63,fun u u0 u1=>⟨_,_,rfl,rfl,.inl ⟨by omega,by omega⟩,?_⟩⟩⟩)⟩
 exact q _ (Int.mul_nonneg a0 (by omega))
theorem bH:FnScope ["script","canal","day","some","r","told","less"] ["script","canal","day"] (jD QZ):=⟨rfl,rfl,rfl,by decide +kernel,rfl,by decide +kernel,by decide +kernel⟩
theorem tS {f:Addr} {fd:FuncData} (F:Fun K "_law_wetter_weather" "_law_wetter_weather" QZ f fd) (T:Txt K mg cP cB cU cR cN tkS eW eL tkH) (D__law_more:Def P w K mg base 2 "_law_more" ["script","k"] [] (iD K)):FnOk P w K mg base jQ 3 f fd ["script","canal","day"] (nY K (jF cP cB cU) cR cN):=by
 refine F.ok bH (fun vs H Q E h=>?_) (fun cdv A outer s H vs Q E hr h=>?_)
 ·obtain ⟨s,x,ns,d,D,R,L,N,rfl,hS,h63,hc,hdr,hnn,hdN,q⟩:=h
  rfl
 obtain ⟨s,x,ns,d,D,R,L,N,rfl,hS,h63,hc,hdr,hnn,hdN,q⟩:=h
 have hu:_<cLine:=hr.units0
 have hu1:=jV hr
 refine ⟨_,(@jI _ _ _ _ _ (jT (i:=3) bH.nd rfl (by first|exact Or.inl rfl|exact Or.inr rfl) (qE jB))
   (@jI _ _ _ _ _ (yG PassesOwn.never rfl (vN (by rfl) T.z_range (jA (kD kJ (by rfl) T.z_len PySem.boot_len (jA (jZ (pv 1) rfl) jB)) jB)) (j7 (i:=4) bH.nd rfl (by first|exact Or.inl rfl|exact Or.inr rfl))
    (@jI _ _ _ _ _ (jT (i:=5) bH.nd rfl (by first|exact Or.inl rfl|exact Or.inr rfl) (jH pZ (jH kF (jZ (pv 1) rfl) (pv 2) (fun _ _=>rfl)) (pv 4) (fun _ _=>rfl)))
   (@jI _ _ _ _ _ (jT (i:=6) bH.nd rfl (by first|exact Or.inl rfl|exact Or.inr rfl) (kD (nK rfl) (by rfl) T.z_min PyProof.Rows.boot_min (jA (jH ix_tup (pv 5) jC (fun _ _=>rfl)) (jA (jL D__law_more hr rfl (jA (pv 0) (jA (@jG _ _ _ _ _ _ _ _ jY (@jG _ _ _ _ _ _ _ _ jY jC (@jG _ _ _ _ _ _ _ _ kC jC (pv 2))) (pv 4)) jB))) jB))))
   (@jJ _ _ _ (zP (J7 PySem.F.plainAttrs_list PySem.F.slot_list_append PySem.F.type_list_append JU (pv 3) (jA (kG (jA (@jG _ _ _ _ _ _ _ _ jY (jH ix_tup (pv 5) jC (fun _ _=>rfl)) (jL D__law_more hr rfl (jA (pv 0) (jA (@jG _ _ _ _ _ _ _ _ jY (@jG _ _ _ _ _ _ _ _ jY jC (@jG _ _ _ _ _ _ _ _ kC jC (pv 2))) (pv 4)) jB)))) (jA (@jG _ _ _ _ _ _ _ _ vQ (jH ix_tup (pv 5) jC (fun _ _=>rfl)) (pv 6)) jB))) jB)))))))
   (@jJ _ _ _ (@jO _ _ _ _ (pv 3))))),?_⟩
 obtain ⟨dx,rl,ll,nl,fs,rs,ls,nv,hx,hf,hrl,hll,hnl,hR,hL,hN,d1,d2,d3⟩:=hc
 have b1:=hdr.r8
 have b2:=hdr.n6
 obtain ⟨W,hWn⟩:∃W,N[d]?=some W:=⟨_,List.getElem?_eq_getElem hdN⟩
 obtain ⟨v,hv,wn,qs,rfl,hwn,hqs,_⟩:=hN.get hWn
 have hWR:=hdr.night W (List.mem_of_getElem? hWn)
 have hW0:=hnn W (List.mem_of_getElem? hWn)
 have eW:N.getD d []=W:=by rw [List.getD_eq_getElem?_getD,hWn];rfl
 rw [eW] at q
 refine ⟨zz0,fun l hl0=>?_⟩
 have u0:=jK hl0 (.lst [])
 refine ⟨_,rfl,x,cN,dx,_,_,rfl,(u0 _ _ hx),T.clN,T.nN_reaches,hf.1,rl,_,rfl,.inl (SqL.of (u0 _ _ hrl)),_,rfl,by omega,by rw [hR.1];omega,bS (n:=((rs.length:Nat):Int).toNat) (fun i σ Hi=>∃(us:List V) (p:List (Int×Int)) (c5 c6 c7:Option V),σ=[some (.ref s),some (.ref x),some (.int (d:Int)),some (.ref l),c5,c6,c7]∧Hi l=some (.lst us)∧AllAt (QAt Hi) us p∧p.length=i∧eV i W p∧Same H Hi)
  ⟨[],[],none,none,none,rfl,jE,AllAt.nil,rfl,(fun i hi=>absurd hi (Nat.not_lt_zero _)),u0⟩ ?_ ?_⟩
 ·rintro i σ Hi hi ⟨us,p,c5,c6,c7,rfl,hl,hA,hp,hWp,sm⟩
  rw [Int.toNat_natCast,hR.1] at hi
  rw [Int.zero_add]
  have hSi:=sm.seq hS
  obtain ⟨y,hy⟩:∃y,W[i]?=some y:=⟨_,List.getElem?_eq_getElem (by omega)⟩
  obtain ⟨v2,hv2,t2,rfl,ht2⟩:=hqs.get hy
  have hy0:=hW0 y (List.mem_of_getElem? hy)
  refine ⟨_,rfl,j0 ((sm _ _ hx)) (T.clN) (T.nN_nights) (hf.2.2.1) (⟨_,rfl,kL (SqL.of (sm _ _ hnl)) (kX hv) (⟨_,rfl,.inl (kL (SqL.of (sm _ _ hwn)) (kX hv2) (?_))⟩)⟩)⟩
  have ht2i:=sm _ _ ht2
  refine ⟨_,rfl,jM (SqT.of ht2i) rfl (⟨_,rfl,_,rfl,jU (⟨.inl ⟨by decide,by decide⟩,_,_,rfl,rfl,_,rfl,jU (⟨s,ns,_,rfl,hSi,h63,by omega,by omega,fun m1 m10=>⟨_,_,rfl,?_⟩⟩)⟩)⟩)⟩
  try dsimp only
  generalize hle:(if m1<y.2 then m1 else y.2)=le
  refine ⟨_,rfl,.inl ⟨rfl,_,SqL.of hl⟩,_,rfl,jM (SqT.of ht2i) rfl (⟨_,rfl,_,rfl,jU (⟨.inl ⟨by decide,by decide⟩,_,_,rfl,rfl,_,rfl,jU (⟨s,ns,_,rfl,hSi,h63,by omega,by omega,fun m2 m20=>⟨_,_,rfl,rfl,_,rfl,jM (SqT.of ht2i) rfl (⟨_,rfl,jU (⟨zz2,fun tp htp=>?_⟩)⟩)⟩⟩)⟩)⟩)⟩
  have v:=jK htp (.tup [V.int (y.1+m2),V.int (y.2 - le)])
  refine ⟨l,_,_,rfl,rfl,v _ _ hl,qQ (by rw [hA.1];omega),?_⟩
  refine ⟨us++[.ref tp],p++[(y.1+m2,y.2 - le)],_,_,_,rfl,jE,?_,by rw [List.length_append,hp];rfl,?_,kY hl0 (sm.trans v)⟩
  ·exact ((hA.mono (QAt.same v)).snoc (v:=.ref tp) (x:=(y.1+m2,y.2 - le)) ⟨tp,rfl,jE⟩).mono (QAt.put (v _ _ hl))
  intro j hj
  by_cases hji:j<i
  ·rw [List.getD_eq_getElem?_getD (l:=p++_),List.getElem?_append_left (by omega),← List.getD_eq_getElem?_getD]
   exact hWp j hji
  ·have ej:j=i:=by omega
   subst ej
   rw [i0 hy,List.getD_eq_getElem?_getD,List.getElem?_append_right (by omega),hp,Nat.sub_self]
   show y.1≤y.1+m2∧y.2 - le≤y.2
   have:0≤le:=by rw [← hle];split<;>omega
   omega
 rintro σ Hi ⟨us,p,c5,c6,c7,rfl,hl,hA,hp,hWp,sm⟩
 rw [Int.toNat_natCast,hR.1] at hp hWp
 exact ⟨_,rfl,q l us p Hi hp hWp sm hl hA⟩
theorem dH:FnScope ["canal","one","other","many","inner","r"] ["canal","one","other"] (jD QQ):=⟨rfl,rfl,rfl,by decide +kernel,rfl,by decide +kernel,by decide +kernel⟩
theorem tI {f:Addr} {fd:FuncData} (F:Fun K "_law_as_wet" "_law_as_wet" QQ f fd) (T:Txt K mg cP cB cU cR cN tkS eW eL tkH) : FnOk P w K mg base jQ 1 f fd ["canal","one","other"] (pR (jF cP cB cU) cR cN):=by
 refine F.ok dH (fun vs H Q E h=>?_) (fun cdv A outer s H vs Q E hr h=>?_)
 ·obtain ⟨x,t,o,d,ms,ms',ps,D,R,L,N,rfl,hc,hdr,⟨wt,pt,h1,h2,h3⟩,⟨wo,po,g1,g2,g3⟩,hm,hW,q⟩:=h
  rfl
 obtain ⟨x,t,o,d,ms,ms',ps,D,R,L,N,rfl,hc,hdr,⟨wt,pt,h1,h2,h3⟩,⟨wo,po,g1,g2,g3⟩,hm,hW,q⟩:=h
 have hu:_<cLine:=hr.units0
 have hu1:=jV hr
 refine ⟨_,(@jI _ _ _ _ _ (jT (i:=3) dH.nd rfl (by first|exact Or.inl rfl|exact Or.inr rfl) (kD kJ (by rfl) T.z_len PySem.boot_len (jA (jZ (pv 0) rfl) jB)))
   (@jI _ _ _ _ _ (jT (i:=4) dH.nd rfl (by first|exact Or.inl rfl|exact Or.inr rfl) (@jG _ _ _ _ _ _ _ _ jY (pv 3) (@jG _ _ _ _ _ _ _ _ kC jC (kD kJ (by rfl) T.z_len PySem.boot_len (jA (jZ (pv 0) rfl) jB)))))
   (@jI _ _ _ _ _ (kN (PW.pt (cO (kB z0 (jH ix_tup (pv 1) jC (fun _ _=>rfl)) (jH ix_tup (pv 2) jC (fun _ _=>rfl)) (j8 _)) (cO (kB (iG hu) (jH ix_tup (pv 1) jC (fun _ _=>rfl)) (jH ix_tup (pv 2) jC (fun _ _=>rfl)) (j8 _)) (eM (kB (iG hu) (ZT cJ (jH ix_tup (pv 1) jC (fun _ _=>rfl)) (yL (pv 3)) (yL (pv 4))) (ZT cJ (jH ix_tup (pv 2) jC (fun _ _=>rfl)) (yL (pv 3)) (yL (pv 4))) (j8 _)))))) (@jJ _ _ _ (@jO _ _ _ _ yR)) kQ)
   (@jI _ _ _ _ _ (yG PassesOwn.never rfl (vN (by rfl) T.z_range (jA (pv 3) jB)) (j7 (i:=5) dH.nd rfl (by first|exact Or.inl rfl|exact Or.inr rfl))
    (@jJ _ _ _ (kN (kB eP (jH ix_tup (jH ix_tup (pv 1) jC (fun _ _=>rfl)) (pv 5) (fun _ _=>rfl)) (jH ix_tup (jH ix_tup (pv 2) jC (fun _ _=>rfl)) (pv 5) (fun _ _=>rfl)) (j8 _)) (@jJ _ _ _ (@jO _ _ _ _ yR)) kQ)))
   (@jJ _ _ _ (@jO _ _ _ _ yR)))))),?_⟩
 obtain ⟨dx,rl,ll,nl,fs,rs,ls,nv,hx,hf,hrl,hll,hnl,hR,hL,hN,d1,d2,d3⟩:=hc
 have b1:=hdr.r8
 have b2:=hdr.l8
 have r1:=hdr.r1
 have hml:=hW.len
 have hasw:=gQ (d:=d) (ps:=ps) hdr hm hW
 have hlk:JC R.length L.length ms' ms=true:=by
  unfold yY at hasw
  rw [decide_eq_true rfl,cA (zC _),Bool.true_and,Bool.true_and,Bool.and_eq_true] at hasw
  exact hasw.1
 refine ⟨_,rfl,j0 hx (T.clN) (T.nN_reaches) (hf.1) (⟨rl,_,rfl,.inl (SqL.of hrl),?_⟩)⟩
 rw [hR.1]
 refine ⟨_,rfl,_,rfl,j0 hx (T.clN) (T.nN_locks) (hf.2.1) (⟨ll,_,rfl,.inl (SqL.of hll),_,_,rfl,rfl,.inl ⟨by decide,by decide⟩,_,_,rfl,rfl,?_⟩)⟩
 rw [hL.1]
 refine ⟨_,rfl,jM (SqT.of h1) rfl (⟨_,rfl,jM (SqT.of g1) rfl (⟨rfl,_,rfl,z3 rfl ⟨_,rfl,jM (SqT.of h1) rfl (⟨_,rfl,jM (SqT.of g1) rfl (⟨pt,po,_,_,rfl,rfl,SqT.of h3,SqT.of g3,zC _,zC _,_,rfl,?_⟩)⟩)⟩⟩)⟩)⟩
 rw [cA (zC _)]
 refine q8 ?_
 refine ⟨_,rfl,jM (SqT.of h1) rfl (⟨_,rfl,_,rfl,_,rfl,_,rfl,wt,_,rfl,SqT.of h2,cM r1 (by omega),fun p1 hp1=>?_⟩)⟩
 have s1:=jK hp1 (.tup (kT (ms'.map V.int) (some (R.length:Int)) (some (qB R.length L.length))))
 refine ⟨_,rfl,jM (SqT.of (s1 _ _ g1)) rfl (⟨_,rfl,_,rfl,_,rfl,_,rfl,wo,_,rfl,SqT.of (s1 _ _ g2),cM r1 (by omega),fun p2 hp2=>?_⟩)⟩
 have s2:=jK hp2 (.tup (kT (ms.map V.int) (some (R.length:Int)) (some (qB R.length L.length))))
 have s12:=s1.trans s2
 refine ⟨p1,p2,_,_,rfl,rfl,SqT.of (s2 _ _ jE),SqT.of jE,bU _ _ _,bU _ _ _,_,rfl,?_⟩
 show if (!JC R.length L.length ms' ms)=true then _ else _
 rw [hlk]
 refine q8 ?_
 change Same H (upd (upd H p1 (.tup (kT (ms'.map V.int) (some (R.length:Int)) (some ((R.length:Int)+2*(L.length:Int)))))) p2 (.tup (kT (ms.map V.int) (some (R.length:Int)) (some ((R.length:Int)+2*(L.length:Int)))))) at s12
 generalize upd (upd H p1 (.tup (kT (ms'.map V.int) (some (R.length:Int)) (some ((R.length:Int)+2*(L.length:Int)))))) p2 (.tup (kT (ms.map V.int) (some (R.length:Int)) (some ((R.length:Int)+2*(L.length:Int)))))=H2 at s12 ⊢
 refine ⟨_,rfl,_,rfl,by omega,by omega,bS (n:=((R.length:Nat):Int).toNat) (fun i σ Hi=>∃c:Option V,σ=[some (.ref x),some (.ref t),some (.ref o),some (.int (R.length:Int)),some (.int ((R.length:Int)+2*(L.length:Int))),c]∧Hi=H2) ⟨none,rfl,rfl⟩ ?_ ?_⟩
 ·rintro i σ Hi hi ⟨c,rfl,rfl⟩
  rw [Int.toNat_natCast] at hi
  rw [Int.zero_add]
  have hu:=hW.up i hi
  exact ⟨_,rfl,jM (SqT.of (s12 _ _ h1)) rfl (⟨_,rfl,jM (SqT.of (s12 _ _ h2)) (qF (by omega)) (⟨_,rfl,jM (SqT.of (s12 _ _ g1)) rfl (⟨_,rfl,jM (SqT.of (s12 _ _ g2)) (qF (by omega)) (jU (⟨_,rfl,kM (by omega) ⟨_,rfl,rfl⟩⟩))⟩)⟩)⟩)⟩
 rintro σ Hi ⟨c,rfl,rfl⟩
 exact q _ s12
theorem vH:FnScope ["script","canal","ways","dry","more","reaches","wet","cell","some","other","deed"] ["script"] (jD v7):=⟨rfl,rfl,rfl,by decide +kernel,rfl,by decide +kernel,by decide +kernel⟩
theorem uA {f:Addr} {fd:FuncData} (F:Fun K "law" "law" v7 f fd) (T:Txt K mg cP cB cU cR cN tkS eW eL tkH) (D__law_canal:Def P w K mg base 6 "_law_canal" ["script","most_reaches","most_locks","most_nights"] [] (oB K (jF cP cB cU) cR cN)) (D__law_draw:Def P w K mg base 1 "_law_draw" ["script","k","many"] [] (zV K)) (D__law_way:Def P w K mg base 2 "_law_way" ["script","k","canal","most"] [] (rF K (jF cP cB cU) cR cN)) (D_begun:Def P w K mg base 6 "begun" ["canal","ways"] [] (o9 (jF cP cB cU) cR cN)) (D__law_more:Def P w K mg base 2 "_law_more" ["script","k"] [] (iD K)) (D_may:Def P w K mg base 9 "may" ["canal","ways","state"] [] (rH (jF cP cB cU) cR cN)) (D_after_night:Def P w K mg base 6 "after_night" ["canal","state","weather"] [] (oE K (jF cP cB cU) cR cN)) (D__law_wetter_weather:Def P w K mg base 3 "_law_wetter_weather" ["script","canal","day"] [] (nY K (jF cP cB cU) cR cN)) (D_after:Def P w K mg base 10 "after" ["canal","ways","state","deed"] [] (fZ (jF cP cB cU) cR cN)) (D_as_wet:Def P w K mg base 3 "as_wet" ["canal","state","other"] [] (rL (jF cP cB cU) cR cN)) (D__law_as_wet:Def P w K mg base 1 "_law_as_wet" ["canal","one","other"] [] (pR (jF cP cB cU) cR cN)):FnOk P w K mg base jQ 14 f fd ["script"] (eO K):=by
 refine F.ok vH (fun vs H Q E h=>?_) (fun cdv A outer s H vs Q E hr h=>?_)
 ·obtain ⟨s,ns,rfl,hS,h63,q⟩:=h
  rfl
 obtain ⟨s,ns,rfl,hS,h63,q⟩:=h
 have hu:_<cLine:=hr.units0
 have hu1:=jV hr
 refine ⟨_,(@jI _ _ _ _ _ (jT (i:=1) vH.nd rfl (by first|exact Or.inl rfl|exact Or.inr rfl) (jL D__law_canal hr rfl (@jA _ _ _ _ _ (pv 0) (@jA _ _ _ _ _ jC (@jA _ _ _ _ _ jC (@jA _ _ _ _ _ jC jB (by rfl)) (by rfl)) (by rfl)) (by rfl))))
   (@jI _ _ _ _ _ (zB (i:=2) ["k","script","canal"] (kP 1 [0,1]) vH.nd rfl (by first|exact Or.inl rfl|exact Or.inr rfl) rfl (kZ (jD v7) rfl rfl (by decide +kernel) (by decide +kernel) (by decide +kernel)) (qA 1 [0,1] rfl rfl (by decide +kernel)) (vN (by rfl) T.z_range (jA (jL D__law_draw hr rfl (@jA _ _ _ _ _ (pv 0) (@jA _ _ _ _ _ jC (@jA _ _ _ _ _ jC jB (by rfl)) (by rfl)) (by rfl))) jB)) (fun _ _ _ _ _=>(j7 (i:=0) (show List.Nodup (["k","script","canal"]:List Str) from by decide +kernel) rfl (by first|exact Or.inl rfl|exact Or.inr rfl))) (fun _ _ _ _ _=>qR) (fun _ _ _ _ _=>(jL D__law_way hr rfl (@jA _ _ _ _ _ (pv 1) (@jA _ _ _ _ _ (pv 0) (@jA _ _ _ _ _ (pv 2) (@jA _ _ _ _ _ jC jB (by rfl)) (by rfl)) (by rfl)) (by rfl)))))
   (@jI _ _ _ _ _ (jT (i:=3) vH.nd rfl (by first|exact Or.inl rfl|exact Or.inr rfl) (jL D_begun hr rfl (jA (pv 1) (jA (pv 2) jB))))
   (@jI _ _ _ _ _ (jT (i:=4) vH.nd rfl (by first|exact Or.inl rfl|exact Or.inr rfl) (vE ["r","script"] (kP 1 [0]) rfl (kZ (jD v7) rfl rfl (by decide +kernel) (by decide +kernel) (by decide +kernel)) (qA 1 [0] rfl rfl (by decide +kernel)) (vN (by rfl) T.z_range (jA (kD kJ (by rfl) T.z_len PySem.boot_len (jA (jZ (pv 1) rfl) jB)) jB)) (fun _ _ _ _ _=>(j7 (i:=0) (show List.Nodup (["r","script"]:List Str) from by decide +kernel) rfl (by first|exact Or.inl rfl|exact Or.inr rfl))) (fun _ _ _ _ _=>qR) (fun _ _ _ _ _=>(jL D__law_more hr rfl (jA (pv 1) (jA (@jG _ _ _ _ _ _ _ _ jY jC (pv 0)) jB))))))
   (@jI _ _ _ _ _ (jT (i:=5) vH.nd rfl (by first|exact Or.inl rfl|exact Or.inr rfl) (kD kJ (by rfl) T.z_len PySem.boot_len (jA (jZ (pv 1) rfl) jB)))
   (@jI _ _ _ _ _ (jT (i:=6) vH.nd rfl (by first|exact Or.inl rfl|exact Or.inr rfl) (kG (@jA _ _ _ _ _ jC (@jA _ _ _ _ _ (@jG _ _ _ _ _ _ _ _ DB (v6 dO (by rfl) T.z_tuple PyProof.Rows.boot_tuple (jA (vE ["r","more","dry"] (kP 1 [4,3]) rfl (kZ (jD v7) rfl rfl (by decide +kernel) (by decide +kernel) (by decide +kernel)) (qA 1 [4,3] rfl rfl (by decide +kernel)) (vN (by rfl) T.z_range (jA (pv 5) jB)) (fun _ _ _ _ _=>(j7 (i:=0) (show List.Nodup (["r","more","dry"]:List Str) from by decide +kernel) rfl (by first|exact Or.inl rfl|exact Or.inr rfl))) (fun _ _ _ _ _=>qR) (fun _ _ _ _ _=>(@jG _ _ _ _ _ _ _ _ jY (jH (yO K) (jH (yO K) (pv 2) jC (fun _ _=>rfl)) (pv 0) (fun _ _=>rfl)) (jH (eD K) (pv 1) (pv 0) (fun _ _=>rfl))))) jB)) (ZT cJ (jH ix_tup (pv 3) jC (fun _ _=>rfl)) (yL (pv 5)) pD)) (@jA _ _ _ _ _ (jH ix_tup (pv 3) jC (fun _ _=>rfl)) jB (by rfl)) (by rfl)) (by rfl))))
   (@jI _ _ _ _ _ (yG PassesOwn.never rfl (qY (ZT CV (pv 0) pD (yL jC))) (j7 (i:=7) vH.nd rfl (by first|exact Or.inl rfl|exact Or.inr rfl))
    (@jI _ _ _ _ _ (jT (i:=8) vH.nd rfl (by first|exact Or.inl rfl|exact Or.inr rfl) (jL D_may hr rfl (@jA _ _ _ _ _ (pv 1) (@jA _ _ _ _ _ (pv 2) (@jA _ _ _ _ _ (pv 3) jB (by rfl)) (by rfl)) (by rfl))))
   (@jI _ _ _ _ _ (jT (i:=9) vH.nd rfl (by first|exact Or.inl rfl|exact Or.inr rfl) (jL D_may hr rfl (@jA _ _ _ _ _ (pv 1) (@jA _ _ _ _ _ (pv 2) (@jA _ _ _ _ _ (pv 6) jB (by rfl)) (by rfl)) (by rfl))))
   (@jI _ _ _ _ _ (yG PassesOwn.never rfl (qY (pv 8)) (j7 (i:=10) vH.nd rfl (by first|exact Or.inl rfl|exact Or.inr rfl))
    (@jJ _ _ _ (kN (kB (BA hu1) (pv 10) (pv 9) (by with_unfolding_all rfl)) (@jJ _ _ _ (@jO _ _ _ _ yR)) kQ)))
   (@jI _ _ _ _ _ (kN (kB kR (kD kJ (by rfl) T.z_len PySem.boot_len (jA (pv 8) jB)) jC (j8 _)) (@jJ _ _ _ B3) kQ)
   (@jI _ _ _ _ _ (jT (i:=10) vH.nd rfl (by first|exact Or.inl rfl|exact Or.inr rfl) (jH kF (pv 8) (@jG _ _ _ _ _ _ _ _ zG (pv 7) (kD kJ (by rfl) T.z_len PySem.boot_len (jA (pv 8) jB))) (fun _ _=>rfl)))
   (gW (kN (kB kR (jH ix_tup (pv 10) jC (fun _ _=>rfl)) j3 (j8 _)) (@jJ _ _ _ (jT (i:=6) vH.nd rfl (by first|exact Or.inl rfl|exact Or.inr rfl) (jL D_after_night hr rfl (@jA _ _ _ _ _ (pv 1) (@jA _ _ _ _ _ (pv 6) (@jA _ _ _ _ _ (jL D__law_wetter_weather hr rfl (@jA _ _ _ _ _ (pv 0) (@jA _ _ _ _ _ (pv 1) (@jA _ _ _ _ _ (jH ix_tup (pv 3) jC (fun _ _=>rfl)) jB (by rfl)) (by rfl)) (by rfl))) jB (by rfl)) (by rfl)) (by rfl))))) (@jJ _ _ _ (jT (i:=6) vH.nd rfl (by first|exact Or.inl rfl|exact Or.inr rfl) (jL D_after hr rfl (@jA _ _ _ _ _ (pv 1) (@jA _ _ _ _ _ (pv 2) (@jA _ _ _ _ _ (pv 6) (@jA _ _ _ _ _ (pv 10) jB (by rfl)) (by rfl)) (by rfl)) (by rfl))))))
   (@jI _ _ _ _ _ (jT (i:=3) vH.nd rfl (by first|exact Or.inl rfl|exact Or.inr rfl) (jL D_after hr rfl (@jA _ _ _ _ _ (pv 1) (@jA _ _ _ _ _ (pv 2) (@jA _ _ _ _ _ (pv 3) (@jA _ _ _ _ _ (pv 10) jB (by rfl)) (by rfl)) (by rfl)) (by rfl))))
   (@jJ _ _ _ (kN (PW.pt (cO (D9 (zW (jL D__law_as_wet hr rfl (@jA _ _ _ _ _ (pv 1) (@jA _ _ _ _ _ (pv 6) (@jA _ _ _ _ _ (pv 3) jB (by rfl)) (by rfl)) (by rfl))))) (eM (kB BB (jL D_as_wet hr rfl (@jA _ _ _ _ _ (pv 1) (@jA _ _ _ _ _ (pv 6) (@jA _ _ _ _ _ (pv 3) jB (by rfl)) (by rfl)) (by rfl))) yR (j8 _))))) (@jJ _ _ _ (@jO _ _ _ _ yR)) kQ))))))))))
   (@jJ _ _ _ (@jO _ _ _ _ (zF EI (jL D_as_wet hr rfl (@jA _ _ _ _ _ (pv 1) (@jA _ _ _ _ _ (pv 6) (@jA _ _ _ _ _ (pv 3) jB (by rfl)) (by rfl)) (by rfl))) yR (j8 _))))))))))),?_⟩
 refine ⟨_,rfl,s,ns,4,3,2,rfl,hS,h63,by decide,by decide,by decide,by decide,by decide,fun x R L N H1 hdr hnN hr2 hl1 s1 hx0 hcn=>?_⟩
 have b1:=hdr.r8
 have b2:=hdr.l8
 have b3:=hdr.n6
 have hS1:=s1.seq hS
 refine ⟨_,rfl,s,ns,_,_,rfl,hS1,h63,by omega,by omega,by omega,fun m0 m00 m01=>?_⟩
 obtain ⟨n,hn⟩:∃n:Nat,m0=(n:Int):=⟨m0.toNat,by omega⟩
 subst hn
 refine ⟨_,rfl,by omega,by omega,fun wl hwl0=>?_⟩
 refine zA (n:=((n:Nat):Int).toNat) (caps:=[some (.ref s),some (.ref x)]) (fun i us Hi=>∃ys:List kA,AllAt (WyAt Hi) us ys∧ys.length=i∧∀y∈ys,WyOk L y) hwl0 ⟨[],AllAt.nil,rfl,fun y hy=>by cases hy⟩ ?_ ?_
 ·rintro i us Hi hi hle sm hY ⟨ys,hA,hyl,hok⟩
  rw [Int.toNat_natCast] at hi
  rw [Int.zero_add]
  refine qT (kI ⟨_,rfl,_,rfl,_,rfl,s,x,ns,i,3,_,R,L,N,rfl,sm.seq hS1,h63,by omega,by decide,by decide,hcn.same sm,hdr,hl1,fun t y H' hyo hy3 s' ht0 hwy=>vA hwl0 sm hY hle (by omega) s' ?_⟩)
  refine ⟨ys++[y],((hA.mono (WyAt.same s')).snoc hwy).mono (WyAt.put (s' _ _ hY)),by rw [List.length_append,hyl];rfl,fun y' hy'=>?_⟩
  rcases List.mem_append.mp hy' with h|h
  ·exact hok y' h
  ·rw [List.mem_singleton.mp h];exact hyo
 rintro us H2 s2 hwl hle2 ⟨ys,hA,hyl,hok⟩
 rw [Int.toNat_natCast] at hyl
 have hcn2:=hcn.same s2
 have eul:us.length=ys.length:=hA.1
 refine ⟨_,rfl,_,rfl,x,wl,us,_,R,L,N,rfl,hcn2,hwl,by omega,by omega,by omega,zQ hdr,fun st wt zt H3 gs s3 hst0 hwt0 hSp hzt0=>?_⟩
 have hG:=xQ (hcn2.same s3) hdr (s3 _ _ hwl) (hA.mono (WyAt.same s3)) (by omega) hok hst0 hwt0 hzt0 hSp
 rw [pB hdr hSp] at hwt0
 have hmS:=hG.ml
 obtain ⟨mS,hmSe⟩:∃mS,mS=eS R L (vK R L.length):=⟨_,rfl⟩
 rw [← hmSe] at hG hwt0 hmS
 have hS3:=(s2.trans s3).seq hS1
 have hc3:=hcn2.same s3
 have hc30:=hc3
 obtain ⟨dx,rl,ll,nl,fs,rs,ls,nv,hx,hf,hrl,hll,hnl,hR,hL,hN,d1,d2,d3⟩:=hc30
 have mkG:∀(Hx:Hp) (st:Addr) (d:Int) (ms:List Int) (pl:List Nat),Same H3 Hx→StAt Hx st d ms pl→Fleet L ys pl→ms.length=R.length+2*L.length+2→Stage (jF cP cB cU) cR cN [] Hx x wl st us R L N ys d ms pl:=fun Hx st d ms pl sx h1 h2 h3=>⟨hG.cn.same sx,hdr,sx _ _ hG.wls,hG.wys.mono (WyAt.same sx),h1,h2,h3⟩
 refine ⟨_,rfl,j0 hx (T.clN) (T.nN_reaches) (hf.1) (⟨rl,_,rfl,.inl (SqL.of hrl),_,rfl,by omega,by rw [hR.1];omega,fun mo hmo0=>?_⟩)⟩
 refine zA (n:=((rs.length:Nat):Int).toNat) (caps:=[some (.ref s)]) (fun j zs _=>∃as:List Int,zs=as.map V.int∧as.length=j∧∀z∈as,0≤z) hmo0 ⟨[],rfl,rfl,fun z hz=>by cases hz⟩ ?_ ?_
 ·rintro j zs Hj hj hle sj hY ⟨as,rfl,hal,ha0⟩
  rw [Int.toNat_natCast,hR.1] at hj
  rw [Int.zero_add]
  refine qT (kI ⟨_,rfl,_,rfl,jU (⟨s,ns,_,rfl,sj.seq hS3,h63,by omega,by omega,fun z hz=>vA hmo0 sj hY hle (by omega) (Same.refl _) ⟨as++[z],by rw [List.map_append];rfl,by rw [List.length_append,hal];rfl,fun w hw=>?_⟩⟩)⟩)
  rcases List.mem_append.mp hw with h|h
  ·exact ha0 w h
  ·rw [List.mem_singleton.mp h];exact hz
 rintro zs H4 s4 hmo hlem ⟨as,rfl,hal,ha0⟩
 rw [Int.toNat_natCast,hR.1] at hal
 refine ⟨_,rfl,j0 ((s4 _ _ hx)) (T.clN) (T.nN_reaches) (hf.1) (⟨rl,_,rfl,.inl (SqL.of (s4 _ _ hrl)),?_⟩)⟩
 rw [hR.1]
 refine ⟨_,rfl,_,rfl,by omega,by omega,fun cp hcp0=>?_⟩
 refine zA (n:=((R.length:Nat):Int).toNat) (caps:=[some (.ref mo),some (.ref st)]) (fun j zs _=>zs=((List.range j).map fun (i:Nat)=>mS.getD i 0+as.getD i 0).map V.int) hcp0 rfl ?_ ?_
 ·rintro j zs Hj hj hle sj hY rfl
  rw [Int.toNat_natCast] at hj
  rw [Int.zero_add]
  have s4j:=s4.trans sj
  refine qT (kI ⟨_,rfl,jM (SqT.of (s4j _ _ hst0)) rfl (⟨_,rfl,jM (SqT.of (s4j _ _ hwt0)) (qF (by omega)) (⟨_,rfl,_,rfl,kL (SqL.of (sj _ _ hmo)) (qF (by omega)) (jU (vA hcp0 sj hY hle (by omega) (Same.refl _) ?_))⟩)⟩)⟩)
  rw [List.range_succ,List.map_append,List.map_append]
  rfl
 rintro zs H5 s5 hcp hlec rfl
 rw [Int.toNat_natCast] at hcp
 have s35:=s4.trans s5
 refine ⟨cp,_,rfl,.inl ⟨SqL.of hcp,fun t1 ht10=>?_⟩⟩
 have s6:=jK ht10 (.tup (((List.range R.length).map fun (i:Nat)=>mS.getD i 0+as.getD i 0).map V.int))
 have ht1:upd H5 t1 (.tup (((List.range R.length).map fun (i:Nat)=>mS.getD i 0+as.getD i 0).map V.int)) t1=_:=jE
 generalize upd H5 t1 (.tup (((List.range R.length).map fun (i:Nat)=>mS.getD i 0+as.getD i 0).map V.int))=H6 at s6 ht1 ⊢
 have s36:=s35.trans s6
 refine ⟨_,rfl,jM (SqT.of (s36 _ _ hst0)) rfl (⟨_,rfl,_,rfl,wt,_,rfl,SqT.of (s36 _ _ hwt0),cM (by omega) (by omega),fun t2 ht20=>?_⟩)⟩
 rw [CN (by omega)]
 have s7:=jK ht20 (.tup ((mS.drop R.length).map V.int))
 have ht2:upd H6 t2 (.tup ((mS.drop R.length).map V.int)) t2=_:=jE
 generalize upd H6 t2 (.tup ((mS.drop R.length).map V.int))=H7 at s7 ht2 ⊢
 have s37:=s36.trans s7
 refine ⟨t1,t2,_,_,rfl,rfl,SqT.of (s7 _ _ ht1),SqT.of ht2,?_,small (by rw [List.length_map,List.length_map,List.length_map,List.length_range,List.length_drop];omega),?_,fun _ t3 ht30=>?_⟩
 ·exact fun z=>by have:=congrArg List.length z;rw [List.length_map,List.length_map,List.length_range] at this;change R.length=0 at this;omega
 ·exact fun z=>by have:=congrArg List.length z;rw [List.length_map,List.length_drop] at this;change _=0 at this;omega
 rw [← List.map_append]
 have hW0:=AV hmS hal ha0
 generalize ((List.range R.length).map fun (i:Nat)=>mS.getD i 0+as.getD i 0)++mS.drop R.length=mW at hW0 ⊢
 have s8:=jK ht30 (.tup (mW.map V.int))
 have ht3:upd H7 t3 (.tup (mW.map V.int)) t3=_:=jE
 generalize upd H7 t3 (.tup (mW.map V.int))=H8 at s8 ht3 ⊢
 have s38:=s37.trans s8
 refine ⟨_,rfl,jM (SqT.of (s38 _ _ hst0)) rfl (⟨zz3,fun we0 hwe0=>?_⟩)⟩
 have s9:=jK hwe0 (.tup [V.int 0,V.ref t3,V.ref zt])
 have hwe:upd H8 we0 (.tup [V.int 0,V.ref t3,V.ref zt]) we0=_:=jE
 generalize upd H8 we0 (.tup [V.int 0,V.ref t3,V.ref zt])=H9 at s9 hwe ⊢
 have s39:=s38.trans s9
 have hweS:StAt H9 we0 0 mW (List.replicate ys.length 0):=⟨t3,zt,hwe,s9 _ _ ht3,by rw [s39 _ _ hzt0,eul,List.map_replicate];rfl⟩
 refine ⟨_,rfl,40,rfl,s,_,rfl,s39.seq hS3,fun sl hsl0=>?_⟩
 have s10:=jK hsl0 (.lst (kT (ns.map V.int) none (some 40)))
 have hsl:upd H9 sl (.lst (kT (ns.map V.int) none (some 40))) sl=_:=jE
 generalize upd H9 sl (.lst (kT (ns.map V.int) none (some 40)))=H10 at s10 hsl ⊢
 obtain ⟨zz,ezz,hzl⟩:=nH ns none (some 40)
 rw [ezz] at hsl
 have s310:=s39.trans s10
 refine ⟨sl,rfl,⟨_,SqL.of hsl⟩,BL (K:=K) (a:=sl) (xs:=zz.map V.int) (fun i σ Hi=>∃(st we:Addr) (d:Int) (ms ms':List Int) (pl:List Nat) (c1 c2 c3 c4:Option V),σ=[some (.ref s),some (.ref x),some (.ref wl),some (.ref st),some (.ref mo),some (.int (R.length:Int)),some (.ref we),c1,c2,c3,c4]∧StAt Hi st d ms pl∧StAt Hi we d ms' pl∧Fleet L ys pl∧0≤d∧ms.length=R.length+2*L.length+2∧Wet R L ms ms'∧Same H10 Hi)
  ⟨st,we0,0,mS,mW,List.replicate ys.length 0,none,none,none,none,rfl,hG.sts.same s310,hweS.same s10,hG.fl,Int.le_refl _,hmS,hW0,Same.refl _⟩ (fun i σ Hi _ ⟨_,_,_,_,_,_,_,_,_,_,_,_,_,_,_,_,_,sm⟩=>SqL.of (sm _ _ hsl)) ?_ ?_⟩
 ·rintro i σ Hi hile ⟨st,we,d,ms,ms',pl,c1,c2,c3,c4,rfl,hst,hwe,hfl,hd0,hml,hW,sm⟩
  have smc:=s310.trans sm
  refine ⟨_,rfl,_,rfl,_,rfl,x,we,st,d,d,ms',ms,_,_,_,R,L,N,rfl,hG.cn.same smc,hwe.toI,hst.toI,by omega,by omega,by omega,by rw [hW.len];omega,by omega,fun H' s'=>?_⟩
  rw [gQ hdr hml hW]
  exact ⟨_,_,rfl,rfl,q _⟩
 ·intro fin i v σ Hi hv ⟨st,we,d,ms,ms',pl,c1,c2,c3,c4,e,hst,hwe,hfl,hd0,hml,hW,sm⟩
  subst e
  obtain ⟨ce,rfl,hce⟩:=CI hv
  have hi:=(List.getElem?_eq_some_iff.mp hce).1
  have h10:=hfl.n10
  have smi:=s310.trans sm
  have hGi:=mkG Hi st _ _ _ smi hst hfl hml
  refine ⟨_,rfl,_,rfl,_,rfl,x,wl,st,us,ys,d,ms,pl,_,R,L,N,rfl,hGi,fun so zo Ha sa hso0 hso hZo=>?_⟩
  have hGw:=mkG Ha we _ _ _ (smi.trans sa) (hwe.same sa) hfl (by rw [hW.len];exact hml)
  refine ⟨_,rfl,_,rfl,_,rfl,x,wl,we,us,ys,d,ms',pl,_,R,L,N,rfl,hGw,fun ot bF Hb sb hot0 hot hZt=>?_⟩
  have sab:=sa.trans sb
  have hZo:=hZo.mono (DdAt.same sb)
  have hso:=sb _ _ hso
  refine ⟨_,rfl,so,rfl,⟨_,SqL.of hso⟩,bZ (K:=K) (a:=so) (xs:=zo) (fun j σ Hj=>∃c:Option V,σ=[some (.ref s),some (.ref x),some (.ref wl),some (.ref st),some (.ref mo),some (.int (R.length:Int)),some (.ref we),some (.int ce),some (.ref so),some (.ref ot),c]∧Hj=Hb) ⟨c4,rfl,rfl⟩ (fun j σ Hj _ ⟨_,_,e⟩=>by rw [e];exact SqL.of hso) ?_ ?_⟩
  ·rintro j v σ Hj hv ⟨c,rfl,rfl⟩
   obtain ⟨de,hde,td,rfl,htd⟩:=hZo.2 j v hv
   have hmem:=List.mem_of_getElem? hde
   have hdi:=(List.mem_filter.mp hmem).1
   have hw:qP R L N.length ys d ms pl de="":=of_decide_eq_true (List.mem_filter.mp hmem).2
   have hw':=oX hdr hml hW (fR hdi) hw
   refine ⟨_,rfl,_,rfl,ot,bF,bG Hj td de,rfl,SqL.of hot,fun z hz=>?_,_,rfl,?_⟩
   ·obtain ⟨m,hm,em⟩:=List.mem_iff_getElem.mp hz
    obtain ⟨da,_,b,e,hb⟩:=hZt.2 m z (by rw [List.getElem?_eq_getElem hm,em])
    exact ⟨b,e,EW htd hb⟩
   rw [BU hZt (List.mem_filter.mpr ⟨hdi,decide_eq_true hw'⟩)]
   exact q8 ⟨_,rfl,rfl⟩
  rintro σ Hj ⟨c,rfl,rfl⟩
  refine ⟨_,rfl,so,_,rfl,.inl (SqL.of hso),rfl,_,rfl,?_⟩
  by_cases hz:zo.length=0
  ·refine qD (by rw [hz];rfl) (fin i _ _ (by rw [List.length_map];omega) ⟨st,we,d,ms,ms',pl,_,_,_,_,rfl,hst.same sab,hwe.same sab,hfl,hd0,hml,hW,sm.trans sab⟩)
  refine kM (fun z=>hz (by have:=V.int.inj z;omega)) ?_
  have hl0:(0:Int)<((zo.length:Nat):Int):=by omega
  obtain ⟨j,ej,lj⟩:=fW (a:=ce) hl0
  have lj:j<zo.length:=by omega
  obtain ⟨de,hde,td,htd1,htd⟩:=hZo.2 j _ (List.getElem?_eq_getElem lj)
  have hmem:=List.mem_of_getElem? hde
  have hdi:=fR (List.mem_filter.mp hmem).1
  have hw:qP R L N.length ys d ms pl de="":=of_decide_eq_true (List.mem_filter.mp hmem).2
  have hw':=oX hdr hml hW hdi hw
  refine ⟨_,rfl,_,rfl,_,rfl,so,_,rfl,.inl (SqL.of hso),_,_,rfl,rfl,hl0,?_⟩
  try dsimp only
  rw [ej]
  refine (kL (SqL.of hso) (kX (v:=.ref td) (by rw [List.getElem?_eq_getElem lj,htd1])) (?_))
  have smb:=sm.trans sab
  have hGd:=mkG Hj st _ _ _ (s310.trans smb) (hst.same sab) hfl hml
  have hGw:=mkG Hj we _ _ _ (s310.trans smb) (hwe.same sab) hfl (by rw [hW.len];exact hml)
  have hstb:=hst.same sab
  have hweb:=hwe.same sab
  refine ⟨fun σ' Hk=>∃(w2:Addr) (m2:List Int),σ'=[some (.ref s),some (.ref x),some (.ref wl),some (.ref st),some (.ref mo),some (.int (R.length:Int)),some (.ref w2),some (.int ce),some (.ref so),some (.ref ot),some (.ref td)]∧StAt Hk w2 (bC d de) m2 (JX pl de)∧(∀gs,Spl (j4 R L.length) (jX ms (vM R L N ys d ms pl de)) gs→Wet R L (jX ms (vV R L N ys d ms pl de gs)) m2)∧Same Hj Hk,?_,?_⟩
  ·cases de with
   |night =>
    have hdN:d<(N.length:Int):=by
     change (if d<(N.length:Int) then ("":Str) else "over")="" at hw
     by_cases h:d<(N.length:Int)
     ·exact h
     ·rw [if_neg h] at hw;exact absurd hw (by decide +kernel)
    obtain ⟨dn,hdn⟩:∃dn:Nat,d=(dn:Int):=⟨d.toNat,by omega⟩
    subst hdn
    obtain ⟨w1,p1,f1,f2,f3⟩:=id hstb
    refine ⟨_,rfl,jM (SqT.of htd) rfl (⟨rfl,_,rfl,qD rfl ?_⟩)⟩
    refine ⟨_,rfl,_,rfl,_,rfl,_,rfl,_,rfl,jM (SqT.of f1) rfl (⟨s,x,ns,dn,_,R,L,N,rfl,(s310.trans smb).seq hS3,h63,hGd.cn,hdr,hnN,by omega,fun wn un W Hk hWl hWW sk hwn hQ=>?_⟩)⟩
    refine ⟨x,we,wn,_,ms',_,un,W,_,R,L,N,rfl,hGw.cn.same sk,hweb.toI.same sk,hwn,hQ,hWl,by rw [hW.len];exact hml,by omega,by omega,zQ hdr,fun r Hm gs' s' hr0 hst' hSp'=>⟨r,_,rfl,?_,fun gs hgs=>x0 hdr hml hW hWW hgs hSp',sk.trans s'⟩⟩
    obtain ⟨w3,p3,e1,e2,e3⟩:=hst'
    exact ⟨w3,p3,e1,e2,by rw [List.map_map] at e3;exact e3⟩
   |pass b =>
    refine ⟨_,rfl,jM (SqT.of htd) rfl (⟨rfl,_,rfl,kM (fun e=>absurd (V.str.inj e) (by decide +kernel)) ?_⟩)⟩
    exact ⟨_,rfl,_,rfl,_,rfl,_,rfl,x,wl,we,td,_,us,ys,d,ms',pl,_,R,L,N,rfl,hGw,htd,hdi,hd0,hw',fun r Hk gs' sk hr0 hr hSp'=>⟨r,_,rfl,hr,fun gs hgs=>oY hdr hml hW (fun z=>nomatch z) hgs hSp',sk⟩⟩
   |«let» k =>
    refine ⟨_,rfl,jM (SqT.of htd) rfl (⟨rfl,_,rfl,kM (fun e=>absurd (V.str.inj e) (by decide +kernel)) ?_⟩)⟩
    exact ⟨_,rfl,_,rfl,_,rfl,_,rfl,x,wl,we,td,_,us,ys,d,ms',pl,_,R,L,N,rfl,hGw,htd,hdi,hd0,hw',fun r Hk gs' sk hr0 hr hSp'=>⟨r,_,rfl,hr,fun gs hgs=>oY hdr hml hW (fun z=>nomatch z) hgs hSp',sk⟩⟩
  rintro σ' Hk ⟨w2,m2,rfl,hw2,hWet2,sk⟩
  have hGk:=hGd.same sk
  refine ⟨_,rfl,_,rfl,_,rfl,_,rfl,x,wl,st,td,de,us,ys,d,ms,pl,_,R,L,N,rfl,hGk,sk _ _ htd,hdi,hd0,hw,fun st' Hf gs2 sf hst0' hst' hSp2=>?_⟩
  have hW2:=hWet2 gs2 hSp2
  have hm2:(jX ms (vV R L N ys d ms pl de gs2)).length=R.length+2*L.length+2:=by rw [vB];exact hml
  have hfl':=CJ (de:=de) hfl hw
  generalize jX ms (vV R L N ys d ms pl de gs2)=md at hW2 hm2 hst' ⊢
  have skf:=sk.trans sf
  have smf:=(s310.trans smb).trans skf
  have hw2f:=hw2.same sf
  refine ⟨_,rfl,_,rfl,_,rfl,x,w2,st',_,md,m2,_,_,R,L,N,rfl,hG.cn.same smf,hdr,hw2f.toI,hst'.toI,hm2,hW2,fun Hg sg=>⟨_,rfl,q8 ?_⟩⟩
  refine ⟨_,rfl,_,rfl,_,rfl,x,w2,st',_,_,m2,md,_,_,_,R,L,N,rfl,(hG.cn.same smf).same sg,hw2f.toI.same sg,hst'.toI.same sg,by omega,by omega,by omega,by rw [hW2.len];omega,by omega,fun Hh sh=>?_⟩
  rw [gQ hdr hm2 hW2]
  refine ⟨_,_,rfl,rfl,_,rfl,?_⟩
  refine q8 ⟨st',w2,bC d de,md,m2,JX pl de,_,_,_,_,rfl,(hst'.same sg).same sh,(hw2f.same sg).same sh,hfl',EX hd0 de,hm2,hW2,((smb.trans skf).trans sg).trans sh⟩
end
theorem all_mk {l:W.OpenLaw} {w:World} {K:W.Frag} {h:Heap} {mg:Str→Option Value} {fa f0 f1 f2 f3 f4 f5 f6 f7 f8 f9 f10 f11 f12 f13 f14 f15 f16 f17 f18 f19 f20 f21 f22 f23 f24 f25 f26 f27 f28 f29 f30 f31 f32 f33 f34 f35 f36 f37 f38 f39 f40 f41 f42 f43 f44 f45 f46 f47 f48 f49 f50 f51 f52 f53 f54 f55 f56 f57 f58 f59 f60 f61 f62 f63 f64 f65 f66 f67:Addr} {cP cB cU:Addr} {cR:Addr} {cN:Addr} {dn0:Nat} {tkS:Tok} {eW eL:Addr} {tkH:Tok} (X:K.In h) (G:h.Ns mainGlobals mg) (hfa:mg "law"=some (.ref fa))
 {od0 an0 od1 an1 od2 an2 od3 an3 od4 an4 od5 an5 od6 an6 od7 an7 od8 an8 od9 an9 od10 an10 od11 an11 od12 an12 od13 an13 od14 an14 od15 an15 od16 an16 od17 an17 od18 an18 od19 an19 od20 an20 od21 an21 od22 an22 od23 an23 od24 an24 od25 an25 od26 an26 od27 an27 od28 an28 od29 an29 od30 an30 od31 an31 od32 an32 od33 an33 od34 an34 od35 an35 od36 an36 od37 an37 od38 an38 od39 an39 od40 an40 od41 an41 od42 an42 od43 an43 od44 an44 od45 an45 od46 an46 od47 an47 od48 an48 od49 an49 od50 an50 od51 an51 od52 an52 od53 an53 od54 an54 od55 an55 od56 an56 od57 an57 od58 an58 od59 an59 od60 an60 od61 an61 od62 an62 od63 an63 od64 an64 od65 an65 od66 an66 od67 an67:Option Addr} {sl0 sl1 sl2 sl3 sl4 sl5 sl6 sl7 sl8 sl9 sl10 sl11 sl12 sl13 sl14 sl15 sl16 sl17 sl18 sl19 sl20 sl21 sl22 sl23 sl24 sl25 sl26 sl27 sl28 sl29 sl30 sl31 sl32 sl33 sl34 sl35 sl36 sl37 sl38 sl39 sl40 sl41 sl42 sl43 sl44 sl45 sl46 sl47 sl48 sl49 sl50 sl51 sl52 sl53 sl54 sl55 sl56 sl57 sl58 sl59 sl60 sl61 sl62 sl63 sl64 sl65 sl66 sl67:Array (Option Value)} {oc0 kV0 dc0 pm0 cd0 ct0 oc1 kV1 dc1 pm1 cd1 ct1 oc2 kV2 dc2 pm2 cd2 ct2 oc3 kV3 dc3 pm3 cd3 ct3 oc4 kV4 dc4 pm4 cd4 ct4 oc5 kV5 dc5 pm5 cd5 ct5 oc6 kV6 dc6 pm6 cd6 ct6 oc7 kV7 dc7 pm7 cd7 ct7 oc8 kV8 dc8 pm8 cd8 ct8 oc9 kV9 dc9 pm9 cd9 ct9 oc10 kV10 dc10 pm10 cd10 ct10 oc11 kV11 dc11 pm11 cd11 ct11 oc12 kV12 dc12 pm12 cd12 ct12 oc13 kV13 dc13 pm13 cd13 ct13 oc14 kV14 dc14 pm14 cd14 ct14 oc15 kV15 dc15 pm15 cd15 ct15 oc16 kV16 dc16 pm16 cd16 ct16 oc17 kV17 dc17 pm17 cd17 ct17 oc18 kV18 dc18 pm18 cd18 ct18 oc19 kV19 dc19 pm19 cd19 ct19 oc20 kV20 dc20 pm20 cd20 ct20 oc21 kV21 dc21 pm21 cd21 ct21 oc22 kV22 dc22 pm22 cd22 ct22 oc23 kV23 dc23 pm23 cd23 ct23 oc24 kV24 dc24 pm24 cd24 ct24 oc25 kV25 dc25 pm25 cd25 ct25 oc26 kV26 dc26 pm26 cd26 ct26 oc27 kV27 dc27 pm27 cd27 ct27 oc28 kV28 dc28 pm28 cd28 ct28 oc29 kV29 dc29 pm29 cd29 ct29 oc30 kV30 dc30 pm30 cd30 ct30 oc31 kV31 dc31 pm31 cd31 ct31 oc32 kV32 dc32 pm32 cd32 ct32 oc33 kV33 dc33 pm33 cd33 ct33 oc34 kV34 dc34 pm34 cd34 ct34 oc35 kV35 dc35 pm35 cd35 ct35 oc36 kV36 dc36 pm36 cd36 ct36 oc37 kV37 dc37 pm37 cd37 ct37 oc38 kV38 dc38 pm38 cd38 ct38 oc39 kV39 dc39 pm39 cd39 ct39 oc40 kV40 dc40 pm40 cd40 ct40 oc41 kV41 dc41 pm41 cd41 ct41 oc42 kV42 dc42 pm42 cd42 ct42 oc43 kV43 dc43 pm43 cd43 ct43 oc44 kV44 dc44 pm44 cd44 ct44 oc45 kV45 dc45 pm45 cd45 ct45 oc46 kV46 dc46 pm46 cd46 ct46 oc47 kV47 dc47 pm47 cd47 ct47 oc48 kV48 dc48 pm48 cd48 ct48 oc49 kV49 dc49 pm49 cd49 ct49 oc50 kV50 dc50 pm50 cd50 ct50 oc51 kV51 dc51 pm51 cd51 ct51 oc52 kV52 dc52 pm52 cd52 ct52 oc53 kV53 dc53 pm53 cd53 ct53 oc54 kV54 dc54 pm54 cd54 ct54 oc55 kV55 dc55 pm55 cd55 ct55 oc56 kV56 dc56 pm56 cd56 ct56 oc57 kV57 dc57 pm57 cd57 ct57 oc58 kV58 dc58 pm58 cd58 ct58 oc59 kV59 dc59 pm59 cd59 ct59 oc60 kV60 dc60 pm60 cd60 ct60 oc61 kV61 dc61 pm61 cd61 ct61 oc62 kV62 dc62 pm62 cd62 ct62 oc63 kV63 dc63 pm63 cd63 ct63 oc64 kV64 dc64 pm64 cd64 ct64 oc65 kV65 dc65 pm65 cd65 ct65 oc66 kV66 dc66 pm66 cd66 ct66 oc67 kV67 dc67 pm67 cd67 ct67:Value}
 {T17:Addr} {oT17:Obj}
  (aC_P:W.nsIn K mainGlobals "PlainLock"=some (some (.ref cP)))
  (aC_B:W.nsIn K mainGlobals "BasinLock"=some (some (.ref cB)))
  (aC_U:W.nsIn K mainGlobals "PumpLock"=some (some (.ref cU)))
  (aC_R:W.nsIn K mainGlobals "Reach"=some (some (.ref cR)))
  (aC_N:W.nsIn K mainGlobals "Canal"=some (some (.ref cN)))
  (aX_NotNow:W.nsIn K mainGlobals "NotNow"=some (some (.ref eW)))
  (aX_NotLinked:W.nsIn K mainGlobals "NotLinked"=some (some (.ref eL)))
  (a0:W.nsIn K mainGlobals "poured_all"=some (some (.ref f0)))
  (l0:K.lookup f0=some ⟨oc0,od0,.func (W.fnOf "poured_all" "poured_all" (jR ZG) (jP ZG) (jD ZG) .none kV0 dc0 pm0 an0 cd0 ct0),sl0⟩)
  (c0:W.codeIn K cd0 "poured_all"=true)
  (k0:W.keepIn K (.ref f0)=true)
  (a1:W.nsIn K mainGlobals "over"=some (some (.ref f1)))
  (l1:K.lookup f1=some ⟨oc1,od1,.func (W.fnOf "over" "over" (jR ZD) (jP ZD) (jD ZD) .none kV1 dc1 pm1 an1 cd1 ct1),sl1⟩)
  (c1:W.codeIn K cd1 "over"=true)
  (k1:W.keepIn K (.ref f1)=true)
  (a2:W.nsIn K mainGlobals "last_first"=some (some (.ref f2)))
  (l2:K.lookup f2=some ⟨oc2,od2,.func (W.fnOf "last_first" "last_first" (jR Q8) (jP Q8) (jD Q8) .none kV2 dc2 pm2 an2 cd2 ct2),sl2⟩)
  (c2:W.codeIn K cd2 "last_first"=true)
  (k2:W.keepIn K (.ref f2)=true)
  (a3:W.nsIn K mainGlobals "spills"=some (some (.ref f3)))
  (l3:K.lookup f3=some ⟨oc3,od3,.func (W.fnOf "spills" "spills" (jR ZK) (jP ZK) (jD ZK) .none kV3 dc3 pm3 an3 cd3 ct3),sl3⟩)
  (c3:W.codeIn K cd3 "spills"=true)
  (k3:W.keepIn K (.ref f3)=true)
  (a4:W.nsIn K mainGlobals "spill_pours"=some (some (.ref f4)))
  (l4:K.lookup f4=some ⟨oc4,od4,.func (W.fnOf "spill_pours" "spill_pours" (jR JS) (jP JS) (jD JS) .none kV4 dc4 pm4 an4 cd4 ct4),sl4⟩)
  (c4:W.codeIn K cd4 "spill_pours"=true)
  (k4:W.keepIn K (.ref f4)=true)
  (a5:W.nsIn K mainGlobals "settled"=some (some (.ref f5)))
  (l5:K.lookup f5=some ⟨oc5,od5,.func (W.fnOf "settled" "settled" (jR ZJ) (jP ZJ) (jD ZJ) .none kV5 dc5 pm5 an5 cd5 ct5),sl5⟩)
  (c5:W.codeIn K cd5 "settled"=true)
  (k5:W.keepIn K (.ref f5)=true)
  (a6:W.nsIn K mainGlobals "with_spills"=some (some (.ref f6)))
  (l6:K.lookup f6=some ⟨oc6,od6,.func (W.fnOf "with_spills" "with_spills" (jR ZP) (jP ZP) (jD ZP) .none kV6 dc6 pm6 an6 cd6 ct6),sl6⟩)
  (c6:W.codeIn K cd6 "with_spills"=true)
  (k6:W.keepIn K (.ref f6)=true)
  (a7:W.nsIn K mainGlobals "parts_not_nought"=some (some (.ref f7)))
  (l7:K.lookup f7=some ⟨oc7,od7,.func (W.fnOf "parts_not_nought" "parts_not_nought" (jR JQ) (jP JQ) (jD JQ) .none kV7 dc7 pm7 an7 cd7 ct7),sl7⟩)
  (c7:W.codeIn K cd7 "parts_not_nought"=true)
  (k7:W.keepIn K (.ref f7)=true)
  (a8:W.findIn K (.ref cP) "__init__"=some (some (.ref f8)))
  (i8:W.isFn K (.ref f8)=true)
  (ac8:W.findCls K (.ref cP) (.type "type") "__init__"=some (.val (.ref f8)))
  (l8:K.lookup f8=some ⟨oc8,od8,.func (W.fnOf "__init__" "PlainLock.__init__" (jR QK) (jP QK) (jD QK) .none kV8 dc8 pm8 an8 cd8 ct8),sl8⟩)
  (c8:W.codeIn K cd8 "PlainLock.__init__"=true)
  (k8:W.keepIn K (.ref f8)=true)
  (a9:W.findIn K (.ref cB) "__init__"=some (some (.ref f9)))
  (i9:W.isFn K (.ref f9)=true)
  (l9:K.lookup f9=some ⟨oc9,od9,.func (W.fnOf "__init__" "BasinLock.__init__" (jR QB) (jP QB) (jD QB) .none kV9 dc9 pm9 an9 cd9 ct9),sl9⟩)
  (c9:W.codeIn K cd9 "BasinLock.__init__"=true)
  (k9:W.keepIn K (.ref f9)=true)
  (a10:W.findIn K (.ref cU) "__init__"=some (some (.ref f10)))
  (i10:W.isFn K (.ref f10)=true)
  (l10:K.lookup f10=some ⟨oc10,od10,.func (W.fnOf "__init__" "PumpLock.__init__" (jR QN) (jP QN) (jD QN) .none kV10 dc10 pm10 an10 cd10 ct10),sl10⟩)
  (c10:W.codeIn K cd10 "PumpLock.__init__"=true)
  (k10:W.keepIn K (.ref f10)=true)
  (a11:W.findIn K (.ref cR) "__init__"=some (some (.ref f11)))
  (i11:W.isFn K (.ref f11)=true)
  (l11:K.lookup f11=some ⟨oc11,od11,.func (W.fnOf "__init__" "Reach.__init__" (jR QP) (jP QP) (jD QP) .none kV11 dc11 pm11 an11 cd11 ct11),sl11⟩)
  (c11:W.codeIn K cd11 "Reach.__init__"=true)
  (k11:W.keepIn K (.ref f11)=true)
  (a12:W.findIn K (.ref cP) "fill_parts"=some (some (.ref f12)))
  (i12:W.isFn K (.ref f12)=true)
  (l12:K.lookup f12=some ⟨oc12,od12,.func (W.fnOf "fill_parts" "PlainLock.fill_parts" (jR QL) (jP QL) (jD QL) .none kV12 dc12 pm12 an12 cd12 ct12),sl12⟩)
  (c12:W.codeIn K cd12 "PlainLock.fill_parts"=true)
  (k12:W.keepIn K (.ref f12)=true)
  (a13:W.findIn K (.ref cB) "fill_parts"=some (some (.ref f13)))
  (i13:W.isFn K (.ref f13)=true)
  (l13:K.lookup f13=some ⟨oc13,od13,.func (W.fnOf "fill_parts" "BasinLock.fill_parts" (jR QC) (jP QC) (jD QC) .none kV13 dc13 pm13 an13 cd13 ct13),sl13⟩)
  (c13:W.codeIn K cd13 "BasinLock.fill_parts"=true)
  (k13:W.keepIn K (.ref f13)=true)
  (a14:W.findIn K (.ref cU) "fill_parts"=some (some (.ref f14)))
  (i14:W.isFn K (.ref f14)=true)
  (l14:K.lookup f14=some ⟨oc14,od14,.func (W.fnOf "fill_parts" "PumpLock.fill_parts" (jR QO) (jP QO) (jD QO) .none kV14 dc14 pm14 an14 cd14 ct14),sl14⟩)
  (c14:W.codeIn K cd14 "PumpLock.fill_parts"=true)
  (k14:W.keepIn K (.ref f14)=true)
  (a15:W.findIn K (.ref cP) "let_parts"=some (some (.ref f15)))
  (a15_U:W.findIn K (.ref cU) "let_parts"=some (some (.ref f15)))
  (i15:W.isFn K (.ref f15)=true)
  (l15:K.lookup f15=some ⟨oc15,od15,.func (W.fnOf "let_parts" "PlainLock.let_parts" (jR QM) (jP QM) (jD QM) .none kV15 dc15 pm15 an15 cd15 ct15),sl15⟩)
  (c15:W.codeIn K cd15 "PlainLock.let_parts"=true)
  (k15:W.keepIn K (.ref f15)=true)
  (a16:W.findIn K (.ref cB) "let_parts"=some (some (.ref f16)))
  (i16:W.isFn K (.ref f16)=true)
  (l16:K.lookup f16=some ⟨oc16,od16,.func (W.fnOf "let_parts" "BasinLock.let_parts" (jR QD) (jP QD) (jD QD) .none kV16 dc16 pm16 an16 cd16 ct16),sl16⟩)
  (c16:W.codeIn K cd16 "BasinLock.let_parts"=true)
  (k16:W.keepIn K (.ref f16)=true)
  (a17:W.findIn K (.ref cN) "__init__"=some (some (.ref f17)))
  (i17:W.isFn K (.ref f17)=true)
  (l17:K.lookup f17=some ⟨oc17,od17,.func (W.fnOf "__init__" "Canal.__init__" (jR JG) (jP JG) (jD JG) (.ref T17) kV17 dc17 pm17 an17 cd17 ct17),sl17⟩)
  (c17:W.codeIn K cd17 "Canal.__init__"=true)
  (k17:W.keepIn K (.ref f17)=true)
  (lT17:K.lookup T17=some oT17)
  (dT17:oT17.data=.seq ([.none]:List Value).toArray dn0)
  (a18:W.findIn K (.ref cN) "sea"=some (some (.ref f18)))
  (i18:W.isFn K (.ref f18)=true)
  (l18:K.lookup f18=some ⟨oc18,od18,.func (W.fnOf "sea" "Canal.sea" (jR QI) (jP QI) (jD QI) .none kV18 dc18 pm18 an18 cd18 ct18),sl18⟩)
  (c18:W.codeIn K cd18 "Canal.sea"=true)
  (k18:W.keepIn K (.ref f18)=true)
  (a19:W.findIn K (.ref cN) "sky"=some (some (.ref f19)))
  (i19:W.isFn K (.ref f19)=true)
  (l19:K.lookup f19=some ⟨oc19,od19,.func (W.fnOf "sky" "Canal.sky" (jR QJ) (jP QJ) (jD QJ) .none kV19 dc19 pm19 an19 cd19 ct19),sl19⟩)
  (c19:W.codeIn K cd19 "Canal.sky"=true)
  (k19:W.keepIn K (.ref f19)=true)
  (a20:W.findIn K (.ref cN) "many"=some (some (.ref f20)))
  (i20:W.isFn K (.ref f20)=true)
  (l20:K.lookup f20=some ⟨oc20,od20,.func (W.fnOf "many" "Canal.many" (jR QH) (jP QH) (jD QH) .none kV20 dc20 pm20 an20 cd20 ct20),sl20⟩)
  (c20:W.codeIn K cd20 "Canal.many"=true)
  (k20:W.keepIn K (.ref f20)=true)
  (a21:W.findIn K (.ref cN) "chamber"=some (some (.ref f21)))
  (i21:W.isFn K (.ref f21)=true)
  (l21:K.lookup f21=some ⟨oc21,od21,.func (W.fnOf "chamber" "Canal.chamber" (jR QF) (jP QF) (jD QF) .none kV21 dc21 pm21 an21 cd21 ct21),sl21⟩)
  (c21:W.codeIn K cd21 "Canal.chamber"=true)
  (k21:W.keepIn K (.ref f21)=true)
  (a22:W.findIn K (.ref cN) "basin"=some (some (.ref f22)))
  (i22:W.isFn K (.ref f22)=true)
  (l22:K.lookup f22=some ⟨oc22,od22,.func (W.fnOf "basin" "Canal.basin" (jR QE) (jP QE) (jD QE) .none kV22 dc22 pm22 an22 cd22 ct22),sl22⟩)
  (c22:W.codeIn K cd22 "Canal.basin"=true)
  (k22:W.keepIn K (.ref f22)=true)
  (a23:W.findIn K (.ref cN) "weirs"=some (some (.ref f23)))
  (i23:W.isFn K (.ref f23)=true)
  (l23:K.lookup f23=some ⟨oc23,od23,.func (W.fnOf "weirs" "Canal.weirs" (jR JI) (jP JI) (jD JI) .none kV23 dc23 pm23 an23 cd23 ct23),sl23⟩)
  (c23:W.codeIn K cd23 "Canal.weirs"=true)
  (k23:W.keepIn K (.ref f23)=true)
  (a24:W.findIn K (.ref cN) "start"=some (some (.ref f24)))
  (i24:W.isFn K (.ref f24)=true)
  (l24:K.lookup f24=some ⟨oc24,od24,.func (W.fnOf "start" "Canal.start" (jR JH) (jP JH) (jD JH) .none kV24 dc24 pm24 an24 cd24 ct24),sl24⟩)
  (c24:W.codeIn K cd24 "Canal.start"=true)
  (k24:W.keepIn K (.ref f24)=true)
  (a25:W.findIn K (.ref cN) "full"=some (some (.ref f25)))
  (i25:W.isFn K (.ref f25)=true)
  (l25:K.lookup f25=some ⟨oc25,od25,.func (W.fnOf "full" "Canal.full" (jR QG) (jP QG) (jD QG) .none kV25 dc25 pm25 an25 cd25 ct25),sl25⟩)
  (c25:W.codeIn K cd25 "Canal.full"=true)
  (k25:W.keepIn K (.ref f25)=true)
  (a26:W.nsIn K mainGlobals "filling"=some (some (.ref f26)))
  (l26:K.lookup f26=some ⟨oc26,od26,.func (W.fnOf "filling" "filling" (jR JL) (jP JL) (jD JL) .none kV26 dc26 pm26 an26 cd26 ct26),sl26⟩)
  (c26:W.codeIn K cd26 "filling"=true)
  (k26:W.keepIn K (.ref f26)=true)
  (a27:W.nsIn K mainGlobals "letting"=some (some (.ref f27)))
  (l27:K.lookup f27=some ⟨oc27,od27,.func (W.fnOf "letting" "letting" (jR JN) (jP JN) (jD JN) .none kV27 dc27 pm27 an27 cd27 ct27),sl27⟩)
  (c27:W.codeIn K cd27 "letting"=true)
  (k27:W.keepIn K (.ref f27)=true)
  (a28:W.nsIn K mainGlobals "given_by"=some (some (.ref f28)))
  (l28:K.lookup f28=some ⟨oc28,od28,.func (W.fnOf "given_by" "given_by" (jR JM) (jP JM) (jD JM) .none kV28 dc28 pm28 an28 cd28 ct28),sl28⟩)
  (c28:W.codeIn K cd28 "given_by"=true)
  (k28:W.keepIn K (.ref f28)=true)
  (a29:W.nsIn K mainGlobals "basin_after"=some (some (.ref f29)))
  (l29:K.lookup f29=some ⟨oc29,od29,.func (W.fnOf "basin_after" "basin_after" (jR JJ) (jP JJ) (jD JJ) .none kV29 dc29 pm29 an29 cd29 ct29),sl29⟩)
  (c29:W.codeIn K cd29 "basin_after"=true)
  (k29:W.keepIn K (.ref f29)=true)
  (a30:W.nsIn K mainGlobals "passage"=some (some (.ref f30)))
  (l30:K.lookup f30=some ⟨oc30,od30,.func (W.fnOf "passage" "passage" (jR ZF) (jP ZF) (jD ZF) .none kV30 dc30 pm30 an30 cd30 ct30),sl30⟩)
  (c30:W.codeIn K cd30 "passage"=true)
  (k30:W.keepIn K (.ref f30)=true)
  (a31:W.nsIn K mainGlobals "step_ends"=some (some (.ref f31)))
  (l31:K.lookup f31=some ⟨oc31,od31,.func (W.fnOf "step_ends" "step_ends" (jR ZL) (jP ZL) (jD ZL) .none kV31 dc31 pm31 an31 cd31 ct31),sl31⟩)
  (c31:W.codeIn K cd31 "step_ends"=true)
  (k31:W.keepIn K (.ref f31)=true)
  (a32:W.nsIn K mainGlobals "linked"=some (some (.ref f32)))
  (l32:K.lookup f32=some ⟨oc32,od32,.func (W.fnOf "linked" "linked" (jR ZA) (jP ZA) (jD ZA) .none kV32 dc32 pm32 an32 cd32 ct32),sl32⟩)
  (c32:W.codeIn K cd32 "linked"=true)
  (k32:W.keepIn K (.ref f32)=true)
  (a33:W.nsIn K mainGlobals "steps_to_do"=some (some (.ref f33)))
  (l33:K.lookup f33=some ⟨oc33,od33,.func (W.fnOf "steps_to_do" "steps_to_do" (jR ZM) (jP ZM) (jD ZM) .none kV33 dc33 pm33 an33 cd33 ct33),sl33⟩)
  (c33:W.codeIn K cd33 "steps_to_do"=true)
  (k33:W.keepIn K (.ref f33)=true)
  (a34:W.nsIn K mainGlobals "reach_of"=some (some (.ref f34)))
  (l34:K.lookup f34=some ⟨oc34,od34,.func (W.fnOf "reach_of" "reach_of" (jR ZI) (jP ZI) (jD ZI) .none kV34 dc34 pm34 an34 cd34 ct34),sl34⟩)
  (c34:W.codeIn K cd34 "reach_of"=true)
  (k34:W.keepIn K (.ref f34)=true)
  (a35:W.nsIn K mainGlobals "lying"=some (some (.ref f35)))
  (l35:K.lookup f35=some ⟨oc35,od35,.func (W.fnOf "lying" "lying" (jR JO) (jP JO) (jD JO) .none kV35 dc35 pm35 an35 cd35 ct35),sl35⟩)
  (c35:W.codeIn K cd35 "lying"=true)
  (k35:W.keepIn K (.ref f35)=true)
  (a36:W.nsIn K mainGlobals "begun"=some (some (.ref f36)))
  (l36:K.lookup f36=some ⟨oc36,od36,.func (W.fnOf "begun" "begun" (jR Q3) (jP Q3) (jD Q3) .none kV36 dc36 pm36 an36 cd36 ct36),sl36⟩)
  (c36:W.codeIn K cd36 "begun"=true)
  (k36:W.keepIn K (.ref f36)=true)
  (a37:W.nsIn K mainGlobals "night_pours"=some (some (.ref f37)))
  (l37:K.lookup f37=some ⟨oc37,od37,.func (W.fnOf "night_pours" "night_pours" (jR y7) (jP y7) (jD y7) .none kV37 dc37 pm37 an37 cd37 ct37),sl37⟩)
  (c37:W.codeIn K cd37 "night_pours"=true)
  (k37:W.keepIn K (.ref f37)=true)
  (a38:W.nsIn K mainGlobals "has_no_berth"=some (some (.ref f38)))
  (l38:K.lookup f38=some ⟨oc38,od38,.func (W.fnOf "has_no_berth" "has_no_berth" (jR Q6) (jP Q6) (jD Q6) .none kV38 dc38 pm38 an38 cd38 ct38),sl38⟩)
  (c38:W.codeIn K cd38 "has_no_berth"=true)
  (k38:W.keepIn K (.ref f38)=true)
  (a39:W.nsIn K mainGlobals "next_step"=some (some (.ref f39)))
  (l39:K.lookup f39=some ⟨oc39,od39,.func (W.fnOf "next_step" "next_step" (jR ZC) (jP ZC) (jD ZC) .none kV39 dc39 pm39 an39 cd39 ct39),sl39⟩)
  (c39:W.codeIn K cd39 "next_step"=true)
  (k39:W.keepIn K (.ref f39)=true)
  (a40:W.nsIn K mainGlobals "one_step_on"=some (some (.ref f40)))
  (l40:K.lookup f40=some ⟨oc40,od40,.func (W.fnOf "one_step_on" "one_step_on" (jR JP) (jP JP) (jD JP) .none kV40 dc40 pm40 an40 cd40 ct40),sl40⟩)
  (c40:W.codeIn K cd40 "one_step_on"=true)
  (k40:W.keepIn K (.ref f40)=true)
  (a41:W.nsIn K mainGlobals "counted_on"=some (some (.ref f41)))
  (l41:K.lookup f41=some ⟨oc41,od41,.func (W.fnOf "counted_on" "counted_on" (jR Q4) (jP Q4) (jD Q4) .none kV41 dc41 pm41 an41 cd41 ct41),sl41⟩)
  (c41:W.codeIn K cd41 "counted_on"=true)
  (k41:W.keepIn K (.ref f41)=true)
  (a42:W.nsIn K mainGlobals "by_number"=some (some (.ref f42)))
  (l42:K.lookup f42=some ⟨oc42,od42,.func (W.fnOf "by_number" "by_number" (jR JK) (jP JK) (jD JK) .none kV42 dc42 pm42 an42 cd42 ct42),sl42⟩)
  (c42:W.codeIn K cd42 "by_number"=true)
  (k42:W.keepIn K (.ref f42)=true)
  (a43:W.nsIn K mainGlobals "pass_pours"=some (some (.ref f43)))
  (l43:K.lookup f43=some ⟨oc43,od43,.func (W.fnOf "pass_pours" "pass_pours" (jR ZE) (jP ZE) (jD ZE) .none kV43 dc43 pm43 an43 cd43 ct43),sl43⟩)
  (c43:W.codeIn K cd43 "pass_pours"=true)
  (k43:W.keepIn K (.ref f43)=true)
  (a44:W.nsIn K mainGlobals "let_pours"=some (some (.ref f44)))
  (l44:K.lookup f44=some ⟨oc44,od44,.func (W.fnOf "let_pours" "let_pours" (jR Q9) (jP Q9) (jD Q9) .none kV44 dc44 pm44 an44 cd44 ct44),sl44⟩)
  (c44:W.codeIn K cd44 "let_pours"=true)
  (k44:W.keepIn K (.ref f44)=true)
  (a45:W.nsIn K mainGlobals "is_below_least"=some (some (.ref f45)))
  (l45:K.lookup f45=some ⟨oc45,od45,.func (W.fnOf "is_below_least" "is_below_least" (jR Q7) (jP Q7) (jD Q7) .none kV45 dc45 pm45 an45 cd45 ct45),sl45⟩)
  (c45:W.codeIn K cd45 "is_below_least"=true)
  (k45:W.keepIn K (.ref f45)=true)
  (a46:W.nsIn K mainGlobals "falls_short"=some (some (.ref f46)))
  (l46:K.lookup f46=some ⟨oc46,od46,.func (W.fnOf "falls_short" "falls_short" (jR Q5) (jP Q5) (jD Q5) .none kV46 dc46 pm46 an46 cd46 ct46),sl46⟩)
  (c46:W.codeIn K cd46 "falls_short"=true)
  (k46:W.keepIn K (.ref f46)=true)
  (a47:W.nsIn K mainGlobals "why_no_pass"=some (some (.ref f47)))
  (l47:K.lookup f47=some ⟨oc47,od47,.func (W.fnOf "why_no_pass" "why_no_pass" (jR ZN) (jP ZN) (jD ZN) .none kV47 dc47 pm47 an47 cd47 ct47),sl47⟩)
  (c47:W.codeIn K cd47 "why_no_pass"=true)
  (k47:W.keepIn K (.ref f47)=true)
  (a48:W.nsIn K mainGlobals "why_not"=some (some (.ref f48)))
  (l48:K.lookup f48=some ⟨oc48,od48,.func (W.fnOf "why_not" "why_not" (jR ZO) (jP ZO) (jD ZO) .none kV48 dc48 pm48 an48 cd48 ct48),sl48⟩)
  (c48:W.codeIn K cd48 "why_not"=true)
  (k48:W.keepIn K (.ref f48)=true)
  (a49:W.nsIn K mainGlobals "pours"=some (some (.ref f49)))
  (l49:K.lookup f49=some ⟨oc49,od49,.func (W.fnOf "pours" "pours" (jR ZH) (jP ZH) (jD ZH) .none kV49 dc49 pm49 an49 cd49 ct49),sl49⟩)
  (c49:W.codeIn K cd49 "pours"=true)
  (k49:W.keepIn K (.ref f49)=true)
  (a50:W.nsIn K mainGlobals "after"=some (some (.ref f50)))
  (l50:K.lookup f50=some ⟨oc50,od50,.func (W.fnOf "after" "after" (jR Q0) (jP Q0) (jD Q0) .none kV50 dc50 pm50 an50 cd50 ct50),sl50⟩)
  (c50:W.codeIn K cd50 "after"=true)
  (k50:W.keepIn K (.ref f50)=true)
  (a51:W.nsIn K mainGlobals "may"=some (some (.ref f51)))
  (l51:K.lookup f51=some ⟨oc51,od51,.func (W.fnOf "may" "may" (jR y6) (jP y6) (jD y6) .none kV51 dc51 pm51 an51 cd51 ct51),sl51⟩)
  (c51:W.codeIn K cd51 "may"=true)
  (k51:W.keepIn K (.ref f51)=true)
  (a52:W.nsIn K mainGlobals "after_night"=some (some (.ref f52)))
  (l52:K.lookup f52=some ⟨oc52,od52,.func (W.fnOf "after_night" "after_night" (jR Q1) (jP Q1) (jD Q1) .none kV52 dc52 pm52 an52 cd52 ct52),sl52⟩)
  (c52:W.codeIn K cd52 "after_night"=true)
  (k52:W.keepIn K (.ref f52)=true)
  (a53:W.nsIn K mainGlobals "locks_hold_the_same"=some (some (.ref f53)))
  (l53:K.lookup f53=some ⟨oc53,od53,.func (W.fnOf "locks_hold_the_same" "locks_hold_the_same" (jR ZB) (jP ZB) (jD ZB) .none kV53 dc53 pm53 an53 cd53 ct53),sl53⟩)
  (c53:W.codeIn K cd53 "locks_hold_the_same"=true)
  (k53:W.keepIn K (.ref f53)=true)
  (a54:W.nsIn K mainGlobals "reaches_hold_as_much"=some (some (.ref f54)))
  (l54:K.lookup f54=some ⟨oc54,od54,.func (W.fnOf "reaches_hold_as_much" "reaches_hold_as_much" (jR JR) (jP JR) (jD JR) .none kV54 dc54 pm54 an54 cd54 ct54),sl54⟩)
  (c54:W.codeIn K cd54 "reaches_hold_as_much"=true)
  (k54:W.keepIn K (.ref f54)=true)
  (a55:W.nsIn K mainGlobals "as_wet"=some (some (.ref f55)))
  (l55:K.lookup f55=some ⟨oc55,od55,.func (W.fnOf "as_wet" "as_wet" (jR Q2) (jP Q2) (jD Q2) .none kV55 dc55 pm55 an55 cd55 ct55),sl55⟩)
  (c55:W.codeIn K cd55 "as_wet"=true)
  (k55:W.keepIn K (.ref f55)=true)
  (a56:W.nsIn K mainGlobals "_law_draw"=some (some (.ref f56)))
  (l56:K.lookup f56=some ⟨oc56,od56,.func (W.fnOf "_law_draw" "_law_draw" (jR QR) (jP QR) (jD QR) .none kV56 dc56 pm56 an56 cd56 ct56),sl56⟩)
  (c56:W.codeIn K cd56 "_law_draw"=true)
  (k56:W.keepIn K (.ref f56)=true)
  (a57:W.nsIn K mainGlobals "_law_unit"=some (some (.ref f57)))
  (l57:K.lookup f57=some ⟨oc57,od57,.func (W.fnOf "_law_unit" "_law_unit" (jR QW) (jP QW) (jD QW) .none kV57 dc57 pm57 an57 cd57 ct57),sl57⟩)
  (c57:W.codeIn K cd57 "_law_unit"=true)
  (k57:W.keepIn K (.ref f57)=true)
  (a58:W.nsIn K mainGlobals "_law_reach"=some (some (.ref f58)))
  (l58:K.lookup f58=some ⟨oc58,od58,.func (W.fnOf "_law_reach" "_law_reach" (jR QU) (jP QU) (jD QU) .none kV58 dc58 pm58 an58 cd58 ct58),sl58⟩)
  (c58:W.codeIn K cd58 "_law_reach"=true)
  (k58:W.keepIn K (.ref f58)=true)
  (a59:W.nsIn K mainGlobals "_law_lock"=some (some (.ref f59)))
  (l59:K.lookup f59=some ⟨oc59,od59,.func (W.fnOf "_law_lock" "_law_lock" (jR QS) (jP QS) (jD QS) .none kV59 dc59 pm59 an59 cd59 ct59),sl59⟩)
  (c59:W.codeIn K cd59 "_law_lock"=true)
  (k59:W.keepIn K (.ref f59)=true)
  (a60:W.nsIn K mainGlobals "_law_weather"=some (some (.ref f60)))
  (l60:K.lookup f60=some ⟨oc60,od60,.func (W.fnOf "_law_weather" "_law_weather" (jR QY) (jP QY) (jD QY) .none kV60 dc60 pm60 an60 cd60 ct60),sl60⟩)
  (c60:W.codeIn K cd60 "_law_weather"=true)
  (k60:W.keepIn K (.ref f60)=true)
  (a61:W.nsIn K mainGlobals "_law_canal"=some (some (.ref f61)))
  (l61:K.lookup f61=some ⟨oc61,od61,.func (W.fnOf "_law_canal" "_law_canal" (jR y0) (jP y0) (jD y0) .none kV61 dc61 pm61 an61 cd61 ct61),sl61⟩)
  (c61:W.codeIn K cd61 "_law_canal"=true)
  (k61:W.keepIn K (.ref f61)=true)
  (a62:W.nsIn K mainGlobals "_law_turns"=some (some (.ref f62)))
  (l62:K.lookup f62=some ⟨oc62,od62,.func (W.fnOf "_law_turns" "_law_turns" (jR QV) (jP QV) (jD QV) .none kV62 dc62 pm62 an62 cd62 ct62),sl62⟩)
  (c62:W.codeIn K cd62 "_law_turns"=true)
  (k62:W.keepIn K (.ref f62)=true)
  (a63:W.nsIn K mainGlobals "_law_way"=some (some (.ref f63)))
  (l63:K.lookup f63=some ⟨oc63,od63,.func (W.fnOf "_law_way" "_law_way" (jR QX) (jP QX) (jD QX) .none kV63 dc63 pm63 an63 cd63 ct63),sl63⟩)
  (c63:W.codeIn K cd63 "_law_way"=true)
  (k63:W.keepIn K (.ref f63)=true)
  (a64:W.nsIn K mainGlobals "_law_more"=some (some (.ref f64)))
  (l64:K.lookup f64=some ⟨oc64,od64,.func (W.fnOf "_law_more" "_law_more" (jR QT) (jP QT) (jD QT) .none kV64 dc64 pm64 an64 cd64 ct64),sl64⟩)
  (c64:W.codeIn K cd64 "_law_more"=true)
  (k64:W.keepIn K (.ref f64)=true)
  (a65:W.nsIn K mainGlobals "_law_wetter_weather"=some (some (.ref f65)))
  (l65:K.lookup f65=some ⟨oc65,od65,.func (W.fnOf "_law_wetter_weather" "_law_wetter_weather" (jR QZ) (jP QZ) (jD QZ) .none kV65 dc65 pm65 an65 cd65 ct65),sl65⟩)
  (c65:W.codeIn K cd65 "_law_wetter_weather"=true)
  (k65:W.keepIn K (.ref f65)=true)
  (a66:W.nsIn K mainGlobals "_law_as_wet"=some (some (.ref f66)))
  (l66:K.lookup f66=some ⟨oc66,od66,.func (W.fnOf "_law_as_wet" "_law_as_wet" (jR QQ) (jP QQ) (jD QQ) .none kV66 dc66 pm66 an66 cd66 ct66),sl66⟩)
  (c66:W.codeIn K cd66 "_law_as_wet"=true)
  (k66:W.keepIn K (.ref f66)=true)
  (a67:W.nsIn K mainGlobals "law"=some (some (.ref f67)))
  (l67:K.lookup f67=some ⟨oc67,od67,.func (W.fnOf "law" "law" (jR v7) (jP v7) (jD v7) .none kV67 dc67 pm67 an67 cd67 ct67),sl67⟩)
  (c67:W.codeIn K cd67 "law"=true)
  (k67:W.keepIn K (.ref f67)=true)
  (z_list:W.nsIn K mainGlobals "list"=some none)
  (z_tuple:W.nsIn K mainGlobals "tuple"=some none)
  (z_max:W.nsIn K mainGlobals "max"=some none)
  (z_range:W.nsIn K mainGlobals "range"=some none)
  (z_len:W.nsIn K mainGlobals "len"=some none)
  (z_sum:W.nsIn K mainGlobals "sum"=some none)
  (z_zip:W.nsIn K mainGlobals "zip"=some none)
  (z_enumerate:W.nsIn K mainGlobals "enumerate"=some none)
  (z_min:W.nsIn K mainGlobals "min"=some none)
  (z_all:W.nsIn K mainGlobals "all"=some none)
  (z_int:W.nsIn K mainGlobals "int"=some none)
  (pg_P:W.plainGet K cP Str.empty=true)
  (hdd_P:W.hasDictIn K cP=true)
  (po_P:W.plainOver K cP=true)
  (sa_P:W.findIn K (.ref cP) "__setattr__"=some (some (.builtin "object.__setattr__")))
  (mk_P:W.makesIn K cP=true)
  (kc_P:W.keepIn K (.ref cP)=true)
  (n_name_P:W.findIn K (.ref cP) "name"=some none)
  (n_high_P:W.findIn K (.ref cP) "high"=some none)
  (n_low_P:W.findIn K (.ref cP) "low"=some none)
  (n_room_P:W.findIn K (.ref cP) "room"=some none)
  (pg_B:W.plainGet K cB Str.empty=true)
  (hdd_B:W.hasDictIn K cB=true)
  (po_B:W.plainOver K cB=true)
  (sa_B:W.findIn K (.ref cB) "__setattr__"=some (some (.builtin "object.__setattr__")))
  (mk_B:W.makesIn K cB=true)
  (kc_B:W.keepIn K (.ref cB)=true)
  (n_name_B:W.findIn K (.ref cB) "name"=some none)
  (n_high_B:W.findIn K (.ref cB) "high"=some none)
  (n_low_B:W.findIn K (.ref cB) "low"=some none)
  (n_room_B:W.findIn K (.ref cB) "room"=some none)
  (n_side_B:W.findIn K (.ref cB) "side"=some none)
  (pg_U:W.plainGet K cU Str.empty=true)
  (hdd_U:W.hasDictIn K cU=true)
  (po_U:W.plainOver K cU=true)
  (sa_U:W.findIn K (.ref cU) "__setattr__"=some (some (.builtin "object.__setattr__")))
  (mk_U:W.makesIn K cU=true)
  (kc_U:W.keepIn K (.ref cU)=true)
  (n_name_U:W.findIn K (.ref cU) "name"=some none)
  (n_high_U:W.findIn K (.ref cU) "high"=some none)
  (n_low_U:W.findIn K (.ref cU) "low"=some none)
  (n_room_U:W.findIn K (.ref cU) "room"=some none)
  (n_lift_U:W.findIn K (.ref cU) "lift"=some none)
  (g1:W.specialIn K (.ref cP) "__getattribute__"=some (some (.builtin "type.__getattribute__")))
  (g2:W.readsIn K cP (.type "type")=true)
  (pg_R:W.plainGet K cR Str.empty=true)
  (hdd_R:W.hasDictIn K cR=true)
  (po_R:W.plainOver K cR=true)
  (sa_R:W.findIn K (.ref cR) "__setattr__"=some (some (.builtin "object.__setattr__")))
  (mk_R:W.makesIn K cR=true)
  (kc_R:W.keepIn K (.ref cR)=true)
  (nR_name:W.findIn K (.ref cR) "name"=some none)
  (nR_least:W.findIn K (.ref cR) "least"=some none)
  (nR_crest:W.findIn K (.ref cR) "crest"=some none)
  (nR_berths:W.findIn K (.ref cR) "berths"=some none)
  (nR_water:W.findIn K (.ref cR) "water"=some none)
  (nR_target:W.findIn K (.ref cR) "target"=some none)
  (pg_N:W.plainGet K cN Str.empty=true)
  (hdd_N:W.hasDictIn K cN=true)
  (po_N:W.plainOver K cN=true)
  (sa_N:W.findIn K (.ref cN) "__setattr__"=some (some (.builtin "object.__setattr__")))
  (mk_N:W.makesIn K cN=true)
  (kc_N:W.keepIn K (.ref cN)=true)
  (nN_reaches:W.findIn K (.ref cN) "reaches"=some none)
  (nN_locks:W.findIn K (.ref cN) "locks"=some none)
  (nN_nights:W.findIn K (.ref cN) "nights"=some none)
  (gSEA:W.nsIn K mainGlobals "SEA"=some (some (.int (-1) tkS)))
  (xX_NotNow:W.excIn K eW [.type "ValueError",.type "Exception",.type "BaseException",.type "object"] "ValueError.__new__"=true)
  (xX_NotLinked:W.excIn K eL [.type "ValueError",.type "Exception",.type "BaseException",.type "object"] "ValueError.__new__"=true)
  (gHOME:W.nsIn K mainGlobals "HOME"=some (some (.int (-1) tkH))) :
  ∃fd:FuncData,(∀(s:Shared) (v:Value),BindsTo s fd ⟨[v],[]⟩ [("script",v)])∧∀base:Heap,K.In base→base.Ns mainGlobals mg→FnOk l.prog w K mg base jQ 14 fa fd ["script"] (eO K):=by
 have e:=hfa.symm.trans (W.mg_of X G a67)
 cases e
 have F0:=jW (st:=ZG) l0 c0 k0
 have b0:=F0.binds (ps:=["waters","pours"]) fun _ _ _ _ _ _ us hl=>match us,hl with|[_,_],_=>rfl
 have F1:=jW (st:=ZD) l1 c1 k1
 have b1:=F1.binds (ps:=["weirs","waters","at"]) fun _ _ _ _ _ _ us hl=>match us,hl with|[_,_,_],_=>rfl
 have F2:=jW (st:=Q8) l2 c2 k2
 have b2:=F2.binds (ps:=["weirs"]) fun _ _ _ _ _ _ us hl=>match us,hl with|[_],_=>rfl
 have F3:=jW (st:=ZK) l3 c3 k3
 have b3:=F3.binds (ps:=["weirs","waters"]) fun _ _ _ _ _ _ us hl=>match us,hl with|[_,_],_=>rfl
 have F4:=jW (st:=JS) l4 c4 k4
 have b4:=F4.binds (ps:=["weirs","waters"]) fun _ _ _ _ _ _ us hl=>match us,hl with|[_,_],_=>rfl
 have F5:=jW (st:=ZJ) l5 c5 k5
 have b5:=F5.binds (ps:=["weirs","waters"]) fun _ _ _ _ _ _ us hl=>match us,hl with|[_,_],_=>rfl
 have F6:=jW (st:=ZP) l6 c6 k6
 have b6:=F6.binds (ps:=["weirs","waters","pours"]) fun _ _ _ _ _ _ us hl=>match us,hl with|[_,_,_],_=>rfl
 have F7:=jW (st:=JQ) l7 c7 k7
 have b7:=F7.binds (ps:=["parts"]) fun _ _ _ _ _ _ us hl=>match us,hl with|[_],_=>rfl
 have F8:=jW (st:=QK) l8 c8 k8
 have b8:=F8.binds (ps:=["self","name","high","low","room"]) fun _ _ _ _ _ _ us hl=>match us,hl with|[_,_,_,_,_],_=>rfl
 have F9:=jW (st:=QB) l9 c9 k9
 have b9:=F9.binds (ps:=["self","name","high","low","room","side"]) fun _ _ _ _ _ _ us hl=>match us,hl with|[_,_,_,_,_,_],_=>rfl
 have F10:=jW (st:=QN) l10 c10 k10
 have b10:=F10.binds (ps:=["self","name","high","low","room","lift"]) fun _ _ _ _ _ _ us hl=>match us,hl with|[_,_,_,_,_,_],_=>rfl
 have F11:=jW (st:=QP) l11 c11 k11
 have b11:=F11.binds (ps:=["self","name","least","crest","berths","water","target"]) fun _ _ _ _ _ _ us hl=>match us,hl with|[_,_,_,_,_,_,_],_=>rfl
 have F12:=jW (st:=QL) l12 c12 k12
 have b12:=F12.binds (ps:=["self","basin"]) fun _ _ _ _ _ _ us hl=>match us,hl with|[_,_],_=>rfl
 have F13:=jW (st:=QC) l13 c13 k13
 have b13:=F13.binds (ps:=["self","basin"]) fun _ _ _ _ _ _ us hl=>match us,hl with|[_,_],_=>rfl
 have F14:=jW (st:=QO) l14 c14 k14
 have b14:=F14.binds (ps:=["self","basin"]) fun _ _ _ _ _ _ us hl=>match us,hl with|[_,_],_=>rfl
 have F15:=jW (st:=QM) l15 c15 k15
 have b15:=F15.binds (ps:=["self","basin"]) fun _ _ _ _ _ _ us hl=>match us,hl with|[_,_],_=>rfl
 have F16:=jW (st:=QD) l16 c16 k16
 have b16:=F16.binds (ps:=["self","basin"]) fun _ _ _ _ _ _ us hl=>match us,hl with|[_,_],_=>rfl
 have F17:=DK (st:=JG) (ds:=[.none]) (n:=dn0) l17 c17 k17 lT17 (by first|exact dT17|rfl)
 have b17:Binds K _ ["self","reaches","locks","nights"] []:=F17.binds [] 4 rfl fun _ _ _ _ _ _ _ us hl=>match us,hl with|[_,_,_,_],_=>⟨_,rfl,rfl⟩
 have b17_1:Binds K _ ["self","reaches","locks","nights"] [.none]:=F17.binds [.none] 3 rfl fun _ _ _ _ _ _ _ us hl=>match us,hl with|[_,_,_],_=>⟨_,rfl,rfl⟩
 have F18:=jW (st:=QI) l18 c18 k18
 have b18:=F18.binds (ps:=["self"]) fun _ _ _ _ _ _ us hl=>match us,hl with|[_],_=>rfl
 have F19:=jW (st:=QJ) l19 c19 k19
 have b19:=F19.binds (ps:=["self"]) fun _ _ _ _ _ _ us hl=>match us,hl with|[_],_=>rfl
 have F20:=jW (st:=QH) l20 c20 k20
 have b20:=F20.binds (ps:=["self"]) fun _ _ _ _ _ _ us hl=>match us,hl with|[_],_=>rfl
 have F21:=jW (st:=QF) l21 c21 k21
 have b21:=F21.binds (ps:=["self","k"]) fun _ _ _ _ _ _ us hl=>match us,hl with|[_,_],_=>rfl
 have F22:=jW (st:=QE) l22 c22 k22
 have b22:=F22.binds (ps:=["self","k"]) fun _ _ _ _ _ _ us hl=>match us,hl with|[_,_],_=>rfl
 have F23:=jW (st:=JI) l23 c23 k23
 have b23:=F23.binds (ps:=["self"]) fun _ _ _ _ _ _ us hl=>match us,hl with|[_],_=>rfl
 have F24:=jW (st:=JH) l24 c24 k24
 have b24:=F24.binds (ps:=["self"]) fun _ _ _ _ _ _ us hl=>match us,hl with|[_],_=>rfl
 have F25:=jW (st:=QG) l25 c25 k25
 have b25:=F25.binds (ps:=["self","waters","k"]) fun _ _ _ _ _ _ us hl=>match us,hl with|[_,_,_],_=>rfl
 have F26:=jW (st:=JL) l26 c26 k26
 have b26:=F26.binds (ps:=["lock","basin"]) fun _ _ _ _ _ _ us hl=>match us,hl with|[_,_],_=>rfl
 have F27:=jW (st:=JN) l27 c27 k27
 have b27:=F27.binds (ps:=["lock","basin"]) fun _ _ _ _ _ _ us hl=>match us,hl with|[_,_],_=>rfl
 have F28:=jW (st:=JM) l28 c28 k28
 have b28:=F28.binds (ps:=["vessel","pours"]) fun _ _ _ _ _ _ us hl=>match us,hl with|[_,_],_=>rfl
 have F29:=jW (st:=JJ) l29 c29 k29
 have b29:=F29.binds (ps:=["basin","pours"]) fun _ _ _ _ _ _ us hl=>match us,hl with|[_,_],_=>rfl
 have F30:=jW (st:=ZF) l30 c30 k30
 have b30:=F30.binds (ps:=["lock","full","basin","way"]) fun _ _ _ _ _ _ us hl=>match us,hl with|[_,_,_,_],_=>rfl
 have F31:=jW (st:=ZL) l31 c31 k31
 have b31:=F31.binds (ps:=["lock","side"]) fun _ _ _ _ _ _ us hl=>match us,hl with|[_,_],_=>rfl
 have F32:=jW (st:=ZA) l32 c32 k32
 have b32:=F32.binds (ps:=["canal","start","steps"]) fun _ _ _ _ _ _ us hl=>match us,hl with|[_,_,_],_=>rfl
 have F33:=jW (st:=ZM) l33 c33 k33
 have b33:=F33.binds (ps:=["way","place"]) fun _ _ _ _ _ _ us hl=>match us,hl with|[_,_],_=>rfl
 have F34:=jW (st:=ZI) l34 c34 k34
 have b34:=F34.binds (ps:=["canal","way","place"]) fun _ _ _ _ _ _ us hl=>match us,hl with|[_,_,_],_=>rfl
 have F35:=jW (st:=JO) l35 c35 k35
 have b35:=F35.binds (ps:=["canal","ways","state","reach"]) fun _ _ _ _ _ _ us hl=>match us,hl with|[_,_,_,_],_=>rfl
 have F36:=jW (st:=Q3) l36 c36 k36
 have b36:=F36.binds (ps:=["canal","ways"]) fun _ _ _ _ _ _ us hl=>match us,hl with|[_,_],_=>rfl
 have F37:=jW (st:=y7) l37 c37 k37
 have b37:=F37.binds (ps:=["canal","state","weather"]) fun _ _ _ _ _ _ us hl=>match us,hl with|[_,_,_],_=>rfl
 have F38:=jW (st:=Q6) l38 c38 k38
 have b38:=F38.binds (ps:=["canal","ways","state","reach"]) fun _ _ _ _ _ _ us hl=>match us,hl with|[_,_,_,_],_=>rfl
 have F39:=jW (st:=ZC) l39 c39 k39
 have b39:=F39.binds (ps:=["way","place"]) fun _ _ _ _ _ _ us hl=>match us,hl with|[_,_],_=>rfl
 have F40:=jW (st:=JP) l40 c40 k40
 have b40:=F40.binds (ps:=["places","boat"]) fun _ _ _ _ _ _ us hl=>match us,hl with|[_,_],_=>rfl
 have F41:=jW (st:=Q4) l41 c41 k41
 have b41:=F41.binds (ps:=["state","deed","waters"]) fun _ _ _ _ _ _ us hl=>match us,hl with|[_,_,_],_=>rfl
 have F42:=jW (st:=JK) l42 c42 k42
 have b42:=F42.binds (ps:=["canal","k","named"]) fun _ _ _ _ _ _ us hl=>match us,hl with|[_,_,_],_=>rfl
 have F43:=jW (st:=ZE) l43 c43 k43
 have b43:=F43.binds (ps:=["canal","ways","state","boat"]) fun _ _ _ _ _ _ us hl=>match us,hl with|[_,_,_,_],_=>rfl
 have F44:=jW (st:=Q9) l44 c44 k44
 have b44:=F44.binds (ps:=["canal","state","k"]) fun _ _ _ _ _ _ us hl=>match us,hl with|[_,_,_],_=>rfl
 have F45:=jW (st:=Q7) l45 c45 k45
 have b45:=F45.binds (ps:=["canal","waters","vessel"]) fun _ _ _ _ _ _ us hl=>match us,hl with|[_,_,_],_=>rfl
 have F46:=jW (st:=Q5) l46 c46 k46
 have b46:=F46.binds (ps:=["canal","waters","moved"]) fun _ _ _ _ _ _ us hl=>match us,hl with|[_,_,_],_=>rfl
 have F47:=jW (st:=ZN) l47 c47 k47
 have b47:=F47.binds (ps:=["canal","ways","state","boat"]) fun _ _ _ _ _ _ us hl=>match us,hl with|[_,_,_,_],_=>rfl
 have F48:=jW (st:=ZO) l48 c48 k48
 have b48:=F48.binds (ps:=["canal","ways","state","deed"]) fun _ _ _ _ _ _ us hl=>match us,hl with|[_,_,_,_],_=>rfl
 have F49:=jW (st:=ZH) l49 c49 k49
 have b49:=F49.binds (ps:=["canal","ways","state","deed"]) fun _ _ _ _ _ _ us hl=>match us,hl with|[_,_,_,_],_=>rfl
 have F50:=jW (st:=Q0) l50 c50 k50
 have b50:=F50.binds (ps:=["canal","ways","state","deed"]) fun _ _ _ _ _ _ us hl=>match us,hl with|[_,_,_,_],_=>rfl
 have F51:=jW (st:=y6) l51 c51 k51
 have b51:=F51.binds (ps:=["canal","ways","state"]) fun _ _ _ _ _ _ us hl=>match us,hl with|[_,_,_],_=>rfl
 have F52:=jW (st:=Q1) l52 c52 k52
 have b52:=F52.binds (ps:=["canal","state","weather"]) fun _ _ _ _ _ _ us hl=>match us,hl with|[_,_,_],_=>rfl
 have F53:=jW (st:=ZB) l53 c53 k53
 have b53:=F53.binds (ps:=["canal","waters","others"]) fun _ _ _ _ _ _ us hl=>match us,hl with|[_,_,_],_=>rfl
 have F54:=jW (st:=JR) l54 c54 k54
 have b54:=F54.binds (ps:=["canal","waters","others"]) fun _ _ _ _ _ _ us hl=>match us,hl with|[_,_,_],_=>rfl
 have F55:=jW (st:=Q2) l55 c55 k55
 have b55:=F55.binds (ps:=["canal","state","other"]) fun _ _ _ _ _ _ us hl=>match us,hl with|[_,_,_],_=>rfl
 have F56:=jW (st:=QR) l56 c56 k56
 have b56:=F56.binds (ps:=["script","k","many"]) fun _ _ _ _ _ _ us hl=>match us,hl with|[_,_,_],_=>rfl
 have F57:=jW (st:=QW) l57 c57 k57
 have b57:=F57.binds (ps:=["script"]) fun _ _ _ _ _ _ us hl=>match us,hl with|[_],_=>rfl
 have F58:=jW (st:=QU) l58 c58 k58
 have b58:=F58.binds (ps:=["script","k","unit"]) fun _ _ _ _ _ _ us hl=>match us,hl with|[_,_,_],_=>rfl
 have F59:=jW (st:=QS) l59 c59 k59
 have b59:=F59.binds (ps:=["script","k","reaches","unit"]) fun _ _ _ _ _ _ us hl=>match us,hl with|[_,_,_,_],_=>rfl
 have F60:=jW (st:=QY) l60 c60 k60
 have b60:=F60.binds (ps:=["script","k","reaches","unit"]) fun _ _ _ _ _ _ us hl=>match us,hl with|[_,_,_,_],_=>rfl
 have F61:=jW (st:=y0) l61 c61 k61
 have b61:=F61.binds (ps:=["script","most_reaches","most_locks","most_nights"]) fun _ _ _ _ _ _ us hl=>match us,hl with|[_,_,_,_],_=>rfl
 have F62:=jW (st:=QV) l62 c62 k62
 have b62:=F62.binds (ps:=["canal","reach"]) fun _ _ _ _ _ _ us hl=>match us,hl with|[_,_],_=>rfl
 have F63:=jW (st:=QX) l63 c63 k63
 have b63:=F63.binds (ps:=["script","k","canal","most"]) fun _ _ _ _ _ _ us hl=>match us,hl with|[_,_,_,_],_=>rfl
 have F64:=jW (st:=QT) l64 c64 k64
 have b64:=F64.binds (ps:=["script","k"]) fun _ _ _ _ _ _ us hl=>match us,hl with|[_,_],_=>rfl
 have F65:=jW (st:=QZ) l65 c65 k65
 have b65:=F65.binds (ps:=["script","canal","day"]) fun _ _ _ _ _ _ us hl=>match us,hl with|[_,_,_],_=>rfl
 have F66:=jW (st:=QQ) l66 c66 k66
 have b66:=F66.binds (ps:=["canal","one","other"]) fun _ _ _ _ _ _ us hl=>match us,hl with|[_,_,_],_=>rfl
 have F67:=jW (st:=v7) l67 c67 k67
 have b67:=F67.binds (ps:=["script"]) fun _ _ _ _ _ _ us hl=>match us,hl with|[_],_=>rfl
 have T:Txt K mg cP cB cU cR cN tkS eW eL tkH:={z_list:=W.mg_none_of X G z_list,z_tuple:=W.mg_none_of X G z_tuple,z_max:=W.mg_none_of X G z_max,z_range:=W.mg_none_of X G z_range,z_len:=W.mg_none_of X G z_len,z_sum:=W.mg_none_of X G z_sum,z_zip:=W.mg_none_of X G z_zip,z_enumerate:=W.mg_none_of X G z_enumerate,z_min:=W.mg_none_of X G z_min,z_all:=W.mg_none_of X G z_all,z_int:=W.mg_none_of X G z_int,cl:=fun kd=>match kd with|.plain=>⟨pg_P,hdd_P,po_P,sa_P⟩|.basin=>⟨pg_B,hdd_B,po_B,sa_B⟩|.pump=>⟨pg_U,hdd_U,po_U,sa_U⟩,n_name:=fun kd=>match kd with|.plain=>n_name_P|.basin=>n_name_B|.pump=>n_name_U,n_high:=fun kd=>match kd with|.plain=>n_high_P|.basin=>n_high_B|.pump=>n_high_U,n_low:=fun kd=>match kd with|.plain=>n_low_P|.basin=>n_low_B|.pump=>n_low_U,n_room:=fun kd=>match kd with|.plain=>n_room_P|.basin=>n_room_B|.pump=>n_room_U,n_side:=n_side_B,n_lift:=n_lift_U,c_PlainLock:=W.mg_of X G aC_P,c_BasinLock:=W.mg_of X G aC_B,c_PumpLock:=W.mg_of X G aC_U,clR:=⟨pg_R,hdd_R,po_R,sa_R⟩,nR_name:=nR_name,nR_least:=nR_least,nR_crest:=nR_crest,nR_berths:=nR_berths,nR_water:=nR_water,nR_target:=nR_target,c_Reach:=W.mg_of X G aC_R,clN:=⟨pg_N,hdd_N,po_N,sa_N⟩,nN_reaches:=nN_reaches,nN_locks:=nN_locks,nN_nights:=nN_nights,c_Canal:=W.mg_of X G aC_N,g_SEA:=W.mg_of X G gSEA,c_NotNow:=W.mg_of X G aX_NotNow,c_NotLinked:=W.mg_of X G aX_NotLinked,x_NotNow:=xX_NotNow,x_NotLinked:=xX_NotLinked,g_HOME:=W.mg_of X G gHOME}
 refine ⟨W.fnOf "law" "law" (jR v7) (jP v7) (jD v7) .none kV67 dc67 pm67 an67 cd67 ct67,fun s v=>.of_eq rfl,fun base _ _=>?_⟩
 have D0:Def l.prog w K mg base 1 "poured_all" _ [] _:=⟨_,_,[],uO F0 T,W.mg_of X G a0,k0,.nil,b0⟩
 have D1:Def l.prog w K mg base 1 "over" _ [] _:=⟨_,_,[],uK F1 T,W.mg_of X G a1,k1,.nil,b1⟩
 have D2:Def l.prog w K mg base 1 "last_first" _ [] _:=⟨_,_,[],t9 F2 T,W.mg_of X G a2,k2,.nil,b2⟩
 have D3:Def l.prog w K mg base 2 "spills" _ [] _:=⟨_,_,[],uU F3 T D2 D1,W.mg_of X G a3,k3,.nil,b3⟩
 have D4:Def l.prog w K mg base 3 "spill_pours" _ [] _:=⟨_,_,[],uT F4 T D3 D2,W.mg_of X G a4,k4,.nil,b4⟩
 have D5:Def l.prog w K mg base 4 "settled" _ [] _:=⟨_,_,[],uS F5 T D0 D4,W.mg_of X G a5,k5,.nil,b5⟩
 have D6:Def l.prog w K mg base 4 "with_spills" _ [] _:=⟨_,_,[],uZ F6 T D4 D0,W.mg_of X G a6,k6,.nil,b6⟩
 have D7:Def l.prog w K mg base 1 "parts_not_nought" _ [] _:=⟨_,_,[],uL F7 T,W.mg_of X G a7,k7,.nil,b7⟩
 have G8:=sZ (P:=l.prog) (w:=w) (base:=base) F8 T
 have MK_PlainLock:MkD l.prog w K mg base 1 "PlainLock" cP ["self","name","high","low","room"] (ZV (jF cP cB cU)):=⟨T.c_PlainLock,_,_,⟨mk_P,a8,i8,kc_P⟩,G8,b8⟩
 have CM8:CmD l.prog w K mg base 1 "PlainLock" cP "__init__" ["self","name","high","low","room"] (ZV (jF cP cB cU)):=⟨T.c_PlainLock,_,_,⟨g1,g2,ac8,k8⟩,G8,b8⟩
 have G9:=sK (P:=l.prog) (w:=w) (base:=base) F9 T CM8
 have MK_BasinLock:MkD l.prog w K mg base 2 "BasinLock" cB ["self","name","high","low","room","side"] (ZU (jF cP cB cU) .basin):=⟨T.c_BasinLock,_,_,⟨mk_B,a9,i9,kc_B⟩,G9,b9⟩
 have G10:=tF (P:=l.prog) (w:=w) (base:=base) F10 T CM8
 have MK_PumpLock:MkD l.prog w K mg base 2 "PumpLock" cU ["self","name","high","low","room","lift"] (ZU (jF cP cB cU) .pump):=⟨T.c_PumpLock,_,_,⟨mk_U,a10,i10,kc_U⟩,G10,b10⟩
 have G11:=tH (P:=l.prog) (w:=w) (base:=base) F11 T
 have MK_Reach:MkD l.prog w K mg base 1 "Reach" cR ["self","name","least","crest","berths","water","target"] (fN cR):=⟨T.c_Reach,_,_,⟨mk_R,a11,i11,kc_R⟩,G11,b11⟩
 have G12:=tD (P:=l.prog) (w:=w) (base:=base) F12 T D7
 have ME_fill_parts_P:MeD l.prog w K mg base 2 cP "fill_parts" ["self","basin"] (vD (jF cP cB cU) yI .plain):=⟨T.cl .plain,_,_,⟨a12,i12,k12⟩,G12,b12⟩
 have G13:=sL (P:=l.prog) (w:=w) (base:=base) F13 T D7
 have ME_fill_parts_B:MeD l.prog w K mg base 2 cB "fill_parts" ["self","basin"] (vD (jF cP cB cU) yI .basin):=⟨T.cl .basin,_,_,⟨a13,i13,k13⟩,G13,b13⟩
 have G14:=tG (P:=l.prog) (w:=w) (base:=base) F14 T D7
 have ME_fill_parts_U:MeD l.prog w K mg base 2 cU "fill_parts" ["self","basin"] (vD (jF cP cB cU) yI .pump):=⟨T.cl .pump,_,_,⟨a14,i14,k14⟩,G14,b14⟩
 have MP_fill_parts:MeK l.prog w K mg base 2 (jF cP cB cU) "fill_parts" ["self","basin"] (vD (jF cP cB cU) yI):=⟨fun kd=>match kd with|.plain=>ME_fill_parts_P|.basin=>ME_fill_parts_B|.pump=>ME_fill_parts_U⟩
 have G15:=tE (P:=l.prog) (w:=w) (base:=base) F15 T D7
 have ME_let_parts_P:MeD l.prog w K mg base 2 cP "let_parts" ["self","basin"] (vD (jF cP cB cU) yK .plain):=⟨T.cl .plain,_,_,⟨a15,i15,k15⟩,(G15.imp (sp':=vD (jF cP cB cU) yK .plain) (fun vs H Q E ⟨x,n,h,l,room,v,b,e,a,q⟩=>⟨.plain,x,n,h,l,room,v,b,e,a,q⟩)),b15⟩
 have ME_let_parts_U:MeD l.prog w K mg base 2 cU "let_parts" ["self","basin"] (vD (jF cP cB cU) yK .pump):=⟨T.cl .pump,_,_,⟨a15_U,i15,k15⟩,(G15.imp (sp':=vD (jF cP cB cU) yK .pump) (fun vs H Q E ⟨x,n,h,l,room,v,b,e,a,q⟩=>⟨.pump,x,n,h,l,room,v,b,e,a,q⟩)),b15⟩
 have G16:=sM (P:=l.prog) (w:=w) (base:=base) F16 T D7
 have ME_let_parts_B:MeD l.prog w K mg base 2 cB "let_parts" ["self","basin"] (vD (jF cP cB cU) yK .basin):=⟨T.cl .basin,_,_,⟨a16,i16,k16⟩,G16,b16⟩
 have MP_let_parts:MeK l.prog w K mg base 2 (jF cP cB cU) "let_parts" ["self","basin"] (vD (jF cP cB cU) yK):=⟨fun kd=>match kd with|.plain=>ME_let_parts_P|.basin=>ME_let_parts_B|.pump=>ME_let_parts_U⟩
 have G17:=sO (P:=l.prog) (w:=w) (base:=base) F17 T
 have MK_Canal:MkD l.prog w K mg base 1 "Canal" cN ["self","reaches","locks","nights"] (fO (jF cP cB cU) cR cN):=⟨T.c_Canal,_,_,⟨mk_N,a17,i17,kc_N⟩,G17,b17⟩
 have G18:=sV (P:=l.prog) (w:=w) (base:=base) F18 T
 have MN_sea:MeD l.prog w K mg base 1 cN "sea" ["self"] (yB (jF cP cB cU) cR cN qB):=⟨T.clN,_,_,⟨a18,i18,k18⟩,G18,b18⟩
 have G19:=sW (P:=l.prog) (w:=w) (base:=base) F19 T MN_sea
 have MN_sky:MeD l.prog w K mg base 2 cN "sky" ["self"] (yB (jF cP cB cU) cR cN bD):=⟨T.clN,_,_,⟨a19,i19,k19⟩,G19,b19⟩
 have G20:=sU (P:=l.prog) (w:=w) (base:=base) F20 T MN_sky
 have MN_many:MeD l.prog w K mg base 3 cN "many" ["self"] (yB (jF cP cB cU) cR cN cS):=⟨T.clN,_,_,⟨a20,i20,k20⟩,G20,b20⟩
 have G21:=sQ (P:=l.prog) (w:=w) (base:=base) F21 T
 have MN_chamber:MeD l.prog w K mg base 1 cN "chamber" ["self","k"] (zL (jF cP cB cU) cR cN vY):=⟨T.clN,_,_,⟨a21,i21,k21⟩,G21,b21⟩
 have G22:=sP (P:=l.prog) (w:=w) (base:=base) F22 T
 have MN_basin:MeD l.prog w K mg base 1 cN "basin" ["self","k"] (zL (jF cP cB cU) cR cN q9):=⟨T.clN,_,_,⟨a22,i22,k22⟩,G22,b22⟩
 have G23:=sY (P:=l.prog) (w:=w) (base:=base) F23 T MN_sea
 have MN_weirs:MeD l.prog w K mg base 2 cN "weirs" ["self"] (bW (jF cP cB cU) cR cN):=⟨T.clN,_,_,⟨a23,i23,k23⟩,G23,b23⟩
 have G24:=sX (P:=l.prog) (w:=w) (base:=base) F24 T MN_many D5 MN_weirs
 have MN_start:MeD l.prog w K mg base 5 cN "start" ["self"] (gJ (jF cP cB cU) cR cN):=⟨T.clN,_,_,⟨a24,i24,k24⟩,G24,b24⟩
 have G25:=sR (P:=l.prog) (w:=w) (base:=base) F25 T MN_chamber
 have MN_full:MeD l.prog w K mg base 2 cN "full" ["self","waters","k"] (eF (jF cP cB cU) cR cN):=⟨T.clN,_,_,⟨a25,i25,k25⟩,G25,b25⟩
 have D26:Def l.prog w K mg base 3 "filling" _ [] _:=⟨_,_,[],t4 F26 T MP_fill_parts,W.mg_of X G a26,k26,.nil,b26⟩
 have D27:Def l.prog w K mg base 3 "letting" _ [] _:=⟨_,_,[],uC F27 T MP_let_parts,W.mg_of X G a27,k27,.nil,b27⟩
 have D28:Def l.prog w K mg base 1 "given_by" _ [] _:=⟨_,_,[],t5 F28 T,W.mg_of X G a28,k28,.nil,b28⟩
 have D29:Def l.prog w K mg base 2 "basin_after" _ [] _:=⟨_,_,[],tW F29 T D28,W.mg_of X G a29,k29,.nil,b29⟩
 have D30:Def l.prog w K mg base 4 "passage" _ [] _:=⟨_,_,[],uN F30 T D27 D26 D29,W.mg_of X G a30,k30,.nil,b30⟩
 have D31:Def l.prog w K mg base 1 "step_ends" _ [] _:=⟨_,_,[],uV F31 T,W.mg_of X G a31,k31,.nil,b31⟩
 have G32:=uD (P:=l.prog) (w:=w) (base:=base) F32 T D31
 have GX32:=G32
 have DX32:DefX l.prog w K mg base 2 "linked" _ [] _:=⟨_,_,[],GX32,W.mg_of X G a32,k32,.nil,b32⟩
 have G32:=GX32.noX (sp':=fY K (jF cP cB cU) cR cN) AK
 have D32:Def l.prog w K mg base 2 "linked" _ [] _:=⟨_,_,[],G32,W.mg_of X G a32,k32,.nil,b32⟩
 have D33:Def l.prog w K mg base 1 "steps_to_do" _ [] _:=⟨_,_,[],uW F33 T,W.mg_of X G a33,k33,.nil,b33⟩
 have D34:Def l.prog w K mg base 3 "reach_of" _ [] _:=⟨_,_,[],uQ F34 T D33 D32,W.mg_of X G a34,k34,.nil,b34⟩
 have D35:Def l.prog w K mg base 4 "lying" _ [] _:=⟨_,_,[],uF F35 T D34,W.mg_of X G a35,k35,.nil,b35⟩
 have D36:Def l.prog w K mg base 6 "begun" _ [] _:=⟨_,_,[],tX F36 T MN_start,W.mg_of X G a36,k36,.nil,b36⟩
 have D37:Def l.prog w K mg base 5 "night_pours" _ [] _:=⟨_,_,[],uI F37 T MN_sky D6 MN_weirs,W.mg_of X G a37,k37,.nil,b37⟩
 have D38:Def l.prog w K mg base 5 "has_no_berth" _ [] _:=⟨_,_,[],t6 F38 T D35,W.mg_of X G a38,k38,.nil,b38⟩
 have D39:Def l.prog w K mg base 1 "next_step" _ [] _:=⟨_,_,[],uH F39 T,W.mg_of X G a39,k39,.nil,b39⟩
 have D40:Def l.prog w K mg base 1 "one_step_on" _ [] _:=⟨_,_,[],uJ F40 T,W.mg_of X G a40,k40,.nil,b40⟩
 have D41:Def l.prog w K mg base 2 "counted_on" _ [] _:=⟨_,_,[],tZ F41 T D40,W.mg_of X G a41,k41,.nil,b41⟩
 have D42:Def l.prog w K mg base 2 "by_number" _ [] _:=⟨_,_,[],tY F42 T MN_basin MN_chamber,W.mg_of X G a42,k42,.nil,b42⟩
 have D43:Def l.prog w K mg base 6 "pass_pours" _ [] _:=⟨_,_,[],uM F43 T D39 MN_basin D42 D30 MN_full,W.mg_of X G a43,k43,.nil,b43⟩
 have D44:Def l.prog w K mg base 4 "let_pours" _ [] _:=⟨_,_,[],uB F44 T D42 D27 MN_basin,W.mg_of X G a44,k44,.nil,b44⟩
 have D45:Def l.prog w K mg base 1 "is_below_least" _ [] _:=⟨_,_,[],t7 F45 T,W.mg_of X G a45,k45,.nil,b45⟩
 have D46:Def l.prog w K mg base 2 "falls_short" _ [] _:=⟨_,_,[],t0 F46 T D0 D45,W.mg_of X G a46,k46,.nil,b46⟩
 have D47:Def l.prog w K mg base 7 "why_no_pass" _ [] _:=⟨_,_,[],uX F47 T D34 D38 D46 D43,W.mg_of X G a47,k47,.nil,b47⟩
 have D48:Def l.prog w K mg base 8 "why_not" _ [] _:=⟨_,_,[],uY F48 T D47 MN_full,W.mg_of X G a48,k48,.nil,b48⟩
 have G49:=uP (P:=l.prog) (w:=w) (base:=base) F49 T D48 D37 D43 D44 D6 MN_weirs
 have GX49:=G49
 have DX49:DefX l.prog w K mg base 9 "pours" _ [] _:=⟨_,_,[],GX49,W.mg_of X G a49,k49,.nil,b49⟩
 have G49:=GX49.noX (sp':=n5 (jF cP cB cU) cR cN) A7
 have D49:Def l.prog w K mg base 9 "pours" _ [] _:=⟨_,_,[],G49,W.mg_of X G a49,k49,.nil,b49⟩
 have G50:=tT (P:=l.prog) (w:=w) (base:=base) F50 T D41 D0 DX49
 have GX50:=G50
 have DX50:DefX l.prog w K mg base 10 "after" _ [] _:=⟨_,_,[],GX50,W.mg_of X G a50,k50,.nil,b50⟩
 have G50:=GX50.noX (sp':=fZ (jF cP cB cU) cR cN) BV
 have D50:Def l.prog w K mg base 10 "after" _ [] _:=⟨_,_,[],G50,W.mg_of X G a50,k50,.nil,b50⟩
 have D51:Def l.prog w K mg base 9 "may" _ [] _:=⟨_,_,[],uG F51 T D48,W.mg_of X G a51,k51,.nil,b51⟩
 have D52:Def l.prog w K mg base 6 "after_night" _ [] _:=⟨_,_,[],tU F52 T D0 D37,W.mg_of X G a52,k52,.nil,b52⟩
 have D53:Def l.prog w K mg base 2 "locks_hold_the_same" _ [] _:=⟨_,_,[],uE F53 T MN_sea,W.mg_of X G a53,k53,.nil,b53⟩
 have D54:Def l.prog w K mg base 1 "reaches_hold_as_much" _ [] _:=⟨_,_,[],uR F54 T,W.mg_of X G a54,k54,.nil,b54⟩
 have D55:Def l.prog w K mg base 3 "as_wet" _ [] _:=⟨_,_,[],tV F55 T D54 D53,W.mg_of X G a55,k55,.nil,b55⟩
 have D56:Def l.prog w K mg base 1 "_law_draw" _ [] _:=⟨_,_,[],tK F56 T,W.mg_of X G a56,k56,.nil,b56⟩
 have D57:Def l.prog w K mg base 1 "_law_unit" _ [] _:=⟨_,_,[],tP F57 T,W.mg_of X G a57,k57,.nil,b57⟩
 have D58:Def l.prog w K mg base 3 "_law_reach" _ [] _:=⟨_,_,[],tN F58 T D56 MK_Reach,W.mg_of X G a58,k58,.nil,b58⟩
 have D59:Def l.prog w K mg base 4 "_law_lock" _ [] _:=⟨_,_,[],tL F59 T D56 MK_BasinLock MK_PumpLock MK_PlainLock,W.mg_of X G a59,k59,.nil,b59⟩
 have D60:Def l.prog w K mg base 2 "_law_weather" _ [] _:=⟨_,_,[],tR F60 T D56,W.mg_of X G a60,k60,.nil,b60⟩
 have D61:Def l.prog w K mg base 6 "_law_canal" _ [] _:=⟨_,_,[],tJ F61 T D57 D56 D58 D59 D60 MK_Canal,W.mg_of X G a61,k61,.nil,b61⟩
 have D62:Def l.prog w K mg base 1 "_law_turns" _ [] _:=⟨_,_,[],tO F62 T,W.mg_of X G a62,k62,.nil,b62⟩
 have D63:Def l.prog w K mg base 2 "_law_way" _ [] _:=⟨_,_,[],tQ F63 T D56 D62,W.mg_of X G a63,k63,.nil,b63⟩
 have D64:Def l.prog w K mg base 2 "_law_more" _ [] _:=⟨_,_,[],tM F64 T D56 D57,W.mg_of X G a64,k64,.nil,b64⟩
 have D65:Def l.prog w K mg base 3 "_law_wetter_weather" _ [] _:=⟨_,_,[],tS F65 T D64,W.mg_of X G a65,k65,.nil,b65⟩
 have D66:Def l.prog w K mg base 1 "_law_as_wet" _ [] _:=⟨_,_,[],tI F66 T,W.mg_of X G a66,k66,.nil,b66⟩
 have G67:=uA (P:=l.prog) (w:=w) (base:=base) F67 T D61 D56 D63 D36 D64 D51 D52 D65 D50 D55 D66
 exact G67
theorem walk {l:W.OpenLaw} {q:Program} {loose:List Str} {XP:(Str→Option Value)→Heap→Prop} {YP:World→Heap→Prop} {d:DefRec} {K:Params→W.Frag} (hn:l.most=some 63) (hdf:d.params.defaults=[])
  (hY:∀(w:World) (h:Heap),YP w h→(K w.params).In h)
  (F:∀(w:World) (mg:Str→Option Value) (fa:Addr) (h:Heap),(K w.params).In h→h.Ns mainGlobals mg→mg d.name=some (.ref fa)→
   ∃fd:FuncData,(∀(s:Shared) (u:Value),BindsTo s fd ⟨[u],[]⟩ [("script",u)])∧∀base:Heap,(K w.params).In base→base.Ns mainGlobals mg→FnOk l.prog w (K w.params) mg base jQ 14 fa fd ["script"] (eO (K w.params))) :
  W.WalkO q loose XP YP l.row.toRowW d [] (fun f vs=>PySem.call f vs) :=
 L2.walk_of (n:=63) (k:=14) (x:="script") (CX:=fun _=>jQ) (sp:=fun w=>eO (K w.params)) hn (by decide) hdf ⟨rfl,by decide,by decide⟩ hY F (fun _ _ a ns hl _ hS=>⟨a,ns,rfl,hS,hl,fun _=>rfl⟩) fun _ _ _ _ _ z=>z
end My
/- These names are taken here so that the head below leaves out its twins of whole states (they are not needed,and make the compiled file larger than a hand-in may be). -/
def PySem.W.Fast.tw6601488721180876929:Nat:=0
def PySem.W.Fast.tw10961667368906933852:Nat:=0
def PySem.W.Fast.tw18065953812676140601:Nat:=0
def PySem.W.Fast.tw14297501003178603333:Nat:=0
def PySem.W.Fast.tw17957595508682440652:Nat:=0
def PySem.W.Fast.tw12673467214450992473:Nat:=0
def PySem.W.Fast.tw6106900523681536621:Nat:=0
def PySem.W.Fast.tw7203548487673126909:Nat:=0
def PySem.W.Fast.tw5469051021755826997:Nat:=0
def PySem.W.Fast.tw4970224257707792277:Nat:=0
def PySem.W.Fast.tw17845264910443059703:Nat:=0
def PySem.W.Fast.tw4221860269408948280:Nat:=0
def PySem.W.Fast.tw15592273398166188295:Nat:=0
def PySem.W.Fast.tw14742126432996564293:Nat:=0
def PySem.W.Fast.tw12943636067606095141:Nat:=0
def PySem.W.Fast.tw4482017260923066612:Nat:=0
def PySem.W.Fast.tw5878812167548395209:Nat:=0
def PySem.W.Fast.tw5958717084319374014:Nat:=0
def PySem.W.Fast.tw10355135726395373151:Nat:=0
def PySem.W.Fast.tw17938779752639216670:Nat:=0
def PySem.W.Fast.tw16930881223656411458:Nat:=0
def PySem.W.Fast.tw14260473021515166667:Nat:=0
def PySem.W.Fast.tw17776469157571497087:Nat:=0
def PySem.W.Fast.tw17810818624014522398:Nat:=0
def PySem.W.Fast.tw7744703920218896836:Nat:=0
def PySem.W.Fast.tw9077278335214062218:Nat:=0
def PySem.W.Fast.tw13757275960199479828:Nat:=0
def PySem.W.Fast.tw6896719414684910912:Nat:=0
def PySem.W.Fast.tw93939574624969002:Nat:=0
def PySem.W.Fast.tw17022999838280618841:Nat:=0
def PySem.W.Fast.tw6351740473831036674:Nat:=0
def PySem.W.Fast.tw9188445601108621093:Nat:=0
def PySem.W.Fast.tw4106509761312241710:Nat:=0
def PySem.W.Fast.tw16990204230350257739:Nat:=0
def PySem.W.Fast.tw9966225164358331870:Nat:=0
def PySem.W.Fast.tw18201313238686427226:Nat:=0
def PySem.W.Fast.tw13724793433740922399:Nat:=0
def PySem.W.Fast.tw10607185589797429206:Nat:=0
def PySem.W.Fast.tw11337542452626516231:Nat:=0
def PySem.W.Fast.tw9056091067802877358:Nat:=0
def PySem.W.Fast.tw4618522185604331999:Nat:=0
def PySem.W.Fast.tw12588195233638618783:Nat:=0
def PySem.W.Fast.tw14831774029154809111:Nat:=0
def PySem.W.Fast.tw5280571678608883229:Nat:=0
def PySem.W.Fast.tw15611973939152074122:Nat:=0
def PySem.W.Fast.tw1428024120392410142:Nat:=0
def PySem.W.Fast.tw12744885198703805310:Nat:=0
def PySem.W.Fast.tw14625226330218504297:Nat:=0
def PySem.W.Fast.tw2766328806002262981:Nat:=0
def PySem.W.Fast.tw1126759551226412046:Nat:=0
def PySem.W.Fast.tw16061010654116524315:Nat:=0
def PySem.W.Fast.tw18076872637592740057:Nat:=0
def PySem.W.Fast.tw3960000296528022504:Nat:=0
def PySem.W.Fast.tw14439225443241383568:Nat:=0
def PySem.W.Fast.tw15837359978318094218:Nat:=0
def PySem.W.Fast.tw14082681881397496316:Nat:=0
def PySem.W.Fast.tw17175005655837210704:Nat:=0
def PySem.W.Fast.tw12372119511131231364:Nat:=0
def PySem.W.Fast.tw3782161197377007330:Nat:=0
def PySem.W.Fast.tw9187138412458861135:Nat:=0
def PySem.W.Fast.tw12758067118618960325:Nat:=0
def PySem.W.Fast.tw9622229574962459389:Nat:=0
def PySem.W.Fast.tw6494737307052479179:Nat:=0
def PySem.W.Fast.tw1097851574393842622:Nat:=0
def PySem.W.Fast.tw14007509476309735969:Nat:=0
def PySem.W.Fast.tw353194837250730713:Nat:=0
def PySem.W.Fast.tw1411131423563321444:Nat:=0
def PySem.W.Fast.tw3203581402485382475:Nat:=0
def PySem.W.Fast.tw16219304704552169231:Nat:=0
def PySem.W.Fast.tw2954302720135954067:Nat:=0
def PySem.W.Fast.tw16488068503084255409:Nat:=0
def PySem.W.Fast.tw1424951988220630349:Nat:=0
def PySem.W.Fast.tw12348920393699509158:Nat:=0
def PySem.W.Fast.tw18206747989520546376:Nat:=0
def PySem.W.Fast.tw6238414910752491472:Nat:=0
def PySem.W.Fast.tw15742849430812473007:Nat:=0
def PySem.W.Fast.tw8922320518932905632:Nat:=0
def PySem.W.Fast.tw15926475584891145327:Nat:=0
def PySem.W.Fast.tw12934356999912688171:Nat:=0
def PySem.W.Fast.tw2477072043386504294:Nat:=0
def PySem.W.Fast.tw5769763327543053661:Nat:=0
def PySem.W.Fast.tw2850055909938768027:Nat:=0
def PySem.W.Fast.tw487029259954376272:Nat:=0
def PySem.W.Fast.tw9173906863250817404:Nat:=0
def PySem.W.Fast.tw14816538386295885004:Nat:=0
def PySem.W.Fast.tw2288928476445377960:Nat:=0
def PySem.W.Fast.tw13626252434845489850:Nat:=0
def PySem.W.Fast.tw14041668543900201432:Nat:=0
def PySem.W.Fast.tw8600952996974060884:Nat:=0
def PySem.W.Fast.tw15421191801844385376:Nat:=0
def PySem.W.Fast.tw17376209215488603172:Nat:=0
def PySem.W.Fast.tw14087135097751992673:Nat:=0
def PySem.W.Fast.tw4578394231382738883:Nat:=0
def PySem.W.Fast.tw2930949707981716776:Nat:=0
def PySem.W.Fast.tw5726289124913773352:Nat:=0
def PySem.W.Fast.tw15088371963041922263:Nat:=0
def PySem.W.Fast.tw212165860813913120:Nat:=0
def PySem.W.Fast.tw5706170076855766104:Nat:=0
def PySem.W.Fast.tw17182850578597366015:Nat:=0
def PySem.W.Fast.tw12612036547369867961:Nat:=0
def PySem.W.Fast.tw16686699671016814873:Nat:=0
def PySem.W.Fast.tw646724974038966982:Nat:=0
def PySem.W.Fast.tw11450446127603412249:Nat:=0
def PySem.W.Fast.tw16170533468560887843:Nat:=0
def PySem.W.Fast.tw14694366272183761832:Nat:=0
def PySem.W.Fast.tw2516511276496689145:Nat:=0
def PySem.W.Fast.tw7489633401665103405:Nat:=0
def PySem.W.Fast.tw13484645491482634614:Nat:=0
def PySem.W.Fast.tw10080397314402419863:Nat:=0
def PySem.W.Fast.tw5264050747945773791:Nat:=0
def PySem.W.Fast.tw2826191091577736285:Nat:=0
def PySem.W.Fast.tw16141491769208090397:Nat:=0
def PySem.W.Fast.tw3610570316959575985:Nat:=0
def PySem.W.Fast.tw13982225738597671227:Nat:=0
def PySem.W.Fast.tw14351664365797434670:Nat:=0
def PySem.W.Fast.tw15520552958150728517:Nat:=0
def PySem.W.Fast.tw15427723574413329401:Nat:=0
def PySem.W.Fast.tw18044478200657472897:Nat:=0
def PySem.W.Fast.tw9074619635029410864:Nat:=0
def PySem.W.Fast.tw16001999676847205130:Nat:=0
def PySem.W.Fast.tw9349524793142871021:Nat:=0
def PySem.W.Fast.tw9379019255493661962:Nat:=0
def PySem.W.Fast.tw2460541291745479684:Nat:=0
def PySem.W.Fast.tw6631494679576593320:Nat:=0
def PySem.W.Fast.tw9002979546613178763:Nat:=0
def PySem.W.Fast.tw5688124908433722615:Nat:=0
def PySem.W.Fast.tw11962555635149413881:Nat:=0
def PySem.W.Fast.tw4923304856931274267:Nat:=0
def PySem.W.Fast.tw17330951996347900978:Nat:=0
def PySem.W.Fast.tw5271473563585890861:Nat:=0
def PySem.W.Fast.tw6247718143891492213:Nat:=0
def PySem.W.Fast.tw2608786727199894143:Nat:=0
def PySem.W.Fast.tw1247725707946347990:Nat:=0
def PySem.W.Fast.tw16704396717604928863:Nat:=0
def PySem.W.Fast.tw9495261889353323214:Nat:=0
def PySem.W.Fast.tw1826923600906405009:Nat:=0
def PySem.W.Fast.tw1979005306257315871:Nat:=0
def PySem.W.Fast.tw10532790272366104389:Nat:=0
def PySem.W.Fast.tw2406978839063663029:Nat:=0
def PySem.W.Fast.tw4102587068581814983:Nat:=0
def PySem.W.Fast.tw3798439597262645443:Nat:=0
def PySem.W.Fast.tw11590286599161197864:Nat:=0
def PySem.W.Fast.tw18187816666224845711:Nat:=0
def PySem.W.Fast.tw11925360706541968868:Nat:=0
def PySem.W.Fast.tw9040802910789717378:Nat:=0
def PySem.W.Fast.tw12072592524185808161:Nat:=0
def PySem.W.Fast.tw5603941909909909935:Nat:=0
def PySem.W.Fast.tw17171308235449822592:Nat:=0
def PySem.W.Fast.tw13717249937700412268:Nat:=0
def PySem.W.Fast.tw7601528691314647641:Nat:=0
def PySem.W.Fast.tw8320417866272293460:Nat:=0
def PySem.W.Fast.tw5060805346316675894:Nat:=0
def PySem.W.Fast.tw14377005981242107580:Nat:=0
def PySem.W.Fast.tw13487877078911624070:Nat:=0
def PySem.W.Fast.tw12775876253445946318:Nat:=0
def PySem.W.Fast.tw6867551912757540095:Nat:=0
def PySem.W.Fast.tw9517654291760093322:Nat:=0
def PySem.W.Fast.tw4409849639646014878:Nat:=0
def PySem.W.Fast.tw15206451715859610784:Nat:=0
def PySem.W.Fast.tw16197254533186854329:Nat:=0
def PySem.W.Fast.tw1620432236139492576:Nat:=0
def PySem.W.Fast.tw14172473410192531149:Nat:=0
def PySem.W.Fast.tw16385548171207520495:Nat:=0
def PySem.W.Fast.tw16866559211470017779:Nat:=0
def PySem.W.Fast.tw4913021323170176593:Nat:=0
def PySem.W.Fast.tw352302254907299469:Nat:=0
def PySem.W.Fast.tw6171297243328574066:Nat:=0
def PySem.W.Fast.tw15238990438209985641:Nat:=0
def PySem.W.Fast.tw18420053215089738818:Nat:=0
def PySem.W.Fast.tw15807501218745568870:Nat:=0
def PySem.W.Fast.tw8715916148100116614:Nat:=0
open PySem PySem.W PyProof.Rows
set_option maxRecDepth 100000 in
set_option maxHeartbeats 0 in
theorem PySem.Challenge.cw_lockhouse_k49_whole_as_wet_holds : PySem.Challenge.rw_lockhouse_k49_whole_as_wet.Holds := by
 w_on;o_law;k_head;(case hw=>w_witness2)
 k_fill
 refine My.walk (l:=PySem.Challenge.rw_lockhouse_k49_whole_as_wet) rfl rfl (fun w h Y=>PySem.W.kIn_of Y) ?F
 case F =>
  intro w mg fa h KX G hmg
  refine' My.all_mk KX G hmg ?aC_P ?aC_B ?aC_U ?aC_R ?aC_N ?aX_NotNow ?aX_NotLinked ?a0 ?l0 ?c0 ?k0 ?a1 ?l1 ?c1 ?k1 ?a2 ?l2 ?c2 ?k2 ?a3 ?l3 ?c3 ?k3 ?a4 ?l4 ?c4 ?k4 ?a5 ?l5 ?c5 ?k5 ?a6 ?l6 ?c6 ?k6 ?a7 ?l7 ?c7 ?k7 ?a8 ?i8 ?ac8 ?l8 ?c8 ?k8 ?a9 ?i9 ?l9 ?c9 ?k9 ?a10 ?i10 ?l10 ?c10 ?k10 ?a11 ?i11 ?l11 ?c11 ?k11 ?a12 ?i12 ?l12 ?c12 ?k12 ?a13 ?i13 ?l13 ?c13 ?k13 ?a14 ?i14 ?l14 ?c14 ?k14 ?a15 ?a15_U ?i15 ?l15 ?c15 ?k15 ?a16 ?i16 ?l16 ?c16 ?k16 ?a17 ?i17 ?l17 ?c17 ?k17 ?lT17 ?dT17 ?a18 ?i18 ?l18 ?c18 ?k18 ?a19 ?i19 ?l19 ?c19 ?k19 ?a20 ?i20 ?l20 ?c20 ?k20 ?a21 ?i21 ?l21 ?c21 ?k21 ?a22 ?i22 ?l22 ?c22 ?k22 ?a23 ?i23 ?l23 ?c23 ?k23 ?a24 ?i24 ?l24 ?c24 ?k24 ?a25 ?i25 ?l25 ?c25 ?k25 ?a26 ?l26 ?c26 ?k26 ?a27 ?l27 ?c27 ?k27 ?a28 ?l28 ?c28 ?k28 ?a29 ?l29 ?c29 ?k29 ?a30 ?l30 ?c30 ?k30 ?a31 ?l31 ?c31 ?k31 ?a32 ?l32 ?c32 ?k32 ?a33 ?l33 ?c33 ?k33 ?a34 ?l34 ?c34 ?k34 ?a35 ?l35 ?c35 ?k35 ?a36 ?l36 ?c36 ?k36 ?a37 ?l37 ?c37 ?k37 ?a38 ?l38 ?c38 ?k38 ?a39 ?l39 ?c39 ?k39 ?a40 ?l40 ?c40 ?k40 ?a41 ?l41 ?c41 ?k41 ?a42 ?l42 ?c42 ?k42 ?a43 ?l43 ?c43 ?k43 ?a44 ?l44 ?c44 ?k44 ?a45 ?l45 ?c45 ?k45 ?a46 ?l46 ?c46 ?k46 ?a47 ?l47 ?c47 ?k47 ?a48 ?l48 ?c48 ?k48 ?a49 ?l49 ?c49 ?k49 ?a50 ?l50 ?c50 ?k50 ?a51 ?l51 ?c51 ?k51 ?a52 ?l52 ?c52 ?k52 ?a53 ?l53 ?c53 ?k53 ?a54 ?l54 ?c54 ?k54 ?a55 ?l55 ?c55 ?k55 ?a56 ?l56 ?c56 ?k56 ?a57 ?l57 ?c57 ?k57 ?a58 ?l58 ?c58 ?k58 ?a59 ?l59 ?c59 ?k59 ?a60 ?l60 ?c60 ?k60 ?a61 ?l61 ?c61 ?k61 ?a62 ?l62 ?c62 ?k62 ?a63 ?l63 ?c63 ?k63 ?a64 ?l64 ?c64 ?k64 ?a65 ?l65 ?c65 ?k65 ?a66 ?l66 ?c66 ?k66 ?a67 ?l67 ?c67 ?k67 ?z_list ?z_tuple ?z_max ?z_range ?z_len ?z_sum ?z_zip ?z_enumerate ?z_min ?z_all ?z_int ?pg_P ?hdd_P ?po_P ?sa_P ?mk_P ?kc_P ?n_name_P ?n_high_P ?n_low_P ?n_room_P ?pg_B ?hdd_B ?po_B ?sa_B ?mk_B ?kc_B ?n_name_B ?n_high_B ?n_low_B ?n_room_B ?n_side_B ?pg_U ?hdd_U ?po_U ?sa_U ?mk_U ?kc_U ?n_name_U ?n_high_U ?n_low_U ?n_room_U ?n_lift_U ?g1 ?g2 ?pg_R ?hdd_R ?po_R ?sa_R ?mk_R ?kc_R ?nR_name ?nR_least ?nR_crest ?nR_berths ?nR_water ?nR_target ?pg_N ?hdd_N ?po_N ?sa_N ?mk_N ?kc_N ?nN_reaches ?nN_locks ?nN_nights ?gSEA ?xX_NotNow ?xX_NotLinked ?gHOME
  (case aC_P=>first|k_is|rfl)
  (case aC_B=>first|k_is|rfl)
  (case aC_U=>first|k_is|rfl)
  (case aC_R=>first|k_is|rfl)
  (case aC_N=>first|k_is|rfl)
  (case aX_NotNow=>first|k_is|rfl)
  (case aX_NotLinked=>first|k_is|rfl)
  (case a0=>first|k_is|rfl)
  (case l0=>first|k_is|rfl)
  (case c0=>first|k_is|rfl)
  (case k0=>first|k_is|rfl)
  (case a1=>first|k_is|rfl)
  (case l1=>first|k_is|rfl)
  (case c1=>first|k_is|rfl)
  (case k1=>first|k_is|rfl)
  (case a2=>first|k_is|rfl)
  (case l2=>first|k_is|rfl)
  (case c2=>first|k_is|rfl)
  (case k2=>first|k_is|rfl)
  (case a3=>first|k_is|rfl)
  (case l3=>first|k_is|rfl)
  (case c3=>first|k_is|rfl)
  (case k3=>first|k_is|rfl)
  (case a4=>first|k_is|rfl)
  (case l4=>first|k_is|rfl)
  (case c4=>first|k_is|rfl)
  (case k4=>first|k_is|rfl)
  (case a5=>first|k_is|rfl)
  (case l5=>first|k_is|rfl)
  (case c5=>first|k_is|rfl)
  (case k5=>first|k_is|rfl)
  (case a6=>first|k_is|rfl)
  (case l6=>first|k_is|rfl)
  (case c6=>first|k_is|rfl)
  (case k6=>first|k_is|rfl)
  (case a7=>first|k_is|rfl)
  (case l7=>first|k_is|rfl)
  (case c7=>first|k_is|rfl)
  (case k7=>first|k_is|rfl)
  (case a8=>first|k_is|rfl)
  (case i8=>first|k_is|rfl)
  (case ac8=>first|k_is|rfl)
  (case l8=>first|k_is|rfl)
  (case c8=>first|k_is|rfl)
  (case k8=>first|k_is|rfl)
  (case a9=>first|k_is|rfl)
  (case i9=>first|k_is|rfl)
  (case l9=>first|k_is|rfl)
  (case c9=>first|k_is|rfl)
  (case k9=>first|k_is|rfl)
  (case a10=>first|k_is|rfl)
  (case i10=>first|k_is|rfl)
  (case l10=>first|k_is|rfl)
  (case c10=>first|k_is|rfl)
  (case k10=>first|k_is|rfl)
  (case a11=>first|k_is|rfl)
  (case i11=>first|k_is|rfl)
  (case l11=>first|k_is|rfl)
  (case c11=>first|k_is|rfl)
  (case k11=>first|k_is|rfl)
  (case a12=>first|k_is|rfl)
  (case i12=>first|k_is|rfl)
  (case l12=>first|k_is|rfl)
  (case c12=>first|k_is|rfl)
  (case k12=>first|k_is|rfl)
  (case a13=>first|k_is|rfl)
  (case i13=>first|k_is|rfl)
  (case l13=>first|k_is|rfl)
  (case c13=>first|k_is|rfl)
  (case k13=>first|k_is|rfl)
  (case a14=>first|k_is|rfl)
  (case i14=>first|k_is|rfl)
  (case l14=>first|k_is|rfl)
  (case c14=>first|k_is|rfl)
  (case k14=>first|k_is|rfl)
  (case a15=>first|k_is|rfl)
  (case a15_U=>first|k_is|rfl)
  (case i15=>first|k_is|rfl)
  (case l15=>first|k_is|rfl)
  (case c15=>first|k_is|rfl)
  (case k15=>first|k_is|rfl)
  (case a16=>first|k_is|rfl)
  (case i16=>first|k_is|rfl)
  (case l16=>first|k_is|rfl)
  (case c16=>first|k_is|rfl)
  (case k16=>first|k_is|rfl)
  (case a17=>first|k_is|rfl)
  (case i17=>first|k_is|rfl)
  (case l17=>first|k_is|rfl)
  (case c17=>first|k_is|rfl)
  (case k17=>first|k_is|rfl)
  (case lT17=>first|k_is|rfl)
  (case dT17=>first|k_is|rfl)
  (case a18=>first|k_is|rfl)
  (case i18=>first|k_is|rfl)
  (case l18=>first|k_is|rfl)
  (case c18=>first|k_is|rfl)
  (case k18=>first|k_is|rfl)
  (case a19=>first|k_is|rfl)
  (case i19=>first|k_is|rfl)
  (case l19=>first|k_is|rfl)
  (case c19=>first|k_is|rfl)
  (case k19=>first|k_is|rfl)
  (case a20=>first|k_is|rfl)
  (case i20=>first|k_is|rfl)
  (case l20=>first|k_is|rfl)
  (case c20=>first|k_is|rfl)
  (case k20=>first|k_is|rfl)
  (case a21=>first|k_is|rfl)
  (case i21=>first|k_is|rfl)
  (case l21=>first|k_is|rfl)
  (case c21=>first|k_is|rfl)
  (case k21=>first|k_is|rfl)
  (case a22=>first|k_is|rfl)
  (case i22=>first|k_is|rfl)
  (case l22=>first|k_is|rfl)
  (case c22=>first|k_is|rfl)
  (case k22=>first|k_is|rfl)
  (case a23=>first|k_is|rfl)
  (case i23=>first|k_is|rfl)
  (case l23=>first|k_is|rfl)
  (case c23=>first|k_is|rfl)
  (case k23=>first|k_is|rfl)
  (case a24=>first|k_is|rfl)
  (case i24=>first|k_is|rfl)
  (case l24=>first|k_is|rfl)
  (case c24=>first|k_is|rfl)
  (case k24=>first|k_is|rfl)
  (case a25=>first|k_is|rfl)
  (case i25=>first|k_is|rfl)
  (case l25=>first|k_is|rfl)
  (case c25=>first|k_is|rfl)
  (case k25=>first|k_is|rfl)
  (case a26=>first|k_is|rfl)
  (case l26=>first|k_is|rfl)
  (case c26=>first|k_is|rfl)
  (case k26=>first|k_is|rfl)
  (case a27=>first|k_is|rfl)
  (case l27=>first|k_is|rfl)
  (case c27=>first|k_is|rfl)
  (case k27=>first|k_is|rfl)
  (case a28=>first|k_is|rfl)
  (case l28=>first|k_is|rfl)
  (case c28=>first|k_is|rfl)
  (case k28=>first|k_is|rfl)
  (case a29=>first|k_is|rfl)
  (case l29=>first|k_is|rfl)
  (case c29=>first|k_is|rfl)
  (case k29=>first|k_is|rfl)
  (case a30=>first|k_is|rfl)
  (case l30=>first|k_is|rfl)
  (case c30=>first|k_is|rfl)
  (case k30=>first|k_is|rfl)
  (case a31=>first|k_is|rfl)
  (case l31=>first|k_is|rfl)
  (case c31=>first|k_is|rfl)
  (case k31=>first|k_is|rfl)
  (case a32=>first|k_is|rfl)
  (case l32=>first|k_is|rfl)
  (case c32=>first|k_is|rfl)
  (case k32=>first|k_is|rfl)
  (case a33=>first|k_is|rfl)
  (case l33=>first|k_is|rfl)
  (case c33=>first|k_is|rfl)
  (case k33=>first|k_is|rfl)
  (case a34=>first|k_is|rfl)
  (case l34=>first|k_is|rfl)
  (case c34=>first|k_is|rfl)
  (case k34=>first|k_is|rfl)
  (case a35=>first|k_is|rfl)
  (case l35=>first|k_is|rfl)
  (case c35=>first|k_is|rfl)
  (case k35=>first|k_is|rfl)
  (case a36=>first|k_is|rfl)
  (case l36=>first|k_is|rfl)
  (case c36=>first|k_is|rfl)
  (case k36=>first|k_is|rfl)
  (case a37=>first|k_is|rfl)
  (case l37=>first|k_is|rfl)
  (case c37=>first|k_is|rfl)
  (case k37=>first|k_is|rfl)
  (case a38=>first|k_is|rfl)
  (case l38=>first|k_is|rfl)
  (case c38=>first|k_is|rfl)
  (case k38=>first|k_is|rfl)
  (case a39=>first|k_is|rfl)
  (case l39=>first|k_is|rfl)
  (case c39=>first|k_is|rfl)
  (case k39=>first|k_is|rfl)
  (case a40=>first|k_is|rfl)
  (case l40=>first|k_is|rfl)
  (case c40=>first|k_is|rfl)
  (case k40=>first|k_is|rfl)
  (case a41=>first|k_is|rfl)
  (case l41=>first|k_is|rfl)
  (case c41=>first|k_is|rfl)
  (case k41=>first|k_is|rfl)
  (case a42=>first|k_is|rfl)
  (case l42=>first|k_is|rfl)
  (case c42=>first|k_is|rfl)
  (case k42=>first|k_is|rfl)
  (case a43=>first|k_is|rfl)
  (case l43=>first|k_is|rfl)
  (case c43=>first|k_is|rfl)
  (case k43=>first|k_is|rfl)
  (case a44=>first|k_is|rfl)
  (case l44=>first|k_is|rfl)
  (case c44=>first|k_is|rfl)
  (case k44=>first|k_is|rfl)
  (case a45=>first|k_is|rfl)
  (case l45=>first|k_is|rfl)
  (case c45=>first|k_is|rfl)
  (case k45=>first|k_is|rfl)
  (case a46=>first|k_is|rfl)
  (case l46=>first|k_is|rfl)
  (case c46=>first|k_is|rfl)
  (case k46=>first|k_is|rfl)
  (case a47=>first|k_is|rfl)
  (case l47=>first|k_is|rfl)
  (case c47=>first|k_is|rfl)
  (case k47=>first|k_is|rfl)
  (case a48=>first|k_is|rfl)
  (case l48=>first|k_is|rfl)
  (case c48=>first|k_is|rfl)
  (case k48=>first|k_is|rfl)
  (case a49=>first|k_is|rfl)
  (case l49=>first|k_is|rfl)
  (case c49=>first|k_is|rfl)
  (case k49=>first|k_is|rfl)
  (case a50=>first|k_is|rfl)
  (case l50=>first|k_is|rfl)
  (case c50=>first|k_is|rfl)
  (case k50=>first|k_is|rfl)
  (case a51=>first|k_is|rfl)
  (case l51=>first|k_is|rfl)
  (case c51=>first|k_is|rfl)
  (case k51=>first|k_is|rfl)
  (case a52=>first|k_is|rfl)
  (case l52=>first|k_is|rfl)
  (case c52=>first|k_is|rfl)
  (case k52=>first|k_is|rfl)
  (case a53=>first|k_is|rfl)
  (case l53=>first|k_is|rfl)
  (case c53=>first|k_is|rfl)
  (case k53=>first|k_is|rfl)
  (case a54=>first|k_is|rfl)
  (case l54=>first|k_is|rfl)
  (case c54=>first|k_is|rfl)
  (case k54=>first|k_is|rfl)
  (case a55=>first|k_is|rfl)
  (case l55=>first|k_is|rfl)
  (case c55=>first|k_is|rfl)
  (case k55=>first|k_is|rfl)
  (case a56=>first|k_is|rfl)
  (case l56=>first|k_is|rfl)
  (case c56=>first|k_is|rfl)
  (case k56=>first|k_is|rfl)
  (case a57=>first|k_is|rfl)
  (case l57=>first|k_is|rfl)
  (case c57=>first|k_is|rfl)
  (case k57=>first|k_is|rfl)
  (case a58=>first|k_is|rfl)
  (case l58=>first|k_is|rfl)
  (case c58=>first|k_is|rfl)
  (case k58=>first|k_is|rfl)
  (case a59=>first|k_is|rfl)
  (case l59=>first|k_is|rfl)
  (case c59=>first|k_is|rfl)
  (case k59=>first|k_is|rfl)
  (case a60=>first|k_is|rfl)
  (case l60=>first|k_is|rfl)
  (case c60=>first|k_is|rfl)
  (case k60=>first|k_is|rfl)
  (case a61=>first|k_is|rfl)
  (case l61=>first|k_is|rfl)
  (case c61=>first|k_is|rfl)
  (case k61=>first|k_is|rfl)
  (case a62=>first|k_is|rfl)
  (case l62=>first|k_is|rfl)
  (case c62=>first|k_is|rfl)
  (case k62=>first|k_is|rfl)
  (case a63=>first|k_is|rfl)
  (case l63=>first|k_is|rfl)
  (case c63=>first|k_is|rfl)
  (case k63=>first|k_is|rfl)
  (case a64=>first|k_is|rfl)
  (case l64=>first|k_is|rfl)
  (case c64=>first|k_is|rfl)
  (case k64=>first|k_is|rfl)
  (case a65=>first|k_is|rfl)
  (case l65=>first|k_is|rfl)
  (case c65=>first|k_is|rfl)
  (case k65=>first|k_is|rfl)
  (case a66=>first|k_is|rfl)
  (case l66=>first|k_is|rfl)
  (case c66=>first|k_is|rfl)
  (case k66=>first|k_is|rfl)
  (case a67=>first|k_is|rfl)
  (case l67=>first|k_is|rfl)
  (case c67=>first|k_is|rfl)
  (case k67=>first|k_is|rfl)
  (case z_list=>first|k_is|rfl)
  (case z_tuple=>first|k_is|rfl)
  (case z_max=>first|k_is|rfl)
  (case z_range=>first|k_is|rfl)
  (case z_len=>first|k_is|rfl)
  (case z_sum=>first|k_is|rfl)
  (case z_zip=>first|k_is|rfl)
  (case z_enumerate=>first|k_is|rfl)
  (case z_min=>first|k_is|rfl)
  (case z_all=>first|k_is|rfl)
  (case z_int=>first|k_is|rfl)
  (case pg_P=>first|k_is|rfl)
  (case hdd_P=>first|k_is|rfl)
  (case po_P=>first|k_is|rfl)
  (case sa_P=>first|k_is|rfl)
  (case mk_P=>first|k_is|rfl)
  (case kc_P=>first|k_is|rfl)
  (case n_name_P=>first|k_is|rfl)
  (case n_high_P=>first|k_is|rfl)
  (case n_low_P=>first|k_is|rfl)
  (case n_room_P=>first|k_is|rfl)
  (case pg_B=>first|k_is|rfl)
  (case hdd_B=>first|k_is|rfl)
  (case po_B=>first|k_is|rfl)
  (case sa_B=>first|k_is|rfl)
  (case mk_B=>first|k_is|rfl)
  (case kc_B=>first|k_is|rfl)
  (case n_name_B=>first|k_is|rfl)
  (case n_high_B=>first|k_is|rfl)
  (case n_low_B=>first|k_is|rfl)
  (case n_room_B=>first|k_is|rfl)
  (case n_side_B=>first|k_is|rfl)
  (case pg_U=>first|k_is|rfl)
  (case hdd_U=>first|k_is|rfl)
  (case po_U=>first|k_is|rfl)
  (case sa_U=>first|k_is|rfl)
  (case mk_U=>first|k_is|rfl)
  (case kc_U=>first|k_is|rfl)
  (case n_name_U=>first|k_is|rfl)
  (case n_high_U=>first|k_is|rfl)
  (case n_low_U=>first|k_is|rfl)
  (case n_room_U=>first|k_is|rfl)
  (case n_lift_U=>first|k_is|rfl)
  (case g1=>first|k_is|rfl)
  (case g2=>first|k_is|rfl)
  (case pg_R=>first|k_is|rfl)
  (case hdd_R=>first|k_is|rfl)
  (case po_R=>first|k_is|rfl)
  (case sa_R=>first|k_is|rfl)
  (case mk_R=>first|k_is|rfl)
  (case kc_R=>first|k_is|rfl)
  (case nR_name=>first|k_is|rfl)
  (case nR_least=>first|k_is|rfl)
  (case nR_crest=>first|k_is|rfl)
  (case nR_berths=>first|k_is|rfl)
  (case nR_water=>first|k_is|rfl)
  (case nR_target=>first|k_is|rfl)
  (case pg_N=>first|k_is|rfl)
  (case hdd_N=>first|k_is|rfl)
  (case po_N=>first|k_is|rfl)
  (case sa_N=>first|k_is|rfl)
  (case mk_N=>first|k_is|rfl)
  (case kc_N=>first|k_is|rfl)
  (case nN_reaches=>first|k_is|rfl)
  (case nN_locks=>first|k_is|rfl)
  (case nN_nights=>first|k_is|rfl)
  (case gSEA=>first|k_is|rfl)
  (case xX_NotNow=>first|k_is|k_exc|kit_is|kts_exm|rfl)
  (case xX_NotLinked=>first|k_is|k_exc|kit_is|kts_exm|rfl)
  (case gHOME=>first|k_is|rfl)
