import PyProof.Rows.All
import Wide.All
import OpenK.AllK
import Wide.FinOn
import Lean
import PyProof.EqAt
import PyProof.EqKinds
import PyProof.TupleCall
import PyProof.NeKinds
import OpenK.KOwn
import KE.KTryMore
import KE.RegKTryMore
import PyProof.NsDelKeeps
import KE.KIntText
import PySem.Challenge.RW_lockhouse_k59_whole_wetter
set_option Elab.async false
set_option linter.all false
set_option maxRecDepth 100000
namespace L2
open PySem PySem.Spec PyProof.Rows
abbrev kG:=Sum Int Str
def bS:kG→Value→Bool
 |.inl k,v=>Value.isInt k v
 |.inr x,v=>Value.isStrOf x v
def SV (w:World):kG→Int
 |.inl k=>hashInt k
 |.inr x=>hashStr w x
theorem J8:∀{k:kG} {v:Value},bS k v=true→(∃i t,k=Sum.inl i∧v=Value.int i t)∨(∃x t,k=Sum.inr x∧v=Value.str x t)
 |.inl i,v,h=>by
  obtain ⟨t,e⟩:=Value.isInt_shape (k:=i) (v:=v) h
  exact .inl ⟨i,t,rfl,e⟩
 |.inr x,v,h=>by
  obtain ⟨t,e⟩:=Value.isStrOf_shape (x:=x) (v:=v) h
  exact .inr ⟨x,t,rfl,e⟩
theorem L1 (i:Int) (t:Tok):bS (.inl i) (.int i t)=true:=by simp [bS,Value.isInt]
theorem L0 (x:Str) (t:Tok):bS (.inr x) (.str x t)=true:=by simp [bS,Value.isStrOf]
theorem PP (a b:Int):decide ((Sum.inl a:kG)=Sum.inl b)=(a == b):=by
 by_cases e:a=b
 ·subst e;simp
 ·have h:¬(Sum.inl a:kG)=Sum.inl b:=fun q=>e (Sum.inl.inj q)
  rw [decide_eq_false h]
  exact (beq_eq_false_iff_ne.mpr e).symm
theorem PL (a b:Str):decide ((Sum.inr a:kG)=Sum.inr b)=decide (a=b):=by
 by_cases e:a=b
 ·subst e;simp
 ·have h:¬(Sum.inr a:kG)=Sum.inr b:=fun q=>e (Sum.inr.inj q)
  rw [decide_eq_false h,decide_eq_false e]
theorem PN (a:Int) (b:Str):decide ((Sum.inl a:kG)=Sum.inr b)=false:=decide_eq_false (fun q=>nomatch q)
theorem PM (a:Str) (b:Int):decide ((Sum.inr a:kG)=Sum.inl b)=false:=decide_eq_false (fun q=>nomatch q)
def yS (prog:Program) (w:World):PySem.KeyKind prog w kG where
 is:=bS
 hash:=SV w
 inj:=fun v a b ha hb=>by
  rcases J8 ha with ⟨i,t,rfl,rfl⟩|⟨x,t,rfl,rfl⟩
  ·rcases J8 hb with ⟨j,u,rfl,e⟩|⟨y,u,rfl,e⟩
   ·injection e with e1 _;rw [e1]
   ·exact nomatch e
  ·rcases J8 hb with ⟨j,u,rfl,e⟩|⟨y,u,rfl,e⟩
   ·exact nomatch e
   ·injection e with e1 _;rw [e1]
 byValue:=fun k v h=>by
  rcases J8 h with ⟨i,t,rfl,rfl⟩|⟨x,t,rfl,rfl⟩<;>rfl
 pyHash:=fun hv h=>by
  rcases J8 hv with ⟨i,t,rfl,rfl⟩|⟨x,t,rfl,rfl⟩
  ·exact wpAny_pyHash_int h
  ·exact wpAny_pyHash_str h
 eqBool:=fun hu hv h=>by
  rcases J8 hu with ⟨i,t,rfl,rfl⟩|⟨x,t,rfl,rfl⟩
  ·rcases J8 hv with ⟨j,u,rfl,rfl⟩|⟨y,u,rfl,rfl⟩
   ·rw [PP] at h;exact wpAny_eqBool_int h
   ·rw [PN] at h;exact SeqAt.EqAt.int_str i t y u _ _ _ _ h
  ·rcases J8 hv with ⟨j,u,rfl,rfl⟩|⟨y,u,rfl,rfl⟩
   ·rw [PM] at h;exact SeqAt.EqAt.str_int x t j u _ _ _ _ h
   ·rw [PL] at h;exact wpAny_eqBool_str h
 «strs»:=fun k x t v h=>by
  rcases J8 h with ⟨i,u,rfl,e⟩|⟨y,u,rfl,e⟩
  ·exact nomatch e
  ·injection e with e1 _
   subst e1
   cases v<;>rfl
theorem IP (prog:Program) (w:World) (i:Int) (t:Tok):(yS prog w).is (.inl i) (.int i t)=true:=L1 i t
theorem IO (prog:Program) (w:World) (x:Str) (t:Tok):(yS prog w).is (.inr x) (.str x t)=true:=L0 x t
end L2
namespace L2
open PySem PySem.Spec PyProof.Rows
inductive V where
 |non|bl (b:Bool)|int (i:Int)|str (x:Str)|byt (b:Array UInt8)|flt (b:UInt64)|ref (a:Addr)|ty (n:String)
 deriving DecidableEq
def RelV:V→Value→Prop
 |.non,u=>u=Value.none
 |.bl b,u=>u=Value.bool b
 |.int i,u=>∃t,u=Value.int i t
 |.str x,u=>∃t,u=Value.str x t
 |.byt b,u=>∃t,u=Value.bytes b t
 |.flt b,u=>∃t,u=Value.float b t
 |.ref a,u=>u=Value.ref a
 |.ty n,u=>u=Value.type n
abbrev Vals:List V→List Value→Prop:=Paired RelV
theorem Vals.length {xs:List V} {us:List Value} (r:Vals xs us):xs.length=us.length:=Paired.length r
theorem Vals.get:∀{xs:List V} {us:List Value} {i:Nat} {x:V},Vals xs us→xs[i]?=some x→∃u,us[i]?=some u∧RelV x u
 |_,_,_,_,.nil,e=>by simp at e
 |_,_,0,_,.cons r _,e=>by simp at e;subst e;exact ⟨_,rfl,r⟩
 |_,_,i+1,x,.cons _ t,e=>by
  obtain ⟨u,h1,h2⟩:=Vals.get (i:=i) (x:=x) t (by simpa using e)
  exact ⟨u,by simpa using h1,h2⟩
theorem Vals.set {x:V} {u:Value} (r:RelV x u):∀{xs:List V} {us:List Value} (i:Nat),Vals xs us→Vals (xs.set i x) (us.set i u)
 |_,_,_,.nil=>.nil
 |_,_,0,.cons _ t=>.cons r t
 |_,_,i+1,.cons q t=>.cons q (Vals.set r i t)
theorem Vals.append:∀{xs ys:List V} {us ws:List Value},Vals xs us→Vals ys ws→Vals (xs++ys) (us++ws)
 |_,_,_,_,.nil,s=>s
 |_,_,_,_,.cons r t,s=>.cons r (Vals.append t s)
theorem Vals.take:∀{xs:List V} {us:List Value} (n:Nat),Vals xs us→Vals (xs.take n) (us.take n)
 |_,_,0,_=>.nil
 |_,_,_+1,.nil=>.nil
 |_,_,n+1,.cons r t=>.cons r (Vals.take n t)
theorem Vals.drop:∀{xs:List V} {us:List Value} (n:Nat),Vals xs us→Vals (xs.drop n) (us.drop n)
 |_,_,0,r=>r
 |_,_,_+1,.nil=>.nil
 |_,_,n+1,.cons _ t=>Vals.drop n t
def RelO:Option V→Option Value→Prop
 |some v,some u=>RelV v u
 |none,none=>True
 |_,_=>False
def KV {κ:Type}:List (κ×V)→List (κ×Value)→Prop:=Paired fun (p:κ×V) (q:κ×Value)=>p.1=q.1∧RelV p.2 q.2
def kV:kG→V
 |.inl i=>.int i
 |.inr x=>.str x
inductive HO where
 /-- a list -/
 |lst (xs:List V)
 /-- a tuple (never changes) -/
 |tup (xs:List V)
 /-- a dict whose keys are ints and texts;one whose keys are tuples of ints and texts (the empty one is both) -/
 |dK (kvs:List (kG×V))|dT (kvs:List (List kG×V))
 /-- a set of ints: its members,its size -/
 |set (S:Int→Bool) (n:Nat)
 /-- an instance of the class at C,its dict at dx,its attributes -/
 |ins (C dx:Addr) (fs:List (Str×V))
 /-- the dict of the instance at x -/
 |own (x:Addr)
 /-- the dict of an exception -/
 |xd (fs:List (Str×V))
 /-- a bound method,f of x -/
 |met (f x:Addr)
 /-- a range object lo,lo+1,.. below hi -/
 |rng (lo hi:Int)
 /-- a thing that is known to the object (the script;a dict while a loop walks it): read,never written while it is so -/
 |frz (o:Obj) (u:HO)
 /-- a code object's table -/
 |tbl (ps:Array Value)
 /-- any other thing,by what is true of its one object (a def of one's own: SetO a S n:=HO.ext fun h=>..) -/
 |ext (φ:Heap→Prop)
abbrev Hp:=Addr→Option HO
def upd (H:Hp) (a:Addr) (o:HO):Hp:=fun b=>if b=a then some o else H b
variable {H:Hp} {a:Addr} {o:HO}
theorem jE:upd H a o a=some o:=by unfold upd;rw [if_pos rfl]
variable {b:Addr}
theorem jL (h:b≠a):upd H a o b=H b:=by unfold upd;rw [if_neg h]
variable {u:HO}
theorem JV (h:H a=some o) (h':H b=some u) (d:o≠u):a≠b:=by
 intro e;subst e;rw [h] at h';exact d (Option.some.inj h')
theorem q8 (h:H a=some o) (h':H b=none):a≠b:=by
 intro e;subst e;rw [h] at h';cases h'
section
variable (P:Program) (w:World)
def ObjOk (H:Hp) (h:Heap) (a:Addr):HO→Prop
 |.lst xs=>xs.length≤sizeLine∧∃(its:List Value) (n:Nat),Vals xs its∧h.get? a=some {cls:=.type "list",data:=.seq its.toArray n}
 |.tup xs=>xs.length≤sizeLine∧∃its:List Value,Vals xs its∧IsTup h a its.toArray
 |.dK kvs=>kvs.length≤sizeLine∧(a == sysModules)=false∧∃vs,KV kvs vs∧h.DictOf (yS P w) a vs
 |.dT kvs=>kvs.length≤sizeLine∧(a == sysModules)=false∧∃xs:List (List kG×Addr×Value),
   Paired (fun (p:List kG×V) (q:List kG×Addr×Value)=>p.1=q.1∧H q.2.1=some (.tup (p.1.map kV))∧RelV p.2 q.2.2) kvs xs∧
   ∃o es ep,h.get? a=some o∧o.ExactDict∧o.data=.dict es ep∧es.toList=xs.map (entryOfKey (tupleKind (yS P w)))∧(xs.map (·.1)).Nodup
 |.set S n=>h.SetOf (intKind P w) a S n
 |.ins C dx fs=>H dx=some (.own a)∧fs.length≤1000∧dx≠a∧h.get? a=some (PySem.W.instObj C dx)∧
   ∃mA,h.Ns1 dx mA∧(∀f,RelO (fs.lookup f) (mA f))∧PySem.Within mA (fs.map (·.1))
 |.own _=>∃o,h.get? a=some o
 |.xd fs=>∃mA,h.Ns1 a mA∧∀f,RelO (fs.lookup f) (mA f)
 |.rng lo hi=>∃t u v,h.get? a=some {cls:=.type "range",data:=.fields #[.int lo t,.int hi u,.int 1 v]}
 |.frz o u=>h.get? a=some o∧ObjOk H h a u
 |.tbl ps=>h.get? a=some {cls:=.none,data:=.fields ps}
 |.met f x=>h.get? a=some (PySem.W.methodObj (.ref f) (.ref x))
 |.ext φ=>φ h∧(∃o,h.get? a=some o)∧∀h1 h2:Heap,φ h1→(∀o,h1.get? a=some o→h2.get? a=some o)→φ h2
def HOk (H:Hp) (h:Heap):Prop:=∀a o,H a=some o→ObjOk P w H h a o
end
section
variable {P:Program} {w:World} {H H':Hp} {h h':Heap} {a:Addr} {o:HO}
theorem ObjOk.lt (x:ObjOk P w H h a o):a<h.objs.size:=by
 cases o with
 |lst xs=>obtain ⟨_,_,_,_,e⟩:=x;exact Heap.lt_size e
 |tup xs=>obtain ⟨_,_,_,p⟩:=x;exact p.lt
 |dK kvs=>obtain ⟨_,_,_,_,o,_,_,e,_⟩:=x;exact Heap.lt_size e
 |dT kvs=>obtain ⟨_,_,_,_,o,_,_,e,_⟩:=x;exact Heap.lt_size e
 |set S n=>obtain ⟨o,_,_,_,e,_⟩:=x;exact Heap.lt_size e
 |ins C dx fs=>obtain ⟨_,_,_,e,_⟩:=x;exact Heap.lt_size e
 |own y=>obtain ⟨_,e⟩:=x;exact Heap.lt_size e
 |xd fs=>obtain ⟨_,⟨_,_,_,e,_⟩,_⟩:=x;exact Heap.lt_size e
 |rng lo hi=>obtain ⟨_,_,_,e⟩:=x;exact Heap.lt_size e
 |frz ob u=>obtain ⟨e,_⟩:=x;exact Heap.lt_size e
 |tbl ps=>exact Heap.lt_size (show h.get? a=some _ from x)
 |met f y=>exact Heap.lt_size (show h.get? a=some _ from x)
 |ext φ=>obtain ⟨_,⟨_,e⟩,_⟩:=x;exact Heap.lt_size e
theorem Paired.mapP {α β:Type} {F G:α→β→Prop}:∀{l₁:List α} {l₂:List β},Paired F l₁ l₂→(∀a b,F a b→G a b)→Paired G l₁ l₂
 |_,_,.nil,_=>.nil
 |_,_,.cons r t,f=>.cons (f _ _ r) (Paired.mapP t f)
theorem ObjOk.stay (x:ObjOk P w H h a o) (k:∀b u,(b=a∨H b=some (.own a))→h.get? b=some u→h'.get? b=some u)
  (ho:∀b,H b=some (.own a)→H' b=some (.own a)) (ht:∀b xs,H b=some (.tup xs)→H' b=some (.tup xs)):ObjOk P w H' h' a o:=by
 induction o with
 |lst xs=>obtain ⟨z,its,n,r,e⟩:=x;exact ⟨z,its,n,r,k _ _ (.inl rfl) e⟩
 |tup xs=>obtain ⟨z,its,r,ob,e,c⟩:=x;exact ⟨z,its,r,ob,k _ _ (.inl rfl) e,c⟩
 |dK kvs=>obtain ⟨z,y,vs,r,ob,es,ep,e,c⟩:=x;exact ⟨z,y,vs,r,ob,es,ep,k _ _ (.inl rfl) e,c⟩
 |dT kvs =>
  obtain ⟨z,y,xs,r,ob,es,ep,e,c⟩:=x
  exact ⟨z,y,xs,Paired.mapP r fun p q z=>⟨z.1,ht _ _ z.2.1,z.2.2⟩,ob,es,ep,k _ _ (.inl rfl) e,c⟩
 |set S n=>obtain ⟨ob,es,ep,t,e,c⟩:=x;exact ⟨ob,es,ep,t,k _ _ (.inl rfl) e,c⟩
 |ins C dx fs =>
  obtain ⟨d,z,ne,e,mA,⟨od,es,ep,e2,c⟩,r⟩:=x
  exact ⟨ho _ d,z,ne,k _ _ (.inl rfl) e,mA,⟨od,es,ep,k _ _ (.inr d) e2,c⟩,r⟩
 |own y=>obtain ⟨ob,e⟩:=x;exact ⟨ob,k _ _ (.inl rfl) e⟩
 |xd fs=>obtain ⟨mA,⟨od,es,ep,e,c⟩,r⟩:=x;exact ⟨mA,⟨od,es,ep,k _ _ (.inl rfl) e,c⟩,r⟩
 |rng lo hi=>obtain ⟨t,u,v,e⟩:=x;exact ⟨t,u,v,k _ _ (.inl rfl) e⟩
 |frz ob u ih=>obtain ⟨e,q⟩:=x;exact ⟨k _ _ (.inl rfl) e,ih q⟩
 |tbl ps =>
  have e:h.get? a=some {cls:=.none,data:=.fields ps}:=x
  show h'.get? a=some {cls:=.none,data:=.fields ps}
  exact k a _ (.inl rfl) e
 |met f y =>
  have e:h.get? a=some (PySem.W.methodObj (.ref f) (.ref y)):=x
  show h'.get? a=some (PySem.W.methodObj (.ref f) (.ref y))
  exact k a _ (.inl rfl) e
 |ext φ=>obtain ⟨p,⟨o,e⟩,st⟩:=x;exact ⟨st _ _ p fun o q=>k _ _ (.inl rfl) q,⟨o,k _ _ (.inl rfl) e⟩,st⟩
theorem HOk.lt (x:HOk P w H h) (e:H a=some o):a<h.objs.size:=(x a o e).lt
theorem HOk.fresh (x:HOk P w H h) (e:h.objs.size≤a):H a=none:=by
 cases q:H a with
 |none=>rfl
 |some u=>exact absurd (Nat.lt_of_lt_of_le (x.lt q) e) (Nat.lt_irrefl _)
theorem HOk.kept (x:HOk P w H h) (k:∀b u,h.get? b=some u→h'.get? b=some u):HOk P w H h':=fun a o e =>
 (x a o e).stay (fun b u _ q=>k b u q) (fun _ q=>q) fun _ _ q=>q
theorem HOk.laid (x:HOk P w H h) (k:∀b u,h.get? b=some u→h'.get? b=some u) (hp:h.objs.size≤a) (new:ObjOk P w (upd H a o) h' a o):HOk P w (upd H a o) h':=fun b u e=>by
 have hn:=x.fresh hp
 by_cases hb:b=a
 ·subst hb;rw [jE] at e;cases e;exact new
 ·rw [jL hb] at e
  exact (x b u e).stay (fun c v _ q=>k c v q) (fun c q=>by rw [jL (q8 q hn)];exact q) fun c xs q=>by rw [jL (q8 q hn)];exact q
end
def Rd (H:Hp) (a:Addr) (u:HO):Prop:=H a=some u∨∃o,H a=some (.frz o u)
theorem Rd.of (h:H a=some u):Rd H a u:=.inl h
variable {h:Heap}
theorem Rd.ok {P:Program} {w:World} (r:Rd H a u) (x:HOk P w H h):ObjOk P w H h a u:=by
 rcases r with r|⟨o,r⟩
 ·exact x a u r
 ·obtain ⟨_,q⟩:=x a _ r
  exact q
def eP:Option HO→Prop
 |some (.lst _)=>True
 |some (.dK _)=>True
 |some (.dT _)=>True
 |some (.set _ _)=>True
 |some (.ins _ _ _)=>True
 |some (.ext _)=>True
 |_=>False
section
variable {P:Program} {w:World} {H:Hp} {h h':Heap} {x e:Addr} {o':HO}
theorem HOk.write (ok:HOk P w H h) (mu:eP (H x)) (he:e=x∨H e=some (.own x)) (k:∀b u,b≠e→h.get? b=some u→h'.get? b=some u) (heo:∃u,h'.get? e=some u)
  (new:ObjOk P w (upd H x o') h' x o'):HOk P w (upd H x o') h':=fun b u q=>by
 have nown:∀c y,H c=some (.own y)→c≠x:=fun c y r z=>by subst z;rw [r] at mu;exact mu
 have ntup:∀c xs,H c=some (.tup xs)→c≠x:=fun c xs r z=>by subst z;rw [r] at mu;exact mu
 by_cases hb:b=x
 ·subst hb;rw [jE] at q;cases q;exact new
 ·rw [jL hb] at q
  by_cases hbe:b=e
  ·have q':H b=some (.own x):=by
    rcases he with z|z
    ·exact absurd (hbe.trans z) hb
    ·rw [hbe];exact z
   rw [q] at q';cases q'
   obtain ⟨v,hv⟩:=heo
   exact ⟨v,by rw [hbe];exact hv⟩
  ·refine (ok b u q).stay (fun c v hc r=>k c v ?_ r) (fun c r=>by rw [jL (nown c b r)];exact r) fun c xs r=>by rw [jL (ntup c xs r)];exact r
   rcases hc with rfl|hc
   ·exact hbe
   ·rintro rfl
    rcases he with z|z
    ·exact nown c b hc z
    ·rw [hc] at z;cases z;exact hb rfl
end
structure Un (fs ex:List Addr) (H H':Hp) (h h':Heap):Prop where
 keep:∀b o,h.get? b=some o→H b=none→b∉fs→b∉ex→h'.get? b=some o
 slot:∀b o,h.get? b=some o→H b=none→b∈fs→b∉ex→∃sl,h'.get? b=some {o with slots:=sl}
 free:∀b o,h.get? b=some o→H b=none→b∉ex→H' b=none
 there:∀b o,h.get? b=some o→b∉ex→∃o',h'.get? b=some o'
 tups:∀b xs,H b=some (.tup xs)→H' b=some (.tup xs)
 frzs:∀b o u,H b=some (.frz o u)→H' b=some (.frz o u)
 tbls:∀b ps,H b=some (.tbl ps)→∃more,H' b=some (.tbl (ps++more))
section
variable {fs fs' ex ex':List Addr} {H H1 H2:Hp} {h h1 h2 h':Heap} {a x e:Addr} {o:HO}
theorem Un.any (u:Un fs ex H H1 h h1) {b:Addr} {ob:Obj} (q:h.get? b=some ob) (n:H b=none) (hx:b∉ex):∃sl,h1.get? b=some {ob with slots:=sl}:=by
 by_cases hb:b∈fs
 ·exact u.slot b ob q n hb hx
 ·exact ⟨ob.slots,u.keep b ob q n hb hx⟩
theorem Un.kept (k:∀b u,h.get? b=some u→h'.get? b=some u):Un fs ex H H h h' :=
 ⟨fun b ob q _ _ _=>k b ob q,fun b ob q _ _ _=>⟨ob.slots,k b ob q⟩,fun _ _ _ n _=>n,fun b ob q _=>⟨ob,k b ob q⟩,fun _ _ q=>q,fun _ _ _ q=>q,fun _ ps q=>⟨#[],by rw [q];simp⟩⟩
theorem Un.refl:Un fs ex H H h h:=Un.kept fun _ _ q=>q
theorem Un.laid (k:∀b u,h.get? b=some u→h'.get? b=some u) (hp:h.objs.size≤a) (hn:H a=none):Un fs ex H (upd H a o) h h' where
 keep:=fun b u q _ _ _=>k b u q
 slot:=fun b u q _ _ _=>⟨u.slots,k b u q⟩
 free:=fun b u q n _=>by rw [jL (Nat.ne_of_lt (Nat.lt_of_lt_of_le (Heap.lt_size q) hp))];exact n
 there:=fun b u q _=>⟨u,k b u q⟩
 tups:=fun b xs q=>by rw [jL (q8 q hn)];exact q
 frzs:=fun b u xs q=>by rw [jL (q8 q hn)];exact q
 tbls:=fun b ps q=>⟨#[],by rw [jL (q8 q hn),q];simp⟩
theorem Un.write (mu:eP (H x)) (he:e=x∨H e=some (.own x)) (k:∀b u,b≠e→h.get? b=some u→h'.get? b=some u) (heo:∃u,h'.get? e=some u):Un fs ex H (upd H x o) h h':=by
 have hx:∀b,H b=none→b≠x:=fun b n z=>by subst z;rw [n] at mu;exact mu
 have hb:∀b,H b=none→b≠e:=fun b n z=>by
  subst z
  rcases he with r|r
  ·exact hx b n r
  ·rw [n] at r;cases r
 have hm:∀b u,H b=some u→¬eP (some u)→b≠x:=fun b u q nm z=>by subst z;rw [q] at mu;exact nm mu
 refine ⟨fun b u q n _ _=>k b u (hb b n) q,fun b u q n _ _=>⟨u.slots,k b u (hb b n) q⟩,fun b u q n _=>by rw [jL (hx b n)];exact n,fun b u q _=>?_,
  fun b xs q=>by rw [jL (hm b _ q fun z=>z)];exact q,fun b u xs q=>by rw [jL (hm b _ q fun z=>z)];exact q,fun b ps q=>⟨#[],by rw [jL (hm b _ q fun z=>z),q];simp⟩⟩
 by_cases hbe:b=e
 ·subst hbe;exact heo
 ·exact ⟨u,k b u hbe q⟩
end
def z9 (h:Heap) (H:Hp):List Addr:=(List.range h.objs.size).filter fun a=>(H a).isSome
def JZ (h:Heap) (H:Hp):Heap:=PySem.W.hideAll h (z9 h H)
theorem L3 (h:Heap) (H:Hp):(JZ h H).objs.size=h.objs.size:=PySem.W.hideAll_size _ _
theorem gN {o:Obj} (e:h.get? b=some o) (n:H b=none):(JZ h H).get? b=some o :=
 PySem.W.hideAll_get _ e fun hm=>by
  have q:(H b).isSome=true:=(List.mem_filter.mp hm).2
  rw [n] at q;simp at q
theorem OD {o:Obj} (e:(JZ h H).get? b=some o):h.get? b=some o∧H b=none:=by
 have e':h.get? b=some o:=PySem.W.of_hideAll (z9 h H) e
 refine ⟨e',?_⟩
 cases q:H b with
 |none=>rfl
 |some x =>
  have hm:b∈z9 h H:=List.mem_filter.mpr ⟨List.mem_range.mpr (Heap.lt_size e'),by simp [q]⟩
  have z:(JZ h H).get? b=none:=PySem.W.hideAll_none (z9 h H) hm
  rw [z] at e;cases e
def OW (g h:Heap) (L:Addr):List (Addr×Obj):=(List.range h.objs.size).filterMap fun a=>if a=L∨(g.get? a).isSome=true then none else (h.get? a).map fun o=>(a,o)
def rest (g h:Heap) (L d:Addr):List (Addr×Obj):=(OW g h L).filter fun p=>decide (p.1≠d)
end L2
namespace L2
open PySem PySem.Spec PyProof.Rows
structure Mod (K:PySem.W.Frag) (mg:Str→Option Value) (base:Heap):Prop where
 kin:K.In base
 glob:base.Ns mainGlobals mg
 blt:∃mb,base.Ns builtinsNs mb∧∀x:Str,x≠"__name__"→mb x=bootBuiltins x
 nolimit:base.NoLimit
structure Cx where
 prog:Program
 w:World
 K:PySem.W.Frag
 mg:Str→Option Value
 base:Heap
 A:Around
 N:List Str
 s₀:Shared
 H₀:Hp
 env:Env
 outer:List Env
 stack:List Env
 ex:List Addr
 fn:Str→Bool
 calm:Bool
 pn:List (Addr×Obj)
 xe:Value→Shared→Prop
def kM (l:List Env):List Addr:=l.filterMap (·.frame)
abbrev Cx.fs (X:Cx):List Addr:=kM X.outer
def eM (sc:Scope) (x:Str):Prop:=sc.names.lookup x=some .local∨sc.names.lookup x=some .cell∨sc.names.lookup x=some .free
def eQ (sc:Scope) (x:Str):Prop:=sc.names.lookup x=some .local∨sc.names.lookup x=some .cell
def S5 (env:Env) (h:Heap) (m:Str→Option Value) (x:Str) (u:Value):Prop :=
 (env.kindOf x=some .local∧m x=some u)∨((env.kindOf x=some .cell∨env.kindOf x=some .free)∧∃c,env.cells.lookup x=some c∧h.IsCell c (some u))
structure Cx.Ok (X:Cx):Prop where
 mod:Mod X.K X.mg X.base
 kind:X.env.scope.kind=.function
 glob:X.env.globals=mainGlobals
 blt:X.env.builtins=builtinsNs
 above:X.s₀.heap.objs.size≤X.env.locals
 inj:∀x y c,X.env.cells.lookup x=some c→X.env.cells.lookup y=some c→x=y
 has:∀x,(X.env.kindOf x=some .cell∨X.env.kindOf x=some .free)→∃c,X.env.cells.lookup x=some c
 cab:∀x c,X.fn x=true→X.env.cells.lookup x=some c→X.s₀.heap.objs.size≤c
 hd:X.calm=true→X.A.handled=none
 frames:X.A.frames=some X.stack
 stk:X.stack=X.outer∨(X.stack=X.env::X.outer∧X.env.frame=some X.env.locals)
 exf:∀b∈X.ex,b≠X.env.locals∧∀x c,X.env.cells.lookup x=some c→c≠b
 bs:∀b o,X.base.get? b=some o→X.s₀.heap.get? b=some o∧X.H₀ b=none
 bsz:X.base.objs.size≤X.s₀.heap.objs.size
 noex:∀b o,X.base.get? b=some o→b∉X.ex
 exfs:∀b∈X.ex,b∉X.fs
 funs:X.s₀.heap.FunFrames X.base X.outer
 frf:∀b∈X.fs,X.H₀ b=none
structure Inv (X:Cx) (pins:List (Addr×Obj)) (σ:List (Option V)) (H:Hp) (s:Shared):Prop where
 ok:X.Ok
 os:s.os=X.s₀.os
 bare:AllBare s.gens
 base:Un X.fs X.ex X.H₀ H X.s₀.heap s.heap
 loc:∃m,s.heap.Ns X.env.locals m∧∀(i:Nat) (x:Str) (v:V),X.N[i]?=some x→σ[i]?=some (some v)→eM X.env.scope x→∃u,RelV v u∧S5 X.env s.heap m x u
 cell:∀x c,X.env.cells.lookup x=some c→∃v,s.heap.IsCell c v
 free:H X.env.locals=none
 freeC:∀x c,X.env.cells.lookup x=some c→H c=none
 pin:∀p∈X.pn++pins,s.heap.get? p.1=some p.2∧H p.1=none∧p.1≠X.env.locals∧p.1∉X.fs∧∀v,p.2.data≠.cell v
 hok:HOk X.prog X.w H s.heap
 len:σ.length=X.N.length
section
variable {X:Cx} {pins:List (Addr×Obj)} {σ:List (Option V)} {H H':Hp} {s:Shared} {h':Heap}
theorem Cx.Ok.nofr (ok:X.Ok) {b:Addr} {o:Obj} (e:X.base.get? b=some o):b∉X.fs:=fun hb=>by
 have:=(ok.funs.mem hb).1
 rw [e] at this;cases this
theorem Inv.bs (I:Inv X pins σ H s):∀b o,X.base.get? b=some o→s.heap.get? b=some o∧H b=none:=fun b o e =>
 ⟨I.base.keep b o (I.ok.bs b o e).1 (I.ok.bs b o e).2 (I.ok.nofr e) (I.ok.noex b o e),I.base.free b o (I.ok.bs b o e).1 (I.ok.bs b o e).2 (I.ok.noex b o e)⟩
theorem Inv.bk (I:Inv X pins σ H s):∀b o,X.base.get? b=some o→s.heap.get? b=some o:=fun b o e=>(I.bs b o e).1
theorem Inv.mod (I:Inv X pins σ H s):Mod X.K X.mg X.base:=I.ok.mod
theorem Inv.kIn (I:Inv X pins σ H s):X.K.In s.heap:=I.ok.mod.kin.keeps I.bk
theorem Inv.lt (I:Inv X pins σ H s):X.env.locals<s.heap.objs.size:=let ⟨_,hn,_⟩:=I.loc;hn.lt
theorem Inv.sz (I:Inv X pins σ H s):X.s₀.heap.objs.size≤s.heap.objs.size:=Nat.le_trans I.ok.above (Nat.le_of_lt I.lt)
theorem Inv.nofs (I:Inv X pins σ H s) {a:Addr} (h:s.heap.objs.size≤a):a∉X.fs:=fun hb=>by
 obtain ⟨_,o,ho,_⟩:=I.ok.funs.mem hb
 exact absurd (Nat.lt_of_lt_of_le (Heap.lt_size ho) (Nat.le_trans I.sz h)) (Nat.lt_irrefl _)
theorem Inv.cne (I:Inv X pins σ H s):∀x c,X.env.cells.lookup x=some c→c≠X.env.locals:=fun x c e z=>by
 obtain ⟨v,o,ho,hd⟩:=I.cell x c e
 obtain ⟨m,⟨o',es,ep,ho',hd',_⟩,_⟩:=I.loc
 rw [z,ho'] at ho;cases ho;rw [hd'] at hd;cases hd
theorem Inv.funs (I:Inv X pins σ H s):s.heap.FunFrames X.base X.outer:=by
 have all:∀(l:List Env),(∀b∈kM l,b∈X.fs)→X.s₀.heap.FunFrames X.base l→s.heap.FunFrames X.base l:=by
  intro l
  induction l with
  |nil=>intro _ _;trivial
  |cons env r ih =>
   intro hs hl
   obtain ⟨hk,⟨L,o,hf,hn,ho,hd⟩,hr⟩:=hl
   have hL:L∈X.fs:=hs L (by unfold kM;rw [List.filterMap_cons,hf];exact List.mem_cons_self)
   obtain ⟨sl,e⟩:=I.base.slot L o ho (I.ok.frf L hL) hL fun z=>I.ok.exfs L z hL
   exact ⟨hk,⟨L,_,hf,hn,e,hd⟩,ih (fun b hb=>hs b (by unfold kM;rw [List.filterMap_cons,hf];exact List.mem_cons_of_mem _ hb)) hr⟩
 exact all X.outer (fun _ hb=>hb) I.ok.funs
theorem Inv.stack (I:Inv X pins σ H s):s.heap.FunFrames X.base X.stack:=by
 rcases I.ok.stk with e|⟨e,hf⟩
 ·rw [e];exact I.funs
 ·rw [e]
  obtain ⟨m,hn,_⟩:=I.loc
  refine .cons (by rw [I.ok.kind];decide) hf hn ?_ I.funs
  exact Heap.get?_none_of_le (Nat.le_trans I.ok.bsz I.ok.above)
theorem Inv.stkSub (I:Inv X pins σ H s):∀b∈kM X.stack,b∈X.env.locals::X.fs:=fun b hb=>by
 rcases I.ok.stk with e|⟨e,hf⟩
 ·rw [e] at hb;exact List.mem_cons_of_mem _ hb
 ·rw [e] at hb
  unfold kM at hb
  rw [List.filterMap_cons,hf] at hb
  exact hb
theorem Inv.stkFree (I:Inv X pins σ H s):∀b∈kM X.stack,H b=none:=fun b hb=>by
 rcases List.mem_cons.mp (I.stkSub b hb) with e|hb
 ·rw [e];exact I.free
 ·obtain ⟨_,o,ho,_⟩:=I.ok.funs.mem hb
  exact I.base.free b o ho (I.ok.frf b hb) fun z=>I.ok.exfs b z hb
theorem Inv.step {g':Array GenState} {t':Nat} {d':Drawn} {ch:List Addr} (I:Inv X pins σ H s)
  (hch:∀b∈ch,(b∈X.ex∨X.s₀.heap.objs.size≤b)∧b≠X.env.locals∧(∀x c,X.env.cells.lookup x=some c→c≠b)∧∀p∈X.pn++pins,p.1≠b)
  (keep:∀b o,b≠X.env.locals→b∉X.fs→b∉ch→s.heap.get? b=some o→H b=none→h'.get? b=some o)
  (slot:∀b o,b≠X.env.locals→b∈X.fs→b∉ch→s.heap.get? b=some o→H b=none→∃sl,h'.get? b=some {o with slots:=sl}) (free:∀b o,b∉ch→s.heap.get? b=some o→H b=none→H' b=none)
  (there:∀b o,b∉ch→s.heap.get? b=some o→∃o',h'.get? b=some o')
  (tups:∀b xs,H b=some (.tup xs)→H' b=some (.tup xs)) (frzs:∀b o u,H b=some (.frz o u)→H' b=some (.frz o u)) (tbls:∀b ps,H b=some (.tbl ps)→∃more,H' b=some (.tbl (ps++more)))
  (ns:∀m,s.heap.Ns X.env.locals m→h'.Ns X.env.locals m) (hok:HOk X.prog X.w H' h') (hg:AllBare g') :
  Inv X pins σ H' {s with heap:=h',gens:=g',drawn:=d',toks:=t'}:=by
 have neL:∀b o,X.s₀.heap.get? b=some o→b≠X.env.locals:=fun b o e=>Nat.ne_of_lt (Nat.lt_of_lt_of_le (Heap.lt_size e) I.ok.above)
 have neC:∀b o,X.s₀.heap.get? b=some o→b∉X.ex→b∉ch:=fun b o e hx hb=>by
  rcases (hch b hb).1 with z|z
  ·exact hx z
  ·exact absurd (Nat.lt_of_lt_of_le (Heap.lt_size e) z) (Nat.lt_irrefl _)
 have cellK:∀x c,X.env.cells.lookup x=some c→∀v,s.heap.IsCell c v→h'.IsCell c v:=fun x c e v ⟨o,ho,hd⟩=>by
  have nch:c∉ch:=fun z=>(hch c z).2.2.1 x c e rfl
  by_cases hc:c∈X.fs
  ·obtain ⟨sl,q⟩:=slot c o (I.cne x c e) hc nch ho (I.freeC x c e)
   exact ⟨_,q,hd⟩
  ·exact ⟨o,keep c o (I.cne x c e) hc nch ho (I.freeC x c e),hd⟩
 refine ⟨I.ok,I.os,hg,⟨fun b o e n hb hx=>?_,fun b o e n hb hx=>?_,fun b o e n hx=>?_,fun b o e hx=>?_,fun b xs e=>tups b xs (I.base.tups b xs e),fun b o xs e=>frzs b o xs (I.base.frzs b o xs e),fun b ps e=>?_⟩,?_,fun x c e=>?_,?_,fun x c e=>?_,fun p hp=>?_,hok,I.len⟩
 ·exact keep b o (neL b o e) hb (neC b o e hx) (I.base.keep b o e n hb hx) (I.base.free b o e n hx)
 ·obtain ⟨sl,e1⟩:=I.base.slot b o e n hb hx
  obtain ⟨sl',e2⟩:=slot b _ (neL b o e) hb (neC b o e hx) e1 (I.base.free b o e n hx)
  exact ⟨sl',e2⟩
 ·obtain ⟨o',e1⟩:=I.base.there b o e hx
  exact free b o' (neC b o e hx) e1 (I.base.free b o e n hx)
 ·obtain ⟨o',e1⟩:=I.base.there b o e hx
  exact there b o' (neC b o e hx) e1
 ·obtain ⟨m1,e1⟩:=I.base.tbls b ps e
  obtain ⟨m2,e2⟩:=tbls b _ e1
  exact ⟨m1++m2,by rw [e2,Array.append_assoc]⟩
 ·obtain ⟨m,hn,hl⟩:=I.loc
  refine ⟨m,ns m hn,fun i x v e1 e2 e3=>?_⟩
  obtain ⟨u,r,l⟩:=hl i x v e1 e2 e3
  refine ⟨u,r,?_⟩
  rcases l with l|⟨k,c,e,z⟩
  ·exact .inl l
  ·exact .inr ⟨k,c,e,cellK x c e _ z⟩
 ·obtain ⟨v,z⟩:=I.cell x c e
  exact ⟨v,cellK x c e v z⟩
 ·obtain ⟨m,⟨o,_,_,ho,_⟩,_⟩:=I.loc
  exact free _ o (fun z=>(hch _ z).2.1 rfl) ho I.free
 ·obtain ⟨v,o,ho,hd⟩:=I.cell x c e
  exact free c o (fun z=>(hch c z).2.2.1 x c e rfl) ho (I.freeC x c e)
 ·obtain ⟨e,n,ne,nf,d⟩:=I.pin p hp
  have nch:p.1∉ch:=fun z=>(hch p.1 z).2.2.2 p hp rfl
  exact ⟨keep p.1 p.2 ne nf nch e n,free p.1 p.2 nch e n,ne,nf,d⟩
theorem Inv.un {t':Nat} (I:Inv X pins σ H s) (u:Un X.fs [] H H' s.heap h') (hok:HOk X.prog X.w H' h'):Inv X pins σ H' {s with heap:=h',toks:=t'}:=by
  obtain ⟨m,⟨o,es,ep,ho,r⟩,_⟩:=id I.loc
  obtain ⟨sl,hL⟩:=u.any ho I.free (by simp)
  exact I.step (g':=s.gens) (d':=s.drawn) (ch:=[]) (fun _ z=>nomatch z) (fun b o _ hb _ e n=>u.keep b o e n hb (by simp)) (fun b o _ hb _ e n=>u.slot b o e n hb (by simp)) (fun b o _ e n=>u.free b o e n (by simp)) (fun b o _ e=>u.there b o e (by simp)) u.tups u.frzs u.tbls (fun m' hm=>by
    obtain ⟨o',es',ep',ho',r'⟩:=hm
    rw [ho] at ho';cases ho'
    exact ⟨_,es',ep',hL,r'⟩) hok I.bare
theorem Inv.call {g':Array GenState} {t':Nat} {d':Drawn} {ch:List Addr} (I:Inv X pins σ H s) (u:Un (kM X.stack) ch H H' s.heap h') (hok:HOk X.prog X.w H' h') (hg:AllBare g')
  (hch:∀b∈ch,(b∈X.ex∨X.s₀.heap.objs.size≤b)∧b≠X.env.locals∧(∀x c,X.env.cells.lookup x=some c→c≠b)∧∀p∈X.pn++pins,p.1≠b) :
  Inv X pins σ H' {s with heap:=h',gens:=g',drawn:=d',toks:=t'}:=by
 obtain ⟨m,⟨o,es,ep,ho,r⟩,_⟩:=id I.loc
 obtain ⟨sl,hL⟩:=u.any ho I.free fun z=>(hch _ z).2.1 rfl
 exact I.step (ch:=ch) hch (fun b o hL hb hc e n=>u.keep b o e n (fun z=>(List.mem_cons.mp (I.stkSub b z)).elim hL hb) hc) (fun b o _ _ hc e n=>u.any e n hc) (fun b o hc e n=>u.free b o e n hc) (fun b o hc e=>u.there b o e hc) u.tups u.frzs u.tbls (fun m' hm=>by
  obtain ⟨o',es',ep',ho',r'⟩:=hm
  rw [ho] at ho';cases ho'
  exact ⟨_,es',ep',hL,r'⟩) hok hg
theorem Inv.turned {t':Nat} {it:Addr} (I:Inv X pins σ H s) (k:∀b o,b≠it→s.heap.get? b=some o→h'.get? b=some o) (hn:H it=none) (hL:it≠X.env.locals)
    (h1:it∈X.ex∨X.s₀.heap.objs.size≤it) (h2:∀x c,X.env.cells.lookup x=some c→c≠it) (h3:∀p∈X.pn++pins,p.1≠it):Inv X pins σ H {s with heap:=h',toks:=t'}:=by
  have nit:∀b u,H b=some u→b≠it:=fun b u e z=>by rw [z,hn] at e;cases e
  refine I.step (g':=s.gens) (d':=s.drawn) (ch:=[it]) (fun b hb=>?_) (fun b o _ _ hc e _=>k b o (fun z=>hc (by simp [z])) e) (fun b o _ _ hc e _=>⟨o.slots,k b o (fun z=>hc (by simp [z])) e⟩) (fun _ _ _ _ n=>n)
    (fun b o hc e=>⟨o,k b o (fun z=>hc (by simp [z])) e⟩) (fun _ _ e=>e) (fun _ _ _ e=>e) (fun b ps e=>⟨#[],by rw [e];simp⟩) (fun m hm=>?_) (fun b u e=>?_) I.bare
  · have e:b=it:=by simpa using hb
    subst e
    exact ⟨h1,hL,h2,h3⟩
  · obtain ⟨o,es,ep,ho,r⟩:=hm
    exact ⟨o,es,ep,k _ o (Ne.symm hL) ho,r⟩
  · refine (I.hok b u e).stay (fun c v hc q=>k c v ?_ q) (fun _ q=>q) fun _ _ q=>q
    rcases hc with z|z
    · rw [z];exact nit b u e
    · exact nit c _ z
theorem Inv.tok (I:Inv X pins σ H s) (t:Nat):Inv X pins σ H {s with toks:=t}:=I.un (h':=s.heap) (t':=t) Un.refl I.hok
theorem Inv.kept {t':Nat} (I:Inv X pins σ H s) (k:∀b u,s.heap.get? b=some u→h'.get? b=some u):Inv X pins σ H {s with heap:=h',toks:=t'}:=I.un (Un.kept k) (I.hok.kept k)
theorem Inv.laid {a:Addr} {o:HO} {t':Nat} (I:Inv X pins σ H s) (k:∀b u,s.heap.get? b=some u→h'.get? b=some u) (hp:s.heap.objs.size≤a) (new:ObjOk X.prog X.w (upd H a o) h' a o) :
  Inv X pins σ (upd H a o) {s with heap:=h',toks:=t'}:=I.un (Un.laid k hp (I.hok.fresh hp)) (I.hok.laid k hp new)
theorem Inv.write {x e:Addr} {o:HO} {t':Nat} (I:Inv X pins σ H s) (mu:eP (H x)) (he:e=x∨H e=some (.own x)) (k:∀b u,b≠e→s.heap.get? b=some u→h'.get? b=some u) (heo:∃u,h'.get? e=some u)
  (new:ObjOk X.prog X.w (upd H x o) h' x o):Inv X pins σ (upd H x o) {s with heap:=h',toks:=t'}:=I.un (Un.write mu he k heo) (I.hok.write mu he k heo new)
theorem Inv.pins_of {pins':List (Addr×Obj)} (I:Inv X pins σ H s) (h:∀p∈pins',s.heap.get? p.1=some p.2∧H p.1=none∧p.1≠X.env.locals∧p.1∉X.fs∧∀v,p.2.data≠.cell v):Inv X pins' σ H s :=
 ⟨I.ok,I.os,I.bare,I.base,I.loc,I.cell,I.free,I.freeC,fun p hp=>(List.mem_append.mp hp).elim (fun z=>I.pin p (List.mem_append_left _ z)) (h p),I.hok,I.len⟩
theorem w6 {N:List Str} (hN:N.Nodup) {i j:Nat} {x:Str} (a:N[i]?=some x) (b:N[j]?=some x):i=j:=by
 obtain ⟨h1,e1⟩:=List.getElem?_eq_some_iff.mp a
 obtain ⟨h2,e2⟩:=List.getElem?_eq_some_iff.mp b
 exact (List.getElem_inj hN).mp (e1.trans e2.symm)
theorem uE {M:Model} {A:Around} {E:Value→Shared→Prop} {i:Nat} {x:Str} {v:V} {u:Value} {Q:Unit→Shared→Prop} (I:Inv X pins σ H s) (hN:X.N.Nodup) (hi:X.N[i]?=some x) (hx:eQ X.env.scope x) (r:RelV v u)
  (h:∀s',Inv X pins (σ.set i (some v)) H s'→(∃a,Heap.SameBut a s.heap s'.heap∧(a=X.env.locals∨X.env.cells.lookup x=some a))→Q () s') (hf:X.fn x=true∨X.env.scope.names.lookup x=some .local:=by first|exact .inl rfl|exact .inr rfl|assumption):wpAny M A (storeName X.env x u) Q E s:=by
 obtain ⟨m,hn,hl⟩:=id I.loc
 have hcls:(X.env.scope.kind == .class||(X.env.scope.kind == .module&&X.env.locals != X.env.globals))=false:=by rw [I.ok.kind];rfl
 have hiσ:i<σ.length:=by rw [I.len];exact (List.getElem?_eq_some_iff.mp hi).1
 have cne:=I.cne
 have tracked:∀{a:Addr} {h':Heap},(∃o,s.heap.get? a=some o∧H a=none)→Heap.SameBut a s.heap h'→HOk X.prog X.w H h':=fun {a h'} ha hs b ob e=>by
  obtain ⟨_,_,hfree⟩:=ha
  refine (I.hok b ob e).stay (fun c w' hc q=>(hs.2 c ?_).trans q) (fun _ q=>q) fun _ _ q=>q
  rintro rfl
  rcases hc with rfl|hc
  ·rw [hfree] at e;cases e
  ·rw [hfree] at hc;cases hc
 rcases hx with hk|hk
 ·refine wpAny_storeName_local hk hn (fun h' hn' hs=>?_) hcls
  obtain ⟨oL,_,_,hoL,_⟩:=id hn
  refine h _ ⟨I.ok,I.os,I.bare,⟨fun b o e n hb hx=>?_,fun b o e n hb hx=>?_,I.base.free,fun b o e hx=>?_,I.base.tups,I.base.frzs,I.base.tbls⟩,⟨_,hn',fun j y v' e1 e2 e3=>?_⟩,fun y c e=>?_,I.free,I.freeC,fun p hp=>?_,tracked ⟨oL,hoL,I.free⟩ hs,by simpa using I.len⟩ ⟨_,hs,.inl rfl⟩
  ·exact (hs.2 b (Nat.ne_of_lt (Nat.lt_of_lt_of_le (Heap.lt_size e) I.ok.above))).trans (I.base.keep b o e n hb hx)
  ·obtain ⟨sl,e1⟩:=I.base.slot b o e n hb hx
   exact ⟨sl,(hs.2 b (Nat.ne_of_lt (Nat.lt_of_lt_of_le (Heap.lt_size e) I.ok.above))).trans e1⟩
  ·obtain ⟨o',e1⟩:=I.base.there b o e hx
   exact ⟨o',(hs.2 b (Nat.ne_of_lt (Nat.lt_of_lt_of_le (Heap.lt_size e) I.ok.above))).trans e1⟩
  ·by_cases hj:j=i
   ·subst hj
    rw [hi] at e1;cases e1
    rw [List.getElem?_set_self hiσ] at e2
    cases e2
    exact ⟨u,r,.inl ⟨hk,by simp⟩⟩
   ·rw [List.getElem?_set_ne (Ne.symm hj)] at e2
    obtain ⟨u',r',q⟩:=hl j y v' e1 e2 e3
    refine ⟨u',r',?_⟩
    rcases q with ⟨k,e⟩|⟨k,c,e,z⟩
    ·refine .inl ⟨k,?_⟩
     have:y≠x:=fun e=>hj (w6 hN e1 (e▸hi))
     simp [this,e]
    ·exact .inr ⟨k,c,e,z.sameBut hs (cne y c e)⟩
  ·obtain ⟨w',z⟩:=I.cell y c e
   exact ⟨w',z.sameBut hs (cne y c e)⟩
  ·obtain ⟨e,n,ne,nf,d⟩:=I.pin p hp
   exact ⟨(hs.2 p.1 ne).trans e,n,ne,nf,d⟩
 ·have hfn:X.fn x=true:=by
   rcases hf with z|z
   ·exact z
   ·rw [z] at hk;cases hk
  obtain ⟨c,hc⟩:=I.ok.has x (.inl hk)
  obtain ⟨w',z⟩:=I.cell x c hc
  refine wpAny_storeName_cell I.ok.kind hk hc z (fun h' hc' hs=>?_)
  obtain ⟨oc,hoc,hocd⟩:=id z
  refine h {s with heap:=h'} ⟨I.ok,I.os,I.bare,⟨fun b o e n hb hx=>?_,fun b o e n hb hx=>?_,I.base.free,fun b o e hx=>?_,I.base.tups,I.base.frzs,I.base.tbls⟩,⟨m,hn.sameBut hs (Ne.symm (cne x c hc)),fun j y v' e1 e2 e3=>?_⟩,fun y c' e=>?_,I.free,I.freeC,fun p hp=>?_,tracked ⟨oc,hoc,I.freeC x c hc⟩ hs,by simpa using I.len⟩ ⟨c,hs,.inr hc⟩
  ·exact (hs.2 b (Nat.ne_of_lt (Nat.lt_of_lt_of_le (Heap.lt_size e) (I.ok.cab x c hfn hc)))).trans (I.base.keep b o e n hb hx)
  ·obtain ⟨sl,e1⟩:=I.base.slot b o e n hb hx
   exact ⟨sl,(hs.2 b (Nat.ne_of_lt (Nat.lt_of_lt_of_le (Heap.lt_size e) (I.ok.cab x c hfn hc)))).trans e1⟩
  ·obtain ⟨o',e1⟩:=I.base.there b o e hx
   exact ⟨o',(hs.2 b (Nat.ne_of_lt (Nat.lt_of_lt_of_le (Heap.lt_size e) (I.ok.cab x c hfn hc)))).trans e1⟩
  ·by_cases hj:j=i
   ·subst hj
    rw [hi] at e1;cases e1
    rw [List.getElem?_set_self hiσ] at e2
    cases e2
    exact ⟨u,r,.inr ⟨.inl hk,c,hc,hc'⟩⟩
   ·rw [List.getElem?_set_ne (Ne.symm hj)] at e2
    obtain ⟨u',r',q⟩:=hl j y v' e1 e2 e3
    refine ⟨u',r',?_⟩
    rcases q with q|⟨k,c',e,z'⟩
    ·exact .inl q
    ·refine .inr ⟨k,c',e,z'.sameBut hs ?_⟩
     rintro rfl
     exact hj (w6 hN e1 (I.ok.inj _ _ _ e hc▸hi))
  ·by_cases hcc:c'=c
   ·subst hcc;exact ⟨_,hc'⟩
   ·obtain ⟨w2,z2⟩:=I.cell y c' e
    exact ⟨w2,z2.sameBut hs hcc⟩
  ·obtain ⟨e,n,ne,nf,d⟩:=I.pin p hp
   refine ⟨(hs.2 p.1 ?_).trans e,n,ne,nf,d⟩
   intro q
   rw [q,hoc] at e
   have q':oc=p.2:=Option.some.inj e
   exact d w' (by rw [← q'];exact hocd)
theorem wK {M:Model} {A:Around} {E:Value→Shared→Prop} {i:Nat} {x:Str} {v:V} {u:Value} {Q:Unit→Shared→Prop} (I:Inv X pins σ H s) (hN:X.N.Nodup) (hi:X.N[i]?=some x) (hx:eQ X.env.scope x) (r:RelV v u)
  (h:∀s',Inv X pins (σ.set i (some v)) H s'→Q () s') (hf:X.fn x=true∨X.env.scope.names.lookup x=some .local:=by first|exact .inl rfl|exact .inr rfl|assumption):wpAny M A (storeName X.env x u) Q E s :=
 uE I hN hi hx r (fun s' I' _=>h s' I') hf
theorem Inv.call' {s':Shared} {ch:List Addr} (I:Inv X pins σ H s) (ho:s'.os=s.os) (u:Un (kM X.stack) ch H H' s.heap s'.heap) (hok:HOk X.prog X.w H' s'.heap) (hg:AllBare s'.gens)
  (hch:∀b∈ch,(b∈X.ex∨X.s₀.heap.objs.size≤b)∧b≠X.env.locals∧(∀x c,X.env.cells.lookup x=some c→c≠b)∧∀p∈X.pn++pins,p.1≠b):Inv X pins σ H' s':=by
 obtain ⟨h',g',d',t',o'⟩:=s'
 have e:o'=s.os:=ho
 subst e
 exact I.call (g':=g') (t':=t') (d':=d') u hok hg hch
end
abbrev XK:=Value→Option Addr→Hp→Prop
abbrev St:=List (Option V)
abbrev VK:=V→Hp→Prop
abbrev TE:=St→Hp→VK→Prop
abbrev TT:=St→Hp→(Bool→Hp→Prop)→Prop
abbrev TA:=St→Hp→(List V→Hp→Prop)→Prop
structure Ends where
 nx:St→Hp→Prop
 rt:VK
 bk:St→Hp→Prop:=fun _ _=>False
 ct:St→Hp→Prop:=fun _ _=>False
abbrev TS:=Ends→St→Hp→Prop
def EP (X:Cx) (pins:List (Addr×Obj)) (σ:St) (Q:VK) (u:Value) (s':Shared):Prop:=∃v H',Inv X pins σ H' s'∧RelV v u∧Q v H'
def TP (X:Cx) (pins:List (Addr×Obj)) (σ:St) (Q:Bool→Hp→Prop) (b:Bool) (s':Shared):Prop:=∃H',Inv X pins σ H' s'∧Q b H'
def AP (X:Cx) (pins:List (Addr×Obj)) (σ:St) (Q:List V→Hp→Prop) (us:List Value) (s':Shared):Prop:=∃vs H',Inv X pins σ H' s'∧Vals vs us∧Q vs H'
def SP (X:Cx) (pins:List (Addr×Obj)) (D:Ends) (f:Flow) (s':Shared):Prop :=
 match f with
 |.next=>∃σ' H',Inv X pins σ' H' s'∧D.nx σ' H'
 |.brk=>∃σ' H',Inv X pins σ' H' s'∧D.bk σ' H'
 |.cont=>∃σ' H',Inv X pins σ' H' s'∧D.ct σ' H'
 |.ret u=>∃v σ' H',Inv X pins σ' H' s'∧RelV v u∧D.rt v H'
def PE (X:Cx) (e:Expr) (t:TE):Prop :=
 ∀(pins:List (Addr×Obj)) (s:Shared) (σ:St) (H:Hp) (Q:VK),Inv X pins σ H s→t σ H Q→wpAny (model X.prog X.w) X.A (eval e X.env) (EP X pins σ Q) X.xe s
def PT (X:Cx) (e:Expr) (t:TT):Prop :=
 ∀(pins:List (Addr×Obj)) (s:Shared) (σ:St) (H:Hp) (Q:Bool→Hp→Prop),Inv X pins σ H s→t σ H Q→wpAny (model X.prog X.w) X.A (isTrue e X.env (eval e X.env)) (TP X pins σ Q) X.xe s
def PW (X:Cx) (e:Expr) (t:TT):Prop :=
 ∀(whole:Sem Value) (pins:List (Addr×Obj)) (s:Shared) (σ:St) (H:Hp) (Q:Bool→Hp→Prop),Inv X pins σ H s→t σ H Q→wpAny (model X.prog X.w) X.A (isTrue e X.env whole) (TP X pins σ Q) X.xe s
theorem PW.pt {X:Cx} {e:Expr} {t:TT} (h:PW X e t):PT X e t:=h _
def PA (X:Cx) (es:List Expr) (t:TA):Prop :=
 ∀(pos:Pos) (pins:List (Addr×Obj)) (s:Shared) (σ:St) (H:Hp) (Q:List V→Hp→Prop),Inv X pins σ H s→t σ H Q→wpAny (model X.prog X.w) X.A (spliced (backTo pos (starEach es X.env))) (AP X pins σ Q) X.xe s
def PS (X:Cx) (st:Stmt) (t:TS):Prop :=
 ∀(pins:List (Addr×Obj)) (s:Shared) (σ:St) (H:Hp) (D:Ends),Inv X pins σ H s→t D σ H→wpAny (model X.prog X.w) X.A (exec st X.env) (SP X pins D) X.xe s
def PSs (X:Cx) (st:List Stmt) (t:TS):Prop :=
 ∀(pins:List (Addr×Obj)) (s:Shared) (σ:St) (H:Hp) (D:Ends),Inv X pins σ H s→t D σ H→wpAny (model X.prog X.w) X.A (execs st X.env) (SP X pins D) X.xe s
theorem jN {α:Type} {t:Sem α} {Q Q':α→Shared→Prop} {M:Model} {A:Around} {E:Value→Shared→Prop} {s:Shared} (h:wpAny M A t Q E s) (hQ:∀a s,Q a s→Q' a s):wpAny M A t Q' E s:=wpAny_mono h hQ fun _ _ x=>x
end L2
namespace L2
open PySem PySem.Spec PyProof.Rows
section
variable {X:Cx}
def CQ (i:Nat):TE:=fun σ H Q=>∃v,σ[i]?=some (some v)∧Q v H
def tC (v:V):TE:=fun _ H Q=>Q v H
theorem BU {i:Nat} {x:Str} {pos:Pos} (hN:X.N[i]?=some x) (hv:eM X.env.scope x) (hd:(x == ("__debug__":Str))=false:=by decide) (hcd:(x == ("__classdict__":Str))=false:=by decide):PE X (.Name x pos) (CQ i):=by
 intro pins s σ H Q I h
 obtain ⟨v,e,h⟩:=h
 obtain ⟨m,hn,hl⟩:=I.loc
 obtain ⟨u,r,l⟩:=hl i x v hN e hv
 have fin:EP X pins σ Q u s:=⟨v,H,I,r,h⟩
 rcases l with ⟨hk,hm⟩|⟨hk,c,hc,hcell⟩
 ·exact wpAny_Name (wpAny_loadName_local I.ok.kind hk hn hm fin) hd
 ·rcases hk with hk|hk
  ·exact wpAny_Name (wpAny_loadName_cell I.ok.kind hk hc hcell fin) hd
  ·exact wpAny_Name (wpAny_loadName_free I.ok.kind hk hc hcell fin hcd) hd
theorem jD {i j pos}:PE X (.Constant (.int i) j pos) (tC (.int i)):=fun _ _ _ H _ I h=>wpAny_Constant_int ⟨.int i,H,I.tok _,⟨_,rfl⟩,h⟩
theorem Z0 {b j pos}:PE X (.Constant (.bool b) j pos) (tC (.bl b)):=fun _ _ _ H _ I h=>Constant_bool ⟨.bl b,H,I,rfl,h⟩
theorem iH {j pos}:PE X (.Constant .none j pos) (tC .non):=fun _ _ _ H _ I h=>Constant_none ⟨.non,H,I,rfl,h⟩
theorem j5 {x j pos}:PE X (.Constant (.str x) j pos) (tC (.str x)):=fun _ _ _ H _ I h=>Calls.Constant_str ⟨.str x,H,I.tok _,⟨_,rfl⟩,h⟩
def Gl (X:Cx) (x:Str):Prop:=X.env.kindOf x=some .globalImplicit
theorem bD {E:Value→Shared→Prop} {pins:List (Addr×Obj)} {s:Shared} {σ:St} {H:Hp} {x:Str} {u:Value} {pos:Pos} {Q:Value→Shared→Prop} (I:Inv X pins σ H s) (hg:Gl X x) (hm:X.mg x=some u) (h:Q u s)
  (hd:(x == ("__debug__":Str))=false:=by decide):wpAny (model X.prog X.w) X.A (eval (.Name x pos) X.env) Q E s :=
 Calls.Name_function_global I.ok.kind hg (Calls.loadGlobal_global (by rw [I.ok.glob];exact I.mod.glob.keeps I.bk) hm h) hd
theorem Q2 {E:Value→Shared→Prop} {pins:List (Addr×Obj)} {s:Shared} {σ:St} {H:Hp} {x:Str} {u:Value} {pos:Pos} {Q:Value→Shared→Prop} (I:Inv X pins σ H s) (hg:Gl X x) (hm:X.mg x=none) (hv:bootBuiltins x=some u) (h:Q u s)
  (hn:x≠"__name__":=by decide) (hd:(x == ("__debug__":Str))=false:=by decide):wpAny (model X.prog X.w) X.A (eval (.Name x pos) X.env) Q E s:=by
 obtain ⟨mb,h1,h2⟩:=I.mod.blt
 exact Calls.Name_function_global I.ok.kind hg (Calls.loadGlobal_builtin (by rw [I.ok.glob];exact I.mod.glob.keeps I.bk) hm (by rw [I.ok.blt];exact h1.keeps I.bk) ((h2 x hn).trans hv) h) hd
theorem dQ {x:Str} {v:V} {u:Value} {pos:Pos} (hg:Gl X x) (hm:X.mg x=some u) (r:RelV v u) (hd:(x == ("__debug__":Str))=false:=by decide):PE X (.Name x pos) (tC v) :=
 fun _ _ _ H _ I h=>bD I hg hm ⟨v,H,I,r,h⟩ hd
variable {a b:Expr} {ta tb:TE} {pos:Pos}
def PC (X:Cx) (op:CmpOp) (a b:Expr) (t:TE):Prop :=
 ∀(pins:List (Addr×Obj)) (s:Shared) (σ:St) (H:Hp) (Q:VK),Inv X pins σ H s→t σ H Q→
  wpAny (model X.prog X.w) X.A (eval a X.env) (fun v s₁=>wpAny (model X.prog X.w) X.A (eval b X.env) (fun u s₂=>wpAny (model X.prog X.w) X.A (compareOp op v u) (EP X pins σ Q) X.xe s₂) X.xe s₁) X.xe s
theorem MZ (b:Expr) {op:CmpOp} (h:op≠.In) (h2:op≠.NotIn):behindInMarks op b=false:=by
 have e1:(op == CmpOp.In)=false:=by cases op<;>first|rfl|exact absurd rfl h
 have e2:(op == CmpOp.NotIn)=false:=by cases op<;>first|rfl|exact absurd rfl h2
 cases b<;>simp [behindInMarks,e1,e2]
def tB (t:TE):TT:=fun σ H Q=>t σ H fun x H1=>∃c,x=.bl c∧Q c H1
theorem O5 {op:CmpOp} {t:TE} (h:PC X op a b t) (h1:behindInMarks op b=false:=by first|exact MZ _ (by decide) (by decide)|rfl):PT X (.Compare a [op] [b] pos) (tB t):=by
 intro pins s σ H Q I hw
 refine wpAny_isTrue_Compare1 (jN (h pins s σ H _ I hw) fun v s1 h1=>jN h1 fun u s2 h2=>jN h2 fun c s3 ⟨x,H1,I1,r1,q1⟩=>?_) h1
 obtain ⟨d,rfl,q⟩:=q1
 cases r1
 exact wpAny_truthy_bool ⟨H1,I1,q⟩
theorem QY {e:Expr} {t:TE} (h:PE X e t) (he:∀whole,isTrue e X.env whole=(do let v ← whole;standAt e.pos;holding [v] (truthy v)):=by intro _;rfl):PT X e (tB t):=by
 intro pins s σ H Q I hw
 refine isTrue_plain (jN (h pins s σ H _ I hw) fun v s1 ⟨x,H1,I1,r1,q1⟩=>?_) (he _)
 obtain ⟨d,rfl,q⟩:=q1
 cases r1
 exact wpAny_truthy_bool ⟨H1,I1,q⟩
variable {tA tB':TT} {rest:List Expr}
def SN (t u:TT):TT:=fun σ H Q=>t σ H fun c H1=>if c=true then u σ H1 Q else Q false H1
def TC (t u:TT):TT:=fun σ H Q=>t σ H fun c H1=>if c=true then Q true H1 else u σ H1 Q
def SH (t:TT):TT:=fun σ H Q=>t σ H fun c H1=>Q (!c) H1
theorem AH (ha:PT X a tA):PW X (.BoolOp .And [a] pos) tA:=by
 intro wh pins s σ H Q I h
 refine isTrue_and (jN (ha pins s σ H Q I h) fun c s1 e=>?_)
 cases c with
 |true=>exact isTrue_and_nil e
 |false=>exact e
theorem O4 (ha:PT X a tA):PW X (.BoolOp .Or [a] pos) tA:=by
 intro wh pins s σ H Q I h
 refine isTrue_or (jN (ha pins s σ H Q I h) fun c s1 e=>?_)
 cases c with
 |false=>exact isTrue_or_nil e
 |true=>exact e
theorem BR (ha:PT X a tA) (hb:PW X (.BoolOp .And (b::rest) pos) tB'):PW X (.BoolOp .And (a::b::rest) pos) (SN tA tB'):=by
 intro wh pins s σ H Q I h
 refine isTrue_and (jN (ha pins s σ H _ I h) fun c s1 ⟨H1,I1,q1⟩=>?_)
 cases c with
 |true=>exact hb wh pins s1 σ H1 Q I1 q1
 |false=>exact ⟨H1,I1,q1⟩
theorem RL (ha:PT X a tA) (hb:PW X (.BoolOp .Or (b::rest) pos) tB'):PW X (.BoolOp .Or (a::b::rest) pos) (TC tA tB'):=by
 intro wh pins s σ H Q I h
 refine isTrue_or (jN (ha pins s σ H _ I h) fun c s1 ⟨H1,I1,q1⟩=>?_)
 cases c with
 |true=>exact ⟨H1,I1,q1⟩
 |false=>exact hb wh pins s1 σ H1 Q I1 q1
theorem BS (ha:PT X a tA):PT X (.UnaryOp .Not a pos) (SH tA):=by
 intro pins s σ H Q I h
 exact isTrue_not (ha pins s σ H (fun c H1=>Q (!c) H1) I h)
def RI (ta tb:TE):TE:=fun σ H Q=>ta σ H fun x H1=>∃c,x=.bl c∧if c=true then tb σ H1 Q else Q (.bl false) H1
def SG (ta tb:TE):TE:=fun σ H Q=>ta σ H fun x H1=>∃c,x=.bl c∧if c=true then Q (.bl true) H1 else tb σ H1 Q
theorem BV {op} {t:TE} (h:PE X a t):PE X (.BoolOp op [a] pos) t:=fun pins s σ H Q I hw=>BoolOp_one (h pins s σ H Q I hw)
theorem PB (ha:PE X a ta) (hb:PE X (.BoolOp .And (b::rest) pos) tb):PE X (.BoolOp .And (a::b::rest) pos) (RI ta tb):=by
 intro pins s σ H Q I h
 refine BoolOp_and (jN (ha pins s σ H _ I h) fun v s1 ⟨x,H1,I1,r1,q1⟩=>?_)
 obtain ⟨c,rfl,q1⟩:=q1
 cases r1
 refine wpAny_truthy_bool ?_
 cases c with
 |true=>exact hb pins s1 σ H1 Q I1 q1
 |false=>exact ⟨.bl false,H1,I1,rfl,q1⟩
theorem RM (ha:PE X a ta) (hb:PE X (.BoolOp .Or (b::rest) pos) tb):PE X (.BoolOp .Or (a::b::rest) pos) (SG ta tb):=by
 intro pins s σ H Q I h
 refine BoolOp_or (jN (ha pins s σ H _ I h) fun v s1 ⟨x,H1,I1,r1,q1⟩=>?_)
 obtain ⟨c,rfl,q1⟩:=q1
 cases r1
 refine wpAny_truthy_bool ?_
 cases c with
 |false=>exact hb pins s1 σ H1 Q I1 q1
 |true=>exact ⟨.bl true,H1,I1,rfl,q1⟩
def TD (t:TT) (ta tb:TE):TE:=fun σ H Q=>t σ H fun c H1=>if c=true then ta σ H1 Q else tb σ H1 Q
theorem J9 {c:Expr} (hc:PT X c tA) (ha:PE X a ta) (hb:PE X b tb):PE X (.IfExp c a b pos) (TD tA ta tb):=by
 intro pins s σ H Q I h
 refine wpAny_IfExp (jN (hc pins s σ H _ I h) fun d s1 ⟨H1,I1,q1⟩=>?_)
 cases d with
 |true=>exact ha pins s1 σ H1 Q I1 q1
 |false=>exact hb pins s1 σ H1 Q I1 q1
end
end L2
namespace L2
open PySem PySem.Spec PyProof.Rows
def SqL (K:PySem.W.Frag) (H:Hp) (a:Addr) (xs:List V):Prop :=
 Rd H a (.lst xs)∨
  ∃(o:Obj) (its:Array Value) (n:Nat),K.lookup a=some o∧o.cls=.type "list"∧o.dict=none∧o.data=.seq its n∧its.size≤sizeLine∧Vals xs its.toList
def SqT (K:PySem.W.Frag) (H:Hp) (a:Addr) (xs:List V):Prop :=
 Rd H a (.tup xs)∨
  ∃(o:Obj) (its:Array Value) (n:Nat),K.lookup a=some o∧o.cls=.type "tuple"∧o.data=.seq its n∧its.size≤sizeLine∧Vals xs its.toList
def S2:Value→Option V
 |.none=>some .non
 |.bool b=>some (.bl b)
 |.int i _=>some (.int i)
 |.str x _=>some (.str x)
 |.bytes b _=>some (.byt b)
 |.float b _=>some (.flt b)
 |.ref a=>some (.ref a)
 |.type n=>some (.ty n)
 |_=>none
variable {u:Value}
theorem RelV.abs {x:V} (r:RelV x u):S2 u=some x:=by
 cases x with
 |non=>cases r;rfl
 |bl _=>cases r;rfl
 |int _=>obtain ⟨t,rfl⟩:=r;rfl
 |str _=>obtain ⟨t,rfl⟩:=r;rfl
 |byt _=>obtain ⟨t,rfl⟩:=r;rfl
 |flt _=>obtain ⟨t,rfl⟩:=r;rfl
 |ref _=>cases r;rfl
 |ty _=>cases r;rfl
theorem RelV.inj {x y:V} (r:RelV x u) (q:RelV y u):x=y:=Option.some.inj (r.abs.symm.trans q.abs)
theorem Vals.inj:∀{xs ys:List V} {us:List Value},Vals xs us→Vals ys us→xs=ys
 |_,_,_,.nil,.nil=>rfl
 |_,_,_,.cons r t,.cons r' t'=>by rw [r.inj r',Vals.inj t t']
section
variable {X:Cx} {pins:List (Addr×Obj)} {σ:St} {H:Hp} {s:Shared} {a:Addr} {xs ys:List V}
theorem SqL.of {K:PySem.W.Frag} (h:H a=some (.lst xs)):SqL K H a xs:=.inl (.inl h)
theorem SqT.of {K:PySem.W.Frag} (h:H a=some (.tup xs)):SqT K H a xs:=.inl (.inl h)
theorem Inv.list (I:Inv X pins σ H s) (h:SqL X.K H a xs):∃its:List Value,Vals xs its∧PlainL s.heap a its.toArray∧xs.length≤sizeLine:=by
 rcases h with h|⟨o,its,n,hk,hc,hd,hs,hz,r⟩
 ·obtain ⟨z,its,n,r,e⟩:=h.ok I.hok
  exact ⟨its,r,⟨_,n,e,rfl,rfl,rfl⟩,z⟩
 ·refine ⟨its.toList,r,⟨o,n,I.kIn a o hk,hc,hd,by simpa using hs⟩,?_⟩
  have e:=r.length
  simp only [Array.length_toList] at e
  omega
theorem Inv.tuple (I:Inv X pins σ H s) (h:SqT X.K H a xs):∃its:List Value,Vals xs its∧IsTup s.heap a its.toArray∧xs.length≤sizeLine:=by
 rcases h with h|⟨o,its,n,hk,hc,hs,hz,r⟩
 ·obtain ⟨z,its,r,p⟩:=h.ok I.hok
  exact ⟨its,r,p,z⟩
 ·refine ⟨its.toList,r,⟨o,I.kIn a o hk,hc,n,by simpa using hs⟩,?_⟩
  have e:=r.length
  simp only [Array.length_toList] at e
  omega
theorem Inv.list_inj (I:Inv X pins σ H s) (h:SqL X.K H a xs) (h':SqL X.K H a ys):xs=ys:=by
 obtain ⟨its,r,⟨o,n,e,_,_,d⟩,_⟩:=I.list h
 obtain ⟨its',r',⟨o',n',e',_,_,d'⟩,_⟩:=I.list h'
 rw [e] at e';cases e'
 rw [d] at d'
 injection d' with d1 _
 have:its=its':=by simpa using congrArg Array.toList d1
 subst this
 exact r.inj r'
theorem Inv.tuple_inj (I:Inv X pins σ H s) (h:SqT X.K H a xs) (h':SqT X.K H a ys):xs=ys:=by
 obtain ⟨its,r,⟨o,e,_,n,d⟩,_⟩:=I.tuple h
 obtain ⟨its',r',⟨o',e',_,n',d'⟩,_⟩:=I.tuple h'
 rw [e] at e';cases e'
 rw [d] at d'
 injection d' with d1 _
 have:its=its':=by simpa using congrArg Array.toList d1
 subst this
 exact r.inj r'
end
abbrev Cx.wish (X:Cx) (E:Value→Shared→Prop):Cx:={X with xe:=E}
abbrev Cx.nox (X:Cx):Cx:=X.wish fun _ _=>False
variable {X:Cx}
theorem Cx.Ok.wish (ok:X.Ok) (E:Value→Shared→Prop):(X.wish E).Ok :=
 ⟨ok.mod,ok.kind,ok.glob,ok.blt,ok.above,ok.inj,ok.has,ok.cab,ok.hd,ok.frames,ok.stk,ok.exf,ok.bs,ok.bsz,ok.noex,ok.exfs,ok.funs,ok.frf⟩
theorem Cx.Ok.unwish {E:Value→Shared→Prop} (ok:(X.wish E).Ok):X.Ok :=
 ⟨ok.mod,ok.kind,ok.glob,ok.blt,ok.above,ok.inj,ok.has,ok.cab,ok.hd,ok.frames,ok.stk,ok.exf,ok.bs,ok.bsz,ok.noex,ok.exfs,ok.funs,ok.frf⟩
section
variable {X:Cx} {pins:List (Addr×Obj)} {σ:St} {H:Hp} {s:Shared} {E:Value→Shared→Prop}
theorem Inv.wish (I:Inv X pins σ H s) (E:Value→Shared→Prop):Inv (X.wish E) pins σ H s:=⟨I.ok.wish E,I.os,I.bare,I.base,I.loc,I.cell,I.free,I.freeC,I.pin,I.hok,I.len⟩
theorem Inv.unwish (I:Inv (X.wish E) pins σ H s):Inv X pins σ H s:=⟨I.ok.unwish,I.os,I.bare,I.base,I.loc,I.cell,I.free,I.freeC,I.pin,I.hok,I.len⟩
theorem SP.unwish {D:Ends} {f:Flow} {s':Shared} (h:SP (X.wish E) pins D f s'):SP X pins D f s':=by
 cases f with
 |next=>obtain ⟨σ',H',I,q⟩:=h;exact ⟨σ',H',I.unwish,q⟩
 |brk=>obtain ⟨σ',H',I,q⟩:=h;exact ⟨σ',H',I.unwish,q⟩
 |cont=>obtain ⟨σ',H',I,q⟩:=h;exact ⟨σ',H',I.unwish,q⟩
 |ret u=>obtain ⟨v,σ',H',I,r,q⟩:=h;exact ⟨v,σ',H',I.unwish,r,q⟩
theorem PE.nox {e:Expr} {t:TE} (h:PE X.nox e t):PE X e t:=fun pins s σ H Q I hw =>
 wpAny_mono (h pins s σ H Q (I.wish _) hw) (fun _ _ ⟨v,H',I',r,q⟩=>⟨v,H',I'.unwish,r,q⟩) fun _ _ z=>False.elim z
theorem PSs.nox {st:List Stmt} {t:TS} (h:PSs X.nox st t):PSs X st t:=fun pins s σ H D I hw =>
 wpAny_mono (h pins s σ H D (I.wish _) hw) (fun _ _ q=>q.unwish) fun _ _ z=>False.elim z
end
section
variable {X:Cx} {st:Stmt} {rest:List Stmt} {t u:TS} {e:Expr} {te:TE} {pos:Pos}
def P9:TS:=fun D σ H=>D.nx σ H
def SE (t u:TS):TS:=fun D σ H=>t {D with nx:=u D} σ H
theorem qP:PSs X [] P9:=fun _ _ σ H _ I h=>wpAny_execs_nil ⟨σ,H,I,h⟩
theorem jH (h1:PS X st t) (h2:PSs X rest u):PSs X (st::rest) (SE t u):=by
 intro pins s σ H D I h
 refine wpAny_execs_cons (jN (h1 pins s σ H {D with nx:=u D} I h) fun f s1 q=>?_)
 cases f with
 |next =>
  obtain ⟨σ',H',I',q⟩:=q
  exact h2 pins s1 σ' H' D I' q
 |ret v=>exact q
 |brk=>exact q
 |cont=>exact q
theorem jK (h1:PS X st t):PSs X [st] t:=by
 intro pins s σ H D I h
 refine wpAny_execs_cons (jN (h1 pins s σ H D I h) fun f s1 q=>?_)
 cases f with
 |next=>exact wpAny_execs_nil q
 |ret v=>exact q
 |brk=>exact q
 |cont=>exact q
theorem Inv.quiet {pins:List (Addr×Obj)} {σ:St} {H:Hp} {s:Shared} (I:Inv X pins σ H s):interactive X.env=false:=by simp [interactive,I.ok.kind]
def RB (te:TE):TS:=fun D σ H=>te σ H fun _ H1=>D.nx σ H1
theorem QP (he:PE X e te) (hs:swapsWith e none pos.line X.env=pure false:=by rfl):PS X (.Expr e pos) (RB te):=by
 intro pins s σ H D I h
 exact wpAny_Expr_any (jN (he pins s σ H _ I h) fun v s1 ⟨x,H1,I1,r1,q1⟩=>⟨σ,H1,I1,q1⟩) I.quiet hs
def SF (te:TE):TS:=fun D σ H=>te σ H D.rt
theorem jQ (he:PE X e te):PS X (.Return (some e) pos) (SF te):=by
 intro pins s σ H D I h
 exact wpAny_Return_some (jN (he pins s σ H _ I h) fun v s1 ⟨x,H1,I1,r1,q1⟩=>⟨x,σ,H1,I1,r1,q1⟩)
def SK (c:TT) (t u:TS):TS:=fun D σ H=>c σ H fun b H1=>if b=true then t D σ H1 else u D σ H1
theorem qQ {c:Expr} {a b:List Stmt} {tc:TT} (hc:PT X c tc) (ha:PSs X a t) (hb:PSs X b u):PS X (.If c a b pos) (SK tc t u):=by
 intro pins s σ H D I h
 refine wpAny_If (jN (hc pins s σ H _ I h) fun d s1 ⟨H1,I1,q1⟩=>?_)
 cases d with
 |true=>exact ha pins s1 σ H1 D I1 q1
 |false=>exact hb pins s1 σ H1 D I1 q1
end
abbrev TG:=V→St→Hp→(St→Hp→Prop)→Prop
abbrev ZG:=List V→St→Hp→(St→Hp→Prop)→Prop
def PG (X:Cx) (target:Expr) (t:TG):Prop :=
 ∀(pins:List (Addr×Obj)) (s:Shared) (σ:St) (H:Hp) (v:V) (u:Value) (Q:St→Hp→Prop),Inv X pins σ H s→RelV v u→t v σ H Q→
  wpAny (model X.prog X.w) X.A (assign target X.env u) (fun _ s'=>∃σ' H',Inv X pins σ' H' s'∧Q σ' H') X.xe s
def eO (X:Cx) (ts:List Expr) (t:ZG):Prop :=
 ∀(pins:List (Addr×Obj)) (s:Shared) (σ:St) (H:Hp) (vs:List V) (us:List Value) (Q:St→Hp→Prop),Inv X pins σ H s→Vals vs us→t vs σ H Q→
  wpAny (model X.prog X.w) X.A (assignInOrder ((assignEach ts X.env).map (·.2)) us) (fun _ s'=>∃σ' H',Inv X pins σ' H' s'∧Q σ' H') X.xe s
abbrev eH:=V→V→V→Hp→(Hp→Prop)→Prop
def rL (X:Cx) (t:eH):Prop :=
 ∀(pins:List (Addr×Obj)) (s:Shared) (σ:St) (H:Hp) (o i v:V) (ov iv u:Value) (Q:Hp→Prop),Inv X pins σ H s→RelV o ov→RelV i iv→RelV v u→t o i v H Q→
  wpAny (model X.prog X.w) X.A (setItem ov iv u) (fun _ s'=>∃H',Inv X pins σ H' s'∧Q H') X.xe s
abbrev i0:=V→V→Hp→VK→Prop
def rX (X:Cx) (op:Operator) (t:i0):Prop :=
 ∀(pins:List (Addr×Obj)) (s:Shared) (σ:St) (H:Hp) (x y:V) (v u:Value) (Q:VK),Inv X pins σ H s→RelV x v→RelV y u→t x y H Q→
  wpAny (model X.prog X.w) X.A (inplaceOp op v u) (EP X pins σ Q) X.xe s
section
variable {X:Cx} {pos:Pos}
def bT (i:Nat):TG:=fun v σ H Q=>Q (σ.set i (some v)) H
theorem kC {i:Nat} {x:Str} (hN:X.N.Nodup) (hi:X.N[i]?=some x) (hx:eQ X.env.scope x) (hf:X.fn x=true∨X.env.scope.names.lookup x=some .local:=by first|exact .inl rfl|exact .inr rfl|assumption):PG X (.Name x pos) (bT i):=by
 intro pins s σ H v u Q I r h
 exact wpAny_assign_Name (wK I hN hi hx r (fun s' I'=>⟨_,H,I',h⟩) hf)
def CZ:ZG:=fun vs σ H Q=>vs=[]∧Q σ H
def pZ (t:TG) (u:ZG):ZG:=fun vs σ H Q=>∃v r,vs=v::r∧t v σ H fun σ' H'=>u r σ' H' Q
theorem y7:eO X [] CZ:=by
 intro pins s σ H vs us Q I r h
 obtain ⟨e,h⟩:=h
 subst e
 cases r
 exact assignInOrder_nil ⟨σ,H,I,h⟩
theorem kW {e:Expr} {es:List Expr} {t:TG} {u:ZG} (h1:PG X e t) (h2:eO X es u)
  (hs:(assignEach (e::es) X.env).map (·.2)=assign e X.env::(assignEach es X.env).map (·.2):=by rfl):eO X (e::es) (pZ t u):=by
 intro pins s σ H vs us Q I r h
 obtain ⟨v,vr,e1,h⟩:=h
 subst e1
 cases r with
 |cons r rr =>
  rw [hs]
  refine assignInOrder_cons (jN (h1 pins s σ H _ _ _ I r h) fun _ s1 ⟨σ1,H1,I1,q1⟩=>?_)
  exact h2 pins s1 σ1 H1 _ _ Q I1 rr q1
def rG (K:PySem.W.Frag) (n:Nat) (t:ZG):TG:=fun v σ H Q=>∃a xs,v=.ref a∧SqT K H a xs∧xs.length=n∧t xs σ H Q
theorem iF {es:List Expr} {k:Nat} {t:ZG} {n:Nat} (hc:X.calm=true) (h:eO X es t)
  (hn:(assignEach es X.env).length=n:=by rfl) (hst:(assignEach es X.env).findIdx? (·.1)=none:=by rfl):PG X (.Tuple es k pos) (rG X.K n t):=by
 intro pins s σ H v u Q I r hw
 obtain ⟨a,xs,e1,hq,hl,hw⟩:=hw
 subst e1
 cases r
 obtain ⟨its,rv,ht,hz⟩:=I.tuple hq
 refine assign_Tuple_tuple (I.ok.hd hc) ht (by simp [hn,← hl,rv.length]) hst fun h' hx=>?_
 have I1:Inv X pins σ H {s with heap:=h'}:=I.kept (t':=s.toks) fun b o e=>hx b o (Nat.ne_of_lt (Heap.lt_size e)) e
 exact h pins _ σ H xs _ Q I1 (by simpa using rv) hw
def SX (to ti:TE) (t:eH):TG:=fun v σ H Q=>to σ H fun o H1=>ti σ H1 fun i H2=>t o i v H2 fun H3=>Q σ H3
theorem iG {o i:Expr} {to ti:TE} {t:eH} (ho:PE X o to) (hi:PE X i ti) (hs:rL X t)
  (ha:∀v,assign (.Subscript o i pos) X.env v=(do
   let ov ← holding [v] (eval o X.env)
   let iv ← holding [v,ov] (eval i X.env)
   standAt pos
   holding [v,ov,iv] (setItem ov iv v)
   release [v,ov,iv] []):=by intro _;rfl):PG X (.Subscript o i pos) (SX to ti t):=by
 intro pins s σ H v u Q I r h
 rw [ha]
 refine wpAny_bind (wpAny_holding (jN (ho pins s σ H _ I h) fun ov s1 ⟨x,H1,I1,r1,q1⟩=>?_))
 refine wpAny_bind (wpAny_holding (jN (hi pins s1 σ H1 _ I1 q1) fun iv s2 ⟨y,H2,I2,r2,q2⟩=>?_))
 refine wpAny_bind (wpAny_standAt (wpAny_bind (wpAny_holding (jN (hs pins s2 σ H2 x y v ov iv u _ I2 r1 r2 r q2) fun _ s3 ⟨H3,I3,q3⟩=>?_))))
 exact wpAny_release ⟨σ,H3,I3,q3⟩
def CT (te:TE) (g:TG):TS:=fun D σ H=>te σ H fun x H1=>g x σ H1 D.nx
theorem iE {tg e:Expr} {te:TE} {g:TG} (he:PE X e te) (hg:PG X tg g) (hs:swapsWithSole [tg] e pos.line X.env=pure false:=by rfl) (hw:swappedStores [tg] e X.env=pure none:=by rfl)
  (h1:(assignEach [tg] X.env).map (·.2)=[assign tg X.env]:=by rfl):PS X (.Assign [tg] e pos) (CT te g):=by
 intro pins s σ H D I h
 refine wpAny_Assign_stores (jN (he pins s σ H _ I h) fun v s1 ⟨x,H1,I1,r1,q1⟩=>?_) hs hw
 rw [h1]
 exact jN (hg pins s1 σ H1 x v _ I1 r1 q1) fun _ s2 q=>q
theorem jZ {i:Nat} {x:Str} {e:Expr} {te:TE} {pos':Pos} (hN:X.N.Nodup) (hi:X.N[i]?=some x) (hx:eQ X.env.scope x) (he:PE X e te) (hs:swapsWith e (some (.Name x pos')) pos.line X.env=pure false:=by rfl) (hf:X.fn x=true∨X.env.scope.names.lookup x=some .local:=by first|exact .inl rfl|exact .inr rfl|assumption) :
  PS X (.Assign [.Name x pos'] e pos) (CT te (bT i)):=by
 intro pins s σ H D I h
 refine wpAny_Assign_Name (jN (he pins s σ H _ I h) fun v s1 ⟨y,H1,I1,r1,q1⟩=>?_) hs
 exact wK I1 hN hi hx r1 (fun s2 I2=>⟨_,H1,I2,q1⟩) hf
def RH (to ti te:TE) (tget:V→V→Hp→VK→Prop) (tip:i0) (tset:eH):TS:=fun D σ H=>to σ H fun o H1=>ti σ H1 fun i H2=>tget o i H2 fun x H3=>te σ H3 fun y H4=>tip x y H4 fun z H5=>tset o i z H5 fun H6=>D.nx σ H6
def C3 (X:Cx) (t:V→V→Hp→VK→Prop):Prop :=
 ∀(pins:List (Addr×Obj)) (s:Shared) (σ:St) (H:Hp) (o i:V) (ov iv:Value) (Q:VK),Inv X pins σ H s→RelV o ov→RelV i iv→t o i H Q→
  wpAny (model X.prog X.w) X.A (getItem ov iv) (EP X pins σ Q) X.xe s
theorem o7 {o i e:Expr} {to ti te:TE} {tget:V→V→Hp→VK→Prop} {tip:i0} {tset:eH} {op:Operator} {tpos:Pos} (ho:PE X o to) (hi:PE X i ti) (hg:C3 X tget) (he:PE X e te) (hp:rX X op tip) (hs:rL X tset)
  (ha:∀ov iv new,augStore i ov iv new=(do holding [new,ov,iv] (setItem ov iv new);release [new,ov,iv] [];pure .next):=by intros;rfl):PS X (.AugAssign (.Subscript o i tpos) op e pos) (RH to ti te tget tip tset):=by
 intro pins s σ H D I h
 refine wpAny_AugAssign_SubscriptAny (jN (ho pins s σ H _ I h) fun ov s1 ⟨x1,H1,I1,r1,q1⟩=>?_) ha
 refine jN (hi pins s1 σ H1 _ I1 q1) fun iv s2 ⟨x2,H2,I2,r2,q2⟩=>?_
 refine jN (hg pins s2 σ H2 x1 x2 ov iv _ I2 r1 r2 q2) fun old s3 ⟨x3,H3,I3,r3,q3⟩=>?_
 refine jN (he pins s3 σ H3 _ I3 q3) fun v s4 ⟨x4,H4,I4,r4,q4⟩=>?_
 refine jN (hp pins s4 σ H4 x3 x4 old v _ I4 r3 r4 q4) fun new s5 ⟨x5,H5,I5,r5,q5⟩=>?_
 exact jN (hs pins s5 σ H5 x1 x2 x5 ov iv new _ I5 r1 r2 r5 q5) fun _ s6 ⟨H6,I6,q6⟩=>⟨σ,H6,I6,q6⟩
def C8 (f:Int→Int→Int):i0:=fun x y H Q=>∃i j,x=.int i∧y=.int j∧Q (.int (f i j)) H
theorem B2:rX X .Add (C8 fun i j=>i+j):=by
 intro pins s σ H x y v u Q I r1 r2 h
 obtain ⟨i,j,e1,e2,q⟩:=h
 subst e1;subst e2
 obtain ⟨t,rfl⟩:=r1
 obtain ⟨t',rfl⟩:=r2
 exact iadd_int ⟨.int _,H,I.tok _,⟨_,rfl⟩,q⟩
theorem PU:rX X .Sub (C8 fun i j=>i - j):=by
 intro pins s σ H x y v u Q I r1 r2 h
 obtain ⟨i,j,e1,e2,q⟩:=h
 subst e1;subst e2
 obtain ⟨t,rfl⟩:=r1
 obtain ⟨t',rfl⟩:=r2
 exact isub_int ⟨.int _,H,I.tok _,⟨_,rfl⟩,q⟩
end
section
variable {X:Cx} {pos:Pos}
def OZ (c:TT) (tb:TS):TS:=fun D σ H=>∃W:Nat→St→Hp→Prop,(∃m,W m σ H)∧∀m σ H,W m σ H→
 c σ H fun b H1=>if b=true then ∃N:St→Hp→Prop,(∀σ' H',N σ' H'→∃m',m'<m∧W m' σ' H')∧tb {D with nx:=N,ct:=N,bk:=D.nx} σ H1 else D.nx σ H1
theorem wZ {c:Expr} {body:List Stmt} {tc:TT} {tb:TS} (hp:PassesOwn (model X.prog X.w) X.A X.env X.xe) (hc:PT X c tc) (hb:PSs X body tb):PS X (.While c body [] pos) (OZ tc tb):=by
 intro pins s σ H D I h
 obtain ⟨W,⟨m0,w0⟩,turn⟩:=h
 refine wpAny_While (codeAny_whileLoop (fun n s'=>∃σ' H',Inv X pins σ' H' s'∧W n σ' H') ?_ m0 ⟨σ,H,I,w0⟩)
 rintro n s1 ⟨σ1,H1,I1,w1⟩
 refine wpAny_passesOwn hp (jN (hc pins s1 σ1 H1 _ I1 (turn n σ1 H1 w1)) fun b s2 ⟨H2,I2,q2⟩=>?_)
 cases b with
 |true =>
  obtain ⟨N,hN,q2⟩:=q2
  rw [if_pos rfl]
  refine wpAny_passesOwn hp (jN (hb pins s2 σ1 H2 _ I2 q2) fun f s3 q3=>?_)
  cases f with
  |next =>
   obtain ⟨σ3,H3,I3,n3⟩:=q3
   obtain ⟨m',hm,w3⟩:=hN σ3 H3 n3
   exact ⟨m',hm,σ3,H3,I3,w3⟩
  |cont =>
   obtain ⟨σ3,H3,I3,n3⟩:=q3
   obtain ⟨m',hm,w3⟩:=hN σ3 H3 n3
   exact ⟨m',hm,σ3,H3,I3,w3⟩
  |brk=>exact q3
  |ret v=>exact q3
 |false =>
  rw [if_neg Bool.false_ne_true]
  exact wpAny_execs_nil ⟨σ1,H2,I2,q2⟩
end
structure It where
 go:Nat→Hp→Prop
 yld:Nat→Hp→V→Hp→Prop
 stop:Nat→Hp→Prop
def z3 (X:Cx) (pins:List (Addr×Obj)) (H:Hp) (b:Addr):Prop :=
 H b=none∧b≠X.env.locals∧b∉X.fs∧(b∈X.ex∨X.s₀.heap.objs.size≤b)∧(∀x c,X.env.cells.lookup x=some c→c≠b)∧∀p∈X.pn++pins,p.1≠b
theorem Inv.fpOk {pins:List (Addr×Obj)} {σ:St} {H H':Hp} {s:Shared} {b:Addr} (I:Inv X pins σ H s) (hb:s.heap.objs.size≤b) (hn:H' b=none):z3 X pins H' b:=by
 refine ⟨hn,Nat.ne_of_gt (Nat.lt_of_lt_of_le I.lt hb),I.nofs hb,.inr (Nat.le_trans I.sz hb),fun x c e z=>?_,fun p hp z=>?_⟩
 ·obtain ⟨v,q⟩:=I.cell x c e
  exact absurd (Nat.lt_of_lt_of_le q.lt (by rw [z];exact hb)) (Nat.lt_irrefl _)
 ·exact absurd (Nat.lt_of_lt_of_le (Heap.lt_size (I.pin p hp).1) (by rw [z];exact hb)) (Nat.lt_irrefl _)
structure Turn (P:Program) (w:World) (K:PySem.W.Frag) (tg:Expr) (J:It) (fp:List Addr) (it:Addr) (tn:Nat→Heap→Prop):Prop where
 mem:it∈fp
 obj:∀i h,tn i h→∀b∈fp,∃o,h.get? b=some o∧∀v,o.data≠.cell v
 keep:∀i h h',tn i h→(∀b∈fp,∀o,h.get? b=some o→h'.get? b=some o)→tn i h'
 item:∀(X:Cx),X.prog=P→X.w=w→X.K=K→X.calm=true→∀(i:Nat) (pins:List (Addr×Obj)) (s:Shared) (σ:St) (H:Hp) (E:Value→Shared→Prop),Inv X pins σ H s→(∀b∈fp,z3 X pins H b)→tn i s.heap→J.go i H→
  wpAny (model P w) X.A (pyNext (.ref it)) (fun r s1=>∃u,r=some u∧
   wpAny (model P w) X.A (letOwnedTupleGo tg (.ref it) u) (fun _ s2=>∃x H',Inv X pins σ H' s2∧RelV x u∧J.yld i H x H'∧tn (i+1) s2.heap∧∀b∈fp,H' b=none) E s1) E s
 done:∀(X:Cx),X.prog=P→X.w=w→X.K=K→X.calm=true→∀(i:Nat) (pins:List (Addr×Obj)) (s:Shared) (σ:St) (H:Hp) (E:Value→Shared→Prop),Inv X pins σ H s→(∀b∈fp,z3 X pins H b)→tn i s.heap→J.stop i H→
  wpAny (model P w) X.A (pyNext (.ref it)) (fun r s1=>r=none∧Inv X pins σ H s1) E s
 self:∀(A:Around) (i:Nat) (s:Shared) (Q:Value→Shared→Prop) (E:Value→Shared→Prop),tn i s.heap→Q (.ref it) s→wpAny (model P w) A (pyIter (.ref it)) Q E s
abbrev TI:=St→Hp→(It→Hp→Prop)→Prop
def C9 (X:Cx) (pins:List (Addr×Obj)) (σ:St) (tg:Expr) (R:It→Hp→Prop) (itv:Value) (s2:Shared):Prop :=
 ∃(it:Addr) (fp:List Addr) (tn:Nat→Heap→Prop) (J:It) (H':Hp),itv=.ref it∧Inv X pins σ H' s2∧Turn X.prog X.w X.K tg J fp it tn∧tn 0 s2.heap∧(∀b∈fp,z3 X pins H' b)∧R J H'
def PI (X:Cx) (tg iter:Expr) (wi:TI):Prop :=
 ∀(pins:List (Addr×Obj)) (s:Shared) (σ:St) (H:Hp) (R:It→Hp→Prop),Inv X pins σ H s→wi σ H R→
  wpAny (model X.prog X.w) X.A (eval iter X.env) (fun v s1=>wpAny (model X.prog X.w) X.A (pyIter v) (C9 X pins σ tg R) X.xe s1) X.xe s
variable {tg:Expr}
theorem pY {M:Model} {A:Around} {E:Value→Shared→Prop} {s:Shared} {it:Addr} {o:Obj} {n:String} {vs:Array Value} {Q:Unit→Shared→Prop} (ho:s.heap.get? it=some o) (hc:o.cls=.type n) (hd:o.data=.fields vs)
    (hn:["enumerate","zip","dict_itemiterator","dict_reverseitemiterator","odict_iterator","itertools.zip_longest","itertools.pairwise"].contains n=false) (hQ:Q () s):wpAny M A (letOwnedTupleGo tg (.ref it) u) Q E s:=by
  unfold letOwnedTupleGo
  cases tg<;>first
    |exact wpAny_pure hQ
    | (cases u<;>first
        |exact wpAny_pure hQ
        | (refine wpAny_bind (wpAny_load ho ?_)
           rw [hc,hd]
           show wpAny M A (if (["enumerate","zip","dict_itemiterator","dict_reverseitemiterator","odict_iterator","itertools.zip_longest","itertools.pairwise"].contains n&&vs[0]? == some (rawInt _))=true then _ else _) Q E s
           rw [if_neg (by intro h;rw [hn,Bool.false_and] at h;cases h)]
           exact wpAny_pure hQ))
def ZI (K:PySem.W.Frag) (a:Addr):It :=
 ⟨fun i H=>∃xs x,SqL K H a xs∧xs[i]?=some x,fun i H x H'=>H'=H∧∀xs,SqL K H a xs→xs[i]?=some x,fun i H=>∃xs,SqL K H a xs∧xs.length≤i⟩
def eR (K:PySem.W.Frag) (a:Addr):It :=
 ⟨fun i H=>∃xs x,SqT K H a xs∧xs[i]?=some x,fun i H x H'=>H'=H∧∀xs,SqT K H a xs→xs[i]?=some x,fun i H=>∃xs,SqT K H a xs∧xs.length≤i⟩
def ZH (lo:Int) (n:Nat):It:=⟨fun i _=>i<n,fun i H x H'=>H'=H∧x=.int (lo+i),fun i _=>n≤i⟩
variable {P:Program} {w:World} {K:PySem.W.Frag}
theorem LH (a it:Addr):Turn P w K tg (ZI K a) [it] it (fun i h=>h.IsListIter it a i) where
 mem:=by simp
 obj:=fun i h st b hb=>by
  have e:b=it:=by simpa using hb
  subst e
  obtain ⟨o,e,c,d⟩:=st
  exact ⟨o,e,fun v z=>by rw [d] at z;cases z⟩
 keep:=fun i h h' st k=>st.at fun o e=>k it (by simp) o e
 item:=by
  intro X hP hw hK hc i pins s σ H E I hf st hg
  subst hP hw hK
  obtain ⟨xs,x,hq,hx⟩:=hg
  obtain ⟨its,rv,p,hz⟩:=I.list hq
  obtain ⟨u,hu,ru⟩:=rv.get hx
  obtain ⟨f0,f1,f2,f3,f4,f5⟩:=hf it (by simp)
  refine wpAny_pyNext_list_item st p.isList (x:=u) (by simpa using hu) fun h' st' sb=>?_
  have I1:Inv X pins σ H {s with heap:=h'}:=I.turned (t':=s.toks) (fun b o hb e=>(sb.2 b hb).trans e) f0 f1 f3 f4 f5
  obtain ⟨o,e,c,d⟩:=id st'
  exact ⟨u,rfl,pY (s:={s with heap:=h'}) e c d (by decide) ⟨x,H,I1,ru,⟨rfl,fun ys hy=>by rw [I.list_inj hy hq];exact hx⟩,st',fun b hb=>(hf b hb).1⟩⟩
 done:=by
  intro X hP hw hK hc i pins s σ H E I hf st hg
  subst hP hw hK
  obtain ⟨xs,hq,hx⟩:=hg
  obtain ⟨its,rv,p,hz⟩:=I.list hq
  obtain ⟨f0,f1,f2,f3,f4,f5⟩:=hf it (by simp)
  have hl:=rv.length
  exact wpAny_pyNext_list_end (I.ok.hd hc) st p.isList (by simp;omega) fun h' eb=>⟨rfl,I.turned (t':=s.toks) (fun b o hb e=>eb b o hb e) f0 f1 f3 f4 f5⟩
 self:=fun _ _ _ _ _ st h=>wpAny_pyIter_listiter st h
theorem IX (a it:Addr):Turn P w K tg (eR K a) [it] it (fun i h=>h.IsTupleIter it a i) where
 mem:=by simp
 obj:=fun i h st b hb=>by
  have e:b=it:=by simpa using hb
  subst e
  obtain ⟨o,e,c,d⟩:=st
  exact ⟨o,e,fun v z=>by rw [d] at z;cases z⟩
 keep:=fun i h h' st k=>st.at fun o e=>k it (by simp) o e
 item:=by
  intro X hP hw hK hc i pins s σ H E I hf st hg
  subst hP hw hK
  obtain ⟨xs,x,hq,hx⟩:=hg
  obtain ⟨its,rv,p,hz⟩:=I.tuple hq
  obtain ⟨u,hu,ru⟩:=rv.get hx
  obtain ⟨f0,f1,f2,f3,f4,f5⟩:=hf it (by simp)
  refine wpAny_pyNext_tuple_item st (show s.heap.IsTuple a its.toArray from p) (x:=u) (by simpa using hu) fun h' st' sb=>?_
  have I1:Inv X pins σ H {s with heap:=h'}:=I.turned (t':=s.toks) (fun b o hb e=>(sb.2 b hb).trans e) f0 f1 f3 f4 f5
  obtain ⟨o,e,c,d⟩:=id st'
  exact ⟨u,rfl,pY (s:={s with heap:=h'}) e c d (by decide) ⟨x,H,I1,ru,⟨rfl,fun ys hy=>by rw [I.tuple_inj hy hq];exact hx⟩,st',fun b hb=>(hf b hb).1⟩⟩
 done:=by
  intro X hP hw hK hc i pins s σ H E I hf st hg
  subst hP hw hK
  obtain ⟨xs,hq,hx⟩:=hg
  obtain ⟨its,rv,p,hz⟩:=I.tuple hq
  obtain ⟨f0,f1,f2,f3,f4,f5⟩:=hf it (by simp)
  have hl:=rv.length
  exact wpAny_pyNext_tuple_end (I.ok.hd hc) st (show s.heap.IsTuple a its.toArray from p) (by simp;omega) fun h' eb=>⟨rfl,I.turned (t':=s.toks) (fun b o hb e=>eb b o hb e) f0 f1 f3 f4 f5⟩
 self:=fun _ _ _ _ _ st h=>wpAny_pyIter_tupleiter st h
theorem IY (it:Addr) (lo:Int) (n:Nat):Turn P w K tg (ZH lo n) [it] it (fun i h=>IsRangeIter h it (lo+(i:Nat)*1) ((n:Int) - (i:Nat)) 1) where
 mem:=by simp
 obj:=fun i h st b hb=>by
  have e:b=it:=by simpa using hb
  subst e
  exact ⟨_,st,fun v z=>by
   have z':Data.fields _=Data.cell v:=z
   cases z'⟩
 keep:=fun i h h' st k=>k it (by simp) _ st
 item:=by
  intro X hP hw hK hc i pins s σ H E I hf st hg
  subst hP hw hK
  obtain ⟨f0,f1,f2,f3,f4,f5⟩:=hf it (by simp)
  have W:=Walks.range (prog:=X.prog) (w:=X.w) (I.ok.hd hc) it lo 1 n
  refine W.item i s _ _ hg st fun v h' tk hv st' kk=>?_
  obtain ⟨t,rfl⟩:=hv
  have I1:Inv X pins σ H {s with heap:=h',toks:=tk}:=I.turned (fun b o hb e=>kk b o (by simpa using hb) e) f0 f1 f3 f4 f5
  refine ⟨_,rfl,pY (s:={s with heap:=h',toks:=tk}) (n:="range_iterator") st' rfl rfl (by decide) ⟨.int (lo+i),H,I1,⟨t,?_⟩,⟨rfl,rfl⟩,st',fun b hb=>(hf b hb).1⟩⟩
  rw [Int.mul_one]
 done:=by
  intro X hP hw hK hc i pins s σ H E I hf st hg
  subst hP hw hK
  obtain ⟨f0,f1,f2,f3,f4,f5⟩:=hf it (by simp)
  exact wpAny_pyNext_range_end (I.ok.hd hc) st (by have:n≤i:=hg;omega) fun h' eb=>⟨rfl,I.turned (t':=s.toks) (fun b o hb e=>eb b o hb e) f0 f1 f3 f4 f5⟩
 self:=fun _ _ _ _ _ st h=>wpAny_pyIter_rangeiter st h
end L2
namespace L2
open PySem PySem.Spec PyProof.Rows
section
variable {X:Cx} {tg:Expr}
def R3 (K:PySem.W.Frag) (tl:TE):TI:=fun σ H R=>tl σ H fun x H1=>∃a,x=.ref a∧(∃xs,SqL K H1 a xs)∧R (ZI K a) H1
def SW (K:PySem.W.Frag) (tl:TE):TI:=fun σ H R=>tl σ H fun x H1=>∃a,x=.ref a∧(∃xs,SqT K H1 a xs)∧R (eR K a) H1
theorem vC {l:Expr} {tl:TE} (hl:PE X l tl):PI X tg l (R3 X.K tl):=by
 intro pins s σ H R I h
 refine jN (hl pins s σ H _ I h) fun v s1 ⟨x,H1,I1,r1,q1⟩=>?_
 obtain ⟨a,e,⟨xs,hq⟩,q⟩:=q1
 subst e
 cases r1
 obtain ⟨its,rv,p,hz⟩:=I1.list hq
 refine wpAny_pyIter_list p.isList ?_
 refine ⟨s1.heap.objs.size,[s1.heap.objs.size],_,_,H1,rfl,I1.kept (t':=s1.toks) fun b o e=>Heap.get?_push_of_some _ e,LH a _,⟨_,Heap.get?_push_size _ rfl,rfl,rfl⟩,fun b hb=>?_,q⟩
 have e:b=s1.heap.objs.size:=by simpa using hb
 subst e
 exact I1.fpOk (Nat.le_refl _) (I1.hok.fresh (Nat.le_refl _))
theorem O8 {l:Expr} {tl:TE} (hl:PE X l tl):PI X tg l (SW X.K tl):=by
 intro pins s σ H R I h
 refine jN (hl pins s σ H _ I h) fun v s1 ⟨x,H1,I1,r1,q1⟩=>?_
 obtain ⟨a,e,⟨xs,hq⟩,q⟩:=q1
 subst e
 cases r1
 obtain ⟨its,rv,p,hz⟩:=I1.tuple hq
 refine wpAny_pyIter_tuple (show s1.heap.IsTuple a its.toArray from p) ?_
 refine ⟨s1.heap.objs.size,[s1.heap.objs.size],_,_,H1,rfl,I1.kept (t':=s1.toks) fun b o e=>Heap.get?_push_of_some _ e,IX a _,⟨_,Heap.get?_push_size _ rfl,rfl,rfl⟩,fun b hb=>?_,q⟩
 have e:b=s1.heap.objs.size:=by simpa using hb
 subst e
 exact I1.fpOk (Nat.le_refl _) (I1.hok.fresh (Nat.le_refl _))
theorem MR {pins:List (Addr×Obj)} {σ:St} {H:Hp} {s:Shared} {R:It→Hp→Prop} {E:Value→Shared→Prop} {lo hi:Int} {t u v:Tok} {tk:Nat} (I:Inv X pins σ H s) (h1 : -(2 ^ 62)≤lo) (h2:lo<2 ^ 62) (h3 : -(2 ^ 62)≤hi) (h4:hi<2 ^ 62)
    (q:R (ZH lo (hi - lo).toNat) H):wpAny (model X.prog X.w) X.A (pyIter (.ref s.heap.objs.size)) (C9 X pins σ tg R) E {s with heap:=s.heap.push {cls:=.type "range",data:=.fields #[.int lo t,.int hi u,.int 1 v]},toks:=tk}:=by
  refine wpAny_pyIter_range (IsRange.new ..) (small_one h1 h2 h3 h4) ?_
  have I1:Inv X pins σ H {s with heap:=s.heap.push {cls:=.type "range",data:=.fields #[.int lo t,.int hi u,.int 1 v]},toks:=tk}:=I.kept fun b o e=>Heap.get?_push_of_some _ e
  refine ⟨(s.heap.push {cls:=.type "range",data:=.fields #[.int lo t,.int hi u,.int 1 v]}).objs.size,[(s.heap.push {cls:=.type "range",data:=.fields #[.int lo t,.int hi u,.int 1 v]}).objs.size],_,_,H,rfl,
    I1.kept (t':=tk) fun b o e=>Heap.get?_push_of_some _ e,IY _ lo (hi - lo).toNat,?_,fun b hb=>?_,q⟩
  · have e1:lo+((0:Nat):Int)*1=lo:=by simp
    have e2:(((hi - lo).toNat:Nat):Int) - ((0:Nat):Int)=Builtin.Range.rangeSize lo hi 1:=by rw [rangeSize_one];split<;>omega
    show IsRangeIter _ _ (lo+((0:Nat):Int)*1) ((((hi - lo).toNat:Nat):Int) - ((0:Nat):Int)) 1
    rw [e1,e2]
    exact Heap.get?_push_size _ rfl
  · have e:b=(s.heap.push {cls:=.type "range",data:=.fields #[.int lo t,.int hi u,.int 1 v]}).objs.size:=by simpa using hb
    subst e
    exact I1.fpOk (Nat.le_refl _) (I1.hok.fresh (Nat.le_refl _))
def R1 (ta:TA):TI:=fun σ H R=>ta σ H fun vs H1=>∃j:Int,vs=[.int j]∧-(2 ^ 62)≤j∧j<2 ^ 62∧R (ZH 0 j.toNat) H1
theorem zO {a:Expr} {ta:TA} {p pos:Pos} (hg:Gl X "range") (hm:X.mg "range"=none) (ha:PA X [a] ta) (hs:starEach [a] X.env=[(false,eval a X.env)]:=by rfl):PI X tg (.Call (.Name "range" p) [a] [] pos) (R1 ta):=by
 intro pins s σ H R I h
 refine Call_ (Q2 I hg hm boot_range (PyProof.Rows.callWith_type1 (jN (ha pos pins s σ H _ I h) fun us s1 ⟨vs,H1,I1,r1,q1⟩=>?_) hs rfl))
 obtain ⟨j,e,q1,q2,q⟩:=q1
 subst e
 cases r1 with
 |cons r rr =>
  cases rr
  obtain ⟨t,rfl⟩:=r
  exact call_range_1 (MR I1 (by omega) (by omega) q1 q2 (by simpa using q))
def SL (wi:TI) (g:TG) (tb:TS):TS:=fun D σ H=>wi σ H fun J H1=>∃W:Nat→Nat→St→Hp→Prop,(∃m,W 0 m σ H1)∧∀i m σ H,W i m σ H→
 (J.stop i H∧D.nx σ H)∨(J.go i H∧∃N:St→Hp→Prop,(∀σ' H',N σ' H'→∃m',m'<m∧W (i+1) m' σ' H')∧∀x H',J.yld i H x H'→g x σ H' fun σ2 H2=>tb {D with nx:=N,ct:=N,bk:=D.nx} σ2 H2)
def dW (fp:List Addr) (h:Heap):List (Addr×Obj):=fp.filterMap fun b=>(h.get? b).map fun o=>(b,o)
theorem fW {fp:List Addr} {h:Heap} {b:Addr} {o:Obj} (hb:b∈fp) (e:h.get? b=some o):(b,o)∈dW fp h:=List.mem_filterMap.mpr ⟨b,hb,by rw [e];rfl⟩
theorem LV {fp:List Addr} {h:Heap} {p:Addr×Obj} (hp:p∈dW fp h):p.1∈fp∧h.get? p.1=some p.2:=by
 obtain ⟨b,hb,e⟩:=List.mem_filterMap.mp hp
 cases q:h.get? b with
 |none=>rw [q] at e;cases e
 |some o =>
  rw [q] at e
  have e':(b,o)=p:=Option.some.inj e
  subst e'
  exact ⟨hb,q⟩
theorem Inv.pinned {pins:List (Addr×Obj)} {σ:St} {H:Hp} {s:Shared} {fp:List Addr} (I:Inv X pins σ H s) (hf:∀b∈fp,z3 X pins H b) (ho:∀b∈fp,∃o,s.heap.get? b=some o∧∀v,o.data≠.cell v):Inv X (pins++dW fp s.heap) σ H s :=
 I.pins_of fun p hp=>(List.mem_append.mp hp).elim (fun z=>I.pin p (List.mem_append_right _ z)) fun z=>by
  obtain ⟨hb,e⟩:=LV z
  obtain ⟨f0,f1,f2,_⟩:=hf p.1 hb
  obtain ⟨o,e',d⟩:=ho p.1 hb
  rw [e] at e';cases e'
  exact ⟨e,f0,f1,f2,d⟩
theorem Inv.unpinned {pins pl:List (Addr×Obj)} {σ:St} {H:Hp} {s:Shared} (I:Inv X (pins++pl) σ H s):Inv X pins σ H s:=I.pins_of fun p hp=>I.pin p (List.mem_append_right _ (List.mem_append_left _ hp))
theorem zS {iter:Expr} {body:List Stmt} {wi:TI} {g:TG} {tb:TS} {pos:Pos} (hp:PassesOwn (model X.prog X.w) X.A X.env X.xe) (hc:X.calm=true) (hi:PI X tg iter wi) (hg:PG X tg g) (hb:PSs X body tb)
  (hs:∀x,foldedSetIterable iter X.env x=pure x:=by intro _;rfl):PS X (.For tg iter body [] pos) (SL wi g tb):=by
 intro pins s σ H D I h
 refine wpAny_For (jN (hi pins s σ H _ I h) fun v s1 h1=>jN h1 fun itv s2 h2=>?_) hs
 obtain ⟨it,fp,tn,J,H2,e,I2,T,st2,f2,W,⟨m0,w0⟩,turn⟩:=h2
 subst e
 have stat:∀{H':Hp},(∀b∈fp,H' b=none)→∀b∈fp,z3 X pins H' b:=fun hn b hb=>⟨hn b hb,(f2 b hb).2⟩
 refine codeAny_forLoop_any (fun n s'=>∃i σ' H',Inv X pins σ' H' s'∧tn i s'.heap∧(∀b∈fp,H' b=none)∧W i n σ' H') ?_ m0 ⟨0,σ,H2,I2,st2,fun b hb=>(f2 b hb).1,w0⟩
 rintro n s3 ⟨i,σ3,H3,I3,st3,fr3,w3⟩
 rcases turn i n σ3 H3 w3 with ⟨stop,qn⟩|⟨go,N,hN,step⟩
 ·refine wpAny_passesOwn hp (jN (T.done X rfl rfl rfl hc i pins s3 σ3 H3 X.xe I3 (stat fr3) st3 stop) fun r s4 ⟨hr,I4⟩=>?_)
  subst hr
  exact wpAny_execs_nil ⟨σ3,H3,I4,qn⟩
 ·refine wpAny_passesOwn hp (jN (T.item X rfl rfl rfl hc i pins s3 σ3 H3 X.xe I3 (stat fr3) st3 go) fun r s4 ⟨u,hr,h4⟩=>?_)
  subst hr
  refine wpAny_passesOwn hp (jN h4 fun _ s5 ⟨x,H5,I5,r5,y5,st5,fr5⟩=>?_)
  have I5':=I5.pinned (stat fr5) (T.obj _ _ st5)
  refine wpAny_passesOwn hp (jN (hg _ s5 σ3 H5 x u _ I5' r5 (step x H5 y5)) fun _ s6 ⟨σ6,H6,I6,q6⟩=>?_)
  refine wpAny_passesOwn hp (jN (hb _ s6 σ6 H6 _ I6 q6) fun f s7 q7=>?_)
  have again:∀{σ7:St} {H7:Hp},Inv X (pins++dW fp s5.heap) σ7 H7 s7→N σ7 H7→∃m,m<n∧∃i σ' H',Inv X pins σ' H' s7∧tn i s7.heap∧(∀b∈fp,H' b=none)∧W i m σ' H':=fun {σ7 H7} I7 n7=>by
   obtain ⟨m',hm,w7⟩:=hN σ7 H7 n7
   refine ⟨m',hm,i+1,σ7,H7,I7.unpinned,T.keep _ _ _ st5 fun b hb o e=>(I7.pin (b,o) (List.mem_append_right _ (List.mem_append_right _ (fW hb e)))).1,fun b hb=>?_,w7⟩
   obtain ⟨o,e,d⟩:=T.obj _ _ st5 b hb
   exact (I7.pin (b,o) (List.mem_append_right _ (List.mem_append_right _ (fW hb e)))).2.1
  cases f with
  |next=>obtain ⟨σ7,H7,I7,n7⟩:=q7;exact again I7 n7
  |cont=>obtain ⟨σ7,H7,I7,n7⟩:=q7;exact again I7 n7
  |brk=>obtain ⟨σ7,H7,I7,q7⟩:=q7;exact ⟨σ7,H7,I7.unpinned,q7⟩
  |ret v=>obtain ⟨x7,σ7,H7,I7,r7,q7⟩:=q7;exact ⟨x7,σ7,H7,I7.unpinned,r7,q7⟩
end
variable {g:TG} {tb:TS} {D:Ends} {σ:St} {H:Hp}
theorem ZS {K:PySem.W.Frag} {a:Addr} {xs:List V} (Pv:Nat→St→Hp→Prop) (h0:Pv 0 σ H) (hl:∀i σ H,i≤xs.length→Pv i σ H→SqL K H a xs)
    (hs:∀i x σ H,xs[i]?=some x→Pv i σ H→g x σ H fun σ2 H2=>tb {D with nx:=Pv (i+1),ct:=Pv (i+1),bk:=D.nx} σ2 H2) (hd:∀σ H,Pv xs.length σ H→D.nx σ H) :
    ∃W:Nat→Nat→St→Hp→Prop,(∃m,W 0 m σ H)∧∀i m σ H,W i m σ H→
      ((ZI K a).stop i H∧D.nx σ H)∨((ZI K a).go i H∧∃N:St→Hp→Prop,(∀σ' H',N σ' H'→∃m',m'<m∧W (i+1) m' σ' H')∧∀x H',(ZI K a).yld i H x H'→g x σ H' fun σ2 H2=>tb {D with nx:=N,ct:=N,bk:=D.nx} σ2 H2):=by
  refine ⟨fun i m σ H=>m=xs.length - i∧i≤xs.length∧Pv i σ H,⟨xs.length,by simp,Nat.zero_le _,h0⟩,?_⟩
  rintro i m σ H ⟨rfl,hi,p⟩
  have q:=hl i σ H hi p
  by_cases hlt:i<xs.length
  · refine .inr ⟨⟨xs,xs[i],q,by simp [hlt]⟩,Pv (i+1),fun σ' H' p'=>⟨xs.length - (i+1),by omega,rfl,hlt,p'⟩,fun x H' y=>?_⟩
    obtain ⟨e,y⟩:=y
    subst e
    exact hs i x σ _ (y xs q) p
  · have e:i=xs.length:=by omega
    subst e
    exact .inl ⟨⟨xs,q,Nat.le_refl _⟩,hd σ H p⟩
theorem OO {K:PySem.W.Frag} {a:Addr} {xs:List V} (Pv:Nat→St→Hp→Prop) (h0:Pv 0 σ H) (hl:∀i σ H,i≤xs.length→Pv i σ H→SqT K H a xs)
    (hs:∀i x σ H,xs[i]?=some x→Pv i σ H→g x σ H fun σ2 H2=>tb {D with nx:=Pv (i+1),ct:=Pv (i+1),bk:=D.nx} σ2 H2) (hd:∀σ H,Pv xs.length σ H→D.nx σ H) :
    ∃W:Nat→Nat→St→Hp→Prop,(∃m,W 0 m σ H)∧∀i m σ H,W i m σ H→
      ((eR K a).stop i H∧D.nx σ H)∨((eR K a).go i H∧∃N:St→Hp→Prop,(∀σ' H',N σ' H'→∃m',m'<m∧W (i+1) m' σ' H')∧∀x H',(eR K a).yld i H x H'→g x σ H' fun σ2 H2=>tb {D with nx:=N,ct:=N,bk:=D.nx} σ2 H2):=by
  refine ⟨fun i m σ H=>m=xs.length - i∧i≤xs.length∧Pv i σ H,⟨xs.length,by simp,Nat.zero_le _,h0⟩,?_⟩
  rintro i m σ H ⟨rfl,hi,p⟩
  have q:=hl i σ H hi p
  by_cases hlt:i<xs.length
  · refine .inr ⟨⟨xs,xs[i],q,by simp [hlt]⟩,Pv (i+1),fun σ' H' p'=>⟨xs.length - (i+1),by omega,rfl,hlt,p'⟩,fun x H' y=>?_⟩
    obtain ⟨e,y⟩:=y
    subst e
    exact hs i x σ _ (y xs q) p
  · have e:i=xs.length:=by omega
    subst e
    exact .inl ⟨⟨xs,q,Nat.le_refl _⟩,hd σ H p⟩
theorem gG {lo:Int} {n:Nat} (Pv:Nat→St→Hp→Prop) (h0:Pv 0 σ H)
  (hs:∀i σ H,i<n→Pv i σ H→g (.int (lo+i)) σ H fun σ2 H2=>tb {D with nx:=Pv (i+1),ct:=Pv (i+1),bk:=D.nx} σ2 H2) (hd:∀σ H,Pv n σ H→D.nx σ H) :
  ∃W:Nat→Nat→St→Hp→Prop,(∃m,W 0 m σ H)∧∀i m σ H,W i m σ H→
   ((ZH lo n).stop i H∧D.nx σ H)∨((ZH lo n).go i H∧∃N:St→Hp→Prop,(∀σ' H',N σ' H'→∃m',m'<m∧W (i+1) m' σ' H')∧∀x H',(ZH lo n).yld i H x H'→g x σ H' fun σ2 H2=>tb {D with nx:=N,ct:=N,bk:=D.nx} σ2 H2):=by
 refine ⟨fun i m σ H=>m=n - i∧i≤n∧Pv i σ H,⟨n,by simp,Nat.zero_le _,h0⟩,?_⟩
 rintro i m σ H ⟨rfl,hi,p⟩
 by_cases hlt:i<n
 ·refine .inr ⟨hlt,Pv (i+1),fun σ' H' p'=>⟨n - (i+1),by omega,rfl,hlt,p'⟩,fun x H' y=>?_⟩
  obtain ⟨e,y⟩:=y
  subst e y
  exact hs i σ _ hlt p
 ·have e:i=n:=by omega
  subst e
  exact .inl ⟨Nat.le_refl _,hd σ H p⟩
end L2
namespace L2
open PySem PySem.Spec PyProof.Rows
abbrev R2:=V→V→Hp→VK→Prop
def qU (X:Cx) (f:Value→Value→Sem Value) (r:R2):Prop :=
 ∀(pins:List (Addr×Obj)) (s:Shared) (σ:St) (H:Hp) (x y:V) (v u:Value) (Q:VK),Inv X pins σ H s→RelV x v→RelV y u→r x y H Q→
  wpAny (model X.prog X.w) X.A (f v u) (EP X pins σ Q) X.xe s
def rW (X:Cx) (f:Value→Sem Value) (r:V→Hp→VK→Prop):Prop :=
 ∀(pins:List (Addr×Obj)) (s:Shared) (σ:St) (H:Hp) (x:V) (v:Value) (Q:VK),Inv X pins σ H s→RelV x v→r x H Q→
  wpAny (model X.prog X.w) X.A (f v) (EP X pins σ Q) X.xe s
def yV (X:Cx) (f:Value) (r:List V→Hp→VK→Prop):Prop :=
 ∀(pins:List (Addr×Obj)) (s:Shared) (σ:St) (H:Hp) (xs:List V) (us:List Value) (Q:VK),Inv X pins σ H s→Vals xs us→r xs H Q→
  wpAny (model X.prog X.w) X.A (call f us) (EP X pins σ Q) X.xe s
def S4 (X:Cx) (r:V→Hp→(Bool→Hp→Prop)→Prop):Prop :=
 ∀(pins:List (Addr×Obj)) (s:Shared) (σ:St) (H:Hp) (x:V) (v:Value) (Q:Bool→Hp→Prop),Inv X pins σ H s→RelV x v→r x H Q→
  wpAny (model X.prog X.w) X.A (truthy v) (TP X pins σ Q) X.xe s
def Z4 (r:R2) (ta tb:TE):TE:=fun σ H Q=>ta σ H fun x H1=>tb σ H1 fun y H2=>r x y H2 Q
def S9 (r:V→Hp→VK→Prop) (ta:TE):TE:=fun σ H Q=>ta σ H fun x H1=>r x H1 Q
def rI (C:Int→Int→Prop) (g:Int→Int→V):R2:=fun x y H Q=>∃i j,x=.int i∧y=.int j∧C i j∧Q (g i j) H
def ZD (g:Int→Int→V):R2:=fun x y H Q=>∃i j,x=.int i∧y=.int j∧Q (g i j) H
def rU (g:Int→V):V→Hp→VK→Prop:=fun x H Q=>∃i,x=.int i∧Q (g i) H
section
variable {X:Cx} {a b c:Expr} {ta tb tc:TE} {pos:Pos}
theorem rH (ha:PE X a ta) (hb:PE X b tb) {pins:List (Addr×Obj)} {s:Shared} {σ:St} {H:Hp} {R:V→V→Hp→Prop} (I:Inv X pins σ H s)
  (h:ta σ H fun x H1=>tb σ H1 fun y H2=>R x y H2) {Q:Value→Shared→Prop} {f:Value→Value→Sem Value}
  (hf:∀v u s2 x y H2,Inv X pins σ H2 s2→RelV x v→RelV y u→R x y H2→wpAny (model X.prog X.w) X.A (f v u) Q X.xe s2) :
  wpAny (model X.prog X.w) X.A (eval a X.env) (fun v s₁=>wpAny (model X.prog X.w) X.A (eval b X.env) (fun u s₂=>wpAny (model X.prog X.w) X.A (f v u) Q X.xe s₂) X.xe s₁) X.xe s:=by
 refine jN (ha pins s σ H _ I h) fun v s1 ⟨x,H1,I1,r1,q1⟩=>?_
 refine jN (hb pins s1 σ H1 _ I1 q1) fun u s2 ⟨y,H2,I2,r2,q2⟩=>?_
 exact hf v u s2 x y H2 I2 r1 r2 q2
theorem jJ {op:Operator} {r:R2} (ho:qU X (binaryOp op) r) (ha:PE X a ta) (hb:PE X b tb):PE X (.BinOp a op b pos) (Z4 r ta tb):=by
 intro pins s σ H Q I h
 exact wpAny_BinOp (rH ha hb I h fun v u s2 x y H2 I2 rx ry q=>ho pins s2 σ H2 x y v u Q I2 rx ry q)
theorem dZ {op:UnaryOp} {r:V→Hp→VK→Prop} (ho:rW X (unaryOp op) r) (ha:PE X a ta):PE X (.UnaryOp op a pos) (S9 r ta):=by
 intro pins s σ H Q I h
 exact UnaryOp_ (jN (ha pins s σ H _ I h) fun v s1 ⟨x,H1,I1,r1,q1⟩=>ho pins s1 σ H1 x v Q I1 r1 q1)
theorem iX {f:Value→Value→Sem Value} {C:Int→Int→Prop} {g:Int→Int→Int}
  (rule:∀(i j:Int) (t u:Tok) (s:Shared) (Q:Value→Shared→Prop) (E:Value→Shared→Prop),C i j→Q (.int (g i j) s.toks) {s with toks:=s.toks+1}→wpAny (model X.prog X.w) X.A (f (.int i t) (.int j u)) Q E s) :
  qU X f (rI C fun i j=>.int (g i j)):=by
 intro pins s σ H x y v u Q I rx ry h
 obtain ⟨i,j,rfl,rfl,hc,q⟩:=h
 obtain ⟨t,rfl⟩:=rx
 obtain ⟨t',rfl⟩:=ry
 exact rule i j t t' s _ _ hc ⟨.int (g i j),H,I.tok _,⟨_,rfl⟩,q⟩
theorem CY {f:Value→Value→Sem Value} {g:Int→Int→Int}
  (rule:∀(i j:Int) (t u:Tok) (s:Shared) (Q:Value→Shared→Prop) (E:Value→Shared→Prop),Q (.int (g i j) s.toks) {s with toks:=s.toks+1}→wpAny (model X.prog X.w) X.A (f (.int i t) (.int j u)) Q E s) :
  qU X f (ZD fun i j=>.int (g i j)):=by
 intro pins s σ H x y v u Q I rx ry h
 obtain ⟨i,j,rfl,rfl,q⟩:=h
 obtain ⟨t,rfl⟩:=rx
 obtain ⟨t',rfl⟩:=ry
 exact rule i j t t' s _ _ ⟨.int (g i j),H,I.tok _,⟨_,rfl⟩,q⟩
theorem iR {f:Value→Value→Sem Value} {g:Int→Int→Bool}
  (rule:∀(i j:Int) (t u:Tok) (s:Shared) (Q:Value→Shared→Prop) (E:Value→Shared→Prop),Q (.bool (g i j)) s→wpAny (model X.prog X.w) X.A (f (.int i t) (.int j u)) Q E s) :
  qU X f (ZD fun i j=>.bl (g i j)):=by
 intro pins s σ H x y v u Q I rx ry h
 obtain ⟨i,j,rfl,rfl,q⟩:=h
 obtain ⟨t,rfl⟩:=rx
 obtain ⟨t',rfl⟩:=ry
 exact rule i j t t' s _ _ ⟨.bl (g i j),H,I,rfl,q⟩
def S7 (i j:Int):Prop:=0<j∧j<1073741824
def S6 (i j:Int):Prop:=0≤j∧j≤1000000∧i.natAbs<2 ^ 64
def CMul (i j:Int):Prop:=(-(2 ^ 64)<i∧i<2 ^ 64)∨(-(2 ^ 64)<j∧j<2 ^ 64)
theorem CMul.ok {i j:Int} (h:CMul i j):IntMulOk i j:=by
 rcases h with ⟨h1,h2⟩|⟨h1,h2⟩
 ·exact .of_left (intBits_le_64 h1 h2)
 ·exact .of_right (intBits_le_64 h1 h2)
theorem kH:qU X (binaryOp .Add) (ZD fun i j=>.int (i+j)):=CY fun _ _ _ _ _ _ _ q=>add_int q
theorem zT:qU X (binaryOp .Sub) (ZD fun i j=>.int (i - j)):=CY fun _ _ _ _ _ _ _ q=>sub_int q
theorem qG:qU X (binaryOp .Mult) (rI CMul fun i j=>.int (i*j)):=iX fun _ _ _ _ _ _ _ hc q=>mul_int q hc.ok
theorem o9:qU X (binaryOp .FloorDiv) (rI S7 fun i j=>.int (i / j)):=iX fun i j _ _ _ _ _ hc q=>by
 have h1:(0:Int)<j:=hc.1
 have h2:j<1073741824:=hc.2
 exact floordiv_int (by omega) (by rw [Int.fdiv_eq_ediv_of_nonneg i (by omega)];exact q) (.inl (PyProof.noPylong_small (by omega)))
theorem QB:qU X (binaryOp .Mod) (rI (fun _ j=>0<j) fun i j=>.int (i%j)):=iX fun i j _ _ _ _ _ hc q=>by
 have h1:(0:Int)<j:=hc
 exact mod_int' (by omega) (by rw [Int.fmod_eq_emod_of_nonneg i (by omega)];exact q)
theorem PD:qU X (binaryOp .Pow) (rI S6 fun i j=>.int (i ^ j.toNat)):=iX fun _ _ _ _ _ _ _ hc q=>pow_int_small hc.1 hc.2.1 hc.2.2 q
theorem S8 {f:Value→Sem Value} {g:Int→Int}
  (rule:∀(i:Int) (t:Tok) (s:Shared) (Q:Value→Shared→Prop) (E:Value→Shared→Prop),Q (.int (g i) s.toks) {s with toks:=s.toks+1}→wpAny (model X.prog X.w) X.A (f (.int i t)) Q E s) :
  rW X f (rU fun i=>.int (g i)):=by
 intro pins s σ H x v Q I rx h
 obtain ⟨i,rfl,q⟩:=h
 obtain ⟨t,rfl⟩:=rx
 exact rule i t s _ _ ⟨.int (g i),H,I.tok _,⟨_,rfl⟩,q⟩
theorem dU:rW X (unaryOp .USub) (rU fun i=>.int (-i)):=S8 fun _ _ _ _ _ q=>neg_int q
end
def CU:V→V→Bool
 |.non,.non=>true|.non,.int _=>true|.int _,.non=>true|.non,.bl _=>true|.bl _,.non=>true|.non,.str _=>true|.str _,.non=>true
 |.int _,.int _=>true|.bl _,.bl _=>true|.str _,.str _=>true|.byt _,.byt _=>true
 |.int _,.str _=>true|.str _,.int _=>true|.bl _,.str _=>true|.str _,.bl _=>true
 |_,_=>false
def TJ:R2:=fun x y H Q=>CU x y=true∧Q (.bl (decide (x=y))) H
def TH:R2:=fun x y H Q=>CU x y=true∧Q (.bl (!decide (x=y))) H
theorem BA {i j:Int}:decide (V.int i=V.int j)=(i == j):=by
 rw [Bool.eq_iff_iff]
 simp
theorem B8 {i j:Bool}:decide (V.bl i=V.bl j)=(i == j):=by
 rw [Bool.eq_iff_iff]
 simp
theorem AZ {i j:Str}:decide (V.str i=V.str j)=(i == j):=by
 rw [Bool.eq_iff_iff]
 simp
theorem BB {i j:Array UInt8}:decide (V.byt i=V.byt j)=(i.toList == j.toList):=by
 rw [Bool.eq_iff_iff]
 cases i
 cases j
 simp
section
variable {X:Cx} {a b c:Expr} {ta tb tc:TE} {pos:Pos}
theorem kX {pins:List (Addr×Obj)} {σ:St} {H:Hp} {s:Shared} {Q:VK} {k k':Bool} (I:Inv X pins σ H s) (q:Q (.bl k) H) (e:k=k'):EP X pins σ Q (.bool k') s:=by
 subst e
 exact ⟨.bl k,H,I,rfl,q⟩
theorem qM:qU X (compareOp .Eq) TJ:=by
 intro pins s σ H x y v u Q I rx ry h
 obtain ⟨hs,q⟩:=h
 cases x with
 |non =>
  cases rx
  cases y with
  |non=>cases ry;exact PySem.EqNone.eq_none_none (kX I q (by simp))
  |bl j=>cases ry;exact PySem.EqNone.eq_none_bool (kX I q (by simp))
  |int j=>obtain ⟨t',rfl⟩:=ry;exact PySem.EqNone.eq_none_int (kX I q (by simp))
  |str j=>obtain ⟨t',rfl⟩:=ry;exact PySem.EqNone.eq_none_str (kX I q (by simp))
  |_=>exact absurd (show false=true from hs) Bool.false_ne_true
 |bl i =>
  cases rx
  cases y with
  |non=>cases ry;exact PySem.EqNone.eq_bool_none (kX I q (by simp))
  |bl j=>cases ry;exact eq_bool (kX I q B8)
  |str j=>obtain ⟨t',rfl⟩:=ry;exact PySem.EqMixed.eq_bool_str (kX I q (by simp))
  |_=>exact absurd (show false=true from hs) Bool.false_ne_true
 |int i =>
  obtain ⟨t,rfl⟩:=rx
  cases y with
  |non=>cases ry;exact PySem.EqNone.eq_int_none (kX I q (by simp))
  |int j=>obtain ⟨t',rfl⟩:=ry;exact eq_int (kX I q BA)
  |str j=>obtain ⟨t',rfl⟩:=ry;exact PySem.EqMixed.eq_int_str (kX I q (by simp))
  |_=>exact absurd (show false=true from hs) Bool.false_ne_true
 |str i =>
  obtain ⟨t,rfl⟩:=rx
  cases y with
  |non=>cases ry;exact PySem.EqNone.eq_str_none (kX I q (by simp))
  |bl j=>cases ry;exact PySem.EqMixed.eq_str_bool (kX I q (by simp))
  |int j=>obtain ⟨t',rfl⟩:=ry;exact PySem.EqMixed.eq_str_int (kX I q (by simp))
  |str j=>obtain ⟨t',rfl⟩:=ry;exact eq_str (kX I q AZ)
  |_=>exact absurd (show false=true from hs) Bool.false_ne_true
 |byt i =>
  obtain ⟨t,rfl⟩:=rx
  cases y with
  |byt j=>obtain ⟨t',rfl⟩:=ry;exact PySem.W.eq_bytes (kX I q BB)
  |_=>exact absurd (show false=true from hs) Bool.false_ne_true
 |_=>cases y<;>exact absurd (show false=true from hs) Bool.false_ne_true
theorem QI:qU X (compareOp .NotEq) TH:=by
 intro pins s σ H x y v u Q I rx ry h
 obtain ⟨hs,q⟩:=h
 cases x with
 |non =>
  cases rx
  cases y with
  |non=>cases ry;exact PySem.EqNone.ne_none_none (kX I q (by simp))
  |bl j=>cases ry;exact PySem.EqNone.ne_none_bool (kX I q (by simp))
  |int j=>obtain ⟨t',rfl⟩:=ry;exact PySem.EqNone.ne_none_int (kX I q (by simp))
  |str j=>obtain ⟨t',rfl⟩:=ry;exact PySem.EqNone.ne_none_str (kX I q (by simp))
  |_=>exact absurd (show false=true from hs) Bool.false_ne_true
 |bl i =>
  cases rx
  cases y with
  |non=>cases ry;exact PySem.EqNone.ne_bool_none (kX I q (by simp))
  |bl j=>cases ry;exact ne_bool (kX I q (congrArg not B8))
  |str j=>obtain ⟨t',rfl⟩:=ry;exact PySem.EqMixed.ne_bool_str (kX I q (by simp))
  |_=>exact absurd (show false=true from hs) Bool.false_ne_true
 |int i =>
  obtain ⟨t,rfl⟩:=rx
  cases y with
  |non=>cases ry;exact PySem.EqNone.ne_int_none (kX I q (by simp))
  |int j=>obtain ⟨t',rfl⟩:=ry;exact ne_int (kX I q (congrArg not BA))
  |str j=>obtain ⟨t',rfl⟩:=ry;exact PySem.EqMixed.ne_int_str (kX I q (by simp))
  |_=>exact absurd (show false=true from hs) Bool.false_ne_true
 |str i =>
  obtain ⟨t,rfl⟩:=rx
  cases y with
  |non=>cases ry;exact PySem.EqNone.ne_str_none (kX I q (by simp))
  |bl j=>cases ry;exact PySem.EqMixed.ne_str_bool (kX I q (by simp))
  |int j=>obtain ⟨t',rfl⟩:=ry;exact PySem.EqMixed.ne_str_int (kX I q (by simp))
  |str j=>obtain ⟨t',rfl⟩:=ry;exact ne_str (kX I q (congrArg not AZ))
  |_=>exact absurd (show false=true from hs) Bool.false_ne_true
 |byt i =>
  obtain ⟨t,rfl⟩:=rx
  cases y with
  |byt j=>obtain ⟨t',rfl⟩:=ry;exact PySem.W.ne_bytes (kX I q (congrArg not BB))
  |_=>exact absurd (show false=true from hs) Bool.false_ne_true
 |_=>cases y<;>exact absurd (show false=true from hs) Bool.false_ne_true
theorem pU:qU X (compareOp .Lt) (ZD fun i j=>.bl (decide (i<j))):=iR fun _ _ _ _ _ _ _ q=>lt_int q
theorem RN:qU X (compareOp .LtE) (ZD fun i j=>.bl (decide (i≤j))):=iR fun _ _ _ _ _ _ _ q=>le_int q
theorem CL:qU X (compareOp .Gt) (ZD fun i j=>.bl (decide (j<i))):=iR fun _ _ _ _ _ _ _ q=>gt_int q
theorem RO:qU X (compareOp .GtE) (ZD fun i j=>.bl (decide (j≤i))):=iR fun _ _ _ _ _ _ _ q=>ge_int q
theorem PF:qU X (compareOp .Is) (fun x y H Q=>y=.non∧Q (.bl (decide (x=.non))) H):=by
 intro pins s σ H x y v u Q I rx ry h
 obtain ⟨rfl,q⟩:=h
 cases ry
 refine is_none_gen (kX I q ?_)
 cases x<;>first
  | (cases rx;rfl)
  | (obtain ⟨t,rfl⟩:=rx;rfl)
theorem OA:qU X (compareOp .IsNot) (fun x y H Q=>y=.non∧Q (.bl (!decide (x=.non))) H):=by
 intro pins s σ H x y v u Q I rx ry h
 obtain ⟨rfl,q⟩:=h
 cases ry
 refine isnot_none_gen (kX I q ?_)
 cases x<;>first
  | (cases rx;rfl)
  | (obtain ⟨t,rfl⟩:=rx;rfl)
theorem r9 (b:Expr) {op:CmpOp} (h:op≠.In:=by decide) (h2:op≠.NotIn:=by decide):behindInMarks op b=false:=by
 have e1:(op == CmpOp.In)=false:=by cases op<;>first|rfl|exact absurd rfl h
 have e2:(op == CmpOp.NotIn)=false:=by cases op<;>first|rfl|exact absurd rfl h2
 cases b<;>simp [behindInMarks,e1,e2]
theorem N8 {op:CmpOp} {r:R2} (ho:qU X (compareOp op) r) (ha:PE X a ta) (hb:PE X b tb) (hm:behindInMarks op b=false):PE X (.Compare a [op] [b] pos) (Z4 r ta tb):=by
 intro pins s σ H Q I h
 exact wpAny_Compare1 (rH ha hb I h fun v u s2 x y H2 I2 rx ry q=>ho pins s2 σ H2 x y v u Q I2 rx ry q) hm
def CC (t:TE):TT:=fun σ H Q=>t σ H fun x H'=>∃k,x=.bl k∧Q k H'
theorem DD {op:CmpOp} {r:R2} (ho:qU X (compareOp op) r) (ha:PE X a ta) (hb:PE X b tb) (hm:behindInMarks op b=false):PT X (.Compare a [op] [b] pos) (CC (Z4 r ta tb)):=by
 intro pins s σ H Q I h
 refine wpAny_isTrue_Compare1 (jN (ha pins s σ H _ I h) fun v s1 ⟨x,H1,I1,r1,q1⟩=>jN (hb pins s1 σ H1 _ I1 q1) fun u s2 ⟨y,H2,I2,r2,q2⟩ =>
  jN (ho pins s2 σ H2 x y v u _ I2 r1 r2 q2) fun c s3 ⟨z,H3,I3,r3,k,e,q3⟩=>?_) hm
 subst e
 cases r3
 exact wpAny_truthy_bool ⟨H3,I3,q3⟩
def C2 (K:PySem.W.Frag) (x:V) (H:Hp) (k:Bool):Prop :=
 match x with
 |.non=>k=false
 |.bl b=>k=b
 |.int i=>k=(i != 0)
 |.str y=>y.length≤sizeLine∧k=((y.length:Int) != 0)
 |.byt y=>y.size≤sizeLine∧k=((y.size:Int) != 0)
 |.ref p=>(∃xs,SqL K H p xs∧k = !xs.isEmpty)∨(∃xs,SqT K H p xs∧k = !xs.isEmpty)∨∃kvs,H p=some (.dK kvs)∧k = !kvs.isEmpty
 |_=>False
theorem KR {κ:Type} {kvs:List (κ×V)} {vs:List (κ×Value)} (r:KV kvs vs):(!vs.isEmpty) = !kvs.isEmpty:=by
 cases r<;>rfl
theorem tO {xs:List V} {its:List Value} (r:Vals xs its):(!its.toArray.isEmpty) = !xs.isEmpty:=by
 cases r<;>simp
theorem Q1:(sizeLine:Nat)<2 ^ 63:=by rw [sizeLine_eq];decide
theorem OY:S4 X (fun x H Q=>∃k,C2 X.K x H k∧Q k H):=by
 intro pins s σ H x v Q I rx h
 obtain ⟨k,e,q⟩:=h
 have hl:=Q1
 have hs:sizeLine=16777216:=sizeLine_eq
 cases x with
 |non =>
  cases rx
  have e':k=false:=e
  subst e'
  exact truthy_none ⟨H,I,q⟩
 |bl b =>
  cases rx
  have e':k=b:=e
  subst e'
  exact wpAny_truthy_bool ⟨H,I,q⟩
 |int i =>
  obtain ⟨t,rfl⟩:=rx
  have e':k=(i != 0):=e
  subst e'
  exact PySem.P.truthy_int ⟨H,I,q⟩
 |str y =>
  obtain ⟨t,rfl⟩:=rx
  obtain ⟨hy,e'⟩:y.length≤sizeLine∧k=((y.length:Int) != 0):=e
  subst e'
  exact PySem.P.truthy_str (by omega) ⟨H,I.tok _,q⟩
 |byt y =>
  obtain ⟨t,rfl⟩:=rx
  obtain ⟨hy,e'⟩:y.size≤sizeLine∧k=((y.size:Int) != 0):=e
  subst e'
  exact PySem.W.truthy_bytes (by omega) ⟨H,I.tok _,q⟩
 |ref p =>
  cases rx
  have e':(∃xs,SqL X.K H p xs∧k = !xs.isEmpty)∨(∃xs,SqT X.K H p xs∧k = !xs.isEmpty)∨∃kvs,H p=some (.dK kvs)∧k = !kvs.isEmpty:=e
  rcases e' with ⟨xs,hx,e'⟩|⟨xs,hx,e'⟩|⟨kvs,hx,e'⟩
  ·subst e'
   obtain ⟨its,r,pl,hz⟩:=I.list hx
   have hlen:=r.length
   exact wpAny_truthy_list pl.isList (by simp only [List.size_toArray];omega) ⟨H,I.tok _,by rw [tO r];exact q⟩
  ·subst e'
   obtain ⟨its,r,pl,hz⟩:=I.tuple hx
   have hlen:=r.length
   exact truthy_tuple pl (by simp only [List.size_toArray];omega) ⟨H,I.tok _,by rw [tO r];exact q⟩
  ·subst e'
   obtain ⟨hz,hS,vs,r,m⟩:kvs.length≤sizeLine∧(p == sysModules)=false∧∃vs,KV kvs vs∧s.heap.DictOf (yS X.prog X.w) p vs:=I.hok p _ hx
   have hlen:kvs.length=vs.length:=Paired.length r
   exact wpAny_truthy_dict hS m (by omega) ⟨H,I.tok _,by rw [KR r];exact q⟩
 |_=>exact (show False from e).elim
theorem oQ (ha:PE X a ta) (he:∀whole,isTrue a X.env whole=(do let v ← whole;standAt a.pos;holding [v] (truthy v))) :
  PT X a (fun σ H Q=>ta σ H fun x H'=>∃k,C2 X.K x H' k∧Q k H'):=by
 intro pins s σ H Q I h
 exact isTrue_plain (jN (ha pins s σ H _ I h) fun v s1 ⟨x,H1,I1,r1,q1⟩=>OY pins s1 σ H1 x v Q I1 r1 q1) (he _)
theorem nV:qU X (binaryOp .Add) (fun x y H Q=>∃i j,x=.str i∧y=.str j∧i.length+j.length≤sizeLine∧Q (.str (i++j)) H):=by
 intro pins s σ H x y v u Q I rx ry h
 obtain ⟨i,j,rfl,rfl,hz,q⟩:=h
 obtain ⟨t,rfl⟩:=rx
 obtain ⟨t',rfl⟩:=ry
 exact add_str (fun t' tk=>⟨.str (i++j),H,I.tok _,⟨_,rfl⟩,q⟩) hz
theorem QF {x:V} {us:List Value} (r:Vals [x] us):∃u,us=[u]∧RelV x u:=by
 cases r with
 |cons r1 r2=>cases r2;exact ⟨_,rfl,r1⟩
theorem CB {x y:V} {us:List Value} (r:Vals [x,y] us):∃u w',us=[u,w']∧RelV x u∧RelV y w':=by
 cases r with
 |cons r1 r2 =>
  cases r2 with
  |cons r3 r4=>cases r4;exact ⟨_,_,rfl,r1,r3⟩
theorem u8 (hc:X.calm=true):yV X (.builtin "max") (fun xs H Q=>∃i j,xs=[.int i,.int j]∧Q (.int (if j>i then j else i)) H):=by
 intro pins s σ H xs us Q I r h
 obtain ⟨i,j,rfl,q⟩:=h
 obtain ⟨u,w',rfl,⟨t,rfl⟩,⟨t',rfl⟩⟩:=CB r
 refine max_two_ints (I.ok.hd hc) fun h' tk k=>⟨_,H,I.kept k,?_,q⟩
 by_cases hj:j>i
 ·rw [if_pos hj,if_pos hj];exact ⟨_,rfl⟩
 ·rw [if_neg hj,if_neg hj];exact ⟨_,rfl⟩
theorem MF (hc:X.calm=true):yV X (.builtin "min") (fun xs H Q=>∃i j,xs=[.int i,.int j]∧Q (.int (if j<i then j else i)) H):=by
 intro pins s σ H xs us Q I r h
 obtain ⟨i,j,rfl,q⟩:=h
 obtain ⟨u,w',rfl,⟨t,rfl⟩,⟨t',rfl⟩⟩:=CB r
 refine min_two_ints (I.ok.hd hc) fun h' tk k=>⟨_,H,I.kept k,?_,q⟩
 by_cases hj:j<i
 ·rw [if_pos hj,if_pos hj];exact ⟨_,rfl⟩
 ·rw [if_neg hj,if_neg hj];exact ⟨_,rfl⟩
theorem MG:yV X (.type "int") (fun xs H Q=>(∃i,xs=[.int i]∧Q (.int i) H)∨∃k,xs=[.bl k]∧Q (.int (if k then 1 else 0)) H):=by
 intro pins s σ H xs us Q I r h
 rcases h with ⟨i,rfl,q⟩|⟨k,rfl,q⟩
 ·obtain ⟨u,rfl,t,rfl⟩:=QF r
  exact call_int_int ⟨.int i,H,I,⟨_,rfl⟩,q⟩
 ·obtain ⟨u,rfl,r1⟩:=QF r
  cases r1
  exact call_int_bool ⟨.int (if k then 1 else 0),H,I.tok _,⟨_,rfl⟩,q⟩
end
end L2
namespace L2
open PySem PySem.Spec PyProof.Rows
structure ObjM (h:Heap) (x dx C:Addr) (mA:Str→Option Value):Prop where
 obj:h.get? x=some (PySem.W.instObj C dx)
 ns:h.Ns1 dx mA
 ne:dx≠x
theorem LY {h:Heap} {dx:Addr} {mA:Str→Option Value} (n:h.Ns1 dx mA):∃od,h.get? dx=some od∧∀name,PySem.W.lookIn name od=some (mA name):=by
 obtain ⟨o,es,ep,ho,hd,hk,_,hm⟩:=n
 refine ⟨o,ho,fun name=>?_⟩
 have e:=hm name
 unfold nsFind findBy at e
 rw [← Array.find?_toList] at e
 unfold PySem.W.lookIn
 rw [hd]
 dsimp only
 split
 ·rename_i y q
  rw [q] at e
  exact congrArg some e
 ·rename_i q
  rw [q] at e
  have a:es.toList.any (·.refKey)=false:=by
   rw [List.any_eq_false]
   intro y hy
   obtain ⟨z,t,hkey⟩:=hk y (Array.mem_toList_iff.mp hy)
   simp [DictEntry.refKey,hkey]
  have a':¬es.toList.any (·.refKey)=true:=by rw [a];exact Bool.false_ne_true
  rw [if_neg a']
  exact congrArg some e
variable {C:Addr}
theorem ObjM.look {h:Heap} {x dx:Addr} {mA:Str→Option Value} (I:ObjM h x dx C mA):∃od,PySem.W.InstAt h x (PySem.W.instObj C dx) C (some od)∧∀name,PySem.W.lookIn name od=some (mA name) :=
 let ⟨od,ho,hl⟩:=LY I.ns
 ⟨od,⟨I.obj,rfl,rfl,ho⟩,hl⟩
section
variable {prog:Program} {w:World} {A:Around} {E:Value→Shared→Prop} {s:Shared} {K:PySem.W.Frag} {x dx C f:Addr} {mA:Str→Option Value} {name:Str} {v:Value}
theorem OL {expr:Bool} {Q:Value→Shared→Prop} (X:K.In s.heap) (I:ObjM s.heap x dx C mA) (hg:PySem.W.plainGet K C name=true) (hh:PySem.W.hasDictIn K C=true)
  (ha:PySem.W.findIn K (.ref C) name=some none) (hv:mA name=some v) (hv':PySem.W.handedIn v=true) (h:Q v {s with toks:=s.toks+1}) :
  wpAny (model prog w) A (getAttr (.ref x) name expr) Q E s:=by
 obtain ⟨od,J,hl⟩:=I.look
 exact PySem.W.get_value X J (PySem.W.plainGet_of hg).1 (PySem.W.findObj_own hh ha rfl (by rw [hl,hv])) hv' h
theorem M8 {pl:Sem Bool} {Q:Value×List Value→Shared→Prop} (X:K.In s.heap) (I:ObjM s.heap x dx C mA) (hg:PySem.W.plainGet K C name=true)
  (hf:PySem.W.findIn K (.ref C) name=some (some (.ref f))) (ht:PySem.W.isFn K (.ref f)=true) (hv:mA name=none) (h:Q (.ref f,[.ref x]) s) :
  wpAny (model prog w) A (getMethod (.ref x) name pl) Q E s:=by
 obtain ⟨od,J,hl⟩:=I.look
 exact PySem.W.method_fn X J (PySem.W.plainGet_of hg).1 (PySem.W.plainGet_of hg).2 hf (beq_iff_eq.mp ht) (by show (PySem.W.lookIn name od).map (·.isSome)=some false;rw [hl,hv];rfl) h
theorem NY {ns:List Str} {Q:Unit→Shared→Prop} (X:K.In s.heap) (I:ObjM s.heap x dx C mA)
  (hs:PySem.W.findIn K (.ref C) "__setattr__"=some (some (.builtin "object.__setattr__"))) (hp:PySem.W.plainOver K C=true) (ht:PySem.W.takerIn K C name=some none) (hh:PySem.W.hasDictIn K C=true)
  (hw:PySem.Within mA ns) (hsz:ns.length≤sizeLine)
  (h:∀h',ObjM h' x dx C (fun y=>if y=name then some v else mA y)→Heap.SameBut dx s.heap h'→Q () {s with heap:=h',toks:=s.toks+2}) :
  wpAny (model prog w) A (setAttr (.ref x) name v) Q E s:=by
 obtain ⟨od,J,hl⟩:=I.look
 refine PySem.W.set_plain X J hs (PySem.W.osa_open (s:={s with toks:=s.toks+1}) (r:=none) X J hp ht fun b=>?_)
 obtain ⟨cd,hc,hd'⟩:=PySem.W.any_some hh
 have hx:s.heap.get? x=some ⟨.ref C,some dx,.plain,#[]⟩:=I.obj
 refine wpAny_bind (wpAny_pure (wpAny_bind (wpAny_bind (wpAny_loadPart hx (wpAny_bind (PySem.W.Looks.here (s:={s with toks:=s.toks+1}) (PySem.W.looks_clsIn X hc) ?_))))))
 rw [hd']
 refine wpAny_pure (a:=some dx) (wpAny_bind (wpAny_pure (wpAny_bind ?_)))
 refine wpAny_nsSet1 (s:={s with toks:=s.toks+1}) I.ns fun h' hn2 hs2=>?_
 obtain ⟨oD,esD,epD,hoD,hdD,hcD⟩:=hn2.count (PySem.Within.cons name v hw)
 refine wpAny_bind (wpAny_lookBehind hoD (by rw [hdD];exact pastItsLine_dict (Nat.le_trans hcD (by rw [List.length_cons];omega))) ?_)
 exact wpAny_pure (h _ ⟨(hs2.2 _ (Ne.symm I.ne)).trans I.obj,hn2,I.ne⟩ hs2)
theorem M3 {R:Result→Shared→Prop} {vs:List Value} {kw:List (Str×Value)} (X:K.In s.heap) (hm:PySem.W.makesIn K C=true)
  (hi:PySem.W.findIn K (.ref C) "__init__"=some (some (.ref f))) (hf:PySem.W.typeIn K (.ref f)=some (.type "function"))
  (h:codeAny (model prog w) (A.under (.builtin "type.__call__" ⟨.ref C::vs,kw⟩)) (.call (.ref f) ⟨.ref (s.heap.objs.size+1)::vs,kw⟩) (PySem.W.InitBack (s.heap.objs.size+1) R)
   {s with heap:=(s.heap.push PySem.W.emptyDict).push (PySem.W.instObj C s.heap.objs.size)}) :
  codeAny (model prog w) A (.call (.ref C) ⟨vs,kw⟩) R s:=by
 obtain ⟨hh,g,d,t,os⟩:=s
 exact PySem.W.make_core (PySem.W.makes_of X hm) (PySem.W.looks_findIn X hi) (fun self=>PySem.W.bind_fn X self hf) (.inl rfl) h
end
def jV (f:Str) (v:V):List (Str×V)→List (Str×V)
 |[]=>[(f,v)]
 | (g,x)::r=>if g=f then (g,v)::r else (g,x)::jV f v r
theorem vO (f g:Str) (v:V):∀fs:List (Str×V),(jV f v fs).lookup g=if g=f then some v else fs.lookup g
 |[]=>by
  show List.lookup g [(f,v)]=_
  by_cases h:g=f
  ·have hb:(g == f)=true:=beq_iff_eq.mpr h
   simp only [List.lookup,hb,if_pos h]
  ·have hb:(g == f)=false:=beq_eq_false_iff_ne.mpr h
   simp only [List.lookup,hb,if_neg h]
 | (k,x)::r=>by
  have ih:=vO f g v r
  rw [show jV f v ((k,x)::r)=(if k=f then (k,v)::r else (k,x)::jV f v r) from rfl]
  by_cases hk:k=f
  ·rw [if_pos hk]
   by_cases h:g=k
   ·have hb:(g == k)=true:=beq_iff_eq.mpr h
    simp only [List.lookup,hb,if_pos (h.trans hk)]
   ·have hb:(g == k)=false:=beq_eq_false_iff_ne.mpr h
    simp only [List.lookup,hb,if_neg (fun e:g=f=>h (e.trans hk.symm))]
  ·rw [if_neg hk]
   by_cases h:g=k
   ·have hb:(g == k)=true:=beq_iff_eq.mpr h
    simp only [List.lookup,hb,if_neg (fun e:g=f=>hk (h.symm.trans e))]
   ·have hb:(g == k)=false:=beq_eq_false_iff_ne.mpr h
    simp only [List.lookup,hb]
    exact ih
theorem oC (f:Str) (v:V):∀fs:List (Str×V),f∈(jV f v fs).map (·.1)∧∀g,g∈fs.map (·.1)→g∈(jV f v fs).map (·.1)
 |[]=>⟨by simp [jV],fun g h=>by simp at h⟩
 | (k,x)::r=>by
  obtain ⟨i1,i2⟩:=oC f v r
  rw [show jV f v ((k,x)::r)=(if k=f then (k,v)::r else (k,x)::jV f v r) from rfl]
  by_cases hk:k=f
  ·rw [if_pos hk]
   subst hk
   exact ⟨by simp,fun g h=>by simpa using h⟩
  ·rw [if_neg hk]
   refine ⟨?_,fun g h=>?_⟩
   ·rw [List.map_cons]
    exact List.mem_cons_of_mem _ i1
   ·rw [List.map_cons] at h ⊢
    rcases List.mem_cons.mp h with e|e
    ·exact List.mem_cons.mpr (.inl e)
    ·exact List.mem_cons_of_mem _ (i2 g e)
theorem JM (f:Str) (v:V):∀fs:List (Str×V),(jV f v fs).length≤fs.length+1
 |[]=>by simp [jV]
 | (k,x)::r=>by
  have ih:=JM f v r
  rw [show jV f v ((k,x)::r)=(if k=f then (k,v)::r else (k,x)::jV f v r) from rfl]
  by_cases hk:k=f
  ·rw [if_pos hk,List.length_cons,List.length_cons];omega
  ·rw [if_neg hk,List.length_cons,List.length_cons];omega
theorem RelO.some_of {v:V} {o:Option Value} (r:RelO (some v) o):∃u,o=some u∧RelV v u:=by
 cases o with
 |none=>exact (show False from r).elim
 |some u=>exact ⟨u,rfl,r⟩
theorem RelO.none_of {o:Option Value} (r:RelO none o):o=none:=by
 cases o with
 |none=>rfl
 |some u=>exact (show False from r).elim
theorem L5 {v:V} {u:Value} (r:RelV v u):PySem.W.handedIn u=true:=by
 cases v with
 |non=>cases (show u=Value.none from r);rfl
 |bl b=>cases (show u=Value.bool b from r);rfl
 |int i=>obtain ⟨t,e⟩:=(show ∃t,u=Value.int i t from r);cases e;rfl
 |str x=>obtain ⟨t,e⟩:=(show ∃t,u=Value.str x t from r);cases e;rfl
 |byt b=>obtain ⟨t,e⟩:=(show ∃t,u=Value.bytes b t from r);cases e;rfl
 |flt b=>obtain ⟨t,e⟩:=(show ∃t,u=Value.float b t from r);cases e;rfl
 |ref a=>cases (show u=Value.ref a from r);rfl
 |ty n=>cases (show u=Value.type n from r);rfl
section
variable {P:Program} {w:World} {H H':Hp} {h h':Heap} {a C dx:Addr} {fs fs':List (Str×V)}
theorem pB (hok:HOk P w H h) (e:H a=some (.ins C dx fs)):∃mA,ObjM h a dx C mA∧(∀f,RelO (fs.lookup f) (mA f))∧PySem.Within mA (fs.map (·.1))∧fs.length≤1000∧H dx=some (.own a):=by
 obtain ⟨d,z,ne,ob,mA,n,r,q⟩:=(show ObjOk P w H h a (.ins C dx fs) from hok a _ e)
 exact ⟨mA,⟨ob,n,ne⟩,r,q,z,d⟩
end
structure Cls (K:PySem.W.Frag) (C:Addr):Prop where
 pg:PySem.W.plainGet K C Str.empty=true
 hd:PySem.W.hasDictIn K C=true
 po:PySem.W.plainOver K C=true
 sa:PySem.W.findIn K (.ref C) "__setattr__"=some (some (.builtin "object.__setattr__"))
theorem Cls.get {K:PySem.W.Frag} (c:Cls K C) (f:Str):PySem.W.plainGet K C f=true:=c.pg
def NoAttr (K:PySem.W.Frag) (C:Addr) (f:Str):Prop:=PySem.W.findIn K (.ref C) f=some none
theorem NoAttr.taker {K:PySem.W.Frag} {f:Str} (n:NoAttr K C f):PySem.W.takerIn K C f=some none:=by
 unfold PySem.W.takerIn
 rw [show PySem.W.findIn K (.ref C) f=some none from n]
 rfl
structure Meth (K:PySem.W.Frag) (C:Addr) (m:Str) (f:Addr):Prop where
 at_:PySem.W.findIn K (.ref C) m=some (some (.ref f))
 fn:PySem.W.isFn K (.ref f)=true
 kp:PySem.W.keepIn K (.ref f)=true
section
variable {X:Cx} {pins:List (Addr×Obj)} {σ:St} {H:Hp} {s:Shared} {a C dx:Addr} {fs:List (Str×V)} {f:Str} {v:V} {A:Around} {E:Value→Shared→Prop}
theorem KU {b:Bool} {Q:Value→Shared→Prop} (I:Inv X pins σ H s) (e:H a=some (.ins C dx fs)) (c:Cls X.K C) (n:NoAttr X.K C f) (l:fs.lookup f=some v)
  (h:∀u s',Inv X pins σ H s'→RelV v u→Q u s'):wpAny (model X.prog X.w) A (getAttr (.ref a) f b) Q E s:=by
 obtain ⟨mA,O,r,_,_,_⟩:=pB I.hok e
 obtain ⟨u,hu,ru⟩:=RelO.some_of (v:=v) (o:=mA f) (by rw [← l];exact r f)
 exact OL I.kIn O (c.get f) c.hd n hu (L5 ru) (h u _ (I.tok _) ru)
theorem fZ {m:Str} {g:Addr} {pl:Sem Bool} {Q:Value×List Value→Shared→Prop} (I:Inv X pins σ H s) (e:H a=some (.ins C dx fs)) (c:Cls X.K C) (k:Meth X.K C m g) (l:fs.lookup m=none)
  (h:Q (.ref g,[.ref a]) s):wpAny (model X.prog X.w) A (getMethod (.ref a) m pl) Q E s:=by
 obtain ⟨mA,O,r,_,_,_⟩:=pB I.hok e
 have hn:mA m=none:=RelO.none_of (by rw [← l];exact r m)
 exact M8 I.kIn O (c.get m) k.at_ k.fn hn h
theorem KB {y:V} {u:Value} {Q:Unit→Shared→Prop} (I:Inv X pins σ H s) (e:H a=some (.ins C dx fs)) (c:Cls X.K C) (n:NoAttr X.K C f) (hl:fs.length<1000) (ry:RelV y u)
  (h:∀s',Inv X pins σ (upd H a (.ins C dx (jV f y fs))) s'→Q () s'):wpAny (model X.prog X.w) A (setAttr (.ref a) f u) Q E s:=by
 obtain ⟨mA,O,r,wi,_,ho⟩:=pB I.hok e
 have hz:(fs.map (·.1)).length≤sizeLine:=by rw [List.length_map,sizeLine_eq];omega
 refine NY I.kIn O c.sa c.po n.taker c.hd wi hz fun h' O' sb=>h _ ?_
 have hd:∃o,h'.get? dx=some o:=let ⟨o,_,_,e',_⟩:=O'.ns;⟨o,e'⟩
 refine I.write (x:=a) (e:=dx) (by rw [e];exact True.intro) (.inr ho) (fun b q hb z=>(sb.2 b hb).trans z) hd ?_
 refine ⟨by rw [jL O.ne];exact ho,?_,O.ne,O'.obj,_,O'.ns,fun g=>?_,fun g hg=>?_⟩
 ·have:=JM f y fs;omega
 ·show RelO ((jV f y fs).lookup g) (if g=f then some u else mA g)
  rw [vO]
  by_cases q:g=f
  ·rw [if_pos q,if_pos q];exact ry
  ·rw [if_neg q,if_neg q];exact r g
 ·by_cases q:g=f
  ·rw [q];exact (oC f y fs).1
  ·refine (oC f y fs).2 g (wi g fun z=>hg ?_)
   show (if g=f then some u else mA g)=none
   rw [if_neg q];exact z
theorem Inv.made (I:Inv X pins σ H s):Inv X pins σ (upd (upd H s.heap.objs.size (.own (s.heap.objs.size+1))) (s.heap.objs.size+1) (.ins C s.heap.objs.size []))
  {s with heap:=(s.heap.push PySem.W.emptyDict).push (PySem.W.instObj C s.heap.objs.size)}:=by
 have e1:(s.heap.push PySem.W.emptyDict).get? s.heap.objs.size=some PySem.W.emptyDict:=Heap.get?_push_size s.heap rfl
 have e2:((s.heap.push PySem.W.emptyDict).push (PySem.W.instObj C s.heap.objs.size)).get? (s.heap.objs.size+1)=some (PySem.W.instObj C s.heap.objs.size):=by
  have:=Heap.get?_push_size (s.heap.push PySem.W.emptyDict) (o:=PySem.W.instObj C s.heap.objs.size) rfl
  rwa [Heap.size_push] at this
 have e3:(s.heap.push PySem.W.emptyDict).Ns s.heap.objs.size (fun _=>none):=⟨PySem.W.emptyDict,#[],_,e1,rfl,(fun e he=>absurd he (by simp)),fun _=>rfl⟩
 have I1:=I.laid (a:=s.heap.objs.size) (o:=.own (s.heap.objs.size+1)) (h':=s.heap.push PySem.W.emptyDict) (t':=s.toks) (fun b u q=>Heap.get?_push_of_some _ q) (Nat.le_refl _) ⟨_,e1⟩
 refine I1.laid (a:=s.heap.objs.size+1) (o:=.ins C s.heap.objs.size []) (t':=s.toks) (fun b u q=>Heap.get?_push_of_some _ q) (Nat.le_of_eq (Heap.size_push _ _)) ?_
 have ne:s.heap.objs.size≠s.heap.objs.size+1:=Nat.ne_of_lt (Nat.lt_succ_self _)
 refine ⟨by rw [jL ne,jE],Nat.zero_le _,ne,e2,fun _=>none,(Heap.Ns1.of_empty e3).at fun o q=>Heap.get?_push_of_some _ q,fun _=>True.intro,fun y hy=>absurd rfl hy⟩
theorem OV {prog:Program} {w:World} {env:Env} {e:Expr} {f:Str} {pos:Pos} {s:Shared} {Q:Value→Shared→Prop} (hb:attributeBase e f env (eval e env)=eval e env)
  (h:wpAny (model prog w) A (eval e env) (fun o s₁=>wpAny (model prog w) A (getAttr o f true) Q E s₁) E s):wpAny (model prog w) A (eval (.Attribute e f pos) env) Q E s :=
 Attribute_any_ h (by rw [arm_eval_Attribute,hb])
end
def CS (K:PySem.W.Frag) (ta:TE) (f:Str):TE:=fun σ H Q=>ta σ H fun x H1=>∃a C dx fs v,x=.ref a∧H1 a=some (.ins C dx fs)∧Cls K C∧NoAttr K C f∧fs.lookup f=some v∧Q v H1
def SO (K:PySem.W.Frag) (ta tv:TE) (f:Str):TS:=fun D σ H=>tv σ H fun y H1=>ta σ H1 fun x H2=>∃a C dx fs,x=.ref a∧H2 a=some (.ins C dx fs)∧Cls K C∧NoAttr K C f∧fs.length<1000∧
 D.nx σ (upd H2 a (.ins C dx (jV f y fs)))
section
variable {X:Cx} {o e value:Expr} {f:Str} {pos pos' tpos:Pos} {ta tv:TE}
theorem DF (he:PE X e ta) (hb:attributeBase e f X.env (eval e X.env)=eval e X.env):PE X (.Attribute e f pos) (CS X.K ta f):=by
 intro pins s σ H Q I h
 refine OV hb (jN (he pins s σ H _ I h) fun u s1 ⟨x,H1,I1,rx,a,C,dx,fs,v,ex,ea,c,n,l,q⟩=>?_)
 subst ex
 obtain rfl:u=Value.ref a:=rx
 exact KU I1 ea c n l fun u' s2 I2 ru=>⟨v,H1,I2,ru,q⟩
theorem yU (ha:PE X o ta) (hv:PE X value tv) (hs:swapsWith value (some (.Attribute o f pos')) pos.line X.env=pure false):PS X (.Assign [.Attribute o f pos'] value pos) (SO X.K ta tv f):=by
 intro pins s σ H D I h
 refine plainObj_wpAny_Assign_Attribute (jN (hv pins s σ H _ I h) fun u s1 ⟨y,H1,I1,ry,q⟩=>jN (ha pins s1 σ H1 _ I1 q) fun ov s2 ⟨x,H2,I2,rx,a,C,dx,fs,ex,ea,c,n,l,q2⟩=>?_) hs
 subst ex
 obtain rfl:ov=Value.ref a:=rx
 exact KB I2 ea c n l ry fun s3 I3=>⟨σ,_,I3,q2⟩
end
section
variable {X:Cx} {pins:List (Addr×Obj)} {σ:St} {H:Hp} {s:Shared} {A:Around} {E:Value→Shared→Prop} {Q:Value→Shared→Prop} {c:Value} {b:Bool}
end
end L2
namespace L2
open PySem PySem.Spec PyProof.Rows
structure Room (k:Nat) (A:Around):Prop where
 hd:A.handled=none
 dp:A.depth+3*k+5<recursionLimit
 un:A.units+16*k+200<cLine
variable {k:Nat} {A:Around}
theorem Room.mono {j:Nat} (r:Room k A) (h:j≤k):Room j A:=⟨r.hd,by have:=r.dp;omega,by have:=r.un;omega⟩
theorem Room.deeper (r:Room (k+1) A) (env:Env):Room k (A.deeper env) :=
 ⟨r.hd,by have:=r.dp;show A.depth+1+3*k+5<_;omega,by have:=r.un;show A.units+3+16*k+200<_;omega⟩
variable {us:List Value}
theorem KN {C:Addr} {kw:List (Str×Value)}:(A.under (.builtin "type.__call__" ⟨.ref C::us,kw⟩)).depth=A.depth+1:=by
 first|rfl|simp [Around.under,Code.weight,Code.isCreation,Code.isGuard,Code.isCaller,Code.frames,Code.isFrame,guardIds]
theorem KM {C:Addr} {kw:List (Str×Value)}:(A.under (.builtin "type.__call__" ⟨.ref C::us,kw⟩)).units=A.units+1:=by
 first|rfl|simp [Around.under,Code.cUnits,Code.frames,Code.isFrame]
theorem Room.make (r:Room (k+1) A) (C:Addr) (us:List Value) (kw:List (Str×Value)):Room k (A.under (.builtin "type.__call__" ⟨.ref C::us,kw⟩)) :=
 ⟨r.hd,by have:=r.dp;rw [KN];omega,by have:=r.un;rw [KM];omega⟩
theorem Room.depth (r:Room k A):A.depth<recursionLimit:=by have:=r.dp;omega
theorem Room.units (r:Room k A):A.units+64<cLine:=by have:=r.un;omega
theorem Room.units0 (r:Room k A):A.units<cLine:=by have:=r.un;omega
def iP:TA:=fun _ H Q=>Q [] H
def RF (ta:TE) (tr:TA):TA:=fun σ H Q=>ta σ H fun x H1=>tr σ H1 fun xs H2=>Q (x::xs) H2
section
variable {X:Cx} {e:Expr} {es:List Expr} {te:TE} {t:TA} {pos:Pos}
theorem jC:PA X [] iP:=fun _ _ _ _ H Q I h=>Calls.spliced_nil ⟨[],H,I,.nil,h⟩
theorem jB (ha:PE X e te) (hr:PA X es t) (hs:starEach (e::es) X.env=(false,eval e X.env)::starEach es X.env:=by rfl):PA X (e::es) (RF te t):=by
 intro pos pins s σ H Q I h
 rw [hs]
 show wpAny _ _ (spliced ((false,eval e X.env)::backTo pos (starEach es X.env))) _ _ s
 refine Calls.spliced_cons (jN (ha pins s σ H _ I h) fun u s1 ⟨x,H1,I1,r1,q1⟩=>?_)
 exact jN (hr pos pins s1 σ H1 _ I1 q1) fun us s2 ⟨xs,H2,I2,r2,q2⟩=>⟨x::xs,H2,I2,.cons r1 r2,q2⟩
def SC (t:TA):TE:=fun σ H Q=>t σ H fun xs H1=>xs.length≤sizeLine∧∀p,H1 p=none→Q (.ref p) (upd H1 p (.tup xs))
def SI (t:TA):TE:=fun σ H Q=>t σ H fun xs H1=>xs.length≤sizeLine∧∀p,H1 p=none→Q (.ref p) (upd H1 p (.lst xs))
theorem kQ {x1} (h:PA X es t):PE X (.Tuple es x1 pos) (SC t):=by
 intro pins s σ H Q I hq
 refine wpAny_Tuple_spliced (jN (h pos pins s σ H _ I hq) fun us s1 ⟨xs,H1,I1,r,z,q⟩=>⟨by rw [← r.length];exact z,?_⟩)
 have hf:H1 s1.heap.objs.size=none:=I1.hok.fresh (Nat.le_refl _)
 refine ⟨.ref s1.heap.objs.size,upd H1 s1.heap.objs.size (.tup xs),I1.laid (t':=s1.toks) (fun b u e=>Heap.get?_push_of_some _ e) (Nat.le_refl _) ?_,rfl,q _ hf⟩
 exact ⟨z,us,r,⟨_,Heap.get?_push_size _ rfl,rfl,_,rfl⟩⟩
theorem qR (h:PA X es t):PE X (.List es pos) (SI t):=by
 intro pins s σ H Q I hq
 refine wpAny_List_spliced (jN (h pos pins s σ H _ I hq) fun us s1 ⟨xs,H1,I1,r,z,q⟩=>⟨by rw [← r.length];exact z,?_⟩)
 have hf:H1 s1.heap.objs.size=none:=I1.hok.fresh (Nat.le_refl _)
 refine ⟨.ref s1.heap.objs.size,upd H1 s1.heap.objs.size (.lst xs),I1.laid (t':=s1.toks) (fun b u e=>Heap.get?_push_of_some _ e) (Nat.le_refl _) ?_,rfl,q _ hf⟩
 exact ⟨z,us,0,r,Heap.get?_push_size _ rfl⟩
end
abbrev Sp:=List V→Hp→VK→XK→Prop
abbrev vE:=List Env→Hp→Shared→XK→Value→Shared→Prop
structure Env0 (P:Program) (w:World) (K:PySem.W.Frag) (mg:Str→Option Value) (base:Heap) (A:Around) (outer:List Env) (s:Shared) (H:Hp):Prop where
 frames:A.frames=some outer
 mod:Mod K mg base
 bs:∀b o,base.get? b=some o→s.heap.get? b=some o∧H b=none
 bsz:base.objs.size≤s.heap.objs.size
 funs:s.heap.FunFrames base outer
 frf:∀b∈kM outer,H b=none
 hok:HOk P w H s.heap
 bare:AllBare s.gens
def CE (outer:List Env) (P:Program) (w:World) (H:Hp) (s:Shared) (Q:VK) (u:Value) (s':Shared):Prop :=
 ∃v H',s'.os=s.os∧AllBare s'.gens∧Un (kM outer) [] H H' s.heap s'.heap∧HOk P w H' s'.heap∧RelV v u∧Q v H'
def CR (CX:vE) (outer:List Env) (P:Program) (w:World) (H:Hp) (s:Shared) (Q:VK) (E:XK) (r:Result) (s':Shared):Prop :=
 match r with
 |.ok (.ret u)=>CE outer P w H s Q u s'
 |.ok _=>False
 |.error e=>CX outer H s E e s'
structure FnOk (P:Program) (w:World) (K:PySem.W.Frag) (mg:Str→Option Value) (base:Heap) (CX:vE) (k:Nat) (f:Addr) (fd:FuncData) (ps:List Str) (sp:Sp):Prop where
 len:∀vs H Q E,sp vs H Q E→vs.length=ps.length
 run:∀(A:Around) (outer:List Env) (s:Shared) (H:Hp) (args:Args) (us:List Value) (vs:List V) (Q:VK) (E:XK),Room k A→Env0 P w K mg base A outer s H→BindsTo s fd args (ps.zip us)→Vals vs us→sp vs H Q E→
  codeAny (model P w) A (.call (.ref f) args) (CR CX outer P w H s Q E) s
variable {P:Program} {w:World} {K:PySem.W.Frag} {mg:Str→Option Value} {base:Heap} {CX:vE} {f:Addr} {ps:List Str}
theorem FnOk.imp {fd:FuncData} {sp sp':Sp} (F:FnOk P w K mg base CX k f fd ps sp)
  (h:∀vs H Q E,sp' vs H Q E→sp vs H Q E):FnOk P w K mg base CX k f fd ps sp' :=
 ⟨fun vs H Q E q=>F.len vs H Q E (h _ _ _ _ q),fun A outer s H args us vs Q E hr he hb hv hs=>F.run A outer s H args us vs Q E hr he hb hv (h _ _ _ _ hs)⟩
theorem Env0.make {outer:List Env} {s:Shared} {H:Hp} (e:Env0 P w K mg base A outer s H) (C:Addr) (us:List Value) (kw:List (Str×Value)) :
  Env0 P w K mg base (A.under (.builtin "type.__call__" ⟨.ref C::us,kw⟩)) outer s H:=⟨by first|exact e.frames|(simpa [Around.under,Code.envs,Code.isFrame,pushEnvs] using e.frames),e.mod,e.bs,e.bsz,e.funs,e.frf,e.hok,e.bare⟩
section
variable {X:Cx} {pins:List (Addr×Obj)} {σ:St} {H:Hp} {s s':Shared}
theorem Inv.env0 (I:Inv X pins σ H s):Env0 X.prog X.w X.K X.mg X.base X.A X.stack s H :=
 ⟨I.ok.frames,I.ok.mod,I.bs,Nat.le_trans I.ok.bsz I.sz,I.stack,I.stkFree,I.hok,I.bare⟩
theorem Inv.after {Q:VK} {u:Value} (I:Inv X pins σ H s) (h:CE X.stack X.prog X.w H s Q u s'):EP X pins σ Q u s':=by
 obtain ⟨v,H',os,bare,un,hok,r,q⟩:=h
 obtain ⟨hh,g,d,t,os'⟩:=s'
 obtain rfl:os'=s.os:=os
 exact ⟨v,H',I.call (h':=hh) (g':=g) (d':=d) (t':=t) (ch:=[]) un hok bare (fun b z=>absurd z (by simp)),r,q⟩
end
def pS (sp:Sp) (dvs:List V) (E:XK) (t:TA):TE:=fun σ H Q=>t σ H fun vs H1=>sp (vs++dvs) H1 Q E
def iK (C:Addr) (m:Str) (sp:Sp) (dvs:List V) (E:XK) (ta:TE) (t:TA):TE:=fun σ H Q=>ta σ H fun x H1=>∃a dx fs,x=.ref a∧H1 a=some (.ins C dx fs)∧fs.lookup m=none∧
 t σ H1 fun vs H2=>sp (x::(vs++dvs)) H2 Q E
def CD (C:Addr) (sp:Sp) (dvs:List V) (E:XK) (t:TA):TE:=fun σ H Q=>t σ H fun vs H1=>∀x dx,H1 x=none→H1 dx=none→dx≠x→
 sp (.ref x::(vs++dvs)) (upd (upd H1 dx (.own x)) x (.ins C dx [])) (fun v H2=>v=.non∧Q (.ref x) H2) E
def Binds (K:PySem.W.Frag) (fd:FuncData) (ps:List Str) (ds:List Value):Prop :=
 ∀(s:Shared) (us:List Value),K.In s.heap→(us++ds).length=ps.length→BindsTo s fd ⟨us,[]⟩ (ps.zip (us++ds))
theorem Binds.all {fd:FuncData} (h:∀us:List Value,us.length=ps.length→bindArgs fd ⟨us,[]⟩=pure (ps.zip us)):Binds K fd ps []:=fun s us _ hl=>by
 rw [List.append_nil] at hl ⊢
 exact .of_eq (h us hl)
def Q4 (CX:vE) (X:Cx) (E:XK):Prop:=∀(pins:List (Addr×Obj)) (σ:St) (H:Hp) (s:Shared) (e:Value) (s':Shared),Inv X pins σ H s→CX X.stack H s E e s'→X.xe e s'
section
variable {X:Cx} {CX:vE} {k:Nat} {f C:Addr} {fd:FuncData} {ps:List Str} {sp:Sp} {dvs:List V} {ds:List Value} {E:XK} {x m:Str} {p pos apos:Pos} {e o:Expr} {es:List Expr} {ta:TE} {t:TA}
theorem bJ {pins:List (Addr×Obj)} {σ:St} {H:Hp} {s:Shared} {Q:VK} {us:List Value} {vs:List V} (F:FnOk X.prog X.w X.K X.mg X.base CX k f fd ps sp) (hr:Room k X.A) (hb:Binds X.K fd ps ds) (hd:Vals dvs ds) (hx:Q4 CX X E)
  (I:Inv X pins σ H s) (r:Vals vs us) (h:sp (vs++dvs) H Q E):wpAny (model X.prog X.w) X.A (call (.ref f) us) (EP X pins σ Q) X.xe s:=by
 have r2:Vals (vs++dvs) (us++ds):=r.append hd
 have hl:(us++ds).length=ps.length:=by rw [← r2.length];exact F.len _ _ _ _ h
 refine wpAny_call (codeAny_mono (F.run X.A X.stack s H ⟨us,[]⟩ (us++ds) (vs++dvs) Q E hr I.env0 (hb s us I.kIn hl) r2 h) fun r s' hq=>?_)
 cases r with
 |error e=>exact hx pins σ H s e s' I hq
 |ok fl =>
  cases fl with
  |ret u=>exact I.after hq
  |next=>exact False.elim hq
  |brk=>exact False.elim hq
  |cont=>exact False.elim hq
theorem N9 (F:FnOk X.prog X.w X.K X.mg X.base CX k f fd ps sp) (hr:Room k X.A) (hg:Gl X x) (hm:X.mg x=some (.ref f)) (hk:PySem.W.keepIn X.K (.ref f)=true) (hb:Binds X.K fd ps ds) (hd:Vals dvs ds) (hx:Q4 CX X E)
  (ha:PA X (e::es) t) (hdb:(x == ("__debug__":Str))=false:=by decide) (he:starEach (e::es) X.env=(false,eval e X.env)::starEach es X.env:=by rfl) (hpl:(backTo pos (starEach es X.env)).any (·.1)=false:=by rfl) :
  PE X (.Call (.Name x p) (e::es) [] pos) (pS sp dvs E t):=by
 intro pins s σ H Q I h
 refine wpAny_Call_Name_kw (bD I hg hm ?_ hdb)
 refine PySem.W.callWith_K (h₀:=X.base) I.ok.mod.kin hk (jN (ha pos pins s σ H _ I h) fun us s1 ⟨vs,H1,I1,r,q⟩=>⟨I1.kIn,?_⟩) he hpl
 exact bJ F hr hb hd hx I1 r q
theorem N5 {pl:Sem Bool} (he:PE X o ta) (c:Cls X.K C) (hm:Meth X.K C m f) (F:FnOk X.prog X.w X.K X.mg X.base CX k f fd ps sp) (hr:Room k X.A) (hb:Binds X.K fd ps ds) (hd:Vals dvs ds) (hx:Q4 CX X E) (ha:PA X (e::es) t)
  (hst:starEach (e::es) X.env=(false,eval e X.env)::starEach es X.env:=by rfl) (hpl:(backTo pos (starEach es X.env)).any (·.1)=false:=by rfl)
  (ht:eval (.Call (.Attribute o m apos) (e::es) [] pos) X.env=(do
   let ov ← eval o X.env
   standAt apos.atName
   let (f,first) ← holding [ov] (getMethod ov m pl)
   callWith pos f first (backTo pos (starEach (e::es) X.env)) (backToKw pos (keywordEach [] X.env))):=by rfl) :
  PE X (.Call (.Attribute o m apos) (e::es) [] pos) (iK C m sp dvs E ta t):=by
 intro pins s σ H Q I h
 refine PySem.W.methodCall_KW (pl:=pl) (jN (he pins s σ H _ I h) fun u s1 ⟨x,H1,I1,rx,a,dx,fs,ex,ea,l,q⟩=>?_) ht
 subst ex
 obtain rfl:u=Value.ref a:=rx
 refine fZ I1 ea c hm l ?_
 refine PySem.W.callWith_K (first:=[.ref a]) (h₀:=X.base) I.ok.mod.kin hm.kp (jN (ha pos pins s1 σ H1 _ I1 q) fun us s2 ⟨vs,H2,I2,r,q2⟩=>⟨I2.kIn,?_⟩) hst hpl
 exact bJ (us:=.ref a::us) (vs:=.ref a::vs) F hr hb hd hx I2 (.cons rfl r) q2
theorem MU {pl:Sem Bool} (he:PE X o ta) (c:Cls X.K C) (hm:Meth X.K C m f) (F:FnOk X.prog X.w X.K X.mg X.base CX k f fd ps sp) (hr:Room k X.A) (hb:Binds X.K fd ps ds) (hd:Vals dvs ds) (hx:Q4 CX X E)
  (ht:eval (.Call (.Attribute o m apos) [] [] pos) X.env=(do
   let ov ← eval o X.env
   standAt apos.atName
   let (f,first) ← holding [ov] (getMethod ov m pl)
   callWith pos f first (backTo pos (starEach [] X.env)) (backToKw pos (keywordEach [] X.env))):=by rfl) :
  PE X (.Call (.Attribute o m apos) [] [] pos) (iK C m sp dvs E ta iP):=by
 intro pins s σ H Q I h
 refine PySem.W.methodCall_KW (pl:=pl) (jN (he pins s σ H _ I h) fun u s1 ⟨x,H1,I1,rx,a,dx,fs,ex,ea,l,q⟩=>?_) ht
 subst ex
 obtain rfl:u=Value.ref a:=rx
 refine fZ I1 ea c hm l ?_
 exact PySem.W.callWith_K0 (first:=[.ref a]) I1.kIn hm.kp (bJ (us:=[.ref a]) (vs:=[.ref a]) F hr hb hd hx I1 (.cons rfl .nil) q)
structure Mk (K:PySem.W.Frag) (C f:Addr):Prop where
 makes:PySem.W.makesIn K C=true
 init:PySem.W.findIn K (.ref C) "__init__"=some (some (.ref f))
 fn:PySem.W.isFn K (.ref f)=true
 kp:PySem.W.keepIn K (.ref C)=true
theorem MQ {pins:List (Addr×Obj)} {σ:St} {H:Hp} {s:Shared} {Q:VK} {us:List Value} {vs:List V} (M:Mk X.K C f) (F:FnOk X.prog X.w X.K X.mg X.base CX k f fd ps sp) (hr:Room (k+1) X.A) (hb:Binds X.K fd ps ds) (hd:Vals dvs ds)
  (hx:Q4 CX X E) (I:Inv X pins σ H s) (r:Vals vs us)
  (h:∀x dx,H x=none→H dx=none→dx≠x→sp (.ref x::(vs++dvs)) (upd (upd H dx (.own x)) x (.ins C dx [])) (fun v H2=>v=.non∧Q (.ref x) H2) E) :
  wpAny (model X.prog X.w) X.A (call (.ref C) us) (EP X pins σ Q) X.xe s:=by
 have hq:=h (s.heap.objs.size+1) s.heap.objs.size (I.hok.fresh (Nat.le_succ _)) (I.hok.fresh (Nat.le_refl _)) (Nat.ne_of_lt (Nat.lt_succ_self _))
 have I2:=Inv.made (C:=C) I
 have r2:Vals (V.ref (s.heap.objs.size+1)::(vs++dvs)) (Value.ref (s.heap.objs.size+1)::(us++ds)):=.cons rfl (r.append hd)
 have hl:(Value.ref (s.heap.objs.size+1)::us++ds).length=ps.length:=by
  have e:=r2.length
  rw [F.len _ _ _ _ hq] at e
  exact e.symm
 refine wpAny_call (M3 (f:=f) I.kIn M.makes M.init (beq_iff_eq.mp M.fn) (codeAny_mono (F.run _ X.stack _ _ ⟨Value.ref (s.heap.objs.size+1)::us,[]⟩ (Value.ref (s.heap.objs.size+1)::(us++ds)) _ _ E (hr.make C us [])
  (I2.env0.make C us []) (hb _ (Value.ref (s.heap.objs.size+1)::us) I2.kIn hl) r2 hq) fun r s' hq'=>?_))
 cases r with
 |error e=>exact hx pins σ _ _ e s' I2 hq'
 |ok fl =>
  cases fl with
  |ret u =>
   obtain ⟨v,H',I3,rv,ev,q3⟩:=I2.after hq'
   subst ev
   exact ⟨rv,⟨V.ref (s.heap.objs.size+1),H',I3,rfl,q3⟩⟩
  |next=>exact False.elim hq'
  |brk=>exact False.elim hq'
  |cont=>exact False.elim hq'
theorem N6 (M:Mk X.K C f) (F:FnOk X.prog X.w X.K X.mg X.base CX k f fd ps sp) (hr:Room (k+1) X.A) (hg:Gl X x) (hm:X.mg x=some (.ref C)) (hb:Binds X.K fd ps ds) (hd:Vals dvs ds) (hx:Q4 CX X E)
  (ha:PA X (e::es) t) (hdb:(x == ("__debug__":Str))=false:=by decide) (he:starEach (e::es) X.env=(false,eval e X.env)::starEach es X.env:=by rfl) (hpl:(backTo pos (starEach es X.env)).any (·.1)=false:=by rfl) :
  PE X (.Call (.Name x p) (e::es) [] pos) (CD C sp dvs E t):=by
 intro pins s σ H Q I h
 refine wpAny_Call_Name_kw (bD I hg hm ?_ hdb)
 refine PySem.W.callWith_K (h₀:=X.base) I.ok.mod.kin M.kp (jN (ha pos pins s σ H _ I h) fun us s1 ⟨vs,H1,I1,r,q⟩=>⟨I1.kIn,?_⟩) he hpl
 exact MQ M F hr hb hd hx I1 r q
end
section
variable {X:Cx} {CX:vE} {k:Nat} {f C:Addr} {fd:FuncData} {ps ks:List Str} {sp:Sp} {E:XK} {x m:Str} {p pos apos kpos:Pos} {e o:Expr} {es:List Expr} {kws:List Keyword} {te ta:TE} {t tk:TA} {nm:Option Str}
variable {g:List Value→List Value→List Value} {gV:List V→List V→List V}
end
structure FnScope (N P:List Str) (sc:Scope):Prop where
 kind:sc.kind=.function
 co:sc.isCoroutine=false
 gen:sc.isGenerator=false
 nd:N.Nodup
 pre:N.take P.length=P
 par:∀x∈P,sc.names.lookup x=some .local∨sc.names.lookup x=some .cell
 nofree:∀y∈sc.names,y.2≠.free
theorem u9 {kindOf:Str→Option NameKind} {x:Str}:∀{binds:List (Str×Value)} {m:Str→Option Value},(∀v,(x,v)∉binds)→bindL kindOf binds m x=m x
 |[],_,_=>rfl
 | (n,v)::r,m,h=>by
  unfold bindL
  rw [u9 fun w hw=>h w (List.mem_cons_of_mem _ hw)]
  split
  ·have:x≠n:=by rintro rfl;exact h v List.mem_cons_self
   simp [this]
  ·rfl
theorem wB {kindOf:Str→Option NameKind} {x:Str}:∀{binds:List (Str×Value)} {m:Str→Option Value},(∀v,(x,v)∉binds)→bindC kindOf binds m x=m x
 |[],_,_=>rfl
 | (n,v)::r,m,h=>by
  unfold bindC
  rw [wB fun w hw=>h w (List.mem_cons_of_mem _ hw)]
  split
  ·rfl
  ·have:x≠n:=by rintro rfl;exact h v List.mem_cons_self
   simp [this]
theorem wA {kindOf:Str→Option NameKind} {x:Str} {v:Value}:∀{P:List Str} {vs:List Value} {i:Nat} {m:Str→Option Value},P.Nodup→P[i]?=some x→vs[i]?=some v→kindOf x=some .local→
  bindL kindOf (P.zip vs) m x=some v
 |[],_,_,_,_,h,_,_=>by simp at h
 |_::_,[],_,_,_,_,h,_=>by simp at h
 |p::P,w::vs,0,m,nd,h1,h2,hk=>by
  simp at h1 h2;subst h1;subst h2
  show bindL kindOf ((p,w)::P.zip vs) m p=_
  unfold bindL
  rw [u9 fun v hv=>(List.nodup_cons.mp nd).1 (List.of_mem_zip hv).1,if_pos hk]
  simp
 |p::P,w::vs,i+1,m,nd,h1,h2,hk=>by
  show bindL kindOf ((p,w)::P.zip vs) m x=_
  unfold bindL
  exact wA (i:=i) (List.nodup_cons.mp nd).2 (by simpa using h1) (by simpa using h2) hk
theorem wC {kindOf:Str→Option NameKind} {x:Str} {v:Value}:∀{P:List Str} {vs:List Value} {i:Nat} {m:Str→Option Value},P.Nodup→P[i]?=some x→vs[i]?=some v→kindOf x≠some .local→
  bindC kindOf (P.zip vs) m x=some v
 |[],_,_,_,_,h,_,_=>by simp at h
 |_::_,[],_,_,_,_,h,_=>by simp at h
 |p::P,w::vs,0,m,nd,h1,h2,hk=>by
  simp at h1 h2;subst h1;subst h2
  show bindC kindOf ((p,w)::P.zip vs) m p=_
  unfold bindC
  rw [wB fun v hv=>(List.nodup_cons.mp nd).1 (List.of_mem_zip hv).1,if_neg hk]
  simp
 |p::P,w::vs,i+1,m,nd,h1,h2,hk=>by
  show bindC kindOf ((p,w)::P.zip vs) m x=_
  unfold bindC
  exact wC (i:=i) (List.nodup_cons.mp nd).2 (by simpa using h1) (by simpa using h2) hk
def start (N:List Str) (vs:List V):St:=vs.map some++List.replicate (N.length - vs.length) none
def vA (CX:vE) (P:Program) (w:World) (K:PySem.W.Frag) (mg:Str→Option Value) (base:Heap) (N:List Str) (qual:Str) (scope:Scope) (f:Addr) (cd:Value) (A:Around) (outer:List Env) (s:Shared) (H:Hp) (E:XK):Cx where
 prog:=P
 w:=w
 K:=K
 mg:=mg
 base:=base
 A:=A.deeper (envOfC qual scope s.heap.objs.size f cd)
 N:=N
 s₀:=s
 H₀:=H
 env:=envOfC qual scope s.heap.objs.size f cd
 outer:=outer
 stack:=envOfC qual scope s.heap.objs.size f cd::outer
 ex:=[]
 calm:=true
 fn:=fun _=>true
 pn:=[]
 xe:=fun e s'=>wpAny (model P w) (A.deeper (envOfC qual scope s.heap.objs.size f cd)) (leaving (envOfC qual scope s.heap.objs.size f cd) e) (fun _ s''=>CX outer H s E e s'') (fun e' s''=>CX outer H s E e' s'') s'
theorem xU {sc:Scope} {n:Nat} {x:Str} (h:sc.names.lookup x=some .cell):∃c,(cellsFrom n sc.names []).lookup x=some c:=by
 have q:=PySem.W.cellsFrom_some sc.names n [] (.inl h)
 exact Option.isSome_iff_exists.mp q
theorem uW {N:List Str} {qual:Str} {scope:Scope} {cd:Value} {outer:List Env} {s s1:Shared} {H:Hp} {E:XK} {vs:List V}
  (S:FnScope N ps scope) (hd:A.handled=none) (e0:Env0 P w K mg base A outer s H) (hl:vs.length=ps.length) (r:Vals vs us)
  (x:InCallC s s.heap.objs.size (bindL (envOfC qual scope s.heap.objs.size f cd).kindOf (ps.zip us) fun _=>none) (cellsFrom (s.heap.objs.size+1) scope.names []) (bindC (envOfC qual scope s.heap.objs.size f cd).kindOf (ps.zip us) fun _=>none) s1) :
  Inv (vA CX P w K mg base N qual scope f cd A outer s H E) [] (start N vs) H s1:=by
 have hpl:ps.length≤N.length:=by have:=congrArg List.length S.pre;rw [List.length_take] at this;omega
 obtain ⟨h1,tk,rfl,hk⟩:=x.done
 have noA:∀b:Addr,b∉(vA CX P w K mg base N qual scope f cd A outer s H E).ex:=fun b z=>absurd (show b∈([]:List Addr) from z) (by simp)
 refine ⟨⟨e0.mod,S.kind,rfl,rfl,Nat.le_refl _,fun y z c h1 h2=>?_,fun y hy=>?_,fun y c _ h=>?_,fun _=>hd,Around.frames_deeper e0.frames,.inr ⟨rfl,rfl⟩,fun b z=>absurd z (noA b),e0.bs,e0.bsz,fun b _ _=>noA b,fun b z=>absurd z (noA b),e0.funs,e0.frf⟩,
  rfl,e0.bare,Un.kept hk,⟨_,x.toInCall.ns,fun i y v h1 h2 h3=>?_⟩,fun y c h=>⟨_,x.cell y c h⟩,e0.hok.fresh (Nat.le_refl _),fun y c h=>?_,fun p hp=>absurd (show p∈([]:List (Addr×Obj)) from hp) (by simp),e0.hok.kept hk,?_⟩
 ·exact name_of_addr x.apart (PySem.mem_of_lookup h1) (PySem.mem_of_lookup h2)
 ·have hy:scope.names.lookup y=some .cell∨scope.names.lookup y=some .free:=hy
  rcases hy with hy|hy
  ·exact xU hy
  ·exact absurd rfl (S.nofree _ (PySem.mem_of_lookup hy))
 ·exact Nat.le_of_lt (x.above y c (PySem.mem_of_lookup h))
 ·have hi:i<vs.length:=by
   unfold start at h2
   by_cases hi:i<vs.length
   ·exact hi
   ·rw [List.getElem?_append_right (by simpa using hi)] at h2
    rw [List.getElem?_replicate] at h2
    split at h2<;>cases h2
  have ha:vs[i]?=some v:=by
   unfold start at h2
   rw [List.getElem?_append_left (by simpa using hi),List.getElem?_map] at h2
   cases e:vs[i]? with
   |none=>rw [e] at h2;cases h2
   |some a=>rw [e] at h2;cases h2;rfl
  obtain ⟨u,hu,rv⟩:=r.get ha
  have hp:ps[i]?=some y:=by
   rw [← S.pre,List.getElem?_take_of_lt (by omega)];exact h1
  have ndP:ps.Nodup:=by rw [← S.pre];exact S.nd.sublist (List.take_sublist _ _)
  refine ⟨u,rv,?_⟩
  rcases S.par y (List.mem_of_getElem? hp) with k|k
  ·exact .inl ⟨k,wA ndP hp hu k⟩
  ·obtain ⟨c,e⟩:=xU (n:=s.heap.objs.size+1) k
   refine .inr ⟨.inl k,c,e,?_⟩
   have q:=x.cell y c e
   rw [wC ndP hp hu (by show scope.names.lookup y≠_;rw [k];decide)] at q
   exact q
 ·exact e0.hok.fresh (Nat.le_of_lt (x.above y c (PySem.mem_of_lookup h)))
 ·unfold start
  show _=N.length
  rw [List.length_append,List.length_map,List.length_replicate]
  omega
theorem rA {name qual:Str} {params:Arguments} {body:List Stmt} {scope:Scope} {dV kV doc pm cdv ct oc:Value} {an od:Option Addr}
  {osl:Array (Option Value)} {N:List Str} {sp:Sp} (lk:K.lookup f=some ⟨oc,od,.func (PySem.W.fnOf name qual params body scope dV kV doc pm an cdv ct),osl⟩) (hcd:PySem.W.codeIn K cdv qual=true) (S:FnScope N ps scope)
  (len:∀vs H Q E,sp vs H Q E→vs.length=ps.length)
  (hbody:∀(A:Around) (outer:List Env) (s:Shared) (H:Hp) (vs:List V) (Q:VK) (E:XK),Room k (A.deeper (envOfC qual scope s.heap.objs.size f cdv))→sp vs H Q E→
   ∃t,PSs (vA CX P w K mg base N qual scope f cdv A outer s H E) body t∧t {nx:=fun _ H'=>Q .non H',rt:=Q} (start N vs) H) :
  FnOk P w K mg base CX (k+1) f (PySem.W.fnOf name qual params body scope dV kV doc pm an cdv ct) ps sp:=by
 refine ⟨len,fun A outer s H args us vs Q E hr e0 hb r hsp=>?_⟩
 have hl:=len _ _ _ _ hsp
 have KX:K.In s.heap:=e0.mod.kin.keeps fun b o e=>(e0.bs b o e).1
 have lim:s.heap.NoLimit:=e0.mod.nolimit.keeps fun b o e=>(e0.bs b o e).1
 have hkind:∀y∈ps.zip us,scope.names.lookup y.1=some .local∨(scope.names.lookup y.1=some .cell∧((cellsFrom (s.heap.objs.size+1) scope.names []).lookup y.1).isSome=true):=fun ⟨n,v⟩ hy=>by
  rcases S.par n (List.of_mem_zip hy).1 with q|q
  ·exact .inl q
  ·exact .inr ⟨q,PySem.W.cellsFrom_some _ _ _ (.inl q)⟩
 refine codeAny_call_function hr.depth (KX _ _ lk) rfl S.co S.gen rfl (PySem.W.codeRec_of KX hcd) (hb _ _ _ _ ?_)
 refine wpAny_newFunctionEnv_cells S.kind hkind fun env he s1 x=>?_
 subst he
 refine ⟨lim.keeps x.toInCall.keep,codeAny_func ?_⟩
 obtain ⟨t,ht,hq⟩:=hbody A outer s H vs Q E (hr.deeper _) hsp
 have I:Inv (vA CX P w K mg base N qual scope f cdv A outer s H E) [] (start N vs) H s1:=uW S hr.hd e0 hl r x
 refine wpAny_mono (ht [] s1 (start N vs) H _ I hq) (fun fl s' hs=>?_) fun e s' hs=>hs
 have fin:∀{σ':St} {H':Hp} {v:V} {u:Value},Inv (vA CX P w K mg base N qual scope f cdv A outer s H E) [] σ' H' s'→RelV v u→Q v H'→CE outer P w H s Q u s' :=
  fun {σ' H' v u} J rv q=>⟨v,H',J.os,J.bare,J.base,J.hok,rv,q⟩
 cases fl with
 |ret u =>
  obtain ⟨v,σ',H',J,rv,q⟩:=hs
  exact fin J rv q
 |next =>
  obtain ⟨σ',H',J,q⟩:=hs
  exact fin (v:=V.non) (u:=Value.none) J rfl q
 |brk =>
  obtain ⟨_,_,_,q⟩:=hs
  exact False.elim q
 |cont =>
  obtain ⟨_,_,_,q⟩:=hs
  exact False.elim q
end L2
namespace L2
open PySem PySem.Spec PyProof.Rows
section
variable {X:Cx} {x:Str} {p pos:Pos} {e:Expr} {es:List Expr} {t:TA} {id T:String} {r:List V→Hp→VK→Prop}
def C7 (r:List V→Hp→VK→Prop) (t:TA):TE:=fun σ H Q=>t σ H fun vs H1=>r vs H1 Q
theorem kP (hc:yV X (.builtin id) r) (hg:Gl X x) (hm:X.mg x=none) (hv:bootBuiltins x=some (.builtin id)) (ha:PA X (e::es) t) (hn:x≠"__name__":=by decide) (hdb:(x == ("__debug__":Str))=false:=by decide)
  (he:starEach (e::es) X.env=(false,eval e X.env)::starEach es X.env:=by rfl) (hpl:(backTo pos (starEach es X.env)).any (·.1)=false:=by rfl):PE X (.Call (.Name x p) (e::es) [] pos) (C7 r t):=by
 intro pins s σ H Q I h
 refine wpAny_Call_Name_kw (Q2 I hg hm hv ?_ hn hdb)
 exact PyProof.Rows.callWith_builtin1 (jN (ha pos pins s σ H _ I h) fun us s1 ⟨vs,H1,I1,r1,q1⟩=>hc pins s1 σ H1 vs us Q I1 r1 q1) he hpl
theorem yA (hc:yV X (.type T) r) (hg:Gl X x) (hm:X.mg x=none) (hv:bootBuiltins x=some (.type T)) (ha:PA X (e::es) t) (hn:x≠"__name__":=by decide) (hdb:(x == ("__debug__":Str))=false:=by decide)
  (he:starEach (e::es) X.env=(false,eval e X.env)::starEach es X.env:=by rfl) (hpl:(backTo pos (starEach es X.env)).any (·.1)=false:=by rfl):PE X (.Call (.Name x p) (e::es) [] pos) (C7 r t):=by
 intro pins s σ H Q I h
 refine wpAny_Call_Name_kw (Q2 I hg hm hv ?_ hn hdb)
 exact PyProof.Rows.callWith_type1 (jN (ha pos pins s σ H _ I h) fun us s1 ⟨vs,H1,I1,r1,q1⟩=>hc pins s1 σ H1 vs us Q I1 r1 q1) he hpl
end
end L2
namespace HT
open PySem PyProof.Rows
section
open PySem.SeqAt
open PySem.AutoSeq1 (wpAny_loadPart')
open PySem.MeetsSeq PySem.MeetsSeq2 PySem.MeetsSeq3
end
section
variable {prog:Program} {w:World} {A:Around} {E:Value→Shared→Prop} {s:Shared}
def sIx (n d:Nat):Option Int→Nat
 |none=>d
 |some v=>if v<0 then (v+(n:Int)).toNat else min v.toNat n
end
end HT
namespace L2
open PySem PySem.Spec PyProof.Rows
abbrev TO:=St→Hp→(Option Int→Hp→Prop)→Prop
def PO (X:Cx) (e:Option Expr) (t:TO):Prop :=
 ∀(pins:List (Addr×Obj)) (s:Shared) (σ:St) (H:Hp) (Q:Option Int→Hp→Prop),Inv X pins σ H s→t σ H Q→
  wpAny (model X.prog X.w) X.A (evalPart e X.env) (fun u s'=>∃o H',Inv X pins σ H' s'∧IsPart u o∧Q o H') X.xe s
def NS:TO:=fun _ H Q=>Q none H
def P8 (t:TE):TO:=fun σ H Q=>t σ H fun x H1=>∃i,x=.int i∧Q (some i) H1
section
variable {X:Cx} {e:Expr} {te:TE} {lo hi:Option Expr} {tl th:TO} {pos p2:Pos}
theorem gU:PO X none NS:=by
 intro pins s σ H Q I h
 rw [evalPart_none]
 exact wpAny_pure ⟨none,H,I,.none,h⟩
theorem Z6 (h:PE X e te):PO X (some e) (P8 te):=by
 intro pins s σ H Q I hw
 rw [evalPart_some]
 refine jN (h pins s σ H _ I hw) fun u s1 ⟨x,H1,I1,r1,q1⟩=>?_
 obtain ⟨i,rfl,q⟩:=q1
 obtain ⟨t,rfl⟩:=r1
 exact ⟨some i,H1,I1,.int i t,q⟩
def i3 (X:Cx) (r:V→Option Int→Option Int→Hp→VK→Prop):Prop :=
 ∀(pins:List (Addr×Obj)) (s:Shared) (σ:St) (H:Hp) (x:V) (v vl vu:Value) (lo hi:Option Int) (sl:Addr) (Q:VK),Inv X pins σ H s→RelV x v→s.heap.IsSliceOf sl vl vu .none→IsPart vl lo→IsPart vu hi→r x lo hi H Q→
  ∃T id,typeLookup (.type T) "__getitem__"=pure (some (.builtin id))∧s.TypeIs v T∧wpAny (model X.prog X.w) X.A (getItem v (.ref sl)) (EP X pins σ Q) X.xe s
def TB (r:V→Option Int→Option Int→Hp→VK→Prop) (te:TE) (tl th:TO):TE:=fun σ H Q=>te σ H fun x H1=>tl σ H1 fun l H2=>th σ H2 fun u H3=>r x l u H3 Q
theorem dI {r:V→Option Int→Option Int→Hp→VK→Prop} (hr:i3 X r) (he:PE X e te) (hl:PO X lo tl) (hu:PO X hi th):PE X (.Subscript e (.Slice lo hi none p2) pos) (TB r te tl th):=by
 intro pins s σ H Q I h
 refine Subscript_ (jN (he pins s σ H _ I h) fun v s1 ⟨x,H1,I1,r1,q1⟩=>?_)
 refine wpAny_Slice (jN (hl pins s1 σ H1 _ I1 q1) fun vl s2 ⟨l,H2,I2,pl,q2⟩=>jN (hu pins s2 σ H2 _ I2 q2) fun vu s3 ⟨u,H3,I3,pu,q3⟩=>?_)
 rw [evalPart_none]
 refine wpAny_pure ?_
 have I4:Inv X pins σ H3 {s3 with heap:=s3.heap.push {cls:=.type "slice",data:=.fields #[vl,vu,.none]}}:=I3.kept (t':=s3.toks) fun b ob q=>Heap.get?_push_of_some _ q
 obtain ⟨T,id,hT,ht,hg⟩:=hr pins {s3 with heap:=s3.heap.push {cls:=.type "slice",data:=.fields #[vl,vu,.none]}} σ H3 x v vl vu l u s3.heap.objs.size Q I4 r1 (Heap.IsSliceOf.new ..) pl pu q3
 show wpAny (model X.prog X.w) X.A (subscriptTail e (.Slice lo hi none p2) v (.ref s3.heap.objs.size)) (EP X pins σ Q) X.xe {s3 with heap:=s3.heap.push {cls:=.type "slice",data:=.fields #[vl,vu,.none]}}
 exact tail_any (ops:=[.ref s3.heap.objs.size,v]) ht hT hg (by with_unfolding_all rfl)
def bY (xs:List V) (lo hi:Option Int):List V:=(xs.drop (HT.sIx xs.length 0 lo)).take (HT.sIx xs.length xs.length hi - HT.sIx xs.length 0 lo)
theorem IU (xs:List V) (lo hi:Option Int):(bY xs lo hi).length≤xs.length:=by
 unfold bY
 rw [List.length_take,List.length_drop]
 omega
end
end L2
namespace L2
open PySem PySem.Spec PyProof.Rows
def yX (n:Nat) (i:Int):Option Nat:=if 0≤i then (if i<n then some i.toNat else none) else if -(n:Int)≤i then some (i+n).toNat else none
def qT {α:Type} (xs:List α) (i:Int):Option α:=(yX xs.length i).bind fun j=>xs[j]?
theorem AR {n:Nat} {i:Int} {j:Nat} (h:yX n i=some j):seqIndex? i n=some j∧j<n∧-(n:Int)≤i∧i<n:=by
 unfold yX at h
 by_cases h0:0≤i
 ·rw [if_pos h0] at h
  by_cases h1:i<n
  ·rw [if_pos h1] at h
   have e:i.toNat=j:=Option.some.inj h
   exact ⟨by rw [seqIndex_of h0 h1,e],by omega,by omega,h1⟩
  ·rw [if_neg h1] at h;cases h
 ·rw [if_neg h0] at h
  by_cases h1 : -(n:Int)≤i
  ·rw [if_pos h1] at h
   have e:(i+n).toNat=j:=Option.some.inj h
   exact ⟨by rw [seqIndex_neg (by omega) h1,e],by omega,h1,by omega⟩
  ·rw [if_neg h1] at h;cases h
variable {α:Type}
theorem gZ {xs:List α} {i:Int} {v:α} (h:qT xs i=some v):∃j,seqIndex? i xs.length=some j∧xs[j]?=some v∧j<xs.length∧-(xs.length:Int)≤i∧i<xs.length:=by
 unfold qT at h
 cases e:yX xs.length i with
 |none=>rw [e] at h;cases h
 |some j =>
  rw [e] at h
  obtain ⟨h1,h2,h3,h4⟩:=AR e
  exact ⟨j,h1,h,h2,h3,h4⟩
theorem qL {xs:List α} {j:Nat} {v:α} (h:xs[j]?=some v):qT xs (j:Int)=some v:=by
 have hj:j<xs.length:=(List.getElem?_eq_some_iff.mp h).1
 have e:yX xs.length (j:Int)=some j:=by
  unfold yX
  rw [if_pos (by omega),if_pos (by omega)];simp
 unfold qT;rw [e];exact h
theorem atI_last (xs:List α) (v:α):qT (xs++[v]) (-1)=some v:=by
 have hl:(xs++[v]).length=xs.length+1:=by simp
 have e:yX (xs++[v]).length (-1)=some xs.length:=by
  unfold yX
  rw [hl,if_neg (by decide),if_pos (by omega)]
  congr 1
  omega
 unfold qT
 rw [e]
 show (xs++[v])[xs.length]?=some v
 simp
def BF (b:Expr):Prop:=∀o i,subscripted b false o i=operate [o,i] (getItem o i)
def IxR (X:Cx) (r:R2):Prop :=
 ∀(value slice:Expr) (pins:List (Addr×Obj)) (s:Shared) (σ:St) (H:Hp) (x y:V) (v u:Value) (Q:VK),Inv X pins σ H s→RelV x v→RelV y u→r x y H Q→
  subscripted slice false v u=operate [v,u] (getItem v u)→wpAny (model X.prog X.w) X.A (subscriptTail value slice v u) (EP X pins σ Q) X.xe s
def DA (X:Cx) (id:String) (r:V→List V→Hp→VK→Prop):Prop :=
 ∀(pins:List (Addr×Obj)) (s:Shared) (σ:St) (H:Hp) (x:V) (xs:List V) (v:Value) (us:List Value) (Q:VK),Inv X pins σ H s→RelV x v→Vals xs us→r x xs H Q→
  wpAny (model X.prog X.w) X.A (call (.builtin id) (v::us)) (EP X pins σ Q) X.xe s
section
variable {X:Cx} {a b:Expr} {ta tb:TE} {pos:Pos}
theorem IxR.or {r r':R2} (h:IxR X r) (h':IxR X r'):IxR X (fun x y H Q=>r x y H Q∨r' x y H Q):=by
 intro value slice pins s σ H x y v u Q I rx ry q hs
 rcases q with q|q
 ·exact h value slice pins s σ H x y v u Q I rx ry q hs
 ·exact h' value slice pins s σ H x y v u Q I rx ry q hs
theorem DE {r:R2} (hr:IxR X r) (ha:PE X a ta) (hb:PE X b tb) (hs:BF b):PE X (.Subscript a b pos) (Z4 r ta tb):=by
 intro pins s σ H Q I h
 exact Subscript_ (rH ha hb I h fun v u s2 x y H2 I2 rx ry q=>hr a b pins s2 σ H2 x y v u Q I2 rx ry q (hs _ _))
def iQ (K:PySem.W.Frag):R2:=fun x y H Q=>∃p xs i v,x=.ref p∧y=.int i∧SqL K H p xs∧qT xs i=some v∧Q v H
def rF (K:PySem.W.Frag):R2:=fun x y H Q=>∃p xs i v,x=.ref p∧y=.int i∧SqT K H p xs∧qT xs i=some v∧Q v H
def CW:R2:=fun x y H Q=>∃z i c,x=.str z∧y=.int i∧z.length≤sizeLine∧qT z.cps.toList i=some c∧Q (.str ⟨#[c]⟩) H
theorem rZ:IxR X (iQ X.K):=by
 intro value slice pins s σ H x y v u Q I rx ry h hs
 obtain ⟨p,xs,i,z,rfl,rfl,hq,he,q⟩:=h
 cases rx
 obtain ⟨t,rfl⟩:=ry
 obtain ⟨its,r,pl,hz⟩:=I.list hq
 obtain ⟨j,h1,h2,h3,h4,h5⟩:=gZ he
 obtain ⟨w,ew,rw'⟩:=r.get h2
 have hl:=r.length
 have hn:=Q1
 have fin:EP X pins σ Q w s:=⟨z,H,I,rw',q⟩
 by_cases h0:0≤i
 ·have hj:i.toNat=j:=by
   rw [seqIndex_of h0 h5] at h1
   exact Option.some.inj h1
  exact item_listR pl.isList h0 (by omega) (by rw [hj];simpa using ew) fin hs
 ·have hj:(i+(its.toArray.size:Int)).toNat=j:=by
   rw [seqIndex_neg (by omega) h4] at h1
   rw [List.size_toArray,← hl]
   exact Option.some.inj h1
  exact subscriptTail_builtinR (x:=w) pl.isList.typeIs slot_list_getitem.lookup
   (wpAny_getItem_list_neg (Q:=fun r s'=>r=w∧EP X pins σ Q r s') pl.isList (by omega) (by rw [List.size_toArray]<;>omega) (by omega) (by rw [hj];simpa using ew) ⟨rfl,fin⟩) hs
theorem ix_tup:IxR X (rF X.K):=by
 intro value slice pins s σ H x y v u Q I rx ry h hs
 obtain ⟨p,xs,i,z,rfl,rfl,hq,he,q⟩:=h
 cases rx
 obtain ⟨t,rfl⟩:=ry
 obtain ⟨its,r,pl,hz⟩:=I.tuple hq
 obtain ⟨j,h1,h2,h3,h4,h5⟩:=gZ he
 obtain ⟨w,ew,rw'⟩:=r.get h2
 have hl:=r.length
 have hn:=Q1
 have fin:EP X pins σ Q w s:=⟨z,H,I,rw',q⟩
 exact subscriptTail_builtinR (x:=w) pl.typeIs slot_tuple_getitem.lookup
  (getItem_tuple (j:=j) (Q:=fun r s'=>r=w∧EP X pins σ Q r s') pl (by omega) (by omega) (by rw [List.size_toArray,← hl];exact h1) (by simpa using ew) ⟨rfl,fin⟩) hs
theorem PQ:IxR X CW:=by
 intro value slice pins s σ H x y v u Q I rx ry h hs
 obtain ⟨z,i,c,rfl,rfl,hz,he,q⟩:=h
 obtain ⟨t,rfl⟩:=rx
 obtain ⟨t',rfl⟩:=ry
 obtain ⟨j,h1,h2,h3,h4,h5⟩:=gZ he
 have hl:z.cps.toList.length=z.length:=by simp [Str.length]
 rw [hl] at h1 h4 h5
 have hn:=Q1
 exact tail_any (typeIs_str s z t) slot_str_getitem.lookup (getItem_str (c:=c) (by
  have e1:decide (i < -(2 ^ 63:Int))=false:=decide_eq_false (by omega)
  have e2:decide (i≥2 ^ 63)=false:=decide_eq_false (by omega)
  rw [e1,e2,Bool.or_false]) (by rw [h1];simpa using h2) ⟨.str ⟨#[c]⟩,H,I.tok _,⟨_,rfl⟩,q⟩) hs
def rR (K:PySem.W.Frag):R2:=fun x y H Q=>iQ K x y H Q∨rF K x y H Q∨CW x y H Q
theorem PR:IxR X (rR X.K):=rZ.or (ix_tup.or PQ)
theorem KL (its:List Value) (n j:Nat) (u:Value):Obj.mapSeq (·.setIfInBounds j u) {cls:=.type "list",data:=.seq its.toArray n}={cls:=.type "list",data:=.seq (its.set j u).toArray n}:=by
 simp [Obj.mapSeq]
theorem Inv.lst {pins:List (Addr×Obj)} {σ:St} {H:Hp} {s:Shared} {p:Addr} {xs:List V} (I:Inv X pins σ H s) (h:H p=some (.lst xs)) :
  ∃(its:List Value) (n:Nat),Vals xs its∧s.heap.get? p=some {cls:=.type "list",data:=.seq its.toArray n}∧xs.length≤sizeLine:=by
 obtain ⟨z,its,n,r,e⟩:=I.hok p _ h
 exact ⟨its,n,r,e,z⟩
theorem Inv.lstUpd {pins:List (Addr×Obj)} {σ:St} {H:Hp} {s:Shared} {p:Addr} {xs ys:List V} {its its':List Value} {n n':Nat} {f:Obj→Obj} (I:Inv X pins σ H s) (h:H p=some (.lst xs))
  (ho:s.heap.get? p=some {cls:=.type "list",data:=.seq its.toArray n}) (hf:f {cls:=.type "list",data:=.seq its.toArray n}={cls:=.type "list",data:=.seq its'.toArray n'}) (r:Vals ys its') (hz:ys.length≤sizeLine) (t:Nat) :
  Inv X pins σ (upd H p (.lst ys)) {s with heap:=s.heap.update p f,toks:=t}:=by
 have e:(s.heap.update p f).get? p=some {cls:=.type "list",data:=.seq its'.toArray n'}:=by
  rw [Heap.get?_update_self f ho (by rw [hf]<;>rfl),hf]
 refine I.write (x:=p) (e:=p) (by rw [h];trivial) (.inl rfl) (fun b u hb q=>(Heap.get?_update_other _ _ (Ne.symm hb)).trans q) ⟨_,e⟩ ?_
 exact ⟨hz,its',n',r,e⟩
def RK:V→V→V→Hp→(Hp→Prop)→Prop:=fun o i v H Q=>∃p xs k j,o=.ref p∧i=.int k∧H p=some (.lst xs)∧yX xs.length k=some j∧Q (upd H p (.lst (xs.set j v)))
theorem ZQ:rL X RK:=by
 intro pins s σ H o i v ov iv u Q I ro ri rv h
 obtain ⟨p,xs,k,j,rfl,rfl,hp,hj,q⟩:=h
 cases ro
 obtain ⟨t,rfl⟩:=ri
 obtain ⟨its,n,r,ho,hz⟩:=I.lst hp
 obtain ⟨h1,h2,h3,h4⟩:=AR hj
 have hl:=r.length
 have hn:=Q1
 have I':Inv X pins σ (upd H p (.lst (xs.set j v))) {s with heap:=s.heap.update p (Obj.mapSeq (·.setIfInBounds j u))} :=
  I.lstUpd hp ho (KL its n j u) (r.set rv j) (by rw [List.length_set];exact hz) s.toks
 by_cases h0:0≤k
 ·have hk:k.toNat=j:=by
   rw [seqIndex_of h0 h4] at h1
   exact Option.some.inj h1
  exact PySem.W.ki_setAt ho h0 (by omega) (by rw [List.size_toArray,← hl];exact h4) (by rw [hk];exact ⟨_,I',q⟩)
 ·have hk:(k+(its.toArray.size:Int)).toNat=j:=by
   rw [seqIndex_neg (by omega) h3] at h1
   rw [List.size_toArray,← hl]
   exact Option.some.inj h1
  exact PySem.W.ki_setBack ho (by omega) (by rw [List.size_toArray,← hl];exact h3) (by omega) (by rw [hk];exact ⟨_,I',q⟩)
theorem IE (lo hi:Option Int) (n:Nat):(sliceBounds lo hi none n).1=((HT.sIx n 0 lo:Nat):Int)∧(sliceBounds lo hi none n).2.1=((HT.sIx n n hi:Nat):Int)∧(sliceBounds lo hi none n).2.2=1:=by
 refine ⟨?_,?_,rfl⟩
 ·cases lo with
  |none=>simp [sliceBounds,HT.sIx]
  |some i =>
   simp only [sliceBounds,HT.sIx,Option.getD_none,show (1:Int)>0 by decide,if_true]
   by_cases h:i<0
   ·simp only [h,if_true]<;>omega
   ·simp only [h,if_false]<;>omega
 ·cases hi with
  |none=>simp [sliceBounds,HT.sIx]
  |some i =>
   simp only [sliceBounds,HT.sIx,Option.getD_none,show (1:Int)>0 by decide,if_true]
   by_cases h:i<0
   ·simp only [h,if_true]<;>omega
   ·simp only [h,if_false]<;>omega
theorem HY (its:List Value) (lo hi:Option Int):slicePick its.toArray lo hi none=((its.drop (HT.sIx its.length 0 lo)).take (HT.sIx its.length its.length hi - HT.sIx its.length 0 lo)).toArray:=by
 obtain ⟨h1,h2,h3⟩:=IE lo hi its.toArray.size
 unfold slicePick
 rw [h1,h2,h3]
 simp only [sliceRange_one,pick_run,List.size_toArray]<;>rfl
def CV (K:PySem.W.Frag):V→Option Int→Option Int→Hp→VK→Prop:=fun x lo hi H Q=>∃a xs,x=.ref a∧SqL K H a xs∧∀p,H p=none→Q (.ref p) (upd H p (.lst (bY xs lo hi)))
theorem NX:i3 X (CV X.K):=by
 intro pins s σ H x v vl vu lo hi sl Q I rx hs pl pu h
 obtain ⟨a,xs,rfl,hx,q⟩:=h
 cases rx
 obtain ⟨its,r,ht,hz⟩:=I.list hx
 have hlen:=r.length
 refine ⟨"list",_,slot_list_getitem.lookup,ht.isList.typeIs,?_⟩
 refine wpAny_getItem_list_slice ht.isList hs pl pu .none (by simp) ?_ (by rw [List.size_toArray]<;>omega)
 rw [HY,← hlen]
 refine ⟨.ref s.heap.objs.size,_,I.laid (t':=s.toks) (o:=.lst (bY xs lo hi)) (fun b ob q=>Heap.get?_push_of_some _ q) (Nat.le_refl _) ?_,rfl,q _ (I.hok.fresh (Nat.le_refl _))⟩
 exact ⟨Nat.le_trans (IU xs lo hi) hz,_,0,(r.drop (HT.sIx xs.length 0 lo)).take (HT.sIx xs.length xs.length hi - HT.sIx xs.length 0 lo),Heap.get?_push_size _ rfl⟩
def QJ:V→Bool
 |.non=>true
 |.bl _=>true
 |.int _=>true
 |.str _=>true
 |_=>false
def J3:V→V→Bool
 |.non,.non=>true
 |.bl a,.bl b=>a == b
 |.bl a,.int b=>(if a then 1 else 0) == b
 |.int a,.bl b=>a == (if b then 1 else 0)
 |.int a,.int b=>a == b
 |.str a,.str b=>a == b
 |_,_=>false
theorem P0 {A:Around} {s:Shared} {y x:V} {u v:Value} (ry:RelV y u) (rx:RelV x v) (fy:QJ y=true) (fx:QJ x=true):SeqAt.EqAt A s u v (J3 y x):=by
 cases y with
 |non =>
  cases ry
  cases x with
  |non=>cases rx;exact SeqAt.EqAt.same _
  |bl b=>cases rx;exact SeqAt.EqAt.none_bool b
  |int b=>obtain ⟨t,rfl⟩:=rx;exact SeqAt.EqAt.none_int b t
  |str b=>obtain ⟨t,rfl⟩:=rx;exact SeqAt.EqAt.none_str b t
  |_=>exact absurd (show false=true from fx) Bool.false_ne_true
 |bl a =>
  cases ry
  cases x with
  |non=>cases rx;exact SeqAt.EqAt.bool_none a
  |bl b=>cases rx;exact SeqAt.EqAt.bool_bool a b
  |int b=>obtain ⟨t,rfl⟩:=rx;exact SeqAt.EqAt.bool_int a b t
  |str b=>obtain ⟨t,rfl⟩:=rx;exact SeqAt.EqAt.bool_str a b t
  |_=>exact absurd (show false=true from fx) Bool.false_ne_true
 |int a =>
  obtain ⟨t',rfl⟩:=ry
  cases x with
  |non=>cases rx;exact SeqAt.EqAt.int_none a t'
  |bl b=>cases rx;exact SeqAt.EqAt.int_bool a t' b
  |int b=>obtain ⟨t,rfl⟩:=rx;exact SeqAt.EqAt.int_int a t' b t
  |str b=>obtain ⟨t,rfl⟩:=rx;exact SeqAt.EqAt.int_str a t' b t
  |_=>exact absurd (show false=true from fx) Bool.false_ne_true
 |str a =>
  obtain ⟨t',rfl⟩:=ry
  cases x with
  |non=>cases rx;exact SeqAt.EqAt.str_none a t'
  |bl b=>cases rx;exact SeqAt.EqAt.str_bool a t' b
  |int b=>obtain ⟨t,rfl⟩:=rx;exact SeqAt.EqAt.str_int a t' b t
  |str b=>obtain ⟨t,rfl⟩:=rx;exact SeqAt.EqAt.str_str a t' b t
  |_=>exact absurd (show false=true from fx) Bool.false_ne_true
 |_=>exact absurd (show false=true from fy) Bool.false_ne_true
def iZ (x:V) (u:Value):Bool:=match u with
 |.none=>J3 .non x
 |.bool b=>J3 (.bl b) x
 |.int i _=>J3 (.int i) x
 |.str z _=>J3 (.str z) x
 |_=>false
theorem B5 {x y:V} {u:Value} (r:RelV y u) (f:QJ y=true):iZ x u=J3 y x:=by
 cases y with
 |non=>cases r;rfl
 |bl b=>cases r;rfl
 |int i=>obtain ⟨t,rfl⟩:=r;rfl
 |str z=>obtain ⟨t,rfl⟩:=r;rfl
 |_=>exact absurd (show false=true from f) Bool.false_ne_true
theorem xD {A:Around} {s:Shared} {x:V} {v:Value} (rx:RelV x v) (fx:QJ x=true):∀{xs:List V} {us:List Value},Vals xs us→xs.all QJ=true→∀u∈us,SeqAt.EqAt A s u v (iZ x u)
 |_,_,.nil,_=>fun u hu=>by cases hu
 |y::xs,u::us,.cons r t,f=>fun u' hu=>by
  rw [List.all_cons,Bool.and_eq_true] at f
  rcases List.mem_cons.mp hu with rfl|hu
  ·rw [B5 r f.1];exact P0 r rx f.1 fx
  ·exact xD rx fx t f.2 u' hu
theorem DI:yV X (.builtin "len") (fun xs H Q=>∃p ys,xs=[.ref p]∧(SqL X.K H p ys∨SqT X.K H p ys)∧Q (.int ys.length) H):=by
 intro pins s σ H xs us Q I r h
 obtain ⟨p,ys,rfl,hq,q⟩:=h
 obtain ⟨u,rfl,rx⟩:=QF r
 cases rx
 have hn:=Q1
 rcases hq with hq|hq
 ·obtain ⟨its,r',pl,hz⟩:=I.list hq
  have hlen:=r'.length
  exact Calls.call_len_list pl.isList (by simp only [List.size_toArray]<;>omega) ⟨.int ys.length,H,I.tok _,⟨s.toks+1,by rw [List.size_toArray,hlen]⟩,q⟩
 ·obtain ⟨its,r',pl,hz⟩:=I.tuple hq
  have hlen:=r'.length
  exact len_tuple pl (by simp only [List.size_toArray]<;>omega) ⟨.int ys.length,H,I.tok _,⟨s.toks+1,by rw [List.size_toArray,hlen]⟩,q⟩
theorem IG:yV X (.type "list") (fun xs H Q=>∃p ys,xs=[.ref p]∧(SqL X.K H p ys∨SqT X.K H p ys)∧∀l,H l=none→Q (.ref l) (upd H l (.lst ys))):=by
 intro pins s σ H xs us Q I r h
 obtain ⟨p,ys,rfl,hq,q⟩:=h
 obtain ⟨u,rfl,rx⟩:=QF r
 cases rx
 have fin:∀(its:List Value),Vals ys its→ys.length≤sizeLine→∀(h':Heap) (c':Nat),(∀b o',s.heap.get? b=some o'→h'.get? b=some o')→
   h'.get? s.heap.objs.size=some {cls:=.type "list",dict:=none,data:=.seq its.toArray c',slots := #[]}→EP X pins σ Q (.ref s.heap.objs.size) {s with heap:=h'}:=fun its r' hz h' c' kp e =>
  ⟨.ref s.heap.objs.size,_,I.laid (t':=s.toks) kp (Nat.le_refl _) (show ObjOk X.prog X.w _ h' _ (.lst ys) from ⟨hz,its,c',r',e⟩),rfl,q _ (I.hok.fresh (Nat.le_refl _))⟩
 rcases hq with hq|hq
 ·obtain ⟨its,r',pl,hz⟩:=I.list hq
  have hlen:=r'.length
  obtain ⟨o,ho,hc,n,hd⟩:=pl.isList
  exact call_list_seq p (.inl rfl) ho hc hd (fun h' c' kp e=>fin its r' hz h' c' kp e) (by simp only [List.size_toArray]<;>omega)
 ·obtain ⟨its,r',pl,hz⟩:=I.tuple hq
  have hlen:=r'.length
  obtain ⟨o,ho,hc,n,hd⟩:=pl
  exact call_list_seq p (.inr rfl) ho hc hd (fun h' c' kp e=>fin its r' hz h' c' kp e) (by simp only [List.size_toArray]<;>omega)
theorem HZ:yV X (.type "tuple") (fun xs H Q=>∃p ys,xs=[.ref p]∧((SqL X.K H p ys∧∀l,H l=none→Q (.ref l) (upd H l (.tup ys)))∨(SqT X.K H p ys∧Q (.ref p) H))):=by
 intro pins s σ H xs us Q I r h
 obtain ⟨p,ys,rfl,h⟩:=h
 obtain ⟨u,rfl,rx⟩:=QF r
 cases rx
 rcases h with ⟨hq,q⟩|⟨hq,q⟩
 ·obtain ⟨its,r',pl,hz⟩:=I.list hq
  have hlen:=r'.length
  refine call_tuple_list pl.isList (fun h' kp=>?_) (by simp only [List.size_toArray]<;>omega)
  have I1:Inv X pins σ H {s with heap:=h'}:=I.kept (t':=s.toks) kp
  have I2:Inv X pins σ (upd H h'.objs.size (.tup ys)) {s with heap:=h'.push {cls:=.type "tuple",data:=.seq its.toArray}} :=
   I1.laid (t':=s.toks) (fun b o e=>Heap.get?_push_of_some _ e) (Nat.le_refl _) (show ObjOk X.prog X.w _ _ _ (.tup ys) from ⟨hz,its,r',IsTup.new _ _⟩)
  exact ⟨.ref h'.objs.size,_,I2,rfl,q _ (I1.hok.fresh (Nat.le_refl _))⟩
 ·obtain ⟨its,r',pl,hz⟩:=I.tuple hq
  exact call_tuple_same pl ⟨.ref p,H,I,rfl,q⟩
def C6 (K:PySem.W.Frag) (T:String) (x:V) (H:Hp):Prop:=match x with
 |.str _=>T="str"
 |.int _=>T="int"
 |.ref p=>(T="list"∧∃xs,SqL K H p xs)∨(T="tuple"∧∃o,K.lookup p=some o∧o.cls=.type "tuple"∧o.dict=none)∨
   (T="dict"∧((∃kvs,H p=some (.dK kvs))∨∃kvs,H p=some (.dT kvs)))∨(T="set"∧∃S n,H p=some (.set S n))
 |_=>False
theorem OX {pins:List (Addr×Obj)} {σ:St} {H:Hp} {s:Shared} {T:String} {x:V} {v:Value} (I:Inv X pins σ H s) (r:RelV x v) (ty:C6 X.K T x H) :
  s.TypeIs v T∧∀a,v=.ref a→∃ob,s.heap.get? a=some ob∧ob.dict=none:=by
 cases x with
 |str z =>
  obtain ⟨t,rfl⟩:=r
  cases (show T="str" from ty)
  exact ⟨typeIs_str s z t,fun _ e=>nomatch e⟩
 |int i =>
  obtain ⟨t,rfl⟩:=r
  cases (show T="int" from ty)
  exact ⟨typeIs_int s i t,fun _ e=>nomatch e⟩
 |ref p =>
  cases r
  rcases ty with ⟨rfl,xs,hq⟩|⟨rfl,o,hk,hc,hd⟩|⟨rfl,hk⟩|⟨rfl,S,n,hk⟩
  ·obtain ⟨its,_,pl,_⟩:=I.list hq
   refine ⟨pl.isList.typeIs,fun a e=>?_⟩
   cases e
   obtain ⟨o,n,e,c,hd,_⟩:=pl
   exact ⟨o,e,hd⟩
  ·refine ⟨⟨o,I.kIn p o hk,hc⟩,fun a e=>?_⟩
   cases e
   exact ⟨o,I.kIn _ o hk,hd⟩
  ·have z:∃o,s.heap.get? p=some o∧o.ExactDict:=by
    rcases hk with ⟨kvs,hk⟩|⟨kvs,hk⟩
    ·obtain ⟨_,_,_,_,o,_,_,e,ex,_⟩:=I.hok p _ hk
     exact ⟨o,e,ex⟩
    ·obtain ⟨_,_,_,_,o,_,_,e,ex,_⟩:=I.hok p _ hk
     exact ⟨o,e,ex⟩
   obtain ⟨o,e,ex⟩:=z
   refine ⟨⟨o,e,ex.1⟩,fun a e2=>?_⟩
   cases e2
   exact ⟨o,e,ex.2.1⟩
  ·obtain ⟨o,_,_,_,e,ex,_⟩:=I.hok p _ hk
   refine ⟨⟨o,e,ex.1⟩,fun a e2=>?_⟩
   cases e2
   exact ⟨o,e,ex.2.1⟩
 |_=>exact False.elim ty
def TF (K:PySem.W.Frag) (T:String) (r:V→List V→Hp→VK→Prop) (to:TE) (t:TA):TE:=fun σ H Q=>to σ H fun x H1=>C6 K T x H1∧t σ H1 fun xs H2=>r x xs H2 Q
variable {o e:Expr} {es:List Expr} {to:TE} {t:TA} {name:Str} {apos cpos:Pos} {T id:String} {r:V→List V→Hp→VK→Prop}
theorem ZZ (pa:PlainAttrs T) (slot:Slot T name id) (hty:typeOf (.builtin id)=pure (.type "method_descriptor")) (hm:DA X id r) (ho:PE X o to) (ha:PA X (e::es) t)
  (hbase:attributeBase o name X.env (eval o X.env)=eval o X.env:=by rfl)
  (hfew:((backTo cpos (starEach (e::es) X.env)).all (fun x => !x.1)&&(backToKw cpos (keywordEach [] X.env)).all (fun x=>x.1.isSome)
   && decide ((e::es).length+([]:List Keyword).length+(if ([]:List Keyword).isEmpty then 0 else 1)<30))=true:=by rfl)
  (hline:(apos.endLine == cpos.line)=true:=by rfl) (hs:starEach (e::es) X.env=(false,eval e X.env)::starEach es X.env:=by rfl) (hplain:(backTo cpos (starEach es X.env)).any (·.1)=false:=by rfl) :
  PE X (.Call (.Attribute o name apos) (e::es) [] cpos) (TF X.K T r to t):=by
 intro pins s σ H Q I h
 refine wpAny_Call_method_late hbase hfew hline rfl (jN (ho pins s σ H _ I h) fun v s1 ⟨x,H1,I1,r1,ty,q1⟩=>?_)
 obtain ⟨h1,h2⟩:=OX I1 r1 ty
 refine ⟨T,id,pa,slot,hty,h1,h2,?_⟩
 have hA:=ha cpos pins s1 σ H1 _ I1 q1
 rw [hs] at hA ⊢
 refine Calls.callWith_builtin (by show (false||(backTo cpos (starEach es X.env)).any (·.1))=false;rw [hplain]<;>rfl) (Calls.evalArgs_plain ?_)
 exact jN hA fun us s2 ⟨vs,H2,I2,r2,q2⟩=>hm pins s2 σ H2 x vs v us Q I2 r1 r2 q2
/- xs.append(e),list.index on a module's tuple .. are DA facts of 06m -/
end
end L2
namespace L2
open PySem PySem.Spec PyProof.Rows
def DB (X:Cx) (id:String) (r:V→List V→Hp→VK→Prop):Prop :=
 ∀(pins:List (Addr×Obj)) (s:Shared) (σ:St) (H:Hp) (x:V) (xs:List V) (v:Value) (us:List Value) (Q:VK),Inv X pins σ H s→RelV x v→Vals xs us→r x xs H Q→
  wpAny (model X.prog X.w) X.A (call (.builtin id) (v::us)) (EP X pins σ Q) X.xe s
theorem Vals.one:∀{x:V} {us:List Value},Vals [x] us→∃u,us=[u]∧RelV x u
 |_,_,.cons r .nil=>⟨_,rfl,r⟩
theorem Vals.reverse {xs:List V} {us:List Value} (h:Vals xs us):Vals xs.reverse us.reverse:=by
 induction h with
 |nil=>exact .nil
 |cons r t ih=>rw [List.reverse_cons,List.reverse_cons];exact Vals.append ih (.cons r .nil)
theorem Vals.rep {xs:List V} {us:List Value} (h:Vals xs us):∀k:Nat,Vals (List.replicate k xs).flatten (List.replicate k us).flatten
 |0=>.nil
 |k+1=>by
  rw [List.replicate_succ,List.replicate_succ,List.flatten_cons,List.flatten_cons]
  exact Vals.append h (Vals.rep h k)
theorem uY (its:List Value):∀(k:Nat) (acc:List Value),
  List.foldl (fun x1 x2=>x1++x2) acc.toArray (List.replicate k its.toArray)=(acc++(List.replicate k its).flatten).toArray
 |0,acc=>by simp
 |k+1,acc=>by
  have e:acc.toArray++its.toArray=(acc++its).toArray:=by simp
  have e2:(acc++its)++(List.replicate k its).flatten=acc++(List.replicate (k+1) its).flatten:=by
   rw [List.replicate_succ,List.flatten_cons,List.append_assoc]
  rw [← e2,← uY its k (acc++its),← e,List.replicate_succ,List.foldl_cons]
section
variable {X:Cx} {pins:List (Addr×Obj)} {σ:St} {H:Hp} {s:Shared} {l b:Addr} {xs ys zs:List V}
theorem Inv.lset {its its':List Value} {n:Nat} {f:Array Value→Array Value} {t':Nat} (I:Inv X pins σ H s) (hH:H l=some (.lst xs))
  (e:s.heap.get? l=some {cls:=.type "list",data:=.seq its.toArray n}) (hf:f its.toArray=its'.toArray) (hv:Vals ys its') (hz:ys.length≤sizeLine) :
  Inv X pins σ (upd H l (.lst ys)) {s with heap:=s.heap.update l (Obj.mapSeq f),toks:=t'}:=by
 have q:=PySem.IsL.update e f
 rw [hf] at q
 refine I.write (x:=l) (e:=l) (by rw [hH];exact trivial) (.inl rfl) (fun b' u hb hu=>(Heap.get?_update_other s.heap (Obj.mapSeq f) (Ne.symm hb)).trans hu) ⟨_,q⟩ ?_
 exact ⟨hz,its',_,hv,q⟩
theorem Inv.lnew {its:List Value} {t':Nat} (I:Inv X pins σ H s) (hv:Vals ys its) (hz:ys.length≤sizeLine) :
  Inv X pins σ (upd H s.heap.objs.size (.lst ys)) {s with heap:=s.heap.push {cls:=.type "list",data:=.seq its.toArray},toks:=t'} :=
 I.laid (fun _ _ q=>Heap.get?_push_of_some _ q) (Nat.le_refl _) ⟨hz,its,0,hv,Heap.get?_push_size _ rfl⟩
theorem Inv.fresh (I:Inv X pins σ H s):H s.heap.objs.size=none:=I.hok.fresh (Nat.le_refl _)
theorem Inv.lstM (I:Inv X pins σ H s) (hH:H l=some (.lst xs)):xs.length≤sizeLine∧∃(its:List Value) (n:Nat),Vals xs its∧xs.length=its.length∧s.heap.get? l=some {cls:=.type "list",data:=.seq its.toArray n}:=by
 obtain ⟨z,its,n,r,e⟩:=I.hok l _ hH
 exact ⟨z,its,n,r,r.length,e⟩
theorem MY {n:Nat} (h:n≤sizeLine):Builtin.List.listTooLong n=false:=by
 unfold Builtin.List.listTooLong
 exact decide_eq_false (by omega)
end
section
variable {X:Cx}
def N3:V→List V→Hp→VK→Prop:=fun x vs H Q=>∃l xs y,x=.ref l∧vs=[y]∧H l=some (.lst xs)∧xs.length<sizeLine∧Q .non (upd H l (.lst (xs++[y])))
theorem ZM:DB X "list.append" N3:=by
 intro pins s σ H x vs v us Q I rx rv h
 obtain ⟨l,xs,y,rfl,rfl,hH,hz,q⟩:=h
 cases rx
 obtain ⟨u,rfl,ru⟩:=rv.one
 obtain ⟨z,its,n,r,hl,e⟩:=I.lstM hH
 refine call_meets F.slot_list_append ⟨_,e,rfl⟩ F.entry_list_append (F.args_list_append_2 _ _) (PySem.list_append l its.toArray n u (by rw [List.size_toArray];omega)) ⟨e,?_⟩
 refine ⟨.non,_,I.lset (its':=its++[u]) hH e (by simp) (r.append (.cons ru .nil)) ?_,rfl,q⟩
 rw [List.length_append,List.length_singleton]
 omega
def ST:R2:=fun x y H Q=>∃l b xs zs,x=.ref l∧y=.ref b∧H l=some (.lst xs)∧H b=some (.lst zs)∧xs.length+zs.length≤sizeLine∧∀p,H p=none→Q (.ref p) (upd H p (.lst (xs++zs)))
theorem QZ:qU X (binaryOp .Add) ST:=by
 intro pins s σ H x y v u Q I rx ry h
 obtain ⟨l,b,xs,zs,rfl,rfl,hH,hB,hz,q⟩:=h
 cases rx
 cases ry
 obtain ⟨z,its,n,r,hl,e⟩:=I.lstM hH
 obtain ⟨z2,its2,n2,r2,hl2,e2⟩:=I.lstM hB
 refine PySem.P.add_list e e2 ?_ (by rw [List.size_toArray,List.size_toArray];omega)
 have ea:its.toArray++its2.toArray=(its++its2).toArray:=by simp
 rw [ea]
 exact ⟨.ref _,_,I.lnew (t':=s.toks) (r.append r2) (by rw [List.length_append];omega),rfl,q _ I.fresh⟩
def SR:R2:=fun x y H Q=>∃l k xs,x=.ref l∧y=.int k∧H l=some (.lst xs)∧-(2 ^ 63)≤k∧k<2 ^ 63∧xs.length*k.toNat≤sizeLine∧
 ∀p,H p=none→Q (.ref p) (upd H p (.lst (List.replicate k.toNat xs).flatten))
theorem OH {α:Type} (xs:List α) (k:Nat):(List.replicate k xs).flatten.length=k*xs.length:=by
 induction k with
 |zero=>simp
 |succ k ih=>rw [List.replicate_succ,List.flatten_cons,List.length_append,ih,Nat.succ_mul,Nat.add_comm]
theorem BY:qU X (binaryOp .Mult) SR:=by
 intro pins s σ H x y v u Q I rx ry h
 obtain ⟨l,k,xs,rfl,rfl,hH,h1,h2,hz,q⟩:=h
 cases rx
 obtain ⟨t,rfl⟩:=ry
 obtain ⟨z,its,n,r,hl,e⟩:=I.lstM hH
 have hlen:its.toArray.size*k.toNat≤sizeLine:=by rw [List.size_toArray,← hl];exact hz
 have hcap:¬its.toArray.size*k.toNat>(2 ^ 63 - 1) / 8:=by
  have:(sizeLine:Nat)≤(2 ^ 63 - 1) / 8:=by decide
  omega
 have hfit:¬(!Builtin.List.listFitsIndex k)=true:=by
  rw [fitsIndex_both h1 h2]
  exact Bool.false_ne_true
 have hlong:¬Builtin.List.listTooLong (its.toArray.size*k.toNat)=true:=by
  rw [MY hlen]
  exact Bool.false_ne_true
 have hnew:List.foldl (fun x1 x2=>x1++x2) #[] (List.replicate (if its.toArray.isEmpty=true then 0 else k.toNat) its.toArray)=(List.replicate k.toNat its).flatten.toArray:=by
  have f0:∀m:Nat,List.foldl (fun x1 x2=>x1++x2) #[] (List.replicate m its.toArray)=(List.replicate m its).flatten.toArray:=fun m=>by
   have:=uY its m []
   rw [List.nil_append] at this
   exact this
  rw [f0]
  cases its with
  |nil=>simp
  |cons a r'=>rw [if_neg (by simp)]
 refine wpAny_binaryOp_repeat_ref (T:="list") (U:="int") (by decide) ⟨_,e,rfl⟩ (fun s'=>typeIs_int s' k t) noFill_list_mul F.fills_int_mul F.slot_int_rmul repeat_list F.slot_int_index.lookup
  (call_meets F.slot_int_rmul (typeIs_int s k t) F.entry_int_rmul (F.args_int_rmul_2 _ _) (int___rmul___int_list k t l its.toArray n)
   ⟨e,rfl,⟨_,e,rfl⟩,call_meets F.slot_list_mul ⟨_,e,rfl⟩ F.entry_list_mul (F.args_list_mul_2 _ _) (AutoListH.list___mul___list_int_3 l its.toArray n k t hfit hcap hlong) ⟨e,?_⟩⟩)
 rw [hnew]
 exact ⟨.ref _,_,I.lnew (t':=s.toks) (r.rep k.toNat) (by rw [OH,Nat.mul_comm];exact hz),rfl,q _ I.fresh⟩
end
section
variable {prog:Program} {w:World} {A:Around} {E:Value→Shared→Prop} {s:Shared}
end
section
variable {X:Cx}
end
end L2
namespace Att
open PySem PySem.W PySem.Calls PyProof.Rows
theorem HV {P:Params} {h:Heap}:∀(ns:List Int) (vs:List Value),WellAll P h vs (ns.map WData.int)→IntsAre vs ns:=by
 intro ns
 induction ns with
 |nil =>
  intro vs w
  rw [List.map_nil] at w
  cases w
  exact .nil
 |cons n ns ih =>
  intro vs w
  rw [List.map_cons] at w
  cases w with
  |cons a b =>
   cases a
   exact .cons _ _ (ih _ b)
theorem LP {l:OpenLaw} {n:Nat} (hn:l.most=some n) {P:Params} {h:Heap} {args:List WData} {vals:List Value}
  (hpre:l.row.toRowW.claim.pre args=true) (hwl:WellAll P h vals args) :
  ∃a vs ns,vals=[Value.ref a]∧args=[WData.list (ns.map WData.int)]∧h.get? a=some {cls:=.type "list",data:=.seq vs.toArray}∧IntsAre vs ns∧ns.length≤n:=by
 have hsh:WShape.hasAll [] args [.list .int]=true:=(pre_splitW hpre).1
 have hc:l.pre.holds [] {args:=args}=true:=(pre_splitW hpre).2
 obtain ⟨d,r,rfl,h1,h2⟩:=hasAllW_cons hsh
 obtain rfl:=hasAllW_nil h2
 obtain ⟨xs,rfl,h3⟩:=hasW_list h1
 obtain ⟨ns,rfl⟩:=items_int h3
 have hlen:ns.length≤n:=by
  unfold OpenLaw.pre at hc
  have h4:(WTm.not (.lt (.lit (.int (n:Int))) (.len (.arg 0)))).holds [] {args:=[.list (ns.map .int)]}=true:=by
   have h4:=(holds_andW hc).1
   rw [hn] at h4
   exact h4
  have h5:=condW_of h4 (w_not (w_lt w_lit (w_len_list (w_arg rfl))))
  rw [List.length_map] at h5
  refine Nat.le_of_not_lt fun q=>?_
  have q':(n:Int)<((ns.length:Nat):Int):=by omega
  first
   | (rw [decide_eq_true q'] at h5;exact absurd h5 (by decide))
   | (simp at h5;omega)
 cases hwl with
 |cons w1 w2 =>
  cases w2
  cases w1 with
  |list ho hall=>exact ⟨_,_,ns,rfl,rfl,ho,HV ns _ hall,hlen⟩
theorem LR (l:OpenLaw) (args:List WData):l.row.toRowW.claim.post args (.bool true) args=true :=
 postW_of (r:=l.row.toRowW) (X:=(true == true))
  (show WShape.has [] (.bool true) .bool=true by first|rfl|decide|simp [WShape.has,WShape.arms,WShape.armsAll])
  (show (WTm.eq .res (.lit (.bool true))).value [] {args:=args,res:=some (.bool true),after:=args}=some (.bool (true == true)) from w_eq_bool (w_res rfl) w_lit) rfl
theorem attach_call {l:OpenLaw} {n:Nat} {q:Program} {loose:List Str} {XP:(Str→Option Value)→Heap→Prop} {YP:World→Heap→Prop} {d:DefRec}
  (hn:l.most=some n) (hdf:d.params.defaults=[])
  (call:∀(w:World) (s₀ s₁:Shared) (mg mb:Str→Option Value) (fa:Addr) (o:Obj) (pm cd doc:Value) (a:Addr) (vs:List Value) (ns:List Int),
   Ground q loose [] XP w s₀ mg mb s₁.heap→YP w s₁.heap→
   s₁.heap.get? fa=some o→o.data=.func (docDef d.name d.params d.body d.scope pm cd doc)→s₁.heap.CodeRec cd d.name→mg d.name=some (.ref fa)→
   s₁.heap.get? a=some {cls:=.type "list",data:=.seq vs.toArray}→IntsAre vs ns→ns.length≤n→s₁.gens = #[]→
   codeAny (model l.prog w) callerA (.call (.ref fa) ⟨[.ref a],[]⟩) (fun r s'=>r=.ok (.ret (.bool true))∧OldK s₁.heap s'.heap∧s'.os=s₁.os∧AllBare s'.gens) s₁) :
  WalkO q loose XP YP l.row.toRowW d [] (fun f vs=>PySem.call f vs):=by
 intro w s₀ s₁ mg mb G Y fa o pm cd doc dV kV ho hd hcd hD hmg hg args vals as hpre hlay hrd hwl hlo
 obtain rfl:dV=.none:=Dflts.none hD hdf
 obtain rfl:kV=.none:=Dflts.noKw hD
 obtain ⟨a,vs,ns,rfl,rfl,hobj,hints,hlen⟩:=LP hn hpre hwl
 refine enter_call (codeAny_mono (call w s₀ s₁ mg mb fa o pm cd doc a vs ns G Y ho (fd_plain hd) hcd hmg hobj hints hlen hg) fun r s' hq=>?_)
 obtain ⟨rfl,h2,h3,h4⟩:=hq
 exact ⟨.inl ⟨.bool true,.bool true,[],rfl,fun _=>rfl,.bool true,LR l _,fun _=>⟨List.Pairwise.nil,fun _ hm=>(nomatch hm)⟩⟩,h2,h3,h4⟩
section
variable {prog:Program} {w:World} {A:Around} {E:Value→Shared→Prop} {s:Shared} {K:Frag}
def TM (h:Heap) (L d:Addr):List (Addr×Obj):=(List.range h.objs.size).filterMap fun a=>if a=L∨a=d then none else (h.get? a).map fun o=>(a,o)
end
end Att
namespace L2
open PySem PySem.Spec PyProof.Rows
theorem uC:∀{vs:List Value} {ns:List Int},IntsAre vs ns→Vals (ns.map V.int) vs
 |_,_,.nil=>.nil
 |_,_,.cons n t h=>.cons ⟨t,rfl⟩ (uC h)
end L2
namespace L2
open PySem PySem.Spec PyProof.Rows
end L2
namespace L2
open PySem PySem.Spec PyProof.Rows
def q0 (s:Stmt) (j:Nat):Stmt:=match s with
 |.ClassDef _ _ _ body _ _ _ _ _ _ _=>body.getD j (.Pass ⟨0,0,0,0⟩)
 |_=>.Pass ⟨0,0,0,0⟩
def y8 (s:Stmt):Arguments:=match s with
 |.FunctionDef _ a _ _ _ _ _ _ _ _=>a
 |_=>{posonlyargs:=[],args:=[],vararg:=none,kwonlyargs:=[],kw_defaults:=[],kwarg:=none,defaults:=[]}
def vI (s:Stmt):List Stmt:=match s with
 |.FunctionDef _ _ b _ _ _ _ _ _ _=>b
 |_=>[]
def jG (s:Stmt):Scope:=match s with
 |.FunctionDef _ _ _ _ _ _ sc _ _ _=>sc
 |_=>{kind:=.function,names:=[],isGenerator:=false,isCoroutine:=false}
abbrev jP:vE:=fun _ _ _ _ _ _=>False
abbrev E0:XK:=fun _ _ _=>False
theorem JF {X:Cx}:Q4 jP X E0:=fun _ _ _ _ _ _ _ h=>h.elim
structure Fun (K:PySem.W.Frag) (x qual:Str) (st:Stmt) (f:Addr) (fd:FuncData):Prop where
 ex:∃(oc:Value) (od:Option Addr) (kV doc pm:Value) (an:Option Addr) (cdv ct:Value) (osl:Array (Option Value)),
  fd=PySem.W.fnOf x qual (y8 st) (vI st) (jG st) .none kV doc pm an cdv ct∧K.lookup f=some ⟨oc,od,.func fd,osl⟩∧PySem.W.codeIn K cdv qual=true
 kp:PySem.W.keepIn K (.ref f)=true
section
variable {P:Program} {w:World} {K:PySem.W.Frag} {mg:Str→Option Value} {base:Heap}
theorem Fun.ok {x qual:Str} {st:Stmt} {f:Addr} {fd:FuncData} {N ps:List Str} {k:Nat} {sp:Sp} (F:Fun K x qual st f fd) (S:FnScope N ps (jG st)) (len:∀vs H Q E,sp vs H Q E→vs.length=ps.length)
  (hbody:∀(cdv:Value) (A:Around) (outer:List Env) (s:Shared) (H:Hp) (vs:List V) (Q:VK) (E:XK),Room k (A.deeper (envOfC qual (jG st) s.heap.objs.size f cdv))→sp vs H Q E→
   ∃t,PSs (vA jP P w K mg base N qual (jG st) f cdv A outer s H E).nox (vI st) t∧t {nx:=fun _ H'=>Q .non H',rt:=Q} (start N vs) H):FnOk P w K mg base jP (k+1) f fd ps sp:=by
 obtain ⟨oc,od,kV,doc,pm,an,cdv,ct,osl,rfl,lk,hcd⟩:=F.ex
 refine rA lk hcd S len fun A outer s H vs Q E hr hsp=>?_
 obtain ⟨t,h,q⟩:=hbody cdv A outer s H vs Q E hr hsp
 exact ⟨t,h.nox,q⟩
theorem Fun.binds {x qual:Str} {st:Stmt} {f:Addr} {fd:FuncData} {ps:List Str} (F:Fun K x qual st f fd)
  (h:∀(kV doc pm:Value) (an:Option Addr) (cdv ct:Value) (us:List Value),us.length=ps.length→bindArgs (PySem.W.fnOf x qual (y8 st) (vI st) (jG st) .none kV doc pm an cdv ct) ⟨us,[]⟩=pure (ps.zip us)):Binds K fd ps []:=by
 obtain ⟨oc,od,kV,doc,pm,an,cdv,ct,osl,rfl,lk,hcd⟩:=F.ex
 exact .all (h kV doc pm an cdv ct)
theorem cF {x qual:Str} {st:Stmt} {f:Addr} {oc:Value} {od an:Option Addr} {osl:Array (Option Value)} {kV doc pm cdv ct:Value} (l:K.lookup f=some ⟨oc,od,.func (PySem.W.fnOf x qual (y8 st) (vI st) (jG st) .none kV doc pm an cdv ct),osl⟩)
  (c:PySem.W.codeIn K cdv qual=true) (k:PySem.W.keepIn K (.ref f)=true):Fun K x qual st f (PySem.W.fnOf x qual (y8 st) (vI st) (jG st) .none kV doc pm an cdv ct):=⟨⟨oc,od,kV,doc,pm,an,cdv,ct,osl,rfl,l,c⟩,k⟩
end
theorem pW {A:Around} {k:Nat} (hr:Room k A):A.units+1<cLine:=Nat.lt_of_le_of_lt (Nat.add_le_add_left (by decide:1≤64) _) hr.units
theorem vX {n:Nat} (h:n≤1000):n<sizeLine:=Nat.lt_of_le_of_lt h (by decide)
section
variable {X:Cx}
theorem pv (i:Nat) {x:Str} {pos:Pos} (hN:X.N[i]?=some x:=by rfl) (hv:eM X.env.scope x:=by first|exact Or.inl rfl|exact Or.inr (Or.inl rfl)|exact Or.inr (Or.inr rfl)) (hd:(x == ("__debug__":Str))=false:=by decide)
  (hcd:(x == ("__classdict__":Str))=false:=by decide):PE X (.Name x pos) (CQ i):=BU hN hv hd hcd
end
variable {A B:Prop}
theorem yG (h:B):if false=true then A else B:=by
 rw [if_neg Bool.false_ne_true]
 exact h
theorem kT (h:A):if true=true then A else B:=by
 rw [if_pos rfl]
 exact h
theorem bV {c:Prop} [Decidable c] (h1:c→A) (h2:¬c→B):if c then A else B:=by
 by_cases h:c
 ·rw [if_pos h]
  exact h1 h
 ·rw [if_neg h]
  exact h2 h
theorem JX {c:Prop} [Decidable c] (hc:c) (h:B):if (!decide c)=true then A else B:=by
 rw [decide_eq_true hc]
 exact yG h
def Same (H H':Hp):Prop:=∀b o,H b=some o→H' b=some o
theorem Same.refl (H:Hp):Same H H:=fun _ _ h=>h
variable {H:Hp}
theorem Same.trans {H1 H2:Hp} (a:Same H H1) (b:Same H1 H2):Same H H2:=fun c o h=>b c o (a c o h)
theorem Same.free {H':Hp} (e:Same H H') {l:Addr} (h:H' l=Option.none):H l=Option.none:=by
 cases q:H l with
 |none=>rfl
 |some o =>
  rw [e l o q] at h
  cases h
theorem Same.seq {K:PySem.W.Frag} {H':Hp} {a:Addr} {xs:List V} (e:Same H H') (h:SqL K H a xs):SqL K H' a xs:=by
 rcases h with (h|⟨o,h⟩)|h
 ·exact .inl (.inl (e _ _ h))
 ·exact .inl (.inr ⟨o,e _ _ h⟩)
 ·exact .inr h
end L2
namespace L2
open PySem PySem.Spec PyProof.Rows
def yB (cells:List (Str×Addr)):List (Str×NameKind)→List (Str×Addr)→List (Str×Addr)
 |[],cs=>cs
 | (n,k)::r,cs=>if (k == NameKind.free)=true then yB cells r ((n,(cells.lookup n).getD 0)::cs) else yB cells r cs
variable {scope:Scope}
theorem sM {env:Env} (h:∀x∈scope.names,x.2=.free→∃c,env.cells.lookup x.1=some c):closureFor scope env=pure (yB env.cells scope.names []):=by
 simp only [closureFor]
 have go:∀(l:List (Str×NameKind)) (cs:List (Str×Addr)),(∀x∈l,x.2=.free→∃c,env.cells.lookup x.1=some c)→
   (forIn l cs fun x r=>match x with|(name,kind)=>if (kind == NameKind.free)=true then do let a ← cellOf env name;pure (ForInStep.yield ((name,a)::r)) else pure (ForInStep.yield r):Sem (List (Str×Addr)))=pure (yB env.cells l cs):=by
  intro l
  induction l with
  |nil=>intro cs _;rfl
  |cons p r ih =>
   intro cs hp
   obtain ⟨n,k⟩:=p
   rw [List.forIn_cons]
   have hr:=fun cs=>ih cs fun x hx=>hp x (List.mem_cons_of_mem _ hx)
   by_cases hk:(k == NameKind.free)=true
   ·have hk':k=NameKind.free:=by simpa using hk
    obtain ⟨c,hc⟩:=hp (n,k) List.mem_cons_self hk'
    have hc':env.cells.lookup n=some c:=hc
    simp only [hk,if_true,yB,cellOf,hc',Option.getD_some,pure_bind]
    exact hr _
   ·simp only [hk,if_false,yB,pure_bind]
    exact hr _
 rw [go scope.names [] h]
 rfl
theorem fU {cells:List (Str×Addr)}:∀{l:List (Str×NameKind)} {cs:List (Str×Addr)} {x:Str} {c:Addr},(∀y∈l,y.2=.free→∃c,cells.lookup y.1=some c)→(∀y d,cs.lookup y=some d→cells.lookup y=some d)→
  (yB cells l cs).lookup x=some c→cells.lookup x=some c
 |[],cs,x,c,_,hc,e=>hc x c e
 | (n,k)::r,cs,x,c,hl,hc,e=>by
  unfold yB at e
  by_cases hk:(k == NameKind.free)=true
  ·rw [if_pos hk] at e
   obtain ⟨d,hd⟩:=hl (n,k) List.mem_cons_self (by simpa using hk)
   have hd':cells.lookup n=some d:=hd
   refine fU (fun y hy=>hl y (List.mem_cons_of_mem _ hy)) (fun y d' q=>?_) e
   rw [List.lookup_cons] at q
   by_cases hy:(y == n)=true
   ·rw [hy] at q
    have hyn:y=n:=by simpa using hy
    subst hyn
    rw [hd'] at q ⊢
    exact q
   ·rw [Bool.not_eq_true] at hy
    rw [hy] at q
    exact hc y d' q
  ·rw [if_neg hk] at e
   exact fU (fun y hy=>hl y (List.mem_cons_of_mem _ hy)) hc e
theorem nR {cells:List (Str×Addr)}:∀{l:List (Str×NameKind)} {cs:List (Str×Addr)} {x:Str},(∃c,cs.lookup x=some c)→∃c,(yB cells l cs).lookup x=some c
 |[],_,_,h=>h
 | (n,k)::r,cs,x,h=>by
  unfold yB
  by_cases hk:(k == NameKind.free)=true
  ·rw [if_pos hk]
   refine nR ?_
   rw [List.lookup_cons]
   by_cases hy:(x == n)=true
   ·rw [hy];exact ⟨_,rfl⟩
   ·rw [Bool.not_eq_true] at hy
    rw [hy];exact h
  ·rw [if_neg hk];exact nR h
theorem gC {cells:List (Str×Addr)}:∀{l:List (Str×NameKind)} {cs:List (Str×Addr)} {x:Str},(x,NameKind.free)∈l→∃c,(yB cells l cs).lookup x=some c
 | (n,k)::r,cs,x,h=>by
  unfold yB
  rcases List.mem_cons.mp h with e|e
  ·cases e
   rw [if_pos (by rfl)]
   exact nR (by rw [List.lookup_cons,beq_self_eq_true];exact ⟨_,rfl⟩)
  ·by_cases hk:(k == NameKind.free)=true
   ·rw [if_pos hk];exact gC e
   ·rw [if_neg hk];exact gC e
def vP (X:Cx) (N:List Str) (scope:Scope) (C:Addr) (s:Shared) (H:Hp) (pins:List (Addr×Obj)) (fp:List Addr):Cx where
 prog:=X.prog
 w:=X.w
 K:=X.K
 mg:=X.mg
 base:=X.base
 A:=X.A
 N:=N
 s₀:=s
 H₀:=H
 env:=compEnvC scope (yB X.env.cells scope.names []) C X.env
 outer:=X.stack
 stack:=X.stack
 ex:=fp
 fn:=fun _=>false
 calm:=X.calm
 pn:=X.pn++pins
 xe:=fun _ _=>False
structure CompScope (X:Cx) (scope:Scope):Prop where
 kind:scope.kind=.function
 nocell:∀y∈scope.names,y.2≠.cell
 names:∀y∈scope.names,y.2=.local→scope.names.lookup y.1=some .local
 free:∀y∈scope.names,y.2=.free→X.env.kindOf y.1=some .cell∨X.env.kindOf y.1=some .free
theorem nF {env:Env} {x:Str}:∀{names:List (Str×NameKind)} {k:NameKind},(names.map fun (n,k)=>if (k == NameKind.free&&env.scope.kind == .function&&env.kindOf n == some .cell) then (n,NameKind.cell) else (n,k)).lookup x=some k→
  ∃k',names.lookup x=some k'∧(k'=k∨(k'=.free∧k=.cell∧env.kindOf x=some .cell))
 |[],k,h=>by simp at h
 | (n,k0)::r,k,h=>by
  have ih:=@nF env x r k
  have h':List.lookup x ((if (k0 == NameKind.free&&env.scope.kind == .function&&env.kindOf n == some .cell)=true then (n,NameKind.cell) else (n,k0))::r.map fun (n,k)=>if (k == NameKind.free&&env.scope.kind == .function&&env.kindOf n == some .cell)=true then (n,NameKind.cell) else (n,k))=some k:=h
  by_cases hc:(k0 == NameKind.free&&env.scope.kind == .function&&env.kindOf n == some .cell)=true
  ·rw [if_pos hc] at h'
   rw [List.lookup_cons] at h'
   cases hx:x == n with
   |true =>
    rw [hx] at h'
    have hk:NameKind.cell=k:=Option.some.inj h'
    simp only [Bool.and_eq_true,beq_iff_eq] at hc
    have hxn:x=n:=by simpa using hx
    refine ⟨k0,by rw [List.lookup_cons,hx],.inr ⟨hc.1.1,hk.symm,by rw [hxn];exact hc.2⟩⟩
   |false =>
    rw [hx] at h'
    obtain ⟨k',e1,e2⟩:=ih h'
    exact ⟨k',by rw [List.lookup_cons,hx];exact e1,e2⟩
  ·rw [if_neg hc] at h'
   rw [List.lookup_cons] at h'
   cases hx:x == n with
   |true =>
    rw [hx] at h'
    exact ⟨k0,by rw [List.lookup_cons,hx],.inl (Option.some.inj h')⟩
   |false =>
    rw [hx] at h'
    obtain ⟨k',e1,e2⟩:=ih h'
    exact ⟨k',by rw [List.lookup_cons,hx];exact e1,e2⟩
theorem nL {α:Type}:∀{l:List (Str×α)} {x:Str} {k:α},l.lookup x=some k→(x,k)∈l
 |[],_,_,h=>by simp at h
 | (n,a)::r,x,k,h=>by
  rw [List.lookup_cons] at h
  cases hx:x == n with
  |true =>
   rw [hx] at h
   have e:a=k:=Option.some.inj h
   have hxn:x=n:=by simpa using hx
   subst e;subst hxn
   exact List.mem_cons_self
  |false =>
   rw [hx] at h
   exact List.mem_cons_of_mem _ (nL h)
def eN (X:Cx) (ifs:List Expr) (t:TT):Prop :=
 ∀(pins:List (Addr×Obj)) (s:Shared) (σ:St) (H:Hp) (Q:Bool→Hp→Prop),Inv X pins σ H s→t σ H Q→
  wpAny (model X.prog X.w) X.A (forIn ifs true fun c r=>if r=true then do let ok ← isTrue c X.env (eval c X.env);pure (ForInStep.yield ok) else pure (ForInStep.yield r)) (TP X pins σ Q) X.xe s
def CP:TT:=fun _ H Q=>Q true H
variable {X:Cx}
theorem vY:eN X [] CP:=fun _ _ _ H _ I h=>wpAny_tests_nil ⟨H,I,h⟩
theorem JP {c:Expr} {t:TT} (hc:PT X c t):eN X [c] t:=fun pins s σ H Q I h=>wpAny_tests_one (hc pins s σ H Q I h)
def JE (D:Addr) (J:It) (g:TG) (tc:TT) (te:TE) (σ₀:St) (H:Hp) (Q:Hp→Prop):Prop :=
 ∃W:Nat→Nat→St→Hp→Prop,(∃m,W 0 m σ₀ (upd H D (.lst [])))∧∀i m σ' H',W i m σ' H'→
  (J.stop i H'∧Q H')∨(J.go i H'∧∃N:St→Hp→Prop,(∀σ'' H'',N σ'' H''→∃m',m'<m∧W (i+1) m' σ'' H'')∧∀x H2,J.yld i H' x H2→g x σ' H2 fun σ2 H3=>tc σ2 H3 fun b H4 =>
   if b=true then te σ2 H4 fun v H5=>∃xs,H5 D=some (.lst xs)∧xs.length<sizeLine∧N σ2 (upd H5 D (.lst (xs++[v]))) else N σ2 H4)
def RG (wi:TI) (cap:St→St) (g:TG) (tc:TT) (te:TE):TE:=fun σ H Q=>wi σ H fun J H1=>∀D,H1 D=none→JE D J g tc te (cap σ) H1 fun H'=>Q (.ref D) H'
def ML (i:Nat) (wi:TI) (cap:St→St) (g:TG) (tc:TT) (te:TE):TS:=fun D σ H=>wi σ H fun J H1=>∀d,H1 d=none→JE d J g tc te (cap σ) H1 fun H'=>D.nx (σ.set i (some (.ref d))) H'
def cC (X:Cx) (N:List Str) (scope:Scope) (cap:St→St):Prop :=
 ∀σ:St,σ.length=X.N.length→(cap σ).length=N.length∧∀(i:Nat) (x:Str) (v:V),N[i]?=some x→(cap σ)[i]?=some (some v)→scope.names.lookup x=some .free∧∃j:Nat,X.N[j]?=some x∧σ[j]?=some (some v)
def kZ (n:Nat) (js:List Nat):St→St:=fun σ=>List.replicate n none++js.map fun j=>(σ[j]?).join
theorem DH {N:List Str} (n:Nat) (js:List Nat) (h1:N.length=n+js.length) (h2:js.map (fun j=>X.N[j]?)=(N.drop n).map some) (h3:∀x∈N.drop n,scope.names.lookup x=some .free):cC X N scope (kZ n js):=by
 intro σ hσ
 refine ⟨by unfold kZ;rw [List.length_append,List.length_replicate,List.length_map,h1],fun i x v e1 e2=>?_⟩
 unfold kZ at e2
 by_cases hi:i<n
 ·rw [List.getElem?_append_left (by simpa using hi),List.getElem?_replicate,if_pos hi] at e2
  cases e2
 ·rw [List.getElem?_append_right (by simpa using hi),List.length_replicate,List.getElem?_map] at e2
  cases hj:js[i - n]? with
  |none=>rw [hj] at e2;cases e2
  |some j =>
   rw [hj] at e2
   have e3:(σ[j]?).join=some v:=Option.some.inj e2
   have e4:σ[j]?=some (some v):=by
    cases q:σ[j]? with
    |none=>rw [q] at e3;cases e3
    |some o =>
     rw [q] at e3
     have e5:o=some v:=e3
     rw [e5]
   have hd:(N.drop n)[i - n]?=some x:=by
    rw [List.getElem?_drop,show n+(i - n)=i by omega]
    exact e1
   have e5:=congrArg (fun l=>l[i - n]?) h2
   simp only [List.getElem?_map,hj,hd,Option.map_some] at e5
   exact ⟨h3 x (List.mem_of_getElem? hd),j,Option.some.inj e5,e4⟩
theorem DG (sc:Scope) (hsc:X.env.scope=sc) (kind:scope.kind=.function) (nocell:∀y∈scope.names,y.2≠.cell) (names:∀y∈scope.names,y.2=.local→scope.names.lookup y.1=some .local)
  (free:∀y∈scope.names,y.2=.free→sc.names.lookup y.1=some .cell∨sc.names.lookup y.1=some .free):CompScope X scope:=⟨kind,nocell,names,fun y hy hf=>by
 subst hsc
 exact free y hy hf⟩
section
variable {X:Cx} {N:List Str} {scope:Scope} {pins:List (Addr×Obj)} {σ:St} {H:Hp} {s:Shared} {fp:List Addr}
theorem gA (S:CompScope X scope) (I:Inv X pins σ H s):∀y∈scope.names,y.2=.free→∃c,X.env.cells.lookup y.1=some c:=fun y hy hf=>I.ok.has y.1 (S.free y hy hf)
theorem NF {cap:St→St} {D C:Addr} {h₁:Heap} {t':Nat} {m:Str→Option Value} (S:CompScope X scope) (I:Inv X pins σ H s) (hcap:cC X N scope cap) (hf:∀b∈fp,z3 X pins H b) (hfo:∀b∈fp,∃o,s.heap.get? b=some o)
  (hD:s.heap.objs.size≤D) (hC:s.heap.objs.size≤C) (hDC:D≠C) (old:∀b o,s.heap.get? b=some o→h₁.get? b=some o) (hns:h₁.Ns C m) (hl:h₁.get? D=some {cls:=.type "list",data:=.seq ([]:List Value).toArray}) :
  Inv (vP X N scope C s H pins fp) [] (cap σ) (upd H D (.lst [])) {s with heap:=h₁,toks:=t'}:=by
 have cellsOk:=gA S I
 have look:∀x c,(yB X.env.cells scope.names []).lookup x=some c→X.env.cells.lookup x=some c:=fun x c e=>fU cellsOk (fun y d q=>by simp at q) e
 have lt:∀{b:Addr} {o:Obj},s.heap.get? b=some o→b<s.heap.objs.size:=fun e=>Heap.lt_size e
 have cellLt:∀x c,X.env.cells.lookup x=some c→c<s.heap.objs.size:=fun x c e=>by
  obtain ⟨v,o,ho,_⟩:=I.cell x c e
  exact lt ho
 have nD:H D=none:=I.hok.fresh hD
 have nC:H C=none:=I.hok.fresh hC
 have stkNe:∀b:Addr,b≠X.env.locals→b∉X.fs→b∉kM X.stack:=fun b h1 h2 z=>by
  rcases List.mem_cons.mp (I.stkSub b z) with e|e
  ·exact h1 e
  ·exact h2 e
 refine ⟨⟨I.ok.mod,S.kind,I.ok.glob,I.ok.blt,hC,fun x y c h1 h2=>I.ok.inj x y c (look x c h1) (look y c h2),fun x hx=>?_,fun x c hfn _=>(nomatch hfn),I.ok.hd,I.ok.frames,.inl rfl,fun b hb=>⟨?_,fun x c e=>(hf b hb).2.2.2.2.1 x c (look x c e)⟩,
   I.bs,Nat.le_trans I.ok.bsz I.sz,fun b o e hb=>?_,fun b hb=>stkNe b (hf b hb).2.1 (hf b hb).2.2.1,I.stack,I.stkFree⟩,
  rfl,I.bare,Un.laid old hD nD,⟨m,hns,fun i x v h1 h2 h3=>?_⟩,fun x c e=>?_,?_,fun x c e=>?_,fun p hp=>?_,?_,(hcap σ I.len).1⟩
 ·-- has
  have hx':∃k,(relabel scope X.env).names.lookup x=some k∧(k=.cell∨k=.free):=by
   rcases hx with e|e
   ·exact ⟨_,e,.inl rfl⟩
   ·exact ⟨_,e,.inr rfl⟩
  obtain ⟨k,e,hk⟩:=hx'
  obtain ⟨k',e1,e2⟩:=nF e
  have hm:=nL e1
  have hfree:k'=.free:=by
   rcases e2 with e2|e2
   ·subst e2
    rcases hk with hk|hk
    ·subst hk
     exact absurd rfl (S.nocell _ hm)
    ·exact hk
   ·exact e2.1
  subst hfree
  exact gC hm
 ·obtain ⟨o,ho⟩:=hfo b hb
  exact Nat.ne_of_lt (Nat.lt_of_lt_of_le (lt ho) hC)
 ·rcases (hf b hb).2.2.2.1 with z|z
  ·exact I.ok.noex b o e z
  ·exact absurd (Nat.lt_of_lt_of_le (Heap.lt_size e) (Nat.le_trans I.ok.bsz z)) (Nat.lt_irrefl _)
 ·-- names
  obtain ⟨hfr,j,hj,hv⟩:=(hcap σ I.len).2 i x v h1 h2
  have hm:=nL hfr
  have hk:=S.free _ hm rfl
  obtain ⟨m0,_,hl0⟩:=I.loc
  have vis:eM X.env.scope x:=by
   rcases hk with k|k
   ·exact .inr (.inl k)
   ·exact .inr (.inr k)
  obtain ⟨u,r,l⟩:=hl0 j x v hj hv vis
  refine ⟨u,r,.inr ⟨?_,?_⟩⟩
  ·have hvis:∃k,(relabel scope X.env).names.lookup x=some k:=by
    rcases h3 with e|e|e<;>exact ⟨_,e⟩
   obtain ⟨k,e⟩:=hvis
   obtain ⟨k',e1,e2⟩:=nF e
   rw [hfr] at e1
   cases e1
   rcases e2 with e2|e2
   ·subst e2;exact .inr e
   ·rw [e2.2.1] at e;exact .inl e
  ·rcases l with ⟨k,_⟩|⟨_,c,hc,hcell⟩
   ·exfalso
    rcases hk with q|q
    ·have q':X.env.kindOf x=some .cell:=q
     rw [k] at q';cases q'
    ·have q':X.env.kindOf x=some .free:=q
     rw [k] at q';cases q'
   ·obtain ⟨c',e'⟩:=gC (cells:=X.env.cells) (cs:=[]) hm
    have e2:=look x c' e'
    have e2':X.env.cells.lookup x=some c':=e2
    rw [hc] at e2'
    cases e2'
    obtain ⟨o,ho,hd⟩:=hcell
    exact ⟨c,e',o,old _ _ ho,hd⟩
 ·obtain ⟨v,o,ho,hd⟩:=I.cell x c (look x c e)
  exact ⟨v,o,old _ _ ho,hd⟩
 ·show upd H D (.lst []) C=none
  rw [jL (Ne.symm hDC)]
  exact nC
 ·have hc:=look x c e
  rw [jL (Nat.ne_of_lt (Nat.lt_of_lt_of_le (cellLt x c hc) hD))]
  exact I.freeC x c hc
 ·have hp':p∈X.pn++pins:=by
   rcases List.mem_append.mp hp with z|z
   ·exact z
   ·cases z
  obtain ⟨e,n,ne,nf,d⟩:=I.pin p hp'
  refine ⟨old _ _ e,?_,Nat.ne_of_lt (Nat.lt_of_lt_of_le (lt e) hC),stkNe p.1 ne nf,d⟩
  rw [jL (Nat.ne_of_lt (Nat.lt_of_lt_of_le (lt e) hD))]
  exact n
 ·refine I.hok.laid old hD ?_
  exact ⟨Nat.zero_le _,[],0,.nil,hl⟩
theorem u7 {σ':St} {H':Hp} {s':Shared} {C:Addr} {σc:St} {Nc:List Str} (I:Inv X pins σ H s) (hf:∀b∈fp,z3 X pins H b) (J:Inv (vP X Nc scope C s H pins fp) [] σc H' s'):Inv X pins σ H' s':=by
 refine I.call' (ch:=fp) J.os J.base J.hok J.bare fun b hb=>?_
 obtain ⟨_,h2,_,h4,h5,h6⟩:=hf b hb
 exact ⟨h4,h2,h5,h6⟩
theorem xT {σ':St} {H':Hp} {s':Shared} {C:Addr} {h':Heap} (I:Inv X pins σ H s) (hC:s.heap.objs.size≤C) (J:Inv X pins σ' H' s') (hn:H' C=none) (sb:Heap.SameBut C s'.heap h'):Inv X pins σ' H' {s' with heap:=h'}:=by
 refine J.turned (t':=s'.toks) (it:=C) (fun b o hb e=>(sb.2 b hb).trans e) hn (Nat.ne_of_gt (Nat.lt_of_lt_of_le I.lt hC)) (.inr (Nat.le_trans I.sz hC)) (fun x c e z=>?_) fun p hp z=>?_
 ·obtain ⟨v,q⟩:=I.cell x c e
  exact absurd (Nat.lt_of_lt_of_le q.lt (by rw [z];exact hC)) (Nat.lt_irrefl _)
 ·exact absurd (Nat.lt_of_lt_of_le (Heap.lt_size (I.pin p hp).1) (by rw [z];exact hC)) (Nat.lt_irrefl _)
end
end L2
namespace L2
open PySem PySem.Spec PyProof.Rows
variable {H:Hp}
theorem v0 {σ:St} {Q:Bool→Hp→Prop} (h:Q true H):CP σ H Q:=h
variable {D:Addr} {tc:TT} {te:TE} {Q:Hp→Prop}
theorem ZL {K:PySem.W.Frag} {a:Addr} {xs:List V} {g:TG} {σ₀:St} (Pv:Nat→St→Hp→Prop) (h0:Pv 0 σ₀ (upd H D (.lst []))) (hl:∀i σ H,i≤xs.length→Pv i σ H→SqL K H a xs)
    (hs:∀i x σ H,xs[i]?=some x→Pv i σ H→g x σ H fun σ2 H3=>tc σ2 H3 fun b H4=>if b=true then te σ2 H4 fun v H5=>∃ys,H5 D=some (.lst ys)∧ys.length<sizeLine∧Pv (i+1) σ2 (upd H5 D (.lst (ys++[v]))) else Pv (i+1) σ2 H4)
    (hd:∀σ H,Pv xs.length σ H→Q H):JE D (ZI K a) g tc te σ₀ H Q:=by
  refine ⟨fun i m σ H=>m=xs.length - i∧i≤xs.length∧Pv i σ H,⟨xs.length,by simp,Nat.zero_le _,h0⟩,?_⟩
  rintro i m σ H ⟨rfl,hi,p⟩
  have q:=hl i σ H hi p
  by_cases hlt:i<xs.length
  · refine .inr ⟨⟨xs,xs[i],q,by simp [hlt]⟩,Pv (i+1),fun σ' H' p'=>⟨xs.length - (i+1),by omega,rfl,hlt,p'⟩,fun x H' y=>?_⟩
    obtain ⟨e,y⟩:=y
    subst e
    exact hs i x σ _ (y xs q) p
  · have e:i=xs.length:=by omega
    subst e
    exact .inl ⟨⟨xs,q,Nat.le_refl _⟩,hd σ H p⟩
theorem II {lo:Int} {n:Nat} {g:TG} {σ₀:St} (Pv:Nat→St→Hp→Prop) (h0:Pv 0 σ₀ (upd H D (.lst [])))
  (hs:∀i σ H,i<n→Pv i σ H→g (.int (lo+i)) σ H fun σ2 H3=>tc σ2 H3 fun b H4=>if b=true then te σ2 H4 fun v H5=>∃ys,H5 D=some (.lst ys)∧ys.length<sizeLine∧Pv (i+1) σ2 (upd H5 D (.lst (ys++[v]))) else Pv (i+1) σ2 H4)
  (hd:∀σ H,Pv n σ H→Q H):JE D (ZH lo n) g tc te σ₀ H Q:=by
 refine ⟨fun i m σ H=>m=n - i∧i≤n∧Pv i σ H,⟨n,by simp,Nat.zero_le _,h0⟩,?_⟩
 rintro i m σ H ⟨rfl,hi,p⟩
 by_cases hlt:i<n
 ·refine .inr ⟨hlt,Pv (i+1),fun σ' H' p'=>⟨n - (i+1),by omega,rfl,hlt,p'⟩,fun x H' y=>?_⟩
  obtain ⟨e,y⟩:=y
  subst e y
  exact hs i σ _ hlt p
 ·have e:i=n:=by omega
  subst e
  exact .inl ⟨Nat.le_refl _,hd σ H p⟩
theorem qA {H':Hp} {o:HO} (hD:H D=none) (s:Same H H'):Same H (upd H' D o):=fun b u q=>by
 rw [jL (q8 q hD)]
 exact s b u q
def QE (H:Hp) (D:Addr) (caps:St) (R:Nat→List V→Hp→Prop) (i:Nat) (σ:St) (Hi:Hp):Prop:=∃ys c,σ=c::caps∧Same H Hi∧Hi D=some (.lst ys)∧ys.length≤i∧R i ys Hi
variable {caps:St}
theorem v9 {Hi H5:Hp} {R:Nat→List V→Hp→Prop} {i:Nat} {ys:List V} {c:Option V} {v:V} (hD:H D=none) (s:Same H Hi) (hY:Hi D=some (.lst ys)) (hl:ys.length≤i) (hi:i≤999) (s5:Same Hi H5)
  (r:R (i+1) (ys++[v]) (upd H5 D (.lst (ys++[v])))):∃zs,H5 D=some (.lst zs)∧zs.length<sizeLine∧QE H D caps R (i+1) (c::caps) (upd H5 D (.lst (zs++[v]))):=by
 refine ⟨ys,s5 _ _ hY,vX (by omega),ys++[v],c,rfl,qA hD (s.trans s5),jE,?_,r⟩
 rw [List.length_append,List.length_singleton];omega
theorem ZO {Hi H4:Hp} {R:Nat→List V→Hp→Prop} {i:Nat} {ys:List V} {c:Option V} (s:Same H Hi) (hY:Hi D=some (.lst ys)) (hl:ys.length≤i) (s4:Same Hi H4) (r:R (i+1) ys H4) :
  QE H D caps R (i+1) (c::caps) H4:=⟨ys,c,rfl,s.trans s4,s4 _ _ hY,by omega,r⟩
theorem J4 {K:PySem.W.Frag} {a:Addr} {xs:List V} (R:Nat→List V→Hp→Prop) (hD:H D=none) (hS:SqL K H a xs) (h0:R 0 [] (upd H D (.lst [])))
  (hs:∀i x ys Hi,xs[i]?=some x→i<xs.length→ys.length≤i→Same H Hi→Hi D=some (.lst ys)→R i ys Hi→tc (some x::caps) Hi fun b H4=>if b=true then te (some x::caps) H4 fun v H5=>∃zs,H5 D=some (.lst zs)∧zs.length<sizeLine∧QE H D caps R (i+1) (some x::caps) (upd H5 D (.lst (zs++[v])))
   else QE H D caps R (i+1) (some x::caps) H4)
  (hd:∀ys Hf,Same H Hf→Hf D=some (.lst ys)→ys.length≤xs.length→R xs.length ys Hf→Q Hf):JE D (ZI K a) (bT 0) tc te (none::caps) H Q:=by
 refine ZL (xs:=xs) (QE H D caps R) ⟨[],none,rfl,qA hD (Same.refl H),jE,Nat.le_refl _,h0⟩ (fun i σ Hi _ ⟨_,_,_,s,_⟩=>s.seq hS) ?_ ?_
 ·rintro i x σ Hi hx ⟨ys,c,rfl,s,hY,hl,r⟩
  exact hs i x ys Hi hx (List.getElem?_eq_some_iff.mp hx).1 hl s hY r
 ·rintro σ Hf ⟨ys,c,rfl,s,hY,hl,r⟩
  exact hd ys Hf s hY hl r
theorem QS {lo:Int} {n:Nat} (R:Nat→List V→Hp→Prop) (hD:H D=none) (h0:R 0 [] (upd H D (.lst [])))
  (hs:∀i ys Hi,i<n→ys.length≤i→Same H Hi→Hi D=some (.lst ys)→R i ys Hi→tc (some (.int (lo+i))::caps) Hi fun b H4=>if b=true then te (some (.int (lo+i))::caps) H4 fun v H5=>∃zs,H5 D=some (.lst zs)∧zs.length<sizeLine∧QE H D caps R (i+1) (some (.int (lo+i))::caps) (upd H5 D (.lst (zs++[v])))
   else QE H D caps R (i+1) (some (.int (lo+i))::caps) H4)
  (hd:∀ys Hf,Same H Hf→Hf D=some (.lst ys)→ys.length≤n→R n ys Hf→Q Hf):JE D (ZH lo n) (bT 0) tc te (none::caps) H Q:=by
 refine II (QE H D caps R) ⟨[],none,rfl,qA hD (Same.refl H),jE,Nat.le_refl _,h0⟩ ?_ ?_
 ·rintro i σ Hi hi ⟨ys,c,rfl,s,hY,hl,r⟩
  exact hs i ys Hi hi hl s hY r
 ·rintro σ Hf ⟨ys,c,rfl,s,hY,hl,r⟩
  exact hd ys Hf s hY hl r
section
variable {X:Cx}
end
section
variable {X:Cx}
end
end L2
namespace L2
open PySem PySem.Spec PyProof.Rows
section
variable {X:Cx}
end
end L2
namespace L2
open PySem PySem.Spec PyProof.Rows
section
variable {X:Cx} (K:PySem.W.Frag)
theorem kN (h:X.K=K:=by rfl):IxR X (iQ K):=by subst h;exact rZ
theorem jT (h:X.K=K:=by rfl):IxR X (rF K):=by subst h;exact ix_tup
theorem OJ (h:X.K=K:=by rfl):IxR X (rR K):=by subst h;exact PR
theorem MO (h:X.K=K:=by rfl):i3 X (CV K):=by subst h;exact NX
theorem qD (h:X.K=K:=by rfl):yV X (.builtin "len") (fun xs H Q=>∃p ys,xs=[.ref p]∧(SqL K H p ys∨SqT K H p ys)∧Q (.int ys.length) H):=by subst h;exact DI
theorem JB {es:List Expr} {k:Nat} {t:ZG} {n:Nat} {pos:Pos} (hc:X.calm=true) (h:eO X es t) (hK:X.K=K:=by rfl)
  (hn:(assignEach es X.env).length=n:=by rfl) (hst:(assignEach es X.env).findIdx? (·.1)=none:=by rfl):PG X (.Tuple es k pos) (rG K n t):=by subst hK;exact iF hc h hn hst
end
end L2
namespace L2
open PySem PySem.Spec PyProof.Rows
section
variable {X:Cx}
end
end L2
namespace L2
open PySem PySem.Spec PyProof.Rows
section
variable {X:Cx}
def SM (t u:TS):TS:=fun D σ H=>∃P:St→Hp→Prop,t {D with nx:=P} σ H∧∀σ' H',P σ' H'→u D σ' H'
theorem o6 {st:Stmt} {rest:List Stmt} {t u:TS} (h1:PS X st t) (h2:PSs X rest u):PSs X (st::rest) (SM t u):=by
 intro pins s σ H D I h
 obtain ⟨P,hP,hu⟩:=h
 refine wpAny_execs_cons (jN (h1 pins s σ H {D with nx:=P} I hP) fun f s1 q=>?_)
 cases f with
 |next =>
  obtain ⟨σ',H',I',q⟩:=q
  exact h2 pins s1 σ' H' D I' (hu σ' H' q)
 |ret v=>exact q
 |brk=>exact q
 |cont=>exact q
theorem LU:qU X (compareOp .IsNot) (fun x y H Q=>∃c d,x=.bl c∧y=.bl d∧Q (.bl (c != d)) H):=by
 intro pins s σ H x y v u Q I rx ry h
 obtain ⟨c,d,rfl,rfl,q⟩:=h
 cases rx
 cases ry
 exact isnot_bool ⟨.bl _,H,I,rfl,q⟩
end
end L2
namespace L2
open PySem PySem.Spec PyProof.Rows
structure Def (P:Program) (w:World) (K:PySem.W.Frag) (mg:Str→Option Value) (base:Heap) (k:Nat) (x:Str) (ps:List Str) (dvs:List V) (sp:Sp):Prop where
 ex:∃(f:Addr) (fd:FuncData) (ds:List Value),FnOk P w K mg base jP k f fd ps sp∧mg x=some (.ref f)∧PySem.W.keepIn K (.ref f)=true∧Vals dvs ds∧Binds K fd ps ds
theorem jO {X:Cx} {k k':Nat} {x:Str} {ps:List Str} {dvs:List V} {sp:Sp} {p pos:Pos} {e:Expr} {es:List Expr} {t:TA} (F:Def X.prog X.w X.K X.mg X.base k x ps dvs sp) (hr:Room k' X.A) (hg:Gl X x) (ha:PA X (e::es) t)
  (hk:k≤k':=by decide) (hdb:(x == ("__debug__":Str))=false:=by decide) (he:starEach (e::es) X.env=(false,eval e X.env)::starEach es X.env:=by rfl) (hpl:(backTo pos (starEach es X.env)).any (·.1)=false:=by rfl) :
  PE X (.Call (.Name x p) (e::es) [] pos) (pS sp dvs E0 t):=by
 obtain ⟨f,fd,ds,G,m,kp,hv,b⟩:=F.ex
 exact N9 G (hr.mono hk) hg m kp b hv JF ha hdb he hpl
structure FunD (K:PySem.W.Frag) (x qual:Str) (st:Stmt) (f:Addr) (fd:FuncData) (ds:List Value):Prop where
 ex:∃(oc:Value) (od:Option Addr) (T:Addr) (kV doc pm:Value) (an:Option Addr) (cdv ct:Value) (osl:Array (Option Value)) (oT:Obj) (n:Nat),
  fd=PySem.W.fnOf x qual (y8 st) (vI st) (jG st) (.ref T) kV doc pm an cdv ct∧K.lookup f=some ⟨oc,od,.func fd,osl⟩∧PySem.W.codeIn K cdv qual=true∧K.lookup T=some oT∧oT.data=.seq ds.toArray n
 kp:PySem.W.keepIn K (.ref f)=true
section
variable {P:Program} {w:World} {K:PySem.W.Frag} {mg:Str→Option Value} {base:Heap}
theorem FunD.ok {x qual:Str} {st:Stmt} {f:Addr} {fd:FuncData} {ds:List Value} {N ps:List Str} {k:Nat} {sp:Sp} (F:FunD K x qual st f fd ds) (S:FnScope N ps (jG st)) (len:∀vs H Q E,sp vs H Q E→vs.length=ps.length)
  (hbody:∀(cdv:Value) (A:Around) (outer:List Env) (s:Shared) (H:Hp) (vs:List V) (Q:VK) (E:XK),Room k (A.deeper (envOfC qual (jG st) s.heap.objs.size f cdv))→sp vs H Q E→
   ∃t,PSs (vA jP P w K mg base N qual (jG st) f cdv A outer s H E).nox (vI st) t∧t {nx:=fun _ H'=>Q .non H',rt:=Q} (start N vs) H):FnOk P w K mg base jP (k+1) f fd ps sp:=by
 obtain ⟨oc,od,T,kV,doc,pm,an,cdv,ct,osl,oT,n,rfl,lk,hcd,_,_⟩:=F.ex
 refine rA lk hcd S len fun A outer s H vs Q E hr hsp=>?_
 obtain ⟨t,h,q⟩:=hbody cdv A outer s H vs Q E hr hsp
 exact ⟨t,h.nox,q⟩
theorem FunD.binds {x qual:Str} {st:Stmt} {f:Addr} {fd:FuncData} {ds:List Value} {ps:List Str} (ds':List Value) (m:Nat) (hm:m+ds'.length=ps.length) (F:FunD K x qual st f fd ds)
  (h:∀(T:Addr) (kV doc pm:Value) (an:Option Addr) (cdv ct:Value) (us:List Value),us.length=m→∃k,bindArgs (PySem.W.fnOf x qual (y8 st) (vI st) (jG st) (.ref T) kV doc pm an cdv ct) ⟨us,[]⟩=seqItems? (.ref T) >>= k∧
   k (some ds.toArray)=pure (ps.zip (us++ds'))):Binds K fd ps ds':=by
 obtain ⟨oc,od,T,kV,doc,pm,an,cdv,ct,osl,oT,n,rfl,lk,hcd,lT,dT⟩:=F.ex
 intro s us hK hl
 obtain ⟨k,h1,h2⟩:=h T kV doc pm an cdv ct us (by rw [List.length_append] at hl;omega)
 exact BindsTo.of_defaults rfl (hK _ _ lT) dT h1 h2
theorem ON {x qual:Str} {st:Stmt} {f T:Addr} {oc:Value} {od an:Option Addr} {osl:Array (Option Value)} {kV doc pm cdv ct:Value} {oT:Obj} {n:Nat} {ds:List Value}
  (l:K.lookup f=some ⟨oc,od,.func (PySem.W.fnOf x qual (y8 st) (vI st) (jG st) (.ref T) kV doc pm an cdv ct),osl⟩)
  (c:PySem.W.codeIn K cdv qual=true) (k:PySem.W.keepIn K (.ref f)=true) (lT:K.lookup T=some oT) (dT:oT.data=.seq ds.toArray n):FunD K x qual st f (PySem.W.fnOf x qual (y8 st) (vI st) (jG st) (.ref T) kV doc pm an cdv ct) ds :=
 ⟨⟨oc,od,T,kV,doc,pm,an,cdv,ct,osl,oT,n,rfl,l,c,lT,dT⟩,k⟩
end
section
variable {X:Cx}
theorem oU:C3 X (iQ X.K):=by
 intro pins s σ H o i ov iv Q I ro ri h
 obtain ⟨p,xs,k,z,rfl,rfl,hq,he,q⟩:=h
 cases ro
 obtain ⟨t,rfl⟩:=ri
 obtain ⟨its,r,pl,hz⟩:=I.list hq
 obtain ⟨j,h1,h2,h3,h4,h5⟩:=gZ he
 obtain ⟨w,ew,rw'⟩:=r.get h2
 have hl:=r.length
 have hn:=Q1
 have fin:EP X pins σ Q w s:=⟨z,H,I,rw',q⟩
 by_cases h0:0≤k
 ·have hj:k.toNat=j:=by
   rw [seqIndex_of h0 h5] at h1
   exact Option.some.inj h1
  exact wpAny_getItem_list pl.isList h0 (by omega) (by rw [hj];simpa using ew) fin
 ·have hj:(k+(its.toArray.size:Int)).toNat=j:=by
   rw [seqIndex_neg (by omega) h4] at h1
   rw [List.size_toArray,← hl]
   exact Option.some.inj h1
  exact wpAny_getItem_list_neg pl.isList (by omega) (by rw [List.size_toArray]<;>omega) (by omega) (by rw [hj];simpa using ew) fin
end
end L2
namespace L2
open PySem
variable {c A B:Prop}
theorem JW [Decidable c] (hc:¬c) (h:A):if (!decide c)=true then A else B:=by
 rw [decide_eq_false hc]
 exact kT h
theorem qV [Decidable c] (hc:¬c) (h:B):if decide c=true then A else B:=by
 rw [decide_eq_false hc]
 exact yG h
theorem vD [Decidable c] (hc:c) (h:A):if decide c=true then A else B:=by
 rw [decide_eq_true hc]
 exact kT h
end L2
namespace L2
open PySem PySem.Spec PyProof.Rows
end L2
namespace L2
open PySem PySem.Spec PyProof.Rows
structure MkD (P:Program) (w:World) (K:PySem.W.Frag) (mg:Str→Option Value) (base:Heap) (k:Nat) (x:Str) (C:Addr) (ps:List Str) (sp:Sp):Prop where
 ex:mg x=some (.ref C)∧∃(f:Addr) (fd:FuncData),Mk K C f∧FnOk P w K mg base jP k f fd ps sp∧Binds K fd ps []
structure MeD (P:Program) (w:World) (K:PySem.W.Frag) (mg:Str→Option Value) (base:Heap) (k:Nat) (C:Addr) (m:Str) (ps:List Str) (sp:Sp):Prop where
 ex:Cls K C∧∃(f:Addr) (fd:FuncData),Meth K C m f∧FnOk P w K mg base jP k f fd ps sp∧Binds K fd ps []
section
variable {X:Cx} {k k':Nat} {x m:Str} {C:Addr} {ps:List Str} {sp:Sp} {p pos apos:Pos} {o e:Expr} {es:List Expr} {ta:TE} {t:TA}
theorem d9 (M:MkD X.prog X.w X.K X.mg X.base k x C ps sp) (hr:Room k' X.A) (hg:Gl X x) (ha:PA X (e::es) t)
  (hk:k+1≤k':=by decide) (hdb:(x == ("__debug__":Str))=false:=by decide) (he:starEach (e::es) X.env=(false,eval e X.env)::starEach es X.env:=by rfl) (hpl:(backTo pos (starEach es X.env)).any (·.1)=false:=by rfl) :
  PE X (.Call (.Name x p) (e::es) [] pos) (CD C sp [] E0 t):=by
 obtain ⟨hm,f,fd,M,G,b⟩:=M.ex
 exact N6 M G (hr.mono hk) hg hm b .nil JF ha hdb he hpl
theorem Z3 {pl:Sem Bool} (M:MeD X.prog X.w X.K X.mg X.base k C m ps sp) (hr:Room k' X.A) (ho:PE X o ta) (ha:PA X (e::es) t) (hk:k≤k':=by decide)
  (hst:starEach (e::es) X.env=(false,eval e X.env)::starEach es X.env:=by rfl) (hpl:(backTo pos (starEach es X.env)).any (·.1)=false:=by rfl)
  (ht:eval (.Call (.Attribute o m apos) (e::es) [] pos) X.env=(do
   let ov ← eval o X.env
   standAt apos.atName
   let (f,first) ← holding [ov] (getMethod ov m pl)
   callWith pos f first (backTo pos (starEach (e::es) X.env)) (backToKw pos (keywordEach [] X.env))):=by rfl) :
  PE X (.Call (.Attribute o m apos) (e::es) [] pos) (iK C m sp [] E0 ta t):=by
 obtain ⟨c,f,fd,M,G,b⟩:=M.ex
 exact N5 (pl:=pl) ho c M G (hr.mono hk) b .nil JF ha hst hpl ht
theorem QH {pl:Sem Bool} (M:MeD X.prog X.w X.K X.mg X.base k C m ps sp) (hr:Room k' X.A) (ho:PE X o ta) (hk:k≤k':=by decide)
  (ht:eval (.Call (.Attribute o m apos) [] [] pos) X.env=(do
   let ov ← eval o X.env
   standAt apos.atName
   let (f,first) ← holding [ov] (getMethod ov m pl)
   callWith pos f first (backTo pos (starEach [] X.env)) (backToKw pos (keywordEach [] X.env))):=by rfl) :
  PE X (.Call (.Attribute o m apos) [] [] pos) (iK C m sp [] E0 ta iP):=by
 obtain ⟨c,f,fd,M,G,b⟩:=M.ex
 exact MU (pl:=pl) ho c M G (hr.mono hk) b .nil JF ht
end
end L2
namespace L2
open PySem PySem.Spec PyProof.Rows
structure ClsM (K:PySem.W.Frag) (C:Addr) (m:Str) (f:Addr):Prop where
 sp:PySem.W.specialIn K (.ref C) "__getattribute__"=some (some (.builtin "type.__getattribute__"))
 rd:PySem.W.readsIn K C (.type "type")=true
 fc:PySem.W.findCls K (.ref C) (.type "type") m=some (.val (.ref f))
 kp:PySem.W.keepIn K (.ref f)=true
structure CmD (P:Program) (w:World) (K:PySem.W.Frag) (mg:Str→Option Value) (base:Heap) (k:Nat) (x:Str) (C:Addr) (m:Str) (ps:List Str) (sp:Sp):Prop where
 ex:mg x=some (.ref C)∧∃(f:Addr) (fd:FuncData),ClsM K C m f∧FnOk P w K mg base jP k f fd ps sp∧Binds K fd ps []
theorem AO {X:Cx} {k k':Nat} {x m:Str} {C:Addr} {ps:List Str} {sp:Sp} {p pos apos:Pos} {e:Expr} {es:List Expr} {t:TA} {pl:Sem Bool} (M:CmD X.prog X.w X.K X.mg X.base k x C m ps sp) (hr:Room k' X.A) (hg:Gl X x) (ha:PA X (e::es) t) (hk:k≤k':=by decide)
  (hdb:(x == ("__debug__":Str))=false:=by decide) (hst:starEach (e::es) X.env=(false,eval e X.env)::starEach es X.env:=by rfl) (hpl:(backTo pos (starEach es X.env)).any (·.1)=false:=by rfl)
  (ht:eval (.Call (.Attribute (.Name x p) m apos) (e::es) [] pos) X.env=(do
   let ov ← eval (.Name x p) X.env
   standAt apos.atName
   let (f,first) ← holding [ov] (getMethod ov m pl)
   callWith pos f first (backTo pos (starEach (e::es) X.env)) (backToKw pos (keywordEach [] X.env))):=by rfl) :
  PE X (.Call (.Attribute (.Name x p) m apos) (e::es) [] pos) (pS sp [] E0 t):=by
 obtain ⟨hm,f,fd,c,G,b⟩:=M.ex
 intro pins s σ H Q I h
 refine PySem.W.methodCall_KW (pl:=pl) (jN ((dQ (v:=.ref C) hg hm rfl hdb:PE X (.Name x p) (tC (.ref C))) pins s σ H (fun v H1=>v=.ref C∧H1=H) I ⟨rfl,rfl⟩) fun u s1 ⟨v,H1,I1,rv,e1,e2⟩=>?_) ht
 subst e1 e2
 obtain rfl:u=Value.ref C:=rv
 refine PySem.W.method_cls I1.kIn c.sp (PySem.W.cls_value I1.kIn c.rd c.fc rfl ?_)
 have I2:=I1.tok (s1.toks+1)
 refine PySem.W.callWith_K (first:=[]) (h₀:=X.base) I.ok.mod.kin c.kp (jN (ha pos pins _ σ H1 _ I2 h) fun us s2 ⟨vs,H2,I3,r,q2⟩=>⟨I3.kIn,?_⟩) hst hpl
 exact bJ (us:=us) (vs:=vs) G (hr.mono hk) b .nil JF I3 r q2
end L2
namespace L2
open PySem PySem.Spec PyProof.Rows
section
variable {X:Cx}
theorem IH {ns:List Int} {its:List Value} (rv:Vals (ns.map V.int) its) {i:Nat} {v:Value} (h:its.toArray[i]?=some v):∃t,v=Value.int (ns.getD i 0) t:=by
 have h':its[i]?=some v:=by simpa using h
 have hi:i<its.length:=(List.getElem?_eq_some_iff.mp h').1
 have hn:i<ns.length:=by have:=rv.length;rw [List.length_map] at this;omega
 obtain ⟨u,e,q⟩:=rv.get (x:=V.int (ns.getD i 0)) (i:=i) (by rw [List.getElem?_map,List.getElem?_eq_getElem hn,List.getD_eq_getElem?_getD,List.getElem?_eq_getElem hn];rfl)
 rw [h'] at e
 cases e
 exact q
theorem oJ (hc:X.calm=true):yV X (.builtin "sum") (fun xs H Q=>∃(p:Addr) (ns:List Int),xs=[.ref p]∧SqL X.K H p (ns.map V.int)∧Q (.int ns.sum) H):=by
 intro pins s σ H xs us Q I r h
 obtain ⟨p,ns,rfl,hq,q⟩:=h
 obtain ⟨u,rfl,rx⟩:=QF r
 cases rx
 obtain ⟨its,rv,pl,hz⟩:=I.list hq
 have hlen:=rv.length
 rw [List.length_map] at hlen
 have hp:p<s.heap.objs.size:=by obtain ⟨o,n,e,_⟩:=pl;exact Heap.lt_size e
 refine call_sum_walkAnyS (wpAny_pyIter_list pl.isList ?_)
 refine ⟨s.heap.objs.size,_,_,_,_,_,_,fun i=>ns.getD i 0,rfl,(Walks.list (A:=X.A.in1) (I.ok.hd hc) s.heap.objs.size p (Nat.ne_of_lt hp) its.toArray).toS,⟨⟨_,Heap.get?_push_size _ rfl,rfl,rfl⟩,pl.isList.at fun o e=>Heap.get?_push_of_some _ e⟩,fun b hb=>?_,fun i v h=>IH rv h,fun s' t' m=>?_⟩
 ·rw [Heap.size_push]
  rcases List.mem_cons.mp hb with e|e
  ·rw [e];exact Nat.lt_succ_self _
  ·have e':b=p:=by simpa using e
   rw [e'];exact Nat.lt_succ_of_lt hp
 ·obtain ⟨hh,g,d,t,os⟩:=s'
  obtain ⟨m1,m2,m3,m4,m5⟩:=m
  have m2':g=s.gens:=m2
  have m3':d=s.drawn:=m3
  have m4':os=s.os:=m4
  subst m2' m3' m4'
  have e:preSum (fun i=>ns.getD i 0) its.toArray.size=ns.sum:=by rw [preSum_getD,List.size_toArray,← hlen,List.take_length]
  rw [e]
  refine ⟨.int ns.sum,H,I.kept (t':=t) fun b o e=>m1 b o (fun hb=>?_) (Heap.get?_push_of_some _ e),⟨_,rfl⟩,q⟩
  have e':b=s.heap.objs.size:=by simpa using hb
  exact absurd (Heap.lt_size e) (by rw [e'];exact Nat.lt_irrefl _)
end
end L2
namespace L2
open PySem PySem.Spec PyProof.Rows
def rK (p:Addr) (a b c:Int):HO:=.ext fun h=>∃t u v,IsRange h p a b c t u v
section
variable {X:Cx}
theorem IV:yV X (.type "range") (fun xs H Q=>∃a b c:Int,xs=[.int a,.int b,.int c]∧c≠0∧c.natAbs<1073741824∧∀p,H p=none→Q (.ref p) (upd H p (rK p a b c))):=by
 intro pins s σ H xs us Q I r h
 obtain ⟨a,b,c,rfl,hc,hs,q⟩:=h
 cases r with
 |cons r1 r2 =>
  cases r2 with
  |cons r3 r4 =>
   cases r4 with
   |cons r5 r6 =>
    cases r6
    obtain ⟨t,rfl⟩:=r1
    obtain ⟨u,rfl⟩:=r3
    obtain ⟨v,rfl⟩:=r5
    refine call_range_3 hc ?_ (.inl (PyProof.noPylong_small hs))
    refine ⟨.ref s.heap.objs.size,_,I.laid (t':=s.toks) (o:=rK s.heap.objs.size a b c) (fun b o e=>Heap.get?_push_of_some _ e) (Nat.le_refl _) ?_,rfl,q _ (I.hok.fresh (Nat.le_refl _))⟩
    exact ⟨⟨t,u,v,Heap.get?_push_size _ rfl⟩,⟨_,Heap.get?_push_size _ rfl⟩,fun h1 h2 ⟨t,u,v,e⟩ k=>⟨t,u,v,k _ e⟩⟩
theorem sJ {f:Nat→Int}:∀{n:Nat} {acc:List Value},acc.length=n→(∀i v,acc[i]?=some v→∃t,v=Value.int (f i) t)→Vals ((List.range n).map fun (i:Nat)=>V.int (f i)) acc
 |0,acc,hl,h=>by
  cases acc with
  |nil=>exact .nil
  |cons x r=>cases hl
 |n+1,acc,hl,h=>by
  obtain ⟨init,last,rfl⟩:∃init last,acc=init++[last]:=by
   have hne:acc≠[]:=by intro e;rw [e] at hl;cases hl
   exact ⟨acc.dropLast,acc.getLast hne,(List.dropLast_concat_getLast hne).symm⟩
  rw [List.length_append,List.length_singleton] at hl
  have hi:init.length=n:=by omega
  rw [List.range_succ,List.map_append]
  refine Vals.append (sJ hi fun i v e=>h i v ?_) (.cons ?_ .nil)
  ·rw [List.getElem?_append_left (List.getElem?_eq_some_iff.mp e).1]
   exact e
  ·exact h n last (by rw [List.getElem?_append_right (by omega),hi,Nat.sub_self];rfl)
theorem IA (hc:X.calm=true):yV X (.type "list") (fun xs H Q=>∃(p:Addr) (a b c:Int) (n:Nat),xs=[.ref p]∧H p=some (rK p a b c)∧Builtin.Range.small a b c=true∧Builtin.Range.rangeSize a b c=n∧n≤1000∧
  ∀l,H l=none→Q (.ref l) (upd H l (.lst ((List.range n).map fun (i:Nat)=>V.int (a+(i:Int)*c))))):=by
 intro pins s σ H xs us Q I r h
 obtain ⟨p,a,b,c,n,rfl,hp,hsm,hn,hz,q⟩:=h
 obtain ⟨u,rfl,rx⟩:=QF r
 cases rx
 obtain ⟨⟨t,u,v,e⟩,_,_⟩:=I.hok p _ hp
 refine call_list_range (I.ok.hd hc) e hsm hn (by omega) fun h' tk acc' c' hk hS' hacc=>?_
 have hl:acc'.toList.length=n:=by have:=hacc.1;simpa using this
 refine ⟨.ref s.heap.objs.size,_,I.laid (t':=tk) (o:=.lst ((List.range n).map fun (i:Nat)=>V.int (a+(i:Int)*c))) hk (Nat.le_refl _) ?_,rfl,q _ (I.hok.fresh (Nat.le_refl _))⟩
 refine ⟨by rw [List.length_map,List.length_range];exact Nat.le_of_lt (vX hz),acc'.toList,c',sJ hl fun i v e=>hacc.2 i v (by simpa using e),by simpa using hS'⟩
end
end L2
namespace L2
open PySem PySem.Spec PyProof.Rows
def yE (n:Nat):List Nat:=(List.range n).reverse
theorem K0 (n:Nat):((List.range n).map fun (i:Nat)=>V.int (((n:Int) - 1)+(i:Int) * -1))=(yE n).map fun (i:Nat)=>V.int (i:Int):=by
 apply List.ext_getElem?
 intro k
 unfold yE
 rw [List.getElem?_map,List.getElem?_map]
 by_cases hk:k<n
 ·rw [List.getElem?_range hk,List.getElem?_reverse (by simpa using hk),List.length_range,List.getElem?_range (by omega)]
  show some (V.int ((n:Int) - 1+(k:Int) * -1))=some (V.int ((n - 1 - k:Nat):Int))
  congr 2
  omega
 ·rw [List.getElem?_eq_none (by simp;omega),List.getElem?_eq_none (by simp;omega)]
  rfl
theorem u5 (n:Nat):Builtin.Range.rangeSize ((n:Int) - 1) (-1) (-1)=n:=by
 unfold Builtin.Range.rangeSize
 rw [if_neg (by decide)]
 by_cases h:(n:Int) - 1 > -1
 ·rw [if_pos h]
  have e:((n:Int) - 1 - -1 - 1) / (- (-1:Int))=(n:Int) - 1:=by
   have e1:(-(-1:Int))=1:=rfl
   rw [e1,Int.ediv_one]
   omega
  rw [e]
  omega
 ·rw [if_neg h]
  omega
theorem K1 {n:Nat} (h:n≤1000):Builtin.Range.small ((n:Int) - 1) (-1) (-1)=true:=by
 unfold Builtin.Range.small
 rw [u5]
 simp only [Builtin.Range.rangeFitsLong,Bool.and_eq_true,Bool.or_eq_true,decide_eq_true_eq,beq_iff_eq]
 simp
 omega
end L2
namespace L2
open PySem PySem.Spec PyProof.Rows
section
variable {P:Program} {w:World} {H:Hp} {h h':Heap} {a:Addr} {o:HO}
theorem ObjOk.there (x:ObjOk P w H h a o):∃u,h.get? a=some u:=by
 cases o with
 |lst xs=>obtain ⟨_,_,_,_,e⟩:=x;exact ⟨_,e⟩
 |tup xs=>obtain ⟨_,_,_,o,e,_⟩:=x;exact ⟨_,e⟩
 |dK kvs=>obtain ⟨_,_,_,_,o,_,_,e,_⟩:=x;exact ⟨_,e⟩
 |dT kvs=>obtain ⟨_,_,_,_,o,_,_,e,_⟩:=x;exact ⟨_,e⟩
 |set S n=>obtain ⟨o,_,_,_,e,_⟩:=x;exact ⟨_,e⟩
 |ins C dx fs=>obtain ⟨_,_,_,e,_⟩:=x;exact ⟨_,e⟩
 |own y=>obtain ⟨_,e⟩:=x;exact ⟨_,e⟩
 |xd fs=>obtain ⟨_,⟨_,_,_,e,_⟩,_⟩:=x;exact ⟨_,e⟩
 |rng lo hi=>obtain ⟨_,_,_,e⟩:=x;exact ⟨_,e⟩
 |frz ob u=>obtain ⟨e,_⟩:=x;exact ⟨_,e⟩
 |tbl ps=>exact ⟨_,(show h.get? a=some _ from x)⟩
 |met f y=>exact ⟨_,(show h.get? a=some _ from x)⟩
 |ext φ=>obtain ⟨_,e,_⟩:=x;exact e
theorem HOk.there (x:HOk P w H h) (e:H a=some o):∃u,h.get? a=some u:=(x a o e).there
theorem HOk.keepT (x:HOk P w H h) (k:∀b u,H b≠none→h.get? b=some u→h'.get? b=some u):HOk P w H h':=fun a o e =>
 (x a o e).stay (fun b u hb q=>k b u (by
  rcases hb with rfl|hb
  ·rw [e];exact fun z=>nomatch z
  ·rw [hb];exact fun z=>nomatch z) q) (fun _ q=>q) fun _ _ q=>q
end
variable {H:Hp}
theorem Un.go {fs ex:List Addr} {H1:Hp} {h0 h h':Heap} (u:Un fs ex H H1 h0 h) (k:∀b o,h.get? b=some o→b∉fs→b∉ex→(∃o',h0.get? b=some o')→h'.get? b=some o)
  (ks:∀b o,h.get? b=some o→b∈fs→(∃o',h0.get? b=some o')→∃sl,h'.get? b=some {o with slots:=sl}):Un fs ex H H1 h0 h' where
 keep:=fun b o q n hb hx=>k b o (u.keep b o q n hb hx) hb hx ⟨o,q⟩
 slot:=fun b o q n hb hx=>by
  obtain ⟨sl,e⟩:=u.slot b o q n hb hx
  obtain ⟨sl',e'⟩:=ks b _ e hb ⟨o,q⟩
  exact ⟨sl',e'⟩
 free:=u.free
 there:=fun b o q hx=>by
  obtain ⟨o',e⟩:=u.there b o q hx
  by_cases hb:b∈fs
  ·obtain ⟨sl,e'⟩:=ks b o' e hb ⟨o,q⟩
   exact ⟨_,e'⟩
  ·exact ⟨o',k b o' e hb hx ⟨o,q⟩⟩
 tups:=u.tups
 frzs:=u.frzs
 tbls:=u.tbls
def DC (fr:List Env) (Z:Addr→Prop) (h:Heap) (a C:Addr):Prop :=
 ∃(B:Heap) (a0:Value),Heap.FlyingW B fr a (.ref C) a0 h∧∀b o,h.get? b=some o→b∉kM fr→Z b→B.get? b=some o
def vF (P:Program) (w:World):vE:=fun outer H s E e s'=>∃(a C:Addr) (H':Hp),e=.ref a∧s'.os=s.os∧AllBare s'.gens∧Un (kM outer) [] H H' s.heap s'.heap∧HOk P w H' s'.heap∧
 DC outer (fun b=>H' b≠none∨∃o',s.heap.get? b=some o') s'.heap a C∧H' a=none∧s.heap.get? a=none∧E (.ref C) none H'
def CA (X:Cx) (R:St→Value→Hp→Prop):Prop:=∀pins σ H s e h' C vs,Inv X pins σ H s→Heap.MadeExcOf s.heap h' e (.ref C) vs→R σ (.ref C) H→X.xe (.ref e) {s with heap:=h'}
def eC (X:Cx) (R:St→Value→Hp→Prop):Prop:=∀pins σ H s e s',Inv X pins σ H s→vF X.prog X.w X.stack H s (fun c _ H'=>R σ c H') e s'→X.xe e s'
theorem nW {P:Program} {w:World} {K:PySem.W.Frag} {mg:Str→Option Value} {base:Heap} {N:List Str} {qual:Str} {scope:Scope} {f:Addr} {cd:Value} {A:Around} {outer:List Env} {s:Shared} {E:XK} :
  CA (vA (vF P w) P w K mg base N qual scope f cd A outer s H E) (fun _ c H'=>E c none H'):=by
 intro pins σ H1 s1 e h' C vs I hx q
 have hin:∀env∈(envOfC qual scope s.heap.objs.size f cd::outer),∀b,env.frame=some b→b∈kM (envOfC qual scope s.heap.objs.size f cd::outer):=fun env he b hb=>List.mem_filterMap.mpr ⟨env,he,hb⟩
 have hst:s1.heap.FunFrames base (envOfC qual scope s.heap.objs.size f cd::outer):=I.stack
 have hfrees:∀b∈kM (envOfC qual scope s.heap.objs.size f cd::outer),H1 b=none:=I.stkFree
 have hfs:kM (envOfC qual scope s.heap.objs.size f cd::outer)=s.heap.objs.size::kM outer:=rfl
 have ub:Un (kM outer) [] H H1 s.heap s1.heap:=I.base
 have hno:s1.heap.get? e=none:=hx.new
 show wpAny (model P w) (A.deeper (envOfC qual scope s.heap.objs.size f cd)) (leaving (envOfC qual scope s.heap.objs.size f cd) (.ref e)) (fun _ s''=>vF P w outer H s E (.ref e) s'') (fun e' s''=>vF P w outer H s E e' s'') {s1 with heap:=h'}
 refine wpAny_leaves_madeW (base:=PySem.W.hideAll s1.heap (kM (envOfC qual scope s.heap.objs.size f cd::outer))) I.ok.frames rfl (fun b o q=>PySem.W.of_hideAll _ q) (PySem.W.funFrames_hide hst hin) hx fun h2 t fl _ _ up=>?_
 dsimp only at up
 have keep:∀b o,s1.heap.get? b=some o→b∉kM (envOfC qual scope s.heap.objs.size f cd::outer)→(PySem.W.hideAll s1.heap (kM (envOfC qual scope s.heap.objs.size f cd::outer))).get? b=some o:=fun b o q n=>PySem.W.hideAll_get _ q n
 have old:∀b,(∃o',s.heap.get? b=some o')→b∉kM outer→b∉kM (envOfC qual scope s.heap.objs.size f cd::outer):=fun b ⟨o',q⟩ n z=>by
  rw [hfs] at z
  rcases List.mem_cons.mp z with z|z
  ·exact absurd (Heap.lt_size q) (by rw [z];exact Nat.lt_irrefl _)
  ·exact n z
 have z9:∀b,H1 b≠none→b∉kM (envOfC qual scope s.heap.objs.size f cd::outer):=fun b hb z=>hb (hfrees b z)
 refine ⟨e,C,H1,rfl,I.os,I.bare,ub.go (fun b o q n _ z=>fl.1 b o (keep b o q (old b z n))) (fun b o q n _=>?_),I.hok.keepT fun b u hb q=>fl.1 b u (keep b u q (z9 b hb)),?_,?_,?_,q⟩
 ·obtain ⟨_,o',ho',hd⟩:=hst.mem (show b∈kM (envOfC qual scope s.heap.objs.size f cd::outer) from by rw [hfs];exact List.mem_cons_of_mem _ n)
  rw [q] at ho';cases ho'
  exact up b o (hx.keeps b o q) hd
 ·refine ⟨_,_,fl,fun b o q n z=>?_⟩
  have hn:b∉kM (envOfC qual scope s.heap.objs.size f cd::outer):=by
   rcases z with z|z
   ·exact z9 b z
   ·exact old b z n
  have h1:∃u,s1.heap.get? b=some u:=by
   rcases z with z|⟨o',z⟩
   ·cases r:H1 b with
    |none=>exact absurd r z
    |some v=>exact I.hok.there r
   ·exact ub.there b o' z (by simp)
  obtain ⟨u,hu⟩:=h1
  have hB:=keep b u hu hn
  have:=fl.1 b u hB
  have q':h2.get? b=some o:=q
  rw [q'] at this
  cases this
  exact hB
 ·cases r:H1 e with
  |none=>rfl
  |some v =>
   obtain ⟨u,hu⟩:=I.hok.there r
   rw [hno] at hu;cases hu
 ·cases r:s.heap.get? e with
  |none=>rfl
  |some v =>
   obtain ⟨u,hu⟩:=ub.there e v r (by simp)
   rw [hno] at hu;cases hu
theorem xI {P:Program} {w:World} {K:PySem.W.Frag} {mg:Str→Option Value} {base:Heap} {N:List Str} {qual:Str} {scope:Scope} {f:Addr} {cd:Value} {A:Around} {outer:List Env} {s:Shared} {E:XK} :
  eC (vA (vF P w) P w K mg base N qual scope f cd A outer s H E) (fun _ c H'=>E c none H'):=by
 intro pins σ H1 s1 e s2 I hx
 obtain ⟨a,C,H2,rfl,os,bare,un,hok,⟨B,a0,fl,ground⟩,ha,hs,q⟩:=hx
 have fl':Heap.FlyingW B (envOfC qual scope s.heap.objs.size f cd::outer) a (.ref C) a0 s2.heap:=fl
 have J:Inv (vA (vF P w) P w K mg base N qual scope f cd A outer s H E) pins σ H2 s2:=I.call' (ch:=[]) os un hok bare fun b z=>absurd z (by simp)
 have ub:Un (kM outer) [] H H2 s.heap s2.heap:=J.base
 have hfs:kM (envOfC qual scope s.heap.objs.size f cd::outer)=s.heap.objs.size::kM outer:=rfl
 have old:∀b,(∃o',s.heap.get? b=some o')→b∉kM outer→b∉kM (envOfC qual scope s.heap.objs.size f cd::outer):=fun b ⟨o',q⟩ n z=>by
  rw [hfs] at z
  rcases List.mem_cons.mp z with z|z
  ·exact absurd (Heap.lt_size q) (by rw [z];exact Nat.lt_irrefl _)
  ·exact n z
 have z9:∀b,H2 b≠none→b∉kM (envOfC qual scope s.heap.objs.size f cd::outer):=fun b hb z=>hb (J.stkFree b z)
 have u1:Un (kM outer) [] H H1 s.heap s1.heap:=I.base
 have in1:∀b,(∃o',s.heap.get? b=some o')→∃o',s1.heap.get? b=some o':=fun b ⟨o',z⟩=>u1.there b o' z (by simp)
 have hst:s2.heap.FunFrames base (envOfC qual scope s.heap.objs.size f cd::outer):=J.stack
 show wpAny (model P w) (A.deeper (envOfC qual scope s.heap.objs.size f cd)) (leaving (envOfC qual scope s.heap.objs.size f cd) (.ref a)) (fun _ s''=>vF P w outer H s E (.ref a) s'') (fun e' s''=>vF P w outer H s E e' s'') s2
 refine wpAny_leaves_onW J.ok.frames rfl fl' fun h3 fl3 up=>?_
 refine ⟨a,C,H2,rfl,J.os,J.bare,ub.go (fun b o q n _ z=>fl3.1 b o (ground b o q (old b z n) (.inr (in1 b z)))) (fun b o q n _=>?_),J.hok.keepT fun b u hb q=>fl3.1 b u (ground b u q (z9 b hb) (.inl hb)),?_,ha,?_,q⟩
 ·obtain ⟨_,o',ho',hd⟩:=hst.mem (show b∈kM (envOfC qual scope s.heap.objs.size f cd::outer) from by rw [hfs];exact List.mem_cons_of_mem _ n)
  rw [q] at ho';cases ho'
  exact up b o q hd
 ·refine ⟨B,a0,fl3,fun b o q n z=>?_⟩
  have hn:b∉kM (envOfC qual scope s.heap.objs.size f cd::outer):=by
   rcases z with z|z
   ·exact z9 b z
   ·exact old b z n
  have h1:∃u,s2.heap.get? b=some u:=by
   rcases z with z|⟨o',z⟩
   ·cases r:H2 b with
    |none=>exact absurd r z
    |some v=>exact J.hok.there r
   ·exact ub.there b o' z (by simp)
  obtain ⟨u,hu⟩:=h1
  have hB:=ground b u hu hn (by
   rcases z with z|z
   ·exact .inl z
   ·exact .inr (in1 b z))
  have:=fl3.1 b u hB
  have q':h3.get? b=some o:=q
  rw [q'] at this
  cases this
  exact hB
 ·cases r:s.heap.get? a with
  |none=>rfl
  |some v =>
   obtain ⟨u,hu⟩:=in1 a ⟨v,r⟩
   rw [hs] at hu;cases hu
end L2
namespace L2
open PySem PySem.Spec PyProof.Rows
theorem AY {K:PySem.W.Frag} {h:Heap} {C:Addr} {bmB:List Value} {newId:String} (X:K.In h) (q:PySem.W.excIn K C bmB newId=true) :
  ∃bm N nm qn bs hdct sn sub ab col dd k0 k1 k2 k3 k5 mN,K.lookup C=some (excClassObj nm qn C N bs bm hdct sn sub ab col dd k0 k1 k2 k3 k5 newId)∧h.get? C=some (excClassObj nm qn C N bs bm hdct sn sub ab col dd k0 k1 k2 k3 k5 newId)∧h.Ns N mN∧mN "__init__"=none∧OwnTail h bmB bm:=by
 unfold PySem.W.excIn at q
 split at q
 ·rename_i dd cd sl ho
  split at q
  ·rename_i C' bm k0 k1 k2 k3 n k5 hm hs
   simp only [Bool.and_eq_true,beq_iff_eq,Bool.not_eq_true'] at q
   obtain ⟨⟨⟨⟨⟨rfl,rfl⟩,hdel⟩,ht⟩,hok⟩,hni⟩:=q
   obtain ⟨nm,bs,mro,ns,qn,hd,sn,sub,ab,col,del⟩:=cd
   dsimp only at hm hdel hok hni
   subst hm hdel
   have hsl:sl = #[k0,k1,k2,k3,some (.builtin n),k5]:=by
    obtain ⟨l⟩:=sl
    simp only at hs
    rw [hs]
   subst hsl
   exact ⟨bm,ns,nm,qn,bs,hd,sn,sub,ab,col,dd,k0,k1,k2,k3,k5,_,ho,X _ _ ho,.of_isNs (PySem.W.isNs_of_in X hok),PySem.W.nsMap_none_of_in X hok hni,PySem.W.tail_of_in X ht⟩
  ·cases q
 ·cases q
abbrev SU:List Value:=[.type "ValueError",.type "Exception",.type "BaseException",.type "object"]
def eI (K:PySem.W.Frag) (C:Addr):Prop:=PySem.W.excIn K C SU "ValueError.__new__"=true
section
variable {X:Cx} {R:St→Value→Hp→Prop} {x:Str} {C:Addr} {np cpos pos p:Pos} {e:Expr} {es:List Expr} {t:TA}
theorem oR (hx:CA X R) (hcalm:X.calm=true) (hg:Gl X x) (hm:X.mg x=some (.ref C)) (hc:eI X.K C) (ha:PA X (e::es) t) (hdb:(x == ("__debug__":Str))=false:=by decide)
  (he:starEach (e::es) X.env=(false,eval e X.env)::starEach es X.env:=by rfl) (hpl:(backTo cpos (starEach es X.env)).any (·.1)=false:=by rfl) :
  PS X (.Raise (some (.Call (.Name x np) (e::es) [] cpos)) none pos) (fun _ σ H=>t σ H fun vs H1=>vs.length≤sizeLine∧R σ (.ref C) H1):=by
 intro pins s σ H D I h
 obtain ⟨tl,N,nm,q,bs,hdct,sn,sub,ab,col,dd,k0,k1,k2,k3,k5,mN,_,hC,hN,hni,T⟩:=AY I.ok.mod.kin hc
 refine wpAny_Raise_call_subT (C:=C) (nm:=nm) (q:=q) (N:=N) (bs:=bs) (bm:=tl) (hdct:=hdct) (sn:=sn) (sub:=sub) (ab:=ab) (col:=col) (dd:=dd) (k0:=k0) (k1:=k1) (k2:=k2) (k3:=k3) (k5:=k5)
  PySem.F.excBase_ValueError (mN:=mN) (T.hasType PySem.F.excBase_ValueError.hasBase) (I.ok.hd hcalm) (by rw [he];show (false||(backTo cpos (starEach es X.env)).any (·.1))=false;rw [hpl];rfl) hni (bD I hg hm ⟨rfl,?_⟩ hdb)
 have h1:=ha cpos pins s σ H _ I h
 rw [he] at h1 ⊢
 refine Calls.evalArgs_plain (wpAny_mono h1 (fun us s2 ⟨vs,H2,I2,r2,hl,q2⟩=>⟨rfl,by rw [← r2.length];exact hl,I2.bk _ _ hC,hN.keeps I2.bk,T.keeps I2.bk,fun h' a hm=>hx pins σ H2 s2 a h' C us I2 hm q2⟩) fun _ _ y=>y)
def O1 (sp:Sp) (dvs:List V) (R:St→Value→Hp→Prop) (t:TA):TE:=fun σ H Q=>t σ H fun vs H1=>sp (vs++dvs) H1 Q (fun c _ H'=>R σ c H')
theorem N0 {k:Nat} {f:Addr} {fd:FuncData} {ps:List Str} {sp:Sp} {dvs:List V} {ds:List Value} {pins:List (Addr×Obj)} {σ:St} {H:Hp} {s:Shared} {Q:VK} {us:List Value} {vs:List V} (F:FnOk X.prog X.w X.K X.mg X.base (vF X.prog X.w) k f fd ps sp) (hr:Room k X.A) (hb:Binds X.K fd ps ds) (hd:Vals dvs ds) (hx:eC X R)
  (I:Inv X pins σ H s) (r:Vals vs us) (h:sp (vs++dvs) H Q (fun c _ H'=>R σ c H')):wpAny (model X.prog X.w) X.A (call (.ref f) us) (EP X pins σ Q) X.xe s:=by
 have r2:Vals (vs++dvs) (us++ds):=r.append hd
 have hl:(us++ds).length=ps.length:=by rw [← r2.length];exact F.len _ _ _ _ h
 refine wpAny_call (codeAny_mono (F.run X.A X.stack s H ⟨us,[]⟩ (us++ds) (vs++dvs) Q _ hr I.env0 (hb s us I.kIn hl) r2 h) fun r s' hq=>?_)
 cases r with
 |error e=>exact hx pins σ H s e s' I hq
 |ok fl =>
  cases fl with
  |ret u=>exact I.after hq
  |next=>exact False.elim hq
  |brk=>exact False.elim hq
  |cont=>exact False.elim hq
end
structure DefX (P:Program) (w:World) (K:PySem.W.Frag) (mg:Str→Option Value) (base:Heap) (k:Nat) (x:Str) (ps:List Str) (dvs:List V) (sp:Sp):Prop where
 ex:∃(f:Addr) (fd:FuncData) (ds:List Value),FnOk P w K mg base (vF P w) k f fd ps sp∧mg x=some (.ref f)∧PySem.W.keepIn K (.ref f)=true∧Vals dvs ds∧Binds K fd ps ds
variable {X:Cx} {R:St→Value→Hp→Prop}
theorem o8 {k k':Nat} {x:Str} {ps:List Str} {dvs:List V} {sp:Sp} {p pos:Pos} {e:Expr} {es:List Expr} {t:TA} (F:DefX X.prog X.w X.K X.mg X.base k x ps dvs sp) (hx:eC X R) (hr:Room k' X.A) (hg:Gl X x) (ha:PA X (e::es) t)
  (hk:k≤k':=by decide) (hdb:(x == ("__debug__":Str))=false:=by decide) (he:starEach (e::es) X.env=(false,eval e X.env)::starEach es X.env:=by rfl) (hpl:(backTo pos (starEach es X.env)).any (·.1)=false:=by rfl) :
  PE X (.Call (.Name x p) (e::es) [] pos) (O1 sp dvs R t):=by
 obtain ⟨f,fd,ds,G,m,kp,hv,b⟩:=F.ex
 intro pins s σ H Q I h
 refine wpAny_Call_Name_kw (bD I hg m ?_ hdb)
 refine PySem.W.callWith_K (h₀:=X.base) I.ok.mod.kin kp (jN (ha pos pins s σ H _ I h) fun us s1 ⟨vs,H1,I1,r,q⟩=>⟨I1.kIn,?_⟩) he hpl
 exact N0 G (hr.mono hk) b hv hx I1 r q
def SB (X:Cx) (pins:List (Addr×Obj)) (a:Addr):Prop:=X.s₀.heap.get? a=none∧a≠X.env.locals∧(∀x c,X.env.cells.lookup x=some c→c≠a)∧∀p∈X.pn++pins,p.1≠a
def Q6 (X:Cx) (pins:List (Addr×Obj)) (R:St→Value→Hp→Prop):Cx:={X with
 pn:=X.pn++pins
 xe:=fun e s'=>∃(a C:Addr) (σ':St) (H':Hp),e=.ref a∧Inv X pins σ' H' s'∧DC X.stack (fun b=>H' b≠none∨(∃o,X.s₀.heap.get? b=some o)∨∃p∈X.pn++pins,p.1=b) s'.heap a C∧H' a=none∧SB X pins a∧R σ' (.ref C) H'}
theorem Cx.Ok.intoTry {pins:List (Addr×Obj)} (ok:X.Ok):(Q6 X pins R).Ok :=
 ⟨ok.mod,ok.kind,ok.glob,ok.blt,ok.above,ok.inj,ok.has,ok.cab,ok.hd,ok.frames,ok.stk,ok.exf,ok.bs,ok.bsz,ok.noex,ok.exfs,ok.funs,ok.frf⟩
theorem Cx.Ok.outTry {pins:List (Addr×Obj)} (ok:(Q6 X pins R).Ok):X.Ok :=
 ⟨ok.mod,ok.kind,ok.glob,ok.blt,ok.above,ok.inj,ok.has,ok.cab,ok.hd,ok.frames,ok.stk,ok.exf,ok.bs,ok.bsz,ok.noex,ok.exfs,ok.funs,ok.frf⟩
section
variable {X:Cx} {pins pins':List (Addr×Obj)} {σ:St} {H:Hp} {s:Shared} {R:St→Value→Hp→Prop}
theorem Inv.intoTry (I:Inv X pins σ H s):Inv (Q6 X pins R) [] σ H s :=
 ⟨I.ok.intoTry,I.os,I.bare,I.base,I.loc,I.cell,I.free,I.freeC,fun p hp=>I.pin p (by have hp':p∈(X.pn++pins)++[]:=hp;rw [List.append_nil] at hp';exact hp'),I.hok,I.len⟩
theorem Inv.outTry (I:Inv (Q6 X pins R) pins' σ H s):Inv X pins σ H s :=
 ⟨I.ok.outTry,I.os,I.bare,I.base,I.loc,I.cell,I.free,I.freeC,fun p hp=>I.pin p (List.mem_append_left _ hp),I.hok,I.len⟩
theorem SP.outTry {D:Ends} {f:Flow} {s':Shared} (h:SP (Q6 X pins R) [] D f s'):SP X pins D f s':=by
 cases f with
 |next=>obtain ⟨σ',H',I,q⟩:=h;exact ⟨σ',H',I.outTry,q⟩
 |brk=>obtain ⟨σ',H',I,q⟩:=h;exact ⟨σ',H',I.outTry,q⟩
 |cont=>obtain ⟨σ',H',I,q⟩:=h;exact ⟨σ',H',I.outTry,q⟩
 |ret u=>obtain ⟨v,σ',H',I,r,q⟩:=h;exact ⟨v,σ',H',I.outTry,r,q⟩
theorem L4 (hex:X.ex=[]):eC (Q6 X pins R) R:=by
 intro pins' σ H1 s1 e s2 I hx
 obtain ⟨a,C,H2,rfl,os,bare,un,hok,⟨B,a0,fl,ground⟩,ha,hs,q⟩:=hx
 have I0:Inv X pins σ H1 s1:=I.outTry
 have J:Inv X pins σ H2 s2:=I0.call' (ch:=[]) os un hok bare fun b z=>absurd z (by simp)
 refine ⟨a,C,σ,H2,rfl,J,⟨B,a0,fl,fun b o q n z=>ground b o q n ?_⟩,ha,⟨?_,fun z=>?_,fun x c e z=>?_,fun p hp z=>?_⟩,q⟩
 ·rcases z with z|⟨o',z⟩|⟨p,hp,rfl⟩
  ·exact .inl z
  ·exact .inr (I0.base.there b o' z (by rw [hex];simp))
  ·exact .inr ⟨_,(I0.pin p hp).1⟩
 ·cases r:X.s₀.heap.get? a with
  |none=>rfl
  |some v =>
   obtain ⟨u,hu⟩:=I0.base.there a v r (by rw [hex];simp)
   rw [hs] at hu;cases hu
 ·obtain ⟨m,⟨o,_,_,ho,_⟩,_⟩:=I0.loc
  rw [← z,hs] at ho;cases ho
 ·obtain ⟨v,o,ho,_⟩:=I0.cell x c e
  rw [z,hs] at ho;cases ho
 ·have ho:=(I0.pin p hp).1
  rw [z,hs] at ho;cases ho
theorem Inv.fly {h':Heap} (I:Inv X pins σ H s) (hstk:X.stack=X.env::X.outer) (hf:X.env.frame=some X.env.locals)
  (k:∀b o,s.heap.get? b=some o→b∉kM X.stack→(H b≠none∨(∃o,X.s₀.heap.get? b=some o)∨∃p∈X.pn++pins,p.1=b)→h'.get? b=some o) (up:s.heap.UpToSlots h'):Inv X pins σ H {s with heap:=h'}:=by
 have hfs:kM X.stack=X.env.locals::X.fs:=by rw [hstk];unfold kM;rw [List.filterMap_cons,hf];rfl
 have cellK:∀c v,s.heap.IsCell c v→h'.IsCell c v:=fun c v ⟨o,ho,hd⟩=>by
  obtain ⟨sl,e⟩:=up c o ho (fun vs q=>by rw [hd] at q;cases q)
  exact ⟨_,e,hd⟩
 have z9:∀b,H b≠none→b∉kM X.stack:=fun b hb z=>hb (I.stkFree b z)
 refine ⟨I.ok,I.os,I.bare,I.base.go (fun b o q n _ z=>k b o q (fun m=>?_) (.inr (.inl z))) (fun b o q n z=>?_),?_,fun x c e=>?_,I.free,I.freeC,fun p hp=>?_,I.hok.keepT fun b u hb q=>k b u q (z9 b hb) (.inl hb),I.len⟩
 ·rw [hfs] at m
  rcases List.mem_cons.mp m with m|m
  ·obtain ⟨o',z⟩:=z
   exact absurd (Nat.lt_of_lt_of_le (Heap.lt_size z) I.ok.above) (by rw [m];exact Nat.lt_irrefl _)
  ·exact n m
 ·obtain ⟨_,o',ho',hd⟩:=I.stack.mem (show b∈kM X.stack from by rw [hfs];exact List.mem_cons_of_mem _ n)
  rw [q] at ho';cases ho'
  exact up b o q hd
 ·obtain ⟨m,hn,hl⟩:=I.loc
  refine ⟨m,up.ns hn,fun i x v h1 h2 h3=>?_⟩
  obtain ⟨u,r,l⟩:=hl i x v h1 h2 h3
  refine ⟨u,r,?_⟩
  rcases l with l|⟨l1,c,l2,l3⟩
  ·exact .inl l
  ·exact .inr ⟨l1,c,l2,cellK c _ l3⟩
 ·obtain ⟨v,q⟩:=I.cell x c e
  exact ⟨v,cellK c v q⟩
 ·obtain ⟨h1,h2,h3,h4,h5⟩:=I.pin p hp
  refine ⟨k p.1 p.2 h1 (fun m=>?_) (.inr (.inr ⟨p,hp,rfl⟩)),h2,h3,h4,h5⟩
  rw [hfs] at m
  rcases List.mem_cons.mp m with m|m
  ·exact h3 m
  ·exact h4 m
end
def gR (X:Cx) (e:Value):Cx:={X with A:=X.A.mark (some e),calm:=false,xe:=fun _ _=>False}
section
variable {X:Cx} {pins:List (Addr×Obj)} {σ:St} {H:Hp} {s:Shared} {e:Value}
theorem Inv.intoSuite (I:Inv X pins σ H s) (e:Value):Inv (gR X e) pins σ H s :=
 ⟨⟨I.ok.mod,I.ok.kind,I.ok.glob,I.ok.blt,I.ok.above,I.ok.inj,I.ok.has,I.ok.cab,fun z=>absurd (show false=true from z) (by decide),I.ok.frames,I.ok.stk,I.ok.exf,I.ok.bs,I.ok.bsz,I.ok.noex,I.ok.exfs,I.ok.funs,I.ok.frf⟩,I.os,I.bare,I.base,I.loc,I.cell,I.free,I.freeC,I.pin,I.hok,I.len⟩
theorem Inv.outSuite (ok:X.Ok) (I:Inv (gR X e) pins σ H s):Inv X pins σ H s:=⟨ok,I.os,I.bare,I.base,I.loc,I.cell,I.free,I.freeC,I.pin,I.hok,I.len⟩
theorem SP.outSuite (ok:X.Ok) {D:Ends} {f:Flow} {s':Shared} (h:SP (gR X e) pins D f s'):SP X pins D f s':=by
 cases f with
 |next=>obtain ⟨σ',H',I,q⟩:=h;exact ⟨σ',H',I.outSuite ok,q⟩
 |brk=>obtain ⟨σ',H',I,q⟩:=h;exact ⟨σ',H',I.outSuite ok,q⟩
 |cont=>obtain ⟨σ',H',I,q⟩:=h;exact ⟨σ',H',I.outSuite ok,q⟩
 |ret u=>obtain ⟨v,σ',H',I,r,q⟩:=h;exact ⟨v,σ',H',I.outSuite ok,r,q⟩
end
def SD (C:Addr) (tb:(St→Value→Hp→Prop)→TS) (ts:TS):TS:=fun D σ H=>∃R:St→Value→Hp→Prop,tb R D σ H∧∀σ' c H',R σ' c H'→c=.ref C∧ts D σ' H'
theorem O6 {body:List Stmt} {x:Str} {C:Addr} {np hpos pos:Pos} {b₀:Stmt} {suite:List Stmt} {tb:(St→Value→Hp→Prop)→TS} {ts:TS} (hex:X.ex=[]) (hstk:X.stack=X.env::X.outer) (hf:X.env.frame=some X.env.locals)
  (hg:Gl X x) (hm:X.mg x=some (.ref C)) (hc:eI X.K C) (hb:∀pins R,eC (Q6 X pins R) R→PSs (Q6 X pins R) body (tb R)) (hs:∀e,PSs (gR X e) (b₀::suite) ts) (hdb:(x == ("__debug__":Str))=false:=by decide) :
  PS X (.Try body [.ExceptHandler (some (.Name x np)) none (b₀::suite) hpos] [] [] pos) (SD C tb ts):=by
 intro pins s σ H D I h
 obtain ⟨R,h1,h2⟩:=h
 refine wpAny_Try_except (wpAny_mono (hb pins R (L4 hex) [] s σ H D I.intoTry h1) (fun f s1 q=>?_) (fun v s1 q=>?_))
 ·have q':=q.outTry
  cases f with
  |next=>exact wpAny_execs_nil q'
  |brk=>exact q'
  |cont=>exact q'
  |ret u=>exact q'
 ·obtain ⟨a,C',σ',H',rfl,J,⟨B,a0,fl,ground⟩,ha,_,r⟩:=q
  obtain ⟨e1,h3⟩:=h2 σ' (.ref C') H' r
  cases e1
  have fl0:Heap.FlyingW B (X.env::X.outer) a (.ref C) a0 s1.heap:=by rw [hstk] at fl;exact fl
  have hfr:X.A.frames=some (X.env::X.outer):=by rw [← hstk];exact J.ok.frames
  refine wpAny_looks_onW hfr hf fl0 fun h4 held4 up4=>?_
  refine wpAny_landsW held4 fun h5 fl5 up5=>?_
  have J5:Inv X pins σ' H' {s1 with heap:=h5}:=J.fly hstk hf (fun b o q n z=>fl5.1 b o (ground b o q n z)) (up4.trans up5)
  obtain ⟨ob,hob,hobc⟩:=fl5.there
  obtain ⟨tl,N,nm,q,bs,hdct,sn,sub,ab,col,dd,k0,k1,k2,k3,k5,mN,_,hC,hN,hni,T⟩:=AY J5.ok.mod.kin hc
  refine wpAny_handleBy_cons (codeAny_handlers_test (bD (J5.intoSuite (.ref a)) hg hm ?_ hdb)) (by intro q;cases q)
  obtain ⟨hh,g,d,tk,os⟩:=s1
  refine wpAny_excMatches_sub_self (J5.bk _ _ hC) hob hobc (T.hasType PySem.F.excBase_ValueError.hasBase) (codeAny_handlers_suite ?_)
  refine lands_againW fl5 fun h6 fl6 up6=>?_
  have J6:Inv X pins σ' H' {heap:=h6,gens:=g,drawn:=d,toks:=tk,os:=os}:=J.fly hstk hf (fun b o q n z=>fl6.1 b o (ground b o q n z)) ((up4.trans up5).trans up6)
  exact wpAny_mono (hs (.ref a) pins _ σ' H' D (J6.intoSuite _) h3) (fun f s' q=>q.outSuite J6.ok) fun _ _ z=>False.elim z
end L2
namespace L2
open PySem PySem.Spec PyProof.Rows
section
variable {P:Program} {w:World} {K:PySem.W.Frag} {mg:Str→Option Value} {base:Heap}
theorem Fun.okX {x qual:Str} {st:Stmt} {f:Addr} {fd:FuncData} {N ps:List Str} {k:Nat} {sp:Sp} (F:Fun K x qual st f fd) (S:FnScope N ps (jG st)) (len:∀vs H Q E,sp vs H Q E→vs.length=ps.length)
  (hbody:∀(cdv:Value) (A:Around) (outer:List Env) (s:Shared) (H:Hp) (vs:List V) (Q:VK) (E:XK),Room k (A.deeper (envOfC qual (jG st) s.heap.objs.size f cdv))→sp vs H Q E→
   ∃t,PSs (vA (vF P w) P w K mg base N qual (jG st) f cdv A outer s H E) (vI st) t∧t {nx:=fun _ H'=>Q .non H',rt:=Q} (start N vs) H):FnOk P w K mg base (vF P w) (k+1) f fd ps sp:=by
 obtain ⟨oc,od,kV,doc,pm,an,cdv,ct,osl,rfl,lk,hcd⟩:=F.ex
 exact rA lk hcd S len fun A outer s H vs Q E hr hsp=>hbody cdv A outer s H vs Q E hr hsp
theorem FnOk.noX {k:Nat} {f:Addr} {fd:FuncData} {ps:List Str} {sp sp':Sp} (F:FnOk P w K mg base (vF P w) k f fd ps sp) (h:∀vs H Q E,sp' vs H Q E→sp vs H Q (fun _ _ _=>False)):FnOk P w K mg base jP k f fd ps sp' :=
 ⟨fun vs H Q E q=>F.len vs H Q _ (h _ _ _ _ q),fun A outer s H args us vs Q E hr he hb hv hs=>codeAny_mono (F.run A outer s H args us vs Q _ hr he hb hv (h _ _ _ _ hs)) fun r s' hq=>by
  cases r with
  |ok fl=>cases fl<;>exact hq
  |error e=>obtain ⟨_,_,_,_,_,_,_,_,_,_,_,z⟩:=hq;exact z⟩
end
section
variable {X:Cx}
end
end L2
namespace L2
open PySem PySem.Spec PyProof.Rows
section
variable {X:Cx} {pins:List (Addr×Obj)} {σ:St} {H:Hp} {s:Shared}
end
end L2
namespace L2
open PySem PySem.Spec PySem.Calls PyProof.Rows PySem.W
section
variable {prog:Program} {w:World} {A:Around} {E:Value→Shared→Prop} {h:Heap} {g:Array GenState} {d:Drawn} {t:Nat} {os:OsState} {a C:Addr} {o:Obj} {K:PySem.W.Frag}
end
section
variable {X:Cx}
end
end L2
namespace L2
open PySem PySem.Spec PyProof.Rows
end L2
namespace L2
open PySem PySem.Spec PyProof.Rows
section
variable {X:Cx} {x:Str} {C:Addr} {pos p:Pos} {e:Expr} {es:List Expr} {t:TA}
end
end L2
namespace L2
open PySem PySem.Spec PyProof.Rows
section
variable {X:Cx}
end
end L2
namespace L2
open PySem PySem.Spec PyProof.Rows
section
variable {X:Cx} {R:St→Value→Hp→Prop} {k k':Nat} {x m:Str} {C:Addr} {ps:List Str} {sp:Sp} {p pos apos:Pos} {o e:Expr} {es:List Expr} {ta:TE} {t:TA}
theorem BX {CX:vE} {P:Program} {w:World} {K:PySem.W.Frag} {mg:Str→Option Value} {base:Heap} {N:List Str} {qual:Str} {scope:Scope} {f:Addr} {cd:Value} {A:Around} {outer:List Env} {s:Shared} {H:Hp} {E:XK} :
  PassesOwn (model (vA CX P w K mg base N qual scope f cd A outer s H E).prog (vA CX P w K mg base N qual scope f cd A outer s H E).w) (vA CX P w K mg base N qual scope f cd A outer s H E).A (vA CX P w K mg base N qual scope f cd A outer s H E).env (vA CX P w K mg base N qual scope f cd A outer s H E).xe:=by
 intro e s' h
 exact PassesOwn.leaving (Q₁:=fun e s''=>CX outer H s E e s'') (E₁:=fun e' s''=>CX outer H s E e' s'') e s' h
end
end L2
namespace L2
open PySem PySem.Spec PyProof.Rows
section
variable {κ:Type} [DecidableEq κ]
def vM (kvs:List (κ×V)) (k:κ):Option V:=(kvs.find? fun kv=>decide (kv.1=k)).map (·.2)
def zD (kvs:List (κ×V)) (k:κ) (v:V):List (κ×V) :=
 if (kvs.any fun kv=>decide (kv.1=k))=true then kvs.map (fun kv=>if kv.1=k then (kv.1,v) else kv) else kvs++[(k,v)]
theorem valV_nil {k:κ}:vM ([]:List (κ×V)) k=none:=rfl
theorem ZP {p:κ×V} {r:List (κ×V)} {k:κ} (e:p.1=k):vM (p::r) k=some p.2:=by simp [vM,List.find?_cons,e]
theorem yP {p:κ×V} {r:List (κ×V)} {k:κ} (e:¬p.1=k):vM (p::r) k=vM r k:=by simp [vM,List.find?_cons,e]
theorem wI (k:κ):∀kvs:List (κ×V),(kvs.any fun kv=>decide (kv.1=k))=(vM kvs k).isSome
 |[]=>rfl
 |p::r=>by
  rw [List.any_cons]
  by_cases e:p.1=k
  ·simp only [ZP e,decide_eq_true e,Bool.true_or,Option.isSome_some]
  ·rw [yP e,decide_eq_false e,Bool.false_or];exact wI k r
theorem IS (kvs:List (κ×V)) (k:κ) (v:V):(zD kvs k v).length≤kvs.length+1:=by
 unfold zD
 split
 ·rw [List.length_map];omega
 ·rw [List.length_append,List.length_cons,List.length_nil];omega
theorem gK {kvs:List (κ×V)} {k:κ} (v:V) (h:vM kvs k=none):zD kvs k v=kvs++[(k,v)]:=by
 unfold zD
 rw [wI,h]
 exact if_neg (by decide)
theorem KV.val {kvs:List (κ×V)} {vs:List (κ×Value)} (r:KV kvs vs) (k:κ):RelO (vM kvs k) (valueAt vs k):=by
 unfold KV at r
 induction r with
 |nil=>exact True.intro
 |@cons p q ps qs h t ih =>
  obtain ⟨h1,h2⟩:=h
  by_cases e:p.1=k
  ·have e':q.1=k:=h1.symm.trans e
   have b:valueAt (q::qs) k=some q.2:=by simp [valueAt,List.find?_cons,e']
   rw [ZP e,b];exact h2
  ·have e':¬q.1=k:=fun z=>e (h1.trans z)
   have b:valueAt (q::qs) k=valueAt qs k:=by simp [valueAt,List.find?_cons,e']
   rw [yP e,b];exact ih
theorem KV.any {kvs:List (κ×V)} {vs:List (κ×Value)} (r:KV kvs vs) (k:κ):(kvs.any fun kv=>decide (kv.1=k))=vs.any fun kv=>decide (kv.1=k):=by
 unfold KV at r
 induction r with
 |nil=>rfl
 |cons h t ih=>rw [List.any_cons,List.any_cons,ih,h.1]
theorem KV.repl {kvs:List (κ×V)} {vs:List (κ×Value)} (r:KV kvs vs) (k:κ) {y:V} {u:Value} (ry:RelV y u) :
  KV (kvs.map fun kv=>if kv.1=k then (kv.1,y) else kv) (vs.map fun kv=>if kv.1=k then (kv.1,u) else kv):=by
 unfold KV at r ⊢
 induction r with
 |nil=>exact .nil
 |@cons p q ps qs h t ih =>
  rw [List.map_cons,List.map_cons]
  refine .cons ?_ ih
  obtain ⟨h1,h2⟩:=h
  by_cases e:p.1=k
  ·rw [if_pos e,if_pos (h1.symm.trans e)];exact ⟨h1,ry⟩
  ·rw [if_neg e,if_neg (fun z=>e (h1.trans z))];exact ⟨h1,h2⟩
theorem KV.put {kvs:List (κ×V)} {vs:List (κ×Value)} (r:KV kvs vs) (k:κ) {y:V} {u:Value} (ry:RelV y u):KV (zD kvs k y) (stored vs k u):=by
 unfold zD stored
 rw [r.any k]
 by_cases e:(vs.any fun kv=>decide (kv.1=k))=true
 ·rw [if_pos e,if_pos e];exact r.repl k ry
 ·rw [if_neg e,if_neg e];exact Paired.snoc r ⟨rfl,ry⟩
end
variable {w:World}
theorem pV {P:Program} {k:kG} {u:Value} (r:RelV (kV k) u):(yS P w).is k u=true:=by
 cases k with
 |inl i=>obtain ⟨t,e⟩:=(show ∃t,u=Value.int i t from r);subst e;exact IP P w i t
 |inr x=>obtain ⟨t,e⟩:=(show ∃t,u=Value.str x t from r);subst e;exact IO P w x t
theorem uV {P:Program} {w:World}:∀{ks:List kG} {us:List Value},Vals (ks.map kV) us→ItemsAre (yS P w) ks us
 |[],_,r=>by rw [List.map_nil] at r;cases r;exact .nil
 |k::ks,_,r=>by
  rw [List.map_cons] at r
  cases r with
  |cons h t=>exact .cons (pV h) (uV t)
abbrev KT (H:Hp):List (List kG×V)→List (List kG×Addr×Value)→Prop:=Paired fun p q=>p.1=q.1∧H q.2.1=some (.tup (p.1.map kV))∧RelV p.2 q.2.2
variable {H:Hp}
theorem KT.val {kvs:List (List kG×V)} {xs:List (List kG×Addr×Value)} (r:KT H kvs xs) (k:List kG):RelO (vM kvs k) ((atKey xs k).map (·.2)):=by
 induction r with
 |nil=>exact True.intro
 |@cons p q ps qs h t ih =>
  obtain ⟨h1,_,h2⟩:=h
  by_cases e:p.1=k
  ·have e':q.1=k:=h1.symm.trans e
   have b:atKey (q::qs) k=some q.2:=by simp [atKey,List.find?_cons,e']
   rw [ZP e,b];exact h2
  ·have e':¬q.1=k:=fun z=>e (h1.trans z)
   have b:atKey (q::qs) k=atKey qs k:=by simp [atKey,List.find?_cons,e']
   rw [yP e,b];exact ih
section
variable {P:Program} {w:World} {H:Hp} {h:Heap} {a:Addr}
theorem CJ {u:HO} (ok:HOk P w H h) (e:Rd H a u):ObjOk P w H h a u:=e.ok ok
theorem rB {kvs:List (kG×V)} (ok:HOk P w H h) (e:Rd H a (.dK kvs)):kvs.length≤sizeLine∧(a == sysModules)=false∧∃vs,KV kvs vs∧h.DictOf (yS P w) a vs :=
 show ObjOk P w H h a (.dK kvs) from CJ ok e
theorem R8 {kvs:List (kG×V)} (ok:HOk P w H h) (e:H a=some (.dK kvs)):kvs.length≤sizeLine∧(a == sysModules)=false∧∃vs,KV kvs vs∧h.DictOf (yS P w) a vs:=rB ok (.inl e)
theorem B0 {ks:List kG} (ok:HOk P w H h) (e:H a=some (.tup (ks.map kV))):(tupleKind (yS P w)).is h ks a:=by
 obtain ⟨_,its,r,o,h1,h2,n,h3⟩:=(show ObjOk P w H h a (.tup (ks.map kV)) from ok a _ e)
 exact ⟨o,its.toArray,n,h1,h2,h3,by simpa using uV r⟩
theorem CN {kvs:List (List kG×V)} (ok:HOk P w H h) (e:Rd H a (.dT kvs)):kvs.length≤sizeLine∧(a == sysModules)=false∧
  ∃xs,KT H kvs xs∧h.DictOfH (tupleKind (yS P w)) a xs:=by
 obtain ⟨z,y,xs,r,o,es,ep,h1,h2,h3,h4,h5⟩:=(show ObjOk P w H h a (.dT kvs) from CJ ok e)
 refine ⟨z,y,xs,r,o,es,ep,h1,h2,h3,h4,fun x hx=>?_,h5⟩
 have all:∀{l:List (List kG×V)} {m:List (List kG×Addr×Value)},KT H l m→∀x∈m,(tupleKind (yS P w)).is h x.1 x.2.1:=by
  intro l m q
  induction q with
  |nil=>intro x hx;exact nomatch hx
  |@cons p q ps qs hq t ih =>
   intro x hx
   rcases List.mem_cons.mp hx with e|hx
   ·subst e
    exact B0 ok (by rw [← hq.1];exact hq.2.1)
   ·exact ih x hx
 exact all r x hx
end
def DGet (H:Hp) (a:Addr) (y:V) (r:Option V):Prop :=
 (∃kvs k,Rd H a (.dK kvs)∧y=kV k∧r=vM kvs k)∨∃kvs k b,Rd H a (.dT kvs)∧y=.ref b∧H b=some (.tup (k.map kV))∧r=vM kvs k
theorem DGet.k {a:Addr} {kvs:List (kG×V)} {k:kG} (e:H a=some (.dK kvs)):DGet H a (kV k) (vM kvs k):=.inl ⟨kvs,k,.inl e,rfl,rfl⟩
section
variable {X:Cx} {pins:List (Addr×Obj)} {σ:St} {H:Hp} {s:Shared} {a:Addr} {y v:V} {u r:Value} {o:Option V} {A:Around} {E:Value→Shared→Prop}
theorem Inv.big (I:Inv X pins σ H s):sysModules<s.heap.objs.size:=by
 have h:mainGlobals<s.heap.objs.size:=(I.mod.glob.keeps I.bk).lt
 exact Nat.lt_trans (by decide) h
theorem MB {Q:Value→Shared→Prop} (hu:A.units+1<cLine) (I:Inv X pins σ H s) (g:DGet H a y (some v)) (ry:RelV y u) (h:∀w' s',Inv X pins σ H s'→RelV v w'→Q w' s') :
  wpAny (model X.prog X.w) A (getItem (.ref a) u) Q E s:=by
 rcases g with ⟨kvs,k,e,ey,l⟩|⟨kvs,k,b,e,ey,eb,l⟩
 ·subst ey
  obtain ⟨z,hd,vs,rel,dd⟩:=rB I.hok e
  obtain ⟨w',hw,rw'⟩:=RelO.some_of (v:=v) (o:=valueAt vs k) (by rw [l];exact rel.val k)
  exact wpAny_getItem_of (pV ry) dd.mapOf hw (h w' _ (I.tok _) rw')
 ·subst ey
  cases (show u=Value.ref b from ry)
  obtain ⟨z,hd,xs,rel,dd⟩:=CN I.hok e
  obtain ⟨w',hw,rw'⟩:=RelO.some_of (v:=v) (o:=(atKey xs k).map (·.2)) (by rw [l];exact rel.val k)
  obtain ⟨p,hp,hp2⟩:=Option.map_eq_some_iff.mp hw
  refine wpAny_getItem_heap (tupleKind_room_in1 hu) (B0 I.hok eb) dd hp ?_
  rw [hp2]
  exact h w' _ (I.tok _) rw'
theorem pE {h':Heap} {t':Nat} {ob:HO} (I:Inv X pins σ H s) (mu:eP (H a)) (hs:Heap.SameBut a s.heap h') (he:∃q,h'.get? a=some q) (new:ObjOk X.prog X.w (upd H a ob) h' a ob) :
  Inv X pins σ (upd H a ob) {s with heap:=h',toks:=t'} :=
 I.write (x:=a) (e:=a) mu (.inl rfl) (fun b q hb z=>(hs.2 b hb).trans z) he new
theorem P4 {P:Program} {w:World} {H':Hp} {h':Heap} {kvs:List (kG×V)} {vs:List (kG×Value)} (z:kvs.length≤sizeLine) (hd:(a == sysModules)=false) (rel:KV kvs vs) (dd:h'.DictOf (yS P w) a vs) :
  ObjOk P w H' h' a (.dK kvs):=⟨z,hd,vs,rel,dd⟩
end
section
variable {X:Cx} {pins:List (Addr×Obj)} {σ:St} {H:Hp} {s:Shared} {a:Addr} {kvs:List (kG×V)} {k:kG} {u:Value} {A:Around} {E:Value→Shared→Prop}
end
def rM (i:Expr):Prop:=∀ov iv,subscripted i false ov iv=operate [ov,iv] (getItem ov iv)
variable {pos:Pos}
theorem xY {prog:Program} {A:Around} {E:Value→Shared→Prop} {s:Shared} {env:Env} {value slice:Expr} {T id:String} {Q:Value→Shared→Prop}
  (hl:typeLookup (.type T) "__getitem__"=pure (some (.builtin id))) (hs:rM slice)
  (h:wpAny (model prog w) A (eval value env) (fun o s₁=>wpAny (model prog w) A (eval slice env) (fun i s₂=>s₂.TypeIs o T∧wpAny (model prog w) A (getItem o i) Q E s₂) E s₁) E s) :
  wpAny (model prog w) A (eval (.Subscript value slice pos) env) Q E s:=by
 refine Subscript_ (wpAny_mono h (fun o s₁ h₁=>wpAny_mono h₁ (fun i s₂ h₂=>?_) fun _ _ x=>x) fun _ _ x=>x)
 obtain ⟨hT,h₂⟩:=h₂
 unfold subscriptTail
 refine wpAny_bind ?_
 rw [getitemInPython_of_ne hT.not_modules]
 refine wpAny_bind (wpAny_specialOf hT hl ?_)
 have fin:wpAny (model prog w) A (subscripted slice false o i) (fun r s₃=>wpAny (model prog w) A (letTemporaryGo value o r >>= fun _=>pure r) Q E s₃) E s₂:=by
  rw [hs o i]
  exact wpAny_operating (wpAny_mono h₂ (fun r s₃ h₃=>wpAny_bind (wpAny_letTemporaryGo (wpAny_pure h₃))) fun _ _ x=>x)
 first
  |exact wpAny_pure (wpAny_bind fin)
  |exact wpAny_bind (wpAny_pure (wpAny_bind fin))
  |exact wpAny_bind fin
variable {X:Cx}
theorem IT {pins:List (Addr×Obj)} {σ:St} {s:Shared} {a:Addr} {y:V} {o:Option V} (I:Inv X pins σ H s) (g:DGet H a y o):s.TypeIs (.ref a) "dict":=by
 rcases g with ⟨kvs,k,e,_,_⟩|⟨kvs,k,b,e,_,_,_⟩
 ·obtain ⟨_,_,vs,_,dd⟩:=rB I.hok e
  exact dd.typeIs
 ·obtain ⟨_,_,xs,_,dd⟩:=CN I.hok e
  exact dd.typeIs
def RE (td ty:TE):TE:=fun σ H Q=>td σ H fun x H1=>ty σ H1 fun y H2=>∃a v,x=.ref a∧DGet H2 a y (some v)∧Q v H2
section
variable {X:Cx} {o i e value:Expr} {pos pos' tpos:Pos} {td ty tv:TE}
theorem AN (hu:X.A.units+1<cLine) (ho:PE X o td) (hi:PE X i ty) (hs:rM i):PE X (.Subscript o i pos) (RE td ty):=by
 intro pins s σ H Q I h
 refine xY PySem.F.slot_dict_getitem.lookup hs (jN (ho pins s σ H _ I h) fun u s1 ⟨x,H1,I1,rx,q1⟩=>jN (hi pins s1 σ H1 _ I1 q1) fun iv s2 ⟨y,H2,I2,ry,a,v,ex,g,q2⟩=>?_)
 subst ex
 obtain rfl:u=Value.ref a:=rx
 exact ⟨IT I2 g,MB hu I2 g ry fun w' s3 I3 rw'=>⟨v,H2,I3,rw',q2⟩⟩
end
theorem NE {P:Program} (h:Heap) (hb:sysModules<h.objs.size):ObjOk P w H (h.push {cls:=.type "dict",data:=.dict #[]}) h.objs.size (.dK []) :=
 ⟨Nat.zero_le _,beq_eq_false_iff_ne.mpr (Ne.symm (Nat.ne_of_lt hb)),[],.nil,Heap.DictOf.new h⟩
section
variable {X:Cx} {pos:Pos}
end
def pI:List (TE×TE)→St→Hp→(List (V×V)→Hp→Prop)→Prop
 |[],_,H,Q=>Q [] H
 | (tk,tv)::r,σ,H,Q=>tk σ H fun x H1=>tv σ H1 fun y H2=>pI r σ H2 fun ps H3=>Q ((x,y)::ps) H3
abbrev VV:List (V×V)→List (Value×Value)→Prop:=Paired fun p q=>RelV p.1 q.1∧RelV p.2 q.2
def i4 (X:Cx) (pos:Pos) (keys:List (Option Expr)) (values:List Expr) (trs:List (TE×TE)):Prop :=
 ∀(pins:List (Addr×Obj)) (s:Shared) (σ:St) (H:Hp) (Q:List (V×V)→Hp→Prop),Inv X pins σ H s→pI trs σ H Q→
  wpAny (model X.prog X.w) X.A (evalPairs (pairTrees keys values X.env pos)) (fun vs s'=>∃ps H',Inv X pins σ H' s'∧VV ps vs∧Q ps H') X.xe s
theorem AI:i4 X pos [] [] []:=fun pins s σ H Q I h=>pairTrees_nil_walk ⟨[],H,I,.nil,h⟩
theorem dH {k v:Expr} {ks:List (Option Expr)} {vs:List Expr} {tk tv:TE} {trs:List (TE×TE)} (hk:PE X k tk) (hv:PE X v tv) (hr:i4 X pos ks vs trs) :
  i4 X pos (some k::ks) (v::vs) ((tk,tv)::trs):=fun pins s σ H Q I h =>
 pairTrees_cons_walk (jN (hk pins s σ H _ I h) fun u s1 ⟨x,H1,I1,rx,q1⟩=>jN (hv pins s1 σ H1 _ I1 q1) fun w2 s2 ⟨y,H2,I2,ry,q2⟩ =>
  jN (hr pins s2 σ H2 _ I2 q2) fun ws s3 ⟨ps,H3,I3,rel,q3⟩=>⟨(x,y)::ps,H3,I3,.cons ⟨rx,ry⟩ rel,q3⟩)
def bK (kvs more:List (kG×V)):List (kG×V):=more.foldl (fun acc kv=>zD acc kv.1 kv.2) kvs
theorem KV.merge:∀{more:List (kG×V)} {rs:List (kG×Value)} {kvs:List (kG×V)} {vs:List (kG×Value)},KV more rs→KV kvs vs→KV (bK kvs more) (merged vs rs):=by
 intro more rs kvs vs r
 unfold KV at r
 induction r generalizing kvs vs with
 |nil=>intro q;exact q
 |@cons p q ps qs h t ih =>
  intro r0
  have e:KV (zD kvs p.1 p.2) (stored vs q.1 q.2):=by
   have:=r0.put p.1 h.2
   rw [← h.1];exact this
  exact ih e
theorem sL:∀(more kvs:List (kG×V)),(bK kvs more).length≤kvs.length+more.length
 |[],kvs=>by show kvs.length≤kvs.length+0;omega
 |p::r,kvs=>by
  have h1:=sL r (zD kvs p.1 p.2)
  have h2:=IS kvs p.1 p.2
  show (bK (zD kvs p.1 p.2) r).length≤_
  rw [List.length_cons];omega
theorem tZ {P:Program} {w:World}:∀{kvs:List (kG×V)} {ws:List (Value×Value)},VV (kvs.map fun kv=>(kV kv.1,kv.2)) ws→∃rs,Carries (yS P w) ws rs∧KV kvs rs
 |[],_,r=>by rw [List.map_nil] at r;cases r;exact ⟨[],True.intro,.nil⟩
 |p::kvs,_,r=>by
  rw [List.map_cons] at r
  cases r with
  |@cons a b as bs h t =>
   obtain ⟨rs,c,q⟩:=tZ (P:=P) (w:=w) t
   obtain ⟨b1,b2⟩:=b
   exact ⟨(p.1,b2)::rs,⟨pV h.1,rfl,c⟩,.cons ⟨rfl,h.2⟩ q⟩
def RD (trs:List (TE×TE)):TE:=fun σ H Q=>∀p,H p=none→pI trs σ (upd H p (.dK [])) fun ps H2=>H2 p=some (.dK [])∧∃kvs:List (kG×V),ps=kvs.map (fun kv=>(kV kv.1,kv.2))∧kvs.length≤15∧Q (.ref p) (upd H2 p (.dK (bK [] kvs)))
theorem N7 {keys:List (Option Expr)} {values:List Expr} {trs:List (TE×TE)} (h:i4 X pos keys values trs) (hall:keys.all (·.isSome)=true) (hl:keys.length=values.length) (h0:keys≠[])
  (h15:keys.length≤15):PE X (.Dict keys values pos) (RD trs):=by
 intro pins s σ H Q I q
 have hn:=I.hok.fresh (Nat.le_refl s.heap.objs.size)
 have I1:=I.laid (a:=s.heap.objs.size) (o:=.dK []) (h':=s.heap.push {cls:=.type "dict",data:=.dict #[]}) (t':=s.toks) (fun _ _ q=>Heap.get?_push_of_some _ q) (Nat.le_refl _) (NE s.heap I.big)
 refine wpAny_Dict_walk (knd:=yS X.prog X.w) hall hl h0 h15 (jN (h pins _ σ _ _ I1 (q _ hn)) fun ws s2 ⟨ps,H2,I2,rel,e,kvs,ep,lk,q2⟩=>?_)
 subst ep
 obtain ⟨rs,c,rk⟩:=tZ (P:=X.prog) (w:=X.w) rel
 obtain ⟨z,hd,vs0,r0,dd⟩:=R8 I2.hok e
 cases r0
 refine ⟨rs,c,dd,fun h' dd' hs=>⟨.ref s.heap.objs.size,_,?_,rfl,q2⟩⟩
 have hz:(bK [] kvs).length≤sizeLine:=by
  have h1:=sL kvs []
  rw [List.length_nil] at h1
  rw [sizeLine_eq];omega
 have he:∃q,h'.get? s.heap.objs.size=some q:=let ⟨q,_,_,hq,_⟩:=dd';⟨q,hq⟩
 exact pE I2 (by rw [e];exact True.intro) hs he (P4 hz hd (rk.merge .nil) dd')
end L2
namespace L2
open PySem PySem.Spec PyProof.Rows
section
variable {X:Cx} {tg:Expr}
end
section
variable {X:Cx}
end
end L2
namespace L2
open PySem PySem.Spec PyProof.Rows
inductive Kd where
 |plain|basin|pump
structure MeK (P:Program) (w:World) (K:PySem.W.Frag) (mg:Str→Option Value) (base:Heap) (k:Nat) (cs:Kd→Addr) (m:Str) (ps:List Str) (ss:Kd→Sp):Prop where
 ex:∀kd,MeD P w K mg base k (cs kd) m ps (ss kd)
def BG (cs:Kd→Addr) (m:Str) (ss:Kd→Sp) (ta:TE) (t:TA):TE:=fun σ H Q=>ta σ H fun x H1=>∃(kd:Kd) (a dx:Addr) (fs:List (Str×V)),x=.ref a∧H1 a=some (.ins (cs kd) dx fs)∧fs.lookup m=none∧
 t σ H1 fun vs H2=>ss kd (x::vs) H2 Q E0
section
variable {X:Cx} {k k':Nat} {x m:Str} {cs:Kd→Addr} {ps:List Str} {ss:Kd→Sp} {p pos apos:Pos} {o e:Expr} {es:List Expr} {ta:TE} {t:TA}
theorem CK {pl:Sem Bool} (M:MeK X.prog X.w X.K X.mg X.base k cs m ps ss) (hr:Room k' X.A) (ho:PE X o ta) (ha:PA X (e::es) t) (hk:k≤k':=by decide)
  (hst:starEach (e::es) X.env=(false,eval e X.env)::starEach es X.env:=by rfl) (hpl:(backTo pos (starEach es X.env)).any (·.1)=false:=by rfl)
  (ht:eval (.Call (.Attribute o m apos) (e::es) [] pos) X.env=(do
   let ov ← eval o X.env
   standAt apos.atName
   let (f,first) ← holding [ov] (getMethod ov m pl)
   callWith pos f first (backTo pos (starEach (e::es) X.env)) (backToKw pos (keywordEach [] X.env))):=by rfl) :
  PE X (.Call (.Attribute o m apos) (e::es) [] pos) (BG cs m ss ta t):=by
 intro pins s σ H Q I h
 refine PySem.W.methodCall_KW (pl:=pl) (jN (ho pins s σ H _ I h) fun u s1 ⟨x,H1,I1,rx,kd,a,dx,fs,ex,ea,l,q⟩=>?_) ht
 obtain ⟨c,f,fd,hm,G,b⟩:=(M.ex kd).ex
 subst ex
 obtain rfl:u=Value.ref a:=rx
 refine fZ I1 ea c hm l ?_
 refine PySem.W.callWith_K (first:=[.ref a]) (h₀:=X.base) I.ok.mod.kin hm.kp (jN (ha pos pins s1 σ H1 _ I1 q) fun us s2 ⟨vs,H2,I2,r,q2⟩=>⟨I2.kIn,?_⟩) hst hpl
 exact bJ (us:=.ref a::us) (vs:=.ref a::vs) (dvs:=[]) G (hr.mono hk) b .nil JF I2 (.cons rfl r) (by rw [List.append_nil];exact q2)
theorem BW {pl:Sem Bool} (M:MeK X.prog X.w X.K X.mg X.base k cs m ps ss) (hr:Room k' X.A) (ho:PE X o ta) (hk:k≤k':=by decide)
  (ht:eval (.Call (.Attribute o m apos) [] [] pos) X.env=(do
   let ov ← eval o X.env
   standAt apos.atName
   let (f,first) ← holding [ov] (getMethod ov m pl)
   callWith pos f first (backTo pos (starEach [] X.env)) (backToKw pos (keywordEach [] X.env))):=by rfl) :
  PE X (.Call (.Attribute o m apos) [] [] pos) (BG cs m ss ta iP):=by
 intro pins s σ H Q I h
 refine PySem.W.methodCall_KW (pl:=pl) (jN (ho pins s σ H _ I h) fun u s1 ⟨x,H1,I1,rx,kd,a,dx,fs,ex,ea,l,q⟩=>?_) ht
 obtain ⟨c,f,fd,hm,G,b⟩:=(M.ex kd).ex
 subst ex
 obtain rfl:u=Value.ref a:=rx
 refine fZ I1 ea c hm l ?_
 exact PySem.W.callWith_K0 (first:=[.ref a]) I1.kIn hm.kp (bJ (us:=[.ref a]) (vs:=[.ref a]) (dvs:=[]) G (hr.mono hk) b .nil JF I1 (.cons rfl .nil) q)
end
end L2
namespace L2
open PySem PySem.Spec PyProof.Rows
section
variable {X:Cx} {tg:Expr}
end
section
variable {X:Cx}
def SQ:V→Option Int→Option Int→Hp→VK→Prop:=fun x lo hi H Q=>∃z:Str,x=.str z∧z.length≤sizeLine∧Q (.str (Txt.slice z lo hi)) H
theorem iD:i3 X SQ:=by
 intro pins s σ H x v vl vu lo hi sl Q I rx hs pl pu h
 obtain ⟨z,rfl,hz,q⟩:=h
 obtain ⟨t,rfl⟩:=rx
 refine ⟨"str",_,F.slot_str_getitem.lookup,typeIs_str _ _ _,?_⟩
 have fin:∀(l u:Option (Int×Tok)),l.map (·.1)=lo→u.map (·.1)=hi→s.heap.IsSlice sl l u none→wpAny (model X.prog X.w) X.A (getItem (.str z t) (.ref sl)) (EP X pins σ Q) X.xe s:=by
  intro l u e1 e2 hsl
  subst e1 e2
  exact wpAny_getItem_str_slice hsl rfl (post_val_or_str ⟨Nat.le_trans (Txt.slice_le z _ _) hz,fun t' k=>⟨.str (Txt.slice z (l.map (·.1)) (u.map (·.1))),H,I.tok _,⟨t',rfl⟩,q⟩⟩)
 obtain ⟨o,ho,hc,hd⟩:=hs
 cases pl with
 |none =>
  cases pu with
  |none=>exact fin none none rfl rfl ⟨o,ho,hc,hd⟩
  |int j tj=>exact fin none (some (j,tj)) rfl rfl ⟨o,ho,hc,hd⟩
 |int i ti =>
  cases pu with
  |none=>exact fin (some (i,ti)) none rfl rfl ⟨o,ho,hc,hd⟩
  |int j tj=>exact fin (some (i,ti)) (some (j,tj)) rfl rfl ⟨o,ho,hc,hd⟩
end
end L2
namespace L2
open PySem PySem.Spec PyProof.Rows
section
variable {X:Cx} {K:PySem.W.Frag} {w:World} {o i:Expr} {pos:Pos} {td ty:TE}
end
end L2
namespace L2
open PySem PySem.Spec PyProof.Rows
section
variable {X:Cx} {pins:List (Addr×Obj)} {σ:St} {H:Hp} {s:Shared} {A:Around}
end
section
variable {X:Cx}
end
end L2
namespace L2
open PySem PySem.Spec PyProof.Rows
end L2
namespace L2
open PySem PySem.Spec PyProof.Rows
end L2
namespace L2
open PySem PySem.Spec PyProof.Rows
theorem bA {X:Cx} (K:PySem.W.Frag) (h:X.K=K:=by rfl):yV X (.type "tuple") (fun xs H Q=>∃p ys,xs=[.ref p]∧((SqL K H p ys∧∀l,H l=none→Q (.ref l) (upd H l (.tup ys)))∨(SqT K H p ys∧Q (.ref p) H))):=by subst h;exact HZ
end L2
namespace L2
open PySem PySem.Spec PyProof.Rows
section
variable {X:Cx}
end
end L2
namespace L2
open PySem PySem.Spec PyProof.Rows
end L2
namespace L2
open PySem PySem.Spec PyProof.Rows
section
variable {X:Cx}
end
end L2
namespace L2
open PySem PySem.Spec PyProof.Rows
end L2
namespace L2
open PySem PySem.Spec PyProof.Rows
section
variable {X:Cx} {tg:Expr}
end
end L2
namespace L2
open PySem PySem.Spec PyProof.Rows
end L2
namespace L2
open PySem PySem.Spec PyProof.Rows
section
variable {X:Cx} {pins:List (Addr×Obj)} {σ:List (Option V)} {H:Hp} {s:Shared} {h':Heap}
theorem Inv.turnedN {t':Nat} {fp:List Addr} (I:Inv X pins σ H s) (k:∀b o,b∉fp→s.heap.get? b=some o→h'.get? b=some o) (hf:∀b∈fp,z3 X pins H b):Inv X pins σ H {s with heap:=h',toks:=t'}:=by
 have nit:∀b u,H b=some u→b∉fp:=fun b u e z=>by rw [(hf b z).1] at e;cases e
 have hL:X.env.locals∉fp:=fun z=>(hf _ z).2.1 rfl
 refine I.step (g':=s.gens) (d':=s.drawn) (ch:=fp) (fun b hb=>?_) (fun b o _ _ hc e _=>k b o hc e) (fun b o _ _ hc e _=>⟨o.slots,k b o hc e⟩) (fun _ _ _ _ n=>n)
  (fun b o hc e=>⟨o,k b o hc e⟩) (fun _ _ e=>e) (fun _ _ _ e=>e) (fun b ps e=>⟨#[],by rw [e];simp⟩) (fun m hm=>?_) (fun b u e=>?_) I.bare
 ·obtain ⟨f0,f1,f2,f3,f4,f5⟩:=hf b hb
  exact ⟨f3,f1,f4,f5⟩
 ·obtain ⟨o,es,ep,ho,r⟩:=hm
  exact ⟨o,es,ep,k _ o hL ho,r⟩
 ·refine (I.hok b u e).stay (fun c v hc q=>k c v ?_ q) (fun _ q=>q) fun _ _ q=>q
  rcases hc with z|z
  ·rw [z];exact nit b u e
  ·exact nit c _ z
theorem Inv.laidN {t':Nat} {fp:List Addr} {a:Addr} {o:HO} (I:Inv X pins σ H s) (k:∀b u,b∉fp→s.heap.get? b=some u→h'.get? b=some u) (hf:∀b∈fp,z3 X pins H b) (hp:s.heap.objs.size≤a) (new:ObjOk X.prog X.w (upd H a o) h' a o) :
  Inv X pins σ (upd H a o) {s with heap:=h',toks:=t'}:=by
 have hn:=I.hok.fresh hp
 have nit:∀b u,H b=some u→b∉fp:=fun b u e z=>by rw [(hf b z).1] at e;cases e
 have hL:X.env.locals∉fp:=fun z=>(hf _ z).2.1 rfl
 refine I.step (g':=s.gens) (d':=s.drawn) (ch:=fp) (fun b hb=>?_) (fun b o _ _ hc e _=>k b o hc e) (fun b o _ _ hc e _=>⟨o.slots,k b o hc e⟩) (fun b u _ e n=>?_)
  (fun b o hc e=>⟨o,k b o hc e⟩) (fun b xs e=>?_) (fun b u v e=>?_) (fun b ps e=>⟨#[],?_⟩) (fun m hm=>?_) (fun b u e=>?_) I.bare
 ·obtain ⟨f0,f1,f2,f3,f4,f5⟩:=hf b hb
  exact ⟨f3,f1,f4,f5⟩
 ·rw [jL (Nat.ne_of_lt (Nat.lt_of_lt_of_le (Heap.lt_size e) hp))];exact n
 ·rw [jL (q8 e hn)];exact e
 ·rw [jL (q8 e hn)];exact e
 ·rw [jL (q8 e hn),e];simp
 ·obtain ⟨o,es,ep,ho,r⟩:=hm
  exact ⟨o,es,ep,k _ o hL ho,r⟩
 ·by_cases hb:b=a
  ·subst hb;rw [jE] at e;cases e;exact new
  ·rw [jL hb] at e
   refine (I.hok b u e).stay (fun c v hc q=>k c v ?_ q) (fun c q=>by rw [jL (q8 q hn)];exact q) fun c xs q=>by rw [jL (q8 q hn)];exact q
   rcases hc with z|z
   ·rw [z];exact nit b u e
   ·exact nit c _ z
end
def rY (K:PySem.W.Frag) (a:Addr):It :=
 ⟨fun i H=>∃xs x,SqL K H a xs∧xs[i]?=some x,
  fun i H v H'=>∃T x,v=.ref T∧H T=none∧H'=upd H T (.tup [.int (i:Int),x])∧∀xs,SqL K H a xs→xs[i]?=some x,
  fun i H=>∃xs,SqL K H a xs∧xs.length≤i⟩
theorem LI {P:Program} {w:World} {K:PySem.W.Frag} {elts:List Expr} {x1:Nat} {pos:Pos} {a e it:Addr} (hei:e≠it) :
  Turn P w K (.Tuple elts x1 pos) (rY K a) [e,it] e (fun i h=>(∃old,IsEnum h e it i old)∧h.IsListIter it a i) where
 mem:=by simp
 obj:=fun i h st b hb=>by
  obtain ⟨⟨old,he⟩,⟨o1,e1,c1,d1⟩⟩:=st
  simp only [List.mem_cons,List.mem_nil_iff,or_false] at hb
  rcases hb with rfl|rfl
  ·exact ⟨_,he,fun v y=>by have y':Data.fields _=Data.cell v:=y;cases y'⟩
  ·exact ⟨o1,e1,fun v y=>by rw [d1] at y;cases y⟩
 keep:=fun i h h' st k=>by
  obtain ⟨⟨old,he⟩,h1⟩:=st
  exact ⟨⟨old,k _ (by simp) _ he⟩,h1.at fun o e=>k _ (by simp) o e⟩
 item:=by
  intro X hP hw hK hc i pins s σ H E I hf st hg
  subst hP hw hK
  obtain ⟨⟨old,he⟩,h1⟩:=st
  obtain ⟨xs,x,hq1,hx⟩:=hg
  obtain ⟨its1,rv1,p1,_⟩:=I.list hq1
  obtain ⟨u,hu,ru⟩:=rv1.get hx
  refine wpAny_pyNext_enum_item he h1 p1.isList (x:=u) (by simpa using hu) hei fun h' he' h1' hT' hsz hk=>?_
  refine ⟨_,rfl,?_⟩
  refine wpAny_letOwnedTupleGo_enum he' fun h2 he2 hs2=>?_
  have lt:∀{b:Addr} {o:Obj},s.heap.get? b=some o→b<s.heap.objs.size:=fun e=>Heap.lt_size e
  have nT:s.heap.objs.size≠e:=Nat.ne_of_gt (lt he)
  have k2:∀b o,b∉[e,it]→s.heap.get? b=some o→h2.get? b=some o:=fun b o hb q=>by
   simp only [List.mem_cons,List.mem_nil_iff,or_false,not_or] at hb
   exact (hs2.2 b hb.1).trans (hk b o hb.1 hb.2 q)
  have hT2:=(hs2.2 _ nT).trans hT'
  refine ⟨.ref s.heap.objs.size,upd H s.heap.objs.size (.tup [.int (i:Int),x]),I.laidN (t':=s.toks+1) (fp:=[e,it]) k2 hf (Nat.le_refl _) ⟨(by show 2≤sizeLine;decide),[.int i s.toks,u],.cons ⟨_,rfl⟩ (.cons ru .nil),⟨_,hT2,rfl,_,rfl⟩⟩,rfl,?_,?_,?_⟩
  ·exact ⟨_,x,rfl,I.hok.fresh (Nat.le_refl _),rfl,fun zs hzs=>by rw [I.list_inj hzs hq1];exact hx⟩
  ·exact ⟨⟨_,he2⟩,h1'.at fun o q=>(hs2.2 _ hei.symm).trans q⟩
  ·intro b hb
   have:=(hf b hb).1
   rw [jL]
   ·exact this
   ·intro q
    simp only [List.mem_cons,List.mem_nil_iff,or_false] at hb
    obtain ⟨o1,e1,_⟩:=h1
    rcases hb with rfl|rfl
    ·exact nT q.symm
    ·exact Nat.ne_of_lt (lt e1) q
 done:=by
  intro X hP hw hK hc i pins s σ H E I hf st hg
  subst hP hw hK
  obtain ⟨⟨old,he⟩,h1⟩:=st
  obtain ⟨xs,hq1,hx⟩:=hg
  obtain ⟨its1,rv1,p1,_⟩:=I.list hq1
  have l1:=rv1.length
  refine wpAny_pyNext_enum_end (I.ok.hd hc) he h1 p1.isList (by simp;omega) fun h' hk=>⟨rfl,I.turnedN (t':=s.toks) (fp:=[e,it]) (fun b o hb q=>?_) hf⟩
  simp only [List.mem_cons,List.mem_nil_iff,or_false,not_or] at hb
  exact hk b o hb.2 q
 self:=fun _ _ _ _ _ st h=>by obtain ⟨⟨old,he⟩,_⟩:=st;exact wpAny_pyIter_enum he h
section
variable {X:Cx} {elts:List Expr} {x1:Nat} {tpos:Pos}
def R4 (K:PySem.W.Frag) (ta:TA):TI:=fun σ H R=>ta σ H fun vs H1=>∃a,vs=[.ref a]∧(∃xs,SqL K H1 a xs)∧R (rY K a) H1
theorem AL {a:Expr} {ta:TA} {p pos:Pos} (hg:Gl X "enumerate") (hm:X.mg "enumerate"=none) (ha:PA X [a] ta) (hs:starEach [a] X.env=[(false,eval a X.env)]:=by rfl) :
  PI X (.Tuple elts x1 tpos) (.Call (.Name "enumerate" p) [a] [] pos) (R4 X.K ta):=by
 intro pins s σ H R I h
 refine Call_ (Q2 I hg hm boot_enumerate (PyProof.Rows.callWith_type1 (jN (ha pos pins s σ H _ I h) fun us s1 ⟨vs,H1,I1,r1,q1⟩=>?_) hs rfl))
 obtain ⟨a1,e,⟨xs,hq1⟩,q⟩:=q1
 subst e
 cases r1 with
 |cons r rr =>
  cases rr
  cases r
  obtain ⟨its1,rv1,p1,_⟩:=I1.list hq1
  refine call_enumerate_list p1.isList fun h' he hit hsz hk=>?_
  refine wpAny_pyIter_enum he ?_
  refine ⟨_,_,_,_,H1,rfl,I1.kept (t':=s1.toks) hk,LI (Nat.succ_ne_self _),⟨⟨_,he⟩,hit⟩,fun b hb=>?_,q⟩
  simp only [List.mem_cons,List.mem_nil_iff,or_false] at hb
  have hb':s1.heap.objs.size≤b:=by rcases hb with rfl|rfl<;>simp only [Addr] at *<;>omega
  exact I1.fpOk hb' (I1.hok.fresh hb')
end
end L2
namespace L2
open PySem PySem.Spec PyProof.Rows
end L2
namespace L2
open PySem PySem.Spec PyProof.Rows
section
variable {X:Cx}
end
end L2
namespace L2
open PySem PySem.Spec PyProof.Rows
section
variable {prog:Program} {w:World} {A:Around} {s:Shared} {E:Value→Shared→Prop}
theorem tM {j p:Addr} {i:Nat} {vs:Array Value} {v:Value} {Q:Value→Shared→Prop} (hj:s.heap.IsTupleIter j p i) (hp:s.heap.IsTuple p vs) (hv:vs[i]?=some v) (q:∀h',h'.IsTupleIter j p (i+1)→Heap.SameBut j s.heap h'→Q v {s with heap:=h'}):wpAny (model prog w) A (Builtin.SmallTypes.nextOf (.ref j)) Q E s:=by
 obtain ⟨oj,ej,cj,dj⟩:=id hj;obtain ⟨op,ep,_,np,dp⟩:=hp;unfold Builtin.SmallTypes.nextOf
 refine wpAny_bind (wpAny_callSpecial?_slot (name:=Str.ofString "__next__") hj.typeIs F.slot_tuple_iterator_next (wpAny_call_entry F.slot_tuple_iterator_next hj.typeIs F.entry_tuple_iterator_next ?_ (F.args_tuple_iterator_next_1 _)))
 show wpAny _ _ (field (.ref j) 0 >>= _) _ _ s
 refine wpAny_bind (wpAny_field ej dj (x:=.ref p) rfl ?_)
 show wpAny _ _ (if (Value.ref p == Value.none)=true then _ else _) _ _ s
 rw [if_neg (show ¬((Value.ref p == Value.none)=true) from Bool.false_ne_true)]
 show wpAny _ _ (field (.ref j) 1 >>= _) _ _ s
 refine wpAny_bind (wpAny_field ej dj (x:=.int i 0) rfl ?_)
 show wpAny _ _ (seqItems? (.ref p) >>= _) _ _ s
 refine wpAny_bind (wpAny_seqItems ep dp ?_)
 simp only [Int.toNat_natCast,hv]
 refine wpAny_bind (wpAny_setField ej dj (by simp) (wpAny_pure ⟨v,rfl,wpAny_pure (q _ ?_ (Heap.SameBut.update ..))⟩))
 exact ⟨_,Heap.get?_update_self _ ej (Obj.isFreed_of_fields (Obj.data_mapFields dj _)),(Obj.cls_mapFields ..).trans cj,by rw [Obj.data_mapFields dj];simp [rawInt]⟩
theorem oB {j p:Addr} {i:Nat} {vs:Array Value} {Q:Value→Shared→Prop} (hh:A.handled=none) (hj:s.heap.IsTupleIter j p i) (hp:s.heap.IsTuple p vs) (hv:vs[i]?=none)
  (q:∀h' e,Heap.ExtBut j s.heap h'→(∃o,h'.get? e=some o∧o.cls=.type "StopIteration")→E (.ref e) {s with heap:=h'}):wpAny (model prog w) A (Builtin.SmallTypes.nextOf (.ref j)) Q E s:=by
 obtain ⟨oj,ej,cj,dj⟩:=id hj;obtain ⟨op,ep,_,np,dp⟩:=hp;unfold Builtin.SmallTypes.nextOf
 refine wpAny_bind (wpAny_callSpecial?_slot (name:=Str.ofString "__next__") hj.typeIs F.slot_tuple_iterator_next (wpAny_call_entry F.slot_tuple_iterator_next hj.typeIs F.entry_tuple_iterator_next ?_ (F.args_tuple_iterator_next_1 _)))
 show wpAny _ _ (field (.ref j) 0 >>= _) _ _ s
 refine wpAny_bind (wpAny_field ej dj (x:=.ref p) rfl ?_)
 show wpAny _ _ (if (Value.ref p == Value.none)=true then _ else _) _ _ s
 rw [if_neg (show ¬((Value.ref p == Value.none)=true) from Bool.false_ne_true)]
 show wpAny _ _ (field (.ref j) 1 >>= _) _ _ s
 refine wpAny_bind (wpAny_field ej dj (x:=.int i 0) rfl ?_)
 show wpAny _ _ (seqItems? (.ref p) >>= _) _ _ s
 refine wpAny_bind (wpAny_seqItems ep dp ?_)
 simp only [Int.toNat_natCast,hv]
 refine wpAny_bind (wpAny_rule (wpAny_bind (wpAny_setField ej dj (by simp) ?_)));refine wpAny_bind ?_
 simp only [newExc,newTuple];refine wpAny_bind (wpAny_newObj_type ?_ (by size_fits))
 refine wpAny_bind (m:=firstArgMember _ _) (wpAny_of_eq (a:=Value.none) (by first|rfl|(simp only [firstArgMember];rfl)) ?_);refine wpAny_newObj_type ?_ (by size_fits)
 simp only [raiseNew];refine wpAny_bind (wpAny_handled ?_);(first|rw [show A.in1.handled=none from hh]|rw [hh])
 refine wpAny_bind (wpAny_pure (wpAny_throw ?_));exact q _ _ (((Heap.SameBut.update ..).extBut.push _).push _) ⟨_,Heap.get?_push_size _ rfl,rfl⟩
theorem LA {z P1 P2 j1 j2 a b:Addr} {k:Nat} {us vs:Array Value} {u v g g':Value} {Q:Value→Shared→Prop} (D:ZipApart z P1 P2 j1 j2 a b)
  (hz:IsZip s.heap z P1 P2 .none) (hP1:IsPair s.heap P1 (.ref j1) (.ref j2)) (hP2:IsPair s.heap P2 g g') (n1:s.heap.IsListIter j1 a k) (n2:s.heap.IsTupleIter j2 b k) (la:s.heap.IsList a us) (tb:s.heap.IsTuple b vs) (hu:us[k]?=some u) (hv:vs[k]?=some v)
  (q:∀h',IsZip h' z P1 P2 (rawInt s.heap.objs.size)→IsPair h' P2 u v→h'.IsListIter j1 a (k+1)→h'.IsTupleIter j2 b (k+1)→IsPair h' s.heap.objs.size u v→(∀c o,c≠z→c≠P2→c≠j1→c≠j2→s.heap.get? c=some o→h'.get? c=some o)→Q (.ref s.heap.objs.size) {s with heap:=h'}):wpAny (model prog w) A (Builtin.«zip.__next__» ⟨[.ref z],[]⟩) (fun fin s'=>∃v,fin=.done (.ret v)∧Q v s') E s:=by
 show wpAny _ _ (field (.ref z) 2 >>= _) _ _ _;refine wpAny_bind (wpAny_field hz rfl (x:=.bool false) rfl ?_);show wpAny _ _ (field (.ref z) 3 >>= _) _ _ _
 refine wpAny_bind (wpAny_field hz rfl (x:=.ref P1) rfl ?_);refine wpAny_bind (wpAny_seqItems hP1 rfl ?_)
 show wpAny _ _ (Builtin.SmallTypes.ownedTupleIsFree (.ref z) >>= _) _ _ _;refine wpAny_bind ?_;unfold Builtin.SmallTypes.ownedTupleIsFree
 refine wpAny_bind (wpAny_field hz rfl (x:=.none) rfl (wpAny_pure ?_));simp only [if_true]
 refine wpAny_bind (wpAny_rule ?_);refine wpAny_bind (wpAny_field hz rfl (x:=.ref P2) rfl ?_)
 refine wpAny_bind (wpAny_setField_rec hz (by simp) fun m1 z1 d1=>?_)
 have z1:IsZip m1 z P1 P2 .ellipsis:=z1
 refine wpAny_bind ?_;simp only [List.zipIdx_cons,List.zipIdx_nil,List.forIn_cons,List.forIn_nil]
 refine wpAny_bind (wpAny_bind (wpAny_onRaise ?_));show wpAny _ _ (Builtin.SmallTypes.nextOf (.ref j1) >>= _) _ _ _
 refine wpAny_bind (wpAny_nextOf_list_item (n1.extBut d1.extBut D.i1z) (la.extBut d1.extBut D.l1z) hu fun m2 n12 d2=>wpAny_pure ?_)
 have p2:IsPair m2 P2 g g':=d2.extBut _ _ D.TOi1 (d1.extBut _ _ D.TOz hP2)
 refine wpAny_bind (wpAny_seqItems p2 rfl ?_);refine wpAny_bind (wpAny_updateSeq_pair p2 fun m3 p3 d3=>?_)
 have p3:IsPair m3 P2 u g':=p3
 refine wpAny_bind (wpAny_letGo (wpAny_pure ?_));refine wpAny_bind (wpAny_bind (wpAny_onRaise ?_));show wpAny _ _ (Builtin.SmallTypes.nextOf (.ref j2) >>= _) _ _ _
 refine wpAny_bind (tM (((n2.extBut d1.extBut D.i2z).extBut d2.extBut D.i12.symm).extBut d3.extBut D.TOi2.symm) (((tb.extBut d1.extBut D.l2z).extBut d2.extBut D.l2i1).extBut d3.extBut D.l2TO) hv fun m4 n24 d4=>wpAny_pure ?_)
 have p4:IsPair m4 P2 u g':=d4.extBut _ _ D.TOi2 p3
 refine wpAny_bind (wpAny_seqItems p4 rfl ?_);refine wpAny_bind (wpAny_updateSeq_pair p4 fun m5 p5 d5=>?_)
 have p5:IsPair m5 P2 u v:=p5
 refine wpAny_bind (wpAny_letGo (wpAny_pure (wpAny_pure ?_)));refine wpAny_bind (wpAny_seqItems p5 rfl ?_);refine wpAny_bind (wpAny_newTuple ?_)
 have sz:m5.objs.size=s.heap.objs.size:=by rw [d5.1,d4.1,d3.1,d2.1,d1.1]
 have z5:IsZip m5 z P1 P2 .ellipsis:=d5.extBut _ _ D.TOz.symm (d4.extBut _ _ D.i2z.symm (d3.extBut _ _ D.TOz.symm (d2.extBut _ _ D.i1z.symm z1)))
 have kk:∀c o,c≠z→c≠P2→c≠j1→c≠j2→s.heap.get? c=some o→m5.get? c=some o:=fun c o e1 e2 e3 e4 e=>d5.extBut _ _ e2 (d4.extBut _ _ e4 (d3.extBut _ _ e2 (d2.extBut _ _ e3 (d1.extBut _ _ e1 e))))
 have n15:m5.IsListIter j1 a (k+1):=((n12.extBut d3.extBut D.TOi1.symm).extBut d4.extBut D.i12).extBut d5.extBut D.TOi1.symm
 have n25:m5.IsTupleIter j2 b (k+1):=n24.extBut d5.extBut D.TOi2.symm
 have zl:z<m5.objs.size:=Heap.lt_size z5
 show wpAny _ _ (Builtin.SmallTypes.ownedTupleHandOut (.ref z) (.ref m5.objs.size) >>= _) _ _ _;refine wpAny_bind ?_;unfold Builtin.SmallTypes.ownedTupleHandOut
 have z6:IsZip (m5.push {cls:=.type "tuple",data:=.seq #[u,v]}) z P1 P2 .ellipsis:=Heap.get?_push_of_some _ z5
 refine wpAny_bind (wpAny_setField_rec z6 (by simp) fun m7 z7 d7=>?_)
 have z7:IsZip m7 z P1 P2 (rawInt m5.objs.size):=z7
 refine wpAny_setField_rec z7 (by simp) fun m8 z8 d8=>?_
 have z8:IsZip m8 z P1 P2 (rawInt m5.objs.size):=z8
 have up:∀c o,c≠z→m5.get? c=some o→m8.get? c=some o:=fun c o e1 e=>d8.extBut _ _ e1 (d7.extBut _ _ e1 (Heap.get?_push_of_some _ e))
 have t8:IsPair m8 m5.objs.size u v:=d8.extBut _ _ (Nat.ne_of_gt zl) (d7.extBut _ _ (Nat.ne_of_gt zl) (Heap.get?_push_size _ rfl))
 rw [sz] at z8 t8
 refine wpAny_pure ⟨_,rfl,?_⟩;show Q (.ref m5.objs.size) _;rw [sz]
 exact q m8 z8 (up _ _ D.TOz p5) (n15.at fun o e=>up _ o D.i1z e) (n25.at fun o e=>up _ o D.i2z e) t8 fun c o e1 e2 e3 e4 e=>up c o e1 (kk c o e1 e2 e3 e4 e)
theorem MJ {z P1 P2 j1 j2 a b:Addr} {k:Nat} {us vs:Array Value} {g g':Value} {Q:Fin→Shared→Prop} (hh:A.handled=none) (D:ZipApart z P1 P2 j1 j2 a b)
  (hz:IsZip s.heap z P1 P2 .none) (hP1:IsPair s.heap P1 (.ref j1) (.ref j2)) (hP2:IsPair s.heap P2 g g') (n1:s.heap.IsListIter j1 a k) (n2:s.heap.IsTupleIter j2 b k) (la:s.heap.IsList a us) (tb:s.heap.IsTuple b vs) (he:us[k]?=none∨vs[k]?=none)
  (q:∀h' e,(∀c o,c≠z→c≠P2→c≠j1→c≠j2→s.heap.get? c=some o→h'.get? c=some o)→(∃o,h'.get? e=some o∧o.cls=.type "StopIteration")→E (.ref e) {s with heap:=h'}):wpAny (model prog w) A (Builtin.«zip.__next__» ⟨[.ref z],[]⟩) Q E s:=by
 show wpAny _ _ (field (.ref z) 2 >>= _) _ _ _;refine wpAny_bind (wpAny_field hz rfl (x:=.bool false) rfl ?_);show wpAny _ _ (field (.ref z) 3 >>= _) _ _ _
 refine wpAny_bind (wpAny_field hz rfl (x:=.ref P1) rfl ?_);refine wpAny_bind (wpAny_seqItems hP1 rfl ?_)
 show wpAny _ _ (Builtin.SmallTypes.ownedTupleIsFree (.ref z) >>= _) _ _ _;refine wpAny_bind ?_;unfold Builtin.SmallTypes.ownedTupleIsFree
 refine wpAny_bind (wpAny_field hz rfl (x:=.none) rfl (wpAny_pure ?_));simp only [if_true]
 refine wpAny_bind (wpAny_rule ?_);refine wpAny_bind (wpAny_field hz rfl (x:=.ref P2) rfl ?_)
 refine wpAny_bind (wpAny_setField_rec hz (by simp) fun m1 z1 d1=>?_)
 have z1:IsZip m1 z P1 P2 .ellipsis:=z1
 refine wpAny_bind ?_;simp only [List.zipIdx_cons,List.zipIdx_nil,List.forIn_cons,List.forIn_nil]
 refine wpAny_bind (wpAny_bind (wpAny_onRaise ?_));show wpAny _ _ (Builtin.SmallTypes.nextOf (.ref j1) >>= _) _ _ _
 cases hu:us[k]? with
 |none =>
  refine wpAny_bind (wpAny_nextOf_list_end hh (n1.extBut d1.extBut D.i1z) (la.extBut d1.extBut D.l1z) hu fun m2 e d2 st=>?_);obtain ⟨oe,ee,ce⟩:=st
  have z2:IsZip m2 z P1 P2 .ellipsis:=d2 _ _ D.i1z.symm z1
  have ne:e≠z:=fun x=>by subst x;rw [z2] at ee;cases ee;simp at ce
  refine wpAny_setField_rec z2 (by simp) fun m3 _ d3=>q m3 e (fun c o e1 _ e3 _ x=>d3.extBut _ _ e1 (d2 _ _ e3 (d1.extBut _ _ e1 x))) ⟨oe,d3.extBut _ _ ne ee,ce⟩
 |some u =>
  have hv:vs[k]?=none:=by rcases he with h|h;rw [hu] at h;cases h;exact h
  refine wpAny_bind (wpAny_nextOf_list_item (n1.extBut d1.extBut D.i1z) (la.extBut d1.extBut D.l1z) hu fun m2 n12 d2=>wpAny_pure ?_)
  have p2:IsPair m2 P2 g g':=d2.extBut _ _ D.TOi1 (d1.extBut _ _ D.TOz hP2)
  refine wpAny_bind (wpAny_seqItems p2 rfl ?_);refine wpAny_bind (wpAny_updateSeq_pair p2 fun m3 p3 d3=>?_)
  refine wpAny_bind (wpAny_letGo (wpAny_pure ?_));refine wpAny_bind (wpAny_bind (wpAny_onRaise ?_));show wpAny _ _ (Builtin.SmallTypes.nextOf (.ref j2) >>= _) _ _ _
  refine wpAny_bind (oB hh (((n2.extBut d1.extBut D.i2z).extBut d2.extBut D.i12.symm).extBut d3.extBut D.TOi2.symm) (((tb.extBut d1.extBut D.l2z).extBut d2.extBut D.l2i1).extBut d3.extBut D.l2TO) hv fun m4 e d4 st=>?_);obtain ⟨oe,ee,ce⟩:=st
  have z4:IsZip m4 z P1 P2 .ellipsis:=d4 _ _ D.i2z.symm (d3.extBut _ _ D.TOz.symm (d2.extBut _ _ D.i1z.symm z1))
  have ne:e≠z:=fun x=>by subst x;rw [z4] at ee;cases ee;simp at ce
  refine wpAny_setField_rec z4 (by simp) fun m5 _ d5=>q m5 e (fun c o e1 e2 e3 e4 x=>d5.extBut _ _ e1 (d4 _ _ e4 (d3.extBut _ _ e2 (d2.extBut _ _ e3 (d1.extBut _ _ e1 x))))) ⟨oe,d5.extBut _ _ ne ee,ce⟩
end
def rO (K:PySem.W.Frag) (a1 a2:Addr):It :=
 ⟨fun i H=>∃xs ys x y,SqL K H a1 xs∧SqT K H a2 ys∧xs[i]?=some x∧ys[i]?=some y,
  fun i H v H'=>∃T x y,v=.ref T∧H T=none∧H'=upd H T (.tup [x,y])∧(∀xs,SqL K H a1 xs→xs[i]?=some x)∧(∀ys,SqT K H a2 ys→ys[i]?=some y),
  fun i H=>∃xs ys,SqL K H a1 xs∧SqT K H a2 ys∧(xs.length≤i∨ys.length≤i)⟩
theorem LG {P:Program} {w:World} {K:PySem.W.Frag} {elts:List Expr} {x1:Nat} {pos:Pos} {a1 a2 z TI TO i1 i2:Addr} (D:ZipApart z TI TO i1 i2 a1 a2) :
  Turn P w K (.Tuple elts x1 pos) (rO K a1 a2) [z,TI,TO,i1,i2] z (fun i h=>IsZip h z TI TO .none∧IsPair h TI (.ref i1) (.ref i2)∧(∃a b,IsPair h TO a b)∧h.IsListIter i1 a1 i∧h.IsTupleIter i2 a2 i) where
 mem:=by simp
 obj:=fun i h st b hb=>by
  obtain ⟨hz,hTI,⟨p,q,hTO⟩,⟨o1,e1,c1,d1⟩,⟨o2,e2,c2,d2⟩⟩:=st
  simp only [List.mem_cons,List.mem_nil_iff,or_false] at hb
  rcases hb with rfl|rfl|rfl|rfl|rfl
  ·exact ⟨_,hz,fun v y=>by have y':Data.fields _=Data.cell v:=y;cases y'⟩
  ·exact ⟨_,hTI,fun v y=>by have y':Data.seq _ _=Data.cell v:=y;cases y'⟩
  ·exact ⟨_,hTO,fun v y=>by have y':Data.seq _ _=Data.cell v:=y;cases y'⟩
  ·exact ⟨o1,e1,fun v y=>by rw [d1] at y;cases y⟩
  ·exact ⟨o2,e2,fun v y=>by rw [d2] at y;cases y⟩
 keep:=fun i h h' st k=>by
  obtain ⟨hz,hTI,⟨p,q,hTO⟩,h1,h2⟩:=st
  exact ⟨k _ (by simp) _ hz,k _ (by simp) _ hTI,⟨p,q,k _ (by simp) _ hTO⟩,h1.at fun o e=>k _ (by simp) o e,h2.at fun o e=>k _ (by simp) o e⟩
 item:=by
  intro X hP hw hK hc i pins s σ H E I hf st hg
  subst hP hw hK
  obtain ⟨hz,hTI,⟨p,q,hTO⟩,h1,h2⟩:=st
  obtain ⟨xs,ys,x,y,hq1,hq2,hx,hy⟩:=hg
  obtain ⟨its1,rv1,p1,_⟩:=I.list hq1
  obtain ⟨its2,rv2,p2,_⟩:=I.tuple hq2
  obtain ⟨u,hu,ru⟩:=rv1.get hx
  obtain ⟨v,hv,rv⟩:=rv2.get hy
  have hTz:s.TypeIs (.ref z) "zip":=⟨_,hz,rfl⟩
  unfold pyNext
  refine wpAny_bind (wpAny_attempt (wpAny_callSpecial?_slot (name:=Str.ofString "__next__") hTz F.slot_zip_next (wpAny_call_entry F.slot_zip_next hTz F.entry_zip_next (LA D hz hTI hTO h1 h2 p1.isList (show s.heap.IsTuple a2 its2.toArray from p2) (u:=u) (v:=v) (by simpa using hu) (by simpa using hv) fun h' hz' hTO' h1' h2' hT' hk=>wpAny_pure ?_) (F.args_zip_next_1 _))))
  refine ⟨_,rfl,?_⟩
  refine wpAny_letOwnedTupleGo_zip hz' fun hp2 hz2 hs2=>?_
  have lt:∀{b:Addr} {o:Obj},s.heap.get? b=some o→b<s.heap.objs.size:=fun e=>Heap.lt_size e
  have nT:s.heap.objs.size≠z:=Nat.ne_of_gt (lt hz)
  have k2:∀b o,b∉[z,TI,TO,i1,i2]→s.heap.get? b=some o→hp2.get? b=some o:=fun b o hb e=>by
   simp only [List.mem_cons,List.mem_nil_iff,or_false,not_or] at hb
   exact (hs2.2 b hb.1).trans (hk b o hb.1 hb.2.2.1 hb.2.2.2.1 hb.2.2.2.2 e)
  have hT2:IsPair hp2 s.heap.objs.size u v:=(hs2.2 _ nT).trans hT'
  refine ⟨.ref s.heap.objs.size,upd H s.heap.objs.size (.tup [x,y]),I.laidN (t':=s.toks) (fp:=[z,TI,TO,i1,i2]) k2 hf (Nat.le_refl _) ⟨(by show 2≤sizeLine;decide),[u,v],.cons ru (.cons rv .nil),⟨_,hT2,rfl,_,rfl⟩⟩,rfl,?_,?_,?_⟩
  ·exact ⟨_,x,y,rfl,I.hok.fresh (Nat.le_refl _),rfl,fun zs hzs=>by rw [I.list_inj hzs hq1];exact hx,fun zs hzs=>by rw [I.tuple_inj hzs hq2];exact hy⟩
  ·refine ⟨hz2,(hs2.2 _ D.TIz).trans (hk _ _ D.TIz D.TITO D.TIi1 D.TIi2 hTI),⟨_,_,(hs2.2 _ D.TOz).trans hTO'⟩,h1'.at fun o e=>(hs2.2 _ D.i1z).trans e,h2'.at fun o e=>(hs2.2 _ D.i2z).trans e⟩
  ·intro b hb
   have:=(hf b hb).1
   rw [jL]
   ·exact this
   ·intro e
    simp only [List.mem_cons,List.mem_nil_iff,or_false] at hb
    obtain ⟨o1,e1,_⟩:=h1
    obtain ⟨o2,e2,_⟩:=h2
    rcases hb with rfl|rfl|rfl|rfl|rfl
    ·exact nT e.symm
    ·exact Nat.ne_of_lt (lt hTI) e
    ·exact Nat.ne_of_lt (lt hTO) e
    ·exact Nat.ne_of_lt (lt e1) e
    ·exact Nat.ne_of_lt (lt e2) e
 done:=by
  intro X hP hw hK hc i pins s σ H E I hf st hg
  subst hP hw hK
  obtain ⟨hz,hTI,⟨p,q,hTO⟩,h1,h2⟩:=st
  obtain ⟨xs,ys,hq1,hq2,he⟩:=hg
  obtain ⟨its1,rv1,p1,_⟩:=I.list hq1
  obtain ⟨its2,rv2,p2,_⟩:=I.tuple hq2
  have l1:=rv1.length
  have l2:=rv2.length
  have hTz:s.TypeIs (.ref z) "zip":=⟨_,hz,rfl⟩
  unfold pyNext
  refine wpAny_bind (wpAny_attempt (wpAny_callSpecial?_slot (name:=Str.ofString "__next__") hTz F.slot_zip_next (wpAny_call_entry F.slot_zip_next hTz F.entry_zip_next (MJ (I.ok.hd hc) D hz hTI hTO h1 h2 p1.isList (show s.heap.IsTuple a2 its2.toArray from p2) (he.imp (fun e=>by simp;omega) (fun e=>by simp;omega)) fun h' e hk ho=>?_) (F.args_zip_next_1 _))))
  obtain ⟨o,ho,hco⟩:=ho
  refine wpAny_bind (wpAny_isInstance (T:="StopIteration") (b:=true) ⟨o,ho,hco⟩ isSubtype_stop (wpAny_pure ⟨rfl,I.turnedN (t':=s.toks) (fp:=[z,TI,TO,i1,i2]) (fun b o hb e=>?_) hf⟩))
  simp only [List.mem_cons,List.mem_nil_iff,or_false,not_or] at hb
  exact hk b o hb.1 hb.2.2.1 hb.2.2.2.1 hb.2.2.2.2 e
 self:=fun _ _ _ _ _ st h=>wpAny_pyIter_zip st.1 h
section
variable {X:Cx} {elts:List Expr} {x1:Nat} {tpos:Pos}
abbrev iW (h:Heap) (a:Addr):Heap:=h.push {cls:=.type "list_iterator",data:=.fields #[.ref a,.int 0 0]}
abbrev iV (h:Heap) (a b:Addr):Heap:=(iW h a).push {cls:=.type "tuple_iterator",data:=.fields #[.ref b,.int 0 0]}
abbrev iU (h:Heap) (a b:Addr):Heap:=(iV h a b).push {cls:=.type "tuple",data:=.seq #[.ref h.objs.size,.ref (iW h a).objs.size]}
abbrev iT (h:Heap) (a b:Addr):Heap:=(iU h a b).push {cls:=.type "tuple",data:=.seq #[.none,.none]}
abbrev cD (h:Heap) (a b:Addr):Heap:=(iT h a b).push {cls:=.type "zip",data:=.fields #[.none,.bool false,.bool false,.ref (iV h a b).objs.size,.ref (iU h a b).objs.size]}
theorem KK (a b:Addr) (us vs:Array Value):Meets (Builtin.«zip.__new__» ⟨[.type "zip",.ref a,.ref b],[]⟩) (fun _ R s=>s.heap.IsList a us∧s.heap.IsTuple b vs∧R (.ok (.ret (.ref (iT s.heap a b).objs.size))) {s with heap:=cD s.heap a b}):=.of_wp fun prog w A R s h=>by
  obtain ⟨hp,g,d,tk,os⟩:=s;obtain ⟨la,tb,h⟩:=h;have hsub:=sub_zip
  have A1:Heap.IsList (Shared.heap ⟨hp,g,d,tk,os⟩) a us:=la
  have A2:Heap.IsTuple (Shared.heap ⟨hp.push {cls:=.type "list_iterator",data:=.fields #[.ref a,.int 0 0]},g,d,tk,os⟩) b vs:=Heap.IsTuple.push tb _
  wp_walk using wpAny_pyIter_list A1,wpAny_pyIter_tuple A2
  exact ⟨_,rfl,h⟩
theorem ME {prog:Program} {w:World} {A:Around} {s:Shared} {E:Value→Shared→Prop} {a b:Addr} {us vs:Array Value} {Q:Value→Shared→Prop} (la:s.heap.IsList a us) (tb:s.heap.IsTuple b vs)
  (q:∀h',IsZip h' (s.heap.objs.size+4) (s.heap.objs.size+2) (s.heap.objs.size+3) .none→IsPair h' (s.heap.objs.size+2) (.ref s.heap.objs.size) (.ref (s.heap.objs.size+1))→IsPair h' (s.heap.objs.size+3) .none .none→h'.IsListIter s.heap.objs.size a 0→h'.IsTupleIter (s.heap.objs.size+1) b 0→(∀c o,s.heap.get? c=some o→h'.get? c=some o)→Q (.ref (s.heap.objs.size+4)) {s with heap:=h'}) :
  wpAny (model prog w) A (call (.type "zip") [.ref a,.ref b]) Q E s:=by
 refine callType_new F.called_zip (by decide) (F.typeCall_zip_2 _ _) (F.newCall_zip_2 _ _) (fun obj=>F.args_object_init_3 obj _ _) F.entry_zip_new (KK a b us vs) ⟨la,tb,?_⟩
 have y1:(iW s.heap a).objs.size=s.heap.objs.size+1:=Heap.size_push ..
 have y2:(iV s.heap a b).objs.size=s.heap.objs.size+2:=by rw [Heap.size_push,y1]
 have y3:(iU s.heap a b).objs.size=s.heap.objs.size+3:=by rw [Heap.size_push,y2]
 have y4:(iT s.heap a b).objs.size=s.heap.objs.size+4:=by rw [Heap.size_push,y3]
 have up:∀{h:Heap} {o:Obj} {c:Addr} {v:Obj},h.get? c=some v→(h.push o).get? c=some v:=fun e=>Heap.get?_push_of_some _ e
 have g5:(cD s.heap a b).get? (iT s.heap a b).objs.size=some _:=Heap.get?_push_size _ rfl
 have g4:(cD s.heap a b).get? (iU s.heap a b).objs.size=some _:=up (Heap.get?_push_size _ rfl)
 have g3:(cD s.heap a b).get? (iV s.heap a b).objs.size=some _:=up (up (Heap.get?_push_size _ rfl))
 have g2:(cD s.heap a b).get? (iW s.heap a).objs.size=some _:=up (up (up (Heap.get?_push_size _ rfl)))
 have g1:(cD s.heap a b).get? s.heap.objs.size=some _:=up (up (up (up (Heap.get?_push_size _ rfl))))
 show _∧_
 rw [y2,y3,y4] at g5;rw [y1,y2] at g3;rw [y3] at g4;rw [y1] at g2;rw [y4]
 exact ⟨⟨_,g5,rfl⟩,q _ g5 g3 g4 ⟨_,g1,rfl,rfl⟩ ⟨_,g2,rfl,rfl⟩ fun c o x=>up (up (up (up (up x))))⟩
def RZ (K:PySem.W.Frag) (ta:TA):TI:=fun σ H R=>ta σ H fun vs H1=>∃a1 a2,vs=[.ref a1,.ref a2]∧(∃xs,SqL K H1 a1 xs)∧(∃ys,SqT K H1 a2 ys)∧R (rO K a1 a2) H1
theorem AK {a b:Expr} {ta:TA} {p pos:Pos} (hg:Gl X "zip") (hm:X.mg "zip"=none) (ha:PA X [a,b] ta) (hs:starEach [a,b] X.env=[(false,eval a X.env),(false,eval b X.env)]:=by rfl) (hs2:starEach [b] X.env=[(false,eval b X.env)]:=by rfl) :
  PI X (.Tuple elts x1 tpos) (.Call (.Name "zip" p) [a,b] [] pos) (RZ X.K ta):=by
 intro pins s σ H R I h
 refine Call_ (Q2 I hg hm boot_zip (PyProof.Rows.callWith_type1 (jN (ha pos pins s σ H _ I h) fun us s1 ⟨vs,H1,I1,r1,q1⟩=>?_) (by rw [hs,hs2]) (by rw [hs2];rfl)))
 obtain ⟨a1,a2,e,⟨xs,hq1⟩,⟨ys,hq2⟩,q⟩:=q1
 subst e
 cases r1 with
 |cons r rr =>
  cases rr with
  |cons r' rr =>
   cases rr
   cases r
   cases r'
   obtain ⟨its1,rv1,p1,_⟩:=I1.list hq1
   obtain ⟨its2,rv2,p2,_⟩:=I1.tuple hq2
   have p2:s1.heap.IsTuple a2 its2.toArray:=p2
   have lt1:a1<s1.heap.objs.size:=by obtain ⟨o,e,_⟩:=p1.isList;exact Heap.lt_size e
   have lt2:a2<s1.heap.objs.size:=by obtain ⟨o,e,_⟩:=p2;exact Heap.lt_size e
   refine ME p1.isList p2 fun h' hz hTI hTO h1 h2 hk=>?_
   refine wpAny_pyIter_zip hz ?_
   have D:ZipApart (s1.heap.objs.size+4) (s1.heap.objs.size+2) (s1.heap.objs.size+3) s1.heap.objs.size (s1.heap.objs.size+1) a1 a2:=by
    constructor<;>(intro e;simp only [Addr] at *;omega)
   refine ⟨_,_,_,_,H1,rfl,I1.kept (t':=s1.toks) hk,LG D,⟨hz,hTI,⟨_,_,hTO⟩,h1,h2⟩,fun b hb=>?_,q⟩
   simp only [List.mem_cons,List.mem_nil_iff,or_false] at hb
   have hb':s1.heap.objs.size≤b:=by rcases hb with rfl|rfl|rfl|rfl|rfl<;>simp only [Addr] at *<;>omega
   exact I1.fpOk hb' (I1.hok.fresh hb')
end
end L2
namespace L2
open PySem PySem.Spec PyProof.Rows
set_option maxRecDepth 100000
section
variable {X:Cx}
def O3:V→List V→Hp→VK→Prop:=fun x vs H Q=>∃(l:Addr) (xs:List V) (y:V),x=.ref l∧vs=[y]∧H l=some (.lst xs)∧QJ y=true∧xs.all QJ=true∧Q (.int ((xs.countP fun z=>J3 z y:Nat):Int)) H
theorem tY {y:V}:∀{xs:List V} {us:List Value},Vals xs us→xs.all QJ=true→us.countP (iZ y)=xs.countP fun z=>J3 z y
 |[],_,r,_=>by cases r;rfl
 |x::xs,_,r,f=>by
  cases r with
  |@cons _ u _ us ru rt =>
   rw [List.all_cons,Bool.and_eq_true] at f
   have ih:=tY (y:=y) rt f.2
   rw [List.countP_cons,List.countP_cons,ih,B5 ru f.1]
theorem M1:DB X "list.count" O3:=by
 intro pins s σ H x vs v us Q I rx rv h
 obtain ⟨l,xs,y,rfl,rfl,hH,fy,fx,q⟩:=h
 cases rx
 obtain ⟨u,rfl,ru⟩:=rv.one
 obtain ⟨z,its,n,r,hl,e⟩:=I.lstM hH
 refine call_meets F.slot_list_count ⟨_,e,rfl⟩ F.entry_list_count (F.args_list_count_2 _ _) (SeqAt.list_countAt l its.toArray n none #[] u (iZ y)) ⟨e,fun w hw=>xD ru fy r fx w (by simpa using hw),?_⟩
 rw [show its.toArray.toList=its from rfl,tY r fx]
 exact ⟨.int ((xs.countP fun z=>J3 z y:Nat):Int),H,I.tok _,⟨_,rfl⟩,q⟩
theorem tD {K:PySem.W.Frag} {a1 a2 D:Addr} {xs ys:List V} {g:TG} {tc:TT} {te:TE} {σ₀:St} {H:Hp} {Q:Hp→Prop} (Pv:Nat→St→Hp→Prop) (h0:Pv 0 σ₀ (upd H D (.lst []))) (hl:∀i σ H,i≤xs.length→Pv i σ H→SqL K H a1 xs∧SqT K H a2 ys) (hn:xs.length=ys.length)
  (hs:∀i x y σ H T,xs[i]?=some x→ys[i]?=some y→Pv i σ H→H T=none→g (.ref T) σ (upd H T (.tup [x,y])) fun σ2 H3=>tc σ2 H3 fun b H4=>if b=true then te σ2 H4 fun v H5=>∃zs,H5 D=some (.lst zs)∧zs.length<sizeLine∧Pv (i+1) σ2 (upd H5 D (.lst (zs++[v]))) else Pv (i+1) σ2 H4)
  (hd:∀σ H,Pv xs.length σ H→Q H):JE D (rO K a1 a2) g tc te σ₀ H Q:=by
 refine ⟨fun i m σ H=>m=xs.length - i∧i≤xs.length∧Pv i σ H,⟨xs.length,by simp,Nat.zero_le _,h0⟩,?_⟩
 rintro i m σ H ⟨rfl,hi,p⟩
 obtain ⟨q1,q2⟩:=hl i σ H hi p
 by_cases hlt:i<xs.length
 ·have hlt2:i<ys.length:=by omega
  refine .inr ⟨⟨xs,ys,_,_,q1,q2,List.getElem?_eq_getElem hlt,List.getElem?_eq_getElem hlt2⟩,Pv (i+1),fun σ' H' p'=>⟨xs.length - (i+1),by omega,rfl,hlt,p'⟩,fun v H' hy=>?_⟩
  obtain ⟨T,x,y,rfl,hT,rfl,e1,e2⟩:=hy
  exact hs i x y σ H T (e1 xs q1) (e2 ys q2) p hT
 ·exact .inl ⟨⟨xs,ys,q1,q2,.inl (by omega)⟩,hd σ H (by rw [show xs.length=i by omega];exact p)⟩
end
end L2
namespace L2
open PySem PySem.Spec PyProof.Rows
section
variable {prog:Program} {w:World} {A:Around} {s:Shared} {E:Value→Shared→Prop}
end
end L2
namespace L2
open PySem PySem.Spec PyProof.Rows
section
variable {X:Cx} {pins:List (Addr×Obj)} {σ:List (Option V)} {H:Hp} {s:Shared} {h':Heap}
end
section
variable {X:Cx}
end
end L2
namespace L2
open PySem PySem.Spec PyProof.Rows
section
variable {prog:Program} {w:World} {A:Around} {s:Shared} {E:Value→Shared→Prop}
end
end L2
namespace L2
open PySem PySem.Spec PyProof.Rows
section
variable {X:Cx} {e se:Expr} {te:TE} {lo hi:Option Expr} {tl th tk:TO} {pos p2:Pos}
end
section
variable {X:Cx}
end
end L2
namespace L2
open PySem PySem.Spec PyProof.Rows
section
theorem tE {K:PySem.W.Frag} {a D:Addr} {xs:List V} {g:TG} {tc:TT} {te:TE} {σ₀:St} {H:Hp} {Q:Hp→Prop} (Pv:Nat→St→Hp→Prop) (h0:Pv 0 σ₀ (upd H D (.lst []))) (hl:∀i σ H,i≤xs.length→Pv i σ H→SqL K H a xs)
  (hs:∀i x σ H T,xs[i]?=some x→Pv i σ H→H T=none→g (.ref T) σ (upd H T (.tup [.int (i:Int),x])) fun σ2 H3=>tc σ2 H3 fun b H4=>if b=true then te σ2 H4 fun v H5=>∃zs,H5 D=some (.lst zs)∧zs.length<sizeLine∧Pv (i+1) σ2 (upd H5 D (.lst (zs++[v]))) else Pv (i+1) σ2 H4)
  (hd:∀σ H,Pv xs.length σ H→Q H):JE D (rY K a) g tc te σ₀ H Q:=by
 refine ⟨fun i m σ H=>m=xs.length - i∧i≤xs.length∧Pv i σ H,⟨xs.length,by simp,Nat.zero_le _,h0⟩,?_⟩
 rintro i m σ H ⟨rfl,hi,p⟩
 have q1:=hl i σ H hi p
 by_cases hlt:i<xs.length
 ·refine .inr ⟨⟨xs,_,q1,List.getElem?_eq_getElem hlt⟩,Pv (i+1),fun σ' H' p'=>⟨xs.length - (i+1),by omega,rfl,hlt,p'⟩,fun v H' hy=>?_⟩
  obtain ⟨T,x,rfl,hT,rfl,e1⟩:=hy
  exact hs i x σ H T (e1 xs q1) p hT
 ·exact .inl ⟨⟨xs,q1,by omega⟩,hd σ H (by rw [show xs.length=i by omega];exact p)⟩
end
end L2
namespace L2
open PySem PySem.Spec PyProof.Rows
section
variable {prog:Program} {w:World} {A:Around} {s:Shared} {E:Value→Shared→Prop}
theorem sR {h h':Heap} {p:Addr} {vs:Array Value} (ht:h.IsTuple p vs) (k:∀o,h.get? p=some o→h'.get? p=some o):h'.IsTuple p vs:=by obtain ⟨o,e,c⟩:=ht;exact ⟨o,k o e,c⟩
theorem MA {it p:Addr} {vs:Array Value} (hh:A.handled=none) (hne:it≠p):Draws prog w A it [it,p] vs.size (fun i x=>vs[i]?=some x) (fun i h=>h.IsTupleIter it p i∧h.IsTuple p vs) where
 live:=fun i h st=>by obtain ⟨⟨o,e,_⟩,_⟩:=st;exact ⟨o,e⟩
 frame:=fun i h h' st k=>⟨st.1.at fun o e=>k _ (by simp) o e,sR st.2 fun o e=>k _ (by simp) o e⟩
 item:=fun i s Q E hi st hQ=>by
  refine tM st.1 st.2 (Array.getElem?_eq_getElem hi) fun h' h1 sb=>?_
  exact hQ _ h' s.toks (Array.getElem?_eq_getElem hi) ⟨h1,sR st.2 fun o e=>(sb.2 _ hne.symm).trans e⟩ sb
 done:=fun s Q E st hE=>oB hh st.1 st.2 (by simp) hE
abbrev iY (h:Heap) (q:Addr):Heap:=h.push {cls:=.type "tuple_iterator",data:=.fields #[.ref q,.int 0 0]}
abbrev rS (h:Heap) (q:Addr):Heap:=(iY h q).push {cls:=.type "enumerate",data:=.fields #[.none,.bool false,.ref h.objs.size,rawInt 0,.none,.none]}
theorem IR (q:Addr) (us:Array Value) (m:Nat) (dd:Option Addr) (ss:Array (Option Value)):Meets (Builtin.«enumerate.__new__» ⟨[.type "enumerate",.ref q],[]⟩) (fun _ R s=>s.heap.get? q=some {cls:=.type "tuple",dict:=dd,data:=.seq us m,slots:=ss}∧R (.ok (.ret (.ref (iY s.heap q).objs.size))) {s with heap:=rS s.heap q}):=.of_wp fun prog w A R s h=>by
 obtain ⟨hp,g,d,tk,os⟩:=s;obtain ⟨hq,h⟩:=h;have hsub:=sub_enumerate
 have B1:Heap.IsTuple (Shared.heap ⟨hp,g,d,tk,os⟩) q us:=⟨_,hq,rfl,m,rfl⟩
 wp_walk using AutoSeq1.wpAny_loadPart' hq
 refine wpAny_stack_any fun st=>wpAny_pure ?_;split
 ·rename_i c _ _ _ _ _;cases (c == Value.type "enumerate")<;>(wp_walk using AutoSeq1.wpAny_loadPart' hq,wpAny_pyIter_tuple B1;exact ⟨_,rfl,h⟩)
 ·wp_walk using AutoSeq1.wpAny_loadPart' hq,wpAny_pyIter_tuple B1;exact ⟨_,rfl,h⟩
theorem K6 {q:Addr} {us:Array Value} {Q:Value→Shared→Prop} (hL:s.heap.IsTuple q us)
  (k:∀h',IsEnum h' (s.heap.objs.size+1) s.heap.objs.size 0 .none→h'.IsTupleIter s.heap.objs.size q 0→(∀b o,s.heap.get? b=some o→h'.get? b=some o)→Q (.ref (s.heap.objs.size+1)) {s with heap:=h'}):wpAny (model prog w) A (call (.type "enumerate") [.ref q]) Q E s:=by
 obtain ⟨⟨c,dd,dt,ss⟩,hq,hc,m,hd⟩:=hL
 have hc:c=.type "tuple":=hc;have hd:dt=.seq us m:=hd;subst hc;subst hd
 refine callType_new F.called_enumerate (by decide) (F.typeCall_enumerate_1 _) (F.newCall_enumerate_1 _) (fun obj=>F.args_object_init_2 obj _) F.entry_enumerate_new (IR q us m dd ss) ⟨hq,?_⟩
 have y1:(iY s.heap q).objs.size=s.heap.objs.size+1:=Heap.size_push ..
 have g2:(rS s.heap q).get? (iY s.heap q).objs.size=some _:=Heap.get?_push_size _ rfl
 have g1:(rS s.heap q).get? s.heap.objs.size=some _:=Heap.get?_push_of_some _ (Heap.get?_push_size _ rfl)
 show _∧_
 rw [y1] at g2 ⊢
 exact ⟨⟨_,g2,rfl⟩,k _ g2 ⟨_,g1,rfl,rfl⟩ fun b o x=>Heap.get?_push_of_some _ (Heap.get?_push_of_some _ x)⟩
end
def rP (K:PySem.W.Frag) (a:Addr):It :=
 ⟨fun i H=>∃xs x,SqT K H a xs∧xs[i]?=some x,
  fun i H v H'=>∃T x,v=.ref T∧H T=none∧H'=upd H T (.tup [.int (i:Int),x])∧∀xs,SqT K H a xs→xs[i]?=some x,
  fun i H=>∃xs,SqT K H a xs∧xs.length≤i⟩
theorem IZ {P:Program} {w:World} {K:PySem.W.Frag} {elts:List Expr} {x1:Nat} {pos:Pos} {a e it:Addr} (hei:e≠it) (hea:e≠a) (hia:it≠a) :
  Turn P w K (.Tuple elts x1 pos) (rP K a) [e,it] e (fun i h=>(∃old,IsEnum h e it i old)∧h.IsTupleIter it a i) where
 mem:=by simp
 obj:=fun i h st b hb=>by
  obtain ⟨⟨old,he⟩,⟨o1,e1,c1,d1⟩⟩:=st
  simp only [List.mem_cons,List.mem_nil_iff,or_false] at hb
  rcases hb with rfl|rfl
  ·exact ⟨_,he,fun v y=>by have y':Data.fields _=Data.cell v:=y;cases y'⟩
  ·exact ⟨o1,e1,fun v y=>by rw [d1] at y;cases y⟩
 keep:=fun i h h' st k=>by
  obtain ⟨⟨old,he⟩,h1⟩:=st
  exact ⟨⟨old,k _ (by simp) _ he⟩,h1.at fun o e=>k _ (by simp) o e⟩
 item:=by
  intro X hP hw hK hc i pins s σ H E I hf st hg
  subst hP hw hK
  obtain ⟨⟨old,he⟩,h1⟩:=st
  obtain ⟨xs,x,hq1,hx⟩:=hg
  obtain ⟨its1,rv1,p1,_⟩:=I.tuple hq1
  have p1:s.heap.IsTuple a its1.toArray:=p1
  obtain ⟨u,hu,ru⟩:=rv1.get hx
  have hlt:i<its1.toArray.size:=by rw [List.size_toArray];exact (List.getElem?_eq_some_iff.mp hu).1
  refine wpAny_pyNext_enum_itemD (MA (A:=X.A.in1) (I.ok.hd hc) hia) he ⟨h1,p1⟩ hlt hei (by simp [hei,hea]) fun u' h' tk hu' he' st' hT' hsz hk=>?_
  have eu:u'=u:=by
   have e1:its1.toArray[i]?=some u':=hu'
   rw [List.getElem?_toArray,hu] at e1
   exact (Option.some.inj e1).symm
  subst eu
  refine ⟨_,rfl,?_⟩
  refine wpAny_letOwnedTupleGo_enum he' fun h2 he2 hs2=>?_
  have lt:∀{b:Addr} {o:Obj},s.heap.get? b=some o→b<s.heap.objs.size:=fun e=>Heap.lt_size e
  have nT:s.heap.objs.size≠e:=Nat.ne_of_gt (lt he)
  have k2:∀b o,b∉[e,it]→s.heap.get? b=some o→h2.get? b=some o:=fun b o hb q=>by
   simp only [List.mem_cons,List.mem_nil_iff,or_false,not_or] at hb
   exact (hs2.2 b hb.1).trans (hk b o hb.1 hb.2 q)
  have hT2:=(hs2.2 _ nT).trans hT'
  refine ⟨.ref s.heap.objs.size,upd H s.heap.objs.size (.tup [.int (i:Int),x]),I.laidN (t':=tk+1) (fp:=[e,it]) k2 hf (Nat.le_refl _) ⟨(by show 2≤sizeLine;decide),[.int i tk,u'],.cons ⟨_,rfl⟩ (.cons ru .nil),⟨_,hT2,rfl,_,rfl⟩⟩,rfl,?_,?_,?_⟩
  ·exact ⟨_,x,rfl,I.hok.fresh (Nat.le_refl _),rfl,fun zs hzs=>by rw [I.tuple_inj hzs hq1];exact hx⟩
  ·exact ⟨⟨_,he2⟩,st'.1.at fun o q=>(hs2.2 _ hei.symm).trans q⟩
  ·intro b hb
   have:=(hf b hb).1
   rw [jL]
   ·exact this
   ·intro q
    simp only [List.mem_cons,List.mem_nil_iff,or_false] at hb
    obtain ⟨o1,e1,_⟩:=h1
    rcases hb with rfl|rfl
    ·exact nT q.symm
    ·exact Nat.ne_of_lt (lt e1) q
 done:=by
  intro X hP hw hK hc i pins s σ H E I hf st hg
  subst hP hw hK
  obtain ⟨⟨old,he⟩,h1⟩:=st
  obtain ⟨xs,hq1,hx⟩:=hg
  obtain ⟨its1,rv1,p1,_⟩:=I.tuple hq1
  have p1:s.heap.IsTuple a its1.toArray:=p1
  have l1:=rv1.length
  unfold pyNext
  refine wpAny_bind (wpAny_attempt (wpAny_callSpecial?_slot (name:=Str.ofString "__next__") ⟨_,he,rfl⟩ F.slot_enumerate_next (wpAny_call_entry F.slot_enumerate_next ⟨_,he,rfl⟩ F.entry_enumerate_next ?_ (F.args_enumerate_next_1 _))))
  show wpAny _ _ (field (.ref e) 2 >>= _) _ _ _
  refine wpAny_bind (wpAny_field he rfl (x:=.ref it) rfl ?_)
  refine wpAny_bind (oB (A:=X.A.in1) (I.ok.hd hc) h1 p1 (by simp;omega) fun h' z hk hz=>?_)
  obtain ⟨oz,ez,cz⟩:=hz
  refine wpAny_bind (wpAny_isInstance (T:="StopIteration") (b:=true) ⟨oz,ez,cz⟩ isSubtype_stop ?_)
  refine wpAny_pure ⟨rfl,I.turnedN (t':=s.toks) (fp:=[e,it]) (fun b o hb q=>?_) hf⟩
  simp only [List.mem_cons,List.mem_nil_iff,or_false,not_or] at hb
  exact hk b o hb.2 q
 self:=fun _ _ _ _ _ st h=>by obtain ⟨⟨old,he⟩,_⟩:=st;exact wpAny_pyIter_enum he h
section
variable {X:Cx} {elts:List Expr} {x1:Nat} {tpos:Pos}
def PV (K:PySem.W.Frag) (ta:TA):TI:=fun σ H R=>ta σ H fun vs H1=>∃a,vs=[.ref a]∧(∃xs,SqT K H1 a xs)∧R (rP K a) H1
theorem MT {a:Expr} {ta:TA} {p pos:Pos} (hg:Gl X "enumerate") (hm:X.mg "enumerate"=none) (ha:PA X [a] ta) (hs:starEach [a] X.env=[(false,eval a X.env)]:=by rfl) :
  PI X (.Tuple elts x1 tpos) (.Call (.Name "enumerate" p) [a] [] pos) (PV X.K ta):=by
 intro pins s σ H R I h
 refine Call_ (Q2 I hg hm boot_enumerate (PyProof.Rows.callWith_type1 (jN (ha pos pins s σ H _ I h) fun us s1 ⟨vs,H1,I1,r1,q1⟩=>?_) hs rfl))
 obtain ⟨a1,e,⟨xs,hq1⟩,q⟩:=q1
 subst e
 cases r1 with
 |cons r rr =>
  cases rr
  cases r
  obtain ⟨its1,rv1,p1,_⟩:=I1.tuple hq1
  have p1:s1.heap.IsTuple a1 its1.toArray:=p1
  have lt1:a1<s1.heap.objs.size:=by obtain ⟨o,e,_⟩:=p1;exact Heap.lt_size e
  refine K6 p1 fun h' he hit hk=>?_
  refine wpAny_pyIter_enum he ?_
  refine ⟨_,_,_,_,H1,rfl,I1.kept (t':=s1.toks) hk,IZ (Nat.succ_ne_self _) (by intro z;simp only [Addr] at *;omega) (by intro z;simp only [Addr] at *;omega),⟨⟨_,he⟩,hit⟩,fun b hb=>?_,q⟩
  simp only [List.mem_cons,List.mem_nil_iff,or_false] at hb
  have hb':s1.heap.objs.size≤b:=by rcases hb with rfl|rfl<;>simp only [Addr] at *<;>omega
  exact I1.fpOk hb' (I1.hok.fresh hb')
theorem IJ {K:PySem.W.Frag} {a D:Addr} {xs:List V} {g:TG} {tc:TT} {te:TE} {σ₀:St} {H:Hp} {Q:Hp→Prop} (Pv:Nat→St→Hp→Prop) (h0:Pv 0 σ₀ (upd H D (.lst []))) (hl:∀i σ H,i≤xs.length→Pv i σ H→SqT K H a xs)
  (hs:∀i x σ H T,xs[i]?=some x→Pv i σ H→H T=none→g (.ref T) σ (upd H T (.tup [.int (i:Int),x])) fun σ2 H3=>tc σ2 H3 fun b H4=>if b=true then te σ2 H4 fun v H5=>∃zs,H5 D=some (.lst zs)∧zs.length<sizeLine∧Pv (i+1) σ2 (upd H5 D (.lst (zs++[v]))) else Pv (i+1) σ2 H4)
  (hd:∀σ H,Pv xs.length σ H→Q H):JE D (rP K a) g tc te σ₀ H Q:=by
 refine ⟨fun i m σ H=>m=xs.length - i∧i≤xs.length∧Pv i σ H,⟨xs.length,by simp,Nat.zero_le _,h0⟩,?_⟩
 rintro i m σ H ⟨rfl,hi,p⟩
 have q1:=hl i σ H hi p
 by_cases hlt:i<xs.length
 ·refine .inr ⟨⟨xs,_,q1,List.getElem?_eq_getElem hlt⟩,Pv (i+1),fun σ' H' p'=>⟨xs.length - (i+1),by omega,rfl,hlt,p'⟩,fun v H' hy=>?_⟩
  obtain ⟨T,x,rfl,hT,rfl,e1⟩:=hy
  exact hs i x σ H T (e1 xs q1) p hT
 ·exact .inl ⟨⟨xs,q1,by omega⟩,hd σ H (by rw [show xs.length=i by omega];exact p)⟩
end
end L2
namespace L2
open PySem PySem.Spec PyProof.Rows
section
variable {X:Cx}
end
end L2
namespace L2
open PySem PySem.Spec PyProof.Rows
variable {K:PySem.W.Frag} {H:Hp} {i:Int} {v:V} {P:V→Prop}
theorem qH {p:Addr} {xs:List V} (h:SqL K H p xs) (t:qT xs i=some v) (q:P v):∃p' xs' i' v',V.ref p=.ref p'∧V.int i=.int i'∧SqL K H p' xs'∧qT xs' i'=some v'∧P v':=⟨p,xs,i,v,rfl,rfl,h,t,q⟩
theorem jR {p:Addr} {xs:List V} (h:SqT K H p xs) (t:qT xs i=some v) (q:P v):∃p' xs' i' v',V.ref p=.ref p'∧V.int i=.int i'∧SqT K H p' xs'∧qT xs' i'=some v'∧P v':=⟨p,xs,i,v,rfl,rfl,h,t,q⟩
theorem j8 {a C dx:Addr} {fs:List (Str×V)} {f:Str} (h:H a=some (.ins C dx fs)) (c:Cls K C) (n:NoAttr K C f) (l:fs.lookup f=some v) (q:P v):∃a' C' dx' fs' v',V.ref a=.ref a'∧H a'=some (.ins C' dx' fs')∧Cls K C'∧NoAttr K C' f∧fs'.lookup f=some v'∧P v':=⟨a,C,dx,fs,v,rfl,h,c,n,l,q⟩
theorem j7 {P:Int→Int→Prop} {j:Int} (h:P i j):∃a b,V.int i=V.int a∧V.int j=V.int b∧P a b:=⟨i,j,rfl,rfl,h⟩
end L2
namespace L2
open PySem PySem.Spec PyProof.Rows
section
variable {X:Cx}
end
end L2
namespace L2
theorem jA {α β:Type} {f:α→β} {b:β} {v:α} {B:α→Prop} (h:b=f v) (q:B v):∃x,b=f x∧B x:=⟨v,h,q⟩
open PySem PySem.Spec PyProof.Rows in
theorem jX {CX:vE} {P:Program} {w:World} {K:PySem.W.Frag} {mg:Str→Option Value} {base:Heap} {N:List Str} {qual:Str} {scope:Scope} {f:Addr} {cd:Value} {A:Around} {outer:List Env} {s:Shared} {H:Hp} {E:XK}:(vA CX P w K mg base N qual scope f cd A outer s H E).K=K:=rfl
open PySem PySem.Spec PyProof.Rows in
theorem jW {CX:vE} {P:Program} {w:World} {K:PySem.W.Frag} {mg:Str→Option Value} {base:Heap} {N:List Str} {qual:Str} {scope:Scope} {f:Addr} {cd:Value} {A:Around} {outer:List Env} {s:Shared} {H:Hp} {E:XK}:(vA CX P w K mg base N qual scope f cd A outer s H E).nox.K=K:=rfl
end L2
namespace L2
variable {α0 α1 α2:Sort _}
theorem vS {P:α0→α1→α2→Prop} (a0:α0) (a1:α1) (a2:α2) (h:P a0 a1 a2):∃a0 a1 a2,P a0 a1 a2:=⟨a0,a1,a2,h⟩
variable {α3:Sort _}
theorem vW {P:α0→α1→α2→α3→Prop} (a0:α0) (a1:α1) (a2:α2) (a3:α3) (h:P a0 a1 a2 a3):∃a0 a1 a2 a3,P a0 a1 a2 a3:=⟨a0,a1,a2,a3,h⟩
variable {α4:Sort _}
theorem zM {P:α0→α1→α2→α3→α4→Prop} (a0:α0) (a1:α1) (a2:α2) (a3:α3) (a4:α4) (h:P a0 a1 a2 a3 a4):∃a0 a1 a2 a3 a4,P a0 a1 a2 a3 a4:=⟨a0,a1,a2,a3,a4,h⟩
variable {α5 α6:Sort _}
theorem TL {P:α0→α1→α2→α3→α4→α5→α6→Prop} (a0:α0) (a1:α1) (a2:α2) (a3:α3) (a4:α4) (a5:α5) (a6:α6) (h:P a0 a1 a2 a3 a4 a5 a6):∃a0 a1 a2 a3 a4 a5 a6,P a0 a1 a2 a3 a4 a5 a6:=⟨a0,a1,a2,a3,a4,a5,a6,h⟩
variable {α7:Sort _}
theorem QO {P:α0→α1→α2→α3→α4→α5→α6→α7→Prop} (a0:α0) (a1:α1) (a2:α2) (a3:α3) (a4:α4) (a5:α5) (a6:α6) (a7:α7) (h:P a0 a1 a2 a3 a4 a5 a6 a7):∃a0 a1 a2 a3 a4 a5 a6 a7,P a0 a1 a2 a3 a4 a5 a6 a7:=⟨a0,a1,a2,a3,a4,a5,a6,a7,h⟩
variable {α8:Sort _}
theorem TK {P:α0→α1→α2→α3→α4→α5→α6→α7→α8→Prop} (a0:α0) (a1:α1) (a2:α2) (a3:α3) (a4:α4) (a5:α5) (a6:α6) (a7:α7) (a8:α8) (h:P a0 a1 a2 a3 a4 a5 a6 a7 a8):∃a0 a1 a2 a3 a4 a5 a6 a7 a8,P a0 a1 a2 a3 a4 a5 a6 a7 a8:=⟨a0,a1,a2,a3,a4,a5,a6,a7,a8,h⟩
variable {α9:Sort _}
theorem eG {P:α0→α1→α2→α3→α4→α5→α6→α7→α8→α9→Prop} (a0:α0) (a1:α1) (a2:α2) (a3:α3) (a4:α4) (a5:α5) (a6:α6) (a7:α7) (a8:α8) (a9:α9) (h:P a0 a1 a2 a3 a4 a5 a6 a7 a8 a9):∃a0 a1 a2 a3 a4 a5 a6 a7 a8 a9,P a0 a1 a2 a3 a4 a5 a6 a7 a8 a9:=⟨a0,a1,a2,a3,a4,a5,a6,a7,a8,a9,h⟩
variable {α10:Sort _}
theorem SZ {P:α0→α1→α2→α3→α4→α5→α6→α7→α8→α9→α10→Prop} (a0:α0) (a1:α1) (a2:α2) (a3:α3) (a4:α4) (a5:α5) (a6:α6) (a7:α7) (a8:α8) (a9:α9) (a10:α10) (h:P a0 a1 a2 a3 a4 a5 a6 a7 a8 a9 a10):∃a0 a1 a2 a3 a4 a5 a6 a7 a8 a9 a10,P a0 a1 a2 a3 a4 a5 a6 a7 a8 a9 a10:=⟨a0,a1,a2,a3,a4,a5,a6,a7,a8,a9,a10,h⟩
variable {α11:Sort _}
theorem C1 {P:α0→α1→α2→α3→α4→α5→α6→α7→α8→α9→α10→α11→Prop} (a0:α0) (a1:α1) (a2:α2) (a3:α3) (a4:α4) (a5:α5) (a6:α6) (a7:α7) (a8:α8) (a9:α9) (a10:α10) (a11:α11) (h:P a0 a1 a2 a3 a4 a5 a6 a7 a8 a9 a10 a11):∃a0 a1 a2 a3 a4 a5 a6 a7 a8 a9 a10 a11,P a0 a1 a2 a3 a4 a5 a6 a7 a8 a9 a10 a11:=⟨a0,a1,a2,a3,a4,a5,a6,a7,a8,a9,a10,a11,h⟩
variable {α12:Sort _}
theorem bW {P:α0→α1→α2→α3→α4→α5→α6→α7→α8→α9→α10→α11→α12→Prop} (a0:α0) (a1:α1) (a2:α2) (a3:α3) (a4:α4) (a5:α5) (a6:α6) (a7:α7) (a8:α8) (a9:α9) (a10:α10) (a11:α11) (a12:α12) (h:P a0 a1 a2 a3 a4 a5 a6 a7 a8 a9 a10 a11 a12):∃a0 a1 a2 a3 a4 a5 a6 a7 a8 a9 a10 a11 a12,P a0 a1 a2 a3 a4 a5 a6 a7 a8 a9 a10 a11 a12:=⟨a0,a1,a2,a3,a4,a5,a6,a7,a8,a9,a10,a11,a12,h⟩
variable {α13:Sort _}
theorem eF {P:α0→α1→α2→α3→α4→α5→α6→α7→α8→α9→α10→α11→α12→α13→Prop} (a0:α0) (a1:α1) (a2:α2) (a3:α3) (a4:α4) (a5:α5) (a6:α6) (a7:α7) (a8:α8) (a9:α9) (a10:α10) (a11:α11) (a12:α12) (a13:α13) (h:P a0 a1 a2 a3 a4 a5 a6 a7 a8 a9 a10 a11 a12 a13):∃a0 a1 a2 a3 a4 a5 a6 a7 a8 a9 a10 a11 a12 a13,P a0 a1 a2 a3 a4 a5 a6 a7 a8 a9 a10 a11 a12 a13:=⟨a0,a1,a2,a3,a4,a5,a6,a7,a8,a9,a10,a11,a12,a13,h⟩
theorem SY {α14:Sort _} {P:α0→α1→α2→α3→α4→α5→α6→α7→α8→α9→α10→α11→α12→α13→α14→Prop} (a0:α0) (a1:α1) (a2:α2) (a3:α3) (a4:α4) (a5:α5) (a6:α6) (a7:α7) (a8:α8) (a9:α9) (a10:α10) (a11:α11) (a12:α12) (a13:α13) (a14:α14) (h:P a0 a1 a2 a3 a4 a5 a6 a7 a8 a9 a10 a11 a12 a13 a14):∃a0 a1 a2 a3 a4 a5 a6 a7 a8 a9 a10 a11 a12 a13 a14,P a0 a1 a2 a3 a4 a5 a6 a7 a8 a9 a10 a11 a12 a13 a14:=⟨a0,a1,a2,a3,a4,a5,a6,a7,a8,a9,a10,a11,a12,a13,a14,h⟩
theorem C0 {α14:Sort _} {α15:Sort _} {P:α0→α1→α2→α3→α4→α5→α6→α7→α8→α9→α10→α11→α12→α13→α14→α15→Prop} (a0:α0) (a1:α1) (a2:α2) (a3:α3) (a4:α4) (a5:α5) (a6:α6) (a7:α7) (a8:α8) (a9:α9) (a10:α10) (a11:α11) (a12:α12) (a13:α13) (a14:α14) (a15:α15) (h:P a0 a1 a2 a3 a4 a5 a6 a7 a8 a9 a10 a11 a12 a13 a14 a15):∃a0 a1 a2 a3 a4 a5 a6 a7 a8 a9 a10 a11 a12 a13 a14 a15,P a0 a1 a2 a3 a4 a5 a6 a7 a8 a9 a10 a11 a12 a13 a14 a15:=⟨a0,a1,a2,a3,a4,a5,a6,a7,a8,a9,a10,a11,a12,a13,a14,a15,h⟩
variable {A0 A1 A2:Prop}
theorem yZ (h0:A0) (h1:A1) (h2:A2):A0∧A1∧A2:=⟨h0,h1,h2⟩
variable {A3:Prop}
theorem v8 (h0:A0) (h1:A1) (h2:A2) (h3:A3):A0∧A1∧A2∧A3:=⟨h0,h1,h2,h3⟩
variable {A4:Prop}
theorem yI (h0:A0) (h1:A1) (h2:A2) (h3:A3) (h4:A4):A0∧A1∧A2∧A3∧A4:=⟨h0,h1,h2,h3,h4⟩
variable {A5:Prop}
theorem yY (h0:A0) (h1:A1) (h2:A2) (h3:A3) (h4:A4) (h5:A5):A0∧A1∧A2∧A3∧A4∧A5:=⟨h0,h1,h2,h3,h4,h5⟩
variable {A6:Prop}
theorem Z5 (h0:A0) (h1:A1) (h2:A2) (h3:A3) (h4:A4) (h5:A5) (h6:A6):A0∧A1∧A2∧A3∧A4∧A5∧A6:=⟨h0,h1,h2,h3,h4,h5,h6⟩
variable {A7:Prop}
theorem ZF (h0:A0) (h1:A1) (h2:A2) (h3:A3) (h4:A4) (h5:A5) (h6:A6) (h7:A7):A0∧A1∧A2∧A3∧A4∧A5∧A6∧A7:=⟨h0,h1,h2,h3,h4,h5,h6,h7⟩
variable {A8:Prop}
theorem rV (h0:A0) (h1:A1) (h2:A2) (h3:A3) (h4:A4) (h5:A5) (h6:A6) (h7:A7) (h8:A8):A0∧A1∧A2∧A3∧A4∧A5∧A6∧A7∧A8:=⟨h0,h1,h2,h3,h4,h5,h6,h7,h8⟩
theorem S1 {A9:Prop} (h0:A0) (h1:A1) (h2:A2) (h3:A3) (h4:A4) (h5:A5) (h6:A6) (h7:A7) (h8:A8) (h9:A9):A0∧A1∧A2∧A3∧A4∧A5∧A6∧A7∧A8∧A9:=⟨h0,h1,h2,h3,h4,h5,h6,h7,h8,h9⟩
theorem S0 {A9 A10:Prop} (h0:A0) (h1:A1) (h2:A2) (h3:A3) (h4:A4) (h5:A5) (h6:A6) (h7:A7) (h8:A8) (h9:A9) (h10:A10):A0∧A1∧A2∧A3∧A4∧A5∧A6∧A7∧A8∧A9∧A10:=⟨h0,h1,h2,h3,h4,h5,h6,h7,h8,h9,h10⟩
end L2
namespace L2
open PySem PySem.Spec PyProof.Rows
section
variable {X:Cx}
end
end L2
namespace L2
open PySem PySem.Spec PyProof.Rows
end L2
namespace L2
open PySem PySem.Spec PyProof.Rows
end L2
namespace L2
open PySem PySem.Spec PyProof.Rows
section
variable {prog:Program} {w:World} {A:Around} {E:Value→Shared→Prop} {s:Shared}
end
section
variable {X:Cx}
end
end L2
namespace L2
open PySem PySem.Spec PyProof.Rows
section
variable {X:Cx} {pins:List (Addr×Obj)} {σ:St} {H:Hp} {s:Shared} {a:Addr} {y d:V} {u r:Value} {o:Option V} {A:Around} {E:Value→Shared→Prop}
end
section
variable {X:Cx} {o e f:Expr} {apos cpos:Pos} {td ty tx:TE}
end
end L2
namespace L2
open PySem PySem.Spec PyProof.Rows
end L2
namespace L2
open PySem PySem.Spec PyProof.Rows
section
variable {M:Model} {A:Around} {E:Value→Shared→Prop} {s:Shared}
end
def rC (X:Cx) (N:List Str) (scope:Scope) (C:Addr) (s:Shared) (H:Hp) (pins:List (Addr×Obj)) (fp:List Addr) (RX:Value→Hp→Prop):Value→Shared→Prop:=fun e s'=>∃pins₁ σ₁ H₁ s₁,Inv (vP X N scope C s H pins fp) pins₁ σ₁ H₁ s₁∧vF X.prog X.w X.stack H₁ s₁ (fun c _ H'=>RX c H') e s'
section
variable {P:Program} {w:World} {K:PySem.W.Frag} {mg:Str→Option Value} {base:Heap} {N:List Str} {qual:Str} {scope:Scope} {f:Addr} {cd:Value} {A:Around} {outer:List Env} {s:Shared} {H:Hp} {E:XK}
end
theorem K4 {prog:Program} {w:World} {A:Around} {elt target iter:Expr} {ifs:List Expr} {scope:Scope} {pos:Pos} {it acc:Value} {env:Env} {R:Result→Shared→Prop} {s:Shared} (I:Nat→Shared→Prop)
  (turn:∀n s,I n s→wpAny (model prog w) A (pyNext it) (fun r s₁=>match r with
   |none=>R (.ok .next) s₁
   |some v=>wpAny (model prog w) A (letOwnedTupleGo target it v) (fun _ s₁'=>wpAny (model prog w) A (assign target env v) (fun _ s₂ =>
     wpAny (model prog w) A (forIn ifs true fun c r=>if r=true then do let ok ← isTrue c env (eval c env);pure (ForInStep.yield ok) else pure (ForInStep.yield r)) (fun ok s₃ =>
      if ok=true then wpAny (model prog w) A (eval elt env) (fun x s₄ =>
       wpAny (model prog w) A (call (.builtin "list.append") [acc,x]) (fun _ s₅=>∃m,m<n∧I m s₅) (fun _ _=>False) s₄) (notedBy (model prog w) A env fun e s'=>R (.error e) s') s₃
      else ∃m,m<n∧I m s₃) (fun _ _=>False) s₂) (fun _ _=>False) s₁') (fun _ _=>False) s₁) (fun _ _=>False) s)
  (n:Nat) (h:I n s):codeAny (model prog w) A (.compLoop (.ListComp elt [⟨target,iter,ifs,0⟩] scope pos) 0 it acc env) R s:=by
 refine codeAny_loop rfl I (fun n s hI=>?_) n h
 show wpAny _ A ((compTurn (.ListComp elt [⟨target,iter,ifs,0⟩] scope pos) 0 it acc env).onRaise (fun x=>do noteFrame x env;theTreesLotGoes x)) _ _ s
 refine wpAny_noted ?_
 rw [compTurn_list]
 refine wpAny_bind (wpAny_standAt (wpAny_bind (wpAny_mono (turn n s hI) (fun r s₁ h₁=>?_) fun _ _ h'=>h'.elim)))
 cases r with
 |none=>exact wpAny_pure h₁
 |some v =>
  refine wpAny_bind (wpAny_mono h₁ (fun _ s₁' h₁'=>?_) fun _ _ h'=>h'.elim)
  refine wpAny_bind (wpAny_mono h₁' (fun _ s₂ h₂=>wpAny_bind (wpAny_mono h₂ (fun ok s₃ h₃=>?_) fun _ _ h'=>h'.elim)) fun _ _ h'=>h'.elim)
  cases ok with
  |false=>exact wpAny_pure ⟨rfl,h₃⟩
  |true =>
   exact wpAny_bind (wpAny_bind (wpAny_mono h₃ (fun x s₄ h₄=>wpAny_bind (wpAny_mono h₄ (fun _ s₅ h₅=>wpAny_pure (wpAny_pure ⟨rfl,h₅⟩)) fun _ _ h'=>h'.elim)) fun _ _ h'=>h'))
section
variable {X:Cx} {N:List Str} {scope:Scope} {pins:List (Addr×Obj)} {σ:St} {H:Hp} {s:Shared} {fp:List Addr}
theorem u6 {tg iter elt:Expr} {ifs:List Expr} {pos:Pos} {cap:St→St} {g:TG} {tc:TT} {te:TE} {J:It} {it:Addr} {tn:Nat→Heap→Prop} {Q:Addr→Hp→Prop} {RR:Value→Addr→Result→Shared→Prop} {RX:Value→Hp→Prop}
  (hcalm:X.calm=true) (S:CompScope X scope) (hcap:cC X N scope cap) (I:Inv X pins σ H s) (T:Turn X.prog X.w X.K tg J fp it tn) (st:tn 0 s.heap) (hf:∀b∈fp,z3 X pins H b)
  (hg:∀C,PG (vP X N scope C s H pins fp) tg g) (hc:∀C,eN (vP X N scope C s H pins fp) ifs tc) (he:∀C,PE ((vP X N scope C s H pins fp).wish (rC X N scope C s H pins fp RX)) elt te)
  (hq:∀D,H D=none→JE D J g tc te (cap σ) H (Q D))
  (hRR:∀D C σc H' s',s.heap.objs.size≤C→Inv (vP X N scope C s H pins fp) [] σc H' s'→Q D H'→RR (.ref D) C (.ok .next) s')
  (hRE:∀D C e s',s.heap.objs.size≤C→rC X N scope C s H pins fp RX e s'→wpAny (model X.prog X.w) X.A (noteFrame e (compEnvC scope (yB X.env.cells scope.names []) C X.env)) (fun _ s''=>RR (.ref D) C (.error e) s'') (fun e' s''=>RR (.ref D) C (.error e') s'') s') :
  wpAny (model X.prog X.w) X.A (newList []) (fun acc s₃=>wpAny (model X.prog X.w) X.A (newFunctionEnv scope X.env.globals (yB X.env.cells scope.names []) [] X.env.qual none .none (some X.env)) (fun cenv s₄ =>
   codeAny (model X.prog X.w) X.A (.compStart (.ListComp elt [⟨tg,iter,ifs,0⟩] scope pos) 0 (.ref it) acc {cenv with scope:=relabel scope X.env}) (RR acc cenv.locals) s₄) X.xe s₃) X.xe s:=by
 refine wpAny_newObj_type (wpAny_newFunctionEnv S.nocell (by intro y hy;simp at hy) (fun h₁ hns₁ hsb₁=>?_) S.kind)
 dsimp only at hns₁ hsb₁ ⊢
 generalize hH2:s.heap.push {cls:=.type "list",dict:=none,data:=.seq ([]:List Value).toArray}=H2 at hns₁ hsb₁ ⊢
 have hC:H2.objs.size=s.heap.objs.size+1:=by rw [← hH2,Heap.size_push]
 have hDC:s.heap.objs.size≠H2.objs.size:=by rw [hC];exact Nat.ne_of_lt (Nat.lt_succ_self _)
 have hCle:s.heap.objs.size≤H2.objs.size:=by rw [hC];exact Nat.le_succ _
 have below:∀b,b<s.heap.objs.size→b≠H2.objs.size:=fun b hb=>by rw [hC];exact Nat.ne_of_lt (Nat.lt_succ_of_lt hb)
 have old:∀b o,s.heap.get? b=some o→h₁.get? b=some o:=fun b o e=>hsb₁.extBut b o (below b (Heap.lt_size e)) (Heap.get?_push_of_some _ (hH2▸Heap.get?_push_of_some _ e))
 have hacc:h₁.get? s.heap.objs.size=some {cls:=.type "list",data:=.seq ([]:List Value).toArray}:=hsb₁.extBut _ _ hDC (Heap.get?_push_of_some _ (hH2▸Heap.get?_push_size _ rfl))
 have obj0:=T.obj 0 s.heap st
 have I1:∀t',Inv (vP X N scope H2.objs.size s H pins fp) [] (cap σ) (upd H s.heap.objs.size (.lst [])) {s with heap:=h₁,toks:=t'}:=fun t' =>
  NF S I hcap hf (fun b hb=>let ⟨o,e,_⟩:=obj0 b hb;⟨o,e⟩) (Nat.le_refl _) hCle hDC old hns₁ hacc
 have st1:tn 0 h₁:=T.keep 0 s.heap h₁ st fun b _ o e=>old b o e
 have stat:∀{H':Hp},(∀b∈fp,H' b=none)→∀b∈fp,z3 (vP X N scope H2.objs.size s H pins fp) [] H' b:=fun hn b hb=>by
  obtain ⟨_,h2,h3,h4,h5,h6⟩:=hf b hb
  obtain ⟨o,ho,_⟩:=obj0 b hb
  refine ⟨hn b hb,below b (Heap.lt_size ho),?_,.inl hb,fun x c e=>h5 x c (fU (gA S I) (fun y d q=>by simp at q) e),fun p hp=>?_⟩
  ·intro z
   rcases List.mem_cons.mp (I.stkSub b z) with e|e
   ·exact h2 e
   ·exact h3 e
  ·rcases List.mem_append.mp hp with z|z
   ·exact h6 p z
   ·cases z
 have fr1:∀b∈fp,upd H s.heap.objs.size (.lst []) b=none:=fun b hb=>by
  obtain ⟨o,ho,_⟩:=obj0 b hb
  rw [jL (Nat.ne_of_lt (Heap.lt_size ho))]
  exact (hf b hb).1
 obtain ⟨W,⟨m0,w0⟩,turn⟩:=hq s.heap.objs.size (I.hok.fresh (Nat.le_refl _))
 have loop:∀s₃:Shared,s₃={s with heap:=h₁,toks:=s.toks+([]:List (Str×Value)).length}→
   codeAny (model X.prog X.w) X.A (.compLoop (.ListComp elt [⟨tg,iter,ifs,0⟩] scope pos) 0 (.ref it) (.ref s.heap.objs.size) (compEnvC scope (yB X.env.cells scope.names []) H2.objs.size X.env))
    (RR (.ref s.heap.objs.size) H2.objs.size) s₃:=by
  rintro s₃ rfl
  refine K4 (fun n s'=>∃i σ' H',Inv (vP X N scope H2.objs.size s H pins fp) [] σ' H' s'∧tn i s'.heap∧(∀b∈fp,H' b=none)∧W i n σ' H') ?_ m0 ⟨0,cap σ,_,I1 _,st1,fr1,w0⟩
  rintro n s3 ⟨i,σ3,H3,I3,st3,fr3,w3⟩
  rcases turn i n σ3 H3 w3 with ⟨stop,qn⟩|⟨go,Nn,hN,step⟩
  ·refine jN (T.done (vP X N scope H2.objs.size s H pins fp) rfl rfl rfl hcalm i [] s3 σ3 H3 (fun _ _=>False) I3 (stat fr3) st3 stop) fun r s4 ⟨hr,I4⟩=>?_
   subst hr
   exact hRR _ _ σ3 H3 s4 hCle I4 qn
  ·refine jN (T.item (vP X N scope H2.objs.size s H pins fp) rfl rfl rfl hcalm i [] s3 σ3 H3 (fun _ _=>False) I3 (stat fr3) st3 go) fun r s4 ⟨u,hr,h4⟩=>?_
   subst hr
   refine jN h4 fun _ s5 ⟨x,H5,I5,r5,y5,st5,fr5⟩=>?_
   have I5':=I5.pinned (stat fr5) (T.obj _ _ st5)
   have again:∀{σ7:St} {H7:Hp} {s7:Shared},Inv (vP X N scope H2.objs.size s H pins fp) ([]++dW fp s5.heap) σ7 H7 s7→Nn σ7 H7→
     ∃m,m<n∧∃i σ' H',Inv (vP X N scope H2.objs.size s H pins fp) [] σ' H' s7∧tn i s7.heap∧(∀b∈fp,H' b=none)∧W i m σ' H':=fun {σ7 H7 s7} I7 n7=>by
    obtain ⟨m',hm,w7⟩:=hN σ7 H7 n7
    refine ⟨m',hm,i+1,σ7,H7,I7.unpinned,T.keep _ _ _ st5 fun b hb o e=>(I7.pin (b,o) (List.mem_append_right _ (List.mem_append_right _ (fW hb e)))).1,fun b hb=>?_,w7⟩
    obtain ⟨o,e,d⟩:=T.obj _ _ st5 b hb
    exact (I7.pin (b,o) (List.mem_append_right _ (List.mem_append_right _ (fW hb e)))).2.1
   refine jN (hg _ _ s5 σ3 H5 x u _ I5' r5 (step x H5 y5)) fun _ s6 ⟨σ6,H6,I6,q6⟩=>?_
   refine jN (hc _ _ s6 σ6 H6 _ I6 q6) fun ok s7 ⟨H7,I7,q7⟩=>?_
   cases ok with
   |false=>exact again I7 q7
   |true =>
    refine wpAny_mono (he _ _ s7 σ6 H7 _ (I7.wish _) q7) (fun v s8 ⟨y,H8,I8,r8,xs,hD8,hz8,n8⟩=>?_) fun e se hx=>hRE _ _ e se hCle hx
    have I8:=I8.unwish
    refine jN (ZM _ s8 σ6 H8 (.ref s.heap.objs.size) [y] (.ref s.heap.objs.size) [v] (fun _ H9=>Nn σ6 H9) I8 rfl (.cons r8 .nil) ⟨_,_,_,rfl,rfl,hD8,hz8,n8⟩) fun _ s9 ⟨_,H9,I9,_,n9⟩=>?_
    exact again I9 n9
 exact codeAny_compStart_list (loop _ rfl) (wpAny_mono (T.self X.A 0 _ (fun v s'=>v=.ref it∧s'=_) (fun _ _=>False) st1 ⟨rfl,rfl⟩) (fun v s' ⟨e1,e2⟩=>by subst e1;subst e2;exact loop _ rfl) fun _ _ z=>z.elim)
end
section
variable {P:Program} {w:World} {K:PySem.W.Frag} {mg:Str→Option Value} {base:Heap} {Nf:List Str} {qual:Str} {scf:Scope} {f:Addr} {cd:Value} {A:Around} {outer:List Env} {s₀:Shared} {H₀:Hp} {E:XK}
end
end L2
namespace L2
open PySem PySem.Spec PyProof.Rows
section
variable {X:Cx}
end
end L2
namespace L2
open PySem PySem.Spec PyProof.Rows
section
variable {P:Program} {w:World} {K:PySem.W.Frag} {mg:Str→Option Value} {base:Heap}
theorem Fun.ok2 {x qual:Str} {st:Stmt} {f:Addr} {fd:FuncData} {N ps:List Str} {k:Nat} {sp:Sp} (F:Fun K x qual st f fd) (S:FnScope N ps (jG st))
  (h:∀vs H Q E,sp vs H Q E→vs.length=ps.length∧∀cdv A outer s,Room k (A.deeper (envOfC qual (jG st) s.heap.objs.size f cdv))→∃t,PSs (vA jP P w K mg base N qual (jG st) f cdv A outer s H E).nox (vI st) t∧t {nx:=fun _ H'=>Q .non H',rt:=Q} (start N vs) H):FnOk P w K mg base jP (k+1) f fd ps sp :=
 F.ok S (fun vs H Q E z=>(h vs H Q E z).1) fun cdv A outer s H vs Q E r z=>(h vs H Q E z).2 cdv A outer s r
theorem Fun.okX2 {x qual:Str} {st:Stmt} {f:Addr} {fd:FuncData} {N ps:List Str} {k:Nat} {sp:Sp} (F:Fun K x qual st f fd) (S:FnScope N ps (jG st))
  (h:∀vs H Q E,sp vs H Q E→vs.length=ps.length∧∀cdv A outer s,Room k (A.deeper (envOfC qual (jG st) s.heap.objs.size f cdv))→∃t,PSs (vA (vF P w) P w K mg base N qual (jG st) f cdv A outer s H E) (vI st) t∧t {nx:=fun _ H'=>Q .non H',rt:=Q} (start N vs) H):FnOk P w K mg base (vF P w) (k+1) f fd ps sp :=
 F.okX S (fun vs H Q E z=>(h vs H Q E z).1) fun cdv A outer s H vs Q E r z=>(h vs H Q E z).2 cdv A outer s r
theorem FunD.ok2 {x qual:Str} {st:Stmt} {f:Addr} {fd:FuncData} {ds:List Value} {N ps:List Str} {k:Nat} {sp:Sp} (F:FunD K x qual st f fd ds) (S:FnScope N ps (jG st))
  (h:∀vs H Q E,sp vs H Q E→vs.length=ps.length∧∀cdv A outer s,Room k (A.deeper (envOfC qual (jG st) s.heap.objs.size f cdv))→∃t,PSs (vA jP P w K mg base N qual (jG st) f cdv A outer s H E).nox (vI st) t∧t {nx:=fun _ H'=>Q .non H',rt:=Q} (start N vs) H):FnOk P w K mg base jP (k+1) f fd ps sp :=
 F.ok S (fun vs H Q E z=>(h vs H Q E z).1) fun cdv A outer s H vs Q E r z=>(h vs H Q E z).2 cdv A outer s r
theorem kJ {x:Str} {f:Addr} {fd:FuncData} {ps:List Str} {k:Nat} {sp:Sp} (G:FnOk P w K mg base jP k f fd ps sp) (m:mg x=some (.ref f)) (kp:PySem.W.keepIn K (.ref f)=true) (b:Binds K fd ps []):Def P w K mg base k x ps [] sp:=⟨_,_,[],G,m,kp,.nil,b⟩
theorem dX {x:Str} {f:Addr} {fd:FuncData} {ps:List Str} {k:Nat} {sp:Sp} (G:FnOk P w K mg base (vF P w) k f fd ps sp) (m:mg x=some (.ref f)) (kp:PySem.W.keepIn K (.ref f)=true) (b:Binds K fd ps []):DefX P w K mg base k x ps [] sp:=⟨_,_,[],G,m,kp,.nil,b⟩
end
section
variable {X:Cx} {a b:Expr} {ta tb:TE} {r:R2} {pos:Pos}
theorem jM (hr:IxR X r) (ha:PE X a ta) (hb:PE X b tb) (hs:BF b:=by exact fun _ _=>rfl):PE X (.Subscript a b pos) (Z4 r ta tb):=DE hr ha hb hs
theorem QN {op:CmpOp} (ho:qU X (compareOp op) r) (ha:PE X a ta) (hb:PE X b tb) (hm:behindInMarks op b=false:=by first|exact r9 _|with_unfolding_all rfl):PE X (.Compare a [op] [b] pos) (Z4 r ta tb):=N8 ho ha hb hm
theorem kO {op:CmpOp} (ho:qU X (compareOp op) r) (ha:PE X a ta) (hb:PE X b tb) (hm:behindInMarks op b=false:=by first|exact r9 _|with_unfolding_all rfl):PT X (.Compare a [op] [b] pos) (CC (Z4 r ta tb)):=DD ho ha hb hm
end
theorem so {K:PySem.W.Frag} {H:Hp} {a:Addr} {xs:List V} (h:H a=some (.lst xs)):SqL K H a xs:=SqL.of h
end L2
namespace L2
open PySem PySem.Spec PyProof.Rows
section
variable {X:Cx} {N:List Str} {scope:Scope} {pins:List (Addr×Obj)} {σ:St} {H:Hp} {s:Shared} {fp:List Addr}
theorem noX {C:Addr} {e:Value} {s':Shared} {p:Prop} (h:rC X N scope C s H pins fp (fun _ _=>False) e s'):p:=by
 obtain ⟨_,_,_,_,_,h⟩:=h
 obtain ⟨_,_,_,_,_,_,_,_,_,_,_,z⟩:=h
 exact z.elim
theorem yK {tg iter elt:Expr} {ifs:List Expr} {pos:Pos} {wi:TI} {g:TG} {tc:TT} {te:TE} (N:List Str) (cap:St→St) (hcalm:X.calm=true) (S:CompScope X scope) (hcap:cC X N scope cap) (hi:PI X tg iter wi)
  (hg:∀C s H pins fp,PG (vP X N scope C s H pins fp) tg g) (hc:∀C s H pins fp,eN (vP X N scope C s H pins fp) ifs tc) (he:∀C s H pins fp,PE (vP X N scope C s H pins fp) elt te)
  (hs:∀x,foldedSetIterable iter X.env x=pure x:=by intro _;rfl):PE X (.ListComp elt [⟨tg,iter,ifs,0⟩] scope pos) (RG wi cap g tc te):=by
 intro pins s σ H Q I h
 rw [eval_ListComp]
 refine wpAny_comprehension_free (use:=none) rfl hs (sM (gA S I)) S.kind S.names (jN (hi pins s σ H _ I h) fun v s1 h1=>jN h1 fun itv s2 h2=>?_)
 obtain ⟨it,fp,tn,J,H2,e,I2,T,st2,f2,q2⟩:=h2
 subst e
 refine u6 (RX:=fun _ _=>False) (RR:=fun acc C=>compPost (model X.prog X.w) X.A X.xe none (EP X pins σ Q) acc C) (Q:=fun D H'=>Q (.ref D) H') hcalm S hcap I2 T st2 f2 (fun C=>hg C _ _ _ _) (fun C=>hc C _ _ _ _) (fun C=>PE.nox (he C _ _ _ _)) q2 ?_ (fun _ _ _ _ _ hx=>noX hx)
 intro D C σc H' s' hC Jc q
 obtain ⟨m,hn,_⟩:=Jc.loc
 refine ⟨m,hn,fun h' hs'=>?_⟩
 exact ⟨.ref D,H',xT I2 hC (u7 (σ':=σ) I2 f2 Jc) Jc.free hs',rfl,q⟩
theorem zN {tg iter elt:Expr} {ifs:List Expr} {pos spos py:Pos} {i:Nat} {y:Str} {wi:TI} {g:TG} {tc:TT} {te:TE} (N:List Str) (cap:St→St) (hN:X.N.Nodup) (hy:X.N[i]?=some y) (hloc:eQ X.env.scope y) (hcalm:X.calm=true) (S:CompScope X scope) (hcap:cC X N scope cap) (hi:PI X tg iter wi)
  (hg:∀C s H pins fp,PG (vP X N scope C s H pins fp) tg g) (hc:∀C s H pins fp,eN (vP X N scope C s H pins fp) ifs tc) (he:∀C s H pins fp,PE (vP X N scope C s H pins fp) elt te)
  (hsw:swapsWith (.ListComp elt [⟨tg,iter,ifs,0⟩] scope pos) (some (.Name y py)) spos.line X.env=pure true:=by rfl)
  (hs:∀x,foldedSetIterable iter X.env x=pure x:=by intro _;rfl) (hfn:X.fn y=true∨X.env.scope.names.lookup y=some .local:=by first|exact .inl rfl|exact .inr rfl|assumption) :
  PS X (.Assign [.Name y py] (.ListComp elt [⟨tg,iter,ifs,0⟩] scope pos) spos) (ML i wi cap g tc te):=by
 intro pins s σ H D I h
 rw [exec_Assign_Name_used _ _ _ _ hsw]
 refine wpAny_bind (wpAny_standAt (wpAny_bind ?_))
 show wpAny _ X.A (do let _ ← comprehension (.ListComp elt [⟨tg,iter,ifs,0⟩] scope pos) scope X.env _ (newList []) false (eval iter X.env) (some (assign (.Name y py) X.env))) _ _ s
 refine wpAny_bind (wpAny_mono (wpAny_comprehension_free (use:=some (assign (.Name y py) X.env)) (Q:=fun _ s'=>SP X pins D .next s') rfl hs (sM (gA S I)) S.kind S.names
  (jN (hi pins s σ H _ I h) fun v s1 h1=>jN h1 fun itv s2 h2=>?_)) (fun _ s' hq=>wpAny_pure (wpAny_pure hq)) fun _ _ e=>e)
 obtain ⟨it,fp,tn,J,H2,e,I2,T,st2,f2,q2⟩:=h2
 subst e
 refine u6 (RX:=fun _ _=>False) (RR:=fun acc C=>compPost (model X.prog X.w) X.A X.xe (some (assign (.Name y py) X.env)) (fun _ s'=>SP X pins D .next s') acc C) (Q:=fun d H'=>D.nx (σ.set i (some (.ref d))) H') hcalm S hcap I2 T st2 f2 (fun C=>hg C _ _ _ _) (fun C=>hc C _ _ _ _) (fun C=>PE.nox (he C _ _ _ _)) q2 ?_ (fun _ _ _ _ _ hx=>noX hx)
 intro d C σc H' s' hC Jc q
 obtain ⟨m,hn,_⟩:=Jc.loc
 have J1:Inv X pins σ H' s':=u7 (σ':=σ) I2 f2 Jc
 show wpAny _ X.A (assign (.Name y py) X.env (.ref d)) _ _ _
 refine wpAny_assign_Name (uE (v:=.ref d) J1 hN hy hloc rfl (fun s'' J2 hsb=>?_) hfn)
 obtain ⟨a,sb,ha⟩:=hsb
 have haC:C≠a:=by
  rcases ha with e|e
  ·rw [e];exact Nat.ne_of_gt (Nat.lt_of_lt_of_le I2.lt hC)
  ·obtain ⟨v,q'⟩:=I2.cell y a e
   exact Nat.ne_of_gt (Nat.lt_of_lt_of_le q'.lt hC)
 refine ⟨m,hn.sameBut sb haC,fun h' hs'=>?_⟩
 exact ⟨_,H',xT I2 hC J2 Jc.free hs',q⟩
end
theorem jU {N P:List Str} {sc:Scope} (a:sc.kind=.function:=by rfl) (b:sc.isCoroutine=false:=by rfl) (c:sc.isGenerator=false:=by rfl) (d:N.Nodup:=by decide +kernel) (e:N.take P.length=P:=by rfl)
  (f:∀x∈P,sc.names.lookup x=some .local∨sc.names.lookup x=some .cell:=by decide +kernel) (g:∀y∈sc.names,y.2≠.free:=by decide +kernel):FnScope N P sc:=⟨a,b,c,d,e,f,g⟩
theorem qO {X:Cx} {scope:Scope} (sc:Scope) (a:X.env.scope=sc:=by rfl) (b:scope.kind=.function:=by rfl) (c:∀y∈scope.names,y.2≠.cell:=by decide +kernel) (d:∀y∈scope.names,y.2=.local→scope.names.lookup y.1=some .local:=by decide +kernel)
  (e:∀y∈scope.names,y.2=.free→sc.names.lookup y.1=some .cell∨sc.names.lookup y.1=some .free:=by decide +kernel):CompScope X scope:=DG sc a b c d e
theorem cps {X:Cx} {N:List Str} {scope:Scope} (n:Nat) (js:List Nat) (a:N.length=n+js.length:=by rfl) (b:js.map (fun j=>X.N[j]?)=(N.drop n).map some:=by rfl) (c:∀x∈N.drop n,scope.names.lookup x=some .free:=by decide +kernel):cC X N scope (kZ n js):=DH n js a b c
end L2
namespace L2
open PySem PySem.Spec PyProof.Rows
inductive GK where
 |i (n:Int)
 |s (t:Str)
 |nil
 |cons (a b:GK)
 deriving DecidableEq
def TupOf (h:Heap) (v:Value) (P:List Value→Prop):Prop :=
 ∃(a:Addr) (o:Obj) (its:Array Value) (n:Nat),v=.ref a∧h.get? a=some o∧o.cls=.type "tuple"∧o.data=.seq its n∧P its.toList
def GR (h:Heap):GK→(Value→Prop)×(List Value→Prop)
 |.i n=>(fun v=>∃t,v=.int n t,fun _=>False)
 |.s x=>(fun v=>∃t,v=.str x t,fun _=>False)
 |.nil=>(fun v=>TupOf h v (fun l=>l=[]),fun l=>l=[])
 |.cons a b=>(fun v=>TupOf h v (fun l=>∃u us,l=u::us∧(GR h a).1 u∧(GR h b).2 us),fun l=>∃u us,l=u::us∧(GR h a).1 u∧(GR h b).2 us)
def gh (w:World):GK→Int×List Int
 |.i n=>(hashInt n,[])
 |.s x=>(hashStr w x,[])
 |.nil=>(reduceHash (Builtin.Tuple.tupleHashOf []),[])
 |.cons a b=>(reduceHash (Builtin.Tuple.tupleHashOf ((gh w a).1::(gh w b).2)),(gh w a).1::(gh w b).2)
def gd:GK→Nat
 |.i _=>1
 |.s _=>1
 |.nil=>1
 |.cons a b=>max (gd a+1) (gd b)
variable {v:Value}
theorem TupOf.mono {h h':Heap} {P P':List Value→Prop} (x:TupOf h v P) (hk:∀a o its n,h.get? a=some o→o.data=.seq its n→h'.get? a=some o) (hp:∀l,P l→P' l):TupOf h' v P' :=
 let ⟨a,o,its,n,e,ho,hc,hd,p⟩:=x
 ⟨a,o,its,n,e,hk a o its n ho hd,hc,hd,hp _ p⟩
def J0:GK→Bool
 |.nil=>true
 |.cons _ _=>true
 |_=>false
theorem GR.tup {h:Heap} {k:GK} (ht:J0 k=true):(GR h k).1 v↔TupOf h v (GR h k).2:=by
 cases k<;>first|exact Iff.rfl|cases ht
theorem GR.keep {h h':Heap} (hk:∀a o its n,h.get? a=some o→o.data=.seq its n→h'.get? a=some o):∀k,(∀v,(GR h k).1 v→(GR h' k).1 v)∧(∀l,(GR h k).2 l→(GR h' k).2 l)
 |.i _=>⟨fun _ p=>p,fun _ p=>p⟩
 |.s _=>⟨fun _ p=>p,fun _ p=>p⟩
 |.nil=>⟨fun _ p=>(GR.tup rfl).2 (((GR.tup rfl).1 p).mono hk fun _ q=>q),fun _ p=>p⟩
 |.cons a b=>by
  have c:∀l,(∃u us,l=u::us∧(GR h a).1 u∧(GR h b).2 us)→∃u us,l=u::us∧(GR h' a).1 u∧(GR h' b).2 us :=
   fun l ⟨u,us,e,p,q⟩=>⟨u,us,e,(GR.keep hk a).1 _ p,(GR.keep hk b).2 _ q⟩
  exact ⟨fun _ p=>(GR.tup rfl).2 (((GR.tup rfl).1 p).mono hk c),c⟩
theorem TupOf.typeIs {s:Shared} {P:List Value→Prop} (x:TupOf s.heap v P):s.TypeIs v "tuple":=by
 obtain ⟨a,o,its,n,rfl,ho,hc,_⟩:=x
 exact ⟨o,ho,hc⟩
theorem GR.inj {h:Heap}:∀x y,(∀v,(GR h x).1 v→(GR h y).1 v→x=y)∧(∀l,(GR h x).2 l→(GR h y).2 l→x=y):=by
 have tt:∀{v:Value} {P P':List Value→Prop},TupOf h v P→TupOf h v P'→∃l,P l∧P' l:=by
  rintro v P P' ⟨a,o,its,n,rfl,ho,_,hd,p⟩ ⟨a',o',its',n',e,ho',_,hd',p'⟩
  cases e
  obtain rfl:o=o':=Option.some.inj (ho.symm.trans ho')
  rw [hd] at hd'
  injection hd' with e1 _
  subst e1
  exact ⟨_,p,p'⟩
 intro x
 induction x with
 |i n =>
  intro y
  refine ⟨fun v p q=>?_,fun l p=>p.elim⟩
  obtain ⟨t,rfl⟩:=p
  cases y with
  |i m=>obtain ⟨u,e⟩:=q;cases e;rfl
  |s z=>obtain ⟨u,e⟩:=q;cases e
  |nil=>obtain ⟨a,_,_,_,e,_⟩:=q;cases e
  |cons a b=>obtain ⟨a,_,_,_,e,_⟩:=q;cases e
 |s z =>
  intro y
  refine ⟨fun v p q=>?_,fun l p=>p.elim⟩
  obtain ⟨t,rfl⟩:=p
  cases y with
  |i m=>obtain ⟨u,e⟩:=q;cases e
  |s z=>obtain ⟨u,e⟩:=q;cases e;rfl
  |nil=>obtain ⟨a,_,_,_,e,_⟩:=q;cases e
  |cons a b=>obtain ⟨a,_,_,_,e,_⟩:=q;cases e
 |nil =>
  intro y
  have c:∀l,(GR h .nil).2 l→(GR h y).2 l→GK.nil=y:=by
   intro l p q
   cases p
   cases y with
   |i m=>exact q.elim
   |s z=>exact q.elim
   |nil=>rfl
   |cons a b=>obtain ⟨u,us,e,_⟩:=q;cases e
  refine ⟨fun v p q=>?_,c⟩
  cases y with
  |i m=>obtain ⟨u,rfl⟩:=q;obtain ⟨a,_,_,_,e,_⟩:=p;cases e
  |s z=>obtain ⟨u,rfl⟩:=q;obtain ⟨a,_,_,_,e,_⟩:=p;cases e
  |nil=>rfl
  |cons a b=>obtain ⟨l,p,q⟩:=tt ((GR.tup rfl).1 p) ((GR.tup rfl).1 q);exact c l p q
 |cons a b iha ihb =>
  intro y
  have c:∀l,(GR h (.cons a b)).2 l→(GR h y).2 l→GK.cons a b=y:=by
   rintro l ⟨u,us,rfl,p1,p2⟩ q
   cases y with
   |i m=>exact q.elim
   |s z=>exact q.elim
   |nil=>cases q
   |cons a' b' =>
    obtain ⟨u',us',e,q1,q2⟩:=q
    cases e
    rw [(iha a').1 _ p1 q1,(ihb b').2 _ p2 q2]
  refine ⟨fun v p q=>?_,c⟩
  cases y with
  |i m=>obtain ⟨u,rfl⟩:=q;obtain ⟨a,_,_,_,e,_⟩:=p;cases e
  |s z=>obtain ⟨u,rfl⟩:=q;obtain ⟨a,_,_,_,e,_⟩:=p;cases e
  |nil=>obtain ⟨l,p,q⟩:=tt ((GR.tup rfl).1 p) ((GR.tup rfl).1 q);exact c l p q
  |cons a b=>obtain ⟨l,p,q⟩:=tt ((GR.tup rfl).1 p) ((GR.tup rfl).1 q);exact c l p q
section
variable {prog:Program} {w:World} {E:Value→Shared→Prop}
abbrev gQ (prog:Program) (w:World) (E:Value→Shared→Prop) (k:GK):Prop :=
 ∀(l:List Value) (A:Around) (s:Shared) (b:Array Int) (Q:Array Int→Shared→Prop),(GR s.heap k).2 l→A.units+gd k≤cLine→(∀n b',b'.toList=b.toList++(gh w k).2→Q b' {s with toks:=n})→
  wpAny (model prog w) A (forIn l b fun x r=>do let h ← pyHash x;pure (ForInStep.yield (r.push h))) Q E s
theorem xJ {k:GK} (ht:J0 k=true) (hs:(gh w k).1=reduceHash (Builtin.Tuple.tupleHashOf (gh w k).2))
  (lp:gQ prog w E k)
  {v:Value} {A:Around} {s:Shared} {Q:Int→Shared→Prop} (hv:(GR s.heap k).1 v) (hu:A.units+gd k<cLine) (hq:∀n,Q (gh w k).1 {s with toks:=n}):wpAny (model prog w) A (pyHash v) Q E s:=by
 have hv':=(GR.tup ht).1 hv
 have hT:=hv'.typeIs
 obtain ⟨a,o,its,n,rfl,ho,hc,hd,hl⟩:=hv'
 refine PySem.W.pyHash_slot (T:="tuple") hT F.slot_tuple_hash F.entry_tuple_hash (F.args_tuple_hash_1 _) (beq_builtin_none _) (.inr (by omega)) ?_
 show wpAny _ A.in1 (Builtin.Tuple.tupleItemsOf _ >>= _) _ E s
 refine wpAny_bind (wpAny_tupleItemsOf ho hd (wpAny_bind ?_))
 rw [← Array.forIn_toList]
 refine lp its.toList _ s #[] _ hl (by simp only [Around.in1_units];omega) fun m b' hb=>?_
 have e:b'.toList=(gh w k).2:=by rw [hb];rfl
 show wpAny _ _ (retInt (Builtin.Tuple.tupleHashOf b'.toList)) _ _ _
 rw [e]
 exact wpAny_bind (wpAny_mkInt (wpAny_pure ⟨_,_,rfl,hs▸hq _⟩))
theorem gO:∀k:GK,(∀(v:Value) (A:Around) (s:Shared) (Q:Int→Shared→Prop),(GR s.heap k).1 v→A.units+gd k<cLine→(∀n,Q (gh w k).1 {s with toks:=n})→wpAny (model prog w) A (pyHash v) Q E s)∧gQ prog w E k
 |.i n=>⟨fun v A s Q p _ q=>by obtain ⟨t,rfl⟩:=p;exact wpAny_pyHash_int (q _),fun _ _ _ _ _ p=>p.elim⟩
 |.s z=>⟨fun v A s Q p _ q=>by obtain ⟨t,rfl⟩:=p;exact wpAny_pyHash_str (q _),fun _ _ _ _ _ p=>p.elim⟩
 |.nil=>by
  have lp:gQ prog w E .nil:=fun l A s b Q p _ q=>by
   cases p
   exact wpAny_pure (q s.toks b (by simp [gh]))
  exact ⟨fun v A s Q p hu q=>xJ rfl (by simp only [gh]) lp p hu q,lp⟩
 |.cons x y=>by
  have lp:gQ prog w E (.cons x y):=fun l A s b Q p hu q=>by
   obtain ⟨u,us,rfl,p1,p2⟩:=p
   simp only [gd] at hu
   rw [List.forIn_cons]
   refine wpAny_bind (wpAny_bind ((gO x).1 u A s _ p1 (by omega) fun m=>wpAny_pure ?_))
   exact (gO y).2 us A _ _ Q p2 (by omega) fun m' b' hb=>q m' b' (by simp [hb,gh])
  exact ⟨fun v A s Q p hu q=>xJ rfl (by simp only [gh]) lp p hu q,lp⟩
end
section
variable {s:Shared}
theorem HW (n:Nat) (e:Nat→Bool):(List.range (n+1)).all e=(e 0&&(List.range n).all fun j=>e (j+1)):=by
 rw [List.range_succ_eq_map,List.all_cons,List.all_map]
 rfl
abbrev iA (s:Shared) (x y:GK):Prop :=
 ∀(A:Around) (l m:List Value),(GR s.heap x).2 l→(GR s.heap y).2 m→A.units+gd x≤cLine→∃e:Nat→Bool,(∀j (h1:j<l.length) (h2:j<m.length),SeqAt.EqAt A s l[j] m[j] (e j))∧((List.range (min l.length m.length)).all e&&l.length == m.length)=decide (x=y)
theorem gY {x y:GK} (hx:J0 x=true) (hy:J0 y=true) (lp:iA s x y) {v u:Value} {A:Around} (p:(GR s.heap x).1 v) (q:(GR s.heap y).1 u) (hu:A.units+gd x<cLine):SeqAt.EqAt A s v u (decide (x=y)):=by
 obtain ⟨a,o,its,n,rfl,ho,hc,hd,hl⟩:=(GR.tup hx).1 p
 obtain ⟨a',o',its',n',rfl,ho',hc',hd',hl'⟩:=(GR.tup hy).1 q
 by_cases ea:a=a'
 ·subst ea
  rw [decide_eq_true ((GR.inj x y).1 _ p q)]
  exact SeqAt.EqAt.same _
 ·obtain ⟨e,he,hr⟩:=lp A.in1 _ _ hl hl' (by simp only [Around.in1_units];omega)
  have r:=SeqAt.RcAt.tuples (A:=A) (s:=s) (e:=e) (items:=its) (items2:=its') ⟨o,ho,hc,n,hd⟩ ⟨o',ho',hc',n',hd'⟩ (by omega) (fun j h1 h2=>by have:=he j (by simpa using h1) (by simpa using h2);rwa [Array.getElem_toList,Array.getElem_toList] at this)
  rw [Array.length_toList,Array.length_toList] at hr
  rw [hr] at r
  exact SeqAt.EqAt.of_refs ea r
theorem pO:∀x y:GK,(∀(A:Around) (v u:Value),(GR s.heap x).1 v→(GR s.heap y).1 u→A.units+gd x<cLine→SeqAt.EqAt A s v u (decide (x=y)))∧iA s x y:=by
 intro x
 induction x with
 |i n =>
  intro y
  refine ⟨fun A v u p q hu=>?_,fun _ _ _ p=>p.elim⟩
  obtain ⟨t,rfl⟩:=p
  cases y with
  |i m=>obtain ⟨t',rfl⟩:=q;rw [show decide (GK.i n=GK.i m)=(n == m) by by_cases e:n=m<;>simp [e]];exact SeqAt.EqAt.int_int n t m t'
  |s z=>obtain ⟨t',rfl⟩:=q;exact SeqAt.EqAt.int_str _ _ _ _
  |nil=>obtain ⟨a,o,its,n,rfl,ho,hc,hd,_⟩:=(GR.tup rfl).1 q;exact SeqAt.EqAt.int_tuple _ _ ⟨o,ho,hc,_,hd⟩ (by omega)
  |cons a b=>obtain ⟨a,o,its,n,rfl,ho,hc,hd,_⟩:=(GR.tup rfl).1 q;exact SeqAt.EqAt.int_tuple _ _ ⟨o,ho,hc,_,hd⟩ (by omega)
 |s n =>
  intro y
  refine ⟨fun A v u p q hu=>?_,fun _ _ _ p=>p.elim⟩
  obtain ⟨t,rfl⟩:=p
  cases y with
  |i m=>obtain ⟨t',rfl⟩:=q;exact SeqAt.EqAt.str_int _ _ _ _
  |s z=>obtain ⟨t',rfl⟩:=q;rw [show decide (GK.s n=GK.s z)=(n == z) by by_cases e:n=z<;>simp [e]];exact SeqAt.EqAt.str_str n t z t'
  |nil=>obtain ⟨a,o,its,n,rfl,ho,hc,hd,_⟩:=(GR.tup rfl).1 q;exact SeqAt.EqAt.str_tuple _ _ ⟨o,ho,hc,_,hd⟩ (by omega)
  |cons a b=>obtain ⟨a,o,its,n,rfl,ho,hc,hd,_⟩:=(GR.tup rfl).1 q;exact SeqAt.EqAt.str_tuple _ _ ⟨o,ho,hc,_,hd⟩ (by omega)
 |nil =>
  intro y
  have lp:iA s .nil y:=by
   intro A l m p q _
   cases p
   cases y with
   |i m=>exact q.elim
   |s m=>exact q.elim
   |nil=>cases q;exact ⟨fun _=>true,fun j h1=>absurd h1 (Nat.not_lt_zero j),rfl⟩
   |cons a b=>obtain ⟨u,us,rfl,_⟩:=q;exact ⟨fun _=>true,fun j h1=>absurd h1 (Nat.not_lt_zero j),by simp⟩
  refine ⟨fun A v u p q hu=>?_,lp⟩
  cases y with
  |i m=>obtain ⟨t',rfl⟩:=q;obtain ⟨a,o,its,n,rfl,ho,hc,hd,_⟩:=(GR.tup rfl).1 p;exact SeqAt.EqAt.tuple_int _ _ ⟨o,ho,hc,_,hd⟩ (by omega)
  |s m=>obtain ⟨t',rfl⟩:=q;obtain ⟨a,o,its,n,rfl,ho,hc,hd,_⟩:=(GR.tup rfl).1 p;exact SeqAt.EqAt.tuple_str _ _ ⟨o,ho,hc,_,hd⟩ (by omega)
  |nil=>exact gY rfl rfl lp p q hu
  |cons a b=>exact gY rfl rfl lp p q hu
 |cons x1 x2 ih1 ih2 =>
  intro y
  have lp:iA s (.cons x1 x2) y:=by
   intro A l m p q hu
   simp only [gd] at hu
   obtain ⟨u,us,rfl,p1,p2⟩:=p
   cases y with
   |i m=>exact q.elim
   |s m=>exact q.elim
   |nil=>cases q;exact ⟨fun _=>true,fun j _ h1=>absurd h1 (Nat.not_lt_zero j),by simp⟩
   |cons a b =>
    obtain ⟨u',us',rfl,q1,q2⟩:=q
    obtain ⟨e,he,hr⟩:=(ih2 b).2 A us us' p2 q2 (by omega)
    have h0:=(ih1 a).1 A u u' p1 q1 (by omega)
    refine ⟨fun j=>match j with|0=>decide (x1=a)|j+1=>e j,fun j h1 h2=>?_,?_⟩
    ·cases j with
     |zero=>exact h0
     |succ j=>exact he j (by simpa using h1) (by simpa using h2)
    ·rw [List.length_cons,List.length_cons,Nat.succ_min_succ,HW,Bool.and_assoc]
     have e2:(us.length+1 == us'.length+1)=(us.length == us'.length):=by by_cases e:us.length=us'.length<;>simp [e]
     rw [e2,hr]
     by_cases e1:x1=a<;>by_cases e3:x2=b<;>simp [e1,e3]
  refine ⟨fun A v u p q hu=>?_,lp⟩
  cases y with
  |i m=>obtain ⟨t',rfl⟩:=q;obtain ⟨a,o,its,n,rfl,ho,hc,hd,_⟩:=(GR.tup rfl).1 p;exact SeqAt.EqAt.tuple_int _ _ ⟨o,ho,hc,_,hd⟩ (by omega)
  |s m=>obtain ⟨t',rfl⟩:=q;obtain ⟨a,o,its,n,rfl,ho,hc,hd,_⟩:=(GR.tup rfl).1 p;exact SeqAt.EqAt.tuple_str _ _ ⟨o,ho,hc,_,hd⟩ (by omega)
  |nil=>exact gY rfl rfl lp p q hu
  |cons a b=>exact gY rfl rfl lp p q hu
end
end L2
namespace L2
open PySem PySem.Spec PyProof.Rows
section
variable {prog:Program} {w:World} {E:Value→Shared→Prop} {s:Shared}
abbrev zU (prog:Program) (w:World) (E:Value→Shared→Prop) (s:Shared) (m:Nat) (v:Value):Prop :=
 ∀(A:Around) (Q:Bool→Shared→Prop),Q true s→wpAny (model prog w) A (eqIsQuiet m v) Q E s
theorem uO {v:Value} {P:List Value→Prop} {m:Nat} (x:TupOf s.heap v P) (hp:∀l,P l→∀y∈l,zU prog w E s m y):zU prog w E s (m+1) v:=by
 intro A Q q
 have hT:=x.typeIs
 obtain ⟨a,o,its,n,rfl,ho,hc,hd,hl⟩:=x
 unfold eqIsQuiet
 refine wpAny_bind (wpAny_specialOf hT F.slot_tuple_eq.lookup ?_)
 show wpAny _ A (isInstance _ (.type "tuple") >>= _) _ E s
 refine wpAny_bind (wpAny_isInstance hT isSubtype_tuple_tuple ?_)
 rw [if_neg (by decide)]
 refine wpAny_bind (wpAny_seqItems ho hd (wpAny_bind ?_))
 show wpAny _ A (forIn its _ _) _ E s
 rw [← Array.forIn_toList]
 refine wpAny_forIn_list _ (fun left r s1=>r.1=none∧s1=s∧∀y∈left,zU prog w E s m y) _ ?_ ?_ _ _ ⟨rfl,rfl,hp _ hl⟩
 ·rintro y left r s1 ⟨hr,rfl,hall⟩
  refine wpAny_bind (hall y List.mem_cons_self A _ ?_)
  rw [if_neg (by decide)]
  exact wpAny_pure ⟨rfl,rfl,fun z hz=>hall z (List.mem_cons_of_mem y hz)⟩
 ·rintro ⟨r1,r2⟩ s1 ⟨hr,rfl,_⟩
  cases hr
  exact wpAny_pure q
theorem gF:∀(k:GK) (m:Nat),gd k≤m→(∀v,(GR s.heap k).1 v→zU prog w E s m v)∧(∀l,(GR s.heap k).2 l→∀y∈l,zU prog w E s (m - 1) y)
 |.i n,m,_=>⟨fun v p A Q q=>by obtain ⟨t,rfl⟩:=p;rw [eqIsQuiet_byValue m rfl];exact wpAny_pure q,fun _ p=>p.elim⟩
 |.s n,m,_=>⟨fun v p A Q q=>by obtain ⟨t,rfl⟩:=p;rw [eqIsQuiet_byValue m rfl];exact wpAny_pure q,fun _ p=>p.elim⟩
 |.nil,m,hm=>by
  have lp:∀l,(GR s.heap .nil).2 l→∀y∈l,zU prog w E s (m - 1) y:=fun l p y hy=>by cases p;cases hy
  refine ⟨fun v p=>?_,lp⟩
  obtain ⟨m',rfl⟩:∃m',m=m'+1:=⟨m - 1,by simp only [gd] at hm;omega⟩
  exact uO ((GR.tup rfl).1 p) lp
 |.cons x y,m,hm=>by
  have hm':=hm
  simp only [gd] at hm'
  have lp:∀l,(GR s.heap (.cons x y)).2 l→∀z∈l,zU prog w E s (m - 1) z:=by
   rintro l ⟨u,us,rfl,p1,p2⟩ z hz
   rcases List.mem_cons.mp hz with rfl|hz
   ·exact (gF x (m - 1) (by omega)).1 _ p1
   ·exact (gF y m (by omega)).2 us p2 z hz
  refine ⟨fun v p=>?_,lp⟩
  obtain ⟨m',rfl⟩:∃m',m=m'+1:=⟨m - 1,by omega⟩
  exact uO ((GR.tup rfl).1 p) lp
abbrev kU:=GK×Value×Value
def zZ (w:World) (x:kU):DictEntry:=⟨(gh w x.1).1,x.2.1,x.2.2⟩
structure KEnt (w:World) (h:Heap) (es:Array DictEntry) (xs:List kU):Prop where
 es:es.toList=xs.map (zZ w)
 is:∀x∈xs,(GR h x.1).1 x.2.1
 deep:∀x∈xs,gd x.1≤8
 once:(xs.map (·.1)).Nodup
theorem KEnt.at {h:Heap} {es:Array DictEntry} {xs:List kU} (x:KEnt w h es xs) (j:Nat):es[j]?=(xs[j]?).map (zZ w):=by
 rw [← Array.getElem?_toList,x.es,List.getElem?_map]
theorem OB {xs:List kU} (hn:(xs.map (·.1)).Nodup) {i j:Nat} {k:GK} {p q:Value×Value} (hi:xs[i]?=some (k,p)) (hj:xs[j]?=some (k,q)):i=j:=by
 have a:(xs.map (·.1))[i]?=some k:=by rw [List.getElem?_map,hi];rfl
 have b:(xs.map (·.1))[j]?=some k:=by rw [List.getElem?_map,hj];rfl
 exact (List.getElem?_inj (List.getElem?_eq_some_iff.mp a).1 hn).mp (a.trans b.symm)
def Z2 (xs:List kU) (k:GK):Option Nat→Prop
 |none=>∀(j:Nat) (p:Value×Value),xs[j]?≠some (k,p)
 |some j=>∃p,xs[j]?=some (k,p)
theorem IK {A:Around} {key:Value} {st:List Value} {Q:Bool→Shared→Prop} (hk:zU prog w E s 8 key) (hs:∀v∈st,zU prog w E s 8 v) (q:Q false s):wpAny (model prog w) A (tableMayTell key st) Q E s:=by
 unfold tableMayTell
 by_cases he:st.isEmpty=true
 ·rw [if_pos he];exact wpAny_pure q
 ·rw [if_neg he]
  refine wpAny_bind (hk A _ ?_)
  rw [if_neg (by decide)]
  refine wpAny_bind (wpAny_forIn_list _ (fun left r s1=>s1=s∧r=(none,())∧∀v∈left,zU prog w E s 8 v) _ ?_ ?_ _ _ ⟨rfl,rfl,hs⟩)
  ·rintro v left r s1 ⟨rfl,rfl,hl⟩
   refine wpAny_bind (hl v List.mem_cons_self A _ ?_)
   rw [if_neg (by decide)]
   exact wpAny_pure ⟨rfl,rfl,fun z hz=>hl z (List.mem_cons_of_mem v hz)⟩
  ·rintro r s1 ⟨rfl,rfl,_⟩
   exact wpAny_pure q
theorem IW {A:Around} {d:Addr} {o:Obj} {es:Array DictEntry} {ep:Nat} {xs:List kU} {k:GK} {key:Value} {pl:List Nat} {Q:Option Nat→Shared→Prop} (hu:∀x∈xs,A.units+gd x.1<cLine) (hkey:(GR s.heap k).1 key)
  (ho:s.heap.get? d=some o) (hd:o.data=.dict es ep) (he:KEnt w s.heap es xs) (hpl:∀j p,xs[j]?=some (k,p)→j∈pl) (q:∀r,Z2 xs k r→Q r s) :
  wpAny (model prog w) A (dictWalkPlain d key (gh w k).1 es pl) Q E s:=by
 unfold dictWalkPlain
 refine wpAny_bind (wpAny_forIn_list _ (fun left r s1=>s1=s∧r=(none,())∧∀j p,xs[j]?=some (k,p)→j∈left) _ ?_ ?_ _ _ ⟨rfl,rfl,hpl⟩)
 ·rintro x left r s1 ⟨rfl,rfl,hl⟩
  have next:(∀p,xs[x]?≠some (k,p))→∀j p,xs[j]?=some (k,p)→j∈left:=fun hno j p hj=>by
   rcases List.mem_cons.mp (hl j p hj) with rfl|h
   ·exact absurd hj (hno p)
   ·exact h
  rw [he.at x]
  cases hx:xs[x]? with
  |none=>exact wpAny_pure ⟨rfl,rfl,next fun p h=>by rw [hx] at h;cases h⟩
  |some y =>
   obtain ⟨k',v',u'⟩:=y
   have hm:=List.mem_of_getElem? hx
   show wpAny _ A (if ((gh w k').1 == (gh w k).1)=true then _ else _) _ E _
   by_cases hh:((gh w k').1 == (gh w k).1)=true
   ·rw [if_pos hh]
    refine wpAny_bind (wpAny_dictEpoch ho hd (wpAny_bind ((pO k' k).1 A v' key (he.is _ hm) hkey (hu _ hm) prog w E _ (wpAny_bind (wpAny_dictEpoch ho hd ?_)))))
    rw [if_neg (by simp)]
    by_cases hkk:k'=k
    ·rw [decide_eq_true hkk,if_pos rfl]
     exact wpAny_bind (wpAny_rule (wpAny_pure (wpAny_pure (q _ ⟨_,hkk▸hx⟩))))
    ·rw [decide_eq_false hkk,if_neg (by decide)]
     exact wpAny_bind (wpAny_rule (wpAny_pure ⟨rfl,rfl,next fun p h=>by rw [hx] at h;injection h with h;injection h with h _;exact hkk h⟩))
   ·rw [if_neg hh]
    exact wpAny_pure ⟨rfl,rfl,next fun p h=>by rw [hx] at h;injection h with h;injection h with h _;rw [h] at hh;simp at hh⟩
 ·rintro r s1 ⟨rfl,rfl,hl⟩
  exact wpAny_pure (q none (show Z2 xs k none from fun j p h=>nomatch hl j p h))
theorem KF {es:Array DictEntry} {h:Int} {j:Nat}:j∈placesWithHash es.size (fun i=>es[i]?.map (·.hash)) h↔j<es.size∧(es[j]?.map (·.hash) == some h)=true:=by
 unfold placesWithHash
 rw [List.mem_filter,List.mem_range]
theorem xO {A:Around} {d:Addr} {o:Obj} {es:Array DictEntry} {ep:Nat} {xs:List kU} {k:GK} {key:Value} {Q:Option Nat→Shared→Prop} (hu:A.units+8<cLine) (hkey:(GR s.heap k).1 key) (hk8:gd k≤8)
    (ho:s.heap.get? d=some o) (hd:o.data=.dict es ep) (he:KEnt w s.heap es xs) (q:∀r,Z2 xs k r→Q r s) :
    wpAny (model prog w) A (dictFind d key (gh w k).1) Q E s:=by
  have hu':∀x∈xs,A.units+gd x.1<cLine:=fun x hx=>by have:=he.deep x hx;omega
  have hsz:es.size=xs.length:=by rw [← Array.length_toList,he.es,List.length_map]
  have hpl:∀j p,xs[j]?=some (k,p)→j∈placesWithHash es.size (fun i=>es[i]?.map (·.hash)) (gh w k).1:=fun j p hj=>by
    rw [KF,he.at j,hj]
    refine ⟨?_,by simp [zZ]⟩
    rw [hsz]
    exact (List.getElem?_eq_some_iff.mp hj).1
  have hof:∀e∈es,∃x∈xs,e=zZ w x:=fun e hin=>by
    have:e∈xs.map (zZ w):=he.es▸Array.mem_toList_iff.mpr hin
    obtain ⟨x,hx,rfl⟩:=List.mem_map.mp this
    exact ⟨x,hx,rfl⟩
  have plain:wpAny (model prog w) A (dictWalkPlain d key (gh w k).1 es (placesWithHash es.size (fun i=>es[i]?.map (·.hash)) (gh w k).1)) Q E s:=IW hu' hkey ho hd he hpl q
  have hst:∀v∈(placesWithHash es.size (fun i=>es[i]?.map (·.hash)) (gh w k).1).filterMap (fun i=>es[i]?.map (·.key)),zU prog w E s 8 v:=fun v hv=>by
    obtain ⟨i,_,hi⟩:=List.mem_filterMap.mp hv
    obtain ⟨e,h1,h2⟩:=Option.map_eq_some_iff.mp hi
    obtain ⟨x,hx,rfl⟩:=hof e (Array.mem_of_getElem? h1)
    subst h2
    exact (gF x.1 8 (he.deep x hx)).1 _ (he.is x hx)
  have hchg:∀a,key=.ref a→¬(es.any fun e=>e.key == key&&e.hash != (gh w k).1)=true:=fun a ha hany=>by
    rw [← Array.any_toList,List.any_eq_true] at hany
    obtain ⟨e,hin,hc⟩:=hany
    obtain ⟨x,hx,rfl⟩:=hof e (Array.mem_toList_iff.mp hin)
    rw [Bool.and_eq_true] at hc
    have e1:x.2.1=key:=eq_of_beq hc.1
    have e2:=(GR.inj x.1 k).1 key (e1▸he.is x hx) hkey
    have:=hc.2
    simp [zZ,e2] at this
  have hkey':=hkey
  have hkind:(∃n t,key=.int n t)∨(∃z t,key=.str z t∧k=.s z)∨∃a,key=.ref a:=by
    cases k with
    |i n=>exact .inl ⟨n,hkey⟩
    |s z=>obtain ⟨t,rfl⟩:=hkey;exact .inr (.inl ⟨z,t,rfl,rfl⟩)
    |nil=>obtain ⟨a,o,its,n,e,_⟩:=(GR.tup rfl).1 hkey;exact .inr (.inr ⟨a,e⟩)
    |cons x y=>obtain ⟨a,o,its,n,e,_⟩:=(GR.tup rfl).1 hkey;exact .inr (.inr ⟨a,e⟩)
  have hnd:(placesWithHash es.size (fun i=>es[i]?.map (·.hash)) (gh w k).1).Nodup:=by
    unfold placesWithHash
    exact List.Pairwise.filter _ List.nodup_range
  have hquiet:zU prog w E s 8 key:=(gF k 8 hk8).1 key hkey
  have texts:∀z t,key=.str z t→k=.s z→(es.all fun e=>isExactStrKey e.key)=true→Q (es.findIdx? fun e=>e.key.isStr z) s:=by
    rintro z t rfl rfl _
    cases hf:es.findIdx? fun e=>e.key.isStr z with
    |none =>
      refine q none (show Z2 xs (.s z) none from fun j p hj=>?_)
      obtain ⟨u,hu⟩:∃u,p.1=.str z u:=he.is _ (List.mem_of_getElem? hj)
      have e2:es[j]?=some (zZ w (.s z,p)):=by rw [he.at j,hj];rfl
      have:=Array.findIdx?_eq_none_iff.mp hf _ (Array.mem_of_getElem? e2)
      simp [zZ,hu,Value.isStr] at this
    |some j =>
      obtain ⟨hlt,hj,_⟩:=Array.findIdx?_eq_some_iff_getElem.mp hf
      refine q (some j) ?_
      obtain ⟨u,hu⟩:=KTD.kt_isStr hj
      have e2:=he.at j
      rw [Array.getElem?_eq_getElem hlt] at e2
      cases hx:xs[j]? with
      |none=>rw [hx] at e2;cases e2
      |some x =>
        rw [hx] at e2
        injection e2 with e2
        have hx1:=he.is x (List.mem_of_getElem? hx)
        have e3:x.2.1=.str z u:=by rw [← hu,e2];rfl
        have e4:=(GR.inj x.1 (.s z)).1 x.2.1 hx1 ⟨u,e3⟩
        exact ⟨x.2,by rw [hx,← e4]⟩
  by_cases htx:(∃z t,key=.str z t∧k=.s z)∧(es.all fun e=>isExactStrKey e.key)=true
  · obtain ⟨⟨z,t,rfl,rfl⟩,hall⟩:=htx
    exact KTD.kt_dictFind_strs ho hd hall (texts z t rfl rfl hall)
  unfold dictFind
  refine wpAny_holding (wpAny_bind (wpAny_dictEntries ho hd ?_))
  generalize hpl0:placesWithHash es.size (fun i=>es[i]?.map (·.hash)) (gh w k).1=pl at *
  rcases hkind with ⟨n,t,rfl⟩|⟨z,t,rfl,hz⟩|⟨a,rfl⟩<;>dsimp only
  case' inr.inl=>rw [if_neg fun hall=>htx ⟨⟨z,t,rfl,hz⟩,hall⟩]
  all_goals refine wpAny_ite_split (fun _=>plain) fun _=>?_
  case' inr.inr=>rw [if_neg (hchg a rfl)]
  all_goals refine wpAny_ite_split (fun _=>wpAny_bind (wpAny_pure ?_)) fun _=>wpAny_bind (IK hquiet hst ?_)
  all_goals
    rw [if_neg (by simp)]
    refine wpAny_bind (wpAny_forIn_list _ (fun left b s1=>s1=s∧left.Nodup∧∃hit,b=(none,hit)∧
      ((hit=none∧∀j p,xs[j]?=some (k,p)→j∈left)∨∃j p,hit=some j∧xs[j]?=some (k,p)∧j∉left)) _ ?_ ?_ _ _ ⟨rfl,hnd,none,rfl,.inl ⟨rfl,hpl⟩⟩)
    · rintro x left b s1 ⟨rfl,hno,hit,rfl,hH⟩
      rw [List.nodup_cons] at hno
      rw [he.at x]
      cases hx:xs[x]? with
      |none =>
        refine wpAny_pure ⟨rfl,hno.2,hit,rfl,?_⟩
        rcases hH with ⟨h0,hl⟩|⟨j,p,h1,h2,h3⟩
        · refine .inl ⟨h0,fun j p hj=>?_⟩
          rcases List.mem_cons.mp (hl j p hj) with rfl|h
          · rw [hx] at hj;cases hj
          · exact h
        · exact .inr ⟨j,p,h1,h2,fun h=>h3 (List.mem_cons_of_mem x h)⟩
      |some y =>
        obtain ⟨k',v',u'⟩:=y
        have hm:=List.mem_of_getElem? hx
        have other:k'≠k→(hit=none∧∀j p,xs[j]?=some (k,p)→j∈left)∨∃j p,hit=some j∧xs[j]?=some (k,p)∧j∉left:=fun hne=>by
          rcases hH with ⟨h0,hl⟩|⟨j,p,h1,h2,h3⟩
          · refine .inl ⟨h0,fun j p hj=>?_⟩
            rcases List.mem_cons.mp (hl j p hj) with rfl|h
            · rw [hx] at hj;injection hj with hj;injection hj with hj _;exact absurd hj hne
            · exact h
          · exact .inr ⟨j,p,h1,h2,fun h=>h3 (List.mem_cons_of_mem x h)⟩
        show wpAny _ A (if ((gh w k').1 == (gh w k).1)=true then _ else _) _ E _
        refine wpAny_ite_split (fun hh=>?_) fun hh=>wpAny_pure ⟨rfl,hno.2,hit,rfl,other fun e=>hh (by rw [e];exact beq_self_eq_true _)⟩
        refine wpAny_bind (wpAny_dictEpoch ho hd (wpAny_bind ((pO k' k).1 A v' _ (he.is _ hm) hkey' (hu' _ hm) prog w E _ (wpAny_bind (wpAny_dictEpoch ho hd ?_)))))
        rw [if_neg (by simp)]
        by_cases hkk:k'=k
        · rw [decide_eq_true hkk,if_pos rfl]
          subst hkk
          rcases hH with ⟨rfl,hl⟩|⟨j,p,rfl,h2,h3⟩
          · rw [if_neg (by simp)]
            refine wpAny_bind (wpAny_rule (wpAny_ite_split (fun _=>wpAny_pure (wpAny_pure (q (some x) ⟨_,hx⟩))) fun _=>wpAny_pure ⟨rfl,hno.2,some x,rfl,.inr ⟨x,_,rfl,hx,hno.1⟩⟩))
          · exact absurd (OB he.once h2 hx▸List.mem_cons_self) h3
        · rw [decide_eq_false hkk,if_neg (by decide)]
          refine wpAny_bind (wpAny_rule ?_)
          rw [if_neg (by simp)]
          exact wpAny_pure ⟨rfl,hno.2,hit,rfl,other hkk⟩
    · rintro b s1 ⟨rfl,_,hit,rfl,hH⟩
      rcases hH with ⟨rfl,hl⟩|⟨j,p,rfl,h2,_⟩
      · exact wpAny_pure (q none (show Z2 xs _ none from fun j p h=>nomatch hl j p h))
      · exact wpAny_pure (q (some j) ⟨p,h2⟩)
end
end L2
namespace L2
open PySem PySem.Spec PyProof.Rows
section
variable {prog:Program} {w:World} {A:Around} {E:Value→Shared→Prop} {s:Shared}
def DictG (w:World) (h:Heap) (d:Addr) (xs:List kU):Prop:=∃o es ep,h.get? d=some o∧o.ExactDict∧o.data=.dict es ep∧KEnt w h es xs
theorem DictG.typeIs {d:Addr} {xs:List kU} (x:DictG w s.heap d xs):s.TypeIs (.ref d) "dict":=let ⟨o,_,_,ho,hc,_⟩:=x;⟨o,ho,hc.1⟩
def yW (xs:List kU) (k:GK):Option Value:=(xs.find? fun x=>decide (x.1=k)).map (·.2.2)
def ZC (xs:List kU) (k:GK) (key v:Value):List kU:=if (xs.any fun x=>decide (x.1=k)) then xs.map (fun x=>if x.1=k then (x.1,x.2.1,v) else x) else xs++[(k,key,v)]
theorem uX {k:GK}:∀{xs:List kU} (_:(xs.map (·.1)).Nodup) {j:Nat} {p:Value×Value} (_:xs[j]?=some (k,p)),yW xs k=some p.2
 |[],_,j,p,h=>by cases j<;>cases h
 |x::xs,hn,0,p,h=>by cases h;simp [yW]
 |x::xs,hn,j+1,p,h=>by
  rw [List.map_cons,List.nodup_cons] at hn
  have h':xs[j]?=some (k,p):=h
  have hne:¬x.1=k:=fun e=>hn.1 (e▸List.mem_map.mpr ⟨_,List.mem_of_getElem? h',rfl⟩)
  have:=uX hn.2 h'
  simpa [yW,List.find?_cons,hne] using this
theorem NH {xs:List kU} {k:GK} (h:Z2 xs k none):(xs.any fun x=>decide (x.1=k))=false:=by
 rw [Bool.eq_false_iff]
 intro hx
 rw [List.any_eq_true] at hx
 obtain ⟨x,hm,hk⟩:=hx
 obtain ⟨j,hj⟩:=List.mem_iff_getElem?.mp hm
 exact h j x.2 (by rw [hj,← of_decide_eq_true hk])
theorem L7 {xs:List kU} {k:GK} (h:Z2 xs k none):yW xs k=none:=by
 have:xs.find? (fun x=>decide (x.1=k))=none:=by
  rw [List.find?_eq_none]
  intro x hm hk
  obtain ⟨j,hj⟩:=List.mem_iff_getElem?.mp hm
  exact h j x.2 (by rw [hj,← of_decide_eq_true hk])
 rw [yW,this]
 rfl
theorem AV {d:Addr} {xs:List kU} {k:GK} {key:Value} {Q:Option Value→Shared→Prop} (hu:A.units+8<cLine) (hkey:(GR s.heap k).1 key) (hk8:gd k≤8) (hm:DictG w s.heap d xs)
  (q:∀n,Q (yW xs k) {s with toks:=n}):wpAny (model prog w) A (dictGet d key) Q E s:=by
 obtain ⟨o,es,ep,ho,hc,hd,he⟩:=hm
 unfold dictGet
 refine wpAny_holding (wpAny_bind ((gO k).1 key A s _ hkey (by omega) fun n=>wpAny_bind (xO (s:={s with toks:=n}) hu hkey hk8 ho hd he fun r hr=>?_)))
 cases r with
 |none=>rw [← L7 hr];exact wpAny_pure (q n)
 |some j =>
  obtain ⟨p,hj⟩:=hr
  refine wpAny_bind (wpAny_dictEntries (s:={s with toks:=n}) ho hd ?_)
  rw [he.at j,hj]
  refine wpAny_pure ?_
  have:=q n
  rw [uX he.once hj] at this
  exact this
theorem sQ {h h':Heap} {d:Addr} {o:Obj} {es:Array DictEntry} {ep:Nat} (ho:h.get? d=some o) (hd:o.data=.dict es ep) (hs:Heap.SameBut d h h'):∀a o its n,h.get? a=some o→o.data=.seq its n→h'.get? a=some o:=by
 intro a o' its n ho' hd'
 have hne:a≠d:=by
  rintro rfl
  obtain rfl:o'=o:=Option.some.inj (ho'.symm.trans ho)
  rw [hd] at hd'
  cases hd'
 exact (hs.2 a hne).trans ho'
theorem LO {xs:List kU} {k:GK} {v:Value}:(xs.map (fun x=>if x.1=k then (x.1,x.2.1,v) else x)).map (·.1)=xs.map (·.1):=by
 rw [List.map_map]
 refine List.map_congr_left fun x _=>?_
 show (if x.1=k then (x.1,x.2.1,v) else x).1=x.1
 split<;>rfl
theorem uT {k:GK} {v:Value}:∀{xs:List kU} (_:(xs.map (·.1)).Nodup) {j:Nat} {p:Value×Value} (_:xs[j]?=some (k,p)),
  (xs.map (zZ w)).modify j (fun e=>{e with val:=v})=(xs.map (fun x=>if x.1=k then (x.1,x.2.1,v) else x)).map (zZ w)
 |[],_,j,p,h=>by cases j<;>cases h
 |x::xs,hn,0,p,h=>by
  cases h
  rw [List.map_cons,List.nodup_cons] at hn
  have e:xs.map (fun x=>if x.1=k then (x.1,x.2.1,v) else x)=xs:=by
   refine (List.map_congr_left fun x hx=>?_).trans (List.map_id xs)
   have hne:¬x.1=k:=fun e=>hn.1 (List.mem_map.mpr ⟨x,hx,e⟩)
   show (if x.1=k then (x.1,x.2.1,v) else x)=x
   rw [if_neg hne]
  rw [List.map_cons,List.map_cons,e]
  simp [zZ]
 |x::xs,hn,j+1,p,h=>by
  rw [List.map_cons,List.nodup_cons] at hn
  have h':xs[j]?=some (k,p):=h
  have hne:¬x.1=k:=fun e=>hn.1 (e▸List.mem_map.mpr ⟨_,List.mem_of_getElem? h',rfl⟩)
  rw [List.map_cons,List.map_cons,if_neg hne,List.map_cons,← uT hn.2 h']
  rfl
theorem AF {d:Addr} {xs:List kU} {k:GK} {key v:Value} {Q:Unit→Shared→Prop} (hu:A.units+8<cLine) (hkey:(GR s.heap k).1 key) (hk8:gd k≤8) (hm:DictG w s.heap d xs) (hsz:xs.length≤sizeLine)
  (q:∀n h',DictG w h' d (ZC xs k key v)→Heap.SameBut d s.heap h'→Q () {s with heap:=h',toks:=n}):wpAny (model prog w) A (dictSet d key v) Q E s:=by
 obtain ⟨o,es,ep,ho,hc,hd,he⟩:=hm
 have hz:es.size=xs.length:=by rw [← Array.length_toList,he.es,List.length_map]
 unfold dictSet
 refine wpAny_holding (wpAny_bind ((gO k).1 key A s _ hkey (by omega) fun n=>?_))
 unfold dictSetHashed
 refine wpAny_holding (wpAny_bind (xO (s:={s with toks:=n}) hu hkey hk8 ho hd he fun r hr=>?_))
 cases r with
 |none =>
  have e0:ZC xs k key v=xs++[(k,key,v)]:=by rw [ZC,NH hr];rfl
  refine wpAny_bind (wpAny_rule (wpAny_updateDictKeys (hz:=by omega) (s:={s with toks:=n}) ho hd (q n _ ?_ (Heap.SameBut.update ..))))
  rw [e0]
  have kp:=sQ ho hd (Heap.SameBut.update (h:=s.heap) (a:=d) (f:=fun o=>o.mapDictKeys fun es=>es.push ⟨(gh w k).1,key,v⟩))
  refine ⟨_,_,ep+1,Heap.get?_update_self _ ho (Obj.isFreed_of_dict (Obj.data_mapDictKeys hd _)),hc.mapDictKeys _,Obj.data_mapDictKeys hd _,?_,?_,?_,?_⟩
  ·rw [Array.toList_push,he.es,List.map_append];rfl
  ·intro x hx
   rcases List.mem_append.mp hx with hx|hx
   ·exact (GR.keep kp x.1).1 _ (he.is x hx)
   ·cases List.mem_singleton.mp hx;exact (GR.keep kp k).1 _ hkey
  ·intro x hx
   rcases List.mem_append.mp hx with hx|hx
   ·exact he.deep x hx
   ·cases List.mem_singleton.mp hx;exact hk8
  ·rw [List.map_append,List.nodup_append]
   refine ⟨he.once,by simp,fun a ha b hb e=>?_⟩
   cases List.mem_singleton.mp hb
   obtain ⟨x,hx,rfl⟩:=List.mem_map.mp ha
   obtain ⟨j,hj⟩:=List.mem_iff_getElem?.mp hx
   have e':x.1=k:=e
   exact hr j x.2 (by rw [hj,← e'])
 |some j =>
  obtain ⟨p,hj⟩:=hr
  have e0:ZC xs k key v=xs.map (fun x=>if x.1=k then (x.1,x.2.1,v) else x):=by
   rw [ZC,if_pos]
   rw [List.any_eq_true]
   exact ⟨_,List.mem_of_getElem? hj,decide_eq_true rfl⟩
  refine wpAny_bind (wpAny_rule (wpAny_bind (wpAny_updateDict (s:={s with toks:=n}) ho hd (wpAny_point (q n _ ?_ (Heap.SameBut.update ..))))))
  rw [e0]
  have kp:=sQ ho hd (Heap.SameBut.update (h:=s.heap) (a:=d) (f:=fun o=>o.mapDict fun es=>es.modify j fun e=>{e with val:=v}))
  refine ⟨_,_,ep,Heap.get?_update_self _ ho (Obj.isFreed_of_dict (Obj.data_mapDict hd _)),hc.mapDict _,Obj.data_mapDict hd _,?_,?_,?_,?_⟩
  ·rw [← uT he.once hj,← he.es]
   simp
  ·intro x hx
   obtain ⟨y,hy,rfl⟩:=List.mem_map.mp hx
   have:=(GR.keep kp y.1).1 _ (he.is y hy)
   split<;>exact this
  ·intro x hx
   obtain ⟨y,hy,rfl⟩:=List.mem_map.mp hx
   have:=he.deep y hy
   split<;>exact this
  ·rw [LO];exact he.once
end
end L2
namespace L2
open PySem PySem.Spec PyProof.Rows
section
variable {prog:Program} {w:World} {A:Around} {E:Value→Shared→Prop} {s:Shared} {d:Addr} {xs:List kU} {k:GK} {key v:Value}
theorem M6 {Q:Value→Shared→Prop} (hu:A.units+9<cLine) (hkey:(GR s.heap k).1 key) (hk8:gd k≤8) (hm:DictG w s.heap d xs) (hv:yW xs k=some v) (q:∀n,Q v {s with toks:=n}) :
  wpAny (model prog w) A (getItem (.ref d) key) Q E s:=by
 have T:=hm.typeIs
 unfold getItem
 refine wpAny_holding (wpAny_bind (wpAny_sequenceKey T (by decide) (wpAny_bind (wpAny_callSpecial?_slot (name:=Str.ofString "__getitem__") T slot_dict_getitem (wpAny_call_entry slot_dict_getitem T entry_dict_getitem ?_ (args_dict_getitem _ _))))))
 show wpAny _ A.in1 (dictGet d key >>= _) _ E s
 refine wpAny_bind (AV (by simp only [Around.in1_units];omega) hkey hk8 hm fun n=>?_)
 rw [hv]
 exact wpAny_pure ⟨v,rfl,wpAny_pure (q n)⟩
theorem LK {Q:Unit→Shared→Prop} (hu:A.units+9<cLine) (hkey:(GR s.heap k).1 key) (hk8:gd k≤8) (hm:DictG w s.heap d xs) (hsz:xs.length≤sizeLine)
  (q:∀n h',DictG w h' d (ZC xs k key v)→Heap.SameBut d s.heap h'→Q () {s with heap:=h',toks:=n}):wpAny (model prog w) A (setItem (.ref d) key v) Q E s:=by
 have T:=hm.typeIs
 unfold setItem
 refine wpAny_holding (wpAny_bind (wpAny_sequenceKey T (by decide) (wpAny_bind (wpAny_callSpecial?_slot (name:=Str.ofString "__setitem__") T slot_dict_setitem (wpAny_call_entry slot_dict_setitem T entry_dict_setitem ?_ (args_dict_setitem _ _ _))))))
 show wpAny _ A.in1 (Builtin.Dict.notOrdered "__setitem__" _ >>= _) _ E s
 refine wpAny_bind (wpAny_notOrdered_dict T ?_)
 show wpAny _ A.in1 (dictSet d key v >>= _) _ E s
 exact wpAny_bind (AF (by simp only [Around.in1_units];omega) hkey hk8 hm hsz fun n h' m sb=>wpAny_pure ⟨.none,rfl,wpAny_pure (q n h' m sb)⟩)
end
end L2
namespace L2
open PySem PySem.Spec PyProof.Rows
def GV (H:Hp):GK→(V→Prop)×(List V→Prop)
 |.i n=>(fun v=>v=.int n,fun _=>False)
 |.s x=>(fun v=>v=.str x,fun _=>False)
 |.nil=>(fun v=>∃a,v=.ref a∧H a=some (.tup []),fun l=>l=[])
 |.cons x y=>(fun v=>∃a l,v=.ref a∧H a=some (.tup l)∧∃u us,l=u::us∧(GV H x).1 u∧(GV H y).2 us,fun l=>∃u us,l=u::us∧(GV H x).1 u∧(GV H y).2 us)
theorem GV.keep {H H':Hp} (hk:∀a l,H a=some (.tup l)→H' a=some (.tup l)):∀k,(∀v,(GV H k).1 v→(GV H' k).1 v)∧(∀l,(GV H k).2 l→(GV H' k).2 l)
 |.i _=>⟨fun _ p=>p,fun _ p=>p⟩
 |.s _=>⟨fun _ p=>p,fun _ p=>p⟩
 |.nil=>⟨fun _ p=>by obtain ⟨a,e,q⟩:=p;exact ⟨a,e,hk _ _ q⟩,fun _ p=>p⟩
 |.cons x y=>by
  have c:∀l,(∃u us,l=u::us∧(GV H x).1 u∧(GV H y).2 us)→∃u us,l=u::us∧(GV H' x).1 u∧(GV H' y).2 us :=
   fun l ⟨u,us,e,p,q⟩=>⟨u,us,e,(GV.keep hk x).1 _ p,(GV.keep hk y).2 _ q⟩
  exact ⟨fun _ p=>by obtain ⟨a,l,e,q,r⟩:=p;exact ⟨a,l,e,hk _ _ q,c l r⟩,c⟩
section
variable {P:Program} {w:World} {H:Hp} {h:Heap}
theorem GV.rel (hok:HOk P w H h):∀k,(∀v u,(GV H k).1 v→RelV v u→(GR h k).1 u)∧(∀l us,(GV H k).2 l→Vals l us→(GR h k).2 us)
 |.i _=>⟨fun v u p r=>by cases p;exact r,fun _ _ p=>p.elim⟩
 |.s _=>⟨fun v u p r=>by cases p;exact r,fun _ _ p=>p.elim⟩
 |.nil=>by
  refine ⟨fun v u p r=>?_,fun l us p r=>by cases p;cases r;exact rfl⟩
  obtain ⟨a,rfl,q⟩:=p
  cases r
  obtain ⟨_,its,r2,o,ho,hc,n,hd⟩:=hok a _ q
  cases r2
  exact ⟨a,o,_,n,rfl,ho,hc,hd,rfl⟩
 |.cons x y=>by
  have c:∀l us,(∃u vs,l=u::vs∧(GV H x).1 u∧(GV H y).2 vs)→Vals l us→∃u vs,us=u::vs∧(GR h x).1 u∧(GR h y).2 vs:=by
   rintro l us ⟨u,vs,rfl,p1,p2⟩ r
   cases r with
   |cons r1 r2=>exact ⟨_,_,rfl,(GV.rel hok x).1 _ _ p1 r1,(GV.rel hok y).2 _ _ p2 r2⟩
  refine ⟨fun v u p r=>?_,c⟩
  obtain ⟨a,l,rfl,q,p'⟩:=p
  cases r
  obtain ⟨_,its,r2,o,ho,hc,n,hd⟩:=hok a _ q
  exact ⟨a,o,_,n,rfl,ho,hc,hd,c l its p' r2⟩
end
abbrev qK:=GK×V×V
def RelG (p:qK) (q:kU):Prop:=p.1=q.1∧RelV p.2.1 q.2.1∧RelV p.2.2 q.2.2
def GO (w:World) (d:Addr) (kvs:List qK):HO:=.ext fun h=>kvs.length≤sizeLine∧(d == sysModules)=false∧∃xs:List kU,Paired RelG kvs xs∧∃o es ep,h.get? d=some o∧o.ExactDict∧o.data=.dict es ep∧es.toList=xs.map (zZ w)
structure GOk (H:Hp) (kvs:List qK):Prop where
 key:∀p∈kvs,(GV H p.1).1 p.2.1
 deep:∀p∈kvs,gd p.1≤8
 once:(kvs.map (·.1)).Nodup
def zE (kvs:List qK) (k:GK):Option V:=(kvs.find? fun x=>decide (x.1=k)).map (·.2.2)
def yF (kvs:List qK) (k:GK) (y v:V):List qK:=if (kvs.any fun x=>decide (x.1=k)) then kvs.map (fun x=>if x.1=k then (x.1,x.2.1,v) else x) else kvs++[(k,y,v)]
theorem RelG.keys:∀{kvs:List qK} {xs:List kU},Paired RelG kvs xs→kvs.map (·.1)=xs.map (·.1)
 |_,_,.nil=>rfl
 |_,_,.cons r t=>by rw [List.map_cons,List.map_cons,r.1,RelG.keys t]
theorem RelG.mem {q:kU}:∀{kvs:List qK} {xs:List kU},Paired RelG kvs xs→q∈xs→∃p∈kvs,RelG p q
 |_,_,.nil,h=>nomatch h
 |_,_,.cons r t,h=>by
  rcases List.mem_cons.mp h with rfl|h
  ·exact ⟨_,List.mem_cons_self,r⟩
  ·obtain ⟨p,hp,rp⟩:=RelG.mem t h
   exact ⟨p,List.mem_cons_of_mem _ hp,rp⟩
theorem RelG.get {k:GK} {v:V}:∀{kvs:List qK} {xs:List kU},Paired RelG kvs xs→zE kvs k=some v→∃u,yW xs k=some u∧RelV v u
 |_,_,.nil,e=>by cases e
 |p::kvs,q::xs,.cons r t,e=>by
  by_cases h:p.1=k
  ·have h':q.1=k:=r.1▸h
   simp only [zE,List.find?_cons,h,decide_true,Option.map_some,Option.some.injEq] at e
   exact ⟨q.2.2,by simp [yW,h'],e▸r.2.2⟩
  ·have h':¬q.1=k:=r.1▸h
   simp only [zE,List.find?_cons,h,decide_false] at e
   obtain ⟨u,e1,e2⟩:=RelG.get t e
   exact ⟨u,by simpa [yW,List.find?_cons,h'] using e1,e2⟩
theorem RelG.none {k:GK}:∀{kvs:List qK} {xs:List kU},Paired RelG kvs xs→(yW xs k).isSome=(zE kvs k).isSome
 |_,_,.nil=>rfl
 |p::kvs,q::xs,.cons r t=>by
  have ih:=RelG.none (k:=k) t
  by_cases h:p.1=k
  ·have h':q.1=k:=r.1▸h
   simp [yW,zE,h,h']
  ·have h':¬q.1=k:=r.1▸h
   simpa [yW,zE,List.find?_cons,h,h'] using ih
theorem RelG.any {k:GK}:∀{kvs:List qK} {xs:List kU},Paired RelG kvs xs→(xs.any fun x=>decide (x.1=k))=(kvs.any fun x=>decide (x.1=k))
 |_,_,.nil=>rfl
 |_,_,.cons r t=>by rw [List.any_cons,List.any_cons,RelG.any t,r.1]
theorem RelG.put {k:GK} {v:V} {u:Value} (rv:RelV v u):∀{kvs:List qK} {xs:List kU},Paired RelG kvs xs→
  Paired RelG (kvs.map (fun x=>if x.1=k then (x.1,x.2.1,v) else x)) (xs.map (fun x=>if x.1=k then (x.1,x.2.1,u) else x))
 |_,_,.nil=>.nil
 |p::kvs,q::xs,.cons r t=>by
  refine .cons ?_ (RelG.put rv t)
  by_cases h:p.1=k
  ·have h':q.1=k:=r.1▸h
   dsimp only;rw [if_pos h,if_pos h'];exact ⟨r.1,r.2.1,rv⟩
  ·have h':¬q.1=k:=r.1▸h
   dsimp only;rw [if_neg h,if_neg h'];exact r
theorem RelG.app:∀{kvs kvs':List qK} {xs xs':List kU},Paired RelG kvs xs→Paired RelG kvs' xs'→Paired RelG (kvs++kvs') (xs++xs')
 |_,_,_,_,.nil,t=>t
 |_,_,_,_,.cons r t,t'=>.cons r (RelG.app t t')
theorem RelG.set {k:GK} {y v:V} {key u:Value} (ry:RelV y key) (rv:RelV v u) {kvs:List qK} {xs:List kU} (r:Paired RelG kvs xs):Paired RelG (yF kvs k y v) (ZC xs k key u):=by
 unfold yF ZC
 rw [RelG.any r]
 split
 ·exact RelG.put rv r
 ·exact RelG.app r (.cons ⟨rfl,ry,rv⟩ .nil)
theorem wV (kvs:List qK) (k:GK) (y v:V):(yF kvs k y v).length≤kvs.length+1:=by
 unfold yF
 split
 ·rw [List.length_map];omega
 ·rw [List.length_append];exact Nat.le_refl _
section
variable {X:Cx} {pins:List (Addr×Obj)} {σ:St} {H:Hp} {s:Shared} {d:Addr} {k:GK} {y v:V} {u r:Value} {A:Around} {E:Value→Shared→Prop} {kvs:List qK}
theorem Inv.gdict (I:Inv X pins σ H s) (e:Rd H d (GO X.w d kvs)) (g:GOk H kvs):kvs.length≤sizeLine∧(d == sysModules)=false∧∃xs,Paired RelG kvs xs∧DictG X.w s.heap d xs:=by
 obtain ⟨⟨hl,hm,xs,rel,o,es,ep,ho,hc,hd,he⟩,_,_⟩:=e.ok I.hok
 refine ⟨hl,hm,xs,rel,o,es,ep,ho,hc,hd,he,?_,?_,by rw [← RelG.keys rel];exact g.once⟩
 ·intro q hq
  obtain ⟨p,hp,rp⟩:=RelG.mem rel hq
  exact rp.1▸(GV.rel I.hok p.1).1 _ _ (g.key p hp) rp.2.1
 ·intro q hq
  obtain ⟨p,hp,rp⟩:=RelG.mem rel hq
  exact rp.1▸g.deep p hp
theorem PY {Q:Value→Shared→Prop} (hu:A.units+9<cLine) (I:Inv X pins σ H s) (e:Rd H d (GO X.w d kvs)) (g:GOk H kvs) (hy:(GV H k).1 y) (h8:gd k≤8) (hv:zE kvs k=some v) (ry:RelV y u)
  (h:∀w' s',Inv X pins σ H s'→RelV v w'→Q w' s'):wpAny (model X.prog X.w) A (getItem (.ref d) u) Q E s:=by
 obtain ⟨_,_,xs,rel,dd⟩:=I.gdict e g
 obtain ⟨w',hw,rw'⟩:=RelG.get rel hv
 exact M6 hu ((GV.rel I.hok k).1 y u hy ry) h8 dd hw fun n=>h w' _ (I.tok n) rw'
theorem OM {Q:Unit→Shared→Prop} (hu:A.units+9<cLine) (I:Inv X pins σ H s) (e:H d=some (GO X.w d kvs)) (g:GOk H kvs) (hy:(GV H k).1 y) (h8:gd k≤8) (hl:kvs.length<sizeLine) (ry:RelV y u) (rv:RelV v r)
  (h:∀s',Inv X pins σ (upd H d (GO X.w d (yF kvs k y v))) s'→Q () s'):wpAny (model X.prog X.w) A (setItem (.ref d) u r) Q E s:=by
 obtain ⟨_,hm,xs,rel,dd⟩:=I.gdict (.of e) g
 refine LK hu ((GV.rel I.hok k).1 y u hy ry) h8 dd (by rw [← Paired.length rel];omega) fun n h' dd' sb=>h _ ?_
 obtain ⟨o,es,ep,ho,hc,hd,he,_⟩:=dd'
 refine pE I (by rw [e];exact True.intro) sb ⟨o,ho⟩ ⟨⟨by have:=wV kvs k y v;omega,hm,_,RelG.set ry rv rel,o,es,ep,ho,hc,hd,he⟩,⟨o,ho⟩,?_⟩
 rintro h1 h2 ⟨a1,a2,xs',a3,o',es',ep',a4,a5⟩ kp
 exact ⟨a1,a2,xs',a3,o',es',ep',kp _ a4,a5⟩
end
end L2
namespace L2
open PySem PySem.Spec PyProof.Rows
variable {H:Hp}
theorem GOk.keep {H':Hp} {kvs:List qK} (g:GOk H kvs) (hk:∀a l,H a=some (.tup l)→H' a=some (.tup l)):GOk H' kvs:=⟨fun p hp=>(GV.keep hk p.1).1 _ (g.key p hp),g.deep,g.once⟩
theorem GOk.nil:GOk H []:=⟨fun _ h=>(nomatch h),fun _ h=>(nomatch h),List.nodup_nil⟩
theorem GOk.set {kvs:List qK} {k:GK} {y v:V} (g:GOk H kvs) (hy:(GV H k).1 y) (h8:gd k≤8):GOk H (yF kvs k y v):=by
 unfold yF
 by_cases ha:(kvs.any fun x=>decide (x.1=k))=true
 ·rw [if_pos ha]
  refine ⟨fun p hp=>?_,fun p hp=>?_,?_⟩
  ·obtain ⟨q,hq,rfl⟩:=List.mem_map.mp hp
   have:=g.key q hq
   split<;>exact this
  ·obtain ⟨q,hq,rfl⟩:=List.mem_map.mp hp
   have:=g.deep q hq
   split<;>exact this
  ·rw [List.map_map,show ((fun x:qK=>x.1)∘fun x=>if x.1=k then (x.1,x.2.1,v) else x)=(·.1) from funext fun x=>by show (if x.1=k then (x.1,x.2.1,v) else x).1=x.1;split<;>rfl]
   exact g.once
 ·rw [if_neg ha]
  refine ⟨fun p hp=>?_,fun p hp=>?_,?_⟩
  ·rcases List.mem_append.mp hp with hp|hp
   ·exact g.key p hp
   ·cases List.mem_singleton.mp hp;exact hy
  ·rcases List.mem_append.mp hp with hp|hp
   ·exact g.deep p hp
   ·cases List.mem_singleton.mp hp;exact h8
  ·rw [List.map_append,List.nodup_append]
   refine ⟨g.once,by simp,fun a h1 b h2 e=>ha ?_⟩
   cases List.mem_singleton.mp h2
   obtain ⟨q,hq,rfl⟩:=List.mem_map.mp h1
   rw [List.any_eq_true]
   exact ⟨q,hq,decide_eq_true e⟩
def RA (w:World) (td ty:TE):TE:=fun σ H Q=>td σ H fun x H1=>ty σ H1 fun y H2=>∃(d:Addr) (kvs:List qK) (k:GK) (v:V),x=.ref d∧Rd H2 d (GO w d kvs)∧GOk H2 kvs∧(GV H2 k).1 y∧gd k≤8∧zE kvs k=some v∧Q v H2
def RJ (w:World) (td ty tv:TE):TS:=fun D σ H=>tv σ H fun v H1=>td σ H1 fun x H2=>ty σ H2 fun y H3=>∃(d:Addr) (kvs:List qK) (k:GK),x=.ref d∧H3 d=some (GO w d kvs)∧GOk H3 kvs∧(GV H3 k).1 y∧gd k≤8∧kvs.length<sizeLine∧D.nx σ (upd H3 d (GO w d (yF kvs k y v)))
section
variable {X:Cx} {o i e value:Expr} {pos pos':Pos} {td ty tv:TE}
theorem AM (hu:X.A.units+9<cLine) (ho:PE X o td) (hi:PE X i ty) (hs:rM i):PE X (.Subscript o i pos) (RA X.w td ty):=by
 intro pins s σ H Q I h
 refine xY PySem.F.slot_dict_getitem.lookup hs (jN (ho pins s σ H _ I h) fun u s1 ⟨x,H1,I1,rx,q1⟩=>jN (hi pins s1 σ H1 _ I1 q1) fun iv s2 ⟨y,H2,I2,ry,d,kvs,k,v,ex,hd,g,hy,h8,hv,q2⟩=>?_)
 subst ex
 obtain rfl:u=Value.ref d:=rx
 obtain ⟨_,_,xs,_,dd⟩:=I2.gdict hd g
 exact ⟨dd.typeIs,PY hu I2 hd g hy h8 hv ry fun w' s3 I3 rw'=>⟨v,H2,I3,rw',q2⟩⟩
theorem N4 (hu:X.A.units+9<cLine) (ho:PE X o td) (hi:PE X i ty) (hv:PE X value tv) (hs:swapsWith value (some (.Subscript o i pos')) pos.line X.env=pure false) :
  PS X (.Assign [.Subscript o i pos'] value pos) (RJ X.w td ty tv):=by
 intro pins s σ H D I h
 refine wpAny_Assign_Subscript (jN (hv pins s σ H _ I h) fun r s1 ⟨v,H1,I1,rv,q1⟩=>jN (ho pins s1 σ H1 _ I1 q1) fun u s2 ⟨x,H2,I2,rx,q2⟩=>jN (hi pins s2 σ H2 _ I2 q2) fun iv s3 ⟨y,H3,I3,ry,d,kvs,k,ex,hd,g,hy,h8,hl,q3⟩=>?_) hs
 subst ex
 obtain rfl:u=Value.ref d:=rx
 exact OM hu I3 hd g hy h8 hl ry rv fun s4 I4=>⟨σ,_,I4,q3⟩
theorem N1 {s:Shared} {A:Around} {x y:GK} {v u:Value} (p:(GR s.heap x).1 v) (q:(GR s.heap y).1 u) (hu:A.units+gd x<cLine):SeqAt.RcAt A s v u (decide (x=y)):=by
 have tt:J0 x=true→J0 y=true→SeqAt.RcAt A s v u (decide (x=y)):=fun hx hy=>by
  obtain ⟨a,o,its,n,rfl,ho,hc,hd,hl⟩:=(GR.tup hx).1 p
  obtain ⟨a',o',its',n',rfl,ho',hc',hd',hl'⟩:=(GR.tup hy).1 q
  obtain ⟨e,he,hr⟩:=(pO x y).2 A.in1 _ _ hl hl' (by simp only [Around.in1_units];omega)
  have r:=SeqAt.RcAt.tuples (A:=A) (s:=s) (e:=e) (items:=its) (items2:=its') ⟨o,ho,hc,n,hd⟩ ⟨o',ho',hc',n',hd'⟩ (by omega) (fun j h1 h2=>by have:=he j (by simpa using h1) (by simpa using h2);rwa [Array.getElem_toList,Array.getElem_toList] at this)
  rw [Array.length_toList,Array.length_toList] at hr
  rw [hr] at r
  exact r
 have ti:J0 x=true→∀n t,u=.int n t→SeqAt.RcAt A s v u false:=fun hx n t e=>by
  obtain ⟨a,o,its,m,rfl,ho,hc,hd,_⟩:=(GR.tup hx).1 p
  subst e
  exact SeqAt.RcAt.tuple_int _ _ ⟨o,ho,hc,_,hd⟩ (by omega)
 have ts:J0 x=true→∀n t,u=.str n t→SeqAt.RcAt A s v u false:=fun hx n t e=>by
  obtain ⟨a,o,its,m,rfl,ho,hc,hd,_⟩:=(GR.tup hx).1 p
  subst e
  exact SeqAt.RcAt.tuple_str _ _ ⟨o,ho,hc,_,hd⟩ (by omega)
 have it:J0 y=true→∀n t,v=.int n t→SeqAt.RcAt A s v u false:=fun hy n t e=>by
  obtain ⟨a,o,its,m,rfl,ho,hc,hd,_⟩:=(GR.tup hy).1 q
  subst e
  exact SeqAt.RcAt.int_tuple _ _ ⟨o,ho,hc,_,hd⟩ (by omega)
 have st:J0 y=true→∀n t,v=.str n t→SeqAt.RcAt A s v u false:=fun hy n t e=>by
  obtain ⟨a,o,its,m,rfl,ho,hc,hd,_⟩:=(GR.tup hy).1 q
  subst e
  exact SeqAt.RcAt.str_tuple _ _ ⟨o,ho,hc,_,hd⟩ (by omega)
 cases x with
 |i n =>
  obtain ⟨t,rfl⟩:=p
  cases y with
  |i m=>obtain ⟨t',rfl⟩:=q;rw [show decide (GK.i n=GK.i m)=(n == m) by by_cases e:n=m<;>simp [e]];exact SeqAt.RcAt.int_int n t m t'
  |s z=>obtain ⟨t',rfl⟩:=q;exact SeqAt.RcAt.int_str _ _ _ _
  |nil=>exact it rfl n t rfl
  |cons a b=>exact it rfl n t rfl
 |s n =>
  obtain ⟨t,rfl⟩:=p
  cases y with
  |i m=>obtain ⟨t',rfl⟩:=q;exact SeqAt.RcAt.str_int _ _ _ _
  |s z=>obtain ⟨t',rfl⟩:=q;rw [show decide (GK.s n=GK.s z)=(n == z) by by_cases e:n=z<;>simp [e]];exact SeqAt.RcAt.str_str n t z t'
  |nil=>exact st rfl n t rfl
  |cons a b=>exact st rfl n t rfl
 |nil =>
  cases y with
  |i m=>obtain ⟨t',e⟩:=q;exact ti rfl m t' e
  |s z=>obtain ⟨t',e⟩:=q;exact ts rfl z t' e
  |nil=>exact tt rfl rfl
  |cons a b=>exact tt rfl rfl
 |cons a b =>
  cases y with
  |i m=>obtain ⟨t',e⟩:=q;exact ti rfl m t' e
  |s z=>obtain ⟨t',e⟩:=q;exact ts rfl z t' e
  |nil=>exact tt rfl rfl
  |cons a b=>exact tt rfl rfl
def SS:R2:=fun x y H Q=>∃k k',(GV H k).1 x∧(GV H k').1 y∧gd k≤8∧Q (.bl (decide (k=k'))) H
theorem PH (hu:X.A.units+9<cLine):qU X (compareOp .Eq) SS:=by
 intro pins s σ H x y v u Q I rx ry h
 obtain ⟨k,k',hx,hy,h8,q⟩:=h
 exact N1 ((GV.rel I.hok k).1 x v hx rx) ((GV.rel I.hok k').1 y u hy ry) (by omega) X.prog X.w X.xe _ ⟨.bl _,H,I,rfl,q⟩
end
end L2
namespace L2
open PySem PySem.Spec PyProof.Rows
section
variable {X:Cx} {pins:List (Addr×Obj)} {σ:List (Option V)} {H:Hp} {s:Shared}
def FnO (f:Addr) (o:Obj):HO:=.ext fun h=>h.get? f=some o
theorem Inv.fnMade {P:Addr} {ps more:Array Value} {h':Heap} {o:Obj} {t':Nat} (I:Inv X pins σ H s) (hP:H P=some (.tbl ps)) (hx:Heap.ExtBut P s.heap h') (hsz:s.heap.objs.size≤h'.objs.size) (hP':h'.get? P=some {cls:=.none,data:=.fields (ps++more)}) (hfr:o.isFreed=false) :
  Inv X pins σ (upd (upd H P (.tbl (ps++more))) h'.objs.size (FnO h'.objs.size o)) {s with heap:=h'.push o,toks:=t'}:=by
 have hPs:ObjOk X.prog X.w H s.heap P (.tbl ps):=I.hok P _ hP
 have key:∀b u,b≠P→s.heap.get? b=some u→(h'.push o).get? b=some u:=fun b u hb e=>Heap.get?_push_of_some _ (hx b u hb e)
 have hlt:∀b,b<s.heap.objs.size→b≠h'.objs.size:=fun b e=>Nat.ne_of_lt (Nat.lt_of_lt_of_le e hsz)
 have hf:∀b u,s.heap.get? b=some u→b≠h'.objs.size:=fun b u e=>hlt b (Heap.lt_size e)
 have ht:∀b u,H b=some u→b≠h'.objs.size:=fun b u e=>hlt b (I.hok b u e).lt
 have hfP:P≠h'.objs.size:=ht P _ hP
 have hnP:∀b,H b=none→b≠P:=fun b n z=>by rw [z,hP] at n;cases n
 have hoP:∀b u,H b=some u→u≠.tbl ps→b≠P:=fun b u e n z=>by rw [z,hP] at e;cases e;exact n rfl
 refine I.un ⟨fun b ob e n _ _=>key b ob (hnP b n) e,fun b ob e n _ _=>⟨ob.slots,key b ob (hnP b n) e⟩,fun b ob e n _=>?_,fun b ob e _=>?_,fun b xs e=>?_,fun b ob u e=>?_,fun b qs e=>?_⟩ fun b u e=>?_
 ·rw [jL (hf b ob e),jL (hnP b n)];exact n
 ·by_cases z:b=P
  ·subst z;exact ⟨_,Heap.get?_push_of_some _ hP'⟩
  ·exact ⟨ob,key b ob z e⟩
 ·rw [jL (ht b _ e),jL (hoP b _ e (fun z=>nomatch z))];exact e
 ·rw [jL (ht b _ e),jL (hoP b _ e (fun z=>nomatch z))];exact e
 ·by_cases z:b=P
  ·subst z
   rw [hP] at e;cases e
   exact ⟨more,by rw [jL hfP,jE]⟩
  ·exact ⟨#[],by rw [jL (ht b _ e),jL z,e];simp⟩
 ·by_cases z:b=h'.objs.size
  ·subst z
   rw [jE] at e;cases e
   exact ⟨Heap.get?_push_size _ hfr,⟨_,Heap.get?_push_size _ hfr⟩,fun h1 h2 q k=>k _ q⟩
  rw [jL z] at e
  by_cases zP:b=P
  ·subst zP
   rw [jE] at e;cases e
   exact Heap.get?_push_of_some _ hP'
  rw [jL zP] at e
  refine (I.hok b u e).stay (fun c v hc r=>key c v ?_ r) (fun c r=>?_) fun c xs r=>?_
  ·rcases hc with rfl|hc
   ·exact zP
   ·exact hoP c _ hc (fun z=>nomatch z)
  ·rw [jL (ht c _ r),jL (hoP c _ r (fun z=>nomatch z))];exact r
  ·rw [jL (ht c _ r),jL (hoP c _ r (fun z=>nomatch z))];exact r
end
end L2
namespace L2
open PySem PySem.Spec PyProof.Rows
def vR (H:Hp) (cs:List Addr):Hp:=fun b=>if b∈cs then none else H b
def QM (H' H:Hp) (cs:List Addr):Hp:=fun b=>if b∈cs then H b else H' b
variable {H:Hp} {cs:List Addr} {b:Addr}
theorem bI (h:b∈cs):vR H cs b=none:=if_pos h
theorem yQ (h:b∉cs):vR H cs b=H b:=if_neg h
theorem pF {H':Hp} (h:b∈cs):QM H' H cs b=H b:=if_pos h
theorem vZ {H':Hp} (h:b∉cs):QM H' H cs b=H' b:=if_neg h
section
variable {P:Program} {w:World} {H H' HC:Hp} {h h':Heap} {cs fs:List Addr}
theorem FnO.ok {c:Addr} {o:Obj} (e:h.get? c=some o):ObjOk P w H h c (FnO c o):=⟨e,⟨o,e⟩,fun _ _ q k=>k _ q⟩
theorem FnO.get {c:Addr} {o:Obj} (x:HOk P w H h) (e:H c=some (FnO c o)):h.get? c=some o:=(x c _ e).1
def eD (H:Hp) (cs:List Addr):Prop:=∀c∈cs,∃o,H c=some (FnO c o)
theorem HOk.unhide (x:HOk P w H' h) (hn:∀c∈cs,H' c=none) (hc:∀c∈cs,∃o,H c=some (FnO c o)∧h.get? c=some o):HOk P w (QM H' H cs) h:=fun b u e=>by
 by_cases hb:b∈cs
 ·rw [pF hb] at e
  obtain ⟨o,e2,g⟩:=hc b hb
  rw [e2] at e;cases e
  exact FnO.ok g
 ·rw [vZ hb] at e
  refine (x b u e).stay (fun _ _ _ q=>q) (fun c q=>?_) fun c xs q=>?_
  ·rw [vZ];exact q
   intro hin;rw [hn c hin] at q;cases q
  ·rw [vZ];exact q
   intro hin;rw [hn c hin] at q;cases q
theorem Un.unhide (u:Un fs [] (vR H cs) H' h h') (hc:eD H cs):Un fs [] H (QM H' H cs) h h':=by
 have no:∀b,H b=none→b∉cs:=fun b n hin=>by obtain ⟨o,e⟩:=hc b hin;rw [n] at e;cases e
 have nt:∀b v,H b=some v→(∀o,v≠FnO b o)→b∉cs:=fun b v e n hin=>by obtain ⟨o,e2⟩:=hc b hin;rw [e] at e2;cases e2;exact n o rfl
 refine ⟨fun b o e n=>u.keep b o e (by rw [yQ (no b n)];exact n),fun b o e n=>u.slot b o e (by rw [yQ (no b n)];exact n),fun b o e n hx=>?_,fun b o e hx=>u.there b o e hx,fun b xs e=>?_,fun b o v e=>?_,fun b ps e=>?_⟩
 ·rw [vZ (no b n)];exact u.free b o e (by rw [yQ (no b n)];exact n) hx
 ·have:=nt b _ e (fun _ z=>nomatch z)
  rw [vZ this];exact u.tups b xs (by rw [yQ this];exact e)
 ·have:=nt b _ e (fun _ z=>nomatch z)
  rw [vZ this];exact u.frzs b o v (by rw [yQ this];exact e)
 ·have:=nt b _ e (fun _ z=>nomatch z)
  rw [vZ this];exact u.tbls b ps (by rw [yQ this];exact e)
end
def iN (CX:vE) (P:Program) (w:World) (K:PySem.W.Frag) (mg:Str→Option Value) (base:Heap) (N:List Str) (qual:Str) (scope:Scope) (f:Addr) (cd:Value) (cl:List (Str×Addr)) (A:Around) (outer:List Env) (s:Shared) (H:Hp) (E:XK):Cx where
 prog:=P
 w:=w
 K:=K
 mg:=mg
 base:=base
 A:=A.deeper (PySem.W.envX qual scope s.heap.objs.size f cd cl)
 N:=N
 s₀:=s
 H₀:=vR H (cl.map (·.2))
 env:=PySem.W.envX qual scope s.heap.objs.size f cd cl
 outer:=outer
 stack:=PySem.W.envX qual scope s.heap.objs.size f cd cl::outer
 ex:=[]
 calm:=true
 fn:=fun _=>false
 pn:=[]
 xe:=fun e s'=>wpAny (model P w) (A.deeper (PySem.W.envX qual scope s.heap.objs.size f cd cl)) (leaving (PySem.W.envX qual scope s.heap.objs.size f cd cl) e) (fun _ s''=>CX outer H s E e s'') (fun e' s''=>CX outer H s E e' s'') s'
end L2
namespace L2
open PySem PySem.Spec PyProof.Rows
theorem MW {cl:List (Str×Addr)} (hn:(cl.map (·.2)).Nodup) {x y:Str} {c:Addr} (h1:cl.lookup x=some c) (h2:cl.lookup y=some c):x=y:=by
 obtain ⟨i,hi⟩:=List.mem_iff_getElem?.mp (PySem.mem_of_lookup h1)
 obtain ⟨j,hj⟩:=List.mem_iff_getElem?.mp (PySem.mem_of_lookup h2)
 have a:(cl.map (·.2))[i]?=some c:=by rw [List.getElem?_map,hi];rfl
 have b:(cl.map (·.2))[j]?=some c:=by rw [List.getElem?_map,hj];rfl
 obtain rfl:=(List.getElem?_inj (List.getElem?_eq_some_iff.mp a).1 hn).mp (a.trans b.symm)
 rw [hi] at hj
 cases hj
 rfl
section
variable {CX:vE} {P:Program} {w:World} {K:PySem.W.Frag} {mg:Str→Option Value} {base:Heap} {N ps fr:List Str} {qual:Str} {params:Arguments} {body:List Stmt} {scope:Scope} {f:Addr} {cdv:Value} {fd:FuncData} {cl:List (Str×Addr)} {A:Around} {outer:List Env} {s:Shared} {H:Hp} {E:XK} {Q:VK} {us:List Value} {vs fvs:List V} {k:Nat} {args:Args}
end
end L2
namespace L2
open PySem PySem.Spec PyProof.Rows
structure FnV (P:Program) (w:World) (K:PySem.W.Frag) (mg:Str→Option Value) (base:Heap) (CX:vE) (k:Nat) (sp:Addr→Sp):Prop where
 fn:∀f vs H Q E,sp f vs H Q E→∃fo fd,H f=some (FnO f fo)∧fo.data=.func fd
 run:∀(A:Around) (outer:List Env) (s:Shared) (H:Hp) (f:Addr) (us:List Value) (vs:List V) (Q:VK) (E:XK),Room k A→Env0 P w K mg base A outer s H→Vals vs us→sp f vs H Q E→
  codeAny (model P w) A (.call (.ref f) ⟨us,[]⟩) (CR CX outer P w H s Q E) s
theorem HX {M:Model} {A:Around} {E:Value→Shared→Prop} {s:Shared} {env:Env} {pos:Pos} {f:Addr} {e:Expr} {rest:List Expr} {Q:Value→Shared→Prop}
  (h:wpAny M A (spliced (backTo pos (starEach (e::rest) env))) (fun vs s1=>∃fo fd,s1.heap.get? f=some fo∧fo.data=.func fd∧wpAny M A (call (.ref f) vs) Q E s1) E s)
  (he:starEach (e::rest) env=(false,eval e env)::starEach rest env) (hpl:(backTo pos (starEach rest env)).any (·.1)=false):wpAny M A (callWith pos (.ref f) [] (backTo pos (starEach (e::rest) env)) []) Q E s:=by
 rw [he] at h ⊢
 refine PySem.W.callWith_of (P:=fun g=>∃fo fd,g.get? f=some fo∧fo.data=.func fd) (by show ((false||(backTo pos (starEach rest env)).any (·.1))||false)=false;rw [hpl];rfl) (fun g hg=>?_) (PySem.Calls.evalArgs_plain (wpAny_mono h (fun vs s1 h1=>?_) fun _ _ y=>y))
 ·obtain ⟨⟨cls,dict,data,slots⟩,fd,ho,hd⟩:=hg
  cases hd
  exact ⟨.frame,.inl rfl,(PySem.W.Looks.ld (part:=none) ho).andThen .now⟩
 ·obtain ⟨fo,fd,ho,hd,q⟩:=h1
  exact ⟨⟨fo,fd,ho,hd⟩,q⟩
section
variable {X:Cx} {CX:vE} {k:Nat} {sp:Addr→Sp} {E:XK} {x:Str} {p pos:Pos} {e:Expr} {es:List Expr} {t:TA} {i:Nat}
def O2 (i:Nat) (sp:Addr→Sp) (E:XK) (t:TA):TE:=fun σ H Q=>∃f,σ[i]?=some (some (.ref f))∧t σ H fun vs H1=>sp f vs H1 Q E
theorem gL (F:FnV X.prog X.w X.K X.mg X.base CX k sp) (hr:Room k X.A) (hx:Q4 CX X E) (hN:X.N[i]?=some x) (hv:eM X.env.scope x) (ha:PA X (e::es) t) (hd:(x == ("__debug__":Str))=false:=by decide) (hcd:(x == ("__classdict__":Str))=false:=by decide)
  (he:starEach (e::es) X.env=(false,eval e X.env)::starEach es X.env:=by rfl) (hpl:(backTo pos (starEach es X.env)).any (·.1)=false:=by rfl):PE X (.Call (.Name x p) (e::es) [] pos) (O2 i sp E t):=by
 intro pins s σ H Q I h
 obtain ⟨f,e1,h⟩:=h
 refine wpAny_Call_Name_kw (jN (BU hN hv hd hcd pins s σ H (fun v H'=>v=V.ref f∧t σ H' fun vs H1=>sp f vs H1 Q E) I ⟨.ref f,e1,rfl,h⟩) fun u s1 ⟨x',H1,I1,rx,ex,q1⟩=>?_)
 subst ex
 obtain rfl:u=Value.ref f:=rx
 refine HX (jN (ha pos pins s1 σ H1 _ I1 q1) fun us s2 ⟨vs,H2,I2,r,q2⟩=>?_) he hpl
 obtain ⟨fo,fd,g1,g2⟩:=F.fn _ _ _ _ _ q2
 refine ⟨fo,fd,FnO.get I2.hok g1,g2,wpAny_call (codeAny_mono (F.run X.A X.stack s2 H2 f us vs Q E hr I2.env0 r q2) fun r s' hq=>?_)⟩
 cases r with
 |error e=>exact hx pins σ H2 s2 e s' I2 hq
 |ok fl =>
  cases fl with
  |ret u=>exact I2.after hq
  |next=>exact False.elim hq
  |brk=>exact False.elim hq
  |cont=>exact False.elim hq
end
end L2
namespace L2
open PySem PySem.Spec PyProof.Rows
section
variable {X:Cx} {k k':Nat} {f:Addr} {fd:FuncData} {ps:List Str} {sp:Sp} {dvs:List V} {ds:List Value} {x:Str} {p pos:Pos} {e:Expr} {es:List Expr} {t:TA} {cs:List (Nat×Addr)}
end
section
variable {X:Cx} {pins:List (Addr×Obj)} {σ:List (Option V)} {H:Hp} {s:Shared}
theorem Inv.fnMade2 {P c:Addr} {ps more:Array Value} {h':Heap} {o oc:Obj} {t':Nat} (I:Inv X pins σ H s) (hP:H P=some (.tbl ps)) (hx:Heap.ExtBut P s.heap h') (hsz:s.heap.objs.size≤h'.objs.size) (hP':h'.get? P=some {cls:=.none,data:=.fields (ps++more)}) (hfr:o.isFreed=false)
  (hc1:s.heap.objs.size≤c) (hc2:h'.get? c=some oc) :
  Inv X pins σ (upd (upd (upd H P (.tbl (ps++more))) h'.objs.size (FnO h'.objs.size o)) c (FnO c oc)) {s with heap:=h'.push o,toks:=t'}:=by
 have J:=I.fnMade (o:=o) (t':=t') hP hx hsz hP' hfr
 have hcP:c≠P:=fun z=>by have:=(I.hok P _ hP).lt;exact absurd (Nat.lt_of_lt_of_le (z▸this) hc1) (Nat.lt_irrefl _)
 have hcf:c≠h'.objs.size:=fun z=>absurd (Heap.lt_size hc2) (by rw [z];exact Nat.lt_irrefl _)
 have hg:(h'.push o).get? c=some oc:=Heap.get?_push_of_some _ hc2
 have hHc:upd (upd H P (.tbl (ps++more))) h'.objs.size (FnO h'.objs.size o) c=none:=by
  rw [jL hcf,jL hcP];exact I.hok.fresh hc1
 have hns:∀b u,s.heap.get? b=some u→b≠c:=fun b u e z=>absurd (Nat.lt_of_lt_of_le (z▸Heap.lt_size e) hc1) (Nat.lt_irrefl _)
 have hks:∀b u,X.s₀.heap.get? b=some u→b≠c:=fun b u e z=>by
  have h1:=Heap.lt_size e
  have h2:=I.sz
  exact absurd (Nat.lt_of_lt_of_le (Nat.lt_of_lt_of_le (z▸h1) h2) hc1) (Nat.lt_irrefl _)
 refine ⟨J.ok,J.os,J.bare,?_,J.loc,J.cell,?_,fun y d e=>?_,fun p hp=>?_,fun b u e=>?_,J.len⟩
 ·obtain ⟨k1,k2,k3,k4,k5,k6,k7⟩:=J.base
  have ne:∀b v,H b=some v→b≠c:=fun b v e z=>absurd (Nat.lt_of_lt_of_le (z▸(I.hok b v e).lt) hc1) (Nat.lt_irrefl _)
  refine ⟨k1,k2,fun b ob e n hx'=>?_,k4,fun b xs e=>?_,fun b ob u e=>?_,fun b qs e=>?_⟩
  ·rw [jL (hks b ob e)];exact k3 b ob e n hx'
  ·rw [jL (ne b _ (I.base.tups b xs e))];exact k5 b xs e
  ·rw [jL (ne b _ (I.base.frzs b ob u e))];exact k6 b ob u e
  ·obtain ⟨more',e'⟩:=I.base.tbls b qs e
   rw [jL (ne b _ e')];exact k7 b qs e
 ·rw [jL fun z=>?_];exact J.free
  have:=I.lt
  exact absurd (Nat.lt_of_lt_of_le (z▸this) hc1) (Nat.lt_irrefl _)
 ·rw [jL fun z=>?_];exact J.freeC y d e
  obtain ⟨v,o',ho',_⟩:=I.cell y d e
  exact hns d o' ho' z
 ·obtain ⟨a1,a2,a3,a4,a5⟩:=J.pin p hp
  refine ⟨a1,?_,a3,a4,a5⟩
  rw [jL fun z=>?_];exact a2
  exact hns p.1 _ (I.pin p hp).1 z
 ·by_cases z:b=c
  ·subst z;rw [jE] at e;cases e;exact FnO.ok hg
  ·rw [jL z] at e
   refine (J.hok b u e).stay (fun _ _ _ q=>q) (fun d q=>?_) fun d xs q=>?_
   ·rw [jL fun z=>?_];exact q
    rw [z,hHc] at q;cases q
   ·rw [jL fun z=>?_];exact q
    rw [z,hHc] at q;cases q
end
end L2
namespace L2
open PySem PySem.Spec PyProof.Rows
end L2
namespace L2
open PySem PySem.Spec PyProof.Rows
theorem BZ {sc:Scope} {fr:List Str} (h:∀y∈sc.names,y.2=.free→y.1∈fr):∀x,sc.names.lookup x=some .free→x∈fr:=fun x e=>h _ (PySem.mem_of_lookup e) rfl
theorem bL {A:Around} {k:Nat} (hr:Room k A):A.units+9<cLine:=by have:=hr.units;omega
theorem bE {A:Around} {k:Nat} (hr:Room k A):A.units+10<cLine:=by have:=hr.units;omega
theorem oY {H:Hp} {cs:List Addr} (hc:eD H cs):∀a l,H a=some (.tup l)→vR H cs a=some (.tup l):=fun a l e=>by
 rw [yQ];exact e
 intro hin;obtain ⟨o,e2⟩:=hc a hin;rw [e] at e2;cases e2
section
variable {P:Program} {w:World} {K:PySem.W.Frag} {mg:Str→Option Value} {base:Heap}
end
end L2
namespace L2
open PySem PySem.Spec PyProof.Rows
section
variable {prog:Program} {w:World} {A:Around} {E:Value→Shared→Prop} {s:Shared} {d:Addr} {xs:List kU} {k:GK} {key v:Value}
theorem LW {Q:Value→Shared→Prop} (hu:A.units+9<cLine) (hkey:(GR s.heap k).1 key) (hk8:gd k≤8) (hd:(d == sysModules)=false) (hm:DictG w s.heap d xs) (q:∀n,Q (.bool (!(yW xs k).isSome)) {s with toks:=n}) :
  wpAny (model prog w) A (compareOp .NotIn key (.ref d)) Q E s:=by
 have T:=hm.typeIs
 show wpAny _ A (do return .bool (!(← contains (.ref d) key))) Q E s
 refine wpAny_bind ?_
 unfold contains
 refine wpAny_holding (wpAny_bind (wpAny_specialOf T slot_dict_contains.lookup ?_))
 show wpAny _ A (if (some (Value.builtin "dict.__contains__") == some Value.none)=true then _ else _) _ E s
 rw [if_neg (by rw [beq_builtin_none];decide)]
 refine wpAny_bind (wpAny_callSpecialUnlessNone?_slot (name:=Str.ofString "__contains__") T slot_dict_contains (wpAny_call_entry slot_dict_contains T entry_dict_contains ?_ (args_dict_contains _ _)))
 show wpAny _ A.in1 (dictGet d key >>= _) _ E s
 refine wpAny_bind (AV (by simp only [Around.in1_units];omega) hkey hk8 hm fun n=>?_)
 have q':=q n
 cases hg:yW xs k with
 |some u =>
  rw [hg] at q'
  show wpAny _ A.in1 (ret (.bool true)) _ E _
  exact wpAny_pure ⟨_,rfl,wpAny_truthy_bool (wpAny_pure q')⟩
 |none =>
  rw [hg] at q'
  show wpAny _ A.in1 (Builtin.Dict.pendingKey? d key >>= _) _ E _
  exact wpAny_bind (wpAny_pendingKey_other hd (wpAny_pure ⟨_,rfl,wpAny_truthy_bool (wpAny_pure q')⟩))
theorem IQ (d:Addr) (hd:(d == sysModules)=false) :
  MeetsIn prog w (Builtin.«dict.__len__» ⟨[.ref d],[]⟩) (fun _ R s=>∃xs,DictG w s.heap d xs∧R (.ok (.ret (.int xs.length s.toks))) {s with toks:=s.toks+1}) :=
 .of_wp fun A R s ⟨xs,hm,h⟩=>by
  obtain ⟨o,es,ep,ho,hc,hdat,he⟩:=hm
  show wpAny _ _ (dictSize d >>= _) _ _ s
  unfold dictSize
  refine wpAny_bind (wpAny_bind (wpAny_dictEntries ho hdat (wpAny_pure ?_)))
  show wpAny _ _ (Builtin.Dict.pendingCount d >>= _) _ _ s
  refine wpAny_bind (wpAny_pendingCount_other hd ?_)
  refine wpAny_ret_mkInt ?_
  have:es.size=xs.length:=by rw [← Array.length_toList,he.es,List.length_map]
  rw [Nat.add_zero,this];exact h
theorem RW {Q:Value→Shared→Prop} (hd:(d == sysModules)=false) (hm:DictG w s.heap d xs) (hfit:(xs.length:Int)<2 ^ 63)
  (h:Q (.int xs.length (s.toks+1)) {s with toks:=s.toks+1+1}):wpAny (model prog w) A (call (.builtin "len") [.ref d]) Q E s:=by
 refine Calls.call_function_entry kind_len plain_len entry_len (args_len1 _) ?_
 unfold Builtin.«len»
 refine wpAny_bind (m:=oneArg "len" _) (wpAny_pure ?_)
 refine wpAny_bind (m:=callSpecial? (.ref d) (Str.ofString "__len__")) (wpAny_callSpecial?_slot (name:=Str.ofString "__len__") hm.typeIs PySem.F.slot_dict_len
  (call_meetsIn PySem.F.slot_dict_len hm.typeIs PySem.F.entry_dict_len (PySem.F.args_dict_len_1 _) (IQ d hd) ⟨xs,hm,?_⟩))
 show wpAny _ _ _ _ _ {s with toks:=s.toks+1}
 refine wpAny_bind (wpAny_holding (wpAny_pure ?_))
 refine wpAny_bind (wpAny_letGo ?_)
 show wpAny _ _ (if ((xs.length:Nat):Int)<0 then _ else _) _ _ _
 rw [if_neg (by omega)]
 show wpAny _ _ (if ((xs.length:Nat):Int)≥2 ^ 63 then _ else _) _ _ _
 rw [if_neg (by omega)]
 exact wpAny_bind (wpAny_mkInt (wpAny_pure ⟨_,rfl,h⟩))
end
section
variable {X:Cx} {pins:List (Addr×Obj)} {σ:St} {H:Hp} {s:Shared} {d:Addr} {k:GK} {y v:V} {u r:Value} {A:Around} {E:Value→Shared→Prop} {kvs:List qK}
theorem R7 {Q:Unit→Shared→Prop} (hu:A.units+8<cLine) (I:Inv X pins σ H s) (e:H d=some (GO X.w d kvs)) (g:GOk H kvs) (hy:(GV H k).1 y) (h8:gd k≤8) (hl:kvs.length<sizeLine) (ry:RelV y u) (rv:RelV v r)
  (h:∀s',Inv X pins σ (upd H d (GO X.w d (yF kvs k y v))) s'→Q () s'):wpAny (model X.prog X.w) A (dictSet d u r) Q E s:=by
 obtain ⟨_,hm,xs,rel,dd⟩:=I.gdict (.of e) g
 refine AF hu ((GV.rel I.hok k).1 y u hy ry) h8 dd (by rw [← Paired.length rel];omega) fun n h' dd' sb=>h _ ?_
 obtain ⟨o,es,ep,ho,hc,hd,he,_⟩:=dd'
 refine pE I (by rw [e];exact True.intro) sb ⟨o,ho⟩ ⟨⟨by have:=wV kvs k y v;omega,hm,_,RelG.set ry rv rel,o,es,ep,ho,hc,hd,he⟩,⟨o,ho⟩,?_⟩
 rintro h1 h2 ⟨a1,a2,xs',a3,o',es',ep',a4,a5⟩ kp
 exact ⟨a1,a2,xs',a3,o',es',ep',kp _ a4,a5⟩
end
def NT (w:World) (ty td:TE):TE:=fun σ H Q=>ty σ H fun y H1=>td σ H1 fun x H2=>∃(d:Addr) (kvs:List qK) (k:GK),x=.ref d∧Rd H2 d (GO w d kvs)∧GOk H2 kvs∧(GV H2 k).1 y∧gd k≤8∧Q (.bl (!(zE kvs k).isSome)) H2
def O0 (w:World) (tk tv:TE):TE:=fun σ H Q=>∀p,H p=none→tk σ (upd H p (GO w p [])) fun y H1=>tv σ H1 fun v H2=>H2 p=some (GO w p [])∧∃k,(GV H2 k).1 y∧gd k≤8∧Q (.ref p) (upd H2 p (GO w p [(k,y,v)]))
section
variable {X:Cx} {o i e value:Expr} {pos pos':Pos} {td ty tv:TE}
theorem LS (hu:X.A.units+9<cLine) (hi:PE X i ty) (ho:PE X o td):PC X .NotIn i o (NT X.w ty td):=by
 intro pins s σ H Q I h
 refine jN (hi pins s σ H _ I h) fun iv s1 ⟨y,H1,I1,ry,q1⟩=>jN (ho pins s1 σ H1 _ I1 q1) fun u s2 ⟨x,H2,I2,rx,d,kvs,k,ex,hd,g,hy,h8,q2⟩=>?_
 subst ex
 obtain rfl:u=Value.ref d:=rx
 obtain ⟨_,hm,xs,rel,dd⟩:=I2.gdict hd g
 exact LW hu ((GV.rel I2.hok k).1 y iv hy ry) h8 hm dd fun n=>⟨.bl (!(zE kvs k).isSome),H2,I2.tok n,by rw [RelG.none rel];rfl,q2⟩
theorem K5:yV X (.builtin "len") (fun xs H Q=>∃p kvs,xs=[.ref p]∧Rd H p (GO X.w p kvs)∧GOk H kvs∧Q (.int kvs.length) H):=by
 intro pins s σ H xs us Q I r h
 obtain ⟨p,kvs,rfl,hd,g,q⟩:=h
 obtain ⟨u,rfl,rx⟩:=QF r
 cases rx
 obtain ⟨hz,hm,xs,rel,dd⟩:=I.gdict hd g
 have hl:=Paired.length rel
 have hn:=Q1
 exact RW hm dd (by omega) ⟨.int kvs.length,H,I.tok _,⟨s.toks+1,by rw [hl]⟩,q⟩
theorem MV {a b:Expr} {tk tv:TE} (hu:X.A.units+9<cLine) (hk:PE X a tk) (hv:PE X b tv):PE X (.Dict [some a] [b] pos) (O0 X.w tk tv):=by
 intro pins s σ H Q I h
 have hn:=I.hok.fresh (Nat.le_refl s.heap.objs.size)
 have I1:=I.laid (a:=s.heap.objs.size) (o:=GO X.w s.heap.objs.size []) (h':=s.heap.push {cls:=.type "dict",data:=.dict #[]}) (t':=s.toks) (fun _ _ q=>Heap.get?_push_of_some _ q) (Nat.le_refl _)
  ⟨⟨Nat.zero_le _,beq_eq_false_iff_ne.mpr (Ne.symm (Nat.ne_of_lt I.big)),[],.nil,_,#[],0,Heap.get?_push_size _ rfl,⟨rfl,rfl,rfl⟩,rfl,rfl⟩,⟨_,Heap.get?_push_size _ rfl⟩,
   fun h1 h2 ⟨a1,a2,xs',a3,o',es',ep',a4,a5⟩ kp=>⟨a1,a2,xs',a3,o',es',ep',kp _ a4,a5⟩⟩
 refine wpAny_Dict_any rfl rfl (List.cons_ne_nil _ _) (show 1≤15 by decide) (jN (dH (pos:=pos) hk hv AI pins _ σ _ (fun ps H2=>match ps with|[(y,v)]=>H2 s.heap.objs.size=some (GO X.w s.heap.objs.size [])∧∃k,(GV H2 k).1 y∧gd k≤8∧Q (.ref s.heap.objs.size) (upd H2 s.heap.objs.size (GO X.w s.heap.objs.size [(k,y,v)]))|_=>False) I1 ?_) fun ws s2 ⟨ps,H2,I2,rel,hq⟩=>?_)
 ·have h1:=h _ hn
  exact h1
 match ps,rel,hq with
 |[(y,v)],.cons (b:=b) r .nil,⟨e,k,hy,h8,q2⟩ =>
  show wpAny _ _ (storeAll s.heap.objs.size [b]) _ _ _
  unfold storeAll
  simp only [List.forIn_cons,List.forIn_nil]
  refine wpAny_bind (wpAny_bind (R7 (by omega) I2 e GOk.nil hy h8 (by rw [sizeLine_eq];decide) r.1 r.2 fun s3 I3=>wpAny_pure ?_))
  exact wpAny_pure ⟨.ref s.heap.objs.size,_,I3,rfl,q2⟩
end
section
variable {X:Cx} {o i:Expr} {pos:Pos} {td ty:TE}
end
section
variable {X:Cx} {pins:List (Addr×Obj)} {σ:St} {H:Hp} {s:Shared}
end
end L2
namespace L2
open PySem PySem.Spec PyProof.Rows
theorem LX:typeLookup (.type "list_reverseiterator") "__len__"=pure none:=by rw [typeLookup_type,builtinLookup_eq_fast];kernel_rfl
theorem M7:typeLookup (.type "list_reverseiterator") "__length_hint__"=pure (some (.builtin "list_reverseiterator.__length_hint__")):=by rw [typeLookup_type,builtinLookup_eq_fast];kernel_rfl
section
variable {prog:Program} {w:World} {A:Around} {s:Shared} {E:Value→Shared→Prop}
theorem KC {R:Result→Shared→Prop} (hh:A.handled=none) {I l S:Addr} {items:Array Value} (hne:l≠I) (hSI:S≠I) (hSl:S≠l) (hn:items.size≤sizeLine) (res:Value) (c₀:Nat) (hit:s.heap.IsRevIter I l ((items.size:Int) - 1)) (hl:s.heap.IsList l items)
  (hS:s.heap.get? S=some {cls:=.type "list",data:=.seq #[] c₀})
  (q:∀s' acc' c',Moved [S,I] (fun a b=>b=a) s s'→s'.heap.get? S=some {cls:=.type "list",dict:=none,data:=.seq acc' c',slots := #[]}→ItemsOf (fun i v=>items[items.size - 1 - i]?=some v) acc' items.size→R (.ok (.ret res)) s') :
  wpAny (model prog w) A.in1 (Builtin.List.listExtendWith (.ref S) (.ref I) res)
   (fun fin s'=>match fin with|.done f=>R (.ok f) s'|.again c'=>c'.quiet=true∧codeAny (model prog w) A c' R s') (fun e s'=>R (.error e) s') s:=by
 have W:=(Walks.listRev (prog:=prog) (w:=w) (A:=A.in1) (by simp [hh]) I l hne items).toS
 have hT:s.TypeIs (.ref I) "list_reverseiterator":=hit.typeIs
 have h1:Builtin.List.listSameRef (.ref S) (.ref I)=false:=by simp [Builtin.List.listSameRef,hSI]
 have e:(items.size:Int) - 1 - ((0:Nat):Int)=(items.size:Int) - 1:=by omega
 have hst:0≤items.size∧s.heap.IsRevIter I l ((items.size:Int) - 1 - ((0:Nat):Int))∧s.heap.IsList l items:=⟨Nat.zero_le _,by rw [e];exact hit,hl⟩
 unfold Builtin.List.listExtendWith
 refine wpAny_bind (wpAny_typeOf hT ?_)
 rw [if_neg (by rw [h1];decide)]
 refine wpAny_bind (W.self 0 _ _ _ hst ?_)
 refine wpAny_bind (wpAny_holding ?_)
 unfold Builtin.List.listLengthHint
 refine wpAny_bind (wpAny_specialOf hT LX ?_)
 show wpAny _ A.in1 (specialOf (Value.ref I) (Str.ofString "__length_hint__") >>= _) _ _ _
 refine wpAny_bind (wpAny_specialOf hT M7 ?_)
 (generalize hid:("list_reverseiterator.__length_hint__":String)=id0;(fail_if_success (clear hid id0));wp_delta;rw [show splitId id0=some ("list_reverseiterator","__length_hint__") from by subst hid;decide +kernel];subst hid)
 refine wpAny_bind (wpAny_isInstance (b:=true) hT (by rw [isSubtype_type];kernel_rfl) ?_)
 refine wpAny_pure ?_
 rw [if_neg (by decide)]
 refine wpAny_pure ⟨plainId_quiet F.plain_extend_loop _,codeAny_extend_loopS W hn S (by simp [hSI,hSl]) res items.size 0 _ #[] c₀ rfl (Nat.zero_le _) hst hS (ItemsOf.nil _) fun s' acc' c' hm hS' hacc=>q s' acc' c' hm hS' hacc⟩
theorem IB {Q:Value→Shared→Prop} (hh:A.handled=none) {I l:Addr} {items:Array Value} (hne:l≠I) (hn:items.size≤sizeLine) (hit:s.heap.IsRevIter I l ((items.size:Int) - 1)) (hl:s.heap.IsList l items)
  (q:∀s' acc' c',Moved [s.heap.objs.size,I] (fun a b=>b=a) s s'→s'.heap.get? s.heap.objs.size=some {cls:=.type "list",dict:=none,data:=.seq acc' c',slots := #[]}→ItemsOf (fun i v=>items[items.size - 1 - i]?=some v) acc' items.size→Q (.ref s.heap.objs.size) s') :
  wpAny (model prog w) A (call (.type "list") [.ref I]) Q E s:=by
 have lI:I<s.heap.objs.size:=by obtain ⟨o,ho,_⟩:=hit;exact Heap.lt_size ho
 have ll:l<s.heap.objs.size:=by obtain ⟨o,ho,_⟩:=hl;exact Heap.lt_size ho
 refine callType_codes (Q₁:=fun obj s₁=>obj=.ref s.heap.objs.size∧s₁={s with heap:=s.heap.push {cls:=.type "list",data:=.seq #[]}}) F.called_list (F.typeCall_list_1 _) F.entry_list_init (code_list_new _ ⟨rfl,rfl⟩) fun obj s₁ e₁=>?_
 obtain ⟨rfl,rfl⟩:=e₁
 have g1:(s.heap.push {cls:=.type "list",data:=.seq #[]}).get? s.heap.objs.size=some {cls:=.type "list",data:=.seq #[]}:=Heap.get?_push_size _ rfl
 have kp0:∀d o,s.heap.get? d=some o→(s.heap.push {cls:=.type "list",data:=.seq #[]}).get? d=some o:=fun d o e=>Heap.get?_push_of_some _ e
 refine ⟨⟨_,g1,rfl⟩,F.args_list_init_2 _ _,?_⟩
 show wpAny _ _ (do let old ← Builtin.List.listItems (.ref s.heap.objs.size);Builtin.List.listUpdate (.ref s.heap.objs.size) (fun _ => #[]);letGo old.toList.reverse;Builtin.List.listExtendWith (.ref s.heap.objs.size) (.ref I) .none) _ _ _
 refine wpAny_bind ?_
 unfold Builtin.List.listItems
 refine wpAny_bind (wpAny_seqItems g1 rfl (wpAny_pure ?_))
 show wpAny _ _ (updateSeq s.heap.objs.size (fun _ => #[]) >>= fun _=>letGo (#[]:Array Value).toList.reverse >>= fun _=>Builtin.List.listExtendWith (.ref s.heap.objs.size) (.ref I) .none) _ _ _
 refine wpAny_bind (wpAny_updateSeq g1 rfl ?_)
 have g2:=Heap.get?_update_self (Obj.mapSeq (fun _=>(#[]:Array Value))) g1 rfl
 have kq:∀d o,d≠s.heap.objs.size→s.heap.get? d=some o→((s.heap.push {cls:=.type "list",data:=.seq #[]}).update s.heap.objs.size (Obj.mapSeq (fun _=>(#[]:Array Value)))).get? d=some o:=fun d o hd e=>(Heap.get?_update_other _ _ (Ne.symm hd)).trans (kp0 d o e)
 refine wpAny_bind (wpAny_letGo ?_)
 refine KC (A:=A.in1) (by simp [hh]) hne (Nat.ne_of_gt lI) (Nat.ne_of_gt ll) hn .none _ (hit.at fun o e=>kq _ o (Nat.ne_of_lt lI) e) (hl.at fun o e=>kq _ o (Nat.ne_of_lt ll) e) g2 fun s' acc' c' hm hS' hp=>⟨rfl,q s' acc' c' ⟨fun b o hb e=>hm.heap b o hb (kq b o (fun z=>hb (by rw [z];simp)) e),hm.gens,hm.drawn,hm.os,hm.toks⟩ hS' hp⟩
end
section
variable {X:Cx}
def MM (K:PySem.W.Frag) (ta:TA):TE:=fun σ H Q=>ta σ H fun vs H1=>∃(a:Addr) (xs:List V),vs=[.ref a]∧SqL K H1 a xs∧∀l,H1 l=none→Q (.ref l) (upd H1 l (.lst xs.reverse))
theorem IC:bootBuiltins "reversed"=some (.type "reversed"):=by kernel_rfl
theorem KG {a:Expr} {ta:TA} {p p1 pos pos1:Pos} (hc:X.calm=true) (hgl:Gl X "list") (hml:X.mg "list"=none) (hg:Gl X "reversed") (hm:X.mg "reversed"=none) (ha:PA X [a] ta) (hs:starEach [a] X.env=[(false,eval a X.env)]:=by rfl)
  (hs3:starEach [.Call (.Name "reversed" p1) [a] [] pos1] X.env=[(false,eval (.Call (.Name "reversed" p1) [a] [] pos1) X.env)]:=by rfl) :
  PE X (.Call (.Name "list" p) [.Call (.Name "reversed" p1) [a] [] pos1] [] pos) (MM X.K ta):=by
 intro pins s σ H Q I h
 refine wpAny_Call_Name_kw (Q2 I hgl hml PyProof.Rows.boot_list ?_)
 refine PyProof.Rows.callWith_type1 ?_ hs3 rfl
 rw [hs3]
 show wpAny _ _ (spliced [(false,eval (.Call (.Name "reversed" p1) [a] [] pos1) X.env)]) _ _ s
 refine Calls.spliced_cons ?_
 refine Call_ (Q2 I hg hm IC (PyProof.Rows.callWith_type1 (jN (ha pos1 pins s σ H _ I h) fun us s1 ⟨vs,H1,I1,r1,q1⟩=>?_) (by rw [hs];rfl) rfl))
 obtain ⟨a1,xs,e,hq1,q⟩:=q1
 subst e
 obtain ⟨u,rfl,rx⟩:=QF r1
 cases rx
 obtain ⟨its,rv,pl,z1⟩:=I1.list hq1
 have hlen:=rv.length
 have lt1:a1<s1.heap.objs.size:=by obtain ⟨o,e,_⟩:=pl.isList;exact Heap.lt_size e
 refine call_reversed_list pl.isList ?_
 refine Calls.spliced_nil ?_
 refine IB (items:=its.toArray) (I.ok.hd hc) (Nat.ne_of_lt lt1) (by rw [List.size_toArray];omega) ⟨_,Heap.get?_push_size _ rfl,rfl,rfl⟩ (pl.isList.at fun o e=>Heap.get?_push_of_some _ e) fun s' acc c hmv hS hit=>?_
 have e8:s'={s1 with heap:=s'.heap,toks:=s'.toks}:=by
  have hg:=hmv.gens
  have hd:=hmv.drawn
  have ho:=hmv.os
  cases s'
  cases s1
  simp only at hg hd ho
  subst hg hd ho
  rfl
 have ea:acc.toList=its.reverse:=by
  refine List.ext_getElem? fun j=>?_
  have hsz:acc.size=its.length:=by rw [hit.1,List.size_toArray]
  by_cases hj:j<its.length
  ·have hja:j<acc.size:=by rw [hsz];exact hj
   have h1:=hit.2 j _ (Array.getElem?_eq_getElem hja)
   rw [List.size_toArray] at h1
   rw [List.getElem?_reverse hj,Array.getElem?_toList,Array.getElem?_eq_getElem hja,← h1]
   simp
  ·rw [List.getElem?_eq_none (by rw [Array.length_toList,hsz];omega),List.getElem?_eq_none (by rw [List.length_reverse];omega)]
 have kp:∀b u,s1.heap.get? b=some u→s'.heap.get? b=some u:=fun b u e=>by
  refine hmv.heap b u (fun hb=>?_) (Heap.get?_push_of_some _ e)
  have:=Heap.lt_size e
  simp only [List.mem_cons,List.mem_nil_iff,or_false,Heap.size_push] at hb
  rcases hb with rfl|rfl
  ·exact absurd this (by simp only [Addr] at *;omega)
  ·exact absurd this (Nat.lt_irrefl _)
 rw [e8]
 have hle:s1.heap.objs.size≤(s1.heap.push (revObj a1 ((its.toArray.size:Int) - 1))).objs.size:=by rw [Heap.size_push];exact Nat.le_succ _
 refine ⟨.ref _,_,I1.laid (o:=.lst xs.reverse) kp hle ⟨by rw [List.length_reverse];exact z1,its.reverse,c,rv.reverse,?_⟩,rfl,q _ (I1.hok.fresh hle)⟩
 rw [← ea]
 exact hS
end
section
variable {X:Cx}
end
end L2
namespace L2
open PySem PySem.Spec PyProof.Rows
section
variable {prog:Program} {w:World} {A:Around} {E:Value→Shared→Prop} {s:Shared} {d it:Addr} {xs:List kU} {o:Obj} {es:Array DictEntry} {i ep:Nat}
end
section
variable {X:Cx} {tg:Expr}
end
end L2
namespace L2
open PySem PySem.Spec PyProof.Rows
section
variable {X:Cx} {pins:List (Addr×Obj)} {σ:St} {H:Hp} {s:Shared}
end
end L2
namespace L2
open PySem PySem.Spec PyProof.Rows
structure CellsAt (H:Hp) (cl:List (Str×Addr)) (fvs:List V):Prop where
 once:(cl.map (·.2)).Nodup
 len:fvs.length=cl.length
 cell:∀(i:Nat) (x:Str) (c:Addr) (v:V),cl[i]?=some (x,c)→fvs[i]?=some v→∃o u,H c=some (FnO c o)∧o.data=.cell (some u)∧RelV v u
theorem CellsAt.of {H:Hp} {cl:List (Str×Addr)} {fvs:List V} (C:CellsAt H cl fvs) {x:Str} {c:Addr} (h:(x,c)∈cl):∃o u,H c=some (FnO c o)∧o.data=.cell (some u):=by
 obtain ⟨i,hi⟩:=List.mem_iff_getElem?.mp h
 have hlt:i<fvs.length:=by rw [C.len];exact (List.getElem?_eq_some_iff.mp hi).1
 obtain ⟨o,u,e,e2,_⟩:=C.cell i x c _ hi (List.getElem?_eq_getElem hlt)
 exact ⟨o,u,e,e2⟩
theorem CellsAt.cells {H:Hp} {cl:List (Str×Addr)} {fvs:List V} (C:CellsAt H cl fvs):eD H (cl.map (·.2)):=fun c hc=>by
 obtain ⟨⟨x,c'⟩,hm,rfl⟩:=List.mem_map.mp hc
 obtain ⟨o,_,e,_⟩:=C.of hm
 exact ⟨o,e⟩
structure LamAt (H:Hp) (f:Addr) (qual:Str) (params:Arguments) (body:Expr) (scope:Scope) (cl:List (Str×Addr)) (cdv:Value):Prop where
 fn:∃fo name pm ct,H f=some (FnO f fo)∧fo.data=.func (PySem.W.kla_fn name qual params body scope cl pm cdv ct)
 code:∃c oc vs t,cdv=.ref c∧H c=some (FnO c oc)∧oc.data=.fields vs∧vs[1]?=some (.str qual t)
structure LamScope (b:Bool) (N:List Str) (x:Str) (fr:List Str) (sc:Scope):Prop where
 kind:sc.kind=.function
 co:sc.isCoroutine=false
 gen:sc.isGenerator=false
 nd:N.Nodup
 pre:N.take (fr.length+1)=x::fr
 par:sc.names.lookup x=some (if b then .cell else .local)
 fre:∀y∈fr,sc.names.lookup y=some .free
 onl:∀y,sc.names.lookup y=some .free→y∈fr
 noc:if b then ∃rest,sc.names=(x,.cell)::rest∧∀y∈rest,y.2≠.cell else ∀y∈sc.names,y.2≠.cell
def vQ (b:Bool) (x:Str) (n:Addr) (cl:List (Str×Addr)):List (Str×Addr):=if b then (x,n+1)::cl else cl
theorem oW:∀{rest:List (Str×NameKind)},(∀y∈rest,y.2≠.cell)→∀(n:Nat) (acc:List (Str×Addr)) (h:Heap),cellsFrom n rest acc=acc∧pushCells h rest=h
 |[],_,_,_,_=>⟨rfl,rfl⟩
 | (y,k)::r,hr,n,acc,h=>by
  have hk:(k == NameKind.cell)=false:=by simpa using hr (y,k) List.mem_cons_self
  have:=oW (fun z hz=>hr z (List.mem_cons_of_mem _ hz)) n acc h
  unfold cellsFrom pushCells
  rw [hk]
  exact this
section
variable {M:Model} {A:Around} {E:Value→Shared→Prop} {s:Shared}
theorem P3 {scope:Scope} {globals:Addr} {closure:List (Str×Addr)} {x:Str} {u:Value} {qual:Str} {func:Option Addr} {code:Value} {builtins:Addr} {Q:Env→Shared→Prop} {rest:List (Str×NameKind)}
  (hn:scope.names=(x,.cell)::rest) (hr:∀y∈rest,y.2≠.cell) (hk:scope.kind=.function)
  (hQ:∀h',h'.Ns s.heap.objs.size (fun _=>none)→h'.IsCell (s.heap.objs.size+1) (some u)→(∀b o,s.heap.get? b=some o→h'.get? b=some o)→
   Q (newEnv scope s.heap.objs.size globals ((x,s.heap.objs.size+1)::closure) qual func code none builtins) {s with heap:=h'}) :
  wpAny M A (newFunctionEnv scope globals closure [(x,u)] qual func code none builtins) Q E s:=by
 simp only [newFunctionEnv,Option.isSome_none,Bool.false_eq_true,if_false]
 refine wpAny_bind (wpAny_alloc ?_)
 refine wpAny_bind (wpAny_layCells _ (fun name kind cells=>by cases hkc:kind == NameKind.cell<;>simp [hkc]) _ _ _ _ ?_)
 have e1:cellsFrom (s.heap.push {cls:=.type "frame",data:=.dict #[]}).objs.size scope.names closure=(x,s.heap.objs.size+1)::closure:=by
  rw [hn,Heap.size_push]
  exact (oW hr _ _ s.heap).1
 have e2:pushCells (s.heap.push {cls:=.type "frame",data:=.dict #[]}) scope.names=(s.heap.push {cls:=.type "frame",data:=.dict #[]}).push {cls:=.type "cell",data:=.cell none}:=by
  rw [hn]
  exact (oW hr 0 [] _).2
 show wpAny M A (do
  forIn [(x,u)] PUnit.unit fun p _=>_
  pure _) Q E _
 simp only [e1,e2]
 have hc:((s.heap.push {cls:=.type "frame",data:=.dict #[]}).push {cls:=.type "cell",data:=.cell none}).IsCell (s.heap.objs.size+1) none:=⟨_,by have:=Heap.get?_push_size (s.heap.push {cls:=.type "frame",data:=.dict #[]}) (o:={cls:=.type "cell",data:=.cell none}) rfl;rw [Heap.size_push] at this;exact this,rfl⟩
 rw [List.forIn_cons]
 refine wpAny_bind (wpAny_bind (wpAny_bind (wpAny_storeName_cell (c:=s.heap.objs.size+1) hk ?_ ?_ hc fun h' hc' hs'=>wpAny_pure ?_)))
 ·show scope.names.lookup x=some .cell
  rw [hn,List.lookup_cons,beq_self_eq_true]
 ·show List.lookup x ((x,s.heap.objs.size+1)::closure)=_
  rw [List.lookup_cons,beq_self_eq_true]
 ·dsimp only
  rw [List.forIn_nil]
  refine wpAny_pure (wpAny_pure (hQ h' ?_ hc' fun b o e=>?_))
  ·exact (((Heap.Ns.new s.heap (.type "frame")).push _).sameBut hs' (Nat.ne_of_lt (Nat.lt_succ_self _)))
  ·exact hs'.extBut b o (Nat.ne_of_lt (Nat.lt_succ_of_lt (Heap.lt_size e))) (Heap.get?_push_of_some _ (Heap.get?_push_of_some _ e))
end
section
variable {P:Program} {w:World} {H H':Hp} {h:Heap} {cs:List Addr}
theorem HOk.hideN (x:HOk P w H h) (hc:∀c∈cs,H c=none∨∃o,H c=some (FnO c o)):HOk P w (vR H cs) h:=fun b u e=>by
 by_cases hb:b∈cs
 ·rw [bI hb] at e;cases e
 ·rw [yQ hb] at e
  have no:∀c v,H c=some v→(∀o,v≠FnO c o)→c∉cs:=fun c v q n hin=>by
   rcases hc c hin with z|⟨o,z⟩
   ·rw [q] at z;cases z
   ·rw [q] at z;cases z;exact n o rfl
  refine (x b u e).stay (fun _ _ _ q=>q) (fun c q=>?_) fun c xs q=>?_
  ·rw [yQ (no c _ q fun _ z=>nomatch z)];exact q
  ·rw [yQ (no c _ q fun _ z=>nomatch z)];exact q
theorem OT {n:Addr} (hn:H n=none):vR H (n::cs)=vR H cs:=by
 funext b
 by_cases hb:b∈cs
 ·rw [bI hb,bI (List.mem_cons_of_mem _ hb)]
 ·rw [yQ hb]
  by_cases z:b=n
  ·subst z;rw [bI List.mem_cons_self,hn]
  ·rw [yQ (by simp [z,hb])]
end
section
variable {CX:vE} {P:Program} {w:World} {K:PySem.W.Frag} {mg:Str→Option Value} {base:Heap} {N fr:List Str} {x:Str} {b:Bool} {qual:Str} {params:Arguments} {body:Expr} {scope:Scope} {f:Addr} {cdv:Value} {cl:List (Str×Addr)} {A:Around} {outer:List Env} {s:Shared} {H:Hp} {E:XK} {Q:VK} {u:Value} {v:V} {fvs:List V} {k:Nat} {args:Args}
theorem OK {h1:Heap} {tk:Nat} {m:Str→Option Value} (S:LamScope b N x fr scope) (hd:A.handled=none) (e0:Env0 P w K mg base A outer s H) (r:RelV v u) (C:CellsAt H cl fvs) (hcl:cl.map (·.1)=fr)
  (hns:h1.Ns s.heap.objs.size m) (hm:b=false→m x=some u) (hC:b=true→h1.IsCell (s.heap.objs.size+1) (some u)) (hk:∀b o,s.heap.get? b=some o→h1.get? b=some o) :
  Inv (iN CX P w K mg base N qual scope f cdv (vQ b x s.heap.objs.size cl) A outer s H E) [] (start N (v::fvs)) (vR H ((vQ b x s.heap.objs.size cl).map (·.2))) {s with heap:=h1,toks:=tk}:=by
 have hlen:cl.length=fr.length:=by rw [← hcl,List.length_map]
 have hpl:fr.length+1≤N.length:=by have:=congrArg List.length S.pre;rw [List.length_take,List.length_cons] at this;omega
 have ndF:(x::fr).Nodup:=by rw [← S.pre];exact S.nd.sublist (List.take_sublist _ _)
 have ndC:(cl.map (·.1)).Nodup:=by rw [hcl];exact (List.nodup_cons.mp ndF).2
 have fresh:∀c,s.heap.objs.size≤c→H c=none:=fun c hc=>e0.hok.fresh hc
 have low:∀y c,(y,c)∈cl→c<s.heap.objs.size:=fun y c h=>by
  obtain ⟨o,_,e,_⟩:=C.of h
  exact Heap.lt_size (FnO.get e0.hok e)
 have own:∀y c,(y,c)∈vQ b x s.heap.objs.size cl→(y=x∧c=s.heap.objs.size+1∧b=true)∨(y,c)∈cl:=fun y c h=>by
  unfold vQ at h
  cases b with
  |true =>
   rcases List.mem_cons.mp h with e|h
   ·cases e;exact .inl ⟨rfl,rfl,rfl⟩
   ·exact .inr h
  |false=>exact .inr h
 have lookC:∀y c,(y,c)∈cl→(vQ b x s.heap.objs.size cl).lookup y=some c:=fun y c h=>by
  have h1:=lookup_of_mem_nodup ndC h
  unfold vQ
  cases b with
  |true =>
   have:(y == x)=false:=beq_eq_false_iff_ne.mpr fun z=>(List.nodup_cons.mp ndF).1 (by rw [← hcl,← z];exact List.mem_map.mpr ⟨_,h,rfl⟩)
   show List.lookup y ((x,_)::cl)=_
   rw [List.lookup_cons,this];exact h1
  |false=>exact h1
 have hcs:∀c∈(vQ b x s.heap.objs.size cl).map (·.2),H c=none∨∃o,H c=some (FnO c o):=fun c hc=>by
  obtain ⟨⟨y,c'⟩,hm,rfl⟩:=List.mem_map.mp hc
  rcases own y c' hm with ⟨_,rfl,_⟩|h
  ·exact .inl (fresh _ (Nat.le_succ _))
  ·obtain ⟨o,_,e,_⟩:=C.of h;exact .inr ⟨o,e⟩
 have del0:∀b',H b'=none→vR H ((vQ b x s.heap.objs.size cl).map (·.2)) b'=none:=fun b' n=>by unfold vR;split;rfl;exact n
 have noA:∀b':Addr,b'∉(iN CX P w K mg base N qual scope f cdv (vQ b x s.heap.objs.size cl) A outer s H E).ex:=fun b' z=>absurd (show b'∈([]:List Addr) from z) (by simp)
 have once:((vQ b x s.heap.objs.size cl).map (·.2)).Nodup:=by
  unfold vQ
  cases b with
  |true =>
   refine List.nodup_cons.mpr ⟨fun h=>?_,C.once⟩
   obtain ⟨⟨y,c⟩,hm,e⟩:=List.mem_map.mp h
   have:=low y c hm
   have e':c=s.heap.objs.size+1:=e
   rw [e'] at this
   exact absurd (Nat.lt_trans (Nat.lt_succ_self _) this) (Nat.lt_irrefl _)
  |false=>exact C.once
 refine ⟨⟨e0.mod,S.kind,rfl,rfl,Nat.le_refl _,fun y z c h1 h2=>MW once h1 h2,fun y hy=>?_,fun y c q=>(nomatch q),fun _=>hd,Around.frames_deeper e0.frames,.inr ⟨rfl,rfl⟩,fun b z=>absurd z (noA b),fun b o e=>⟨(e0.bs b o e).1,del0 b (e0.bs b o e).2⟩,e0.bsz,fun b _ _=>noA b,fun b z=>absurd z (noA b),e0.funs,fun b hb=>del0 b (e0.frf b hb)⟩,
  rfl,e0.bare,Un.kept hk,⟨_,hns,fun i y v' h1 h2 h3=>?_⟩,fun y c h=>?_,del0 _ (fresh _ (Nat.le_refl _)),fun y c h=>bI (List.mem_map.mpr ⟨_,PySem.mem_of_lookup h,rfl⟩),fun p hp=>absurd (show p∈([]:List (Addr×Obj)) from hp) (by simp),(e0.hok.hideN hcs).kept hk,?_⟩
 ·have hy2:scope.names.lookup y=some .cell∨scope.names.lookup y=some .free:=hy
  clear hy
  rcases hy2 with hy|hy
  ·have hnoc:=S.noc
   cases b with
   |true =>
    obtain ⟨rest,e,hr⟩:=hnoc
    rw [e,List.lookup_cons] at hy
    by_cases z:y=x
    ·exact ⟨_,by show List.lookup y ((x,_)::cl)=_;rw [List.lookup_cons,z,beq_self_eq_true]⟩
    ·rw [beq_eq_false_iff_ne.mpr z] at hy
     exact absurd rfl (hr _ (PySem.mem_of_lookup hy))
   |false=>exact absurd rfl (hnoc _ (PySem.mem_of_lookup hy))
  ·have:=S.onl y hy
   rw [← hcl] at this
   obtain ⟨⟨y',c⟩,hm,rfl⟩:=List.mem_map.mp this
   exact ⟨c,lookC _ _ hm⟩
 ·have hi:i<(v::fvs).length:=by
   unfold start at h2
   by_cases hi:i<(v::fvs).length
   ·exact hi
   ·rw [List.getElem?_append_right (by simpa using hi),List.getElem?_replicate] at h2
    split at h2<;>cases h2
  have ha:(v::fvs)[i]?=some v':=by
   unfold start at h2
   rw [List.getElem?_append_left (by simpa using hi),List.getElem?_map] at h2
   cases e:(v::fvs)[i]? with
   |none=>rw [e] at h2;cases h2
   |some a=>rw [e] at h2;cases h2;rfl
  have hp:(x::fr)[i]?=some y:=by
   rw [← S.pre,List.getElem?_take_of_lt (by rw [List.length_cons,C.len,hlen] at hi;exact hi)];exact h1
  cases i with
  |zero =>
   cases hp
   cases ha
   refine ⟨u,r,?_⟩
   have hpar:=S.par
   cases b with
   |true=>exact .inr ⟨.inl hpar,_,by show List.lookup x ((x,_)::cl)=_;rw [List.lookup_cons,beq_self_eq_true],hC rfl⟩
   |false=>exact .inl ⟨hpar,hm rfl⟩
  |succ i =>
   rw [List.getElem?_cons_succ] at hp ha
   rw [← hcl,List.getElem?_map] at hp
   obtain ⟨⟨y',c⟩,hc,rfl⟩:=Option.map_eq_some_iff.mp hp
   obtain ⟨o,u',e,e2,rv⟩:=C.cell _ y' c v' hc ha
   refine ⟨u',rv,.inr ⟨.inr (S.fre y' ?_),c,lookC _ _ (List.mem_of_getElem? hc),o,hk _ _ (FnO.get e0.hok e),e2⟩⟩
   rw [← hcl]
   exact List.mem_map.mpr ⟨_,List.mem_of_getElem? hc,rfl⟩
 ·rcases own y c (PySem.mem_of_lookup h) with ⟨_,rfl,hb⟩|h
  ·exact ⟨_,hC hb⟩
  ·obtain ⟨o,u',e,e2⟩:=C.of h
   exact ⟨some u',o,hk _ _ (FnO.get e0.hok e),e2⟩
 ·unfold start
  show _=N.length
  rw [List.length_append,List.length_map,List.length_replicate,List.length_cons,C.len,hlen]
  omega
theorem OI (S:LamScope b N x fr scope) (hr:Room (k+1) A) (e0:Env0 P w K mg base A outer s H) (r:RelV v u) (L:LamAt H f qual params body scope cl cdv) (C:CellsAt H cl fvs) (hcl:cl.map (·.1)=fr)
  (hb:∀(name:Str) (pm ct:Value),bindArgs (PySem.W.kla_fn name qual params body scope cl pm cdv ct) args=pure [(x,u)])
  (hbody:Room k (A.deeper (PySem.W.envX qual scope s.heap.objs.size f cdv (vQ b x s.heap.objs.size cl)))→
   ∃t,PE (iN CX P w K mg base N qual scope f cdv (vQ b x s.heap.objs.size cl) A outer s H E) body t∧t (start N (v::fvs)) (vR H (cl.map (·.2))) fun v' H'=>(∀c∈cl.map (·.2),H' c=none)→Q v' (QM H' H (cl.map (·.2)))) :
  codeAny (model P w) A (.call (.ref f) args) (CR CX outer P w H s Q E) s:=by
 obtain ⟨fo,name,pm,ct,hf,hd⟩:=L.fn
 have hcode:s.heap.CodeRec cdv qual:=by
  obtain ⟨c,oc,vs',t,e,e1,e2,e3⟩:=L.code
  exact ⟨c,oc,vs',t,e,FnO.get e0.hok e1,e2,e3⟩
 have lim:s.heap.NoLimit:=e0.mod.nolimit.keeps fun b o e=>(e0.bs b o e).1
 obtain ⟨t,ht,hq⟩:=hbody (hr.deeper _)
 have ndF:(x::fr).Nodup:=by rw [← S.pre];exact S.nd.sublist (List.take_sublist _ _)
 have ndC:(cl.map (·.1)).Nodup:=by rw [hcl];exact (List.nodup_cons.mp ndF).2
 have hdel:vR H ((vQ b x s.heap.objs.size cl).map (·.2))=vR H (cl.map (·.2)):=by
  unfold vQ
  cases b with
  |true=>exact OT (e0.hok.fresh (Nat.le_succ _))
  |false=>rfl
 have hlook:∀c∈cl.map (·.2),∃y,(vQ b x s.heap.objs.size cl).lookup y=some c:=fun c hc=>by
  obtain ⟨⟨y,c'⟩,hm,rfl⟩:=List.mem_map.mp hc
  have h1:=lookup_of_mem_nodup ndC hm
  refine ⟨y,?_⟩
  unfold vQ
  cases b with
  |true =>
   have:(y == x)=false:=beq_eq_false_iff_ne.mpr fun z=>(List.nodup_cons.mp ndF).1 (by rw [← hcl,← z];exact List.mem_map.mpr ⟨_,hm,rfl⟩)
   show List.lookup y ((x,_)::cl)=_
   rw [List.lookup_cons,this];exact h1
  |false=>exact h1
 have fin:∀{h1:Heap} {tk:Nat} {m:Str→Option Value},h1.Ns s.heap.objs.size m→(b=false→m x=some u)→(b=true→h1.IsCell (s.heap.objs.size+1) (some u))→(∀b o,s.heap.get? b=some o→h1.get? b=some o)→
   codeAny (model P w) A (.expr body (PySem.W.envX qual scope s.heap.objs.size f cdv (vQ b x s.heap.objs.size cl))) (CR CX outer P w H s Q E) {s with heap:=h1,toks:=tk}:=fun {h1 tk m} hns hm hC hk=>by
  have I:=OK (CX:=CX) (qual:=qual) (f:=f) (cdv:=cdv) (E:=E) (tk:=tk) S hr.hd e0 r C hcl hns hm hC hk
  rw [← hdel] at hq
  refine PySem.W.kla_codeExpr (wpAny_mono (ht [] _ _ _ _ I hq) (fun u' s' hs=>?_) fun e s' hs=>hs)
  obtain ⟨v',H',J,rv,q⟩:=hs
  have hn:∀c∈cl.map (·.2),H' c=none:=fun c hc=>by
   obtain ⟨y,hy⟩:=hlook c hc
   exact J.freeC y c hy
  have un:Un (kM outer) [] (vR H (cl.map (·.2))) H' s.heap s'.heap:=by rw [← hdel];exact J.base
  refine ⟨v',_,J.os,J.bare,Un.unhide un C.cells,HOk.unhide J.hok hn fun c hc=>?_,rv,q hn⟩
  obtain ⟨o,e⟩:=C.cells c hc
  refine ⟨o,e,un.keep c o (FnO.get e0.hok e) (bI hc) (fun hin=>?_) (by intro z;cases z)⟩
  have:=e0.frf c hin
  rw [e] at this;cases this
 refine PySem.W.kla_callFunE hr.depth (FnO.get e0.hok hf) hd S.co S.gen rfl hcode ?_
 rw [hb name pm ct]
 refine wpAny_pure ?_
 have hnoc:=S.noc
 have hpar:=S.par
 cases b with
 |true =>
  obtain ⟨rest,e1,e2⟩:=hnoc
  refine P3 e1 e2 S.kind fun h1 hns hc hk=>⟨lim.keeps hk,?_⟩
  exact fin (tk:=s.toks) hns (fun z=>nomatch z) (fun _=>hc) hk
 |false =>
  refine wpAny_newFunctionEnv hnoc (fun y hy=>by cases List.mem_singleton.mp hy;exact hpar) (fun h1 hns hsb=>⟨lim.fresh _ hsb,?_⟩) S.kind
  refine fin hns (fun _=>?_) (fun z=>nomatch z) fun b o e=>hsb.extBut b o (Nat.ne_of_lt (Heap.lt_size e)) (Heap.get?_push_of_some _ e)
  show List.lookup x [(x,u)]=some u
  rw [List.lookup_cons,beq_self_eq_true]
end
end L2
namespace L2
open PySem PySem.Spec PyProof.Rows
abbrev iJ (qual:Str) (params:Arguments) (body:Expr) (scope:Scope) (clos:List (Str×Addr)) (pm cv ctv:Value):Obj :=
 {cls:=.type "function",data:=.func (PySem.W.kla_fn "<lambda>" qual params body scope clos pm cv ctv)}
def JS (H:Hp) (T:Addr) (pos:Pos) (qual:Str):Prop :=
 H T=some (.tbl #[])∨∃c oc vs t,H T=some (.tbl #[rawInt pos.line,rawInt pos.col,.ref c])∧H c=some (FnO c oc)∧oc.data=.fields vs∧vs[1]?=some (.str qual t)
section
variable {X:Cx} {pins:List (Addr×Obj)} {σ:List (Option V)} {H:Hp} {s:Shared}
theorem Inv.fnHit {h':Heap} {o:Obj} {t':Nat} (I:Inv X pins σ H s) (hx:∀b o,s.heap.get? b=some o→h'.get? b=some o) (hsz:s.heap.objs.size≤h'.objs.size) (hfr:o.isFreed=false) :
  Inv X pins σ (upd H h'.objs.size (FnO h'.objs.size o)) {s with heap:=h'.push o,toks:=t'}:=by
 have key:∀b u,s.heap.get? b=some u→(h'.push o).get? b=some u:=fun b u e=>Heap.get?_push_of_some _ (hx b u e)
 have hlt:∀b,b<s.heap.objs.size→b≠h'.objs.size:=fun b e=>Nat.ne_of_lt (Nat.lt_of_lt_of_le e hsz)
 have ht:∀b u,H b=some u→b≠h'.objs.size:=fun b u e=>hlt b (I.hok b u e).lt
 refine I.un ⟨fun b ob e n _ _=>key b ob e,fun b ob e n _ _=>⟨ob.slots,key b ob e⟩,fun b ob e n _=>?_,fun b ob e _=>⟨ob,key b ob e⟩,fun b xs e=>?_,fun b ob u e=>?_,fun b qs e=>⟨#[],?_⟩⟩ fun b u e=>?_
 ·rw [jL (hlt b (Heap.lt_size e))];exact n
 ·rw [jL (ht b _ e)];exact e
 ·rw [jL (ht b _ e)];exact e
 ·rw [jL (ht b _ e),e];simp
 ·by_cases z:b=h'.objs.size
  ·subst z
   rw [jE] at e;cases e
   exact FnO.ok (Heap.get?_push_size _ hfr)
  rw [jL z] at e
  refine (I.hok b u e).stay (fun c v hc r=>key c v r) (fun c r=>?_) fun c xs r=>?_
  ·rw [jL (ht c _ r)];exact r
  ·rw [jL (ht c _ r)];exact r
def SJ (T:Addr) (pos:Pos) (qual:Str) (mk:Value→Value→Obj):TE:=fun _ H Q=>JS H T pos qual∧
 ∀(f c:Addr) (ctv:Value) (H':Hp),H f=none→H' f=some (FnO f (mk (.ref c) ctv))→(∃oc vs t,H' T=some (.tbl #[rawInt pos.line,rawInt pos.col,.ref c])∧H' c=some (FnO c oc)∧oc.data=.fields vs∧vs[1]?=some (.str qual t))→
  (∀b o,H b=some o→b≠T→H' b=some o)→(∀b,H b=none→b≠f→b≠c→H' b=none)→Q (.ref f) H'
theorem O9 {params:Arguments} {body:Expr} {scope:Scope} {pos:Pos} {c T:Addr} {clos:List (Str×Addr)} {qual:Str} (hd:defaultsOf params X.env=([],[])) (hcl:closureFor scope X.env=pure clos) (hge:X.env.globals=mainGlobals)
  (hcode:X.env.code=.ref c) (hC:PySem.W.CodeHd X.base c T) (hgP:mainGlobals≠T) (hb:X.base.BuiltinsAt X.mg T) (hq:X.env.qual++"<lambda>"=qual) :
  PE X (.Lambda params body scope pos) (SJ T pos qual fun cv ctv=>iJ qual params body scope clos ((X.mg "__name__").getD .none) cv ctv):=by
 intro pins s σ H Q I h
 obtain ⟨hT,q⟩:=h
 refine PySem.W.kla_eval hd ?_
 rw [hq]
 rcases hT with hT|⟨c1,oc,vs,t,hT,h1,h2,h3⟩
 ·have hPs:s.heap.get? T=some (PySem.W.tabObj #[]):=I.hok T _ hT
  refine PySem.W.kla_makeFunction (mg:=X.mg) hcl hge (I.mod.glob.keeps I.bk) hcode (hC.keeps I.bk) hPs trivial rfl hgP (hb.keeps I.bk) fun c' ctv h' tk hx' hge' hlt hrec htb=>?_
  have hsz:s.heap.objs.size≤h'.objs.size:=Nat.le_trans hge' (Nat.le_of_lt hlt)
  obtain ⟨c'',oc,fs,t,e,hoc,hoc2,hoc3⟩:=hrec
  cases e
  have J:=I.fnMade2 (o:=iJ qual params body scope clos ((X.mg "__name__").getD .none) (.ref c') ctv) (t':=tk) hT hx' hsz htb rfl hge' hoc
  have hPl:=Heap.lt_size hPs
  have hTf:T≠h'.objs.size:=Nat.ne_of_lt (Nat.lt_of_lt_of_le hPl hsz)
  have hTc:T≠c':=Nat.ne_of_lt (Nat.lt_of_lt_of_le hPl hge')
  have hfc:h'.objs.size≠c':=Nat.ne_of_gt hlt
  have hf0:H h'.objs.size=none:=I.hok.fresh hsz
  have hc0:H c'=none:=I.hok.fresh hge'
  refine ⟨.ref h'.objs.size,_,J,rfl,q h'.objs.size c' ctv _ hf0 ?_ ⟨oc,fs,t,?_,jE ..,hoc2,hoc3⟩ (fun b o e n=>?_) fun b n n1 n2=>?_⟩
  ·rw [jL hfc,jE]
  ·rw [jL hTc,jL hTf,jE];rfl
  ·rw [jL (fun z=>by rw [z,hc0] at e;cases e),jL (fun z=>by rw [z,hf0] at e;cases e),jL n];exact e
  ·rw [jL n2,jL n1,jL (fun z=>by rw [z,hT] at n;cases n)];exact n
 ·have hPs:s.heap.get? T=some (PySem.W.tabObj #[rawInt pos.line,rawInt pos.col,.ref c1]):=I.hok T _ hT
  refine PySem.W.kla_makeFunctionHit (mg:=X.mg) (cv:=.ref c1) hcl hge (I.mod.glob.keeps I.bk) hcode (hC.keeps I.bk) hPs (by exact trivial) (codeAmong_snoc [] trivial rfl) (hb.keeps I.bk) fun ctv h' tk hk hsz=>?_
  have J:=I.fnHit (o:=iJ qual params body scope clos ((X.mg "__name__").getD .none) (.ref c1) ctv) (t':=tk) hk hsz rfl
  have hf0:H h'.objs.size=none:=I.hok.fresh hsz
  have ne:∀b o,H b=some o→b≠h'.objs.size:=fun b o e z=>by rw [z,hf0] at e;cases e
  refine ⟨.ref h'.objs.size,_,J,rfl,q h'.objs.size c1 ctv _ hf0 (jE ..) ⟨oc,vs,t,?_,?_,h2,h3⟩ (fun b o e n=>?_) fun b n n1 n2=>?_⟩
  ·rw [jL (ne T _ hT)];exact hT
  ·rw [jL (ne c1 _ h1)];exact h1
  ·rw [jL (ne b _ e)];exact e
  ·rw [jL n1];exact n
end
def QX (T:Addr) (n:Nat) (pos:Pos) (lq:Str) (lp:Arguments) (lb:Expr) (ls:Scope) (fr:List Str) (sel:List Nat):Sp:=fun vs H Q _=>vs.length=n∧JS H T pos lq∧
 ∀(f:Addr) (cl:List (Str×Addr)) (cdv:Value) (H':Hp),H f=none→LamAt H' f lq lp lb ls cl cdv→cl.map (·.1)=fr→CellsAt H' cl (sel.map fun i=>vs.getD i .non)→JS H' T pos lq→
  (∀c∈cl.map (·.2),H c=none)→(∀b o,H b=some o→b≠T→H' b=some o)→Q (.ref f) H'
theorem LL {N:List Str} {vs:List V} {j:Nat} {v:V} (h:vs[j]?=some v):(start N vs)[j]?=some (some v):=by
 unfold start
 rw [List.getElem?_append_left (by rw [List.length_map];exact (List.getElem?_eq_some_iff.mp h).1),List.getElem?_map,h];rfl
theorem M2 {CX:vE} {P:Program} {w:World} {K:PySem.W.Frag} {mg:Str→Option Value} {base:Heap} {k:Nat} {f cL T:Addr} {name qual lq:Str} {params lp:Arguments} {lb:Expr} {scope ls:Scope} {dV kV doc pm ct oc:Value} {an od:Option Addr}
  {osl:Array (Option Value)} {N ps fr:List Str} {rpos lpos:Pos} {sel:List Nat} (cl:Nat→List (Str×Addr))
  (lk:K.lookup f=some ⟨oc,od,.func (PySem.W.fnOf name qual params [.Return (some (.Lambda lp lb ls lpos)) rpos] scope dV kV doc pm an (.ref cL) ct),osl⟩) (hcd:PySem.W.codeIn K (.ref cL) qual=true) (S:FnScope N ps scope)
  (hC:PySem.W.CodeHd base cL T) (hgP:mainGlobals≠T) (hB:base.BuiltinsAt mg T) (hdf:∀n,defaultsOf lp (envOfC qual scope n f (.ref cL))=([],[])) (hcl:∀n,closureFor ls (envOfC qual scope n f (.ref cL))=pure (cl n))
  (hfr:∀n,(cl n).map (·.1)=fr) (hone:∀n,((cl n).map (·.2)).Nodup) (hlen:∀n,(cl n).length=sel.length)
  (hsel:∀(n i:Nat) (x:Str) (c:Addr),(cl n)[i]?=some (x,c)→∃j,sel[i]?=some j∧j<ps.length∧N[j]?=some x∧scope.names.lookup x=some .cell∧(cellsFrom (n+1) scope.names []).lookup x=some c)
  (hq:qual++".<locals>."++"<lambda>"=lq) :
  FnOk P w K mg base CX (k+1) f (PySem.W.fnOf name qual params [.Return (some (.Lambda lp lb ls lpos)) rpos] scope dV kV doc pm an (.ref cL) ct) ps (QX T ps.length lpos lq lp lb ls fr sel):=by
 refine ⟨fun _ _ _ _ h=>h.1,fun A outer s H args us vs Q E hr e0 hb r hsp=>?_⟩
 obtain ⟨hl,hT,q⟩:=hsp
 have KX:K.In s.heap:=e0.mod.kin.keeps fun b o e=>(e0.bs b o e).1
 have lim:s.heap.NoLimit:=e0.mod.nolimit.keeps fun b o e=>(e0.bs b o e).1
 have hkind:∀y∈ps.zip us,scope.names.lookup y.1=some .local∨(scope.names.lookup y.1=some .cell∧((cellsFrom (s.heap.objs.size+1) scope.names []).lookup y.1).isSome=true):=fun ⟨n,v⟩ hy=>by
  rcases S.par n (List.of_mem_zip hy).1 with q|q
  ·exact .inl q
  ·exact .inr ⟨q,PySem.W.cellsFrom_some _ _ _ (.inl q)⟩
 refine codeAny_call_function hr.depth (KX _ _ lk) rfl S.co S.gen rfl (PySem.W.codeRec_of KX hcd) (hb _ _ _ _ ?_)
 refine wpAny_newFunctionEnv_cells S.kind hkind fun env he s1 x=>?_
 subst he
 refine ⟨lim.keeps x.toInCall.keep,codeAny_func ?_⟩
 have I:Inv (vA CX P w K mg base N qual scope f (.ref cL) A outer s H E) [] (start N vs) H s1:=uW S hr.hd e0 hl r x
 have L:=O9 (X:=vA CX P w K mg base N qual scope f (.ref cL) A outer s H E) (body:=lb) (pos:=lpos) (hdf _) (hcl _) rfl rfl hC hgP hB hq
 have hQ:=L [] s1 _ H (fun v H1=>∃(fa c:Addr) (ctv:Value),v=.ref fa∧H fa=none∧H1 fa=some (FnO fa (iJ lq lp lb ls (cl s.heap.objs.size) ((mg "__name__").getD .none) (.ref c) ctv))∧
   (∃(oc:Obj) (vs:Array Value) (t:Tok),H1 T=some (.tbl #[rawInt lpos.line,rawInt lpos.col,.ref c])∧H1 c=some (FnO c oc)∧oc.data=.fields vs∧vs[1]?=some (.str lq t))∧(∀b o,H b=some o→b≠T→H1 b=some o)) I ⟨hT,fun fa c ctv H1 a1 a2 a3 a4 _=>⟨fa,c,ctv,rfl,a1,a2,a3,a4⟩⟩
 refine wpAny_execs_cons (wpAny_Return_some (wpAny_mono hQ (fun u s' hs=>?_) fun e s' hs=>hs))
 obtain ⟨_,H1,J,rv,fa,c,ctv,rfl,hf0,hf1,⟨oc1,fs1,t1,g1,g2,g3,g4⟩,keep⟩:=hs
 obtain ⟨m,_,hloc⟩:=J.loc
 have cellOf:∀(i:Nat) (y:Str) (cc:Addr),(cl s.heap.objs.size)[i]?=some (y,cc)→∃(j:Nat) (v:V) (o:Obj) (u:Value),sel[i]?=some j∧vs[j]?=some v∧s'.heap.get? cc=some o∧o.data=.cell (some u)∧RelV v u∧H1 cc=none∧s.heap.objs.size<cc:=fun i y cc hi=>by
  obtain ⟨j,e1,e2,e3,e4,e5⟩:=hsel _ i y cc hi
  have hj:j<vs.length:=by rw [hl];exact e2
  obtain ⟨u,ru,lk⟩:=hloc j y vs[j] e3 (LL (List.getElem?_eq_getElem hj)) (.inr (.inl e4))
  have fr0:H1 cc=none:=J.freeC y cc e5
  rcases lk with ⟨hk,_⟩|⟨_,c',hc',o,ho,hd⟩
  ·have hk':scope.names.lookup y=some .local:=hk
   rw [e4] at hk';cases hk'
  ·have hc2:(cellsFrom (s.heap.objs.size+1) scope.names []).lookup y=some c':=hc'
   rw [e5] at hc2;cases hc2
   exact ⟨j,vs[j],o,u,e1,List.getElem?_eq_getElem hj,ho,hd,ru,fr0,x.above y cc (PySem.mem_of_lookup e5)⟩
 have inC:∀cc∈(cl s.heap.objs.size).map (·.2),∃(i:Nat) (y:Str),(cl s.heap.objs.size)[i]?=some (y,cc):=fun cc hm=>by
  obtain ⟨⟨y,c'⟩,hm2,rfl⟩:=List.mem_map.mp hm
  obtain ⟨i,hi⟩:=List.mem_iff_getElem?.mp hm2
  exact ⟨i,y,hi⟩
 let HC:Hp:=fun b=>(s'.heap.get? b).map fun o=>FnO b o
 have hn:∀cc∈(cl s.heap.objs.size).map (·.2),H1 cc=none:=fun cc hm=>by
  obtain ⟨i,y,hi⟩:=inC cc hm
  obtain ⟨_,_,_,_,_,_,_,_,_,z,_⟩:=cellOf i y cc hi
  exact z
 have hc:∀cc∈(cl s.heap.objs.size).map (·.2),∃o,HC cc=some (FnO cc o)∧s'.heap.get? cc=some o:=fun cc hm=>by
  obtain ⟨i,y,hi⟩:=inC cc hm
  obtain ⟨_,_,o,_,_,_,z,_⟩:=cellOf i y cc hi
  exact ⟨o,by show (s'.heap.get? cc).map _=_;rw [z];rfl,z⟩
 have out:∀b o,H1 b=some o→b∉(cl s.heap.objs.size).map (·.2):=fun b o e hm=>by rw [hn b hm] at e;cases e
 have old:∀b,b<s.heap.objs.size→b∉(cl s.heap.objs.size).map (·.2):=fun b hb hm=>by
  obtain ⟨i,y,hi⟩:=inC b hm
  obtain ⟨_,_,_,_,_,_,_,_,_,_,z⟩:=cellOf i y b hi
  exact absurd (Nat.lt_trans hb z) (Nat.lt_irrefl _)
 have oldH:∀b o,H b=some o→b∉(cl s.heap.objs.size).map (·.2):=fun b o e=>old b (e0.hok b o e).lt
 have un:Un (kM outer) [] H (QM H1 HC ((cl s.heap.objs.size).map (·.2))) s.heap s'.heap:=by
  have ub:Un (kM outer) [] H H1 s.heap s'.heap:=J.base
  refine ⟨ub.keep,ub.slot,fun b o e n hx=>?_,ub.there,fun b xs e=>?_,fun b o v e=>?_,fun b qs e=>?_⟩
  ·rw [vZ (old b (Heap.lt_size e))];exact ub.free b o e n hx
  ·rw [vZ (oldH b _ e)];exact ub.tups b xs e
  ·rw [vZ (oldH b _ e)];exact ub.frzs b o v e
  ·rw [vZ (oldH b _ e)];exact ub.tbls b qs e
 refine ⟨.ref fa,_,J.os,J.bare,un,HOk.unhide J.hok hn hc,rv,q fa (cl s.heap.objs.size) (.ref c) _ hf0 ⟨⟨_,_,_,_,(vZ (out fa _ hf1)).trans hf1,rfl⟩,⟨c,oc1,fs1,t1,rfl,(vZ (out c _ g2)).trans g2,g3,g4⟩⟩ (hfr _) ⟨hone _,?_,fun i y cc v hi hv=>?_⟩ (.inr ⟨c,oc1,fs1,t1,(vZ (out T _ g1)).trans g1,(vZ (out c _ g2)).trans g2,g3,g4⟩) (fun cc hm=>?_) fun b o e n=>(vZ (oldH b _ e)).trans (keep b o e n)⟩
 ·rw [List.length_map,hlen]
 ·obtain ⟨j,v',o,u',e1,e2,e3,e4,e5,_,_⟩:=cellOf i y cc hi
  have hin:cc∈(cl s.heap.objs.size).map (·.2):=List.mem_map.mpr ⟨_,List.mem_of_getElem? hi,rfl⟩
  rw [List.getElem?_map,e1] at hv
  have hv':vs.getD j .non=v:=Option.some.inj hv
  rw [List.getD_eq_getElem?_getD,e2] at hv'
  cases hv'
  exact ⟨o,u',by rw [pF hin];show (s'.heap.get? cc).map _=_;rw [e3];rfl,e4,e5⟩
 ·obtain ⟨i,y,hi⟩:=inC cc hm
  obtain ⟨_,_,_,_,_,_,_,_,_,_,z⟩:=cellOf i y cc hi
  exact e0.hok.fresh (Nat.le_of_lt z)
end L2
namespace L2
open PySem PySem.Spec PyProof.Rows
def vU (qual:Str) (params:Arguments) (body:Expr) (scope:Scope) (fr:List Str) (sp:List Addr→List V→Sp) (f:Addr):Sp:=fun vs H Q E=>∃v,vs=[v]∧
 ∃cl fvs cdv,LamAt H f qual params body scope cl cdv∧CellsAt H cl fvs∧cl.map (·.1)=fr∧sp (cl.map (·.2)) fvs [v] H Q E
variable {x:Str} {k:Nat}
theorem AX {CX:vE} {P:Program} {w:World} {K:PySem.W.Frag} {mg:Str→Option Value} {base:Heap} {b:Bool} {N fr:List Str} {qual:Str} {params:Arguments} {body:Expr} {scope:Scope} {sp:List Addr→List V→Sp} (S:LamScope b N x fr scope)
  (hb:∀(name:Str) (cl:List (Str×Addr)) (pm cdv ct u:Value),bindArgs (PySem.W.kla_fn name qual params body scope cl pm cdv ct) ⟨[u],[]⟩=pure [(x,u)])
  (hbody:∀(A:Around) (outer:List Env) (s:Shared) (H:Hp) (f:Addr) (cdv:Value) (cl:List (Str×Addr)) (fvs:List V) (v:V) (Q:VK) (E:XK),cl.map (·.1)=fr→Room k (A.deeper (PySem.W.envX qual scope s.heap.objs.size f cdv (vQ b x s.heap.objs.size cl)))→eD H (cl.map (·.2))→sp (cl.map (·.2)) fvs [v] H Q E→
   ∃t,PE (iN CX P w K mg base N qual scope f cdv (vQ b x s.heap.objs.size cl) A outer s H E) body t∧t (start N (v::fvs)) (vR H (cl.map (·.2))) fun v' H'=>(∀c∈cl.map (·.2),H' c=none)→Q v' (QM H' H (cl.map (·.2)))) :
  FnV P w K mg base CX (k+1) (vU qual params body scope fr sp):=by
 refine ⟨fun f vs H Q E h=>?_,fun A outer s H f us vs Q E hr e0 r h=>?_⟩
 ·obtain ⟨_,_,cl,fvs,cdv,L,_⟩:=h
  obtain ⟨fo,_,_,_,h1,h2⟩:=L.fn
  exact ⟨fo,_,h1,h2⟩
 ·obtain ⟨v,rfl,cl,fvs,cdv,L,C,hcl,hs⟩:=h
  cases r with
  |cons rv r =>
   cases r
   exact OI S hr e0 rv L C hcl (fun name pm ct=>hb name cl pm cdv ct _) fun hr'=>hbody A outer s H f cdv cl fvs v Q E hcl hr' C.cells hs
def pQ (Ts:List Addr) (H:Hp):Prop:=(∀T∈Ts,H T=some (.tbl #[]))∧∀b,b∉Ts→H b=none∨∃o xs,H b=some (.frz o (.lst xs))
theorem KQ {prog:Program} {w:World} {K:PySem.W.Frag} {mg mb:Str→Option Value} {CX:vE} {fa a:Addr} {Ts:List (Addr×Addr)} {fd:FuncData} {sp:Sp} {s₁:Shared} {vs:List Value} {ns:List Int}
  (KX:K.In s₁.heap) (hns:s₁.heap.Ns mainGlobals mg) (hb:s₁.heap.Ns builtinsNs mb) (hbb:∀x:Str,x≠"__name__"→mb x=bootBuiltins x) (hlim:s₁.heap.NoLimit) (hg:s₁.gens = #[])
  (ha:s₁.heap.get? a=some {cls:=.type "list",data:=.seq vs.toArray}) (hi:IntsAre vs ns) (hl:ns.length≤sizeLine) (hr:Room k callerA)
  (hC:∀p∈Ts,PySem.W.CodeHd s₁.heap p.1 p.2) (hT:∀p∈Ts,s₁.heap.TableAt p.1 p.2 #[]) (hKT:PySem.W.noTabs K=true) (hB:∀p∈Ts,s₁.heap.BuiltinsAt mg p.2)
  (F:∀base:Heap,K.In base→base.Ns mainGlobals mg→(∀p∈Ts,PySem.W.CodeHd base p.1 p.2∧base.BuiltinsAt mg p.2∧mainGlobals≠p.2)→FnOk prog w K mg base CX k fa fd [x] sp) (hbind:∀(s:Shared) (u:Value),BindsTo s fd ⟨[u],[]⟩ [(x,u)])
  (hsp:∀H:Hp,pQ (Ts.map (·.2)) H→SqL K H a (ns.map V.int)→sp [.ref a] H (fun v _=>v=.bl true) fun _ _ _=>False)
  (hCX:∀H e s',CX [] H s₁ (fun _ _ _=>False) e s'→False) :
  codeAny (model prog w) callerA (.call (.ref fa) ⟨[.ref a],[]⟩) (fun r s'=>r=.ok (.ret (.bool true))∧OldK s₁.heap s'.heap∧s'.os=s₁.os∧AllBare s'.gens) s₁:=by
 have rv:=uC hi
 have lenV:=hi.length
 have inT:∀b∈Ts.map (·.2),∃p∈Ts,p.2=b:=fun b h=>List.mem_map.mp h
 have hTo:∀b∈Ts.map (·.2),s₁.heap.get? b=some {cls:=.none,data:=.fields #[]}:=fun b h=>by
  obtain ⟨p,hp,rfl⟩:=inT b h
  exact (hT p hp).2
 have hKT':∀b∈Ts.map (·.2),K.lookup b=none:=fun b h=>by
  cases q:K.lookup b with
  |none=>rfl
  |some o =>
   have e:=KX b o q
   rw [hTo b h] at e;cases e
   have z:=List.all_eq_true.mp hKT _ (PySem.W.mem_of_lookupK q)
   exact absurd (show false=true from z) Bool.false_ne_true
 have haT:a∉Ts.map (·.2):=fun z=>by rw [hTo a z] at ha;cases ha
 have hgT:mainGlobals∉Ts.map (·.2):=fun z=>by
  obtain ⟨o,es,ep,e,d,_⟩:=hns
  rw [hTo _ z] at e;cases e;cases d
 have core:∀H:Hp,pQ (Ts.map (·.2)) H→SqL K H a (ns.map V.int)→HOk prog w H s₁.heap→(∀b,H b≠none→b=a∨b∈Ts.map (·.2))→(H a≠none→K.lookup a=none)→
   codeAny (model prog w) callerA (.call (.ref fa) ⟨[.ref a],[]⟩) (fun r s'=>r=.ok (.ret (.bool true))∧OldK s₁.heap s'.heap∧s'.os=s₁.os∧AllBare s'.gens) s₁:=by
  intro H hO hS hok hA hK
  have free:∀{b:Addr} {o:Obj},s₁.heap.get? b=some o→o≠{cls:=.type "list",data:=.seq vs.toArray}→o≠{cls:=.none,data:=.fields #[]}→H b=none:=fun {b o} e n1 n2=>by
   cases q:H b with
   |none=>rfl
   |some u =>
    rcases hA b (by rw [q];simp) with z|z
    ·subst z;rw [ha] at e;cases e;exact absurd rfl n1
    ·rw [hTo b z] at e;cases e;exact absurd rfl n2
  have nsK:∀{b:Addr} {m:Str→Option Value},s₁.heap.Ns b m→(JZ s₁.heap H).Ns b m:=fun {b m} ⟨o,es,ep,e,d,r⟩=>⟨o,es,ep,gN e (free e (fun z=>by subst z;cases d) fun z=>by subst z;cases d),d,r⟩
  have hKb:K.In (JZ s₁.heap H):=fun b o e=>gN (KX b o e) (by
   cases q:H b with
   |none=>rfl
   |some u =>
    rcases hA b (by rw [q];simp) with z|z
    ·subst z;rw [hK (by rw [q];simp)] at e;cases e
    ·rw [hKT' b z] at e;cases e)
  have hCb:∀p∈Ts,PySem.W.CodeHd (JZ s₁.heap H) p.1 p.2:=fun p hp=>by
   obtain ⟨o,fs,file,tf,flags,tg,inF,text,tt,e1,e2,rest⟩:=hC p hp
   exact ⟨o,fs,file,tf,flags,tg,inF,text,tt,gN e1 (free e1 (fun z=>by subst z;injection e2 with z;exact absurd z (by decide)) fun z=>by subst z;cases e2),e2,rest⟩
  have hBb:∀p∈Ts,(JZ s₁.heap H).BuiltinsAt mg p.2:=fun p hp=>by
   obtain ⟨bm,o,b1,b2,b3,b4,e1,e2,e3,e4⟩:=hB p hp
   exact ⟨bm,o,b1,b2,b3,b4,gN e1 (free e1 (fun z=>by subst z;injection e2 with z;exact absurd z (by decide)) fun z=>by subst z;cases e2),e2,e3,e4⟩
  have hM:Mod K mg (JZ s₁.heap H):=⟨hKb,nsK hns,⟨mb,nsK hb,hbb⟩,let ⟨mc,h1,h2⟩:=hlim;⟨mc,nsK h1,h2⟩⟩
  have e0:Env0 prog w K mg (JZ s₁.heap H) callerA [] s₁ H:=⟨rfl,hM,fun b o e=>OD e,Nat.le_of_eq (L3 _ _),trivial,fun b hb=>absurd (show b∈([]:List Addr) from hb) (by simp),hok,.of_eq hg⟩
  refine codeAny_mono ((F _ hKb (nsK hns) fun p hp=>⟨hCb p hp,hBb p hp,fun z=>hgT (z▸List.mem_map.mpr ⟨p,hp,rfl⟩)⟩).run callerA [] s₁ H ⟨[.ref a],[]⟩ [.ref a] [.ref a] _ _ hr e0 (hbind s₁ (.ref a)) (.cons rfl .nil) (hsp H hO hS)) fun r s' h=>?_
  cases r with
  |error e=>exact (hCX H e s' h).elim
  |ok fl =>
   cases fl with
   |next=>exact False.elim h
   |brk=>exact False.elim h
   |cont=>exact False.elim h
   |ret u =>
    obtain ⟨v,H',os,bare,un,hok',r',q⟩:=h
    obtain rfl:v=.bl true:=q
    obtain rfl:u=Value.bool true:=r'
    have nofs:∀b:Addr,b∉kM ([]:List Env):=fun b z=>absurd (show b∈([]:List Addr) from z) (by simp)
    refine ⟨rfl,⟨fun b o e=>?_,fun b o e=>un.there b o e (by simp)⟩,os,bare⟩
    by_cases z:b∈Ts.map (·.2)
    ·rw [hTo b z] at e;cases e
     obtain ⟨more,e2⟩:=un.tbls b #[] (hO.1 b z)
     obtain ⟨p,hp,rfl⟩:=inT b z
     exact .inr (.inl ⟨(hT p hp).isCodeTable,rfl,#[],more,rfl,hok' _ _ e2⟩)
    ·refine .inl ?_
     rcases hO.2 b z with q|⟨ob,xs,q⟩
     ·exact un.keep b o e q (nofs b) (by simp)
     ·have z2:=un.frzs b ob _ q
      obtain ⟨e1,_⟩:=hok b _ q
      obtain ⟨e2,_⟩:=hok' b _ z2
      rw [e] at e1;cases e1
      exact e2
 cases hk:K.lookup a with
 |some o =>
  have e:=KX a o hk
  rw [ha] at e
  cases e
  refine core (fun b=>if b∈Ts.map (·.2) then some (.tbl #[]) else none) ⟨fun b h=>if_pos h,fun b n=>.inl (if_neg n)⟩ (.inr ⟨_,vs.toArray,_,hk,rfl,rfl,rfl,by rw [List.size_toArray,lenV];exact hl,by simpa using rv⟩) (fun b u z=>?_) (fun b z=>?_) fun z=>absurd (if_neg haT) z
  ·by_cases hb:b∈Ts.map (·.2)
   ·have z':=(if_pos hb).symm.trans z
    cases z';exact hTo b hb
   ·have z':=(if_neg hb).symm.trans z
    cases z'
  ·by_cases hb:b∈Ts.map (·.2)
   ·exact .inr hb
   ·exact absurd (if_neg hb) z
 |none =>
  refine core (fun b=>if b∈Ts.map (·.2) then some (.tbl #[]) else if b=a then some (.frz {cls:=.type "list",data:=.seq vs.toArray} (.lst (ns.map V.int))) else none) ⟨fun b h=>if_pos h,fun b n=>?_⟩ (.inl (.inr ⟨{cls:=.type "list",data:=.seq vs.toArray},(if_neg haT).trans (if_pos rfl)⟩)) (fun b u z=>?_) (fun b z=>?_) fun _=>hk
  ·by_cases hb:b=a
   ·exact .inr ⟨_,_,(if_neg n).trans (if_pos hb)⟩
   ·exact .inl ((if_neg n).trans (if_neg hb))
  ·by_cases hb:b∈Ts.map (·.2)
   ·have z':=(if_pos hb).symm.trans z
    cases z';exact hTo b hb
   ·have z1:=(if_neg hb).symm.trans z
    by_cases hb':b=a
    ·have z':=(if_pos hb').symm.trans z1
     cases z'
     subst hb'
     exact ⟨ha,by rw [List.length_map];exact hl,vs,_,rv,ha⟩
    ·have z':=(if_neg hb').symm.trans z1
     cases z'
  ·by_cases hb:b∈Ts.map (·.2)
   ·exact .inr hb
   ·by_cases hb':b=a
    ·exact .inl hb'
    ·exact absurd ((if_neg hb).trans (if_neg hb')) z
theorem walk_ofTs {l:PySem.W.OpenLaw} {n:Nat} {q:Program} {loose:List Str} {XP:(Str→Option Value)→Heap→Prop} {YP:World→Heap→Prop} {d:DefRec} {K:Params→PySem.W.Frag} {CX:World→vE} {sp:World→Sp} (nt:List (Str×Addr×Addr))
  (hn:l.most=some n) (hn2:n≤sizeLine) (hdf:d.params.defaults=[]) (hr:Room k callerA) (hrec:∀e∈nt,((recsOf q).find? (fun r=>r.name == e.1)).isSome=true) (htab:∀P:Params,∀e∈nt,PySem.W.tabIn (K P) e.1=some e.2) (hno:∀P:Params,PySem.W.noTabs (K P)=true)
  (hY:∀(w:World) (h:Heap),YP w h→(K w.params).In h)
  (F:∀(w:World) (mg:Str→Option Value) (fa:Addr) (h:Heap),(K w.params).In h→h.Ns mainGlobals mg→mg d.name=some (.ref fa)→
   ∃fd:FuncData,(∀(s:Shared) (u:Value),BindsTo s fd ⟨[u],[]⟩ [(x,u)])∧
    ∀base:Heap,(K w.params).In base→base.Ns mainGlobals mg→(∀p∈nt.map (·.2),PySem.W.CodeHd base p.1 p.2∧base.BuiltinsAt mg p.2∧mainGlobals≠p.2)→FnOk l.prog w (K w.params) mg base (CX w) k fa fd [x] (sp w))
  (hsp:∀(w:World) (H:Hp) (a:Addr) (ns:List Int),ns.length≤n→pQ ((nt.map (·.2)).map (·.2)) H→SqL (K w.params) H a (ns.map V.int)→sp w [.ref a] H (fun v _=>v=.bl true) fun _ _ _=>False)
  (hCX:∀(w:World) (H:Hp) (s:Shared) (e:Value) (s':Shared),CX w [] H s (fun _ _ _=>False) e s'→False) :
  PySem.W.WalkO q loose XP YP l.row.toRowW d [] (fun f vs=>PySem.call f vs):=by
 refine Att.attach_call hn hdf fun w s₀ s₁ mg mb fa o pm cd doc a vs ns G Y ho hd hcd hmg hobj hints hlen hg=>?_
 have KX:=hY w _ Y
 obtain ⟨fd,hb,hF⟩:=F w mg fa _ KX G.T.g hmg
 have hCT:∀p∈nt.map (·.2),PySem.W.CodeHd s₁.heap p.1 p.2∧s₁.heap.get? p.2=some {cls:=.none,data:=.fields #[]}:=fun p hp=>by
  obtain ⟨e,he,rfl⟩:=List.mem_map.mp hp
  obtain ⟨r,hr⟩:=Option.isSome_iff_exists.mp (hrec e he)
  exact PySem.W.tab_of G.T KX hr (htab w.params e he)
 have hT:∀p∈nt.map (·.2),s₁.heap.TableAt p.1 p.2 #[]:=fun p hp=>by
  obtain ⟨⟨o,fs,file,tf,flags,tg,inF,text,tt,e1,e2,e3,e4,_⟩,hTo⟩:=hCT p hp
  exact ⟨⟨o,fs,e1,e2,e3,e4⟩,hTo⟩
 have hB:∀p∈nt.map (·.2),s₁.heap.BuiltinsAt mg p.2:=fun p hp=>by
  have hTo:=(hCT p hp).2
  obtain ⟨bm,ob,b1,b2,b3,b4,b5,b6⟩:=G.T.bmain
  refine ⟨bm,ob,b1,b2,fun z=>?_,fun z=>?_,b3,b4,b5,b6⟩
  ·obtain ⟨o,es,ep,e,hd,_⟩:=G.T.g
   rw [z,e] at b3;cases b3;rw [hd] at b6;cases b6
  ·rw [z,hTo] at b3;cases b3;cases b4
 exact KQ KX G.T.g G.T.b G.T.builtins G.T.nolimit hg hobj hints (Nat.le_trans hlen hn2) hr (fun p hp=>(hCT p hp).1) hT (hno w.params) hB hF hb (fun H hO hS=>hsp w H a ns hlen hO hS) fun H e s'=>hCX w H s₁ e s'
end L2
namespace L2
open PySem PySem.Spec PyProof.Rows
def iM (s:Stmt):Arguments×Expr×Scope×Pos:=match vI s with
 |[.Return (some (.Lambda a b sc p)) _]=>(a,b,sc,p)
 |_=>(y8 s,.Name "" ⟨0,0,0,0⟩,jG s,⟨0,0,0,0⟩)
abbrev qW (s:Stmt):Arguments:=(iM s).1
abbrev qZ (s:Stmt):Expr:=(iM s).2.1
abbrev qI (s:Stmt):Scope:=(iM s).2.2.1
abbrev kS (s:Stmt):Pos:=(iM s).2.2.2
theorem Fun.maker {P:Program} {w:World} {K:PySem.W.Frag} {mg:Str→Option Value} {base:Heap} {CX:vE} {x qual lq:Str} {st:Stmt} {f cL T:Addr} {fd:FuncData} {N ps fr:List Str} {sel:List Nat} {k:Nat} {rpos:Pos} (F:Fun K x qual st f fd) (hcL:fd.code=.ref cL) (S:FnScope N ps (jG st))
  (hC:PySem.W.CodeHd base cL T) (hB:base.BuiltinsAt mg T) (hgP:mainGlobals≠T) (cl:Nat→List (Str×Addr)) (hbd:vI st=[.Return (some (.Lambda (qW st) (qZ st) (qI st) (kS st))) rpos])
  (hdf:∀n,defaultsOf (qW st) (envOfC qual (jG st) n f (.ref cL))=([],[])) (hcl:∀n,closureFor (qI st) (envOfC qual (jG st) n f (.ref cL))=pure (cl n))
  (hfr:∀n,(cl n).map (·.1)=fr) (hone:∀n,((cl n).map (·.2)).Nodup) (hlen:∀n,(cl n).length=sel.length)
  (hsel:∀(n i:Nat) (x:Str) (c:Addr),(cl n)[i]?=some (x,c)→∃j,sel[i]?=some j∧j<ps.length∧N[j]?=some x∧(jG st).names.lookup x=some .cell∧(cellsFrom (n+1) (jG st).names []).lookup x=some c)
  (hq:qual++".<locals>."++"<lambda>"=lq):FnOk P w K mg base CX (k+1) f fd ps (QX T ps.length (kS st) lq (qW st) (qZ st) (qI st) fr sel):=by
 obtain ⟨oc,od,kV,doc,pm,an,cdv,ct,osl,rfl,lk,hcd⟩:=F.ex
 obtain rfl:cdv=.ref cL:=hcL
 rw [hbd] at lk ⊢
 exact M2 cl lk hcd S hC hgP hB hdf hcl hfr hone hlen hsel hq
end L2
namespace My
open PySem L2
theorem zz0:0≤sizeLine:=by decide
theorem zz1:1≤sizeLine:=by decide
theorem zz2:2≤sizeLine:=by decide
theorem zz3:3≤sizeLine:=by decide
theorem zz4:4≤sizeLine:=by decide
def top (i:Nat):Stmt:=PySem.Challenge.pw_lockhouse_k59_whole_wetter.main.body.getD i (.Pass ⟨0,0,0,0⟩)
abbrev mP:Stmt:=top 18
abbrev mL:Stmt:=top 20
abbrev mE:Stmt:=top 25
abbrev mU:Stmt:=top 24
abbrev fG:Stmt:=top 22
abbrev mT:Stmt:=top 21
abbrev mZ:Stmt:=top 23
abbrev fE:Stmt:=top 63
abbrev lJ:Stmt:=q0 (top 64) 0
abbrev i5:Stmt:=q0 (top 65) 0
abbrev lO:Stmt:=q0 (top 66) 0
abbrev lS:Stmt:=q0 (top 60) 0
abbrev lM:Stmt:=q0 (top 64) 3
abbrev lA:Stmt:=q0 (top 65) 3
abbrev lR:Stmt:=q0 (top 66) 2
abbrev lK:Stmt:=q0 (top 64) 4
abbrev i6:Stmt:=q0 (top 65) 4
abbrev lP:Stmt:=q0 (top 66) 3
abbrev lL:Stmt:=q0 (top 64) 1
abbrev i7:Stmt:=q0 (top 65) 1
abbrev lQ:Stmt:=q0 (top 66) 1
abbrev lN:Stmt:=q0 (top 64) 2
abbrev lB:Stmt:=q0 (top 65) 2
abbrev ZJ:Stmt:=q0 (top 61) 0
abbrev lG:Stmt:=q0 (top 61) 6
abbrev lH:Stmt:=q0 (top 61) 7
abbrev lF:Stmt:=q0 (top 61) 3
abbrev lD:Stmt:=q0 (top 61) 4
abbrev lC:Stmt:=q0 (top 61) 5
abbrev eT:Stmt:=q0 (top 61) 8
abbrev eS:Stmt:=q0 (top 61) 9
abbrev lE:Stmt:=q0 (top 61) 10
abbrev eY:Stmt:=top 29
abbrev fB:Stmt:=top 30
abbrev eZ:Stmt:=top 33
abbrev eV:Stmt:=top 32
abbrev mO:Stmt:=top 31
abbrev mV:Stmt:=top 9
abbrev mH:Stmt:=top 8
abbrev mW:Stmt:=top 15
abbrev mR:Stmt:=top 10
abbrev fC:Stmt:=top 11
abbrev Z8:Stmt:=top 27
abbrev mC:Stmt:=top 12
abbrev mK:Stmt:=top 16
abbrev fD:Stmt:=top 45
abbrev l9:Stmt:=top 44
abbrev eX:Stmt:=top 41
abbrev mM:Stmt:=top 39
abbrev mG:Stmt:=top 40
abbrev mD:Stmt:=top 38
abbrev mB:Stmt:=top 37
abbrev mX:Stmt:=top 36
abbrev mY:Stmt:=top 35
abbrev mQ:Stmt:=top 42
abbrev lZ:Stmt:=top 43
abbrev Z7:Stmt:=top 46
abbrev fH:Stmt:=top 14
abbrev l7:Stmt:=top 13
abbrev kF:Stmt:=top 57
abbrev j9:Stmt:=top 56
abbrev mS:Stmt:=top 52
abbrev mJ:Stmt:=top 51
abbrev fA:Stmt:=top 50
abbrev fF:Stmt:=top 48
abbrev mI:Stmt:=top 54
abbrev mF:Stmt:=top 55
abbrev lU:Stmt:=top 68
abbrev lW:Stmt:=top 69
abbrev lV:Stmt:=top 70
abbrev cG:Stmt:=top 71
abbrev cH:Stmt:=top 72
abbrev eU:Stmt:=top 73
abbrev lX:Stmt:=top 74
abbrev lY:Stmt:=top 75
abbrev JK:Stmt:=top 76
abbrev jY (K:W.Frag) (x q:Str) (st:Stmt) (f:Addr):Prop:=∃fd,Fun K x q st f fd
variable {K:W.Frag} {H H':Hp} {a:Addr} {xs:List V}
theorem pT (e:Same H H') (h:SqT K H a xs):SqT K H' a xs:=by
 rcases h with (h|⟨o,h⟩)|h
 ·exact .inl (.inl (e _ _ h))
 ·exact .inl (.inr ⟨o,e _ _ h⟩)
 ·exact .inr h
theorem jI {p:Addr} (h:H p=none) (o:HO):Same H (upd H p o):=fun b u q=>by rw [jL (q8 q h)];exact q
variable {n:Nat}
theorem small (h:n≤1000):n≤sizeLine:=Nat.le_of_lt (vX h)
def Ints (K:W.Frag) (H:Hp) (a:Addr) (ws:List Int):Prop:=SqL K H a (ws.map V.int)∨SqT K H a (ws.map V.int)
theorem Ints.same {ws:List Int} (e:Same H H') (h:Ints K H a ws):Ints K H' a ws:=by
 rcases h with h|h
 ·exact .inl (e.seq h)
 ·exact .inr (pT e h)
variable {s:Nat}
theorem ZT (h:s<n):yX n (s:Int)=some s:=by
 unfold yX
 rw [if_pos (by omega),if_pos (by omega)]
 simp
theorem yL {ws:List Int} (h:s<ws.length):qT (ws.map V.int) (s:Int)=some (.int (ws.getD s 0)):=by
 refine qL ?_
 rw [List.getElem?_map,List.getElem?_eq_getElem h,List.getD_eq_getElem?_getD,List.getElem?_eq_getElem h]
 rfl
theorem MS {p:Addr} {ws:List Int} {Q:VK} (h:Ints K H p ws) (hs:s<ws.length) (q:Q (.int (ws.getD s 0)) H):rR K (.ref p) (.int s) H Q:=by
 rcases h with h|h
 ·exact .inl ⟨p,_,s,_,rfl,rfl,h,yL hs,q⟩
 ·exact .inr (.inl ⟨p,_,s,_,rfl,rfl,h,yL hs,q⟩)
theorem ZK (ws:List Int) (s:Nat) (z:Int):(ws.map V.int).set s (V.int z)=(ws.set s z).map V.int:=by rw [List.map_set]
theorem MC (ns:List Int) (lo hi:Option Int):∃ms:List Int,bY (ns.map V.int) lo hi=ms.map V.int∧ms.length≤ns.length:=by
 refine ⟨(ns.drop (HT.sIx ns.length 0 lo)).take (HT.sIx ns.length ns.length hi - HT.sIx ns.length 0 lo),?_,?_⟩
 ·unfold bY
  rw [List.length_map,List.map_take,List.map_drop]
 ·rw [List.length_take,List.length_drop]
  omega
variable {ms:List Int} {i:Nat}
theorem M9 {x:V} (h:(ms.map V.int)[i]?=some x):∃z,x=V.int z∧ms[i]?=some z:=by
 rw [List.getElem?_map] at h
 cases e:ms[i]? with
 |none=>rw [e] at h;cases h
 |some z=>rw [e] at h;exact ⟨z,(Option.some.inj h).symm,rfl⟩
theorem uD {a b:Int} (h:0<b):∃k:Nat,a%b=(k:Int)∧(k:Int)<b:=by
 have h1:=Int.emod_nonneg a (by omega:b≠0)
 have h2:=Int.emod_lt_of_pos a h
 exact ⟨(a%b).toNat,by omega,by omega⟩
def pour (ws:List Int) (q:Nat×Nat×Int):List Int:=((ws.set q.1 (ws.getD q.1 0 - q.2.2))).set q.2.1 ((ws.set q.1 (ws.getD q.1 0 - q.2.2)).getD q.2.1 0+q.2.2)
theorem cY (ws:List Int) (q:Nat×Nat×Int):(pour ws q).length=ws.length:=by unfold pour;rw [List.length_set,List.length_set]
def j3 (ws:List Int) (qs:List (Nat×Nat×Int)):List Int:=qs.foldl pour ws
theorem vG (qs:List (Nat×Nat×Int)):∀ws:List Int,(j3 ws qs).length=ws.length:=by
 induction qs with
 |nil=>intro ws;rfl
 |cons q r ih=>intro ws;show (j3 (pour ws q) r).length=_;rw [ih,cY]
theorem IF (ws:List Int) (qs:List (Nat×Nat×Int)) (q:Nat×Nat×Int):j3 ws (qs++[q])=pour (j3 ws qs) q:=by
 unfold j3;rw [List.foldl_append];rfl
theorem nG (ws:List Int) (qs:List (Nat×Nat×Int)) (i:Nat) (q:Nat×Nat×Int) (h:qs[i]?=some q):j3 ws (qs.take (i+1))=pour (j3 ws (qs.take i)) q:=by
 rw [List.take_add_one,h];exact IF ..
def BE (K:W.Frag) (H:Hp) (rs:List V) (qs:List (Nat×Nat×Int)) (n:Nat):Prop :=
 rs.length=qs.length∧∀(i:Nat) (r:V),rs[i]?=some r→∃(a:Addr) (s t:Nat) (m:Int),r=.ref a∧qs[i]?=some (s,t,m)∧SqT K H a [.int s,.int t,.int m]∧s<n∧t<n
def dY (K:W.Frag):Sp:=fun vs H Q _=>∃(w p:Addr) (ws:List Int) (rs:List V) (qs:List (Nat×Nat×Int)),vs=[.ref w,.ref p]∧Ints K H w ws∧SqL K H p rs∧BE K H rs qs ws.length∧ws.length≤1000∧
 ∀(r:Addr) (H':Hp),Same H H'→H r=none→H' r=some (.tup ((j3 ws qs).map V.int))→Q (.ref r) H'
def Keep (d:Addr) (H H':Hp):Prop:=∀b o,b≠d→H b=some o→H' b=some o
theorem Keep.refl (d:Addr) (H:Hp):Keep d H H:=fun _ _ _ q=>q
variable {d:Addr}
theorem Keep.of (s:Same H H'):Keep d H H':=fun b o _ q=>s b o q
variable {H1:Hp}
theorem Keep.trans {H2:Hp} (a:Keep d H H1) (b:Keep d H1 H2):Keep d H H2:=fun c o n q=>b c o n (a c o n q)
theorem Keep.upd (k:Keep d H H') (o:HO):Keep d H (upd H' d o):=fun b u n q=>by rw [jL n];exact k b u n q
variable {ys:List V}
theorem Keep.sqt (k:Keep d H H') (hd:H d=some (.lst ys)) (h:SqT K H a xs):SqT K H' a xs:=by
 rcases h with (h|⟨o,h⟩)|h
 ·exact .inl (.inl (k _ _ (JV h hd (fun z=>nomatch z)) h))
 ·exact .inl (.inr ⟨o,k _ _ (JV h hd (fun z=>nomatch z)) h⟩)
 ·exact .inr h
def yD (n h l r:V):List (Str×V):=jV "room" r (jV "low" l (jV "high" h (jV "name" n [])))
theorem RS:¬(("name":Str)="high"):=by decide +kernel
theorem RQ:¬(("name":Str)="low"):=by decide +kernel
theorem RP:¬(("name":Str)="room"):=by decide +kernel
theorem RV:¬(("high":Str)="low"):=by decide +kernel
theorem RU:¬(("high":Str)="room"):=by decide +kernel
theorem RT:¬(("low":Str)="room"):=by decide +kernel
theorem OF (n h l r:V):(yD n h l r).lookup ("name":Str)=some n:=by
 unfold yD
 rw [vO,if_neg RP,vO,if_neg RQ,vO,if_neg RS,vO,if_pos rfl]
theorem OG (n h l r:V):(yD n h l r).lookup ("high":Str)=some h:=by
 unfold yD
 rw [vO,if_neg RU,vO,if_neg RV,vO,if_pos rfl]
theorem PK (n h l r:V):(yD n h l r).lookup ("low":Str)=some l:=by
 unfold yD
 rw [vO,if_neg RT,vO,if_pos rfl]
theorem OE (n h l r:V):(yD n h l r).lookup ("room":Str)=some r:=by
 unfold yD
 rw [vO,if_pos rfl]
theorem iL (n h l r:V) {m:Str} (h1:¬m="room") (h2:¬m="low") (h3:¬m="high") (h4:¬m="name"):(yD n h l r).lookup m=none:=by
 unfold yD
 rw [vO,if_neg h1,vO,if_neg h2,vO,if_neg h3,vO,if_neg h4]
 rfl
def PartsAt (H:Hp) (rs:List V) (ps:List (Str×Int)):Prop:=rs.length=ps.length∧∀(i:Nat) (r:V),rs[i]?=some r→∃(a:Addr) (s:Str) (n:Int),r=.ref a∧ps[i]?=some (s,n)∧H a=some (.tup [.str s,.int n])
theorem PartsAt.nil:PartsAt H [] []:=⟨rfl,fun i r hi=>by cases hi⟩
variable {rs:List V}
theorem PartsAt.keep {ps:List (Str×Int)} (k:Keep d H H') (hd:H d=some (.lst ys)) (h:PartsAt H rs ps):PartsAt H' rs ps:=by
 refine ⟨h.1,fun i r hi=>?_⟩
 obtain ⟨a,s,n,h1,h2,h3⟩:=h.2 i r hi
 exact ⟨a,s,n,h1,h2,k _ _ (JV h3 hd (fun z=>nomatch z)) h3⟩
theorem PartsAt.snoc {ps:List (Str×Int)} {s:Str} {n:Int} (h:PartsAt H rs ps) (ht:H a=some (.tup [.str s,.int n])):PartsAt H (rs++[.ref a]) (ps++[(s,n)]):=by
 refine ⟨by rw [List.length_append,List.length_append,h.1];rfl,fun i r hi=>?_⟩
 by_cases hl:i<rs.length
 ·rw [List.getElem?_append_left hl] at hi
  obtain ⟨b,s',n',h1,h2,h3⟩:=h.2 i r hi
  exact ⟨b,s',n',h1,by rw [List.getElem?_append_left (by rw [← h.1];exact hl)];exact h2,h3⟩
 ·rw [List.getElem?_append_right (by omega)] at hi
  have hz:i - rs.length=0:=by
   have:=(List.getElem?_eq_some_iff.mp hi).1
   rw [List.length_singleton] at this
   omega
  rw [hz] at hi
  have e:V.ref a=r:=Option.some.inj hi
  refine ⟨a,s,n,e.symm,?_,ht⟩
  rw [List.getElem?_append_right (by rw [← h.1];omega),← h.1,hz]
  rfl
def yO (q:Str×Int):Bool := !decide (q.2=0)
def bP (K:W.Frag):Sp:=fun vs H Q _=>∃(p:Addr) (rs:List V) (ps:List (Str×Int)),vs=[.ref p]∧SqL K H p rs∧PartsAt H rs ps∧rs.length≤10∧
 ∀(r:Addr) (H':Hp) (rs':List V),Same H H'→H r=none→H' r=some (.lst rs')→PartsAt H' rs' (ps.filter yO)→Q (.ref r) H'
def bO (e:Str) (n h l r v:V):List (Str×V):=jV e v (yD n h l r)
theorem dP (e:Str) (n h l r v:V):(bO e n h l r v).lookup e=some v:=by
 unfold bO
 rw [vO,if_pos rfl]
theorem xX {e m:Str} (ne:¬m=e) (n h l r v:V):(bO e n h l r v).lookup m=(yD n h l r).lookup m:=by
 unfold bO
 rw [vO,if_neg ne]
theorem tN (n h l r:V):(yD n h l r).length<1000:=by
 have h1:=JM "high" h (jV "name" n [])
 have h2:=JM "low" l (jV "high" h (jV "name" n []))
 have h3:=JM "room" r (jV "low" l (jV "high" h (jV "name" n [])))
 have h4:(jV ("name":Str) n []).length=1:=rfl
 unfold yD
 omega
def wv (b:Bool):V:=if b then .str "up" else .str "down"
theorem P7:¬(V.str "down"=V.str "up"):=fun h=>absurd (V.str.inj h) (by decide +kernel)
def jF (cP cB cU:Addr):Kd→Addr
 |.plain=>cP
 |.basin=>cB
 |.pump=>cU
def JD (kd:Kd) (n h l r v:V):List (Str×V):=match kd with
 |.plain=>yD n h l r
 |.basin=>bO "side" n h l r v
 |.pump=>bO "lift" n h l r v
theorem Q3 (kd:Kd) (n h l r v:V) {m:Str} (h1:¬m="side") (h2:¬m="lift"):(JD kd n h l r v).lookup m=(yD n h l r).lookup m:=by
 cases kd
 ·rfl
 ·exact xX h1 _ _ _ _ _
 ·exact xX h2 _ _ _ _ _
theorem OP (kd:Kd) (n h l r v:V):(JD kd n h l r v).lookup ("name":Str)=some n:=by rw [Q3 kd _ _ _ _ _ (by decide +kernel) (by decide +kernel)];exact OF ..
theorem bH (kd:Kd) (n h l r v:V):(JD kd n h l r v).lookup ("high":Str)=some h:=by rw [Q3 kd _ _ _ _ _ (by decide +kernel) (by decide +kernel)];exact OG ..
theorem bN (kd:Kd) (n h l r v:V):(JD kd n h l r v).lookup ("low":Str)=some l:=by rw [Q3 kd _ _ _ _ _ (by decide +kernel) (by decide +kernel)];exact PK ..
theorem bG (kd:Kd) (n h l r v:V):(JD kd n h l r v).lookup ("room":Str)=some r:=by rw [Q3 kd _ _ _ _ _ (by decide +kernel) (by decide +kernel)];exact OE ..
theorem OR (kd:Kd) (n h l r v:V):(JD kd n h l r v).lookup ("fill_parts":Str)=none:=by rw [Q3 kd _ _ _ _ _ (by decide +kernel) (by decide +kernel)];exact iL _ _ _ _ (by decide +kernel) (by decide +kernel) (by decide +kernel) (by decide +kernel)
theorem PZ (kd:Kd) (n h l r v:V):(JD kd n h l r v).lookup ("let_parts":Str)=none:=by rw [Q3 kd _ _ _ _ _ (by decide +kernel) (by decide +kernel)];exact iL _ _ _ _ (by decide +kernel) (by decide +kernel) (by decide +kernel) (by decide +kernel)
theorem OQ (kd:Kd) (n h l r v:V):(JD kd n h l r v).lookup ("kind":Str)=none:=by rw [Q3 kd _ _ _ _ _ (by decide +kernel) (by decide +kernel)];exact iL _ _ _ _ (by decide +kernel) (by decide +kernel) (by decide +kernel) (by decide +kernel)
theorem NB (kd:Kd) (n h l r v:V):(JD kd n h l r v).lookup ("extra":Str)=none:=by rw [Q3 kd _ _ _ _ _ (by decide +kernel) (by decide +kernel)];exact iL _ _ _ _ (by decide +kernel) (by decide +kernel) (by decide +kernel) (by decide +kernel)
def LockAt (cs:Kd→Addr) (H:Hp) (x:Addr) (kd:Kd) (n h l:V) (room v:Int):Prop:=∃dx:Addr,H x=some (.ins (cs kd) dx (JD kd n h l (.int room) (.int v)))
variable {cs:Kd→Addr} {x:Addr}
theorem LockAt.same {kd:Kd} {n h l:V} {room v:Int} (e:Same H H') (a:LockAt cs H x kd n h l room v):LockAt cs H' x kd n h l room v:=by
 obtain ⟨dx,a⟩:=a
 exact ⟨dx,e _ _ a⟩
def JG (kd:Kd) (room v b:Int):List (Str×Int):=match kd with
 |.plain=>([("high",room)]:List (Str×Int)).filter yO
 |.basin=>([("basin",b),("high",room - b)]:List (Str×Int)).filter yO
 |.pump=>([("low",v),("high",room - v)]:List (Str×Int)).filter yO
def JJ (kd:Kd) (room v b:Int):List (Str×Int):=match kd with
 |.basin=>([("basin",v - b),("low",room - (v - b))]:List (Str×Int)).filter yO
 |_=>([("low",room)]:List (Str×Int)).filter yO
theorem uZ (kd:Kd) (room v b:Int):(JG kd room v b).length≤2:=by
 cases kd
 ·exact Nat.le_trans (List.length_filter_le _ _) (by show 1≤2;decide)
 ·exact Nat.le_trans (List.length_filter_le _ _) (by show 2≤2;decide)
 ·exact Nat.le_trans (List.length_filter_le _ _) (by show 2≤2;decide)
theorem xG (kd:Kd) (room v b:Int):(JJ kd room v b).length≤2:=by
 cases kd
 ·exact Nat.le_trans (List.length_filter_le _ _) (by show 1≤2;decide)
 ·exact Nat.le_trans (List.length_filter_le _ _) (by show 2≤2;decide)
 ·exact Nat.le_trans (List.length_filter_le _ _) (by show 1≤2;decide)
def yJ (cs:Kd→Addr) (F:Kd→Int→Int→Int→List (Str×Int)) (kd:Kd):Sp:=fun vs H Q _=>∃(x:Addr) (n h l:V) (room v b:Int),vs=[.ref x,.int b]∧LockAt cs H x kd n h l room v∧
 ∀(r:Addr) (H':Hp) (rs:List V),Same H H'→H r=none→H' r=some (.lst rs)→PartsAt H' rs (F kd room v b)→Q (.ref r) H'
def NW (cs:Kd→Addr):Sp:=fun vs H Q _=>∃(kd:Kd) (x:Addr) (n h l:V) (room v b:Int),vs=[.ref x,.int b]∧LockAt cs H x kd n h l room v∧
 ∀(r:Addr) (H':Hp) (rs:List V),Same H H'→H r=none→H' r=some (.lst rs)→PartsAt H' rs (([("low",room)]:List (Str×Int)).filter yO)→Q (.ref r) H'
def bC (cs:Kd→Addr):Sp:=fun vs H Q _=>∃(kd:Kd) (x dx:Addr) (n h l r:V),vs=[.ref x,n,h,l,r]∧H x=some (.ins (cs kd) dx [])∧∀H':Hp,Keep x H H'→H' x=some (.ins (cs kd) dx (yD n h l r))→Q .non H'
def bB (cs:Kd→Addr) (kd:Kd):Sp:=fun vs H Q _=>∃(x dx:Addr) (n h l r v:V),vs=[.ref x,n,h,l,r,v]∧H x=some (.ins (cs kd) dx [])∧∀H':Hp,Keep x H H'→H' x=some (.ins (cs kd) dx (JD kd n h l r v))→Q .non H'
def yM (cs:Kd→Addr) (F:Kd→Int→V) (kd:Kd):Sp:=fun vs H Q _=>∃(x:Addr) (n h l:V) (room v:Int),vs=[.ref x]∧LockAt cs H x kd n h l room v∧Q (F kd v) H
def PoursS (H:Hp) (rs:List V) (ps:List (Str×Str×Int)):Prop:=rs.length=ps.length∧∀(i:Nat) (r:V),rs[i]?=some r→∃(a:Addr) (s t:Str) (n:Int),r=.ref a∧ps[i]?=some (s,t,n)∧H a=some (.tup [.str s,.str t,.int n])
theorem PoursS.nil:PoursS H [] []:=⟨rfl,fun i r hi=>by cases hi⟩
theorem PoursS.same {ps:List (Str×Str×Int)} (e:Same H H') (h:PoursS H rs ps):PoursS H' rs ps:=by
 refine ⟨h.1,fun i r hi=>?_⟩
 obtain ⟨a,s,t,n,h1,h2,h3⟩:=h.2 i r hi
 exact ⟨a,s,t,n,h1,h2,e _ _ h3⟩
theorem PoursS.keep {ps:List (Str×Str×Int)} (k:Keep d H H') (hd:H d=some (.lst ys)) (h:PoursS H rs ps):PoursS H' rs ps:=by
 refine ⟨h.1,fun i r hi=>?_⟩
 obtain ⟨a,s,t,n,h1,h2,h3⟩:=h.2 i r hi
 exact ⟨a,s,t,n,h1,h2,k _ _ (JV h3 hd (fun z=>nomatch z)) h3⟩
theorem PoursS.append {rs':List V} {ps ps':List (Str×Str×Int)} (h:PoursS H rs ps) (h':PoursS H rs' ps'):PoursS H (rs++rs') (ps++ps'):=by
 refine ⟨by rw [List.length_append,List.length_append,h.1,h'.1],fun i r hi=>?_⟩
 by_cases hl:i<rs.length
 ·rw [List.getElem?_append_left hl] at hi
  obtain ⟨b,s',t',n',h1,h2,h3⟩:=h.2 i r hi
  exact ⟨b,s',t',n',h1,by rw [List.getElem?_append_left (by rw [← h.1];exact hl)];exact h2,h3⟩
 ·rw [List.getElem?_append_right (by omega)] at hi
  obtain ⟨b,s',t',n',h1,h2,h3⟩:=h'.2 _ r hi
  exact ⟨b,s',t',n',h1,by rw [List.getElem?_append_right (by rw [← h.1];omega),← h.1];exact h2,h3⟩
theorem PoursS.one {s t:Str} {n:Int} (ht:H a=some (.tup [.str s,.str t,.int n])):PoursS H [.ref a] [(s,t,n)]:=by
 refine ⟨rfl,fun i r hi=>?_⟩
 cases i with
 |zero=>exact ⟨a,s,t,n,(Option.some.inj hi).symm,rfl,ht⟩
 |succ i=>cases hi
def zB (kd:Kd) (room v b:Int):List (Str×Str×Int):=(JG kd room v b).map fun p=>(p.1,"chamber",p.2)
def v6 (kd:Kd) (room v b:Int):List (Str×Str×Int):=(JJ kd room v b).map fun p=>("chamber",p.1,p.2)
theorem dD (kd:Kd) (room v b:Int):(zB kd room v b).length≤2:=by unfold zB;rw [List.length_map];exact uZ ..
theorem ZR (kd:Kd) (room v b:Int):(v6 kd room v b).length≤2:=by unfold v6;rw [List.length_map];exact xG ..
def QK (p:Str×Str×Int→Bool) (qs:List (Str×Str×Int)):List Int:=(qs.filter p).map (·.2.2)
theorem t6 (p:Str×Str×Int→Bool) (qs:List (Str×Str×Int)) (i:Nat) (q:Str×Str×Int) (h:qs[i]?=some q):QK p (qs.take (i+1))=QK p (qs.take i)++(if p q=true then [q.2.2] else []):=by
 unfold QK
 rw [List.take_add_one,h]
 simp only [Option.toList,List.filter_append,List.map_append]
 by_cases c:p q=true
 ·rw [if_pos c];simp [c]
 ·rw [if_neg c];simp [c]
theorem wD (p:Str×Str×Int→Bool) (qs:List (Str×Str×Int)) (i:Nat):(QK p (qs.take i)).length≤i:=by
 unfold QK
 rw [List.length_map]
 exact Nat.le_trans (List.length_filter_le _ _) (List.length_take_le _ _)
def eK (s:Str) (q:Str×Str×Int):Bool:=decide (q.1=s)
def toS (s:Str) (q:Str×Str×Int):Bool:=decide (q.2.1=s)
def B4 (s:Str) (qs:List (Str×Str×Int)):Int:=(QK (eK s) qs).sum
def JR (b:Int) (qs:List (Str×Str×Int)):Int:=b+(QK (toS "basin") qs).sum - B4 "basin" qs
theorem xS (s t:Str):decide (V.str s=V.str t)=decide (s=t):=decide_eq_decide.mpr ⟨V.str.inj,fun e=>by rw [e]⟩
def dG (cs:Kd→Addr) (F:Kd→Int→Int→Int→List (Str×Str×Int)):Sp:=fun vs H Q _=>∃(x:Addr) (kd:Kd) (n h l:V) (room v b:Int),vs=[.ref x,.int b]∧LockAt cs H x kd n h l room v∧
 ∀(r:Addr) (H':Hp) (rs:List V),Same H H'→H r=none→H' r=some (.lst rs)→PoursS H' rs (F kd room v b)→Q (.ref r) H'
def AD:Sp:=fun vs H Q _=>∃(s:Str) (p:Addr) (rs:List V) (qs:List (Str×Str×Int)),vs=[.str s,.ref p]∧H p=some (.lst rs)∧PoursS H rs qs∧rs.length≤999∧∀H',Same H H'→Q (.int (B4 s qs)) H'
def AE:Sp:=fun vs H Q _=>∃(b:Int) (p:Addr) (rs:List V) (qs:List (Str×Str×Int)),vs=[.int b,.ref p]∧H p=some (.lst rs)∧PoursS H rs qs∧rs.length≤999∧∀H',Same H H'→Q (.int (JR b qs)) H'
def bQ (kd:Kd) (room v:Int) (f:Bool) (b:Int) (w:Bool):List (Str×Str×Int):=match w,f with
 |true,true=>v6 kd room v b++zB kd room v (JR b (v6 kd room v b))
 |true,false=>zB kd room v b
 |false,true=>v6 kd room v b
 |false,false=>zB kd room v b++v6 kd room v (JR b (zB kd room v b))
theorem t7 (b:Int):JR b []=b:=by show b+0 - 0=b;omega
theorem uQ (kd:Kd) (room v:Int) (f:Bool) (b:Int) (w:Bool):(bQ kd room v f b w).length≤4:=by
 have h1:=fun b=>dD kd room v b
 have h2:=fun b=>ZR kd room v b
 cases w<;>cases f
 ·show (zB kd room v b++v6 kd room v (JR b (zB kd room v b))).length≤4
  rw [List.length_append];have:=h1 b;have:=h2 (JR b (zB kd room v b));omega
 ·exact Nat.le_trans (h2 b) (by decide)
 ·exact Nat.le_trans (h1 b) (by decide)
 ·show (v6 kd room v b++zB kd room v (JR b (v6 kd room v b))).length≤4
  rw [List.length_append];have:=h2 b;have:=h1 (JR b (v6 kd room v b));omega
def uH (cs:Kd→Addr):Sp:=fun vs H Q _=>∃(x:Addr) (kd:Kd) (n h l:V) (room v b:Int) (f w:Bool),vs=[.ref x,.bl f,.int b,wv w]∧LockAt cs H x kd n h l room v∧
 ∀(r:Addr) (H':Hp) (rs:List V),Same H H'→H r=none→H' r=some (.lst rs)→PoursS H' rs (bQ kd room v f b w)→Q (.ref r) H'
variable {α:Type}
theorem sK {β:Type} {f:α→β} {ps:List α} {p:α} (h:ps[i]?=some p):(ps.take (i+1)).map f=(ps.take i).map f++[f p]:=by
 rw [List.take_add_one,h,List.map_append];rfl
def JT (c m:Int):Int:=if m - c>0 then m - c else 0
def QW (ws:List (Int×Nat)) (i:Nat):Int:=(ws.getD i (0,0)).1
def kL (ws:List (Int×Nat)) (i:Nat):Nat:=(ws.getD i (0,0)).2
def WeirsAt (K:W.Frag) (H:Hp) (rs:List V) (ws:List (Int×Nat)) (n:Nat):Prop :=
 rs.length=ws.length∧∀(i:Nat) (r:V),rs[i]?=some r→∃(a:Addr) (c:Int) (t:Nat),r=.ref a∧ws[i]?=some (c,t)∧SqT K H a [.int c,.int t]∧t<n
def iO (R:Nat) (ws:List (Int×Nat)):Prop:=∀(i:Nat) (c:Int) (t:Nat),ws[i]?=some (c,t)→t<i∨R≤t
variable {ws:List (Int×Nat)}
theorem WeirsAt.same (e:Same H H') (h:WeirsAt K H rs ws n):WeirsAt K H' rs ws n:=by
 refine ⟨h.1,fun i r hi=>?_⟩
 obtain ⟨a,c,t,h1,h2,h3,h4⟩:=h.2 i r hi
 exact ⟨a,c,t,h1,h2,pT e h3,h4⟩
theorem gB (h:WeirsAt K H rs ws n) (hi:i<ws.length):∃a,qT rs (i:Int)=some (V.ref a)∧SqT K H a [.int (QW ws i),.int (kL ws i)]∧kL ws i<n:=by
 have hk:i<rs.length:=by rw [h.1];exact hi
 obtain ⟨a,c,t,h1,h2,h3,h4⟩:=h.2 i rs[i] (List.getElem?_eq_getElem hk)
 have e:ws.getD i (0,0)=(c,t):=by rw [List.getD_eq_getElem?_getD,h2];rfl
 refine ⟨a,qL (by rw [List.getElem?_eq_getElem hk,h1]),?_,?_⟩
 ·unfold QW kL;rw [e];exact h3
 ·unfold kL;rw [e];exact h4
theorem NK {R:Nat} (h:iO R ws) (hi:i<ws.length):kL ws i<i∨R≤kL ws i:=by
 have e:ws[i]?=some ((ws.getD i (0,0)).1,(ws.getD i (0,0)).2):=by rw [List.getD_eq_getElem?_getD,List.getElem?_eq_getElem hi];rfl
 exact h i _ _ e
def BJ (K:W.Frag):Sp:=fun vs H Q _=>∃(wq wa:Addr) (rs:List V) (ws:List (Int×Nat)) (n:Nat) (ms:List Int) (at_:Nat),vs=[.ref wq,.ref wa,.int at_]∧SqL K H wq rs∧WeirsAt K H rs ws n∧Ints K H wa ms∧at_<ws.length∧at_<ms.length∧
 Q (.int (JT (QW ws at_) (ms.getD at_ 0))) H
def vJ (t:Nat→Nat) (g:Nat→Int) (j:Nat):Nat→Int
 |0=>0
 |a+1=>vJ t g j a+(if t a=j then g a else 0)
theorem nM {t:Nat→Nat} {g g':Nat→Int} {j:Nat}:∀{R:Nat},(∀a,a<R→t a=j→g a≤g' a)→vJ t g j R≤vJ t g' j R
 |0,_=>Int.le_refl _
 |R+1,h=>by
  show vJ t g j R+_≤vJ t g' j R+_
  have ih:=nM (R:=R) fun a ha=>h a (by omega)
  by_cases c:t R=j
  ·rw [if_pos c,if_pos c]
   have:=h R (by omega) c
   omega
  ·rw [if_neg c,if_neg c]
   omega
theorem sW (t:Nat→Nat) (j:Nat):∀R:Nat,vJ t (fun _=>0) j R=0
 |0=>rfl
 |R+1=>by
  show vJ t (fun _=>0) j R+_=0
  rw [sW t j R]
  split<;>rfl
theorem tP {t:Nat→Nat} {g g':Nat→Int} {i:Nat} (hg:∀a,a≠i→g' a=g a) (j:Nat):∀{R:Nat},vJ t g' j R=vJ t g j R+(if i<R∧t i=j then g' i - g i else 0)
 |0=>by
  show (0:Int)=0+_
  rw [if_neg (by omega)]
  rfl
 |R+1=>by
  show vJ t g' j R+(if t R=j then g' R else 0)=vJ t g j R+(if t R=j then g R else 0)+(if i<R+1∧t i=j then g' i - g i else 0)
  rw [tP hg j (R:=R)]
  by_cases hi:i=R
  ·subst hi
   repeat' split
   all_goals omega
  ·rw [hg R (fun e=>hi e.symm)]
   repeat' split
   all_goals omega
def ZV (R:Nat) (c:Nat→Int) (t:Nat→Nat) (m:Nat→Int) (g:Nat→Int):Prop:=∀i,i<R→g i=JT (c i) (m i+vJ t g i R)
def Q5 (R:Nat) (t:Nat→Nat):Prop:=∀a,a<R→t a<a∨R≤t a
theorem KJ {c m m':Int} (h:m≤m'):JT c m≤JT c m':=by
 unfold JT
 split<;>split<;>omega
variable {c g g':Nat→Int}
theorem nS {R:Nat} {t:Nat→Nat} {m m':Nat→Int} (hA:Q5 R t) (hm:∀i,i<R→m i≤m' i) (h:ZV R c t m g) (h':ZV R c t m' g'):∀k,k≤R→∀i,R - k≤i→i<R→g i≤g' i:=by
 intro k
 induction k with
 |zero=>intro _ i h1 h2;omega
 |succ k ih =>
  intro hk i h1 h2
  by_cases e:R - k≤i
  ·exact ih (by omega) i e h2
  ·have hi:i=R - (k+1):=by omega
   rw [h i h2,h' i h2]
   refine KJ ?_
   have:=nM (t:=t) (g:=g) (g':=g') (j:=i) (R:=R) fun a ha hta=>ih (by omega) a (by have:=hA a ha;omega) ha
   have:=hm i h2
   omega
theorem ID {R:Nat} {t:Nat→Nat} {m:Nat→Int} (hA:Q5 R t) (h:ZV R c t m g) (h':ZV R c t m g') (hi:i<R):g i=g' i:=by
 have h1:=nS hA (fun i _=>Int.le_refl (m i)) h h' R (Nat.le_refl _) i (by omega) hi
 have h2:=nS hA (fun i _=>Int.le_refl (m i)) h' h R (Nat.le_refl _) i (by omega) hi
 omega
def after (R:Nat) (t:Nat→Nat) (m g:Nat→Int) (j:Nat):Int:=m j+vJ t g j R - (if j<R then g j else 0)
def qN:List (Nat×Nat×Int)→Nat→Int
 |[],_=>0
 |q::r,j=>(if q.2.1=j then q.2.2 else 0) - (if q.1=j then q.2.2 else 0)+qN r j
theorem cW (l:List Int) (i j:Nat) (z:Int) (h:i<l.length):(l.set i z).getD j 0=if i=j then z else l.getD j 0:=by
 rw [List.getD_eq_getElem?_getD,List.getD_eq_getElem?_getD]
 by_cases e:i=j
 ·subst e
  rw [List.getElem?_set_self h,if_pos rfl]
  rfl
 ·rw [List.getElem?_set_ne e,if_neg e]
theorem dC (ms:List Int) (q:Nat×Nat×Int) (j:Nat) (h1:q.1<ms.length) (h2:q.2.1<ms.length):(pour ms q).getD j 0=ms.getD j 0+((if q.2.1=j then q.2.2 else 0) - (if q.1=j then q.2.2 else 0)):=by
 unfold pour
 rw [cW _ _ _ _ (by rw [List.length_set];exact h2),cW _ _ _ _ h1,cW _ _ _ _ h1]
 by_cases a:q.2.1=j
 ·rw [if_pos a,if_pos a]
  rw [a]
  by_cases b:q.1=j
  ·rw [if_pos b,if_pos b];rw [b];omega
  ·rw [if_neg b,if_neg b];omega
 ·rw [if_neg a,if_neg a]
  by_cases b:q.1=j
  ·rw [if_pos b,if_pos b];rw [b];omega
  ·rw [if_neg b,if_neg b];omega
theorem zG:∀(qs:List (Nat×Nat×Int)) (ms:List Int) (j:Nat),(∀q∈qs,q.1<ms.length∧q.2.1<ms.length)→(j3 ms qs).getD j 0=ms.getD j 0+qN qs j
 |[],ms,j,_=>by
  show ms.getD j 0=ms.getD j 0+0
  omega
 |q::r,ms,j,h=>by
  show (j3 (pour ms q) r).getD j 0=_
  obtain ⟨h1,h2⟩:=h q List.mem_cons_self
  rw [zG r (pour ms q) j (fun x hx=>by rw [cY];exact h x (List.mem_cons_of_mem _ hx)),dC ms q j h1 h2]
  show _=ms.getD j 0+((if q.2.1=j then q.2.2 else 0) - (if q.1=j then q.2.2 else 0)+qN r j)
  omega
theorem KZ (n:Nat):yE (n+1)=n::yE n:=by
 unfold yE
 rw [List.range_succ,List.reverse_append]
 rfl
theorem mem_downs {a:Nat}:a∈yE n↔a<n:=by
 unfold yE
 rw [List.mem_reverse,List.mem_range]
theorem cX (n:Nat):(yE n).length=n:=by
 unfold yE
 rw [List.length_reverse,List.length_range]
theorem u4 {k:Nat} (h:k<n):(yE n)[k]?=some (n - 1 - k):=by
 unfold yE
 rw [List.getElem?_reverse (by simpa using h),List.length_range,List.getElem?_range (by omega)]
def vT (t:Nat→Nat) (g:Nat→Int) (R:Nat):List (Nat×Nat×Int):=(yE R).map fun a=>(a,t a,g a)
theorem tQ (t:Nat→Nat) (g:Nat→Int) (j:Nat):∀R:Nat,qN (vT t g R) j=vJ t g j R - (if j<R then g j else 0)
 |0=>by
  show (0:Int)=0 - _
  rw [if_neg (by omega)]
  rfl
 |R+1=>by
  unfold vT
  rw [KZ]
  show (if t R=j then g R else 0) - (if R=j then g R else 0)+qN (vT t g R) j=vJ t g j R+(if t R=j then g R else 0) - _
  rw [tQ t g j R]
  by_cases e:R=j
  ·subst e
   repeat' split
   all_goals omega
  ·repeat' split
   all_goals omega
theorem xP {l l':List Int} (h:l.length=l'.length) (e:∀j,j<l.length→l.getD j 0=l'.getD j 0):l=l':=by
 apply List.ext_getElem h
 intro i h1 h2
 have:=e i h1
 rw [List.getD_eq_getElem?_getD,List.getD_eq_getElem?_getD,List.getElem?_eq_getElem h1,List.getElem?_eq_getElem h2] at this
 exact this
def JI (ms:List Int) (ws:List (Int×Nat)) (gs:List Int):List Int:=j3 ms (vT (kL ws) (fun a=>gs.getD a 0) ws.length)
theorem IN (ms:List Int) (ws:List (Int×Nat)) (gs:List Int):(JI ms ws gs).length=ms.length:=vG _ _
variable {gs:List Int}
theorem uL (hR:ws.length≤ms.length) (ht:∀a,a<ws.length→kL ws a<ms.length) (j:Nat) :
  (JI ms ws gs).getD j 0=after ws.length (kL ws) (fun j=>ms.getD j 0) (fun a=>gs.getD a 0) j:=by
 unfold JI
 rw [zG _ _ _ (fun q hq=>?_),tQ]
 ·unfold after
  show ms.getD j 0+(vJ _ _ _ _ - (if j<ws.length then gs.getD j 0 else 0))=ms.getD j 0+vJ _ _ _ _ - (if j<ws.length then gs.getD j 0 else 0)
  omega
 ·obtain ⟨a,ha,rfl⟩:=List.mem_map.mp hq
  have:=mem_downs.mp ha
  exact ⟨by show a<ms.length;omega,ht a this⟩
def Spl (ws:List (Int×Nat)) (ms gs:List Int):Prop:=gs.length=ws.length∧ZV ws.length (QW ws) (kL ws) (fun j=>ms.getD j 0) (fun a=>gs.getD a 0)
variable {gs':List Int}
theorem Spl.unique (hA:Q5 ws.length (kL ws)) (h:Spl ws ms gs) (h':Spl ws ms gs'):gs=gs':=by
 refine xP (by rw [h.1,h'.1]) fun j hj=>?_
 exact ID hA h.2 h'.2 (by rw [← h.1];exact hj)
theorem gH (h:iO ws.length ws):Q5 ws.length (kL ws):=fun a ha=>NK h ha
theorem t9 (h:WeirsAt K H rs ws n):∀a,a<ws.length→kL ws a<n:=fun a ha=>let ⟨_,_,_,q⟩:=gB h ha;q
structure SplInv (ws:List (Int×Nat)) (ms hs gs:List Int) (k:Nat):Prop where
 lh:hs.length=ms.length
 lg:gs.length=ws.length
 flow:∀j,j<ms.length→hs.getD j 0=ms.getD j 0+vJ (kL ws) (fun a=>gs.getD a 0) j ws.length
 zero:∀a,a<ws.length - k→gs.getD a 0=0
 done:∀a,ws.length - k≤a→a<ws.length→gs.getD a 0=JT (QW ws a) (ms.getD a 0+vJ (kL ws) (fun a=>gs.getD a 0) a ws.length)
theorem SplInv.start (ws:List (Int×Nat)) (ms:List Int):SplInv ws ms ms (List.replicate ws.length 0) 0:=by
 have ez:(fun a:Nat=>(List.replicate ws.length (0:Int)).getD a 0)=fun _=>0:=by
  funext a
  rw [List.getD_eq_getElem?_getD,List.getElem?_replicate]
  split<;>rfl
 refine ⟨rfl,by simp,fun j _=>?_,fun a _=>congrFun ez a,fun a h1 h2=>by omega⟩
 rw [ez,sW]
 omega
theorem SplInv.step {hs:List Int} {k:Nat} (hA:Q5 ws.length (kL ws)) (hR:ws.length≤ms.length) (hk:k<ws.length) (ht:kL ws (ws.length - 1 - k)<ms.length) (h:SplInv ws ms hs gs k) :
  SplInv ws ms (hs.set (kL ws (ws.length - 1 - k)) (hs.getD (kL ws (ws.length - 1 - k)) 0+(gs.set (ws.length - 1 - k) (JT (QW ws (ws.length - 1 - k)) (hs.getD (ws.length - 1 - k) 0))).getD (ws.length - 1 - k) 0))
   (gs.set (ws.length - 1 - k) (JT (QW ws (ws.length - 1 - k)) (hs.getD (ws.length - 1 - k) 0))) (k+1):=by
 obtain ⟨i,hi⟩:∃i,i=ws.length - 1 - k:=⟨_,rfl⟩
 rw [← hi] at ht ⊢
 obtain ⟨lh,lg,flow,zero,done⟩:=h
 have hil:i<gs.length:=by rw [lg];omega
 obtain ⟨v,hv⟩:∃v,v=JT (QW ws i) (hs.getD i 0):=⟨_,rfl⟩
 rw [← hv]
 have gset:∀a,(gs.set i v).getD a 0=if i=a then v else gs.getD a 0:=fun a=>cW gs i a v hil
 have g0:gs.getD i 0=0:=zero i (by omega)
 have gi:(gs.set i v).getD i 0=v:=by rw [gset,if_pos rfl]
 have infl:∀j,vJ (kL ws) (fun a=>(gs.set i v).getD a 0) j ws.length=vJ (kL ws) (fun a=>gs.getD a 0) j ws.length+(if kL ws i=j then v else 0):=fun j=>by
  rw [tP (g:=fun a=>gs.getD a 0) (i:=i) (fun a ha=>by show (gs.set i v).getD a 0=gs.getD a 0;rw [gset,if_neg (Ne.symm ha)]) j]
  show _+(if i<ws.length∧kL ws i=j then (gs.set i v).getD i 0 - gs.getD i 0 else 0)=_
  rw [gi,g0]
  have hiw:i<ws.length:=by omega
  repeat' split
  all_goals omega
 have hti:=hA i (by omega)
 refine ⟨by rw [List.length_set,lh],by rw [List.length_set,lg],fun j hj=>?_,fun a ha=>?_,fun a h1 h2=>?_⟩
 ·rw [cW _ _ _ _ (by rw [lh];exact ht),infl,gi]
  have:=flow j hj
  by_cases e:kL ws i=j
  ·rw [if_pos e,if_pos e,e]
   omega
  ·rw [if_neg e,if_neg e]
   omega
 ·rw [gset,if_neg (by omega)]
  exact zero a (by omega)
 ·rw [infl]
  by_cases e:i=a
  ·subst e
   rw [gi,if_neg (by omega),Int.add_zero,hv,flow i (by omega)]
  ·rw [gset,if_neg e,if_neg (by omega),Int.add_zero]
   exact done a (by omega) h2
theorem SplInv.spl {hs:List Int} (h:SplInv ws ms hs gs ws.length):Spl ws ms gs:=⟨h.lg,fun i hi=>h.done i (by omega) hi⟩
theorem wY (n:Nat):(List.replicate n [V.int 0]).flatten=(List.replicate n (0:Int)).map V.int:=by
 induction n with
 |zero=>rfl
 |succ n ih =>
  rw [List.replicate_succ,List.flatten_cons,ih,List.replicate_succ,List.map_cons]
  rfl
theorem K2 (a b:Int):decide (V.int a=V.int b)=decide (a=b):=by
 by_cases e:a=b
 ·rw [decide_eq_true e,decide_eq_true (by rw [e])]
 ·rw [decide_eq_false e,decide_eq_false (fun q=>e (V.int.inj q))]
structure Ready (K:W.Frag) (H:Hp) (wq wa:Addr) (rs:List V) (ws:List (Int×Nat)) (ms:List Int):Prop where
 w:SqL K H wq rs
 a:WeirsAt K H rs ws ms.length
 m:Ints K H wa ms
 ah:iO ws.length ws
 le:ws.length≤ms.length
 sm:ms.length≤1000
theorem Ready.same {wq wa:Addr} (e:Same H H') (h:Ready K H wq wa rs ws ms):Ready K H' wq wa rs ws ms:=⟨e.seq h.w,h.a.same e,h.m.same e,h.ah,h.le,h.sm⟩
def pM (K:W.Frag):Sp:=fun vs H Q _=>∃(wq:Addr) (rs:List V),vs=[.ref wq]∧SqL K H wq rs∧rs.length≤1000∧∀(r:Addr) (H':Hp),Same H H'→H r=none→H' r=some (.lst ((yE rs.length).map fun (i:Nat)=>V.int (i:Int)))→Q (.ref r) H'
def wM (K:W.Frag):Sp:=fun vs H Q _=>∃(wq wa:Addr) (rs:List V) (ws:List (Int×Nat)) (ms:List Int),vs=[.ref wq,.ref wa]∧Ready K H wq wa rs ws ms∧
 ∀(r:Addr) (H':Hp) (gs:List Int),Same H H'→H r=none→H' r=some (.lst (gs.map V.int))→Spl ws ms gs→Q (.ref r) H'
def uG (K:W.Frag):Sp:=fun vs H Q _=>∃(wq wa:Addr) (rs:List V) (ws:List (Int×Nat)) (ms:List Int),vs=[.ref wq,.ref wa]∧Ready K H wq wa rs ws ms∧
 ∀(r:Addr) (H':Hp) (gs:List Int),Same H H'→H r=none→H' r=some (.tup ((JI ms ws gs).map V.int))→Spl ws ms gs→Q (.ref r) H'
theorem xQ {R:Nat} {x:V} (h:((yE R).map fun (i:Nat)=>V.int (i:Int))[i]?=some x):i<R∧x=V.int ((R - 1 - i:Nat):Int):=by
 rw [List.getElem?_map] at h
 by_cases hi:i<R
 ·rw [u4 hi] at h
  exact ⟨hi,(Option.some.inj h).symm⟩
 ·rw [List.getElem?_eq_none (by rw [cX];omega)] at h
  cases h
theorem IL {t:Nat→Nat} {R:Nat} (h:i<R):(vT t g R)[i]?=some (R - 1 - i,t (R - 1 - i),g (R - 1 - i)):=by
 unfold vT
 rw [List.getElem?_map,u4 h]
 rfl
def kY (q:Nat×Nat×Int):Bool := !decide (q.2.2=0)
theorem bF (j:Nat):∀qs:List (Nat×Nat×Int),qN (qs.filter kY) j=qN qs j
 |[]=>rfl
 |q::r=>by
  rw [List.filter_cons]
  by_cases h:q.2.2=0
  ·rw [if_neg (by unfold kY;rw [decide_eq_true h];decide)]
   show qN (r.filter kY) j=(if q.2.1=j then q.2.2 else 0) - (if q.1=j then q.2.2 else 0)+qN r j
   rw [bF j r,h]
   repeat' split
   all_goals omega
  ·rw [if_pos (by unfold kY;rw [decide_eq_false h];rfl)]
   show _+qN (r.filter kY) j=_+qN r j
   rw [bF j r]
variable {qs:List (Nat×Nat×Int)}
theorem nU (h:∀q∈qs,q.1<ms.length∧q.2.1<ms.length):j3 ms (qs.filter kY)=j3 ms qs:=by
 refine xP (by rw [vG,vG]) fun j _=>?_
 rw [zG _ _ _ h,zG _ _ _ (fun q hq=>h q (List.mem_filter.mp hq).1),bF]
theorem fV (hR:ws.length≤n) (ht:∀a,a<ws.length→kL ws a<n):∀q∈vT (kL ws) g ws.length,q.1<n∧q.2.1<n:=fun q hq=>by
 obtain ⟨a,ha,rfl⟩:=List.mem_map.mp hq
 have:=mem_downs.mp ha
 exact ⟨by show a<n;omega,ht a this⟩
def PoursH (H:Hp) (rs:List V) (qs:List (Nat×Nat×Int)) (n:Nat):Prop:=rs.length=qs.length∧∀(i:Nat) (r:V),rs[i]?=some r→∃(a:Addr) (s t:Nat) (m:Int),r=.ref a∧qs[i]?=some (s,t,m)∧H a=some (.tup [.int s,.int t,.int m])∧s<n∧t<n
theorem PoursH.nil (H:Hp) (n:Nat):PoursH H [] [] n:=⟨rfl,fun i r hi=>by cases hi⟩
theorem PoursH.pa (h:PoursH H rs qs n):BE K H rs qs n:=⟨h.1,fun i r hi=>by
 obtain ⟨a,s,t,m,h1,h2,h3,h4⟩:=h.2 i r hi
 exact ⟨a,s,t,m,h1,h2,SqT.of h3,h4⟩⟩
theorem PoursH.same (h:PoursH H rs qs n) (e:Same H H'):PoursH H' rs qs n:=⟨h.1,fun i r hi=>by
 obtain ⟨a,s,t,m,h1,h2,h3,h4⟩:=h.2 i r hi
 exact ⟨a,s,t,m,h1,h2,e _ _ h3,h4⟩⟩
variable {o:HO}
theorem PoursH.put (h:PoursH H rs qs n) (hd:H d=some (.lst ys)):PoursH (upd H d o) rs qs n:=⟨h.1,fun i r hi=>by
 obtain ⟨a,s,t,m,h1,h2,h3,h4⟩:=h.2 i r hi
 exact ⟨a,s,t,m,h1,h2,by rw [jL (fun z=>by rw [z,hd] at h3;cases h3)];exact h3,h4⟩⟩
theorem PoursH.append {rs':List V} {qs':List (Nat×Nat×Int)} (h:PoursH H rs qs n) (h':PoursH H rs' qs' n):PoursH H (rs++rs') (qs++qs') n:=by
 refine ⟨by rw [List.length_append,List.length_append,h.1,h'.1],fun i r hi=>?_⟩
 by_cases hl:i<rs.length
 ·rw [List.getElem?_append_left hl] at hi
  obtain ⟨a,s,t,m,h1,h2,h3⟩:=h.2 i r hi
  exact ⟨a,s,t,m,h1,by rw [List.getElem?_append_left (by rw [← h.1];exact hl)];exact h2,h3⟩
 ·rw [List.getElem?_append_right (by omega)] at hi
  obtain ⟨a,s,t,m,h1,h2,h3⟩:=h'.2 _ r hi
  exact ⟨a,s,t,m,h1,by rw [List.getElem?_append_right (by rw [← h.1];omega),← h.1];exact h2,h3⟩
theorem PoursH.snoc {t:Nat} {m:Int} (h:PoursH H rs qs n) (ha:H a=some (.tup [.int s,.int t,.int m])) (hs:s<n) (ht:t<n):PoursH H (rs++[.ref a]) (qs++[(s,t,m)]) n:=h.append ⟨rfl,fun i r hi=>by
 rcases i with _|i
 ·cases hi;exact ⟨a,s,t,m,rfl,rfl,ha,hs,ht⟩
 ·cases hi⟩
def oO (K:W.Frag):Sp:=fun vs H Q _=>∃(wq wa:Addr) (rs:List V) (ws:List (Int×Nat)) (ms:List Int),vs=[.ref wq,.ref wa]∧Ready K H wq wa rs ws ms∧
 ∀(r:Addr) (H':Hp) (gs:List Int) (ys:List V),Same H H'→H r=none→H' r=some (.lst ys)→PoursH H' ys ((vT (kL ws) (fun a=>gs.getD a 0) ws.length).filter kY) ms.length→Spl ws ms gs→Q (.ref r) H'
def oZ (K:W.Frag):Sp:=fun vs H Q _=>∃(wq wa p:Addr) (rs ps:List V) (ws:List (Int×Nat)) (ms:List Int) (qs:List (Nat×Nat×Int)),vs=[.ref wq,.ref wa,.ref p]∧Ready K H wq wa rs ws ms∧H p=some (.lst ps)∧PoursH H ps qs ms.length∧ps.length≤500∧
 ∀(r:Addr) (H':Hp) (gs:List Int) (ys:List V),Same H H'→H r=none→H' r=some (.lst ys)→PoursH H' ys (qs++(vT (kL ws) (fun a=>gs.getD a 0) ws.length).filter kY) ms.length→Spl ws (j3 ms qs) gs→Q (.ref r) H'
theorem IM (ws:List (Int×Nat)) (g:Nat→Int):((vT (kL ws) g ws.length).filter kY).length≤ws.length:=by
 refine Nat.le_trans (List.length_filter_le ..) ?_
 unfold vT
 rw [List.length_map,cX]
 exact Nat.le_refl _
structure RC where
 name:Str
 least:Int
 crest:Int
 berths:Int
 water:Int
 target:Int
def RC.good (r:RC) (n:Nat):Prop:=0≤r.least∧r.least≤r.crest∧r.crest≤999999999999∧1≤r.berths∧r.berths≤9∧0≤r.water∧r.water≤999999999999∧-1≤r.target∧r.target<(n:Int)
structure LC where
 name:Str
 high:Int
 low:Int
 room:Int
 kd:Kd
 extra:Int
def LC.good (l:LC) (n:Nat):Prop:=1≤l.high∧l.high<(n:Int)∧0≤l.low∧l.low<l.high∧1≤l.room∧l.room≤999999999999∧(l.kd=.plain→l.extra=0)∧(l.kd≠.plain→1≤l.extra∧l.extra≤l.room)
def AllAt {α:Type} (P:V→α→Prop) (vs:List V) (xs:List α):Prop:=vs.length=xs.length∧∀(i:Nat) (v:V),vs[i]?=some v→∃x,xs[i]?=some x∧P v x
theorem AllAt.nil {P:V→α→Prop}:AllAt P [] ([]:List α):=⟨rfl,fun i v h=>by cases h⟩
variable {vs:List V}
theorem AllAt.mono {P P':V→α→Prop} {xs:List α} (m:∀v x,P v x→P' v x) (h:AllAt P vs xs):AllAt P' vs xs:=⟨h.1,fun i v hv=>by obtain ⟨x,h1,h2⟩:=h.2 i v hv;exact ⟨x,h1,m v x h2⟩⟩
variable {v:V}
theorem AllAt.snoc {P:V→α→Prop} {xs:List α} {x:α} (h:AllAt P vs xs) (hv:P v x):AllAt P (vs++[v]) (xs++[x]):=by
 refine ⟨by rw [List.length_append,List.length_append,h.1];rfl,fun i w hw=>?_⟩
 by_cases hl:i<vs.length
 ·rw [List.getElem?_append_left hl] at hw
  rw [List.getElem?_append_left (by rw [← h.1];exact hl)]
  exact h.2 i w hw
 ·rw [List.getElem?_append_right (by omega)] at hw
  have e:i=vs.length:=by
   by_cases z:i - vs.length=0
   ·omega
   ·rw [List.getElem?_eq_none (by show 1≤i - vs.length;omega)] at hw;cases hw
  rw [e,Nat.sub_self] at hw
  cases hw
  refine ⟨x,?_,hv⟩
  rw [e,h.1,List.getElem?_append_right (Nat.le_refl _),Nat.sub_self]
  rfl
theorem AllAt.get {P:V→α→Prop} {xs:List α} (h:AllAt P vs xs) {x:α} (hx:xs[i]?=some x):∃v,vs[i]?=some v∧P v x:=by
 have hi:i<vs.length:=by rw [h.1];exact (List.getElem?_eq_some_iff.mp hx).1
 obtain ⟨y,h1,h2⟩:=h.2 i _ (List.getElem?_eq_getElem hi)
 rw [hx] at h1
 cases h1
 exact ⟨_,List.getElem?_eq_getElem hi,h2⟩
def QAt (H:Hp) (v:V) (p:Int×Int):Prop:=∃t,v=.ref t∧H t=some (.tup [.int p.1,.int p.2])
def NAt (D:List Addr) (H:Hp) (v:V) (ps:List (Int×Int)):Prop:=∃(l:Addr) (qs:List V),v=.ref l∧H l=some (.lst qs)∧AllAt (QAt H) qs ps∧l∉D
theorem QAt.same (e:Same H H') (v:V) (r:Int×Int):QAt H v r→QAt H' v r:=fun ⟨t,h1,h2⟩=>⟨t,h1,e _ _ h2⟩
theorem QAt.put (hd:H d=some (.lst ys)) (v:V) (r:Int×Int):QAt H v r→QAt (upd H d o) v r:=fun ⟨t,h1,h2⟩=>⟨t,h1,by rw [jL (fun z=>by rw [z,hd] at h2;cases h2)];exact h2⟩
variable {D:List Addr}
theorem NAt.same (e:Same H H') (v:V) (r:List (Int×Int)):NAt D H v r→NAt D H' v r:=fun ⟨l,qs,h1,h2,h3,h4⟩=>⟨l,qs,h1,e _ _ h2,h3.mono (QAt.same e),h4⟩
theorem NAt.put (hd:H d=some (.lst ys)) (hD:d∈D) (v:V) (r:List (Int×Int)):NAt D H v r→NAt D (upd H d o) v r:=fun ⟨l,qs,h1,h2,h3,h4⟩=>⟨l,qs,h1,by rw [jL (fun z=>h4 (by rw [z];exact hD))];exact h2,h3.mono (QAt.put hd),h4⟩
theorem NAt.less {D':List Addr} (hD:∀d∈D',d∈D) (v:V) (r:List (Int×Int)):NAt D H v r→NAt D' H v r:=fun ⟨l,qs,h1,h2,h3,h4⟩=>⟨l,qs,h1,h2,h3,fun z=>h4 (hD _ z)⟩
variable {fs:List (Str×V)}
theorem QC {f:Str}:(jV f v fs).lookup f=some v:=by rw [vO,if_pos rfl]
theorem vH {f g:Str} (h:¬g=f):(jV f v fs).lookup g=fs.lookup g:=by rw [vO,if_neg h]
def oX (fs:List (Str×V)) (v_name v_least v_crest v_berths v_water v_target:V):Prop:=fs.lookup ("name":Str)=some v_name∧fs.lookup ("least":Str)=some v_least∧fs.lookup ("crest":Str)=some v_crest∧fs.lookup ("berths":Str)=some v_berths∧fs.lookup ("water":Str)=some v_water∧fs.lookup ("target":Str)=some v_target
theorem K8 (v_name v_least v_crest v_berths v_water v_target:V):oX (jV "target" v_target (jV "water" v_water (jV "berths" v_berths (jV "crest" v_crest (jV "least" v_least (jV "name" v_name [])))))) v_name v_least v_crest v_berths v_water v_target:=by
 refine ⟨?_,?_,?_,?_,?_,?_⟩
 ·rw [vH (f:="target") (g:="name") (by decide +kernel),vH (f:="water") (g:="name") (by decide +kernel),vH (f:="berths") (g:="name") (by decide +kernel),vH (f:="crest") (g:="name") (by decide +kernel),vH (f:="least") (g:="name") (by decide +kernel),QC]
 ·rw [vH (f:="target") (g:="least") (by decide +kernel),vH (f:="water") (g:="least") (by decide +kernel),vH (f:="berths") (g:="least") (by decide +kernel),vH (f:="crest") (g:="least") (by decide +kernel),QC]
 ·rw [vH (f:="target") (g:="crest") (by decide +kernel),vH (f:="water") (g:="crest") (by decide +kernel),vH (f:="berths") (g:="crest") (by decide +kernel),QC]
 ·rw [vH (f:="target") (g:="berths") (by decide +kernel),vH (f:="water") (g:="berths") (by decide +kernel),QC]
 ·rw [vH (f:="target") (g:="water") (by decide +kernel),QC]
 ·rw [QC]
def nJ (c:Addr):Sp:=fun vs H Q _=>∃(x dx:Addr) (v_name v_least v_crest v_berths v_water v_target:V),vs=[.ref x,v_name,v_least,v_crest,v_berths,v_water,v_target]∧H x=some (.ins c dx [])∧∀(H':Hp) (fs:List (Str×V)),Keep x H H'→H' x=some (.ins c dx fs)→oX fs v_name v_least v_crest v_berths v_water v_target→Q .non H'
def RcAt (cR:Addr) (H:Hp) (x:Addr) (r:RC):Prop:=∃(dx:Addr) (fs:List (Str×V)),H x=some (.ins cR dx fs)∧oX fs (.str r.name) (.int r.least) (.int r.crest) (.int r.berths) (.int r.water) (.int r.target)
variable {cR:Addr}
theorem RcAt.same {r:RC} (e:Same H H') (h:RcAt cR H x r):RcAt cR H' x r:=by
 obtain ⟨dx,fs,h1,h2⟩:=h
 exact ⟨dx,fs,e _ _ h1,h2⟩
theorem QR {X:Cx} (K:W.Frag) (h:X.K=K:=by rfl):yV X (.type "list") (fun xs H Q=>∃p ys,xs=[.ref p]∧(SqL K H p ys∨SqT K H p ys)∧∀l,H l=none→Q (.ref l) (upd H l (.lst ys))):=by subst h;exact IG
variable {pos:Pos}
theorem j6 {X:Cx} (K:W.Frag) {e:Expr} {f:Str} {ta:TE} (he:PE X e ta) (hb:attributeBase e f X.env (eval e X.env)=eval e X.env) (h:X.K=K:=by rfl):PE X (.Attribute e f pos) (CS K ta f):=by subst h;exact DF he hb
def CanalFld (fs:List (Str×V)) (r l n:V):Prop:=fs.lookup ("reaches":Str)=some r∧fs.lookup ("locks":Str)=some l∧fs.lookup ("nights":Str)=some n∧∀m:Str,¬m="reaches"→¬m="locks"→¬m="nights"→fs.lookup m=none
theorem K9 (r l n:V):CanalFld (jV "nights" n (jV "locks" l (jV "reaches" r []))) r l n:=by
 refine ⟨?_,?_,?_,fun m h1 h2 h3=>?_⟩
 ·rw [vH (f:="nights") (g:="reaches") (by decide +kernel),vH (f:="locks") (g:="reaches") (by decide +kernel),QC]
 ·rw [vH (f:="nights") (g:="locks") (by decide +kernel),QC]
 ·rw [QC]
 ·rw [vH h3,vH h2,vH h1];rfl
theorem CanalFld.no {r l n:V} (h:CanalFld fs r l n) {m:Str} (h1:¬m="reaches") (h2:¬m="locks") (h3:¬m="nights"):fs.lookup m=none:=h.2.2.2 m h1 h2 h3
def RcO (cR:Addr) (H:Hp) (v:V) (r:RC):Prop:=∃x,v=.ref x∧RcAt cR H x r
def LkO (cs:Kd→Addr) (H:Hp) (v:V) (l:LC):Prop:=∃x,v=.ref x∧LockAt cs H x l.kd (.str l.name) (.int l.high) (.int l.low) l.room l.extra
theorem RcO.same (e:Same H H') (v:V) (r:RC):RcO cR H v r→RcO cR H' v r:=fun ⟨x,h1,h2⟩=>⟨x,h1,h2.same e⟩
theorem LkO.same (e:Same H H') (v:V) (l:LC):LkO cs H v l→LkO cs H' v l:=fun ⟨x,h1,h2⟩=>⟨x,h1,h2.same e⟩
theorem RcO.keep {y:Addr} (k:Keep y H H') (hy:H y=some (.lst ys)) (v:V) (r:RC):RcO cR H v r→RcO cR H' v r:=fun ⟨x,h1,dx,fs,h2,h3⟩=>⟨x,h1,dx,fs,k _ _ (JV h2 hy (fun z=>nomatch z)) h2,h3⟩
theorem LkO.keep {y:Addr} (k:Keep y H H') (hy:H y=some (.lst ys)) (v:V) (l:LC):LkO cs H v l→LkO cs H' v l:=fun ⟨x,h1,dx,h2⟩=>⟨x,h1,dx,k _ _ (JV h2 hy (fun z=>nomatch z)) h2⟩
theorem RcO.keepI {y c:Addr} (k:Keep y H H') (hy:H y=some (.ins c d [])) (v:V) (r:RC):RcO cR H v r→RcO cR H' v r:=fun ⟨x,h1,dx,fs,h2,h3⟩=>⟨x,h1,dx,fs,k _ _ (fun z=>by rw [z,hy] at h2;cases h2;cases h3.1) h2,h3⟩
theorem LkO.keepI {y c:Addr} (k:Keep y H H') (hy:H y=some (.ins c d [])) (v:V) (l:LC):LkO cs H v l→LkO cs H' v l:=fun ⟨x,h1,dx,h2⟩=>⟨x,h1,dx,k _ _ (fun z=>by
 rw [z,hy] at h2
 have e:=OP l.kd (.str l.name) (.int l.high) (.int l.low) (.int l.room) (.int l.extra)
 injection h2 with h2;injection h2 with h2 h3 h4
 rw [← h4] at e;cases e) h2⟩
theorem QAt.keep {y:Addr} (k:Keep y H H') (hy:H y=some o) (ho:∀xs,o≠.tup xs) (v:V) (p:Int×Int):QAt H v p→QAt H' v p:=fun ⟨t,h1,h2⟩=>⟨t,h1,k _ _ (fun z=>by rw [z,hy] at h2;exact ho _ (Option.some.inj h2)) h2⟩
def CnAt (cs:Kd→Addr) (cR cN:Addr) (D:List Addr) (H:Hp) (x:Addr) (R:List RC) (L:List LC) (N:List (List (Int×Int))):Prop:=∃(dx rl ll nl:Addr) (fs:List (Str×V)) (rs ls ns:List V),H x=some (.ins cN dx fs)∧CanalFld fs (.ref rl) (.ref ll) (.ref nl)∧H rl=some (.lst rs)∧H ll=some (.lst ls)∧H nl=some (.lst ns)∧AllAt (RcO cR H) rs R∧AllAt (LkO cs H) ls L∧AllAt (NAt D H) ns N∧rl∉D∧ll∉D∧nl∉D
variable {cN:Addr} {R:List RC} {L:List LC} {N:List (List (Int×Int))}
theorem CnAt.same (e:Same H H') (h:CnAt cs cR cN D H x R L N):CnAt cs cR cN D H' x R L N:=by
 obtain ⟨dx,rl,ll,nl,fs,rs,ls,ns,h1,h2,h3,h4,h5,h6,h7,h8,h9⟩:=h
 exact ⟨dx,rl,ll,nl,fs,rs,ls,ns,e _ _ h1,h2,e _ _ h3,e _ _ h4,e _ _ h5,h6.mono (RcO.same e),h7.mono (LkO.same e),h8.mono (NAt.same e),h9⟩
def SA (H:Hp) (nv:V) (N:List (List (Int×Int))):Prop:=(nv=.non∧N=[])∨∃(nl:Addr) (ns:List V),nv=.ref nl∧H nl=some (.lst ns)∧AllAt (NAt [] H) ns N∧ns.length≤100
def nK (cs:Kd→Addr) (cR cN:Addr):Sp:=fun vs H Q _=>∃(x dx rl ll:Addr) (nv:V) (rs ls:List V) (R:List RC) (L:List LC) (N:List (List (Int×Int))),vs=[.ref x,.ref rl,.ref ll,nv]∧H x=some (.ins cN dx [])∧H rl=some (.lst rs)∧H ll=some (.lst ls)∧AllAt (RcO cR H) rs R∧AllAt (LkO cs H) ls L∧SA H nv N∧
 ∀H',Keep x H H'→(∀D:List Addr,(∀d∈D,H d≠none)→CnAt cs cR cN D H' x R L N)→Q .non H'
def JH (cs:Kd→Addr) (cR cN:Addr) (F:Nat→Nat→Int):Sp:=fun vs H Q _=>∃(x:Addr) (D:List Addr) (R:List RC) (L:List LC) (N:List (List (Int×Int))),vs=[.ref x]∧CnAt cs cR cN D H x R L N∧Q (.int (F R.length L.length)) H
def QG (cs:Kd→Addr) (cR cN:Addr) (F:Nat→Nat→Int→Int):Sp:=fun vs H Q _=>∃(x:Addr) (D:List Addr) (R:List RC) (L:List LC) (N:List (List (Int×Int))) (k:Int),vs=[.ref x,.int k]∧CnAt cs cR cN D H x R L N∧Q (.int (F R.length L.length k)) H
def zQ (sea:Int) (r:RC):Int×Int:=(r.crest,if r.target = -1 then sea else r.target)
def zC (n m:Nat):Int:=(n:Int)+2*(m:Int)
def bU (n m:Nat):Int:=(n:Int)+2*(m:Int)+1
def eA (n m:Nat):Int:=(n:Int)+2*(m:Int)+1+1
def zJ (n _m:Nat) (k:Int):Int:=(n:Int)+k
def yH (n m:Nat) (k:Int):Int:=(n:Int)+(m:Int)+k
def dF (cs:Kd→Addr) (cR cN:Addr):Sp:=fun vs H Q _=>∃(x:Addr) (D:List Addr) (R:List RC) (L:List LC) (N:List (List (Int×Int))),vs=[.ref x]∧CnAt cs cR cN D H x R L N∧R.length≤100∧
 ∀(l:Addr) (ws:List V) (H':Hp),Same H H'→H l=none→H' l=some (.lst ws)→AllAt (QAt H') ws (R.map (zQ (zC R.length L.length)))→Q (.ref l) H'
structure Drawn (R:List RC) (L:List LC) (N:List (List (Int×Int))):Prop where
 r8:R.length≤8
 r1:1≤R.length
 l8:L.length≤8
 n6:N.length≤6
 good:∀(i:Nat) (r:RC),R[i]?=some r→r.good i
 lock:∀(i:Nat) (l:LC),L[i]?=some l→l.good R.length
 night:∀p∈N,p.length=R.length
theorem dR {dx:Addr} {o':HO} (nx:H x=none) (ndx:H dx=none):Same H (upd (upd H dx o) x o'):=fun b u e=>by rw [jL (q8 e nx),jL (q8 e ndx)];exact e
theorem dJ {H2:Hp} (nx:H x=none) (u:Same H H1) (k:Keep x H1 H2):Same H H2:=fun b o e=>k b o (q8 e nx) (u b o e)
def pR (sea:Nat) (r:RC):Int×Nat:=(r.crest,if r.target = -1 then sea else r.target.toNat)
def kI (R:List RC) (m:Nat):List (Int×Nat):=R.map (pR (R.length+2*m))
def JC (R:List RC) (m:Nat):List Int:=R.map (·.water)++List.replicate (2*m+2) 0
theorem y0 (R:List RC) (m:Nat):(kI R m).length=R.length:=List.length_map _
theorem dA (R:List RC) (m:Nat):(JC R m).length=R.length+2*m+2:=by
 unfold JC
 rw [List.length_append,List.length_map,List.length_replicate]
 omega
def Q9 (R:List RC):Prop:=∀(i:Nat) (r:RC),R[i]?=some r→-1≤r.target∧r.target<(i:Int)
variable {m:Nat}
theorem cV (h:Q9 R):iO (kI R m).length (kI R m):=by
 intro i c t hi
 rw [y0]
 unfold kI at hi
 rw [List.getElem?_map] at hi
 cases hr:R[i]? with
 |none=>rw [hr] at hi;cases hi
 |some r =>
  rw [hr] at hi
  have e:pR (R.length+2*m) r=(c,t):=Option.some.inj hi
  obtain ⟨h1,h2⟩:=h i r hr
  unfold pR at e
  have e2:(if r.target = -1 then R.length+2*m else r.target.toNat)=t:=congrArg Prod.snd e
  by_cases ht:r.target = -1
  ·rw [if_pos ht] at e2;omega
  ·rw [if_neg ht] at e2;omega
theorem wG {ws:List V} (hT:Q9 R) (h:AllAt (QAt H) ws (R.map (zQ (zC R.length m)))):WeirsAt K H ws (kI R m) (JC R m).length:=by
 refine ⟨by rw [h.1,List.length_map,y0],fun i v hv=>?_⟩
 obtain ⟨p,hp,t,rfl,ht⟩:=h.2 i v hv
 rw [List.getElem?_map] at hp
 cases hr:R[i]? with
 |none=>rw [hr] at hp;cases hp
 |some r =>
  rw [hr] at hp
  cases hp
  obtain ⟨h1,h2⟩:=hT i r hr
  have hi:i<R.length:=(List.getElem?_eq_some_iff.mp hr).1
  refine ⟨t,r.crest,if r.target = -1 then R.length+2*m else r.target.toNat,rfl,?_,?_,?_⟩
  ·unfold kI;rw [List.getElem?_map,hr];rfl
  ·have e:(((if r.target = -1 then R.length+2*m else r.target.toNat):Nat):Int)=(zQ (zC R.length m) r).2:=by
    unfold zQ zC
    by_cases ht:r.target = -1
    ·rw [if_pos ht,if_pos ht];omega
    ·rw [if_neg ht,if_neg ht];omega
   rw [e]
   exact SqT.of ht
  ·rw [dA];split<;>omega
def oN (cs:Kd→Addr) (cR cN:Addr):Sp:=fun vs H Q _=>∃(x:Addr) (D:List Addr) (R:List RC) (L:List LC) (N:List (List (Int×Int))),vs=[.ref x]∧CnAt cs cR cN D H x R L N∧R.length≤100∧L.length≤100∧Q9 R∧
 ∀(r:Addr) (H':Hp) (gs:List Int),Same H H'→H r=none→H' r=some (.tup ((JI (JC R L.length) (kI R L.length) gs).map V.int))→Spl (kI R L.length) (JC R L.length) gs→Q (.ref r) H'
def gT (cs:Kd→Addr) (cR cN:Addr):Sp:=fun vs H Q _=>∃(x wa:Addr) (D:List Addr) (R:List RC) (L:List LC) (N:List (List (Int×Int))) (ms:List Int) (k:Nat),vs=[.ref x,.ref wa,.int (k:Int)]∧CnAt cs cR cN D H x R L N∧H wa=some (.tup (ms.map V.int))∧R.length+k<ms.length∧Q (.bl (decide (0<ms.getD (R.length+k) 0))) H
theorem JN (h:Drawn R L N):Q9 R:=fun i r hr=>by
 obtain ⟨g1,g2,g3,g4,g5,g6,g7,g8,g9⟩:=h.good i r hr
 exact ⟨g8,g9⟩
def ZW (K:W.Frag):Sp:=fun vs H Q _=>∃(s:Addr) (ns:List Int) (k:Int) (m:Int),vs=[.ref s,.int k,.int m]∧SqL K H s (ns.map V.int)∧ns.length≤63∧0≤k∧k≤100000∧1≤m∧∀z:Int,0≤z→z<m→Q (.int z) H
theorem RY {k:Int} (h0:0≤k) (h1:k≤100000):0≤k*k∧k*k≤10000000000:=by
 refine ⟨Int.mul_nonneg h0 h0,?_⟩
 have:=Int.mul_le_mul h1 h1 h0 (by decide:(0:Int)≤100000)
 omega
def wP (K:W.Frag) (cR:Addr):Sp:=fun vs H Q _=>∃(s:Addr) (ns:List Int) (k:Nat) (u:Int),vs=[.ref s,.int (k:Int),.int u]∧SqL K H s (ns.map V.int)∧ns.length≤63∧k<8∧1≤u∧u≤10000000000∧∀(x:Addr) (r:RC) (H':Hp),r.good k→Same H H'→H x=none→RcAt cR H' x r→Q (.ref x) H'
def AA (K:W.Frag) (cs:Kd→Addr):Sp:=fun vs H Q _=>∃(s:Addr) (ns:List Int) (k n:Nat) (u:Int),vs=[.ref s,.int (k:Int),.int (n:Int),.int u]∧SqL K H s (ns.map V.int)∧ns.length≤63∧k<4∧2≤n∧n≤8∧1≤u∧u≤10000000000∧∀(x:Addr) (l:LC) (H':Hp),l.good n→Same H H'→H x=none→LkO cs H' (.ref x) l→Q (.ref x) H'
theorem pP (zs:List Int) {i:Int} (h0:0≤i) (h:i<(zs.length:Int)):∃z∈zs,qT (zs.map V.int) i=some (.int z):=by
 have hl:i.toNat<zs.length:=by omega
 have:=qL (xs:=zs.map V.int) (j:=i.toNat) (v:=.int zs[i.toNat]) (by rw [List.getElem?_map,List.getElem?_eq_getElem hl];rfl)
 rw [show ((i.toNat:Nat):Int)=i by omega] at this
 exact ⟨_,List.getElem_mem hl,this⟩
theorem iI {a u:Int} {m:Int} (h0:0≤a) (h1:a≤m) (u0:1≤u) (u1:u≤10000000000) (hm:0≤m):0≤a*u∧a*u≤m*10000000000:=by
 refine ⟨Int.mul_nonneg h0 (by omega),?_⟩
 exact Int.mul_le_mul h1 u1 (by omega) hm
def eJ (b:Bool):Str:=if b then "up" else "down"
def qX (L:List LC) (p:Nat×Bool):Int×Int:=match L[p.1]? with
 |some l=>if p.2 then (l.low,l.high) else (l.high,l.low)
 |none=>(0,0)
theorem ZU {k:Nat} {l:LC} (h:L[k]?=some l):qX L (k,true)=(l.low,l.high):=by unfold qX;rw [h];rfl
theorem ZN {k:Nat} {l:LC} (h:L[k]?=some l):qX L (k,false)=(l.high,l.low):=by unfold qX;rw [h];rfl
def PAt (H:Hp) (v:V) (p:Nat×Bool):Prop:=∃t,v=.ref t∧H t=some (.tup [.int (p.1:Int),.str (eJ p.2)])
theorem PAt.same (e:Same H H') (v:V) (p:Nat×Bool):PAt H v p→PAt H' v p:=fun ⟨t,h1,h2⟩=>⟨t,h1,e _ _ h2⟩
theorem PAt.put (hd:H d=some (.lst ys)) (v:V) (p:Nat×Bool):PAt H v p→PAt (upd H d o) v p:=fun ⟨t,h1,h2⟩=>⟨t,h1,by rw [jL (fun z=>by rw [z,hd] at h2;cases h2)];exact h2⟩
def qS (L:List LC) (s:Int) (ps:List (Nat×Bool)):List Int:=s::ps.map fun p=>(qX L p).2
def ZE (L:List LC) (s:Int) (ps:List (Nat×Bool)):Prop:=∀(j:Nat) (p:Nat×Bool),ps[j]?=some p→(qS L s ps)[j]?=some (qX L p).1
theorem oI (L:List LC) (s:Int) (ps:List (Nat×Bool)) (p:Nat×Bool):qS L s (ps++[p])=qS L s ps++[(qX L p).2]:=by unfold qS;rw [List.map_append];rfl
theorem dN (L:List LC) (s:Int) (ps:List (Nat×Bool)):(qS L s ps).length=ps.length+1:=by unfold qS;rw [List.length_cons,List.length_map]
theorem L9 (L:List LC) (s:Int) (ps:List (Nat×Bool)) (i:Nat):(qS L s ps).take (i+1)=qS L s (ps.take i):=by unfold qS;rw [List.take_succ_cons,List.map_take]
variable {j:Nat}
theorem OS {s:Int} {ps:List (Nat×Bool)} (h:j<ps.length+1):(qS L s ps)[j]?=(qS L s (ps.take j))[j]?:=by
 rw [← L9,List.getElem?_take,if_pos (by omega)]
theorem tX (d:Drawn R L N) {p:Nat×Bool} (h:p.1<L.length):∃l,L[p.1]?=some l∧l.good R.length:=⟨_,List.getElem?_eq_getElem h,d.lock _ _ (List.getElem?_eq_getElem h)⟩
def BO (cs:Kd→Addr):Sp:=fun vs H Q _=>∃(y:Addr) (l:LC) (b:Bool),vs=[.ref y,.str (eJ b)]∧LkO cs H (.ref y) l∧∀(t:Addr) (H':Hp),Same H H'→H t=none→H' t=some (.tup [.int (if b then l.low else l.high),.int (if b then l.high else l.low)])→Q (.ref t) H'
theorem B7 (b:Bool):decide (V.str (eJ b)=V.str "up")=b:=by
 cases b
 ·exact decide_eq_false fun h=>absurd (V.str.inj h) (by decide +kernel)
 ·exact decide_eq_true rfl
theorem MX {s:Int} {ps:List (Nat×Bool)} {p:Nat×Bool} {a:Int} (h:(qS L s ps)[ps.length]?=some a):ZE L s (ps++[p])↔ZE L s ps∧(qX L p).1=a:=by
 have e:∀j,j≤ps.length→(qS L s (ps++[p]))[j]?=(qS L s ps)[j]?:=fun j hj=>by
  rw [oI,List.getElem?_append_left (by rw [dN];omega)]
 constructor
 ·intro ok
  refine ⟨fun j q hq=>?_,?_⟩
  ·have hj:j<ps.length:=(List.getElem?_eq_some_iff.mp hq).1
   have:=ok j q (by rw [List.getElem?_append_left hj];exact hq)
   rwa [e j (by omega)] at this
  ·have:=ok ps.length p (by rw [List.getElem?_append_right (Nat.le_refl _),Nat.sub_self];rfl)
   rw [e _ (Nat.le_refl _),h] at this
   exact (Option.some.inj this).symm
 ·rintro ⟨ok,ha⟩ j q hq
  by_cases hj:j<ps.length
  ·rw [List.getElem?_append_left hj] at hq
   rw [e j (by omega)]
   exact ok j q hq
  ·rw [List.getElem?_append_right (by omega)] at hq
   have hz:j - ps.length=0:=by
    have:=(List.getElem?_eq_some_iff.mp hq).1
    rw [List.length_singleton] at this
    omega
   rw [hz] at hq
   cases hq
   rw [show j=ps.length by omega,e _ (Nat.le_refl _),h,ha]
theorem KS (zs:List Int):(zs.map V.int).all QJ=true:=by
 rw [List.all_eq_true]
 intro x hx
 obtain ⟨z,_,rfl⟩:=List.mem_map.mp hx
 rfl
abbrev j4:=Int×List (Nat×Bool)
def WyAt (H:Hp) (v:V) (y:j4):Prop:=∃(t st:Addr) (us:List V),v=.ref t∧H t=some (.tup [.int y.1,.ref st])∧H st=some (.tup us)∧AllAt (PAt H) us y.2
theorem WyAt.same (e:Same H H') (v:V) (y:j4):WyAt H v y→WyAt H' v y:=fun ⟨t,st,us,h1,h2,h3,h4⟩=>⟨t,st,us,h1,e _ _ h2,e _ _ h3,h4.mono (PAt.same e)⟩
theorem WyAt.put (hd:H d=some (.lst ys)) (v:V) (y:j4):WyAt H v y→WyAt (upd H d o) v y:=fun ⟨t,st,us,h1,h2,h3,h4⟩=>⟨t,st,us,h1,by rw [jL (fun z=>by rw [z,hd] at h2;cases h2)];exact h2,by rw [jL (fun z=>by rw [z,hd] at h3;cases h3)];exact h3,h4.mono (PAt.put hd)⟩
structure WyOk (L:List LC) (y:j4):Prop where
 lt:∀p∈y.2,p.1<L.length
 ok:ZE L y.1 y.2
 le:y.2.length≤8
def StAt (H:Hp) (t:Addr) (d:Int) (ms:List Int) (pl:List Nat):Prop:=∃wt pt:Addr,H t=some (.tup [.int d,.ref wt,.ref pt])∧H wt=some (.tup (ms.map V.int))∧H pt=some (.tup (pl.map fun (p:Nat)=>V.int (p:Int)))
variable {t:Addr} {pl:List Nat}
theorem StAt.same {d:Int} (e:Same H H') (h:StAt H t d ms pl):StAt H' t d ms pl:=by
 obtain ⟨wt,pt,h1,h2,h3⟩:=h
 exact ⟨wt,pt,e _ _ h1,e _ _ h2,e _ _ h3⟩
structure Fleet (L:List LC) (ys:List j4) (pl:List Nat):Prop where
 len:pl.length=ys.length
 n10:ys.length≤10
 ok:∀y∈ys,WyOk L y
 le:∀(i:Nat) (y:j4) (p:Nat),ys[i]?=some y→pl[i]?=some p→p≤y.2.length
def EndAt (L:List LC) (r:Int):Prop:=∃p:Nat×Bool,p.1<L.length∧(qX L p).1=r
theorem EndAt.next {p:Nat×Bool} (h:p.1<L.length):EndAt L (qX L p).2:=by
 obtain ⟨pk,pb⟩:=p
 have e:=List.getElem?_eq_getElem h
 cases pb
 ·exact ⟨(pk,true),h,by rw [ZU e,ZN e]⟩
 ·exact ⟨(pk,false),h,by rw [ZU e,ZN e]⟩
theorem OC (L:List LC) (s:Int):ZE L s []:=fun j p hp=>by cases hp
theorem atI_last (hn:xs.length=n+1) (h:xs[n]?=some v):qT xs (-1)=some v:=by
 have e:yX xs.length (-1)=some n:=by
  unfold yX
  rw [if_neg (by decide),if_pos (by omega)]
  congr 1
  omega
 unfold qT
 rw [e]
 exact h
def wS (K:W.Frag) (cs:Kd→Addr) (cR cN eL:Addr):Sp:=fun vs H Q E=>∃(x st:Addr) (s:Int) (us:List V) (ps:List (Nat×Bool)) (D:List Addr) (R:List RC) (L:List LC) (N:List (List (Int×Int))),vs=[.ref x,.int s,.ref st]∧CnAt cs cR cN D H x R L N∧H st=some (.tup us)∧AllAt (PAt H) us ps∧(∀p∈ps,p.1<L.length)∧ps.length≤100∧
 (ZE L s ps→∀(r:Addr) (H':Hp),Same H H'→H r=none→H' r=some (.lst ((qS L s ps).map V.int))→Q (.ref r) H')∧(¬ZE L s ps→∀H',Same H H'→E (.ref eL) none H')
def nY (K:W.Frag) (cs:Kd→Addr) (cR cN:Addr):Sp:=fun vs H Q _=>∃(x st:Addr) (s:Int) (us:List V) (ps:List (Nat×Bool)) (D:List Addr) (R:List RC) (L:List LC) (N:List (List (Int×Int))),vs=[.ref x,.int s,.ref st]∧CnAt cs cR cN D H x R L N∧H st=some (.tup us)∧AllAt (PAt H) us ps∧(∀p∈ps,p.1<L.length)∧ps.length≤100∧ZE L s ps∧
 ∀(r:Addr) (H':Hp),Same H H'→H r=none→H' r=some (.lst ((qS L s ps).map V.int))→Q (.ref r) H'
theorem KO {eL:Addr}:∀vs H Q E,nY K cs cR cN vs H Q E→wS K cs cR cN eL vs H Q (fun _ _ _=>False):=by
 rintro vs H Q E ⟨x,st,s,us,ps,D,R,L,N,e,h1,h2,h3,h4,h5,h6,q⟩
 exact ⟨x,st,s,us,ps,D,R,L,N,e,h1,h2,h3,h4,h5,fun _=>q,fun hno=>absurd h6 hno⟩
def StI (H:Hp) (t:Addr) (d:Int) (ms ps:List Int):Prop:=∃wt pt:Addr,H t=some (.tup [.int d,.ref wt,.ref pt])∧H wt=some (.tup (ms.map V.int))∧H pt=some (.tup (ps.map V.int))
theorem StI.same {d:Int} {ps:List Int} (e:Same H H') (h:StI H t d ms ps):StI H' t d ms ps:=by
 obtain ⟨wt,pt,h1,h2,h3⟩:=h
 exact ⟨wt,pt,e _ _ h1,e _ _ h2,e _ _ h3⟩
theorem StAt.toI {d:Int} (h:StAt H t d ms pl):StI H t d ms (pl.map fun (p:Nat)=>(p:Int)):=by
 obtain ⟨wt,pt,h1,h2,h3⟩:=h
 exact ⟨wt,pt,h1,h2,by rw [List.map_map];exact h3⟩
def QL (ms:List Int) (W:List (Int×Int)) (r:Nat):Int:=if ms.getD r 0<(W.getD r (0,0)).2 then ms.getD r 0 else (W.getD r (0,0)).2
def ZB (k:Nat) (ms:List Int) (W:List (Int×Int)) (n:Nat):List (Nat×Nat×Int):=(List.range n).map fun r=>(r,k,QL ms W r)
def Q7 (k:Nat) (W:List (Int×Int)) (n:Nat):List (Nat×Nat×Int):=(List.range n).map fun r=>(k,r,(W.getD r (0,0)).1)
def zH (k:Nat) (ms:List Int) (W:List (Int×Int)) (n:Nat):List (Nat×Nat×Int):=ZB k ms W n++Q7 k W n
theorem oM (k:Nat) (ms:List Int) (W:List (Int×Int)) (n:Nat):(ZB k ms W n).length=n:=by unfold ZB;rw [List.length_map,List.length_range]
theorem n4 (k:Nat) (W:List (Int×Int)) (n:Nat):(Q7 k W n).length=n:=by unfold Q7;rw [List.length_map,List.length_range]
theorem LJ {k:Nat} {W:List (Int×Int)} (h:i<n):(ZB k ms W n).take (i+1)=(ZB k ms W n).take i++[(i,k,QL ms W i)]:=by
 rw [List.take_add_one]
 unfold ZB
 rw [List.getElem?_map,List.getElem?_range h]
 rfl
theorem KD {k:Nat} {W:List (Int×Int)} (h:i<n):(Q7 k W n).take (i+1)=(Q7 k W n).take i++[(k,i,(W.getD i (0,0)).1)]:=by
 rw [List.take_add_one]
 unfold Q7
 rw [List.getElem?_map,List.getElem?_range h]
 rfl
theorem uS {k:Nat} {W:List (Int×Int)} (hk:k<m) (hn:n≤m):∀q∈zH k ms W n,q.1<m∧q.2.1<m:=fun q hq=>by
 rcases List.mem_append.mp hq with h|h
 ·obtain ⟨r,hr,rfl⟩:=List.mem_map.mp h
  have:=List.mem_range.mp hr
  exact ⟨by show r<m;omega,hk⟩
 ·obtain ⟨r,hr,rfl⟩:=List.mem_map.mp h
  have:=List.mem_range.mp hr
  exact ⟨hk,by show r<m;omega⟩
theorem C5 {W:List (Int×Int)} {y:Int×Int} (h:W[i]?=some y):W.getD i (0,0)=y:=by rw [List.getD_eq_getElem?_getD,h];rfl
theorem xW {W:List (Int×Int)} {y:Int×Int} (h:W[i]?=some y):QL ms W i=if ms.getD i 0<y.2 then ms.getD i 0 else y.2:=by unfold QL;rw [C5 h]
theorem MN {W:List (Int×Int)} {y:Int×Int} (h:W[i]?=some y):QL ms W i=if y.2<ms.getD i 0 then y.2 else ms.getD i 0:=by rw [xW h];split<;>split<;>omega
def M0 (R:List RC) (m:Nat) (ms:List Int) (W:List (Int×Int)) (gs:List Int):List (Nat×Nat×Int):=(zH (R.length+2*m+1) ms W R.length).filter kY++(vT (kL (kI R m)) (fun a=>gs.getD a 0) (kI R m).length).filter kY
def ZX (R:List RC) (m:Nat) (ms:List Int) (W:List (Int×Int)):List Int:=j3 ms ((zH (R.length+2*m+1) ms W R.length).filter kY)
theorem nI {wq wa:Addr} {ws:List V} (hT:Q9 R) (h:AllAt (QAt H) ws (R.map (zQ (zC R.length m)))) (hwq:H wq=some (.lst ws)) (hwa:Ints K H wa ms) (hms:ms.length=R.length+2*m+2) (h1:R.length≤100) (h2:m≤100):Ready K H wq wa ws (kI R m) ms :=
 ⟨SqL.of hwq,by have:=wG (K:=K) hT h;rw [dA] at this;rw [hms];exact this,hwa,cV hT,by rw [y0];omega,by omega⟩
def wR (K:W.Frag) (cs:Kd→Addr) (cR cN:Addr):Sp:=fun vs H Q _=>∃(x t wl:Addr) (d:Int) (ms ps:List Int) (us:List V) (W:List (Int×Int)) (D:List Addr) (R:List RC) (L:List LC) (N:List (List (Int×Int))),vs=[.ref x,.ref t,.ref wl]∧CnAt cs cR cN D H x R L N∧StI H t d ms ps∧H wl=some (.lst us)∧AllAt (QAt H) us W∧W.length=R.length∧ms.length=R.length+2*L.length+2∧R.length≤100∧L.length≤100∧Q9 R∧
 ∀(r:Addr) (H':Hp) (gs:List Int) (ys:List V),Same H H'→H r=none→H' r=some (.lst ys)→PoursH H' ys (M0 R L.length ms W gs) ms.length→Spl (kI R L.length) (ZX R L.length ms W) gs→Q (.ref r) H'
def q9 (L:List LC) (y:j4) (p:Nat):Int:=if p=y.2.length then -1 else (qS L y.1 y.2).getD p 0
def pL:Sp:=fun vs H Q _=>∃(t:Addr) (y:j4) (p:Int),vs=[.ref t,.int p]∧WyAt H (.ref t) y∧Q (.int ((y.2.length:Int) - p)) H
def nX (cs:Kd→Addr) (cR cN:Addr):Sp:=fun vs H Q _=>∃(x t:Addr) (y:j4) (p:Nat) (D:List Addr) (R:List RC) (L:List LC) (N:List (List (Int×Int))),vs=[.ref x,.ref t,.int (p:Int)]∧CnAt cs cR cN D H x R L N∧WyAt H (.ref t) y∧WyOk L y∧p≤y.2.length∧∀H',Same H H'→Q (.int (q9 L y p)) H'
def zK (L:List LC) (ys:List j4) (pl:List Nat):List Int:=(List.range ys.length).map fun i=>q9 L (ys.getD i (0,[])) (pl.getD i 0)
def bR (ys:List j4) (pl:List Nat):List Int:=(List.range ys.length).map fun i=>((ys.getD i (0,[])).2.length:Int) - ((pl.getD i 0:Nat):Int)
def eB (ys:List j4) (pl:List Nat):Int:=(bR ys pl).sum
def x9 (cs:Kd→Addr) (cR cN:Addr):Sp:=fun vs H Q _=>∃(x wl st:Addr) (r:Int) (us:List V) (ys:List j4) (d:Int) (ms:List Int) (pl:List Nat) (D:List Addr) (R:List RC) (L:List LC) (N:List (List (Int×Int))),vs=[.ref x,.ref wl,.ref st,.int r]∧CnAt cs cR cN D H x R L N∧H wl=some (.lst us)∧AllAt (WyAt H) us ys∧StAt H st d ms pl∧Fleet L ys pl∧∀H',Same H H'→Q (.int (((zK L ys pl).countP fun z=>decide (z=r):Nat):Int)) H'
theorem P6 (b:Bool):wv b=.str (eJ b):=by cases b<;>rfl
def zI (r l k:Nat) (lc:LC) (s:Str):Nat:=if s="high" then lc.high.toNat else if s="low" then lc.low.toNat else if s="chamber" then r+k else r+l+k
def eE (r l k:Nat) (lc:LC) (q:Str×Str×Int):Nat×Nat×Int:=(zI r l k lc q.1,zI r l k lc q.2.1,q.2.2)
inductive okW:Str→Prop
 |high:okW "high"
 |low:okW "low"
 |cham:okW "chamber"
 |bas:okW "basin"
theorem wH (r l k:Nat) (lc:LC):zI r l k lc "high"=lc.high.toNat:=if_pos rfl
theorem xV (r l k:Nat) (lc:LC):zI r l k lc "low"=lc.low.toNat:=by unfold zI;rw [if_neg (show ¬("low":Str)="high" by decide +kernel),if_pos rfl]
theorem uA (r l k:Nat) (lc:LC):zI r l k lc "chamber"=r+k:=by unfold zI;rw [if_neg (show ¬("chamber":Str)="high" by decide +kernel),if_neg (show ¬("chamber":Str)="low" by decide +kernel),if_pos rfl]
theorem uB (r l k:Nat) (lc:LC):zI r l k lc "basin"=r+l+k:=by unfold zI;rw [if_neg (show ¬("basin":Str)="high" by decide +kernel),if_neg (show ¬("basin":Str)="low" by decide +kernel),if_neg (show ¬("basin":Str)="chamber" by decide +kernel)]
theorem iB {r l k:Nat} {lc:LC} {s:Str} (h:okW s) (hg:lc.good r) (hk:k<l):zI r l k lc s<r+2*l+2:=by
 obtain ⟨g1,g2,g3,g4,_⟩:=hg
 cases h
 ·rw [wH];omega
 ·rw [xV];omega
 ·rw [uA];omega
 ·rw [uB];omega
def d4 (a b c d:V):List (kG×V):=[(.inr "high",a),(.inr "low",b),(.inr "chamber",c),(.inr "basin",d)]
theorem JA {s t:Str} (h:¬s=t):¬((Sum.inr s:kG)=(Sum.inr t:kG)):=fun e=>h (Sum.inr.inj e)
theorem PJ (a b c d:V):bK [] [((.inr "high":kG),a),(.inr "low",b),(.inr "chamber",c),(.inr "basin",d)]=d4 a b c d:=by
 show zD (zD (zD (zD ([]:List (kG×V)) (Sum.inr "high") a) (Sum.inr "low") b) (Sum.inr "chamber") c) (Sum.inr "basin") d=_
 rw [gK a (valV_nil:vM [] (Sum.inr "high":kG)=none)]
 rw [gK b (by show vM [((.inr "high":kG),a)] (.inr "low")=none;rw [yP (JA (by decide +kernel))];rfl)]
 rw [gK c (by show vM [((.inr "high":kG),a),(.inr "low",b)] (.inr "chamber")=none;rw [yP (JA (by decide +kernel)),yP (JA (by decide +kernel))];rfl)]
 rw [gK d (by show vM [((.inr "high":kG),a),(.inr "low",b),(.inr "chamber",c)] (.inr "basin")=none;rw [yP (JA (by decide +kernel)),yP (JA (by decide +kernel)),yP (JA (by decide +kernel))];rfl)]
 rfl
theorem R9 {p:Addr} {a b c d:V} (h:H p=some (.dK (d4 a b c d))):DGet H p (.str "high") (some a)∧DGet H p (.str "low") (some b)∧DGet H p (.str "chamber") (some c)∧DGet H p (.str "basin") (some d):=by
 have e1:vM (d4 a b c d) (.inr "high")=some a:=by unfold d4;rw [ZP rfl]
 have e2:vM (d4 a b c d) (.inr "low")=some b:=by unfold d4;rw [yP (JA (by decide +kernel)),ZP rfl]
 have e3:vM (d4 a b c d) (.inr "chamber")=some c:=by unfold d4;rw [yP (JA (by decide +kernel)),yP (JA (by decide +kernel)),ZP rfl]
 have e4:vM (d4 a b c d) (.inr "basin")=some d:=by unfold d4;rw [yP (JA (by decide +kernel)),yP (JA (by decide +kernel)),yP (JA (by decide +kernel)),ZP rfl]
 refine ⟨?_,?_,?_,?_⟩
 ·rw [← e1];exact DGet.k (k:=.inr "high") h
 ·rw [← e2];exact DGet.k (k:=.inr "low") h
 ·rw [← e3];exact DGet.k (k:=.inr "chamber") h
 ·rw [← e4];exact DGet.k (k:=.inr "basin") h
theorem oV (kd:Kd) (room v b:Int):∀q∈zB kd room v b,okW q.1∧okW q.2.1:=fun q hq=>by
 obtain ⟨p,hp,rfl⟩:=List.mem_map.mp hq
 refine ⟨?_,.cham⟩
 cases kd
 ·have:=(List.mem_filter.mp hp).1
  rw [List.mem_singleton] at this
  rw [this];exact .high
 ·have:=(List.mem_filter.mp hp).1
  simp only [List.mem_cons,List.mem_nil_iff,or_false] at this
  rcases this with rfl|rfl
  ·exact .bas
  ·exact .high
 ·have:=(List.mem_filter.mp hp).1
  simp only [List.mem_cons,List.mem_nil_iff,or_false] at this
  rcases this with rfl|rfl
  ·exact .low
  ·exact .high
theorem dS (kd:Kd) (room v b:Int):∀q∈v6 kd room v b,okW q.1∧okW q.2.1:=fun q hq=>by
 obtain ⟨p,hp,rfl⟩:=List.mem_map.mp hq
 refine ⟨.cham,?_⟩
 cases kd
 ·have:=(List.mem_filter.mp hp).1
  rw [List.mem_singleton] at this
  rw [this];exact .low
 ·have:=(List.mem_filter.mp hp).1
  simp only [List.mem_cons,List.mem_nil_iff,or_false] at this
  rcases this with rfl|rfl
  ·exact .bas
  ·exact .low
 ·have:=(List.mem_filter.mp hp).1
  rw [List.mem_singleton] at this
  rw [this];exact .low
theorem w4 (kd:Kd) (room v:Int) (f:Bool) (b:Int) (w:Bool):∀q∈bQ kd room v f b w,okW q.1∧okW q.2.1:=fun q hq=>by
 cases w<;>cases f
 ·rcases List.mem_append.mp hq with h|h
  ·exact oV _ _ _ _ q h
  ·exact dS _ _ _ _ q h
 ·exact dS _ _ _ _ q hq
 ·exact oV _ _ _ _ q hq
 ·rcases List.mem_append.mp hq with h|h
  ·exact dS _ _ _ _ q h
  ·exact oV _ _ _ _ q h
def JY (r:Nat) (ms:List Int) (k:Nat):Bool:=decide (0<ms.getD (r+k) 0)
def passQ (r:Nat) (L:List LC) (ms:List Int) (s:Nat×Bool):List (Nat×Nat×Int):=match L[s.1]? with
 |some l=>(bQ l.kd l.room l.extra (JY r ms s.1) (ms.getD (r+L.length+s.1) 0) s.2).map (eE r L.length s.1 l)
 |none=>[]
def letQ (r:Nat) (L:List LC) (ms:List Int) (k:Nat):List (Nat×Nat×Int):=match L[k]? with
 |some l=>(v6 l.kd l.room l.extra (ms.getD (r+L.length+k) 0)).map (eE r L.length k l)
 |none=>[]
def zY (R:List RC) (ms:List Int) (v:Nat):Bool:=match R[v]? with
 |some r=>decide (ms.getD v 0<r.least)
 |none=>false
def y9 (R:List RC):List Int→List (Nat×Nat×Int)→Bool
 |_,[]=>false
 |ms,q::qs=>zY R (pour ms q) q.1||y9 R (pour ms q) qs
def dO (R:List RC) (t:Int):Int:=match R[t.toNat]? with
 |some r=>r.berths
 |none=>0
def ZA (R:List RC) (L:List LC) (ys:List j4) (ms:List Int) (pl:List Nat) (b:Nat):Str :=
 if pl.getD b 0=(ys.getD b (0,[])).2.length then "home" else
 if ¬q9 L (ys.getD b (0,[])) (pl.getD b 0+1) = -1∧dO R (q9 L (ys.getD b (0,[])) (pl.getD b 0+1))≤(((zK L ys pl).countP fun z=>decide (z=q9 L (ys.getD b (0,[])) (pl.getD b 0+1)):Nat):Int) then "berth" else
 if y9 R ms (passQ R.length L ms ((ys.getD b (0,[])).2.getD (pl.getD b 0) (0,true)))=true then "water" else ""
inductive Deed
 |pass (b:Nat)
 |let (k:Nat)
 |night
def Q8:Deed→List V
 |.pass b=>[.str "pass",.int (b:Int)]
 |.let k=>[.str "let",.int (k:Int)]
 |.night=>[.str "night"]
def qY (R:List RC) (L:List LC) (n:Nat) (ys:List j4) (d:Int) (ms:List Int) (pl:List Nat):Deed→Str
 |.pass b=>ZA R L ys ms pl b
 |.let k=>if JY R.length ms k=true then "" else "empty"
 |.night=>if d<(n:Int) then "" else "over"
def ZY (nb nl:Nat):Deed→Prop
 |.pass b=>b<nb
 |.let k=>k<nl
 |.night=>True
def o3 (cs:Kd→Addr) (cR cN:Addr):Sp:=fun vs H Q _=>∃(x p:Addr) (k:Nat) (l:LC) (rs:List V) (ps:List (Str×Str×Int)) (D:List Addr) (R:List RC) (L:List LC) (N:List (List (Int×Int))),vs=[.ref x,.int (k:Int),.ref p]∧CnAt cs cR cN D H x R L N∧L[k]?=some l∧l.good R.length∧H p=some (.lst rs)∧PoursS H rs ps∧(∀q∈ps,okW q.1∧okW q.2.1)∧ps.length≤10∧
 ∀(r:Addr) (H':Hp) (zs:List V),Same H H'→H r=none→H' r=some (.lst zs)→PoursH H' zs (ps.map (eE R.length L.length k l)) (R.length+2*L.length+2)→Q (.ref r) H'
structure Stage (cs:Kd→Addr) (cR cN:Addr) (D:List Addr) (H:Hp) (x wl st:Addr) (us:List V) (R:List RC) (L:List LC) (N:List (List (Int×Int))) (ys:List j4) (d:Int) (ms:List Int) (pl:List Nat):Prop where
 cn:CnAt cs cR cN D H x R L N
 dr:Drawn R L N
 wls:H wl=some (.lst us)
 wys:AllAt (WyAt H) us ys
 sts:StAt H st d ms pl
 fl:Fleet L ys pl
 ml:ms.length=R.length+2*L.length+2
variable {wl st:Addr} {us:List V}
theorem Stage.same {ys:List j4} {d:Int} (h:Stage cs cR cN D H x wl st us R L N ys d ms pl) (e:Same H H'):Stage cs cR cN D H' x wl st us R L N ys d ms pl:=⟨h.cn.same e,h.dr,e _ _ h.wls,h.wys.mono (WyAt.same e),h.sts.same e,h.fl,h.ml⟩
def BK:Sp:=fun vs H Q _=>∃(t:Addr) (y:j4) (p:Nat) (s:Nat×Bool),vs=[.ref t,.int (p:Int)]∧WyAt H (.ref t) y∧y.2[p]?=some s∧∀v,PAt H v s→Q v H
def uI (cs:Kd→Addr) (cR cN:Addr):Sp:=fun vs H Q _=>∃(x wl st:Addr) (b:Nat) (r:RC) (us:List V) (ys:List j4) (d:Int) (ms:List Int) (pl:List Nat) (D:List Addr) (R:List RC) (L:List LC) (N:List (List (Int×Int))),vs=[.ref x,.ref wl,.ref st,.int (b:Int)]∧Stage cs cR cN D H x wl st us R L N ys d ms pl∧R[b]?=some r∧∀H',Same H H'→Q (.bl (decide (r.berths≤(((zK L ys pl).countP fun z=>decide (z=(b:Int)):Nat):Int)))) H'
def o0 (cs:Kd→Addr) (cR cN:Addr):Sp:=fun vs H Q _=>∃(x wl st:Addr) (b:Nat) (us:List V) (ys:List j4) (y:j4) (p:Nat) (s:Nat×Bool) (d:Int) (ms:List Int) (pl:List Nat) (D:List Addr) (R:List RC) (L:List LC) (N:List (List (Int×Int))),vs=[.ref x,.ref wl,.ref st,.int (b:Int)]∧Stage cs cR cN D H x wl st us R L N ys d ms pl∧ys[b]?=some y∧pl[b]?=some p∧y.2[p]?=some s∧
 ∀(r:Addr) (H':Hp) (zs:List V),Same H H'→H r=none→H' r=some (.lst zs)→PoursH H' zs (passQ R.length L ms s) ms.length→Q (.ref r) H'
def AB (cs:Kd→Addr) (cR cN:Addr):Sp:=fun vs H Q _=>∃(x wl st:Addr) (k:Nat) (us:List V) (ys:List j4) (d:Int) (ms:List Int) (pl:List Nat) (D:List Addr) (R:List RC) (L:List LC) (N:List (List (Int×Int))),vs=[.ref x,.ref st,.int (k:Int)]∧Stage cs cR cN D H x wl st us R L N ys d ms pl∧k<L.length∧
 ∀(r:Addr) (H':Hp) (zs:List V),Same H H'→H r=none→H' r=some (.lst zs)→PoursH H' zs (letQ R.length L ms k) ms.length→Q (.ref r) H'
def CH (cs:Kd→Addr) (cR cN:Addr):Sp:=fun vs H Q _=>∃(x w:Addr) (v:Nat) (ms:List Int) (D:List Addr) (R:List RC) (L:List LC) (N:List (List (Int×Int))),vs=[.ref x,.ref w,.int (v:Int)]∧CnAt cs cR cN D H x R L N∧H w=some (.tup (ms.map V.int))∧v<ms.length∧Q (.bl (zY R ms v)) H
def wN (cs:Kd→Addr) (cR cN:Addr):Sp:=fun vs H Q _=>∃(x w p:Addr) (ms:List Int) (zs:List V) (qs:List (Nat×Nat×Int)) (D:List Addr) (R:List RC) (L:List LC) (N:List (List (Int×Int))),vs=[.ref x,.ref w,.ref p]∧CnAt cs cR cN D H x R L N∧H w=some (.tup (ms.map V.int))∧H p=some (.lst zs)∧PoursH H zs qs ms.length∧ms.length≤1000∧∀H',Same H H'→Q (.bl (y9 R ms qs)) H'
def BH (cs:Kd→Addr) (cR cN:Addr):Sp:=fun vs H Q _=>∃(x wl st:Addr) (b:Nat) (us:List V) (ys:List j4) (d:Int) (ms:List Int) (pl:List Nat) (D:List Addr) (R:List RC) (L:List LC) (N:List (List (Int×Int))),vs=[.ref x,.ref wl,.ref st,.int (b:Int)]∧Stage cs cR cN D H x wl st us R L N ys d ms pl∧b<ys.length∧∀H',Same H H'→Q (.str (ZA R L ys ms pl b)) H'
def pK (cs:Kd→Addr) (cR cN:Addr):Sp:=fun vs H Q _=>∃(x wl st dd:Addr) (de:Deed) (us:List V) (ys:List j4) (d:Int) (ms:List Int) (pl:List Nat) (D:List Addr) (R:List RC) (L:List LC) (N:List (List (Int×Int))),vs=[.ref x,.ref wl,.ref st,.ref dd]∧Stage cs cR cN D H x wl st us R L N ys d ms pl∧H dd=some (.tup (Q8 de))∧ZY ys.length L.length de∧∀H',Same H H'→Q (.str (qY R L N.length ys d ms pl de)) H'
theorem O7 {y:j4} {p:Nat} {s:Nat×Bool} (ok:WyOk L y) (hs:y.2[p]?=some s):q9 L y p=(qX L s).1:=by
 have hp:=(List.getElem?_eq_some_iff.mp hs).1
 unfold q9
 rw [if_neg (by omega),List.getD_eq_getElem?_getD,ok.ok p s hs]
 rfl
theorem ND (d:Drawn R L N) {s:Nat×Bool} (h:s.1<L.length):0≤(qX L s).1∧(qX L s).1<(R.length:Int):=by
 obtain ⟨l,hl,g1,g2,g3,g4,_⟩:=tX d h
 obtain ⟨k,b⟩:=s
 cases b
 ·rw [ZN hl];show 0≤l.high∧l.high<_;omega
 ·rw [ZU hl];show 0≤l.low∧l.low<_;omega
theorem BT (d:Drawn R L N) {y:j4} (ok:WyOk L y) {p:Nat} (hp:p<y.2.length):0≤q9 L y p∧q9 L y p<(R.length:Int):=by
 have hs:=List.getElem?_eq_getElem hp
 rw [O7 ok hs]
 exact ND d (ok.lt _ (List.mem_of_getElem? hs))
theorem AJ (L:List LC) (y:j4):q9 L y y.2.length = -1:=if_pos rfl
def vV (R:List RC) (L:List LC) (N:List (List (Int×Int))) (ys:List j4) (d:Int) (ms:List Int) (pl:List Nat):Deed→List (Nat×Nat×Int)
 |.pass b=>passQ R.length L ms ((ys.getD b (0,[])).2.getD (pl.getD b 0) (0,true))
 |.let k=>letQ R.length L ms k
 |.night=>(zH (R.length+2*L.length+1) ms (N.getD d.toNat []) R.length).filter kY
def yT (R:List RC) (L:List LC) (N:List (List (Int×Int))) (ys:List j4) (d:Int) (ms:List Int) (pl:List Nat) (de:Deed) (gs:List Int):List (Nat×Nat×Int):=vV R L N ys d ms pl de++(vT (kL (kI R L.length)) (fun a=>gs.getD a 0) (kI R L.length).length).filter kY
def zR (pl:List Nat) (b:Nat):List Nat:=(List.range pl.length).map fun i=>if i=b then pl.getD i 0+1 else pl.getD i 0
def Z1 (d:Int):Deed→Int
 |.night=>d+1
 |_=>d
def QU (pl:List Nat):Deed→List Nat
 |.pass b=>zR pl b
 |_=>pl
def oP (cs:Kd→Addr) (cR cN eW:Addr):Sp:=fun vs H Q E=>∃(x wl st dd:Addr) (de:Deed) (us:List V) (ys:List j4) (d:Int) (ms:List Int) (pl:List Nat) (D:List Addr) (R:List RC) (L:List LC) (N:List (List (Int×Int))),vs=[.ref x,.ref wl,.ref st,.ref dd]∧Stage cs cR cN D H x wl st us R L N ys d ms pl∧H dd=some (.tup (Q8 de))∧ZY ys.length L.length de∧0≤d∧
 (qY R L N.length ys d ms pl de=""→∀(r:Addr) (H':Hp) (gs:List Int) (zs:List V),Same H H'→H r=none→H' r=some (.lst zs)→PoursH H' zs (yT R L N ys d ms pl de gs) ms.length→Spl (kI R L.length) (j3 ms (vV R L N ys d ms pl de)) gs→Q (.ref r) H')∧
 (¬qY R L N.length ys d ms pl de=""→∀H',Same H H'→E (.ref eW) none H')
def wU (cs:Kd→Addr) (cR cN eW:Addr):Sp:=fun vs H Q E=>∃(x wl st dd:Addr) (de:Deed) (us:List V) (ys:List j4) (d:Int) (ms:List Int) (pl:List Nat) (D:List Addr) (R:List RC) (L:List LC) (N:List (List (Int×Int))),vs=[.ref x,.ref wl,.ref st,.ref dd]∧Stage cs cR cN D H x wl st us R L N ys d ms pl∧H dd=some (.tup (Q8 de))∧ZY ys.length L.length de∧0≤d∧
 (qY R L N.length ys d ms pl de=""→∀(r:Addr) (H':Hp) (gs:List Int),Same H H'→H r=none→StAt H' r (Z1 d de) (j3 ms (yT R L N ys d ms pl de gs)) (QU pl de)→Spl (kI R L.length) (j3 ms (vV R L N ys d ms pl de)) gs→Q (.ref r) H')∧
 (¬qY R L N.length ys d ms pl de=""→∀H',Same H H'→E (.ref eW) none H')
def wL:Sp:=fun vs H Q _=>∃(pt:Addr) (pl:List Nat) (b:Nat),vs=[.ref pt,.int (b:Int)]∧H pt=some (.tup (pl.map fun (p:Nat)=>V.int (p:Int)))∧pl.length≤100∧∀(r:Addr) (H':Hp),Same H H'→H r=none→H' r=some (.tup ((zR pl b).map fun (p:Nat)=>V.int (p:Int)))→Q (.ref r) H'
theorem wE {ys:List j4} {b:Nat} (h:ZA R L ys ms pl b=""):¬pl.getD b 0=(ys.getD b (0,[])).2.length:=fun e=>by
 unfold ZA at h
 rw [if_pos e] at h
 exact absurd h (by decide +kernel)
theorem LT (r:Nat) (L:List LC) (ms:List Int) (s:Nat×Bool):(passQ r L ms s).length≤4:=by
 unfold passQ
 split
 ·rw [List.length_map];exact uQ _ _ _ _ _ _
 ·exact Nat.zero_le _
theorem M4 (r:Nat) (L:List LC) (ms:List Int) (k:Nat):(letQ r L ms k).length≤4:=by
 unfold letQ
 split
 ·rw [List.length_map];exact Nat.le_trans (ZR _ _ _ _) (by decide)
 ·exact Nat.zero_le _
theorem cZ (pl:List Nat) (b:Nat):(zR pl b).length=pl.length:=by unfold zR;rw [List.length_map,List.length_range]
theorem sU {b:Nat} (h:i<pl.length):(zR pl b).take (i+1)=(zR pl b).take i++[if i=b then pl.getD i 0+1 else pl.getD i 0]:=by
 rw [List.take_add_one]
 unfold zR
 rw [List.getElem?_map,List.getElem?_range h]
 rfl
def uJ:Sp:=fun vs H Q _=>∃(st dd wo:Addr) (de:Deed) (d:Int) (ms mo:List Int) (pl:List Nat),vs=[.ref st,.ref dd,.ref wo]∧StAt H st d ms pl∧H dd=some (.tup (Q8 de))∧H wo=some (.tup (mo.map V.int))∧pl.length≤100∧∀(r:Addr) (H':Hp),Same H H'→H r=none→StAt H' r (Z1 d de) mo (QU pl de)→Q (.ref r) H'
def wQ (cs:Kd→Addr) (cR cN:Addr):Sp:=fun vs H Q _=>∃(x wl st dd:Addr) (de:Deed) (us:List V) (ys:List j4) (d:Int) (ms:List Int) (pl:List Nat) (D:List Addr) (R:List RC) (L:List LC) (N:List (List (Int×Int))),vs=[.ref x,.ref wl,.ref st,.ref dd]∧Stage cs cR cN D H x wl st us R L N ys d ms pl∧H dd=some (.tup (Q8 de))∧ZY ys.length L.length de∧0≤d∧qY R L N.length ys d ms pl de=""∧
 ∀(r:Addr) (H':Hp) (gs:List Int) (zs:List V),Same H H'→H r=none→H' r=some (.lst zs)→PoursH H' zs (yT R L N ys d ms pl de gs) ms.length→Spl (kI R L.length) (j3 ms (vV R L N ys d ms pl de)) gs→Q (.ref r) H'
variable {eW:Addr}
theorem LQ:∀vs H Q E,wQ cs cR cN vs H Q E→oP cs cR cN eW vs H Q (fun _ _ _=>False):=by
 rintro vs H Q E ⟨x,wl,st,dd,de,us,ys,d,ms,pl,D,R,L,N,e,h1,h2,h3,h4,h5,q⟩
 exact ⟨x,wl,st,dd,de,us,ys,d,ms,pl,D,R,L,N,e,h1,h2,h3,h4,fun _=>q,fun h=>absurd h5 h⟩
def nZ (cs:Kd→Addr) (cR cN:Addr):Sp:=fun vs H Q _=>∃(x wl st dd:Addr) (de:Deed) (us:List V) (ys:List j4) (d:Int) (ms:List Int) (pl:List Nat) (D:List Addr) (R:List RC) (L:List LC) (N:List (List (Int×Int))),vs=[.ref x,.ref wl,.ref st,.ref dd]∧Stage cs cR cN D H x wl st us R L N ys d ms pl∧H dd=some (.tup (Q8 de))∧ZY ys.length L.length de∧0≤d∧qY R L N.length ys d ms pl de=""∧
 ∀(r:Addr) (H':Hp) (gs:List Int),Same H H'→H r=none→StAt H' r (Z1 d de) (j3 ms (yT R L N ys d ms pl de gs)) (QU pl de)→Spl (kI R L.length) (j3 ms (vV R L N ys d ms pl de)) gs→Q (.ref r) H'
theorem MI:∀vs H Q E,nZ cs cR cN vs H Q E→wU cs cR cN eW vs H Q (fun _ _ _=>False):=by
 rintro vs H Q E ⟨x,wl,st,dd,de,us,ys,d,ms,pl,D,R,L,N,e,h1,h2,h3,h4,h5,q⟩
 exact ⟨x,wl,st,dd,de,us,ys,d,ms,pl,D,R,L,N,e,h1,h2,h3,h4,fun _=>q,fun h=>absurd h5 h⟩
def DdAt (H:Hp) (v:V) (de:Deed):Prop:=∃t,v=.ref t∧H t=some (.tup (Q8 de))
theorem DdAt.same (e:Same H H') (v:V) (de:Deed):DdAt H v de→DdAt H' v de:=fun ⟨t,h1,h2⟩=>⟨t,h1,e _ _ h2⟩
theorem DdAt.put (hd:H d=some (.lst ys)) (v:V) (de:Deed):DdAt H v de→DdAt (upd H d o) v de:=fun ⟨t,h1,h2⟩=>⟨t,h1,by rw [jL (fun z=>by rw [z,hd] at h2;cases h2)];exact h2⟩
def passes (n:Nat):List Deed:=(List.range n).map Deed.pass
def lets (n:Nat):List Deed:=(List.range n).map Deed.let
def yR (nb nl:Nat):List Deed:=passes nb++lets nl++[.night]
variable {de:Deed}
theorem nQ {nb nl:Nat} (h:de∈yR nb nl):ZY nb nl de:=by
 rcases List.mem_append.mp h with h|h
 ·rcases List.mem_append.mp h with h|h
  ·obtain ⟨i,hi,rfl⟩:=List.mem_map.mp h;exact List.mem_range.mp hi
  ·obtain ⟨i,hi,rfl⟩:=List.mem_map.mp h;exact List.mem_range.mp hi
 ·rw [List.mem_singleton.mp h];trivial
theorem AllAt.app {P:V→α→Prop} {xs ys:List α} (h:AllAt P vs xs) (h':AllAt P us ys):AllAt P (vs++us) (xs++ys):=by
 refine ⟨by rw [List.length_append,List.length_append,h.1,h'.1],fun i v hi=>?_⟩
 by_cases hl:i<vs.length
 ·rw [List.getElem?_append_left hl] at hi
  obtain ⟨x,h1,h2⟩:=h.2 i v hi
  exact ⟨x,by rw [List.getElem?_append_left (by rw [← h.1];exact hl)];exact h1,h2⟩
 ·rw [List.getElem?_append_right (by omega)] at hi
  obtain ⟨x,h1,h2⟩:=h'.2 _ v hi
  exact ⟨x,by rw [List.getElem?_append_right (by rw [← h.1];omega),← h.1];exact h1,h2⟩
def zL (R:List RC) (L:List LC) (n:Nat) (ys:List j4) (d:Int) (ms:List Int) (pl:List Nat):List Deed:=(yR ys.length L.length).filter fun de=>decide (qY R L n ys d ms pl de="")
theorem nH (nb nl:Nat):(yR nb nl).length=nb+nl+1:=by unfold yR passes lets;rw [List.length_append,List.length_append,List.length_map,List.length_map,List.length_range,List.length_range];rfl
def CG (cs:Kd→Addr) (cR cN:Addr):Sp:=fun vs H Q _=>∃(x wl st:Addr) (us:List V) (ys:List j4) (d:Int) (ms:List Int) (pl:List Nat) (D:List Addr) (R:List RC) (L:List LC) (N:List (List (Int×Int))),vs=[.ref x,.ref wl,.ref st]∧Stage cs cR cN D H x wl st us R L N ys d ms pl∧∀(r:Addr) (zs:List V) (H':Hp),Same H H'→H r=none→H' r=some (.lst zs)→AllAt (DdAt H') zs (zL R L N.length ys d ms pl)→Q (.ref r) H'
theorem xE {ys:List j4} {d:Int} (h:(yR ys.length L.length)[i]?=some de):((yR ys.length L.length).take (i+1)).filter (fun de=>decide (qY R L n ys d ms pl de=""))=((yR ys.length L.length).take i).filter (fun de=>decide (qY R L n ys d ms pl de=""))++(if qY R L n ys d ms pl de="" then [de] else []):=by
 rw [List.take_add_one,h,List.filter_append]
 show _++[de].filter _=_
 rw [List.filter_cons]
 by_cases hw:qY R L n ys d ms pl de=""
 ·rw [if_pos (decide_eq_true hw),if_pos hw];rfl
 ·rw [if_neg (by rw [decide_eq_true_eq];exact hw),if_neg hw];rfl
theorem fS (j:Nat):∀a b:List (Nat×Nat×Int),qN (a++b) j=qN a j+qN b j
 |[],b=>by show qN b j=0+qN b j;omega
 |q::r,b=>by
  show _+qN (r++b) j=_+qN r j+qN b j
  rw [fS j r b]
  omega
theorem oF {j:Nat}:∀{qs:List (Nat×Nat×Int)},(∀q∈qs,q.1≠j∧q.2.1≠j)→qN qs j=0
 |[],_=>rfl
 |q::r,h=>by
  obtain ⟨h1,h2⟩:=h q List.mem_cons_self
  show (if q.2.1=j then q.2.2 else 0) - (if q.1=j then q.2.2 else 0)+qN r j=0
  rw [if_neg h1,if_neg h2,oF fun q hq=>h q (List.mem_cons_of_mem _ hq)]
  rfl
theorem KA (hA:Q5 ws.length (kL ws)) (hR:ws.length≤ms.length) (ht:∀a,a<ws.length→kL ws a<ms.length):∃gs,Spl ws ms gs:=by
 have:∀k,k≤ws.length→∃hs gs,SplInv ws ms hs gs k:=by
  intro k
  induction k with
  |zero=>intro _;exact ⟨_,_,SplInv.start ws ms⟩
  |succ k ih =>
   intro hk
   obtain ⟨hs,gs,h⟩:=ih (by omega)
   exact ⟨_,_,h.step hA hR (by omega) (ht _ (by omega))⟩
 obtain ⟨hs,gs,h⟩:=this ws.length (Nat.le_refl _)
 exact ⟨gs,h.spl⟩
theorem tF {r:RC} (h:R[i]?=some r):kL (kI R m) i=if r.target = -1 then R.length+2*m else r.target.toNat:=by
 unfold kL kI
 rw [List.getD_eq_getElem?_getD,List.getElem?_map,h]
 rfl
theorem gD (hT:Q9 R):∀a,a<(kI R m).length→kL (kI R m) a<R.length+2*m+2:=fun a ha=>by
 rw [y0] at ha
 have hr:=List.getElem?_eq_getElem ha
 rw [tF hr]
 have:=hT a _ hr
 split<;>omega
theorem xR {ys:List j4} {d:Int} (hd:Drawn R L N) (hm:ms.length=R.length+2*L.length+2):∀de,∀q∈vV R L N ys d ms pl de,q.1<ms.length∧q.2.1<ms.length:=by
 have key:∀(k:Nat) (l:LC) (ps:List (Str×Str×Int)),L[k]?=some l→(∀q∈ps,okW q.1∧okW q.2.1)→∀q∈ps.map (eE R.length L.length k l),q.1<ms.length∧q.2.1<ms.length:=fun k l ps hl ho q hq=>by
  obtain ⟨p,hp,rfl⟩:=List.mem_map.mp hq
  rw [hm]
  exact ⟨iB (ho p hp).1 (hd.lock _ _ hl) (List.getElem?_eq_some_iff.mp hl).1,iB (ho p hp).2 (hd.lock _ _ hl) (List.getElem?_eq_some_iff.mp hl).1⟩
 intro de q hq
 cases de with
 |pass b =>
  change q∈passQ R.length L ms _ at hq
  unfold passQ at hq
  split at hq
  ·rename_i l hl;exact key _ l _ hl (w4 _ _ _ _ _ _) q hq
  ·cases hq
 |«let» k =>
  change q∈letQ R.length L ms k at hq
  unfold letQ at hq
  split at hq
  ·rename_i l hl;exact key _ l _ hl (dS _ _ _ _) q hq
  ·cases hq
 |night=>exact uS (by omega) (by omega) q (List.mem_filter.mp hq).1
theorem LM (hT:Q9 R) (h1:R.length≤j) (h2:j<R.length+2*m):qN ((vT (kL (kI R m)) g (kI R m).length).filter kY) j=0:=by
 rw [bF]
 refine oF fun q hq=>?_
 obtain ⟨a,ha,rfl⟩:=List.mem_map.mp hq
 have ha:=mem_downs.mp ha
 rw [y0] at ha
 obtain ⟨r,hr⟩:∃r,R[a]?=some r:=⟨_,List.getElem?_eq_getElem ha⟩
 have ht:=hT a r hr
 refine ⟨by show a≠j;omega,?_⟩
 show kL (kI R m) a≠j
 rw [tF hr]
 split<;>omega
theorem uR {k:Nat} {W:List (Int×Int)} (h1:n≤j) (h2:j≠k):qN ((zH k ms W n).filter kY) j=0:=by
 rw [bF]
 refine oF fun q hq=>?_
 rcases List.mem_append.mp hq with h|h
 ·obtain ⟨i,hi,rfl⟩:=List.mem_map.mp h
  have:=List.mem_range.mp hi
  exact ⟨by show i≠j;omega,fun z=>h2 z.symm⟩
 ·obtain ⟨i,hi,rfl⟩:=List.mem_map.mp h
  have:=List.mem_range.mp hi
  exact ⟨fun z=>h2 z.symm,by show i≠j;omega⟩
theorem NA {ys:List j4} {d:Int} (hf:Fleet L ys pl) (hw:qY R L n ys d ms pl de=""):Fleet L ys (QU pl de):=by
 cases de with
 |night=>exact hf
 |«let» j=>exact hf
 |pass b =>
  refine ⟨by show (zR pl b).length=_;rw [cZ];exact hf.len,hf.n10,hf.ok,fun i y p hy hp=>?_⟩
  have hi:i<pl.length:=by have:=(List.getElem?_eq_some_iff.mp hp).1;rw [show QU pl (.pass b)=zR pl b from rfl,cZ] at this;exact this
  have hp:(zR pl b)[i]?=some p:=hp
  unfold zR at hp
  rw [List.getElem?_map,List.getElem?_range hi] at hp
  have hp:some (if i=b then pl.getD i 0+1 else pl.getD i 0)=some p:=hp
  have hp:=Option.some.inj hp
  have eg:pl[i]?=some (pl.getD i 0):=by rw [List.getD_eq_getElem?_getD,List.getElem?_eq_getElem hi];rfl
  have h1:=hf.le i y _ hy eg
  by_cases hb:i=b
  ·rw [if_pos hb] at hp
   subst hb
   have hne:=wE hw
   rw [show ys.getD i (0,[])=y by rw [List.getD_eq_getElem?_getD,hy];rfl] at hne
   omega
  ·rw [if_neg hb] at hp
   omega
theorem wJ {k j:Nat} {f:Nat→Int} (hk:k≠j):∀n,qN ((List.range n).map fun r=>(r,k,f r)) j=if j<n then - f j else 0
 |0=>by rw [if_neg (Nat.not_lt_zero _)];rfl
 |n+1=>by
  rw [List.range_succ,List.map_append,fS,wJ hk n]
  show _+((if k=j then f n else 0) - (if n=j then f n else 0)+0)=_
  rw [if_neg hk]
  by_cases h:n=j
  ·subst h
   rw [if_neg (Nat.lt_irrefl _),if_pos rfl,if_pos (Nat.lt_succ_self _)]
   omega
  ·rw [if_neg h]
   by_cases h2:j<n
   ·rw [if_pos h2,if_pos (by omega)];omega
   ·rw [if_neg h2,if_neg (by omega)];rfl
theorem NJ {ys:List j4} {d:Int} (hd:Drawn R L N) (hm:ms.length=R.length+2*L.length+2):j3 ms (yT R L N ys d ms pl de gs)=JI (j3 ms (vV R L N ys d ms pl de)) (kI R L.length) gs:=by
 unfold yT
 show List.foldl pour ms _=_
 rw [List.foldl_append]
 show j3 (j3 ms _) _=_
 exact nU (fV (by rw [y0,vG];omega) (by rw [vG,hm];exact gD (JN hd)))
noncomputable def rE (R:List RC) (L:List LC) (ms:List Int):List Int:=open Classical in if h:∃gs,Spl (kI R L.length) ms gs then JI ms (kI R L.length) (Classical.choose h) else ms
theorem NZ (hd:Drawn R L N) (h:Spl (kI R L.length) ms gs):JI ms (kI R L.length) gs=rE R L ms:=by
 have hex:∃gs,Spl (kI R L.length) ms gs:=⟨gs,h⟩
 unfold rE
 rw [dif_pos hex,Spl.unique (gH (cV (m:=L.length) (JN hd))) h (Classical.choose_spec hex)]
abbrev vB:=Int×List Int×List Nat
noncomputable def zV (R:List RC) (L:List LC) (N:List (List (Int×Int))) (ys:List j4) (s:vB) (de:Deed):vB:=(Z1 s.1 de,rE R L (j3 s.2.1 (vV R L N ys s.1 s.2.1 s.2.2 de)),QU s.2.2 de)
theorem gW {ys:List j4} {s:vB} (hd:Drawn R L N) (hm:s.2.1.length=R.length+2*L.length+2) (h:Spl (kI R L.length) (j3 s.2.1 (vV R L N ys s.1 s.2.1 s.2.2 de)) gs):zV R L N ys s de=(Z1 s.1 de,j3 s.2.1 (yT R L N ys s.1 s.2.1 s.2.2 de gs),QU s.2.2 de):=by
 unfold zV
 rw [NJ hd hm,NZ hd h]
structure Wet (R:List RC) (L:List LC) (ms ms':List Int):Prop where
 len:ms'.length=ms.length
 up:∀i,i<R.length→ms.getD i 0≤ms'.getD i 0
 eq:∀i,R.length≤i→i<R.length+2*L.length→ms'.getD i 0=ms.getD i 0
variable {ms':List Int}
theorem Wet.pour1 {q:Nat×Nat×Int} (h:Wet R L ms ms') (h1:q.1<ms.length) (h2:q.2.1<ms.length):Wet R L (pour ms q) (pour ms' q):=by
 have hl:=h.len
 refine ⟨by rw [cY,cY,hl],fun i hi=>?_,fun i i1 i2=>?_⟩
 ·rw [dC ms q i h1 h2,dC ms' q i (by omega) (by omega)]
  have:=h.up i hi
  omega
 ·rw [dC ms q i h1 h2,dC ms' q i (by omega) (by omega),h.eq i i1 i2]
theorem Wet.pours (h:Wet R L ms ms') (hq:∀q∈qs,q.1<ms.length∧q.2.1<ms.length):Wet R L (j3 ms qs) (j3 ms' qs):=by
 have hq':∀q∈qs,q.1<ms'.length∧q.2.1<ms'.length:=by rw [h.len];exact hq
 refine ⟨by rw [vG,vG,h.len],fun i hi=>?_,fun i i1 i2=>?_⟩
 ·rw [zG _ _ _ hq,zG _ _ _ hq']
  have:=h.up i hi
  omega
 ·rw [zG _ _ _ hq,zG _ _ _ hq',h.eq i i1 i2]
theorem tJ {R:List RC} {L:List LC}:∀(qs:List (Nat×Nat×Int)) (ms ms':List Int),Wet R L ms ms'→(∀q∈qs,q.1<ms.length∧q.2.1<ms.length)→y9 R ms qs=false→y9 R ms' qs=false
 |[],_,_,_,_,_=>rfl
 |q::qs,ms,ms',h,hq,hs=>by
  change (zY R (pour ms q) q.1||y9 R (pour ms q) qs)=false at hs
  rw [Bool.or_eq_false_iff] at hs
  obtain ⟨q1,q2⟩:=hq q List.mem_cons_self
  have hp:=h.pour1 q1 q2
  show (zY R (pour ms' q) q.1||y9 R (pour ms' q) qs)=false
  rw [Bool.or_eq_false_iff]
  refine ⟨?_,tJ qs _ _ hp (fun p hp=>by rw [cY];exact hq p (List.mem_cons_of_mem _ hp)) hs.2⟩
  have h1:=hs.1
  unfold zY at h1 ⊢
  cases hr:R[q.1]? with
  |none=>rfl
  |some r =>
   rw [hr] at h1
   have h2:=of_decide_eq_false h1
   have h3:=hp.up q.1 (List.getElem?_eq_some_iff.mp hr).1
   exact decide_eq_false (by omega)
theorem Wet.full {k:Nat} (h:Wet R L ms ms') (hk:k<L.length):JY R.length ms' k=JY R.length ms k:=by
 unfold JY
 rw [h.eq (R.length+k) (by omega) (by omega)]
theorem Wet.passEq (h:Wet R L ms ms') (s:Nat×Bool):passQ R.length L ms' s=passQ R.length L ms s:=by
 unfold My.passQ
 cases hl:L[s.1]? with
 |none=>rfl
 |some l =>
  have hk:=(List.getElem?_eq_some_iff.mp hl).1
  show (bQ _ _ _ _ _ _).map _=(bQ _ _ _ _ _ _).map _
  rw [h.full hk,h.eq (R.length+L.length+s.1) (by omega) (by omega)]
theorem Wet.letEq (h:Wet R L ms ms') (k:Nat):letQ R.length L ms' k=letQ R.length L ms k:=by
 unfold My.letQ
 cases hl:L[k]? with
 |none=>rfl
 |some l =>
  have hk:=(List.getElem?_eq_some_iff.mp hl).1
  show (v6 _ _ _ _).map _=(v6 _ _ _ _).map _
  rw [h.eq (R.length+L.length+k) (by omega) (by omega)]
theorem NO {ys:List j4} {d:Int} (hd:Drawn R L N) (hm:ms.length=R.length+2*L.length+2) (h:Wet R L ms ms') (hin:ZY ys.length L.length de) (hw:qY R L N.length ys d ms pl de=""):qY R L N.length ys d ms' pl de="":=by
 cases de with
 |night=>exact hw
 |«let» k =>
  change (if JY R.length ms k=true then ("":Str) else "empty")="" at hw
  show (if JY R.length ms' k=true then ("":Str) else "empty")=""
  rw [h.full hin]
  exact hw
 |pass b =>
  have hq:=xR (N:=N) (ys:=ys) (d:=d) (pl:=pl) hd hm (.pass b)
  change ZA R L ys ms pl b="" at hw
  show ZA R L ys ms' pl b=""
  change ∀q∈My.passQ R.length L ms ((ys.getD b (0,[])).2.getD (pl.getD b 0) (0,true)),_ at hq
  unfold ZA at hw ⊢
  rw [h.passEq]
  split at hw
  ·rename_i h0
   rw [if_pos h0]
   exact hw
  ·rename_i h0
   rw [if_neg h0]
   split at hw
   ·rename_i h1
    rw [if_pos h1]
    exact hw
   ·rename_i h1
    rw [if_neg h1]
    split at hw
    ·exact absurd hw (by decide +kernel)
    ·rename_i h2
     rw [if_neg (by rw [tJ _ _ _ h hq (Bool.eq_false_iff.mpr h2)];decide)]
theorem LD {ys:List j4} {d:Int} (hd:Drawn R L N) (hm:ms.length=R.length+2*L.length+2) (h:Wet R L ms ms') (hn:de≠.night):Wet R L (j3 ms (vV R L N ys d ms pl de)) (j3 ms' (vV R L N ys d ms' pl de)):=by
 have e:vV R L N ys d ms' pl de=vV R L N ys d ms pl de:=by
  cases de with
  |night=>exact absurd rfl hn
  |«let» k=>exact h.letEq k
  |pass b=>exact h.passEq _
 rw [e]
 exact h.pours (xR hd hm de)
theorem uN {k j:Nat} {f:Nat→Int} (hk:k≠j):∀n,qN ((List.range n).map fun r=>(k,r,f r)) j=if j<n then f j else 0
 |0=>by rw [if_neg (Nat.not_lt_zero _)];rfl
 |n+1=>by
  rw [List.range_succ,List.map_append,fS,uN hk n]
  show _+((if n=j then f n else 0) - (if k=j then f n else 0)+0)=_
  rw [if_neg hk]
  by_cases h:n=j
  ·subst h
   rw [if_neg (Nat.lt_irrefl _),if_pos rfl,if_pos (Nat.lt_succ_self _)]
   omega
  ·rw [if_neg h]
   by_cases h2:j<n
   ·rw [if_pos h2,if_pos (by omega)];omega
   ·rw [if_neg h2,if_neg (by omega)];rfl
theorem oA {W:List (Int×Int)} (hm:ms.length=R.length+2*m+2):∀q∈(zH (R.length+2*m+1) ms W R.length).filter kY,q.1<ms.length∧q.2.1<ms.length:=fun q hq=>uS (by omega) (by omega) q (List.mem_filter.mp hq).1
theorem xA {W:List (Int×Int)} (hm:ms.length=R.length+2*m+2) (hj:j<R.length):(ZX R m ms W).getD j 0=ms.getD j 0 - QL ms W j+(W.getD j (0,0)).1:=by
 unfold ZX
 rw [zG _ _ _ (oA hm),bF]
 unfold zH
 rw [fS]
 have e1:qN (ZB (R.length+2*m+1) ms W R.length) j=if j<R.length then - QL ms W j else 0:=wJ (by omega) _
 have e2:qN (Q7 (R.length+2*m+1) W R.length) j=if j<R.length then (W.getD j (0,0)).1 else 0:=uN (by omega) _
 rw [e1,e2,if_pos hj,if_pos hj]
 omega
def S3 (n:Nat) (W W':List (Int×Int)):Prop:=∀i,i<n→(W.getD i (0,0)).1≤(W'.getD i (0,0)).1∧(W'.getD i (0,0)).2≤(W.getD i (0,0)).2
theorem LB {W W':List (Int×Int)} (hm:ms.length=R.length+2*L.length+2) (h:Wet R L ms ms') (hW:S3 R.length W W'):Wet R L (ZX R L.length ms W) (ZX R L.length ms' W'):=by
 have hm':ms'.length=R.length+2*L.length+2:=by rw [h.len];exact hm
 refine ⟨by unfold ZX;rw [vG,vG,h.len],fun i hi=>?_,fun i i1 i2=>?_⟩
 ·rw [xA hm hi,xA hm' hi]
  have h1:=h.up i hi
  obtain ⟨h2,h3⟩:=hW i hi
  unfold QL
  split<;>split<;>omega
 ·unfold ZX
  rw [zG _ _ _ (oA hm),zG _ _ _ (oA hm'),uR i1 (by omega),uR i1 (by omega),h.eq i i1 i2]
theorem NL {R:Nat} {t:Nat→Nat} {m m':Nat→Int} (hA:Q5 R t) (hm:∀i,i<R→m i≤m' i) (h:ZV R c t m g) (h':ZV R c t m' g') (hj:j<R):after R t m g j≤after R t m' g' j:=by
 have hg:=nS hA hm h h' R (Nat.le_refl _)
 have hf:=nM (t:=t) (g:=g) (g':=g') (j:=j) (R:=R) fun a ha _=>hg a (by omega) ha
 have hj':=hm j hj
 unfold after
 rw [if_pos hj,if_pos hj]
 have e:=h j hj
 have e':=h' j hj
 unfold JT at e e'
 split at e<;>split at e'<;>omega
def dE (R:List RC) (L:List LC) (gs:List Int):List (Nat×Nat×Int):=(vT (kL (kI R L.length)) (fun a=>gs.getD a 0) (kI R L.length).length).filter kY
theorem sZ (hd:Drawn R L N) (hm:ms.length=R.length+2*L.length+2) (h:Wet R L ms ms') (hS:Spl (kI R L.length) ms gs) (hS':Spl (kI R L.length) ms' gs'):Wet R L (j3 ms (dE R L gs)) (j3 ms' (dE R L gs')):=by
 have hm':ms'.length=R.length+2*L.length+2:=by rw [h.len];exact hm
 have hin:∀(ns ks:List Int),ns.length=R.length+2*L.length+2→∀q∈dE R L ks,q.1<ns.length∧q.2.1<ns.length:=fun ns ks hn q hq=>by
  refine fV (by rw [y0];omega) ?_ q (List.mem_filter.mp hq).1
  rw [hn]
  exact gD (JN hd)
 have ht:∀(ns:List Int),ns.length=R.length+2*L.length+2→∀a,a<(kI R L.length).length→kL (kI R L.length) a<ns.length:=fun ns hn=>by rw [hn];exact gD (JN hd)
 have hs:∀(ns ks:List Int),ns.length=R.length+2*L.length+2→j3 ns (dE R L ks)=JI ns (kI R L.length) ks:=fun ns ks hn=>nU (fV (by rw [y0];omega) (ht ns hn))
 have hA:Q5 (kI R L.length).length (kL (kI R L.length)):=gH (cV (m:=L.length) (JN hd))
 refine ⟨by rw [vG,vG,h.len],fun i hi=>?_,fun i i1 i2=>?_⟩
 ·rw [hs _ _ hm,hs _ _ hm',uL (by rw [y0];omega) (ht _ hm),uL (by rw [y0];omega) (ht _ hm')]
  exact NL hA (fun j hj=>h.up j (by rw [y0] at hj;exact hj)) hS.2 hS'.2 (by rw [y0];exact hi)
 ·rw [zG _ _ _ (hin _ _ hm),zG _ _ _ (hin _ _ hm')]
  have e:∀ks,qN (dE R L ks) i=0:=fun ks=>LM (JN hd) i1 i2
  rw [e,e,h.eq i i1 i2]
theorem fQ (ms:List Int) (a b:List (Nat×Nat×Int)):j3 ms (a++b)=j3 (j3 ms a) b:=List.foldl_append
theorem NP {ys:List j4} {d:Int} (hd:Drawn R L N) (hm:ms.length=R.length+2*L.length+2) (h:Wet R L ms ms') (hn:de≠.night) (hS:Spl (kI R L.length) (j3 ms (vV R L N ys d ms pl de)) gs) (hS':Spl (kI R L.length) (j3 ms' (vV R L N ys d ms' pl de)) gs'):Wet R L (j3 ms (yT R L N ys d ms pl de gs)) (j3 ms' (yT R L N ys d ms' pl de gs')):=by
 unfold yT
 rw [fQ,fQ]
 exact sZ hd (by rw [vG];exact hm) (LD hd hm h hn) hS hS'
variable {H0:Hp}
theorem wW {cs:List Addr} (s:Same H0 H) (h:∀c∈cs,H0 c=none):Same H0 (vR H cs):=fun b o e=>by
 rw [yQ fun hin=>by rw [h b hin] at e;cases e];exact s b o e
theorem wX {cs:List Addr} (s:Same (vR H cs) H'):Same H (QM H' H cs):=fun b o e=>by
 by_cases hb:b∈cs
 ·rw [pF hb];exact e
 ·rw [vZ hb];exact s b o (by rw [yQ hb];exact e)
variable {b:Addr}
theorem BD {cs:List Addr} (hn:∀c∈cs,H' c=none) (e:H' b=some o):QM H' H cs b=some o:=by
 rw [vZ fun hin=>by rw [hn b hin] at e;cases e];exact e
theorem StAt.del {cs:List Addr} {d:Int} (hc:eD H cs) (h:StAt H t d ms pl):StAt (vR H cs) t d ms pl:=by
 obtain ⟨wt,pt,h1,h2,h3⟩:=h
 exact ⟨wt,pt,oY hc _ _ h1,oY hc _ _ h2,oY hc _ _ h3⟩
def QT:List Addr→List V→Sp:=fun cs fvs vs H Q _=>∃(wl st:Addr) (H0:Hp) (us:List V) (ys:List j4) (d:Int) (ms:List Int) (pl:List Nat) (L:List LC),fvs=[.ref wl]∧vs=[.ref st]∧Same H0 H∧(∀c∈cs,H0 c=none)∧H0 wl=some (.lst us)∧AllAt (WyAt H0) us ys∧StAt H st d ms pl∧Fleet L ys pl∧∀H',Same H H'→Q (.bl (decide (eB ys pl=0))) H'
theorem iC (h:n≤4000):n<sizeLine:=by rw [sizeLine_eq];omega
variable {k:GK}
theorem yC (s:Same H H') (h:(GV H k).1 v):(GV H' k).1 v:=(GV.keep (fun a l e=>s _ _ e) k).1 v h
variable {kvs:List qK}
theorem dM (s:Same H H') (h:GOk H kvs):GOk H' kvs:=h.keep fun a l e=>s _ _ e
def QA (H:Hp) (xs:List V) (ps:List (GK×GK)):Prop:=xs.length=ps.length∧∀(i:Nat) (x:V),xs[i]?=some x→∃(p:GK×GK) (a:Addr) (b c:V),ps[i]?=some p∧x=.ref a∧H a=some (.tup [b,c])∧(GV H p.1).1 b∧(GV H p.2).1 c∧gd p.1≤8∧gd p.2≤8
variable {ps:List (GK×GK)}
theorem tL (hk:∀a l,H a=some (.tup l)→H' a=some (.tup l)) (h:QA H xs ps):QA H' xs ps:=⟨h.1,fun i x e=>by
 obtain ⟨p,a,b,c,e1,e2,e3,e4,e5,e6⟩:=h.2 i x e
 exact ⟨p,a,b,c,e1,e2,hk _ _ e3,(GV.keep hk _).1 _ e4,(GV.keep hk _).1 _ e5,e6⟩⟩
variable {p:GK×GK}
theorem KI {b c:V} (h:QA H xs ps) (ht:H t=some (.tup [b,c])) (h1:(GV H p.1).1 b) (h2:(GV H p.2).1 c) (g1:gd p.1≤8) (g2:gd p.2≤8):QA H (xs++[.ref t]) (ps++[p]):=by
 refine ⟨by rw [List.length_append,List.length_append,h.1];rfl,fun i x e=>?_⟩
 by_cases hi:i<xs.length
 ·rw [List.getElem?_append_left hi] at e
  obtain ⟨q,a,b',c',e1,e2⟩:=h.2 i x e
  exact ⟨q,a,b',c',by rw [List.getElem?_append_left (by rw [← h.1];exact hi)];exact e1,e2⟩
 ·rw [List.getElem?_append_right (by omega)] at e
  have hz:i - xs.length=0:=by have:=(List.getElem?_eq_some_iff.mp e).1;rw [List.length_singleton] at this;omega
  rw [hz] at e
  cases e
  exact ⟨p,t,b,c,by rw [List.getElem?_append_right (by rw [← h.1];omega),← h.1,hz];rfl,rfl,ht,h1,h2,g1,g2⟩
def KeysAt (H:Hp) (xs:List V) (ks:List GK):Prop:=xs.length=ks.length∧∀(i:Nat) x,xs[i]?=some x→∃k,ks[i]?=some k∧(GV H k).1 x∧gd k≤8
variable {ks:List GK}
theorem KeysAt.same (s:Same H H') (h:KeysAt H xs ks):KeysAt H' xs ks:=⟨h.1,fun i x e=>by
 obtain ⟨k,e1,e2,e3⟩:=h.2 i x e
 exact ⟨k,e1,yC s e2,e3⟩⟩
theorem KeysAt.snoc (h:KeysAt H xs ks) (hk:∀a l,H a=some (.tup l)→H' a=some (.tup l)) (hv:(GV H k).1 v) (h8:gd k≤8):KeysAt H' (xs++[v]) (ks++[k]):=by
 refine ⟨by rw [List.length_append,List.length_append,h.1];rfl,fun i x e=>?_⟩
 by_cases hi:i<xs.length
 ·rw [List.getElem?_append_left hi] at e
  obtain ⟨k',e1,e2,e3⟩:=h.2 i x e
  exact ⟨k',by rw [List.getElem?_append_left (by rw [← h.1];exact hi)];exact e1,(GV.keep hk k').1 _ e2,e3⟩
 ·rw [List.getElem?_append_right (by omega)] at e
  obtain ⟨h1,h2⟩:=List.getElem?_eq_some_iff.mp e
  have hz:i - xs.length=0:=by rw [List.length_singleton] at h1;omega
  rw [List.getElem?_append_right (by rw [← h.1];omega),← h.1,hz]
  rw [hz] at e
  cases e
  exact ⟨k,rfl,(GV.keep hk k).1 _ hv,h8⟩
theorem KeysAt.keep (tk:∀a l,H a=some (.tup l)→H' a=some (.tup l)) (h:KeysAt H xs ks):KeysAt H' xs ks:=⟨h.1,fun i x e=>by
 obtain ⟨k,e1,e2,e3⟩:=h.2 i x e
 exact ⟨k,e1,(GV.keep tk k).1 _ e2,e3⟩⟩
abbrev Gr:=(GK→List (GK×GK))×(GK→Prop)
abbrev QD (T:Gr) (k:GK):List (GK×GK):=T.1 k
def yN (met acc:List GK) (p:GK×GK):List GK:=if p.2∈met++acc then acc else acc++[p.2]
def vK (met acc:List GK) (ps:List (GK×GK)):List GK:=ps.foldl (yN met) acc
def qB (T:Gr) (met acc lay:List GK):List GK:=lay.foldl (fun a k=>vK met a (QD T k)) acc
variable {met acc:List GK}
theorem nO:vK met acc (ps++[p])=yN met (vK met acc ps) p:=by
 unfold vK;rw [List.foldl_append];rfl
variable {lay:List GK}
theorem sX {T:Gr}:qB T met acc (lay++[k])=vK met (qB T met acc lay) (QD T k):=by
 unfold qB;rw [List.foldl_append];rfl
def jS (T:Gr) (k0:GK):Nat→List (List GK)
 |0=>[[k0]]
 |i+1=>jS T k0 i++[qB T (jS T k0 i).flatten [] ((jS T k0 i).getLast?.getD [])]
def kK (T:Gr) (k0:GK) (i:Nat):List GK:=(jS T k0 i).getLast?.getD []
def JU (T:Gr) (k0:GK) (i:Nat):List GK:=qB T (jS T k0 i).flatten [] (kK T k0 i)
def zA (T:Gr) (M:GK→Bool) (k0:GK) (i:Nat):Prop:=(kK T k0 i).any M=true∨JU T k0 i=[]
variable {k0:GK}
theorem gE {T:Gr}:jS T k0 (i+1)=jS T k0 i++[JU T k0 i]:=rfl
theorem dB {T:Gr}:kK T k0 (i+1)=JU T k0 i:=by
 unfold kK;rw [gE];simp
theorem gJ {T:Gr} {k0:GK}:∀i,(jS T k0 i).length=i+1
 |0=>rfl
 |i+1=>by rw [gE,List.length_append,gJ i];rfl
theorem y6 {T:Gr}:(jS T k0 (i+1)).flatten=(jS T k0 i).flatten++JU T k0 i:=by
 rw [gE,List.flatten_append];simp
theorem oG {T:Gr} {k0:GK} {i:Nat}:∀d,(jS T k0 i).flatten.length≤(jS T k0 (i+d)).flatten.length
 |0=>Nat.le_refl _
 |d+1=>by
  have h1:=oG (T:=T) (k0:=k0) (i:=i) d
  have h2:(jS T k0 (i+(d+1))).flatten=(jS T k0 (i+d)).flatten++JU T k0 (i+d):=y6
  rw [h2,List.length_append];omega
theorem oS {T:Gr} (i:Nat):(jS T k0 i)[i]?=some (kK T k0 i):=by
 unfold kK
 have hl:=gJ (T:=T) (k0:=k0) i
 rw [List.getLast?_eq_getElem?,hl,Nat.add_sub_cancel,List.getElem?_eq_getElem (by omega)];rfl
theorem NM {x:GK} (h:x∈yN met acc p):x∈acc∨x=p.2:=by
 unfold yN at h
 split at h
 ·exact .inl h
 ·rcases List.mem_append.mp h with h|h
  ·exact .inl h
  ·exact .inr (List.mem_singleton.mp h)
theorem tR {met:List GK} {x:GK}:∀(ps:List (GK×GK)) (acc:List GK),x∈vK met acc ps→x∈acc∨∃p∈ps,x=p.2
 |[],acc,h=>.inl h
 |p::ps,acc,h=>by
  rcases tR ps _ (show x∈vK met (yN met acc p) ps from h) with h|⟨q,hq,e⟩
  ·rcases NM h with h|h
   ·exact .inl h
   ·exact .inr ⟨p,List.mem_cons_self,h⟩
  ·exact .inr ⟨q,List.mem_cons_of_mem _ hq,e⟩
theorem tU {T:Gr} {met:List GK} {x:GK}:∀(lay acc:List GK),x∈qB T met acc lay→x∈acc∨∃k∈lay,∃p∈QD T k,x=p.2
 |[],acc,h=>.inl h
 |k::lay,acc,h=>by
  rcases tU lay _ (show x∈qB T met (vK met acc (QD T k)) lay from h) with h|⟨q,hq,e⟩
  ·rcases tR _ _ h with h|⟨p,hp,e⟩
   ·exact .inl h
   ·exact .inr ⟨k,List.mem_cons_self,p,hp,e⟩
  ·exact .inr ⟨q,List.mem_cons_of_mem _ hq,e⟩
def bZ (T:Gr):Prop:=∀k p,T.2 k→p∈T.1 k→T.2 p.2
theorem L8 {T:Gr} (h:bZ T) (hl:∀k∈lay,T.2 k) {x:GK} (hx:x∈qB T met [] lay):T.2 x:=by
 rcases tU lay [] hx with hx|⟨k,hk,p,hp,rfl⟩
 ·cases hx
 ·exact h k p (hl k hk) hp
theorem dL {T:Gr} {x:GK} (hx:x∈kK T k0 i):x∈(jS T k0 i).flatten :=
 List.mem_flatten.mpr ⟨_,List.mem_of_getElem? (oS i),hx⟩
theorem o5 {T:Gr} (h:bZ T) {k0:GK} (h0:T.2 k0):∀(i:Nat) (x:GK),x∈(jS T k0 i).flatten→T.2 x
 |0,x,hx=>by
  have:x=k0:=by simpa [jS] using hx
  rw [this];exact h0
 |i+1,x,hx=>by
  rw [y6] at hx
  rcases List.mem_append.mp hx with hx|hx
  ·exact o5 h h0 i x hx
  ·exact L8 h (fun k hk=>o5 h h0 i k (dL hk)) hx
theorem K7 (h:(met++acc).Nodup):(met++yN met acc p).Nodup:=by
 unfold yN
 split
 ·exact h
 ·rename_i hp
  rw [← List.append_assoc,List.nodup_append]
  exact ⟨h,by simp,fun a ha b hb e=>by cases List.mem_singleton.mp hb;subst e;exact hp ha⟩
theorem sO {met:List GK}:∀(ps:List (GK×GK)) (acc:List GK),(met++acc).Nodup→(met++vK met acc ps).Nodup
 |[],_,h=>h
 |p::ps,acc,h=>sO ps _ (K7 h)
theorem sP {T:Gr} {met:List GK}:∀(lay acc:List GK),(met++acc).Nodup→(met++qB T met acc lay).Nodup
 |[],_,h=>h
 |k::lay,acc,h=>sP lay _ (sO _ _ h)
theorem uM {T:Gr} {k0:GK}:∀i,(jS T k0 i).flatten.Nodup
 |0=>by simp [jS]
 |i+1=>by
  rw [y6]
  exact sP _ [] (by rw [List.append_nil];exact uM i)
theorem L6:(zE kvs k).isSome=decide (k∈kvs.map (·.1)):=by
 unfold zE
 rw [Option.isSome_map,Bool.eq_iff_iff]
 simp only [List.find?_isSome,decide_eq_true_eq,List.mem_map]
variable {y:V}
theorem MP (h:k∉kvs.map (·.1)):yF kvs k y v=kvs++[(k,y,v)]:=by
 unfold yF
 rw [if_neg]
 rw [List.any_eq_true]
 rintro ⟨x,hx,e⟩
 exact h (List.mem_map.mpr ⟨x,hx,of_decide_eq_true e⟩)
theorem AW (hn:(kvs.map (·.1)).Nodup) {p:qK} (h:kvs[i]?=some p):zE kvs p.1=some p.2.2:=by
 unfold zE
 have:kvs.find? (fun x=>decide (x.1=p.1))=some p:=by
  induction kvs generalizing i with
  |nil=>cases h
  |cons q t ih =>
   rw [List.map_cons,List.nodup_cons] at hn
   cases i with
   |zero=>cases h;simp
   |succ i =>
    have h':t[i]?=some p:=h
    have hne:¬q.1=p.1:=fun e=>hn.1 (e▸List.mem_map.mpr ⟨p,List.mem_of_getElem? h',rfl⟩)
    rw [List.find?_cons_of_neg (by simpa using hne)]
    exact ih hn.2 h'
 rw [this];rfl
abbrev CR:=(GK→Prop)×(GK→GK→GK→Prop)
def rN (T:Gr) (k0 kp x:GK):Prop:=∃j,kp∈kK T k0 j∧x∈kK T k0 (j+1)
def rT (T:Gr) (k0:GK):CR:=(fun x=>x=k0,fun kp de x=>(de,x)∈QD T kp∧rN T k0 kp x)
def CameV (H:Hp) (T:CR) (met:List GK) (i:Nat) (p:qK):Prop:=(p.2.2=.non∧T.1 p.1)∨∃(t:Addr) (yp dv:V) (kp de:GK) (j:Nat),p.2.2=.ref t∧H t=some (.tup [yp,dv])∧(GV H kp).1 yp∧gd kp≤8∧(GV H de).1 dv∧gd de≤8∧j<i∧met[j]?=some kp∧T.2 kp de p.1
structure CameAt (w:World) (H:Hp) (d:Addr) (T:CR) (met:List GK):Prop where
 ex:∃kvs,H d=some (GO w d kvs)∧GOk H kvs∧kvs.map (·.1)=met∧∀(i:Nat) p,kvs[i]?=some p→CameV H T met i p
def rD (b:Addr) (H H':Hp):Prop:=∀a o,a≠b→H a=some o→H' a=some o
theorem CameV.keep {T:CR} {met':List GK} {p:qK} (h:CameV H T met i p) (hk:∀a l,H a=some (.tup l)→H' a=some (.tup l)) (hm:∀(j:Nat) x,met[j]?=some x→met'[j]?=some x):CameV H' T met' i p:=by
 rcases h with h|⟨t,yp,dv,kp,de,j,e1,e2,e3,e4,e5,e6,e7,e8,e9⟩
 ·exact .inl h
 ·exact .inr ⟨t,yp,dv,kp,de,j,e1,hk _ _ e2,(GV.keep hk kp).1 _ e3,e4,(GV.keep hk de).1 _ e5,e6,e7,hm _ _ e8,e9⟩
variable {w:World}
theorem CameAt.same {T:CR} (s:Same H H') (h:CameAt w H d T met):CameAt w H' d T met:=by
 obtain ⟨kvs,e1,g,e2,e3⟩:=h.ex
 exact ⟨kvs,s _ _ e1,dM s g,e2,fun i p hp=>(e3 i p hp).keep (fun a l e=>s _ _ e) fun _ _ e=>e⟩
theorem pC {l m:List α} {x:α} (h:l[j]?=some x):(l++m)[j]?=some x:=by rw [List.getElem?_append_left (List.getElem?_eq_some_iff.mp h).1];exact h
theorem CameAt.put {T:CR} {kp de:GK} {yp dv:V} (e1:H1 d=some (GO w d kvs)) (g:GOk H1 kvs) (e2:kvs.map (·.1)=met) (e3:∀(i:Nat) p,kvs[i]?=some p→CameV H1 T met i p) (hk:k∉met) (hy:(GV H1 k).1 y) (h8:gd k≤8) (ht:H1 t=some (.tup [yp,dv])) (hp:(GV H1 kp).1 yp) (hp8:gd kp≤8) (hd:(GV H1 de).1 dv) (hd8:gd de≤8) (hm:kp∈met) (ha:T.2 kp de k)
  (tk:∀a l,H1 a=some (.tup l)→H' a=some (.tup l)) (hd':H' d=some (GO w d (yF kvs k y (.ref t)))):CameAt w H' d T (met++[k]):=by
 have g2:=(g.set (v:=.ref t) hy h8).keep tk
 rw [MP (by rw [e2];exact hk)] at hd' g2
 refine ⟨_,hd',g2,by rw [List.map_append,e2];rfl,fun i p hp'=>?_⟩
 by_cases hi:i<kvs.length
 ·rw [List.getElem?_append_left hi] at hp'
  exact (e3 i p hp').keep tk fun _ _ e=>pC e
 ·rw [List.getElem?_append_right (by omega)] at hp'
  have hz:i - kvs.length=0:=by have:=(List.getElem?_eq_some_iff.mp hp').1;rw [List.length_singleton] at this;omega
  rw [hz] at hp'
  cases hp'
  obtain ⟨j,hj⟩:=List.mem_iff_getElem?.mp hm
  have hlt:=(List.getElem?_eq_some_iff.mp hj).1
  have hl:kvs.length=met.length:=by rw [← e2,List.length_map]
  exact .inr ⟨t,yp,dv,kp,de,j,rfl,tk _ _ ht,(GV.keep tk kp).1 _ hp,hp8,(GV.keep tk de).1 _ hd,hd8,by omega,pC hj,ha⟩
theorem fT {met:List GK} {x:GK}:∀(ps:List (GK×GK)) (acc:List GK),x∈acc→x∈vK met acc ps
 |[],_,h=>h
 |p::ps,acc,h=>fT ps _ (by unfold yN;split;exact h;exact List.mem_append_left _ h)
theorem nP {T:Gr} {met:List GK} {x:GK}:∀(lay acc:List GK),x∈acc→x∈qB T met acc lay
 |[],_,h=>h
 |k::lay,acc,h=>nP lay _ (fT _ _ h)
theorem KW {a b:List (GK×GK)}:vK met acc (a++b)=vK met (vK met acc a) b:=by unfold vK;rw [List.foldl_append]
theorem KY {T:Gr} {a b:List GK}:qB T met acc (a++b)=qB T met (qB T met acc a) b:=by unfold qB;rw [List.foldl_append]
theorem xL {T:Gr} {x:GK} (hk:lay[i]?=some k) (ha:QD T k=ps) (h:x∈vK met (qB T met [] (lay.take i)) (ps.take j)):x∈qB T met [] lay:=by
 have h1:x∈qB T met [] (lay.take (i+1)):=by
  rw [List.take_add_one,hk]
  show x∈qB T met [] (lay.take i++[k])
  rw [sX,ha,← List.take_append_drop j ps,KW]
  exact fT _ _ h
 rw [← List.take_append_drop (i+1) lay,KY]
 exact nP _ _ h1
theorem xF {T:Gr} {x:GK} {a b:Nat} (ha:x∈kK T k0 a) (hb:x∈kK T k0 b):a=b:=by
 have key:∀a b:Nat,a<b→x∈kK T k0 a→x∈kK T k0 b→False:=fun a b hab ha hb=>by
  obtain ⟨c,rfl⟩:∃c,b=c+1:=⟨b - 1,by omega⟩
  rw [dB] at hb
  have hn:=uM (T:=T) (k0:=k0) (c+1)
  rw [y6,List.nodup_append] at hn
  have hm:x∈(jS T k0 c).flatten:=by
   obtain ⟨e,rfl⟩:∃e,c=a+e:=⟨c - a,by omega⟩
   clear hn hb hab
   induction e with
   |zero=>exact dL ha
   |succ e ih=>rw [show a+(e+1)=(a+e)+1 by omega,y6];exact List.mem_append_left _ ih
  exact hn.2.2 x hm x hb rfl
 rcases Nat.lt_trichotomy a b with h|h|h
 ·exact (key a b h ha hb).elim
 ·exact h
 ·exact (key b a h hb ha).elim
def zW (T:Gr):GK→List GK→GK→Prop
 |a,[],c=>a=c
 |a,de::r,c=>∃b,(de,b)∈QD T a∧zW T b r c
theorem tT {met:List GK} {p:GK×GK}:∀(ps:List (GK×GK)) (acc:List GK),p∈ps→p.2∈met∨p.2∈vK met acc ps
 |q::ps,acc,h=>by
  rcases List.mem_cons.mp h with rfl|h
  ·by_cases hm:p.2∈met
   ·exact .inl hm
   ·refine .inr (fT ps _ ?_)
    unfold yN
    split
    ·rename_i z
     exact (List.mem_append.mp z).resolve_left hm
    ·exact List.mem_append_right _ (List.mem_singleton.mpr rfl)
  ·exact tT ps _ h
theorem tW {T:Gr} {met:List GK} {k:GK} {p:GK×GK} (hp:p∈T.1 k):∀(lay acc:List GK),k∈lay→p.2∈met∨p.2∈qB T met acc lay
 |j::lay,acc,h=>by
  rcases List.mem_cons.mp h with rfl|h
  ·rcases tT (met:=met) (T.1 k) acc hp with q|q
   ·exact .inl q
   ·exact .inr (nP lay _ q)
  ·exact tW hp lay _ h
theorem xM {T:Gr} {k0 x:GK} {i:Nat} (h:x∈(jS T k0 i).flatten):∀d,x∈(jS T k0 (i+d)).flatten
 |0=>h
 |d+1=>by rw [show i+(d+1)=(i+d)+1 by omega,y6];exact List.mem_append_left _ (xM h d)
theorem gP {T:Gr} {k0 x:GK}:∀i,x∈(jS T k0 i).flatten→∃j,j≤i∧x∈kK T k0 j
 |0,h=>⟨0,Nat.le_refl _,by simpa [jS,kK] using h⟩
 |i+1,h=>by
  rw [y6] at h
  rcases List.mem_append.mp h with h|h
  ·obtain ⟨j,hj,e⟩:=gP i h;exact ⟨j,by omega,e⟩
  ·exact ⟨i+1,Nat.le_refl _,by rw [dB];exact h⟩
theorem NU {T:Gr} {x:GK} (h:x∈(jS T k0 i).flatten) (hp:p∈T.1 x):p.2∈(jS T k0 (i+1)).flatten:=by
 obtain ⟨j,hj,hx⟩:=gP i h
 obtain ⟨d,rfl⟩:∃d,i=j+d:=⟨i - j,by omega⟩
 have:p.2∈(jS T k0 (j+1)).flatten:=by
  rw [y6]
  rcases tW (met:=(jS T k0 j).flatten) hp (kK T k0 j) [] hx with q|q
  ·exact List.mem_append_left _ q
  ·exact List.mem_append_right _ q
 rw [show j+d+1=(j+1)+d by omega]
 exact xM this d
theorem AQ {T:Gr} {k0:GK}:∀(r:List GK) (i:Nat) (x y:GK),x∈(jS T k0 i).flatten→zW T x r y→y∈(jS T k0 (i+r.length)).flatten
 |[],i,x,y,h,e=>by cases e;exact h
 |de::r,i,x,y,h,⟨b,hb,e⟩=>by
  have:=AQ r (i+1) b y (NU h hb) e
  rw [List.length_cons,show i+(r.length+1)=i+1+r.length by omega]
  exact this
theorem LN {T:Gr} {x:GK} (h:JU T k0 i=[]) (d:Nat):(jS T k0 (i+d)).flatten=(jS T k0 i).flatten:=by
 have key:∀d,JU T k0 (i+d)=[]∧(jS T k0 (i+d)).flatten=(jS T k0 i).flatten:=fun d=>by
  induction d with
  |zero=>exact ⟨h,rfl⟩
  |succ d ih =>
   refine ⟨?_,by rw [show i+(d+1)=(i+d)+1 by omega,y6,ih.1,List.append_nil];exact ih.2⟩
   show qB T _ [] (kK T k0 (i+d+1))=[]
   rw [dB,ih.1];rfl
 exact (key d).2
variable {M:GK→Bool}
theorem tK {T:Gr} {kf:GK} {r:List GK} {N:Nat} (hp:zW T k0 r kf) (hm:M kf=true) (hN:∀j,j<N→¬zA T M k0 j) (hS:zA T M k0 N):N≤r.length∧(kK T k0 N).any M=true:=by
 have h0:k0∈(jS T k0 0).flatten:=by simp [jS]
 have hin:=AQ r 0 k0 kf h0 hp
 rw [Nat.zero_add] at hin
 have mk:∀j,kf∈kK T k0 j→(kK T k0 j).any M=true:=fun j h=>List.any_eq_true.mpr ⟨kf,h,hm⟩
 have low:∀j,kf∈kK T k0 j→N≤j:=fun j h=>by
  by_cases c:N≤j
  ·exact c
  ·exact absurd (.inl (mk j h)) (hN j (by omega))
 obtain ⟨j,hj,hx⟩:=gP _ hin
 have hNj:=low j hx
 refine ⟨by omega,?_⟩
 rcases hS with h|h
 ·exact h
 ·obtain ⟨d,hlen⟩:∃d,r.length=N+d:=⟨r.length - N,by omega⟩
  rw [hlen,LN (x:=kf) h d] at hin
  obtain ⟨j',hj',hx'⟩:=gP _ hin
  have:=low j' hx'
  obtain rfl:j'=N:=by omega
  exact mk _ hx'
theorem w5 {α:Type} [DecidableEq α]:∀{l m:List α},l.Nodup→(∀x∈l,x∈m)→l.length≤m.length
 |[],_,_,_=>Nat.zero_le _
 |a::l,m,hn,hs=>by
  rw [List.nodup_cons] at hn
  have h1:=hs a List.mem_cons_self
  have ih:=w5 (l:=l) (m:=m.erase a) hn.2 (fun x hx=>(List.mem_erase_of_ne (fun e:x=a=>hn.1 (by rw [← e];exact hx))).mpr (hs x (List.mem_cons_of_mem _ hx)))
  rw [List.length_erase_of_mem h1] at ih
  have:0<m.length:=List.length_pos_of_mem h1
  rw [List.length_cons];omega
structure NextIn (R0:CR) (w:World) (H Hi:Hp) (dc r:Addr) (T:Gr) (met acc:List GK):Prop where
 keep:rD dc H Hi
 rn:H r=none
 nr:r≠dc
 row:∃ys,Hi r=some (.lst ys)∧KeysAt Hi ys acc
 came:CameAt w Hi dc R0 (met++acc)
 dom:∀x∈acc,T.2 x
theorem NextIn.put {R0:CR} {Hj:Hp} {dc r t2:Addr} {T:Gr} {pr:GK×GK} {x b c:V} (h:NextIn R0 w H Hj dc r T met acc) (e1:Hj dc=some (GO w dc kvs)) (g:GOk Hj kvs) (e2:kvs.map (·.1)=met++acc) (e3:∀(i:Nat) p,kvs[i]?=some p→CameV Hj R0 (met++acc) i p) (er:Hj r=some (.lst ys)) (hks:KeysAt Hj ys acc)
  (hn:pr.2∉met++acc) (ht:Hj t2=none) (hx:(GV Hj k).1 x) (hx8:gd k≤8) (hm:k∈met) (hb:(GV Hj pr.1).1 b) (hb8:gd pr.1≤8) (hc:(GV Hj pr.2).1 c) (hc8:gd pr.2≤8) (ha:R0.2 k pr.1 pr.2) (hd:T.2 pr.2) :
  NextIn R0 w H (upd (upd (upd Hj t2 (.tup [x,b])) dc (GO w dc (yF kvs pr.2 c (.ref t2)))) r (.lst (ys++[c]))) dc r T met (acc++[pr.2]):=by
 have u:=jI ht (.tup [x,b])
 have tk1:∀a l,upd Hj t2 (.tup [x,b]) a=some (.tup l)→upd (upd (upd Hj t2 (.tup [x,b])) dc (GO w dc (yF kvs pr.2 c (.ref t2)))) r (.lst (ys++[c])) a=some (.tup l):=fun a l e=>by
  rw [jL (fun z=>by rw [z,u _ _ er] at e;cases e),jL (fun z=>by rw [z,u _ _ e1] at e;cases e)];exact e
 have tk:∀a l,Hj a=some (.tup l)→upd (upd (upd Hj t2 (.tup [x,b])) dc (GO w dc (yF kvs pr.2 c (.ref t2)))) r (.lst (ys++[c])) a=some (.tup l):=fun a l e=>tk1 a l (u _ _ e)
 refine ⟨fun a o n e=>?_,h.rn,h.nr,⟨_,jE,hks.snoc tk hc hc8⟩,?_,fun y hy=>?_⟩
 ·rw [jL (q8 e h.rn),jL n];exact u _ _ (h.keep a o n e)
 ·have:=CameAt.put (H':=upd (upd (upd Hj t2 (.tup [x,b])) dc (GO w dc (yF kvs pr.2 c (.ref t2)))) r (.lst (ys++[c]))) (u _ _ e1) (dM u g) e2 (fun i p hp=>(e3 i p hp).keep (fun a l e=>u _ _ e) fun _ _ e=>e) hn (yC u hc) hc8 (show upd Hj t2 (.tup [x,b]) t2=_ from jE) (yC u hx) hx8 (yC u hb) hb8 (List.mem_append_left _ hm) ha
   tk1 (by rw [jL h.nr.symm,jE])
  rwa [List.append_assoc] at this
 ·rcases List.mem_append.mp hy with hy|hy
  ·exact h.dom y hy
  ·rw [List.mem_singleton.mp hy];exact hd
theorem MH (hn:xs.length=n+1) (h:xs[n]?=some v):qT xs (-1)=some v:=by
 have e:yX xs.length (-1)=some n:=by
  unfold yX
  rw [if_neg (by decide),if_pos (by omega)]
  congr 1
  omega
 unfold qT
 rw [e]
 exact h
structure LayersAt (H:Hp) (lr:Addr) (L:List (List GK)):Prop where
 ex:∃xs,H lr=some (.lst xs)∧xs.length=L.length∧∀(j:Nat) x,xs[j]?=some x→∃a ys lay,x=.ref a∧a≠lr∧L[j]?=some lay∧H a=some (.lst ys)∧KeysAt H ys lay
variable {lr:Addr}
theorem LayersAt.same {L:List (List GK)} (s:Same H H') (h:LayersAt H lr L):LayersAt H' lr L:=by
 obtain ⟨xs,e1,e2,e3⟩:=h.ex
 refine ⟨xs,s _ _ e1,e2,fun j x hx=>?_⟩
 obtain ⟨a,ys,lay,f1,f2,f3,f4,f5⟩:=e3 j x hx
 exact ⟨a,ys,lay,f1,f2,f3,s _ _ f4,f5.same s⟩
theorem LayersAt.keepB {dc:Addr} {L:List (List GK)} (s:rD dc H H') (hd:H dc=some (GO w dc kvs)) (h:LayersAt H lr L):LayersAt H' lr L:=by
 have any:∀a o,H a=some o→o≠GO w dc kvs→H' a=some o:=fun a o e n=>s a o (fun z=>n (by rw [z,hd] at e;cases e;rfl)) e
 obtain ⟨xs,e1,e2,e3⟩:=h.ex
 refine ⟨xs,any _ _ e1 (fun z=>by cases z),e2,fun j x hx=>?_⟩
 obtain ⟨a,ys,lay,f1,f2,f3,f4,f5⟩:=e3 j x hx
 exact ⟨a,ys,lay,f1,f2,f3,any _ _ f4 (fun z=>by cases z),f5.keep fun a l e=>any _ _ e (fun z=>by cases z)⟩
theorem LayersAt.put {r:Addr} {L:List (List GK)} (h:LayersAt H lr L) (e:H lr=some (.lst xs)) (hr:H r=some (.lst ys)) (hk:KeysAt H ys lay) (n:r≠lr):LayersAt (upd H lr (.lst (xs++[.ref r]))) lr (L++[lay]):=by
 obtain ⟨xs',e1,e2,e3⟩:=h.ex
 rw [e] at e1;cases e1
 have tk:∀a l,H a=some (.tup l)→upd H lr (.lst (xs++[.ref r])) a=some (.tup l):=fun a l e'=>by rw [jL (fun z=>by rw [z,e] at e';cases e')];exact e'
 refine ⟨_,jE,by rw [List.length_append,List.length_append,e2];rfl,fun j x hx=>?_⟩
 by_cases hj:j<xs.length
 ·rw [List.getElem?_append_left hj] at hx
  obtain ⟨a,zs,l2,f1,f2,f3,f4,f5⟩:=e3 j x hx
  exact ⟨a,zs,l2,f1,f2,pC f3,by rw [jL f2];exact f4,f5.keep tk⟩
 ·rw [List.getElem?_append_right (by omega)] at hx
  have hz:j - xs.length=0:=by have:=(List.getElem?_eq_some_iff.mp hx).1;rw [List.length_singleton] at this;omega
  rw [hz] at hx
  cases hx
  exact ⟨r,ys,lay,rfl,n,by rw [List.getElem?_append_right (by omega),← e2,hz];rfl,by rw [jL n];exact hr,hk.keep tk⟩
theorem LayersAt.last {T:Gr} (h:LayersAt H lr (jS T k0 i)):∃xs a ys,H lr=some (.lst xs)∧qT xs (-1)=some (.ref a)∧a≠lr∧H a=some (.lst ys)∧KeysAt H ys (kK T k0 i)∧xs.length=i+1:=by
 obtain ⟨xs,e1,e2,e3⟩:=h.ex
 rw [gJ] at e2
 have hx:xs[i]?=some (xs[i]'(by omega)):=List.getElem?_eq_getElem (by omega)
 obtain ⟨a,ys,lay,f1,f2,f3,f4,f5⟩:=e3 i _ hx
 rw [oS] at f3;cases f3
 exact ⟨xs,a,ys,e1,MH e2 (by rw [hx,f1]),f2,f4,f5,e2⟩
theorem NG {T:CR} (hz:T.1 k) (e:H d=some (GO w d [(k,y,.non)])) (hy:(GV H k).1 y) (h8:gd k≤8):CameAt w H d T [k]:=by
 refine ⟨_,e,⟨fun p hp=>?_,fun p hp=>?_,by simp⟩,rfl,fun i p hp=>?_⟩
 ·cases List.mem_singleton.mp hp;exact hy
 ·cases List.mem_singleton.mp hp;exact h8
 ·cases i with
  |zero=>cases hp;exact .inl ⟨rfl,hz⟩
  |succ i=>cases hp
theorem KP {l1:Addr} (e:H lr=some (.lst [.ref l1])) (e1:H l1=some (.lst [y])) (n:l1≠lr) (hy:(GV H k).1 y) (h8:gd k≤8):LayersAt H lr [[k]]:=by
 refine ⟨_,e,rfl,fun j x hx=>?_⟩
 cases j with
 |zero =>
  cases hx
  refine ⟨l1,[y],[k],rfl,n,rfl,e1,rfl,fun i z hz=>?_⟩
  cases i with
  |zero=>cases hz;exact ⟨k,rfl,hy,h8⟩
  |succ i=>cases hz
 |succ j=>cases hx
theorem MD {T:CR} (h:CameAt w H d T met) (e:H lr=some (.lst xs)):CameAt w (upd H lr o) d T met:=by
 obtain ⟨kvs,e1,g,e2,e3⟩:=h.ex
 have tk:∀a l,H a=some (.tup l)→upd H lr o a=some (.tup l):=fun a l e'=>by rw [jL (fun z=>by rw [z,e] at e';cases e')];exact e'
 exact ⟨kvs,by rw [jL (fun z=>by rw [z,e] at e1;cases e1)];exact e1,g.keep tk,e2,fun i p hp=>(e3 i p hp).keep tk fun _ _ e=>e⟩
theorem xZ {T:Gr} {N:Nat} (hN:∀j,j<N→¬zA T M k0 j) (hm:m+i=N) (h:zA T M k0 i):i=N:=by
 by_cases hi:i<N
 ·exact absurd h (hN i hi)
 ·omega
theorem gI {T:Gr} {M:GK→Bool} {k0:GK}:∀i,(∀j,j<i→¬zA T M k0 j)→i+1≤(jS T k0 i).flatten.length
 |0,_=>by simp [jS]
 |i+1,h=>by
  have ih:=gI i (fun j hj=>h j (by omega))
  rw [y6,List.length_append]
  have:0<(JU T k0 i).length:=List.length_pos_iff.mpr fun z=>h i (by omega) (.inr z)
  omega
theorem NI {l:List GK}:l.any M = !(l.filter M).isEmpty:=by
 induction l with
 |nil=>rfl
 |cons a l ih =>
  rw [List.any_cons,List.filter_cons]
  cases M a with
  |true=>rfl
  |false=>simpa using ih
theorem none_of (s:Same H H') (h:H' a=none):H a=none:=by
 cases e:H a with
 |none=>rfl
 |some o=>have:=s _ _ e;rw [h] at this;cases this
def wO (w:World):Sp:=fun vs H Q _=>∃(d:Addr) (y:V) (T:Gr) (met:List GK) (k k0:GK) (j0:Nat),vs=[.ref d,y]∧CameAt w H d (rT T k0) met∧met.length≤1000∧(GV H k).1 y∧gd k≤8∧k∈met∧k∈kK T k0 j0∧∀r xs des H',Same H H'→H r=none→H' r=some (.lst xs)→KeysAt H' xs des→zW T k0 des k→des.length=j0→Q (.ref r) H'
def CO (H:Hp) (d:Addr) (y:V) (r:Addr) (met:List GK) (T:Gr) (k k0:GK) (j0 m:Nat) (σ:St) (Hi:Hp):Prop:=∃sv xs rd c jc,σ=[some (.ref d),some y,some (.ref r),some sv]∧Same H Hi∧Hi r=some (.lst xs)∧KeysAt Hi xs rd∧rd.length+m≤1000∧zW T c rd.reverse k∧c∈kK T k0 jc∧rd.length+jc=j0∧
 ((sv=.non∧c=k0)∨∃t yp dv kp de j,sv=.ref t∧Hi t=some (.tup [yp,dv])∧(GV Hi kp).1 yp∧gd kp≤8∧(GV Hi de).1 dv∧gd de≤8∧(de,c)∈QD T kp∧rN T k0 kp c∧met[j]?=some kp∧j<m)
theorem KeysAt.rev (h:KeysAt H xs ks):KeysAt H xs.reverse ks.reverse:=⟨by rw [List.length_reverse,List.length_reverse,h.1],fun i x e=>by
  have hi:=(List.getElem?_eq_some_iff.mp e).1
  rw [List.length_reverse] at hi
  rw [List.getElem?_reverse hi] at e
  rw [List.getElem?_reverse (by rw [← h.1];exact hi),← h.1]
  exact h.2 _ x e⟩
def iS (spA:Addr→Sp) (H0:Hp) (f:Addr) (T:Gr):Prop:=∀(H:Hp) (y:V) (k:GK) (Q:VK) (E:XK),Same H0 H→T.2 k→(GV H k).1 y→(∀(r:Addr) (zs:List V) (H':Hp),Same H H'→H r=none→H' r=some (.lst zs)→QA H' zs (T.1 k)→Q (.ref r) H')→spA f [y] H Q E
def rQ (spE:Addr→Sp) (H0:Hp) (f:Addr) (T:Gr) (M:GK→Bool):Prop:=∀(H:Hp) (y:V) (k:GK) (Q:VK) (E:XK),Same H0 H→T.2 k→(GV H k).1 y→(∀H',Same H H'→Q (.bl (M k)) H')→spE f [y] H Q E
def x8 (w:World) (spA:Addr→Sp):Sp:=fun vs H Q _=>∃(l fa dc:Addr) (H0:Hp) (T:Gr) (xs:List V) (lay met:List GK) (R0:CR),vs=[.ref l,.ref fa,.ref dc]∧Same H0 H∧H0 dc=none∧iS spA H0 fa T∧bZ T∧(met++qB T met [] lay).length≤1000∧
 H l=some (.lst xs)∧KeysAt H xs lay∧(∀k∈lay,k∈met)∧(∀k∈met,T.2 k)∧CameAt w H dc R0 met∧(∀kp∈lay,∀p∈T.1 kp,p.2∈qB T met [] lay→R0.2 kp p.1 p.2)∧
 ∀r ys H',H r=none→r≠dc→rD dc H H'→H' r=some (.lst ys)→KeysAt H' ys (qB T met [] lay)→CameAt w H' dc R0 (met++qB T met [] lay)→Q (.ref r) H'
def tI (w:World) (spA spE:Addr→Sp) (eW:Addr):Sp:=fun vs H Q E=>∃(y:V) (fa fe:Addr) (most:Int) (T:Gr) (M:GK→Bool) (k0:GK) (N:Nat),vs=[y,.ref fa,.ref fe,.int most]∧
 iS spA H fa T∧rQ spE H fe T M∧bZ T∧(∀i,i≤N+1→(jS T k0 i).flatten.length≤1000)∧(GV H k0).1 y∧gd k0≤8∧T.2 k0∧(∀j,j<N→¬zA T M k0 j)∧(zA T M k0 N∨most<(((jS T k0 N).flatten.length:Nat):Int))∧
 ((((jS T k0 N).flatten.length:Nat):Int)≤most→(kK T k0 N).any M=true→∀t rr lr xs des kf H',Same H H'→H' t=some (.tup [.str "found",.ref rr,.ref lr])→H' rr=some (.lst xs)→KeysAt H' xs des→zW T k0 des kf→M kf=true→des.length=N→LayersAt H' lr (jS T k0 N)→H rr=none→H lr=none→H t=none→rr≠lr→Q (.ref t) H')∧
 ((((jS T k0 N).flatten.length:Nat):Int)≤most→(kK T k0 N).any M=false→∀t lr H',Same H H'→H' t=some (.tup [.str "closed",.ref lr])→LayersAt H' lr (jS T k0 N)→H lr=none→H t=none→Q (.ref t) H')∧
 (most<(((jS T k0 N).flatten.length:Nat):Int)→∀H',Same H H'→E (.ref eW) none H')
def C4 (w:World) (H:Hp) (y:V) (fa fe:Addr) (most:Int) (dc lr:Addr) (T:Gr) (k0:GK) (N m:Nat) (σ:St) (Hi:Hp):Prop:=∃i c6 c7,σ=[some y,some (.ref fa),some (.ref fe),some (.int most),some (.ref dc),some (.ref lr),c6,c7]∧m+i=N∧Same H Hi∧CameAt w Hi dc (rT T k0) (jS T k0 i).flatten∧LayersAt Hi lr (jS T k0 i)
def behind (T:Gr) (k de:GK):List GK:=((T.1 k).filter fun p=>decide (p.1=de)).map (·.2)
def v5 (T:Gr):GK→List GK→Option GK
 |k,[]=>some k
 |k,de::r=>match behind T k de with
  |[]=>none
  |k'::_=>v5 T k' r
def bM (T:Gr) (M:GK→Bool) (k:GK) (r:List GK):Bool:=match v5 T k r with
 |none=>false
 |some k'=>M k'
theorem oK (T:Gr):∀(a b:List GK) (k:GK),v5 T k (a++b)=(v5 T k a).bind fun k'=>v5 T k' b
 |[],b,k=>rfl
 |de::a,b,k=>by
  rw [List.cons_append,v5,v5]
  cases behind T k de with
  |nil=>rfl
  |cons k' r=>exact oK T a b k'
theorem LE {T:Gr} {ki de:GK} (hw:v5 T k (ks.take i)=some ki) (hd:ks[i]?=some de) (hb:behind T ki de=[]):v5 T k ks=none:=by
 obtain ⟨hlt,he⟩:=List.getElem?_eq_some_iff.mp hd
 have e:ks=ks.take i++de::ks.drop (i+1):=by rw [← he,← List.drop_eq_getElem_cons hlt,List.take_append_drop]
 rw [e,oK,hw]
 show v5 T ki (de::_)=none
 rw [v5,hb]
theorem LF {T:Gr} {ki de k':GK} {r:List GK} (hw:v5 T k (ks.take i)=some ki) (hd:ks[i]?=some de) (hb:behind T ki de=k'::r):v5 T k (ks.take (i+1))=some k':=by
 rw [List.take_add_one,hd,oK,hw]
 show v5 T ki [de]=some k'
 rw [v5,hb]
 rfl
def pG (H:Hp) (D:Addr) (caps:St) (R:Nat→List V→Hp→Prop) (i:Nat) (σ:St) (Hi:Hp):Prop:=∃ys c1 c2,σ=c1::c2::caps∧Same H Hi∧Hi D=some (.lst ys)∧ys.length≤i∧R i ys Hi
theorem K3 {D:Addr} {tc:TT} {te:TE} {caps:St} {Q:Hp→Prop} (R:Nat→List V→Hp→Prop) (hD:H D=none) (hS:SqL K H a xs) (h0:R 0 [] (upd H D (.lst [])))
  (hp:∀(i:Nat) x,xs[i]?=some x→∃t b c,x=.ref t∧H t=some (.tup [b,c]))
  (hs:∀i t b c ys Hi,xs[i]?=some (.ref t)→H t=some (.tup [b,c])→i<xs.length→ys.length≤i→Same H Hi→Hi D=some (.lst ys)→R i ys Hi→tc (some b::some c::caps) Hi fun z H4=>if z=true then te (some b::some c::caps) H4 fun v H5=>∃zs,H5 D=some (.lst zs)∧zs.length<sizeLine∧pG H D caps R (i+1) (some b::some c::caps) (upd H5 D (.lst (zs++[v])))
   else pG H D caps R (i+1) (some b::some c::caps) H4)
  (hd:∀ys Hf,Same H Hf→Hf D=some (.lst ys)→ys.length≤xs.length→R xs.length ys Hf→Q Hf):JE D (ZI K a) (rG K 2 (pZ (bT 0) (pZ (bT 1) CZ))) tc te (none::none::caps) H Q:=by
 refine ZL (xs:=xs) (pG H D caps R) ⟨[],none,none,rfl,qA hD (Same.refl H),jE,Nat.le_refl _,h0⟩ (fun i σ Hi _ ⟨_,_,_,_,s,_⟩=>s.seq hS) ?_ ?_
 ·rintro i x σ Hi hx ⟨ys,c1,c2,rfl,s,hY,hl,r⟩
  obtain ⟨t,b,c,rfl,et⟩:=hp i x hx
  exact ⟨t,[b,c],rfl,.inl (.inl (s _ _ et)),rfl,_,_,rfl,_,_,rfl,rfl,hs i t b c ys Hi hx et (List.getElem?_eq_some_iff.mp hx).1 hl s hY r⟩
 ·rintro σ Hf ⟨ys,c1,c2,rfl,s,hY,hl,r⟩
  exact hd ys Hf s hY hl r
def wT (spA spE:Addr→Sp) (K:W.Frag):Sp:=fun vs H Q _=>∃(y:V) (fa fe rl:Addr) (T:Gr) (M:GK→Bool) (k:GK) (row:List V) (ks:List GK),vs=[y,.ref fa,.ref fe,.ref rl]∧
 iS spA H fa T∧rQ spE H fe T M∧bZ T∧(∀k,(T.1 k).length≤900)∧(GV H k).1 y∧T.2 k∧H rl=some (.lst row)∧KeysAt H row ks∧row.length≤900∧∀H',Same H H'→Q (.bl (bM T M k ks)) H'
def vL:List Int→GK
 |[]=>.nil
 |n::r=>.cons (.i n) (vL r)
def kD (s:vB):GK:=.cons (.i s.1) (.cons (vL s.2.1) (.cons (vL (s.2.2.map fun (p:Nat)=>(p:Int))) .nil))
def zF:Deed→GK
 |.pass b=>.cons (.s "pass") (.cons (.i (b:Int)) .nil)
 |.let k=>.cons (.s "let") (.cons (.i (k:Int)) .nil)
 |.night=>.cons (.s "night") .nil
theorem xK {H:Hp}:∀ms:List Int,(GV H (vL ms)).2 (ms.map V.int)
 |[]=>rfl
 |n::r=>⟨_,_,rfl,rfl,xK r⟩
theorem AT (h:H t=some (.tup (ms.map V.int))):(GV H (vL ms)).1 (.ref t):=by
 cases ms with
 |nil=>exact ⟨t,rfl,h⟩
 |cons n r=>exact ⟨t,_,rfl,h,_,_,rfl,rfl,xK r⟩
theorem pD:∀ms:List Int,gd (vL ms)≤2
 |[]=>by show 1≤2;omega
 |n::r=>by
  show max (1+1) (gd (vL r))≤2
  have:=pD r
  omega
theorem CM (s:vB):gd (kD s)≤8:=by
 show max (1+1) (max (gd (vL s.2.1)+1) (max (gd (vL _)+1) 1))≤8
 have:=pD s.2.1
 have:=pD (s.2.2.map fun (p:Nat)=>(p:Int))
 omega
theorem R6 (de:Deed):gd (zF de)≤8:=by cases de<;>(show _≤_;simp [zF,gd])
theorem pX {s:vB} (h:StAt H t s.1 s.2.1 s.2.2):(GV H (kD s)).1 (.ref t):=by
 obtain ⟨wt,pt,h1,h2,h3⟩:=h
 refine ⟨t,_,rfl,h1,_,_,rfl,rfl,_,_,rfl,AT h2,_,_,rfl,AT ?_,rfl⟩
 rw [List.map_map];exact h3
theorem R5 (h:H t=some (.tup (Q8 de))):(GV H (zF de)).1 (.ref t):=by
 cases de with
 |pass b=>exact ⟨t,_,rfl,h,_,_,rfl,rfl,_,_,rfl,rfl,rfl⟩
 |«let» k=>exact ⟨t,_,rfl,h,_,_,rfl,rfl,_,_,rfl,rfl,rfl⟩
 |night=>exact ⟨t,_,rfl,h,_,_,rfl,rfl,rfl⟩
noncomputable def JQ (R:List RC) (L:List LC) (N:List (List (Int×Int))) (ys:List j4) (s:vB) (ds:List Deed):List (GK×GK):=ds.map fun de=>(zF de,kD (zV R L N ys s de))
def JO (ck:Kd→Addr) (cR cN:Addr):List Addr→List V→Sp:=fun cs fvs vs H Q _=>∃(x wl st:Addr) (H0:Hp) (us:List V) (ys:List j4) (d:Int) (ms:List Int) (pl:List Nat) (D:List Addr) (R:List RC) (L:List LC) (N:List (List (Int×Int))),fvs=[.ref wl,.ref x]∧vs=[.ref st]∧Same H0 H∧(∀c∈cs,H0 c=none)∧CnAt ck cR cN D H0 x R L N∧Drawn R L N∧H0 wl=some (.lst us)∧AllAt (WyAt H0) us ys∧StAt H st d ms pl∧Fleet L ys pl∧ms.length=R.length+2*L.length+2∧0≤d∧
 ∀(r:Addr) (zs:List V) (H':Hp),Same H H'→H r=none→H' r=some (.lst zs)→QA H' zs (JQ R L N ys (d,ms,pl) (zL R L N.length ys d ms pl))→Q (.ref r) H'
theorem oE:∀{a b:List Int},vL a=vL b→a=b
 |[],[],_=>rfl
 |[],y::b,h=>by
  have h:GK.nil=GK.cons (.i y) (vL b):=h
  cases h
 |x::a,[],h=>by
  have h:GK.cons (.i x) (vL a)=GK.nil:=h
  cases h
 |x::a,y::b,h=>by
  have h:GK.cons (.i x) (vL a)=GK.cons (.i y) (vL b):=h
  injection h with h1 h2
  injection h1 with h1
  rw [h1,oE h2]
theorem xC:∀{a b:List Nat},(a.map fun (p:Nat)=>(p:Int))=(b.map fun (p:Nat)=>(p:Int))→a=b
 |[],[],_=>rfl
 |[],y::b,h=>by cases h
 |x::a,[],h=>by cases h
 |x::a,y::b,h=>by
  rw [List.map_cons,List.map_cons] at h
  injection h with h1 h2
  rw [xC h2,show x=y by omega]
theorem NV {s t:vB} (h:kD s=kD t):s=t:=by
 obtain ⟨d,ms,pl⟩:=s
 obtain ⟨d',ms',pl'⟩:=t
 have h:GK.cons (.i d) (.cons (vL ms) (.cons (vL (pl.map fun (p:Nat)=>(p:Int))) .nil))=GK.cons (.i d') (.cons (vL ms') (.cons (vL (pl'.map fun (p:Nat)=>(p:Int))) .nil)):=h
 injection h with h1 h2
 injection h1 with h1
 injection h2 with h2 h3
 injection h3 with h3 _
 rw [h1,oE h2,xC (oE h3)]
theorem QV {a b:Str} {x y:GK} (h:GK.cons (.s a) x=GK.cons (.s b) y):a=b∧x=y:=by
 injection h with h1 h2
 injection h1 with h1
 exact ⟨h1,h2⟩
theorem BC {a b:Int} {x y:GK} (h:GK.cons (.i a) x=GK.cons (.i b) y):a=b:=by
 injection h with h1 h2
 injection h1 with h1
theorem OU {a b:Deed} (h:zF a=zF b):a=b:=by
 cases a with
 |pass i =>
  cases b with
  |pass j=>have e:=BC (QV h).2;rw [show i=j by omega]
  |«let» j=>exact absurd (QV h).1 (by decide +kernel)
  |night=>exact absurd (QV h).1 (by decide +kernel)
 |«let» i =>
  cases b with
  |pass j=>exact absurd (QV h).1 (by decide +kernel)
  |«let» j=>have e:=BC (QV h).2;rw [show i=j by omega]
  |night=>exact absurd (QV h).1 (by decide +kernel)
 |night =>
  cases b with
  |pass j=>exact absurd (QV h).1 (by decide +kernel)
  |«let» j=>exact absurd (QV h).1 (by decide +kernel)
  |night=>rfl
noncomputable def zX (k:GK):vB:=open Classical in if h:∃s,k=kD s then Classical.choose h else (0,[],[])
theorem x0 (s:vB):zX (kD s)=s:=by
 have h:∃t,kD s=kD t:=⟨s,rfl⟩
 unfold zX
 rw [dif_pos h]
 exact (NV (Classical.choose_spec h)).symm
def bX (R:List RC) (L:List LC) (ys:List j4) (s:vB):Prop:=0≤s.1∧Fleet L ys s.2.2∧s.2.1.length=R.length+2*L.length+2
noncomputable def kR (R:List RC) (L:List LC) (N:List (List (Int×Int))) (ys:List j4):Gr:=(fun k=>JQ R L N ys (zX k) (zL R L N.length ys (zX k).1 (zX k).2.1 (zX k).2.2),fun k=>∃s,k=kD s∧bX R L ys s)
noncomputable def vN (ys:List j4) (k:GK):Bool:=decide (eB ys (zX k).2.2=0)
section
variable {R:List RC} {L:List LC} {N:List (List (Int×Int))} {ys:List j4}
theorem pN (s:vB):(kR R L N ys).1 (kD s)=JQ R L N ys s (zL R L N.length ys s.1 s.2.1 s.2.2):=by
 show JQ R L N ys (zX (kD s)) (zL R L N.length ys (zX (kD s)).1 (zX (kD s)).2.1 (zX (kD s)).2.2)=_
 rw [x0]
theorem B3 (s:vB):vN ys (kD s)=decide (eB ys s.2.2=0):=by
 unfold vN
 rw [x0]
theorem gX {s:vB} {p:GK×GK} (h:p∈(kR R L N ys).1 (kD s)):∃de,p=(zF de,kD (zV R L N ys s de))∧de∈yR ys.length L.length∧qY R L N.length ys s.1 s.2.1 s.2.2 de="":=by
 rw [pN] at h
 obtain ⟨de,hd,rfl⟩:=List.mem_map.mp h
 exact ⟨de,rfl,(List.mem_filter.mp hd).1,of_decide_eq_true (List.mem_filter.mp hd).2⟩
theorem PX {s:vB} {de:Deed} (hin:de∈yR ys.length L.length) (hw:qY R L N.length ys s.1 s.2.1 s.2.2 de=""):(zF de,kD (zV R L N ys s de))∈(kR R L N ys).1 (kD s):=by
 rw [pN]
 exact List.mem_map.mpr ⟨de,List.mem_filter.mpr ⟨hin,decide_eq_true hw⟩,rfl⟩
theorem AU (k:GK):((kR R L N ys).1 k).length≤ys.length+L.length+1:=by
 have h:∀s:vB,(JQ R L N ys s (zL R L N.length ys s.1 s.2.1 s.2.2)).length≤ys.length+L.length+1:=fun s=>by
  unfold JQ
  rw [List.length_map]
  have h1:=List.length_filter_le (fun de=>decide (qY R L N.length ys s.1 s.2.1 s.2.2 de="")) (yR ys.length L.length)
  rw [nH] at h1
  exact h1
 exact h (zX k)
theorem pJ {ms:List Int} (hd:Drawn R L N) (hm:ms.length=R.length+2*L.length+2):∃gs,Spl (kI R L.length) ms gs:=KA (gH (cV (m:=L.length) (JN hd))) (by rw [y0];omega) (by rw [hm];exact gD (JN hd))
theorem P5 {d:Int} (h:0≤d) (de:Deed):0≤Z1 d de:=by
 cases de with
 |night=>show 0≤d+1;omega
 |«let» j=>exact h
 |pass b=>exact h
theorem xB {s:vB} {de:Deed} (hd:Drawn R L N) (h:bX R L ys s) (hw:qY R L N.length ys s.1 s.2.1 s.2.2 de=""):bX R L ys (zV R L N ys s de):=by
 obtain ⟨h1,h2,h3⟩:=h
 obtain ⟨gs,hS⟩:=pJ (ms:=j3 s.2.1 (vV R L N ys s.1 s.2.1 s.2.2 de)) hd (by rw [vG];exact h3)
 rw [gW hd h3 hS]
 exact ⟨P5 h1 de,NA h2 hw,by show (j3 _ _).length=_;rw [vG];exact h3⟩
theorem CI (hd:Drawn R L N):bZ (kR R L N ys):=by
 rintro k p ⟨s,rfl,hs⟩ hp
 obtain ⟨de,rfl,hin,hw⟩:=gX hp
 exact ⟨_,rfl,xB hd hs hw⟩
def rJ (R:List RC) (L:List LC) (s s':vB):Prop:=s'.1=s.1∧s'.2.2=s.2.2∧Wet R L s.2.1 s'.2.1
theorem MK {s s':vB} {de:Deed} (hd:Drawn R L N) (h:bX R L ys s) (hW:rJ R L s s') (hin:de∈yR ys.length L.length) (hw:qY R L N.length ys s.1 s.2.1 s.2.2 de=""):qY R L N.length ys s'.1 s'.2.1 s'.2.2 de=""∧rJ R L (zV R L N ys s de) (zV R L N ys s' de):=by
 obtain ⟨d,ms,pl⟩:=s
 obtain ⟨d',ms',pl'⟩:=s'
 obtain ⟨e1,e2,hW⟩:=hW
 have e1:d'=d:=e1
 have e2:pl'=pl:=e2
 subst e1 e2
 have hW:Wet R L ms ms':=hW
 obtain ⟨_,_,hm⟩:=h
 have hm:ms.length=R.length+2*L.length+2:=hm
 have hm':ms'.length=R.length+2*L.length+2:=by rw [hW.len];exact hm
 obtain ⟨gs,hS⟩:=pJ (ms:=j3 ms (vV R L N ys d' ms pl' de)) hd (by rw [vG];exact hm)
 obtain ⟨gs',hS'⟩:=pJ (ms:=j3 ms' (vV R L N ys d' ms' pl' de)) hd (by rw [vG];exact hm')
 refine ⟨NO hd hm hW (nQ hin) hw,?_⟩
 rw [gW (s:=(d',ms,pl')) hd hm hS,gW (s:=(d',ms',pl')) hd hm' hS']
 refine ⟨rfl,rfl,?_⟩
 show Wet R L (j3 ms (yT R L N ys d' ms pl' de gs)) (j3 ms' (yT R L N ys d' ms' pl' de gs'))
 by_cases hn:de=.night
 ·subst hn
  unfold yT
  rw [fQ,fQ]
  exact sZ hd (by rw [vG];exact hm) (LB hm hW (W:=N.getD d'.toNat []) (fun i _=>⟨Int.le_refl _,Int.le_refl _⟩)) hS hS'
 ·exact NP hd hm hW hn hS hS'
theorem wF (hd:Drawn R L N):∀(r:List GK) (s s':vB) (kf:GK),bX R L ys s→rJ R L s s'→zW (kR R L N ys) (kD s) r kf→vN ys kf=true→∃kf',zW (kR R L N ys) (kD s') r kf'∧vN ys kf'=true
 |[],s,s',kf,h,hW,e,hm=>⟨kD s',rfl,by
  have e:kD s=kf:=e
  subst e
  rw [B3] at hm ⊢
  rw [hW.2.1]
  exact hm⟩
 |de::r,s,s',kf,h,hW,⟨b,hb,e⟩,hm=>by
  obtain ⟨dd,eq,hin,hw⟩:=gX hb
  cases eq
  obtain ⟨hw',hW'⟩:=MK hd h hW hin hw
  obtain ⟨kf',hp,hm'⟩:=wF hd r _ _ kf (xB hd h hw) hW' e hm
  exact ⟨kf',⟨_,PX hin hw',hp⟩,hm'⟩
theorem uP:∀(r:List GK) (s:vB) (kf:GK),zW (kR R L N ys) (kD s) r kf→v5 (kR R L N ys) (kD s) r=some kf
 |[],s,kf,e=>by
  have e:kD s=kf:=e
  subst e
  rfl
 |de::r,s,kf,⟨b,hb,e⟩=>by
  obtain ⟨dd,eq,hin,hw⟩:=gX hb
  cases eq
  have hm:kD (zV R L N ys s dd)∈behind (kR R L N ys) (kD s) (zF dd):=List.mem_map.mpr ⟨_,List.mem_filter.mpr ⟨hb,decide_eq_true rfl⟩,rfl⟩
  have hall:∀x∈behind (kR R L N ys) (kD s) (zF dd),x=kD (zV R L N ys s dd):=fun x hx=>by
   obtain ⟨p,hp,rfl⟩:=List.mem_map.mp hx
   obtain ⟨hp1,hp2⟩:=List.mem_filter.mp hp
   obtain ⟨d2,rfl,_,_⟩:=gX hp1
   have hp2:zF d2=zF dd:=of_decide_eq_true hp2
   rw [OU hp2]
  rw [v5]
  cases hb2:behind (kR R L N ys) (kD s) (zF dd) with
  |nil=>rw [hb2] at hm;cases hm
  |cons x l =>
   have hx:=hall x (by rw [hb2];exact List.mem_cons_self)
   subst hx
   exact uP r _ kf e
theorem KH {r:List GK} {s:vB} {kf:GK} (h:zW (kR R L N ys) (kD s) r kf) (hm:vN ys kf=true):bM (kR R L N ys) (vN ys) (kD s) r=true:=by
 unfold bM
 rw [uP r s kf h]
 exact hm
end
theorem tS {met:List GK}:∀(ps:List (GK×GK)) (acc:List GK),(vK met acc ps).length≤acc.length+ps.length
 |[],acc=>Nat.le_refl _
 |p::ps,acc=>by
  have h:=tS (met:=met) ps (yN met acc p)
  have h2:(yN met acc p).length≤acc.length+1:=by
   unfold yN
   split
   ·omega
   ·rw [List.length_append];exact Nat.le_refl _
  show (vK met (yN met acc p) ps).length≤acc.length+(ps.length+1)
  omega
theorem tV {T:Gr} {met:List GK} {m:Nat} (hm:∀k,(T.1 k).length≤m):∀(lay acc:List GK),(qB T met acc lay).length≤acc.length+lay.length*m
 |[],acc=>by rw [List.length_nil,Nat.zero_mul];exact Nat.le_refl _
 |k::lay,acc=>by
  have h:=tV (T:=T) (met:=met) hm lay (vK met acc (T.1 k))
  have h1:=tS (met:=met) (T.1 k) acc
  have h2:=hm k
  show (qB T met (vK met acc (T.1 k)) lay).length≤_
  rw [List.length_cons,Nat.succ_mul]
  omega
theorem M5 {T:Gr}:∀i,(kK T k0 i).length≤(jS T k0 i).flatten.length
 |0=>by simp [kK,jS]
 |i+1=>by rw [dB,y6,List.length_append];omega
theorem oH {T:Gr} (hm:∀k,(T.1 k).length≤m) (i:Nat):(jS T k0 (i+1)).flatten.length≤(jS T k0 i).flatten.length*(m+1):=by
 have h:=tV (T:=T) (met:=(jS T k0 i).flatten) hm (kK T k0 i) []
 have h2:=Nat.mul_le_mul_right m (M5 (T:=T) (k0:=k0) i)
 rw [y6,List.length_append,Nat.mul_succ]
 have h3:(JU T k0 i).length≤0+(kK T k0 i).length*m:=h
 omega
theorem NC {P:Nat→Prop} (n:Nat) (h:P n):∃N,P N∧∀j,j<N→¬P j:=by
 have key:∀n,(∃N,P N∧∀j,j<N→¬P j)∨∀j,j<n→¬P j:=fun n=>by
  induction n with
  |zero=>exact .inr fun j hj=>absurd hj (Nat.not_lt_zero _)
  |succ n ih =>
   rcases ih with ih|ih
   ·exact .inl ih
   ·rcases Classical.em (P n) with hp|hp
    ·exact .inl ⟨n,hp,ih⟩
    ·refine .inr fun j hj=>?_
     rcases Nat.lt_or_eq_of_le (Nat.le_of_lt_succ hj) with h|h
     ·exact ih j h
     ·rw [h];exact hp
 rcases key (n+1) with h1|h1
 ·exact h1
 ·exact absurd h (h1 n (Nat.lt_succ_self _))
theorem LZ {T:Gr} (hm:∀k,(T.1 k).length≤5):∃N,(∀j,j<N→¬zA T M k0 j)∧(zA T M k0 N∨(16:Int)<(((jS T k0 N).flatten.length:Nat):Int))∧∀i,i≤N+1→(jS T k0 i).flatten.length≤1000:=by
 have h16:∃n,zA T M k0 n∨(16:Int)<(((jS T k0 n).flatten.length:Nat):Int):=by
  rcases Classical.em (∃n,n<16∧zA T M k0 n) with ⟨n,_,h⟩|h
  ·exact ⟨n,.inl h⟩
  ·have:=gI (T:=T) (M:=M) (k0:=k0) 16 fun j hj hs=>h ⟨j,hj,hs⟩
   exact ⟨16,.inr (by omega)⟩
 obtain ⟨n,hn⟩:=h16
 obtain ⟨N,hN,hlow⟩:=NC (P:=fun n=>zA T M k0 n∨(16:Int)<(((jS T k0 n).flatten.length:Nat):Int)) n hn
 refine ⟨N,fun j hj hs=>hlow j hj (.inl hs),hN,fun i hi=>?_⟩
 have top:(jS T k0 (N+1)).flatten.length≤1000:=by
  cases N with
  |zero =>
   have h1:=oH (T:=T) (k0:=k0) hm 0
   have h0:(jS T k0 0).flatten.length=1:=by simp [jS]
   omega
  |succ m =>
   have h1:=oH (T:=T) (k0:=k0) hm m
   have h2:=oH (T:=T) (k0:=k0) hm (m+1)
   have h3:¬((16:Int)<(((jS T k0 m).flatten.length:Nat):Int)):=fun z=>hlow m (Nat.lt_succ_self _) (.inr z)
   omega
 obtain ⟨e,he⟩:∃e,N+1=i+e:=⟨N+1 - i,by omega⟩
 have:=oG (T:=T) (k0:=k0) (i:=i) e
 rw [← he] at this
 omega
def noT (H:Hp):Hp:=fun b=>match H b with
 |some (.tbl _)=>none
 |o=>o
theorem qJ (e:H b=some o) (n:∀q,o≠.tbl q):noT H b=some o:=by
 unfold noT
 rw [e]
 cases o with
 |tbl q=>exact absurd rfl (n q)
 |_=>rfl
theorem Q0 (e:noT H b=some o):H b=some o∧∀q,o≠.tbl q:=by
 unfold noT at e
 cases h:H b with
 |none=>rw [h] at e;cases e
 |some u =>
  rw [h] at e
  cases u with
  |tbl q=>cases e
  |_=>cases e;exact ⟨rfl,fun q z=>nomatch z⟩
theorem w9 (h:H b=none):noT H b=none:=by unfold noT;rw [h]
theorem w8 (s:Same H H'):Same (noT H) H':=fun b o e=>s b o (Q0 e).1
theorem n5 (s:Same (noT H) H1) (s':Same (noT H1) H'):Same (noT H) H':=fun b o e=>s' b o (qJ (s b o e) (Q0 e).2)
theorem gM {q:Array Value} (h:H t=some (.tbl q)) (k:∀b o,H b=some o→b≠t→H' b=some o):Same (noT H) H':=fun b o e=>by
 obtain ⟨e1,e2⟩:=Q0 e
 exact k b o e1 fun z=>by rw [z,h] at e1;cases e1;exact e2 _ rfl
theorem RcO.noT (v:V) (r:RC):RcO cR H v r→RcO cR (noT H) v r:=fun ⟨x,h1,dx,fs,h2,h3⟩=>⟨x,h1,dx,fs,qJ h2 (fun _ z=>nomatch z),h3⟩
theorem LkO.noT (v:V) (l:LC):LkO cs H v l→LkO cs (noT H) v l:=fun ⟨x,h1,dx,h2⟩=>⟨x,h1,dx,qJ h2 (fun _ z=>nomatch z)⟩
theorem QAt.noT (v:V) (p:Int×Int):QAt H v p→QAt (noT H) v p:=fun ⟨t,h1,h2⟩=>⟨t,h1,qJ h2 (fun _ z=>nomatch z)⟩
theorem NAt.noT (v:V) (p:List (Int×Int)):NAt D H v p→NAt D (noT H) v p:=fun ⟨l,qs,h1,h2,h3,h4⟩=>⟨l,qs,h1,qJ h2 (fun _ z=>nomatch z),h3.mono QAt.noT,h4⟩
theorem CnAt.noT (h:CnAt cs cR cN D H x R L N):CnAt cs cR cN D (noT H) x R L N:=by
 obtain ⟨dx,rl,ll,nl,fs,rs,ls,ns,h1,h2,h3,h4,h5,h6,h7,h8,h9⟩:=h
 exact ⟨dx,rl,ll,nl,fs,rs,ls,ns,qJ h1 (fun _ z=>nomatch z),h2,qJ h3 (fun _ z=>nomatch z),qJ h4 (fun _ z=>nomatch z),qJ h5 (fun _ z=>nomatch z),h6.mono RcO.noT,h7.mono LkO.noT,h8.mono NAt.noT,h9⟩
theorem PAt.noT (v:V) (p:Nat×Bool):PAt H v p→PAt (noT H) v p:=fun ⟨t,h1,h2⟩=>⟨t,h1,qJ h2 (fun _ z=>nomatch z)⟩
theorem WyAt.noT (v:V) (y:j4):WyAt H v y→WyAt (noT H) v y:=fun ⟨t,st,us,h1,h2,h3,h4⟩=>⟨t,st,us,h1,qJ h2 (fun _ z=>nomatch z),qJ h3 (fun _ z=>nomatch z),h4.mono PAt.noT⟩
theorem StAt.noT {d:Int} (h:StAt H t d ms pl):StAt (noT H) t d ms pl:=by
 obtain ⟨wt,pt,h1,h2,h3⟩:=h
 exact ⟨wt,pt,qJ h1 (fun _ z=>nomatch z),qJ h2 (fun _ z=>nomatch z),qJ h3 (fun _ z=>nomatch z)⟩
theorem Stage.noT {ys:List j4} {d:Int} (h:Stage cs cR cN D H x wl st us R L N ys d ms pl):Stage cs cR cN D (noT H) x wl st us R L N ys d ms pl:=⟨h.cn.noT,h.dr,qJ h.wls (fun _ z=>nomatch z),h.wys.mono WyAt.noT,h.sts.noT,h.fl,h.ml⟩
theorem o4 (h:SqL K H a xs):SqL K (noT H) a xs:=by
 rcases h with (h|⟨o,h⟩)|h
 ·exact .inl (.inl (qJ h (fun _ z=>nomatch z)))
 ·exact .inl (.inr ⟨o,qJ h (fun _ z=>nomatch z)⟩)
 ·exact .inr h
theorem KeysAt.noT (h:KeysAt H xs ks):KeysAt (noT H) xs ks:=h.keep fun a l e=>qJ e (fun _ z=>nomatch z)
variable {q:Str}
theorem sV {T:Addr} (s:Same H H') (h:JS H T pos q):JS H' T pos q:=by
 rcases h with h|⟨c,oc,vs,t,h1,h2,h3,h4⟩
 ·exact .inl (s _ _ h)
 ·exact .inr ⟨c,oc,vs,t,s _ _ h1,s _ _ h2,h3,h4⟩
theorem fX {T:Addr} (h:JS H T pos q):∃z,H T=some (.tbl z):=by
 rcases h with h|⟨c,oc,vs,t,h1,h2,h3,h4⟩
 ·exact ⟨_,h⟩
 ·exact ⟨_,h1⟩
theorem fR {T T':Addr} {z:Array Value} (n:T≠T') (h':H T'=some (.tbl z)) (k:∀b o,H b=some o→b≠T'→H' b=some o) (h:JS H T pos q):JS H' T pos q:=by
 rcases h with h|⟨c,oc,vs,t,h1,h2,h3,h4⟩
 ·exact .inl (k _ _ h n)
 ·exact .inr ⟨c,oc,vs,t,k _ _ h1 n,k _ _ h2 (fun e=>by rw [e,h'] at h2;cases h2),h3,h4⟩
variable {f:Addr} {cl:List (Str×Addr)} {cdv:Value}
theorem uU {qual:Str} {params:Arguments} {body:Expr} {scope:Scope} (h:LamAt H f qual params body scope cl cdv):LamAt (noT H) f qual params body scope cl cdv:=by
 obtain ⟨⟨fo,name,pm,ct,h1,h2⟩,⟨c,oc,vs,t,h3,h4,h5,h6⟩⟩:=h
 exact ⟨⟨fo,name,pm,ct,qJ h1 (fun _ z=>nomatch z),h2⟩,⟨c,oc,vs,t,h3,qJ h4 (fun _ z=>nomatch z),h5,h6⟩⟩
theorem fY {qual:Str} {params:Arguments} {body:Expr} {scope:Scope} (s:Same H H') (h:LamAt H f qual params body scope cl cdv):LamAt H' f qual params body scope cl cdv:=by
 obtain ⟨⟨fo,name,pm,ct,h1,h2⟩,⟨c,oc,vs,t,h3,h4,h5,h6⟩⟩:=h
 exact ⟨⟨fo,name,pm,ct,s _ _ h1,h2⟩,⟨c,oc,vs,t,h3,s _ _ h4,h5,h6⟩⟩
theorem sY {fvs:List V} (h:CellsAt H cl fvs):CellsAt (noT H) cl fvs:=⟨h.once,h.len,fun i x c v h1 h2=>by
 obtain ⟨o,u,e1,e2⟩:=h.cell i x c v h1 h2
 exact ⟨o,u,qJ e1 (fun _ z=>nomatch z),e2⟩⟩
theorem fP {fvs:List V} (s:Same H H') (h:CellsAt H cl fvs):CellsAt H' cl fvs:=⟨h.once,h.len,fun i x c v h1 h2=>by
 obtain ⟨o,u,e1,e2⟩:=h.cell i x c v h1 h2
 exact ⟨o,u,s _ _ e1,e2⟩⟩
theorem xH {H:Hp}:∀(ms:List Int) (xs:List V),(GV H (vL ms)).2 xs→xs=ms.map V.int
 |[],xs,h=>h
 |n::r,xs,h=>by
  obtain ⟨a,b,rfl,e1,e2⟩:=h
  have e1:a=.int n:=e1
  rw [e1,xH r b e2]
  rfl
theorem AS (h:(GV H (vL ms)).1 y):∃t,y=.ref t∧H t=some (.tup (ms.map V.int)):=by
 cases ms with
 |nil =>
  obtain ⟨t,rfl,h⟩:=h
  exact ⟨t,rfl,h⟩
 |cons n r =>
  obtain ⟨t,xs,rfl,h1,h2⟩:=h
  exact ⟨t,rfl,by rw [h1,xH (n::r) xs h2]⟩
theorem CF {s:vB} (h:(GV H (kD s)).1 y):∃t,y=.ref t∧StAt H t s.1 s.2.1 s.2.2:=by
 obtain ⟨t,xs,rfl,h1,a,b,rfl,e1,a2,b2,rfl,e2,a3,b3,rfl,e3,e4⟩:=h
 have e1:a=.int s.1:=e1
 have e4:b3=[]:=e4
 obtain ⟨w,rfl,hw⟩:=AS e2
 obtain ⟨p,rfl,hp⟩:=AS e3
 subst e1 e4
 refine ⟨t,rfl,w,p,h1,hw,?_⟩
 rw [hp,List.map_map]
 rfl
structure Tabs (H:Hp) (tA tH:Addr) (pA pH:Pos):Prop where
 ne:tA≠tH
 a:JS H tA pA "ahead_on.<locals>.<lambda>"
 h:JS H tH pH "homecoming.<locals>.<lambda>"
variable {tA tH:Addr}
theorem Tabs.same {pA pH:Pos} (s:Same H H') (h:Tabs H tA tH pA pH):Tabs H' tA tH pA pH:=⟨h.ne,sV s h.a,sV s h.h⟩
theorem B9 {ck:Kd→Addr} {lp:Arguments} {lb:Expr} {ls:Scope} {Hm:Hp} {ys:List j4} {d:Int} (hG:Stage ck cR cN D H0 x wl st us R L N ys d ms pl) (s0:Same H0 Hm) (hc:∀c∈cl.map (·.2),H0 c=none) (hL:LamAt Hm f "ahead_on.<locals>.<lambda>" lp lb ls cl cdv) (hn:cl.map (·.1)=([("ways":Str),"canal"]:List Str)) (hC:CellsAt Hm cl [.ref wl,.ref x]) :
  iS (vU "ahead_on.<locals>.<lambda>" lp lb ls ["ways","canal"] (JO ck cR cN)) Hm f (kR R L N ys):=by
 rintro H y k Q E s ⟨t,rfl,h1,h2,h3⟩ hy q
 obtain ⟨a,rfl,hst⟩:=CF hy
 refine ⟨_,rfl,cl,_,cdv,fY s hL,fP s hC,hn,x,wl,a,H0,us,ys,t.1,t.2.1,t.2.2,D,R,L,N,rfl,rfl,s0.trans s,hc,hG.cn,hG.dr,hG.wls,hG.wys,hst,h2,h3,h1,fun r zs H' s' hr0 hr hP=>q r zs H' s' hr0 hr ?_⟩
 rw [pN]
 exact hP
theorem B6 {lp:Arguments} {lb:Expr} {ls:Scope} {ck:Kd→Addr} {Hm:Hp} {ys:List j4} {d:Int} (hG:Stage ck cR cN D H0 x wl st us R L N ys d ms pl) (s0:Same H0 Hm) (hc:∀c∈cl.map (·.2),H0 c=none) (hL:LamAt Hm f "homecoming.<locals>.<lambda>" lp lb ls cl cdv) (hn:cl.map (·.1)=[("ways":Str)]) (hC:CellsAt Hm cl [.ref wl]) :
  rQ (vU "homecoming.<locals>.<lambda>" lp lb ls ["ways"] QT) Hm f (kR R L N ys) (vN ys):=by
 rintro H y k Q E s ⟨t,rfl,h1,h2,h3⟩ hy q
 obtain ⟨a,rfl,hst⟩:=CF hy
 refine ⟨_,rfl,cl,_,cdv,fY s hL,fP s hC,hn,wl,a,H0,us,ys,t.1,t.2.1,t.2.2,L,rfl,rfl,s0.trans s,hc,hG.wls,hG.wys,hst,h2,fun H' s'=>?_⟩
 have:=q H' s'
 rw [B3] at this
 exact this
structure FirstL (T:Gr) (M:GK→Bool) (k0:GK) (N:Nat):Prop where
 fit:∀i,i≤N+1→(jS T k0 i).flatten.length≤1000
 low:∀j,j<N→¬zA T M k0 j
 stop:zA T M k0 N∨(16:Int)<(((jS T k0 N).flatten.length:Nat):Int)
theorem xN {T:Gr} (hm:∀k,(T.1 k).length≤5):∃N,FirstL T M k0 N:=by
 obtain ⟨N,h1,h2,h3⟩:=LZ (M:=M) (k0:=k0) hm
 exact ⟨N,h3,h1,h2⟩
def BL (cs:Kd→Addr) (cR cN tA tH:Addr) (pA pH:Pos) (eW:Addr):Sp:=fun vs H Q E=>∃(x wl st:Addr) (us:List V) (ys:List j4) (d:Int) (ms:List Int) (pl:List Nat) (D:List Addr) (R:List RC) (L:List LC) (N:List (List (Int×Int))) (NN:Nat),vs=[.ref x,.ref wl,.ref st,.int 16]∧Stage cs cR cN D H x wl st us R L N ys d ms pl∧0≤d∧Tabs H tA tH pA pH∧FirstL (kR R L N ys) (vN ys) (kD (d,ms,pl)) NN∧
 ((((jS (kR R L N ys) (kD (d,ms,pl)) NN).flatten.length:Nat):Int)≤16→(kK (kR R L N ys) (kD (d,ms,pl)) NN).any (vN ys)=true→∀(t rr lr:Addr) (xs:List V) (des:List GK) (kf:GK) (H':Hp),Same (noT H) H'→Tabs H' tA tH pA pH→H' t=some (.tup [.str "home",.ref rr,.ref lr])→H' rr=some (.lst xs)→KeysAt H' xs des→zW (kR R L N ys) (kD (d,ms,pl)) des kf→vN ys kf=true→des.length=NN→Q (.ref t) H')∧
 ((((jS (kR R L N ys) (kD (d,ms,pl)) NN).flatten.length:Nat):Int)≤16→(kK (kR R L N ys) (kD (d,ms,pl)) NN).any (vN ys)=false→∀(t lr:Addr) (H':Hp),Same (noT H) H'→Tabs H' tA tH pA pH→H' t=some (.tup [.str "doomed",.ref lr])→Q (.ref t) H')∧
 ((16:Int)<(((jS (kR R L N ys) (kD (d,ms,pl)) NN).flatten.length:Nat):Int)→∀H',Same (noT H) H'→Tabs H' tA tH pA pH→E (.ref eW) none H')
def AC (cs:Kd→Addr) (cR cN tA tH:Addr) (pA pH:Pos):Sp:=fun vs H Q _=>∃(x wl st rl:Addr) (us row:List V) (ks:List GK) (ys:List j4) (d:Int) (ms:List Int) (pl:List Nat) (D:List Addr) (R:List RC) (L:List LC) (N:List (List (Int×Int))),vs=[.ref x,.ref wl,.ref st,.ref rl]∧Stage cs cR cN D H x wl st us R L N ys d ms pl∧0≤d∧Tabs H tA tH pA pH∧H rl=some (.lst row)∧KeysAt H row ks∧row.length≤900∧
 ∀H',Same (noT H) H'→Tabs H' tA tH pA pH→Q (.bl (bM (kR R L N ys) (vN ys) (kD (d,ms,pl)) ks)) H'
def BI (cs:Kd→Addr) (cR cN tA tH:Addr) (pA pH:Pos):Sp:=fun vs H Q _=>∃(x wl st:Addr) (us:List V) (ys:List j4) (d:Int) (ms:List Int) (pl:List Nat) (D:List Addr) (R:List RC) (L:List LC) (N:List (List (Int×Int))) (NN:Nat),vs=[.ref x,.ref wl,.ref st,.int 16]∧Stage cs cR cN D H x wl st us R L N ys d ms pl∧0≤d∧Tabs H tA tH pA pH∧FirstL (kR R L N ys) (vN ys) (kD (d,ms,pl)) NN∧
 ((((jS (kR R L N ys) (kD (d,ms,pl)) NN).flatten.length:Nat):Int)≤16→(kK (kR R L N ys) (kD (d,ms,pl)) NN).any (vN ys)=true→∀(t rr lr:Addr) (xs:List V) (des:List GK) (kf:GK) (H':Hp),Same (noT H) H'→Tabs H' tA tH pA pH→H' t=some (.tup [.str "home",.ref rr,.ref lr])→H' rr=some (.lst xs)→KeysAt H' xs des→zW (kR R L N ys) (kD (d,ms,pl)) des kf→vN ys kf=true→des.length=NN→Q (.ref t) H')∧
 ((((jS (kR R L N ys) (kD (d,ms,pl)) NN).flatten.length:Nat):Int)≤16→(kK (kR R L N ys) (kD (d,ms,pl)) NN).any (vN ys)=false→∀(t lr:Addr) (H':Hp),Same (noT H) H'→Tabs H' tA tH pA pH→H' t=some (.tup [.str "doomed",.ref lr])→Q (.ref t) H')∧
 ((16:Int)<(((jS (kR R L N ys) (kD (d,ms,pl)) NN).flatten.length:Nat):Int)→∀(t a b:Addr) (H':Hp),Same (noT H) H'→Tabs H' tA tH pA pH→H' t=some (.tup [.str "wide",.ref a,.ref b])→Q (.ref t) H')
def BM:Sp:=fun vs H Q _=>∃(wl st:Addr) (us:List V) (ys:List j4) (d:Int) (ms:List Int) (pl:List Nat) (L:List LC),vs=[.ref wl,.ref st]∧H wl=some (.lst us)∧AllAt (WyAt H) us ys∧StAt H st d ms pl∧Fleet L ys pl∧∀H',Same H H'→Q (.int (eB ys pl)) H'
def BN:Sp:=fun vs H Q _=>∃(wl st:Addr) (us:List V) (ys:List j4) (d:Int) (ms:List Int) (pl:List Nat) (L:List LC),vs=[.ref wl,.ref st]∧H wl=some (.lst us)∧AllAt (WyAt H) us ys∧StAt H st d ms pl∧Fleet L ys pl∧∀H',Same H H'→Q (.bl (decide (eB ys pl=0))) H'
structure Txt (K:W.Frag) (mg:Str→Option Value) (cP cB cU:Addr) (cR:Addr) (cN:Addr) (tkS:Tok) (eW eL eTW:Addr) (tkH:Tok):Prop where
 z_list:mg "list"=none
 z_tuple:mg "tuple"=none
 z_max:mg "max"=none
 z_range:mg "range"=none
 z_len:mg "len"=none
 z_sum:mg "sum"=none
 z_zip:mg "zip"=none
 z_enumerate:mg "enumerate"=none
 z_min:mg "min"=none
 z_reversed:mg "reversed"=none
 z_int:mg "int"=none
 cl:∀kd,Cls K ((jF cP cB cU) kd)
 n_name:∀kd,NoAttr K ((jF cP cB cU) kd) "name"
 n_high:∀kd,NoAttr K ((jF cP cB cU) kd) "high"
 n_low:∀kd,NoAttr K ((jF cP cB cU) kd) "low"
 n_room:∀kd,NoAttr K ((jF cP cB cU) kd) "room"
 n_side:NoAttr K cB "side"
 n_lift:NoAttr K cU "lift"
 c_PlainLock:mg "PlainLock"=some (.ref cP)
 c_BasinLock:mg "BasinLock"=some (.ref cB)
 c_PumpLock:mg "PumpLock"=some (.ref cU)
 clR:Cls K cR
 nR_name:NoAttr K cR "name"
 nR_least:NoAttr K cR "least"
 nR_crest:NoAttr K cR "crest"
 nR_berths:NoAttr K cR "berths"
 nR_water:NoAttr K cR "water"
 nR_target:NoAttr K cR "target"
 c_Reach:mg "Reach"=some (.ref cR)
 clN:Cls K cN
 nN_reaches:NoAttr K cN "reaches"
 nN_locks:NoAttr K cN "locks"
 nN_nights:NoAttr K cN "nights"
 c_Canal:mg "Canal"=some (.ref cN)
 g_SEA:mg "SEA"=some (.int (-1) tkS)
 c_NotNow:mg "NotNow"=some (.ref eW)
 c_NotLinked:mg "NotLinked"=some (.ref eL)
 c_TooWide:mg "TooWide"=some (.ref eTW)
 x_NotNow:eI K eW
 x_NotLinked:eI K eL
 x_TooWide:eI K eTW
 g_HOME:mg "HOME"=some (.int (-1) tkH)
set_option maxHeartbeats 4000000
section
variable {P:Program} {w:World} {K:W.Frag} {mg:Str→Option Value} {base:Heap} {cP cB cU:Addr} {cR:Addr} {cN:Addr} {tkS:Tok} {eW eL eTW:Addr} {tkH:Tok} {tA tH:Addr}
variable (T:Txt K mg cP cB cU cR cN tkS eW eL eTW tkH)
theorem cS:FnScope ["waters","pours","held","source","target","amount"] ["waters","pours"] (jG mP):=jU
include T in
theorem FL {f:Addr} {fd:FuncData} (F:Fun K "poured_all" "poured_all" mP f fd) : FnOk P w K mg base jP 1 f fd ["waters","pours"] (dY K):=by
 refine F.ok2 cS fun vs H Q E h=>?_
 obtain ⟨w,p,ws,rs,qs,rfl,hW,hP,hA,hn,q⟩:=h
 refine ⟨rfl,fun _ _ _ _ hr=>?_⟩
 refine ⟨_,(@jH _ _ _ _ _ (jZ (i:=2) cS.nd rfl (.inl rfl) (yA (QR K) (by rfl) T.z_list PyProof.Rows.boot_list (jB (pv 0) jC)))
   (@jH _ _ _ _ _ (zS PassesOwn.never rfl (vC (pv 1)) (iF rfl (kW (kC (i:=3) cS.nd rfl (.inl rfl)) (kW (kC (i:=4) cS.nd rfl (.inl rfl)) (kW (kC (i:=5) cS.nd rfl (.inl rfl)) y7))))
    (@jH _ _ _ _ _ (o7 (pv 2) (pv 3) oU (pv 5) PU ZQ)
   (@jK _ _ _ (o7 (pv 2) (pv 4) oU (pv 5) B2 ZQ))))
   (@jK _ _ _ (@jQ _ _ _ _ (yA (bA K) (by rfl) T.z_tuple PyProof.Rows.boot_tuple (jB (pv 2) jC)))))),?_⟩
 try dsimp only [jX,jW]
 refine (jA rfl (⟨w,jA rfl (⟨hW,fun l hl=>?_⟩)⟩))
 have s0:Same H (upd H l (.lst (ws.map V.int))):=jI hl _
 refine ⟨_,rfl,p,rfl,⟨rs,s0.seq hP⟩,ZS (K:=K) (a:=p) (xs:=rs) (fun i σ Hi=>∃c3 c4 c5,σ=[some (.ref w),some (.ref p),some (.ref l),c3,c4,c5]∧Hi l=some (.lst ((j3 ws (qs.take i)).map V.int))∧Same H Hi)
  (vS none none none (yZ rfl jE s0)) (fun i σ Hi _ ⟨_,_,_,_,_,s⟩=>s.seq hP) ?_ ?_⟩
 ·rintro i x σ Hi hx ⟨c3,c4,c5,rfl,hH,sm⟩
  obtain ⟨a,s,t,m,rfl,hq,hT,hs,ht⟩:=hA.2 i x hx
  have e0:(j3 ws (qs.take i)).length=ws.length:=vG _ _
  refine ⟨a,jA rfl (⟨pT sm hT,rfl,_,jA rfl (⟨_,jA rfl (⟨_,_,rfl,rfl,?_⟩)⟩)⟩)⟩
  refine (jA rfl (jA rfl (⟨_,_,_,_,rfl,rfl,SqL.of hH,yL (by rw [e0];exact hs),jA rfl (j7 (⟨_,_,_,_,rfl,rfl,hH,ZT (by rw [List.length_map,e0];exact hs),?_⟩))⟩)))
  try dsimp only
  rw [ZK]
  refine (jA rfl (jA rfl (⟨_,_,_,_,rfl,rfl,SqL.of jE,yL (by rw [List.length_set,e0];exact ht),jA rfl (j7 (⟨_,_,_,_,rfl,rfl,jE,ZT (by rw [List.length_map,List.length_set,e0];exact ht),?_⟩))⟩)))
  try dsimp only
  rw [ZK]
  refine ⟨_,_,jA rfl (⟨?_,qA hl (qA hl sm)⟩)⟩
  rw [jE,nG ws qs i _ hq]
  rfl
 ·rintro σ Hi ⟨c3,c4,c5,rfl,hH,sm⟩
  refine (jA rfl (⟨_,jA rfl (.inl ⟨SqL.of hH,fun r hr=>?_⟩)⟩))
  refine q r _ (qA (sm.free hr) sm) (sm.free hr) ?_
  rw [jE,hA.1,List.take_length]
theorem sE:FnScope ["weirs","waters","at","crest"] ["weirs","waters","at"] (jG mL):=jU
include T in
theorem FH {f:Addr} {fd:FuncData} (F:Fun K "over" "over" mL f fd) : FnOk P w K mg base jP 1 f fd ["weirs","waters","at"] (BJ K):=by
 refine F.ok2 sE fun vs H Q E h=>?_
 obtain ⟨wq,wa,rs,ws,n,ms,i₁,rfl,hW,hA,hM,h1,h2,q⟩:=h
 refine ⟨rfl,fun _ _ _ _ hr=>?_⟩
 refine ⟨_,(@jH _ _ _ _ _ (jZ (i:=3) sE.nd rfl (.inl rfl) (jM (jT K) (jM (kN K) (pv 0) (pv 2)) jD))
   (@jK _ _ _ (@jQ _ _ _ _ (kP (u8 rfl) (by rfl) T.z_max PyProof.Rows.boot_max (jB jD (jB (@jJ _ _ _ _ _ _ _ _ zT (jM (OJ K) (pv 1) (pv 2)) (pv 3)) jC)))))),?_⟩
 try dsimp only [jX,jW]
 obtain ⟨ta,hat,hT,_⟩:=gB hA h1
 refine (jA rfl (jA rfl (⟨wq,_,_,_,rfl,rfl,hW,hat,ta,_,_,_,rfl,rfl,hT,rfl,?_⟩)))
 refine (jA rfl (jA rfl (MS hM h2 ?_)))
 exact (jA rfl (j7 (⟨_,jA rfl (q)⟩)))
theorem HD:FnScope ["weirs"] ["weirs"] (jG mE):=jU
include T in
theorem E3 {f:Addr} {fd:FuncData} (F:Fun K "last_first" "last_first" mE f fd) : FnOk P w K mg base jP 1 f fd ["weirs"] (pM K):=by
 refine F.ok2 HD fun vs H Q E h=>?_
 obtain ⟨wq,rs,rfl,hW,hn,q⟩:=h
 refine ⟨rfl,fun _ _ _ _ hr=>?_⟩
 refine ⟨_,(@jK _ _ _ (@jQ _ _ _ _ (yA (IA rfl) (by rfl) T.z_list PyProof.Rows.boot_list (jB (yA IV (by rfl) T.z_range PyProof.Rows.boot_range (@jB _ _ _ _ _ (@jJ _ _ _ _ _ _ _ _ zT (kP (qD K) (by rfl) T.z_len PySem.boot_len (jB (pv 0) jC)) jD) (@jB _ _ _ _ _ (dZ dU jD) (@jB _ _ _ _ _ (dZ dU jD) jC (by rfl)) (by rfl)) (by rfl))) jC)))),?_⟩
 try dsimp only [jX,jW]
 refine (jA rfl (⟨wq,jA rfl (⟨.inl hW,_,_,rfl,rfl,jA rfl (jA rfl (⟨_,_,jA rfl (⟨(by decide),(by decide),fun p hp=>?_⟩)⟩))⟩)⟩))
 refine (zM p _ _ _ rs.length (yY rfl jE (K1 hn) (u5 _) hn (fun l hl=>?_)))
 refine q l _ ((jI hp _).trans (jI hl _)) ((jI hp _).free hl) ?_
 rw [jE]
 exact congrArg (fun x=>some (HO.lst x)) (K0 rs.length)
theorem fO:FnScope ["weirs","waters","held","given","at"] ["weirs","waters"] (jG mU):=jU
include T in
theorem FS {f:Addr} {fd:FuncData} (F:Fun K "spills" "spills" mU f fd) (D_last_first:Def P w K mg base 1 "last_first" ["weirs"] [] (pM K)) (D_over:Def P w K mg base 1 "over" ["weirs","waters","at"] [] (BJ K)):FnOk P w K mg base jP 2 f fd ["weirs","waters"] (wM K):=by
 refine F.ok2 fO fun vs H Q E h=>?_
 obtain ⟨wq,wa,rs,ws,ms,rfl,hRd,q⟩:=h
 refine ⟨rfl,fun _ _ _ _ hr=>?_⟩
 refine ⟨_,(@jH _ _ _ _ _ (jZ (i:=2) fO.nd rfl (.inl rfl) (yA (QR K) (by rfl) T.z_list PyProof.Rows.boot_list (jB (pv 1) jC)))
   (@jH _ _ _ _ _ (jZ (i:=3) fO.nd rfl (.inl rfl) (@jJ _ _ _ _ _ _ _ _ BY (qR (jB jD jC)) (kP (qD K) (by rfl) T.z_len PySem.boot_len (jB (pv 0) jC))))
   (@jH _ _ _ _ _ (zS PassesOwn.never rfl (vC (jO D_last_first hr rfl (jB (pv 0) jC))) (kC (i:=4) fO.nd rfl (.inl rfl))
    (@jH _ _ _ _ _ (iE (jO D_over hr rfl (@jB _ _ _ _ _ (pv 0) (@jB _ _ _ _ _ (pv 2) (@jB _ _ _ _ _ (pv 4) jC (by rfl)) (by rfl)) (by rfl))) (iG (pv 3) (pv 4) ZQ))
   (@jK _ _ _ (o7 (pv 2) (jM (jT K) (jM (kN K) (pv 0) (pv 4)) jD) oU (jM (kN K) (pv 3) (pv 4)) B2 ZQ))))
   (@jK _ _ _ (@jQ _ _ _ _ (pv 3)))))),?_⟩
 try dsimp only [jX,jW]
 obtain ⟨hW,hA,hM,hAh,hRn,hn⟩:=id hRd
 have hAF:=gH hAh
 refine (jA rfl (⟨wa,jA rfl (⟨hM,fun hl hhl=>?_⟩)⟩))
 have t1:=jI hhl (.lst (ms.map V.int))
 refine ⟨zz1,fun lp hlp=>?_⟩
 have t2:=jI hlp (.lst [V.int 0])
 refine (jA rfl (⟨wq,jA rfl (⟨.inl ((t1.trans t2).seq hW),lp,_,_,rfl,rfl,jE,by omega,by rw [hA.1];omega,?_,fun gp hgp=>?_⟩)⟩))
 ·rw [Int.toNat_natCast,List.length_singleton,Nat.one_mul,hA.1]
  exact small (by omega)
 rw [Int.toNat_natCast,wY,hA.1]
 have t3:=jI hgp (.lst ((List.replicate ws.length (0:Int)).map V.int))
 have u3:=(t1.trans t2).trans t3
 have hlp':hl≠gp:=q8 (t2 _ _ jE) hgp
 refine (jA rfl (⟨wq,rs,rfl,u3.seq hW,by rw [hA.1];omega,fun df H1 s1 hdf0 hdf=>?_⟩))
 have hl1:=s1 _ _ (t3 _ _ (t2 _ _ (jE:upd H hl (.lst (ms.map V.int)) hl=_)))
 have gp1:=s1 _ _ (jE:upd _ gp (.lst ((List.replicate ws.length (0:Int)).map V.int)) gp=_)
 have dhl:hl≠df:=q8 (t3 _ _ (t2 _ _ jE)) hdf0
 have dgp:gp≠df:=q8 jE hdf0
 have gf:H gp=none:=(t1.trans t2).free hgp
 refine ⟨df,rfl,⟨_,SqL.of hdf⟩,ZS (K:=K) (a:=df) (xs:=(yE rs.length).map fun (i:Nat)=>V.int (i:Int)) (fun k σ Hi=>∃(hs gs:List Int) (c:Option V),σ=[some (.ref wq),some (.ref wa),some (.ref hl),some (.ref gp),c]∧Hi hl=some (.lst (hs.map V.int))∧Hi gp=some (.lst (gs.map V.int))∧
   Hi df=some (.lst ((yE rs.length).map fun (i:Nat)=>V.int (i:Int)))∧SplInv ws ms hs gs k∧Same H Hi)
  ⟨ms,List.replicate ws.length 0,none,rfl,hl1,gp1,hdf,SplInv.start ws ms,u3.trans s1⟩ (fun i σ Hi _ ⟨_,_,_,_,_,_,hd,_⟩=>SqL.of hd) ?_ ?_⟩
 ·rintro k x σ Hi hx ⟨hs,gs,c,rfl,hH,hG,hD,hI,sm⟩
  obtain ⟨hk,rfl⟩:=xQ hx
  rw [hA.1] at hk ⊢
  obtain ⟨i₁,hi₁⟩:∃i,i=ws.length - 1 - k:=⟨_,rfl⟩
  have hi:i₁<ws.length:=by omega
  have hst:=hI.step hAF hRn hk (by rw [← hi₁];exact t9 hA i₁ hi)
  rw [← hi₁] at hst ⊢
  obtain ⟨ta,hat,hT,ht⟩:=gB (hA.same sm) hi
  have hAl:WeirsAt K Hi rs ws hs.length:=by rw [hI.lh];exact hA.same sm
  refine (jA rfl (jA rfl (jA rfl (⟨wq,hl,rs,ws,_,hs,i₁,rfl,sm.seq hW,hAl,.inl (SqL.of hH),hi,by rw [hI.lh];omega,?_⟩))))
  refine (jA rfl (jA rfl (⟨gp,_,_,_,rfl,rfl,hG,ZT (by rw [List.length_map,hI.lg];exact hi),?_⟩)))
  rw [ZK]
  have k1:∀o,Keep gp Hi (upd Hi gp o):=fun o=>(Keep.refl gp Hi).upd o
  have sG:∀o,Same H (upd Hi gp o):=fun o=>qA gf sm
  have hH':∀o,upd Hi gp o hl=some (.lst (hs.map V.int)):=fun o=>(k1 o) hl _ hlp' hH
  refine (jA rfl (jA rfl (jA rfl (⟨wq,_,_,_,rfl,rfl,(sG _).seq hW,hat,ta,_,_,_,rfl,rfl,(k1 _).sqt hG hT,rfl,qH (SqL.of (hH' _)) (yL (by rw [hI.lh];exact ht)) ((jA rfl (jA rfl (qH (SqL.of jE) (yL (by rw [List.length_set,hI.lg];exact hi)) (j7 (⟨hl,_,_,_,rfl,rfl,hH' _,ZT (by rw [List.length_map,hI.lh];exact ht),?_⟩))))))⟩))))
  rw [ZK]
  refine ⟨_,_,jA rfl (⟨jE,?_,?_,hst,qA hhl (sG _)⟩)⟩
  ·rw [jL (Ne.symm hlp'),jE]
  ·rw [jL (Ne.symm dhl),jL (Ne.symm dgp),hD,hA.1]
 ·rintro σ Hi ⟨hs,gs,c,rfl,hH,hG,hD,hI,sm⟩
  rw [List.length_map,cX,hA.1] at hI
  refine (jA rfl (?_))
  exact q gp Hi gs sm gf hG hI.spl
theorem sH:FnScope ["weirs","waters","given"] ["weirs","waters"] (jG fG):=jU
include T in
theorem FR {f:Addr} {fd:FuncData} (F:Fun K "spill_pours" "spill_pours" fG f fd) (D_spills:Def P w K mg base 2 "spills" ["weirs","waters"] [] (wM K)) (D_last_first:Def P w K mg base 1 "last_first" ["weirs"] [] (pM K)):FnOk P w K mg base jP 3 f fd ["weirs","waters"] (oO K):=by
 refine F.ok2 sH fun vs H Q E h=>?_
 obtain ⟨wq,wa,rs,ws,ms,rfl,hRd,q⟩:=h
 refine ⟨rfl,fun _ _ _ _ hr=>?_⟩
 refine ⟨_,(@jH _ _ _ _ _ (jZ (i:=2) sH.nd rfl (.inr rfl) (jO D_spills hr rfl (jB (pv 0) (jB (pv 1) jC))))
   (@jK _ _ _ (@jQ _ _ _ _ (yK ["at","given","weirs"] (kZ 1 [2,0]) rfl (qO (jG fG)) (cps 1 [2,0]) (vC (jO D_last_first hr rfl (jB (pv 0) jC))) (fun _ _ _ _ _=>(kC (i:=0) (show List.Nodup (["at","given","weirs"]:List Str) from by decide +kernel) rfl (.inl rfl))) (fun _ _ _ _ _=>(JP (kO QI (jM (kN K) (pv 1) (pv 0)) jD))) (fun _ _ _ _ _=>(kQ (@jB _ _ _ _ _ (pv 0) (@jB _ _ _ _ _ (jM (jT K) (jM (kN K) (pv 2) (pv 0)) jD) (@jB _ _ _ _ _ (jM (kN K) (pv 1) (pv 0)) jC (by rfl)) (by rfl)) (by rfl)))))))),?_⟩
 try dsimp only [jX,jW]
 refine (jA rfl (jA rfl ((zM wq wa rs ws ms (yZ rfl hRd (fun gp H1 gs s1 hgp0 hgp hS=>?_))))))
 obtain ⟨hW,hA,hM,hAh,hRn,hn⟩:=hRd.same s1
 refine (jA rfl (⟨wq,rs,rfl,hW,by rw [hA.1];omega,fun df H2 s2 hdf0 hdf=>?_⟩))
 refine ⟨df,rfl,⟨_,SqL.of hdf⟩,fun D hD=>?_⟩
 refine J4 (K:=K) (a:=df) (xs:=(yE rs.length).map fun (i:Nat)=>V.int (i:Int)) (caps:=[some (.ref gp),some (.ref wq)]) (fun i ys Hi=>PoursH Hi ys (((vT (kL ws) (fun a=>gs.getD a 0) ws.length).take i).filter kY) ms.length) hD (SqL.of hdf) (PoursH.nil _ _) ?_ ?_
 ·rintro i x ys Hi hx hi hle sm hY hR
  obtain ⟨hk,rfl⟩:=xQ hx
  rw [hA.1] at hk ⊢
  obtain ⟨i₁,hi₁⟩:∃i',i'=ws.length - 1 - i:=⟨_,rfl⟩
  have hi':i₁<ws.length:=by omega
  rw [← hi₁]
  have s12:=s2.trans sm
  obtain ⟨ta,hat,hT,ht⟩:=gB (hA.same s12) hi'
  have ef:((vT (kL ws) (fun a=>gs.getD a 0) ws.length).take (i+1)).filter kY=((vT (kL ws) (fun a=>gs.getD a 0) ws.length).take i).filter kY++[(i₁,kL ws i₁,gs.getD i₁ 0)].filter kY:=by
   rw [List.take_add_one,IL hk,← hi₁,List.filter_append]
   rfl
  refine (jA rfl (jA rfl (qH (SqL.of (s12 _ _ hgp)) (yL (by rw [hS.1];exact hi')) (⟨rfl,jA rfl (?_)⟩))))
  by_cases hz:gs.getD i₁ 0=0
  ·refine JX (congrArg V.int hz) (ZO sm hY hle (Same.refl _) ?_)
   rw [ef,List.filter_cons,if_neg (by unfold kY;rw [decide_eq_true (show gs.getD i₁ 0=0 from hz)];decide)]
   show PoursH Hi ys (_++[]) _
   rw [List.append_nil]
   exact hR
  refine JW (fun e=>hz (V.int.inj e)) ?_
  refine (jA rfl (jA rfl (jA rfl (⟨wq,_,_,_,rfl,rfl,s12.seq hW,hat,ta,_,_,_,rfl,rfl,hT,rfl,jA rfl (jA rfl (qH (SqL.of (s12 _ _ hgp)) (yL (by rw [hS.1];exact hi')) (⟨zz3,fun tp htp=>?_⟩)))⟩))))
  have st:=jI htp (.tup [.int (i₁:Int),.int (kL ws i₁:Int),.int (gs.getD i₁ 0)])
  refine v9 hD sm hY hle (by omega) st ?_
  rw [ef,List.filter_cons,if_pos (by unfold kY;rw [decide_eq_false (show ¬gs.getD i₁ 0=0 from hz)];rfl)]
  exact ((hR.same st).snoc jE (by omega) ht).put (st _ _ hY)
 ·intro ys Hf sm hY hle hR
  rw [List.length_map,cX,hA.1,List.take_of_length_le (by unfold vT;rw [List.length_map,cX];exact Nat.le_refl _)] at hR
  have s12:=s2.trans sm
  exact q D Hf gs ys (s1.trans s12) ((s1.trans s2).free hD) hY hR hS
theorem HM:FnScope ["weirs","waters"] ["weirs","waters"] (jG mT):=jU
include T in
theorem FQ {f:Addr} {fd:FuncData} (F:Fun K "settled" "settled" mT f fd) (D_poured_all:Def P w K mg base 1 "poured_all" ["waters","pours"] [] (dY K)) (D_spill_pours:Def P w K mg base 3 "spill_pours" ["weirs","waters"] [] (oO K)):FnOk P w K mg base jP 4 f fd ["weirs","waters"] (uG K):=by
 refine F.ok2 HM fun vs H Q E h=>?_
 obtain ⟨wq,wa,rs,ws,ms,rfl,hRd,q⟩:=h
 refine ⟨rfl,fun _ _ _ _ hr=>?_⟩
 refine ⟨_,(@jK _ _ _ (@jQ _ _ _ _ (jO D_poured_all hr rfl (jB (pv 1) (jB (jO D_spill_pours hr rfl (jB (pv 0) (jB (pv 1) jC))) jC))))),?_⟩
 try dsimp only [jX,jW]
 obtain ⟨hW,hA,hM,hAh,hRn,hn⟩:=id hRd
 refine (jA rfl (jA rfl (jA rfl ((zM wq wa rs ws ms (yZ rfl hRd (fun p H1 gs ys s1 hp0 hp hP hS=>?_)))))))
 refine ⟨wa,p,ms,ys,jA rfl (⟨hM.same s1,SqL.of hp,hP.pa,hn,fun r H' s' hr0 hr=>?_⟩)⟩
 rw [nU (fV hRn (t9 hA))] at hr
 exact q r H' gs (s1.trans s') (s1.free hr0) hr hS
theorem HU:FnScope ["weirs","waters","pours"] ["weirs","waters","pours"] (jG mZ):=jU
include T in
theorem FY {f:Addr} {fd:FuncData} (F:Fun K "with_spills" "with_spills" mZ f fd) (D_spill_pours:Def P w K mg base 3 "spill_pours" ["weirs","waters"] [] (oO K)) (D_poured_all:Def P w K mg base 1 "poured_all" ["waters","pours"] [] (dY K)):FnOk P w K mg base jP 4 f fd ["weirs","waters","pours"] (oZ K):=by
 refine F.ok2 HU fun vs H Q E h=>?_
 obtain ⟨wq,wa,p,rs,ps,ws,ms,qs,rfl,hRd,hp,hP,h500,q⟩:=h
 refine ⟨rfl,fun _ _ _ _ hr=>?_⟩
 refine ⟨_,(@jK _ _ _ (@jQ _ _ _ _ (@jJ _ _ _ _ _ _ _ _ QZ (pv 2) (jO D_spill_pours hr rfl (jB (pv 0) (jB (jO D_poured_all hr rfl (jB (pv 1) (jB (pv 2) jC))) jC)))))),?_⟩
 try dsimp only [jX,jW]
 obtain ⟨hW,hA,hM,hAh,hRn,hn⟩:=id hRd
 refine (jA rfl (jA rfl (jA rfl (jA rfl ((zM wa p ms ps qs (yY rfl hM (SqL.of hp) hP.pa hn (fun wt H1 s1 hwt0 hwt=>?_))))))))
 have el:(j3 ms qs).length=ms.length:=vG _ _
 refine ⟨wq,wt,rs,ws,j3 ms qs,rfl,⟨s1.seq hW,by rw [el];exact hA.same s1,.inr (SqT.of hwt),hAh,by rw [el];exact hRn,by rw [el];exact hn⟩,fun sp H2 gs ys s2 hsp0 hsp hPs hS=>?_⟩
 rw [el] at hPs
 have hl:=IM ws (fun a=>gs.getD a 0)
 refine ⟨p,sp,_,_,rfl,rfl,s2 _ _ (s1 _ _ hp),hsp,Nat.le_trans (show ps.length+ys.length≤1500 by rw [hPs.1];omega) (by decide),fun al hal=>?_⟩
 have s3:=jI hal (.lst (ps++ys))
 have s12:=s1.trans s2
 exact q al _ gs _ (s12.trans s3) (s12.free hal) jE ((hP.same (s12.trans s3)).append (hPs.same s3)) hS
theorem HK:FnScope ["parts"] ["parts"] (jG fE):=jU
include T in
theorem FI {f:Addr} {fd:FuncData} (F:Fun K "parts_not_nought" "parts_not_nought" fE f fd) : FnOk P w K mg base jP 1 f fd ["parts"] (bP K):=by
  refine F.ok2 HK fun vs H Q E h=>?_
  obtain ⟨p,rs,ps,rfl,hP,hA,hn,q⟩:=h
  refine ⟨rfl,fun _ _ _ _ hr=>?_⟩
  refine ⟨_,(@jK _ _ _ (@jQ _ _ _ _ (yK ["part"] (kZ 1 []) rfl (qO (jG fE)) (cps 1 []) (vC (pv 0)) (fun _ _ _ _ _=>(kC (i:=0) (show List.Nodup (["part"]:List Str) from by decide +kernel) rfl (.inl rfl))) (fun _ _ _ _ _=>(JP (kO QI (jM (jT K) (pv 0) jD) jD))) (fun _ _ _ _ _=>(pv 0))))),?_⟩
  try dsimp only [jX,jW]
  refine (jA rfl (⟨p,rfl,⟨rs,hP⟩,fun l hl=>?_⟩))
  refine J4 (K:=K) (a:=p) (xs:=rs) (caps:=[]) (fun i ys Hi=>PartsAt Hi ys ((ps.take i).filter yO)) hl hP PartsAt.nil ?_ ?_
  · rintro i x ys Hi hx hi hle sm hY hR
    obtain ⟨t,sN,nN,rfl,hps,hT⟩:=hA.2 i x hx
    have et:(ps.take (i+1)).filter yO=(ps.take i).filter yO++[(sN,nN)].filter yO:=by
      rw [List.take_add_one,hps,List.filter_append]
      rfl
    refine (jA rfl (jR (SqT.of (sm _ _ hT)) rfl (⟨rfl,jA rfl (?_)⟩)))
    by_cases hz:nN=0
    · refine JX (by rw [hz]) ?_
      refine ZO sm hY hle (Same.refl _) ?_
      have e2:[(sN,nN)].filter yO=[]:=by rw [hz];rfl
      rw [et,e2,List.append_nil]
      exact hR
    · refine JW (fun e=>hz (V.int.inj e)) ?_
      refine (jA rfl (v9 hl sm hY hle (by omega) (Same.refl _) ?_))
      have e2:[(sN,nN)].filter yO=[(sN,nN)]:=by
        rw [List.filter_cons,if_pos (show yO (sN,nN)=true by unfold yO;rw [decide_eq_false hz];rfl)]
        rfl
      rw [et,e2]
      exact (hR.snoc (sm _ _ hT)).keep ((Keep.refl l Hi).upd _) hY
  · intro ys Hf sm hY hle hR
    rw [hA.1,List.take_length] at hR
    exact q l Hf ys sm hl hY hR
theorem GP:FnScope ["self","name","high","low","room"] ["self","name","high","low","room"] (jG lJ):=jU
include T in
theorem DZ {f:Addr} {fd:FuncData} (F:Fun K "__init__" "PlainLock.__init__" lJ f fd) : FnOk P w K mg base jP 1 f fd ["self","name","high","low","room"] (bC (jF cP cB cU)):=by
 refine F.ok2 GP fun vs H Q E h=>?_
 obtain ⟨kd,x,dx,n,h₁,l,r,rfl,hx,q⟩:=h
 refine ⟨rfl,fun _ _ _ _ hr=>?_⟩
 refine ⟨_,(@jH _ _ _ _ _ (yU (pv 0) (pv 1) rfl)
   (@jH _ _ _ _ _ (yU (pv 0) (pv 2) rfl)
   (@jH _ _ _ _ _ (yU (pv 0) (pv 3) rfl)
   (@jK _ _ _ (yU (pv 0) (pv 4) rfl))))),?_⟩
 try dsimp only [jX,jW]
 refine (jA rfl (jA rfl (⟨x,_,dx,jA rfl (⟨hx,T.cl kd,T.n_name kd,(by show 0<1000;decide),?_⟩)⟩)))
 refine (jA rfl (jA rfl (⟨x,_,dx,jA rfl (⟨jE,T.cl kd,T.n_high kd,(by show 1<1000;decide),?_⟩)⟩)))
 refine (jA rfl (jA rfl (⟨x,_,dx,jA rfl (⟨jE,T.cl kd,T.n_low kd,?_,?_⟩)⟩)))
 ·have:=JM "high" h₁ (jV "name" n [])
  have h2:(jV ("name":Str) n []).length=1:=rfl
  omega
 refine (jA rfl (jA rfl (⟨x,_,dx,jA rfl (⟨jE,T.cl kd,T.n_room kd,?_,?_⟩)⟩)))
 ·have:=JM "low" l (jV "high" h₁ (jV "name" n []))
  have h1:=JM "high" h₁ (jV "name" n [])
  have h2:(jV ("name":Str) n []).length=1:=rfl
  omega
 exact q _ (((((Keep.refl x H).upd _).upd _).upd _).upd _) jE
theorem FZ:FnScope ["self","name","high","low","room","side"] ["self","name","high","low","room","side"] (jG i5):=jU
include T in
theorem DJ {f:Addr} {fd:FuncData} (F:Fun K "__init__" "BasinLock.__init__" i5 f fd) (CM_PlainLock___init__:CmD P w K mg base 1 "PlainLock" cP "__init__" ["self","name","high","low","room"] (bC (jF cP cB cU))):FnOk P w K mg base jP 2 f fd ["self","name","high","low","room","side"] (bB (jF cP cB cU) .basin):=by
 refine F.ok2 FZ fun vs H Q E h=>?_
 obtain ⟨x,dx,n,h₁,l,r,v,rfl,hx,q⟩:=h
 refine ⟨rfl,fun _ _ _ _ hr=>?_⟩
 refine ⟨_,(@jH _ _ _ _ _ (QP (AO CM_PlainLock___init__ hr rfl (@jB _ _ _ _ _ (pv 0) (@jB _ _ _ _ _ (pv 1) (@jB _ _ _ _ _ (pv 2) (@jB _ _ _ _ _ (pv 3) (@jB _ _ _ _ _ (pv 4) jC (by rfl)) (by rfl)) (by rfl)) (by rfl)) (by rfl))))
   (@jK _ _ _ (yU (pv 0) (pv 5) rfl))),?_⟩
 try dsimp only [jX,jW]
 refine (jA rfl (jA rfl (jA rfl (jA rfl (jA rfl (⟨.basin,x,dx,n,h₁,l,r,rfl,hx,fun H' kp hx'=>?_⟩))))))
 refine (jA rfl (jA rfl (⟨x,_,dx,jA rfl (⟨hx',T.cl .basin,T.n_side,tN _ _ _ _,?_⟩)⟩)))
 exact q _ (kp.upd _) jE
theorem GW:FnScope ["self","name","high","low","room","lift"] ["self","name","high","low","room","lift"] (jG lO):=jU
include T in
theorem EC {f:Addr} {fd:FuncData} (F:Fun K "__init__" "PumpLock.__init__" lO f fd) (CM_PlainLock___init__:CmD P w K mg base 1 "PlainLock" cP "__init__" ["self","name","high","low","room"] (bC (jF cP cB cU))):FnOk P w K mg base jP 2 f fd ["self","name","high","low","room","lift"] (bB (jF cP cB cU) .pump):=by
 refine F.ok2 GW fun vs H Q E h=>?_
 obtain ⟨x,dx,n,h₁,l,r,v,rfl,hx,q⟩:=h
 refine ⟨rfl,fun _ _ _ _ hr=>?_⟩
 refine ⟨_,(@jH _ _ _ _ _ (QP (AO CM_PlainLock___init__ hr rfl (@jB _ _ _ _ _ (pv 0) (@jB _ _ _ _ _ (pv 1) (@jB _ _ _ _ _ (pv 2) (@jB _ _ _ _ _ (pv 3) (@jB _ _ _ _ _ (pv 4) jC (by rfl)) (by rfl)) (by rfl)) (by rfl)) (by rfl))))
   (@jK _ _ _ (yU (pv 0) (pv 5) rfl))),?_⟩
 try dsimp only [jX,jW]
 refine (jA rfl (jA rfl (jA rfl (jA rfl (jA rfl (⟨.pump,x,dx,n,h₁,l,r,rfl,hx,fun H' kp hx'=>?_⟩))))))
 refine (jA rfl (jA rfl (⟨x,_,dx,jA rfl (⟨hx',T.cl .pump,T.n_lift,tN _ _ _ _,?_⟩)⟩)))
 exact q _ (kp.upd _) jE
theorem G0:FnScope ["self","name","least","crest","berths","water","target"] ["self","name","least","crest","berths","water","target"] (jG lS):=jU
include T in
theorem EG {f:Addr} {fd:FuncData} (F:Fun K "__init__" "Reach.__init__" lS f fd) : FnOk P w K mg base jP 1 f fd ["self","name","least","crest","berths","water","target"] (nJ cR):=by
 refine F.ok2 G0 fun vs H Q E h=>?_
 obtain ⟨x,dx,v_name,v_least,v_crest,v_berths,v_water,v_target,rfl,hx,q⟩:=h
 refine ⟨rfl,fun _ _ _ _ hr=>?_⟩
 refine ⟨_,(@jH _ _ _ _ _ (yU (pv 0) (pv 1) rfl)
   (@jH _ _ _ _ _ (yU (pv 0) (pv 2) rfl)
   (@jH _ _ _ _ _ (yU (pv 0) (pv 3) rfl)
   (@jH _ _ _ _ _ (yU (pv 0) (pv 4) rfl)
   (@jH _ _ _ _ _ (yU (pv 0) (pv 5) rfl)
   (@jK _ _ _ (yU (pv 0) (pv 6) rfl))))))),?_⟩
 try dsimp only [jX,jW]
 have ln:∀(f:Str) (z:V) (fs:List (Str×V)) (m:Nat),fs.length≤m→(jV f z fs).length≤m+1:=fun f z fs m h=>Nat.le_trans (JM f z fs) (by omega)
 have l0:([]:List (Str×V)).length≤0:=Nat.le_refl _
 refine (jA rfl (jA rfl (⟨x,cR,dx,jA rfl (⟨hx,T.clR,T.nR_name,by omega,?_⟩)⟩)))
 have l1:=ln "name" v_name _ _ l0
 refine (jA rfl (jA rfl (⟨x,cR,dx,jA rfl (⟨jE,T.clR,T.nR_least,by omega,?_⟩)⟩)))
 have l2:=ln "least" v_least _ _ l1
 refine (jA rfl (jA rfl (⟨x,cR,dx,jA rfl (⟨jE,T.clR,T.nR_crest,by omega,?_⟩)⟩)))
 have l3:=ln "crest" v_crest _ _ l2
 refine (jA rfl (jA rfl (⟨x,cR,dx,jA rfl (⟨jE,T.clR,T.nR_berths,by omega,?_⟩)⟩)))
 have l4:=ln "berths" v_berths _ _ l3
 refine (jA rfl (jA rfl (⟨x,cR,dx,jA rfl (⟨jE,T.clR,T.nR_water,by omega,?_⟩)⟩)))
 have l5:=ln "water" v_water _ _ l4
 refine (jA rfl (jA rfl (⟨x,cR,dx,jA rfl (⟨jE,T.clR,T.nR_target,by omega,?_⟩)⟩)))
 have l6:=ln "target" v_target _ _ l5
 exact q _ _ (((((((Keep.refl x H).upd _).upd _).upd _).upd _).upd _).upd _) jE (K8 _ _ _ _ _ _)
theorem GT:FnScope ["self"] ["self"] (jG lM):=jU
include T in
theorem EA {f:Addr} {fd:FuncData} (F:Fun K "kind" "PlainLock.kind" lM f fd) : FnOk P w K mg base jP 1 f fd ["self"] (yM (jF cP cB cU) (fun kd _=>V.str (match kd with|.plain=>"plain"|.basin=>"basin"|.pump=>"pump")) .plain):=by
 refine F.ok2 GT fun vs H Q E h=>?_
 obtain ⟨x,n,h₁,l,room,v,rfl,⟨dx,hx⟩,q⟩:=h
 refine ⟨rfl,fun _ _ _ _ hr=>?_⟩
 refine ⟨_,(@jK _ _ _ (@jQ _ _ _ _ j5)),?_⟩
 try dsimp only [jX,jW]
 exact q
theorem GC:FnScope ["self"] ["self"] (jG lA):=jU
include T in
theorem DM {f:Addr} {fd:FuncData} (F:Fun K "kind" "BasinLock.kind" lA f fd) : FnOk P w K mg base jP 1 f fd ["self"] (yM (jF cP cB cU) (fun kd _=>V.str (match kd with|.plain=>"plain"|.basin=>"basin"|.pump=>"pump")) .basin):=by
 refine F.ok2 GC fun vs H Q E h=>?_
 obtain ⟨x,n,h₁,l,room,v,rfl,⟨dx,hx⟩,q⟩:=h
 refine ⟨rfl,fun _ _ _ _ hr=>?_⟩
 refine ⟨_,(@jK _ _ _ (@jQ _ _ _ _ j5)),?_⟩
 try dsimp only [jX,jW]
 exact q
theorem GZ:FnScope ["self"] ["self"] (jG lR):=jU
include T in
theorem EF {f:Addr} {fd:FuncData} (F:Fun K "kind" "PumpLock.kind" lR f fd) : FnOk P w K mg base jP 1 f fd ["self"] (yM (jF cP cB cU) (fun kd _=>V.str (match kd with|.plain=>"plain"|.basin=>"basin"|.pump=>"pump")) .pump):=by
 refine F.ok2 GZ fun vs H Q E h=>?_
 obtain ⟨x,n,h₁,l,room,v,rfl,⟨dx,hx⟩,q⟩:=h
 refine ⟨rfl,fun _ _ _ _ hr=>?_⟩
 refine ⟨_,(@jK _ _ _ (@jQ _ _ _ _ j5)),?_⟩
 try dsimp only [jX,jW]
 exact q
theorem GQ:FnScope ["self"] ["self"] (jG lK):=jU
include T in
theorem D8 {f:Addr} {fd:FuncData} (F:Fun K "extra" "PlainLock.extra" lK f fd) : FnOk P w K mg base jP 1 f fd ["self"] (yM (jF cP cB cU) (fun kd v=>V.int (match kd with|.plain=>0|.basin=>v|.pump=>v)) .plain):=by
 refine F.ok2 GQ fun vs H Q E h=>?_
 obtain ⟨x,n,h₁,l,room,v,rfl,⟨dx,hx⟩,q⟩:=h
 refine ⟨rfl,fun _ _ _ _ hr=>?_⟩
 refine ⟨_,(@jK _ _ _ (@jQ _ _ _ _ jD)),?_⟩
 try dsimp only [jX,jW]
 exact q
theorem GA:FnScope ["self"] ["self"] (jG i6):=jU
include T in
theorem DK {f:Addr} {fd:FuncData} (F:Fun K "extra" "BasinLock.extra" i6 f fd) : FnOk P w K mg base jP 1 f fd ["self"] (yM (jF cP cB cU) (fun kd v=>V.int (match kd with|.plain=>0|.basin=>v|.pump=>v)) .basin):=by
 refine F.ok2 GA fun vs H Q E h=>?_
 obtain ⟨x,n,h₁,l,room,v,rfl,⟨dx,hx⟩,q⟩:=h
 refine ⟨rfl,fun _ _ _ _ hr=>?_⟩
 refine ⟨_,(@jK _ _ _ (@jQ _ _ _ _ (j6 K (pv 0) rfl))),?_⟩
 try dsimp only [jX,jW]
 exact (jA rfl (j8 hx (T.cl .basin) (T.n_side) (dP _ _ _ _ _ _) (q)))
theorem GX:FnScope ["self"] ["self"] (jG lP):=jU
include T in
theorem ED {f:Addr} {fd:FuncData} (F:Fun K "extra" "PumpLock.extra" lP f fd) : FnOk P w K mg base jP 1 f fd ["self"] (yM (jF cP cB cU) (fun kd v=>V.int (match kd with|.plain=>0|.basin=>v|.pump=>v)) .pump):=by
 refine F.ok2 GX fun vs H Q E h=>?_
 obtain ⟨x,n,h₁,l,room,v,rfl,⟨dx,hx⟩,q⟩:=h
 refine ⟨rfl,fun _ _ _ _ hr=>?_⟩
 refine ⟨_,(@jK _ _ _ (@jQ _ _ _ _ (j6 K (pv 0) rfl))),?_⟩
 try dsimp only [jX,jW]
 exact (jA rfl (j8 hx (T.cl .pump) (T.n_lift) (dP _ _ _ _ _ _) (q)))
theorem GS:FnScope ["self","basin"] ["self","basin"] (jG lL):=jU
include T in
theorem D9 {f:Addr} {fd:FuncData} (F:Fun K "fill_parts" "PlainLock.fill_parts" lL f fd) (D_parts_not_nought:Def P w K mg base 1 "parts_not_nought" ["parts"] [] (bP K)):FnOk P w K mg base jP 2 f fd ["self","basin"] (yJ (jF cP cB cU) JG .plain):=by
 refine F.ok2 GS fun vs H Q E h=>?_
 obtain ⟨x,n,h₁,l,room,v,b,rfl,⟨dx,hx⟩,q⟩:=h
 refine ⟨rfl,fun _ _ _ _ hr=>?_⟩
 refine ⟨_,(@jK _ _ _ (@jQ _ _ _ _ (jO D_parts_not_nought hr rfl (jB (qR (jB (kQ (jB j5 (jB (j6 K (pv 0) rfl) jC))) jC)) jC)))),?_⟩
 try dsimp only [jX,jW]
 refine (jA rfl (j8 hx (T.cl .plain) (T.n_room .plain) (bG .plain _ _ _ _ _) (⟨zz2,fun tp htp=>⟨zz1,fun lp hlp=>?_⟩⟩)))
 have s1:=jI htp (.tup [.str "high",.int room])
 have s2:=jI hlp (.lst [V.ref tp])
 refine (vS lp ([.ref tp]) ([("high",room)]) (yI rfl (SqL.of jE) (PartsAt.nil.snoc (s2 _ _ jE)) (by show 1≤10;decide) (fun rr H' rs' sm hrr0 hrr hP=>?_)))
 exact q rr H' rs' ((s1.trans s2).trans sm) ((s1.trans s2).free hrr0) hrr hP
theorem GB:FnScope ["self","basin"] ["self","basin"] (jG i7):=jU
include T in
theorem DL {f:Addr} {fd:FuncData} (F:Fun K "fill_parts" "BasinLock.fill_parts" i7 f fd) (D_parts_not_nought:Def P w K mg base 1 "parts_not_nought" ["parts"] [] (bP K)):FnOk P w K mg base jP 2 f fd ["self","basin"] (yJ (jF cP cB cU) JG .basin):=by
 refine F.ok2 GB fun vs H Q E h=>?_
 obtain ⟨x,n,h₁,l,room,v,b,rfl,⟨dx,hx0⟩,q⟩:=h
 refine ⟨rfl,fun _ _ _ _ hr=>?_⟩
 refine ⟨_,(@jK _ _ _ (@jQ _ _ _ _ (jO D_parts_not_nought hr rfl (jB (qR (jB (kQ (jB j5 (jB (pv 1) jC))) (jB (kQ (jB j5 (jB (@jJ _ _ _ _ _ _ _ _ zT (j6 K (pv 0) rfl) (pv 1)) jC))) jC))) jC)))),?_⟩
 try dsimp only [jX,jW]
 refine (jA rfl (⟨zz2,fun tp htp=>?_⟩))
 have s1:=jI htp (.tup [.str "basin",.int b])
 have hx:=s1 _ _ hx0
 refine (jA rfl (j8 hx (T.cl .basin) (T.n_room .basin) (bG .basin _ _ _ _ _) ((jA rfl (j7 (⟨zz2,fun tq htq=>⟨zz2,fun lp hlp=>?_⟩⟩))))))
 have s2:=jI htq (.tup [.str "high",.int (room - b)])
 have s3:=jI hlp (.lst [V.ref tp,V.ref tq])
 refine (vS lp ([.ref tp,.ref tq]) ([("basin",b),("high",room - b)]) (yI rfl (SqL.of jE) ((PartsAt.nil.snoc (s3 _ _ (s2 _ _ jE))).snoc (s3 _ _ jE)) (by show 2≤10;decide) (fun rr H' rs' sm hrr0 hrr hP=>?_)))
 exact q rr H' rs' (((s1.trans s2).trans s3).trans sm) (((s1.trans s2).trans s3).free hrr0) hrr hP
theorem GY:FnScope ["self","basin"] ["self","basin"] (jG lQ):=jU
include T in
theorem EE {f:Addr} {fd:FuncData} (F:Fun K "fill_parts" "PumpLock.fill_parts" lQ f fd) (D_parts_not_nought:Def P w K mg base 1 "parts_not_nought" ["parts"] [] (bP K)):FnOk P w K mg base jP 2 f fd ["self","basin"] (yJ (jF cP cB cU) JG .pump):=by
 refine F.ok2 GY fun vs H Q E h=>?_
 obtain ⟨x,n,h₁,l,room,v,b,rfl,⟨dx,hx0⟩,q⟩:=h
 refine ⟨rfl,fun _ _ _ _ hr=>?_⟩
 refine ⟨_,(@jK _ _ _ (@jQ _ _ _ _ (jO D_parts_not_nought hr rfl (jB (qR (jB (kQ (jB j5 (jB (j6 K (pv 0) rfl) jC))) (jB (kQ (jB j5 (jB (@jJ _ _ _ _ _ _ _ _ zT (j6 K (pv 0) rfl) (j6 K (pv 0) rfl)) jC))) jC))) jC)))),?_⟩
 try dsimp only [jX,jW]
 refine (jA rfl (j8 hx0 (T.cl .pump) (T.n_lift) (dP _ _ _ _ _ _) (⟨zz2,fun tp htp=>?_⟩)))
 have s1:=jI htp (.tup [.str "low",.int v])
 have hx:=s1 _ _ hx0
 refine (jA rfl (j8 hx (T.cl .pump) (T.n_room .pump) (bG .pump _ _ _ _ _) ((jA rfl (j8 hx (T.cl .pump) (T.n_lift) (dP _ _ _ _ _ _) (j7 (⟨zz2,fun tq htq=>⟨zz2,fun lp hlp=>?_⟩⟩)))))))
 have s2:=jI htq (.tup [.str "high",.int (room - v)])
 have s3:=jI hlp (.lst [V.ref tp,V.ref tq])
 refine (vS lp ([.ref tp,.ref tq]) ([("low",v),("high",room - v)]) (yI rfl (SqL.of jE) ((PartsAt.nil.snoc (s3 _ _ (s2 _ _ jE))).snoc (s3 _ _ jE)) (by show 2≤10;decide) (fun rr H' rs' sm hrr0 hrr hP=>?_)))
 exact q rr H' rs' (((s1.trans s2).trans s3).trans sm) (((s1.trans s2).trans s3).free hrr0) hrr hP
theorem GU:FnScope ["self","basin"] ["self","basin"] (jG lN):=jU
include T in
theorem EB {f:Addr} {fd:FuncData} (F:Fun K "let_parts" "PlainLock.let_parts" lN f fd) (D_parts_not_nought:Def P w K mg base 1 "parts_not_nought" ["parts"] [] (bP K)):FnOk P w K mg base jP 2 f fd ["self","basin"] (NW (jF cP cB cU)):=by
 refine F.ok2 GU fun vs H Q E h=>?_
 obtain ⟨kd,x,n,h₁,l,room,v,b,rfl,⟨dx,hx⟩,q⟩:=h
 refine ⟨rfl,fun _ _ _ _ hr=>?_⟩
 refine ⟨_,(@jK _ _ _ (@jQ _ _ _ _ (jO D_parts_not_nought hr rfl (jB (qR (jB (kQ (jB j5 (jB (j6 K (pv 0) rfl) jC))) jC)) jC)))),?_⟩
 try dsimp only [jX,jW]
 refine (jA rfl (j8 hx (T.cl kd) (T.n_room kd) (bG kd _ _ _ _ _) (⟨zz2,fun tp htp=>⟨zz1,fun lp hlp=>?_⟩⟩)))
 have s1:=jI htp (.tup [.str "low",.int room])
 have s2:=jI hlp (.lst [V.ref tp])
 refine (vS lp ([.ref tp]) ([("low",room)]) (yI rfl (SqL.of jE) (PartsAt.nil.snoc (s2 _ _ jE)) (by show 1≤10;decide) (fun rr H' rs' sm hrr0 hrr hP=>?_)))
 exact q rr H' rs' ((s1.trans s2).trans sm) ((s1.trans s2).free hrr0) hrr hP
theorem sA:FnScope ["self","basin","saved"] ["self","basin"] (jG lB):=jU
include T in
theorem DN {f:Addr} {fd:FuncData} (F:Fun K "let_parts" "BasinLock.let_parts" lB f fd) (D_parts_not_nought:Def P w K mg base 1 "parts_not_nought" ["parts"] [] (bP K)):FnOk P w K mg base jP 2 f fd ["self","basin"] (yJ (jF cP cB cU) JJ .basin):=by
 refine F.ok2 sA fun vs H Q E h=>?_
 obtain ⟨x,n,h₁,l,room,v,b,rfl,⟨dx,hx0⟩,q⟩:=h
 refine ⟨rfl,fun _ _ _ _ hr=>?_⟩
 refine ⟨_,(@jH _ _ _ _ _ (jZ (i:=2) sA.nd rfl (.inl rfl) (@jJ _ _ _ _ _ _ _ _ zT (j6 K (pv 0) rfl) (pv 1)))
   (@jK _ _ _ (@jQ _ _ _ _ (jO D_parts_not_nought hr rfl (jB (qR (jB (kQ (jB j5 (jB (pv 2) jC))) (jB (kQ (jB j5 (jB (@jJ _ _ _ _ _ _ _ _ zT (j6 K (pv 0) rfl) (pv 2)) jC))) jC))) jC))))),?_⟩
 try dsimp only [jX,jW]
 have hx:=hx0
 refine (jA rfl (j8 hx (T.cl .basin) (T.n_side) (dP _ _ _ _ _ _) ((jA rfl (j7 (?_))))))
 refine (jA rfl (⟨zz2,fun tp htp=>?_⟩))
 have s1:=jI htp (.tup [.str "basin",.int (v - b)])
 have hx:=s1 _ _ hx0
 refine (jA rfl (j8 hx (T.cl .basin) (T.n_room .basin) (bG .basin _ _ _ _ _) ((jA rfl (j7 (⟨zz2,fun tq htq=>⟨zz2,fun lp hlp=>?_⟩⟩))))))
 have s2:=jI htq (.tup [.str "low",.int (room - (v - b))])
 have s3:=jI hlp (.lst [V.ref tp,V.ref tq])
 refine (vS lp ([.ref tp,.ref tq]) ([("basin",v - b),("low",room - (v - b))]) (yI rfl (SqL.of jE) ((PartsAt.nil.snoc (s3 _ _ (s2 _ _ jE))).snoc (s3 _ _ jE)) (by show 2≤10;decide) (fun rr H' rs' sm hrr0 hrr hP=>?_)))
 exact q rr H' rs' (((s1.trans s2).trans s3).trans sm) (((s1.trans s2).trans s3).free hrr0) hrr hP
theorem GD:FnScope ["self","reaches","locks","nights"] ["self","reaches","locks","nights"] (jG ZJ):=jU
include T in
theorem DO {f:Addr} {fd:FuncData} {ds:List Value} (F:FunD K "__init__" "Canal.__init__" ZJ f fd ds) : FnOk P w K mg base jP 1 f fd ["self","reaches","locks","nights"] (nK (jF cP cB cU) cR cN):=by
 refine F.ok2 GD fun vs H Q E h=>?_
 obtain ⟨x,dx,rl,ll,nv,rs,ls,R,L,N,rfl,hx,hrl,hll,hR,hL,hN,q⟩:=h
 refine ⟨rfl,fun _ _ _ _ hr=>?_⟩
 refine ⟨_,(@jH _ _ _ _ _ (yU (pv 0) (yA (QR K) (by rfl) T.z_list PyProof.Rows.boot_list (jB (pv 1) jC)) rfl)
   (@jH _ _ _ _ _ (yU (pv 0) (yA (QR K) (by rfl) T.z_list PyProof.Rows.boot_list (jB (pv 2) jC)) rfl)
   (@jK _ _ _ (yU (pv 0) (J9 (kO PF (pv 3) iH) (qR jC) (yK ["night"] (kZ 1 []) rfl (qO (jG ZJ)) (cps 1 []) (vC (pv 3)) (fun _ _ _ _ _=>(kC (i:=0) (show List.Nodup (["night"]:List Str) from by decide +kernel) rfl (.inl rfl))) (fun _ _ _ _ _=>vY) (fun _ _ _ _ _=>(yA (QR K) (by rfl) T.z_list PyProof.Rows.boot_list (jB (pv 0) jC))))) rfl)))),?_⟩
 try dsimp only [jX,jW]
 have ln:∀(f:Str) (z:V) (fs:List (Str×V)) (m:Nat),fs.length≤m→(jV f z fs).length≤m+1:=fun f z fs m h=>Nat.le_trans (JM f z fs) (by omega)
 have nrx:rl≠x:=JV hrl hx (fun z=>nomatch z)
 have nlx:ll≠x:=JV hll hx (fun z=>nomatch z)
 refine (jA rfl (⟨rl,jA rfl (⟨.inl (SqL.of hrl),fun r2 hr20=>?_⟩)⟩))
 have s1:=jI hr20 (.lst rs)
 have nr2:r2≠x:=(q8 hx hr20).symm
 refine (jA rfl (⟨x,cN,dx,jA rfl (⟨s1 _ _ hx,T.clN,T.nN_reaches,(by show 0<1000;decide),?_⟩)⟩))
 have k1:Keep x H (upd (upd H r2 (.lst rs)) x (.ins cN dx (jV "reaches" (.ref r2) []))):=(Keep.of s1).upd _
 have hr2:upd (upd H r2 (.lst rs)) x (.ins cN dx (jV "reaches" (.ref r2) [])) r2=some (.lst rs):=by rw [jL nr2];exact jE
 have hx1:upd (upd H r2 (.lst rs)) x (.ins cN dx (jV "reaches" (.ref r2) [])) x=some (.ins cN dx (jV "reaches" (.ref r2) [])):=jE
 generalize upd (upd H r2 (.lst rs)) x (.ins cN dx (jV "reaches" (.ref r2) []))=H1 at k1 hr2 hx1 ⊢
 have l1:=ln "reaches" (.ref r2) [] 0 (Nat.le_refl _)
 refine (jA rfl (⟨ll,jA rfl (⟨.inl (SqL.of (k1 _ _ nlx hll)),fun l2 hl20=>?_⟩)⟩))
 have s2:=jI hl20 (.lst ls)
 have nl2:l2≠x:=(q8 hx1 hl20).symm
 refine (jA rfl (⟨x,cN,dx,jA rfl (⟨s2 _ _ hx1,T.clN,T.nN_locks,by omega,?_⟩)⟩))
 have l2':=ln "locks" (.ref l2) _ _ l1
 have k2:Keep x H (upd (upd H1 l2 (.lst ls)) x (.ins cN dx (jV "locks" (.ref l2) (jV "reaches" (.ref r2) [])))):=(k1.trans (Keep.of s2)).upd _
 have hr2b:upd (upd H1 l2 (.lst ls)) x (.ins cN dx (jV "locks" (.ref l2) (jV "reaches" (.ref r2) []))) r2=some (.lst rs):=by rw [jL nr2];exact s2 _ _ hr2
 have hl2:upd (upd H1 l2 (.lst ls)) x (.ins cN dx (jV "locks" (.ref l2) (jV "reaches" (.ref r2) []))) l2=some (.lst ls):=by rw [jL nl2];exact jE
 have hx2:upd (upd H1 l2 (.lst ls)) x (.ins cN dx (jV "locks" (.ref l2) (jV "reaches" (.ref r2) []))) x=some (.ins cN dx (jV "locks" (.ref l2) (jV "reaches" (.ref r2) []))):=jE
 generalize upd (upd H1 l2 (.lst ls)) x (.ins cN dx (jV "locks" (.ref l2) (jV "reaches" (.ref r2) [])))=H2 at k2 hr2b hl2 hx2 ⊢
 have frR:∀D:List Addr,(∀d∈D,H d≠none)→r2∉D:=fun D hD z=>hD _ z hr20
 have frL:∀D:List Addr,(∀d∈D,H d≠none)→l2∉D:=fun D hD z=>by
  by_cases e:l2=x
  ·exact nl2 e
  ·cases hh:H l2 with
   |none=>exact hD _ z hh
   |some o=>rw [k1 _ _ e hh] at hl20;cases hl20
 have done:∀(n2:Addr) (ns:List V) (H3:Hp),Keep x H2 H3→H2 n2=none→H3 x=some (.ins cN dx (jV "locks" (.ref l2) (jV "reaches" (.ref r2) [])))→H3 n2=some (.lst ns)→(∀D:List Addr,(∀d∈D,H2 d≠none)→AllAt (NAt D H3) ns N)→Q .non (upd H3 x (.ins cN dx (jV "nights" (.ref n2) (jV "locks" (.ref l2) (jV "reaches" (.ref r2) []))))):=by
  intro n2 ns H3 k3 hn20 hx3 hn2 hNs
  have kf:Keep x H (upd H3 x (.ins cN dx (jV "nights" (.ref n2) (jV "locks" (.ref l2) (jV "reaches" (.ref r2) []))))):=(k2.trans k3).upd _
  have kl:Keep x H3 (upd H3 x (.ins cN dx (jV "nights" (.ref n2) (jV "locks" (.ref l2) (jV "reaches" (.ref r2) []))))):=(Keep.refl x H3).upd _
  have nn2:n2≠x:=fun z=>by rw [z,hx2] at hn20;cases hn20
  have old:∀d,H d≠none→H2 d≠none:=fun d hd=>by
   by_cases e:d=x
   ·rw [e,hx2];exact fun z=>nomatch z
   ·cases hh:H d with
    |none=>exact absurd hh hd
    |some o=>rw [k2 _ _ e hh];exact fun z=>nomatch z
  refine q _ kf fun D hD=>⟨dx,r2,l2,n2,_,rs,ls,ns,jE,K9 _ _ _,?_,?_,?_,hR.mono (RcO.keepI kf hx),hL.mono (LkO.keepI kf hx),?_,frR D hD,frL D hD,fun z=>old _ (hD _ z) hn20⟩
  ·rw [jL nr2];exact k3 _ _ nr2 hr2b
  ·rw [jL nl2];exact k3 _ _ nl2 hl2
  ·rw [jL nn2];exact hn2
  ·refine (hNs D (fun d hd=>old d (hD d hd))).mono ?_
   rintro v p ⟨l,qs,e1,e2,e3,e4⟩
   exact ⟨l,qs,e1,kl _ _ (fun z=>by rw [z,hx3] at e2;cases e2) e2,e3.mono (QAt.keep kl hx3 (fun _ z=>nomatch z)),e4⟩
 refine ⟨_,rfl,rfl,jA rfl (?_)⟩
 rcases hN with ⟨rfl,rfl⟩|⟨nl,ns,rfl,hnl,hN,hnl100⟩
 ·refine vD rfl ⟨zz0,fun n2 hn20=>?_⟩
  have s3:=jI hn20 (.lst [])
  refine (jA rfl (⟨x,cN,dx,jA rfl (⟨s3 _ _ hx2,T.clN,T.nN_nights,by omega,?_⟩)⟩))
  exact done n2 [] _ (Keep.of s3) hn20 (s3 _ _ hx2) jE (fun D _=>AllAt.nil)
 ·have nnx:nl≠x:=JV hnl hx (fun z=>nomatch z)
  have hnl2:=k2 _ _ nnx hnl
  have hN2:AllAt (NAt [] H2) ns N:=hN.mono fun v p=>by
   rintro ⟨l,qs,e1,e2,e3,e4⟩
   exact ⟨l,qs,e1,k2 _ _ (JV e2 hx (fun z=>nomatch z)) e2,e3.mono (QAt.keep k2 hx (fun _ z=>nomatch z)),e4⟩
  refine qV (fun z=>nomatch z) (jA rfl (⟨nl,rfl,⟨_,SqL.of hnl2⟩,fun n2 hn20=>?_⟩))
  refine J4 (K:=K) (a:=nl) (xs:=ns) (caps:=[]) (fun i ys Hi=>(∀D:List Addr,n2∈D→(∀d∈D,d≠n2→H2 d≠none)→AllAt (NAt D Hi) ys (N.take i))) hn20 (SqL.of hnl2) (fun D _ _=>AllAt.nil) ?_ ?_
  ·rintro i v ys Hi hv hi hle sm hY hI
   obtain ⟨p,hp,l,qs,rfl,hl,hq,_⟩:=hN2.2 i v hv
   refine v0 (kT ?_)
   refine (jA rfl (⟨l,qs,rfl,.inl (SqL.of (sm _ _ hl)),fun c hc0=>?_⟩))
   have u:=jI hc0 (.lst qs)
   refine v9 hn20 sm hY hle (by omega) u ?_
   intro D hnD hD
   rw [List.take_add_one,hp]
   refine (((hI D hnD hD).mono (NAt.same u)).snoc (v:=.ref c) (x:=p) ⟨c,qs,rfl,jE,(hq.mono (QAt.same sm)).mono (QAt.same u),fun z=>?_⟩).mono (NAt.put (u _ _ hY) hnD)
   by_cases e:c=n2
   ·rw [e,hY] at hc0;cases hc0
   ·cases hh:H2 c with
    |none=>exact hD _ z e hh
    |some o=>rw [sm _ _ hh] at hc0;cases hc0
  rintro ys H3 s3 hY hle hI
  rw [hN2.1,List.take_length] at hI
  refine (jA rfl (⟨x,cN,dx,jA rfl (⟨s3 _ _ hx2,T.clN,T.nN_nights,by omega,?_⟩)⟩))
  exact done n2 ys H3 (Keep.of s3) hn20 (s3 _ _ hx2) hY (fun D hD=>(hI (n2::D) List.mem_cons_self (fun d hd ne=>(List.mem_cons.mp hd).elim (fun z=>absurd z ne) (hD d))).mono (NAt.less (fun d hd=>List.mem_cons_of_mem _ hd)))
theorem GI:FnScope ["self"] ["self"] (jG lG):=jU
include T in
theorem DT {f:Addr} {fd:FuncData} (F:Fun K "sea" "Canal.sea" lG f fd) : FnOk P w K mg base jP 1 f fd ["self"] (JH (jF cP cB cU) cR cN zC):=by
 refine F.ok2 GI fun vs H Q E h=>?_
 obtain ⟨x,D,R,L,N,rfl,⟨dx,rl,ll,nl,fs,rs,ls,ns,hx,hf,hrl,hll,hnl,hR,hL,hN,d1,d2,d3⟩,q⟩:=h
 refine ⟨rfl,fun _ _ _ _ hr=>?_⟩
 refine ⟨_,(@jK _ _ _ (@jQ _ _ _ _ (@jJ _ _ _ _ _ _ _ _ kH (kP (qD K) (by rfl) T.z_len PySem.boot_len (jB (j6 K (pv 0) rfl) jC)) (@jJ _ _ _ _ _ _ _ _ qG jD (kP (qD K) (by rfl) T.z_len PySem.boot_len (jB (j6 K (pv 0) rfl) jC)))))),?_⟩
 try dsimp only [jX,jW]
 refine (jA rfl (j8 hx (T.clN) (T.nN_reaches) (hf.1) (⟨_,jA rfl (⟨.inl (SqL.of hrl),jA rfl (j8 hx (T.clN) (T.nN_locks) (hf.2.1) (⟨_,jA rfl (⟨.inl (SqL.of hll),_,_,rfl,rfl,.inl ⟨by decide,by decide⟩,_,_,rfl,rfl,?_⟩)⟩))⟩)⟩)))
 rw [hR.1,hL.1]
 exact q
theorem GJ:FnScope ["self"] ["self"] (jG lH):=jU
include T in
theorem DU {f:Addr} {fd:FuncData} (F:Fun K "sky" "Canal.sky" lH f fd) (MM_Canal_sea:MeD P w K mg base 1 cN "sea" ["self"] (JH (jF cP cB cU) cR cN zC)):FnOk P w K mg base jP 2 f fd ["self"] (JH (jF cP cB cU) cR cN bU):=by
 refine F.ok2 GJ fun vs H Q E h=>?_
 obtain ⟨x,D,R,L,N,rfl,hc,q⟩:=h
 refine ⟨rfl,fun _ _ _ _ hr=>?_⟩
 refine ⟨_,(@jK _ _ _ (@jQ _ _ _ _ (@jJ _ _ _ _ _ _ _ _ kH (QH MM_Canal_sea hr (pv 0)) jD))),?_⟩
 try dsimp only [jX,jW]
 have hc0:=hc
 obtain ⟨dx,rl,ll,nl,fs,rs,ls,ns,hx,hf,hrl,hll,hnl,hR,hL,hN,d1,d2,d3⟩:=hc
 exact (jA rfl (⟨x,dx,jA rfl (⟨hx,hf.no (by decide +kernel) (by decide +kernel) (by decide +kernel),x,D,R,L,N,rfl,hc0,_,_,rfl,rfl,q⟩)⟩))
theorem GH:FnScope ["self"] ["self"] (jG lF):=jU
include T in
theorem DS {f:Addr} {fd:FuncData} (F:Fun K "many" "Canal.many" lF f fd) (MM_Canal_sky:MeD P w K mg base 2 cN "sky" ["self"] (JH (jF cP cB cU) cR cN bU)):FnOk P w K mg base jP 3 f fd ["self"] (JH (jF cP cB cU) cR cN eA):=by
 refine F.ok2 GH fun vs H Q E h=>?_
 obtain ⟨x,D,R,L,N,rfl,hc,q⟩:=h
 refine ⟨rfl,fun _ _ _ _ hr=>?_⟩
 refine ⟨_,(@jK _ _ _ (@jQ _ _ _ _ (@jJ _ _ _ _ _ _ _ _ kH (QH MM_Canal_sky hr (pv 0)) jD))),?_⟩
 try dsimp only [jX,jW]
 have hc0:=hc
 obtain ⟨dx,rl,ll,nl,fs,rs,ls,ns,hx,hf,hrl,hll,hnl,hR,hL,hN,d1,d2,d3⟩:=hc
 exact (jA rfl (⟨x,dx,jA rfl (⟨hx,hf.no (by decide +kernel) (by decide +kernel) (by decide +kernel),x,D,R,L,N,rfl,hc0,_,_,rfl,rfl,q⟩)⟩))
theorem GF:FnScope ["self","k"] ["self","k"] (jG lD):=jU
include T in
theorem DQ {f:Addr} {fd:FuncData} (F:Fun K "chamber" "Canal.chamber" lD f fd) : FnOk P w K mg base jP 1 f fd ["self","k"] (QG (jF cP cB cU) cR cN zJ):=by
 refine F.ok2 GF fun vs H Q E h=>?_
 obtain ⟨x,D,R,L,N,k,rfl,⟨dx,rl,ll,nl,fs,rs,ls,ns,hx,hf,hrl,hll,hnl,hR,hL,hN,d1,d2,d3⟩,q⟩:=h
 refine ⟨rfl,fun _ _ _ _ hr=>?_⟩
 refine ⟨_,(@jK _ _ _ (@jQ _ _ _ _ (@jJ _ _ _ _ _ _ _ _ kH (kP (qD K) (by rfl) T.z_len PySem.boot_len (jB (j6 K (pv 0) rfl) jC)) (pv 1)))),?_⟩
 try dsimp only [jX,jW]
 refine (jA rfl (j8 hx (T.clN) (T.nN_reaches) (hf.1) (⟨_,jA rfl (⟨.inl (SqL.of hrl),jA rfl (j7 (?_))⟩)⟩)))
 rw [hR.1]
 exact q
theorem GE:FnScope ["self","k"] ["self","k"] (jG lC):=jU
include T in
theorem DP {f:Addr} {fd:FuncData} (F:Fun K "basin" "Canal.basin" lC f fd) : FnOk P w K mg base jP 1 f fd ["self","k"] (QG (jF cP cB cU) cR cN yH):=by
 refine F.ok2 GE fun vs H Q E h=>?_
 obtain ⟨x,D,R,L,N,k,rfl,⟨dx,rl,ll,nl,fs,rs,ls,ns,hx,hf,hrl,hll,hnl,hR,hL,hN,d1,d2,d3⟩,q⟩:=h
 refine ⟨rfl,fun _ _ _ _ hr=>?_⟩
 refine ⟨_,(@jK _ _ _ (@jQ _ _ _ _ (@jJ _ _ _ _ _ _ _ _ kH (@jJ _ _ _ _ _ _ _ _ kH (kP (qD K) (by rfl) T.z_len PySem.boot_len (jB (j6 K (pv 0) rfl) jC)) (kP (qD K) (by rfl) T.z_len PySem.boot_len (jB (j6 K (pv 0) rfl) jC))) (pv 1)))),?_⟩
 try dsimp only [jX,jW]
 refine (jA rfl (j8 hx (T.clN) (T.nN_reaches) (hf.1) (⟨_,jA rfl (⟨.inl (SqL.of hrl),jA rfl (j8 hx (T.clN) (T.nN_locks) (hf.2.1) (⟨_,jA rfl (⟨.inl (SqL.of hll),_,_,rfl,rfl,jA rfl (j7 (?_))⟩)⟩))⟩)⟩)))
 rw [hR.1,hL.1]
 exact q
theorem GL:FnScope ["self"] ["self"] (jG eT):=jU
include T in
theorem DW {f:Addr} {fd:FuncData} (F:Fun K "weirs" "Canal.weirs" eT f fd) (MM_Canal_sea:MeD P w K mg base 1 cN "sea" ["self"] (JH (jF cP cB cU) cR cN zC)):FnOk P w K mg base jP 2 f fd ["self"] (dF (jF cP cB cU) cR cN):=by
 refine F.ok2 GL fun vs H Q E h=>?_
 obtain ⟨x,D,R,L,N,rfl,hc,hR100,q⟩:=h
 refine ⟨rfl,fun _ _ _ _ hr=>?_⟩
 refine ⟨_,(@jK _ _ _ (@jQ _ _ _ _ (yK ["reach","self"] (kZ 1 [0]) rfl (qO (jG eT)) (cps 1 [0]) (vC (j6 K (pv 0) rfl)) (fun _ _ _ _ _=>(kC (i:=0) (show List.Nodup (["reach","self"]:List Str) from by decide +kernel) rfl (.inl rfl))) (fun _ _ _ _ _=>vY) (fun _ _ _ _ _=>(kQ (jB (j6 K (pv 0) rfl) (jB (J9 (kO qM (j6 K (pv 0) rfl) (dQ (v:=.int (-1)) rfl T.g_SEA ⟨_,rfl⟩)) (QH MM_Canal_sea hr (pv 1)) (j6 K (pv 0) rfl)) jC))))))),?_⟩
 try dsimp only [jX,jW]
 have hc0:=hc
 obtain ⟨dx,rl,ll,nl,fs,rs,ls,ns,hx,hf,hrl,hll,hnl,hR,hL,hN,d1,d2,d3⟩:=hc
 refine (jA rfl (j8 hx (T.clN) (T.nN_reaches) (hf.1) (⟨rl,rfl,⟨_,SqL.of hrl⟩,fun wl hwl0=>?_⟩)))
 refine J4 (K:=K) (a:=rl) (xs:=rs) (caps:=[some (.ref x)]) (fun i ys Hi=>AllAt (QAt Hi) ys ((R.take i).map (zQ (zC R.length L.length)))) hwl0 (SqL.of hrl) AllAt.nil ?_ ?_
 ·rintro i v ys Hi hv hi hle sm hY hW
  obtain ⟨r,hr,y,rfl,dy,gs,hy,hg⟩:=hR.2 i v hv
  have hy:=sm _ _ hy
  have hi100:i<100:=by rw [hR.1] at hi;omega
  refine v0 (kT ?_)
  refine (jA rfl (j8 hy (T.clR) (T.nR_crest) (hg.2.2.1) ((jA rfl (j8 hy (T.clR) (T.nR_target) (hg.2.2.2.2.2) (⟨rfl,jA rfl (?_)⟩))))))
  have put:∀z:Int,z=(zQ (zC R.length L.length) r).2→∀tp,Hi tp=none→∃ys',upd Hi tp (.tup [.int r.crest,.int z]) wl=some (.lst ys')∧ys'.length<sizeLine∧QE H wl [some (.ref x)] (fun i ys Hi=>AllAt (QAt Hi) ys ((R.take i).map (zQ (zC R.length L.length)))) (i+1) [some (.ref y),some (.ref x)] (upd (upd Hi tp (.tup [.int r.crest,.int z])) wl (.lst (ys'++[.ref tp]))):=by
   intro z hz tp htp
   have u:=jI htp (.tup [V.int r.crest,V.int z])
   exact v9 (R:=fun i ys Hi=>AllAt (QAt Hi) ys ((R.take i).map (zQ (zC R.length L.length)))) (c:=some (.ref y)) (caps:=[some (.ref x)]) (v:=.ref tp) hwl0 sm hY hle (by omega) u (by
    rw [List.take_add_one,hr,List.map_append]
    exact ((hW.mono (QAt.same u)).snoc (v:=.ref tp) (x:=zQ (zC R.length L.length) r) ⟨tp,rfl,by rw [← hz];exact jE⟩).mono (QAt.put (u _ _ hY)))
  by_cases ht:r.target = -1
  ·refine vD (congrArg V.int ht) (jA rfl (⟨x,dx,jA rfl (⟨(sm _ _ hx),hf.no (by decide +kernel) (by decide +kernel) (by decide +kernel),zM x D R L N (v8 rfl (hc0.same sm) zz2 (fun tp htp=>?_))⟩)⟩))
   exact put _ (by unfold zQ;rw [if_pos ht]) tp htp
  ·refine qV (fun z=>ht (V.int.inj z)) (jA rfl (j8 hy (T.clR) (T.nR_target) (hg.2.2.2.2.2) (⟨zz2,fun tp htp=>?_⟩)))
   exact put _ (by unfold zQ;rw [if_neg ht]) tp htp
 rintro ys Hf sm hY hle hW
 rw [hR.1,List.take_length] at hW
 exact q wl ys Hf sm hwl0 hY hW
theorem m6:FnScope ["self","waters","others"] ["self"] (jG eS):=jU
include T in
theorem DV {f:Addr} {fd:FuncData} (F:Fun K "start" "Canal.start" eS f fd) (MM_Canal_many:MeD P w K mg base 3 cN "many" ["self"] (JH (jF cP cB cU) cR cN eA)) (D_settled:Def P w K mg base 4 "settled" ["weirs","waters"] [] (uG K)) (MM_Canal_weirs:MeD P w K mg base 2 cN "weirs" ["self"] (dF (jF cP cB cU) cR cN)):FnOk P w K mg base jP 5 f fd ["self"] (oN (jF cP cB cU) cR cN):=by
 refine F.ok2 m6 fun vs H Q E h=>?_
 obtain ⟨x,D,R,L,N,rfl,hc,hR100,hL100,hT,q⟩:=h
 refine ⟨rfl,fun _ _ _ _ hr=>?_⟩
 refine ⟨_,(@jH _ _ _ _ _ (zN (i:=1) ["reach"] (kZ 1 []) m6.nd rfl (.inl rfl) rfl (qO (jG eS)) (cps 1 []) (vC (j6 K (pv 0) rfl)) (fun _ _ _ _ _=>(kC (i:=0) (show List.Nodup (["reach"]:List Str) from by decide +kernel) rfl (.inl rfl))) (fun _ _ _ _ _=>vY) (fun _ _ _ _ _=>(j6 K (pv 0) rfl)))
   (@jH _ _ _ _ _ (jZ (i:=2) m6.nd rfl (.inl rfl) (@jJ _ _ _ _ _ _ _ _ BY (qR (jB jD jC)) (@jJ _ _ _ _ _ _ _ _ zT (QH MM_Canal_many hr (pv 0)) (kP (qD K) (by rfl) T.z_len PySem.boot_len (jB (pv 1) jC)))))
   (@jK _ _ _ (@jQ _ _ _ _ (jO D_settled hr rfl (jB (QH MM_Canal_weirs hr (pv 0)) (jB (@jJ _ _ _ _ _ _ _ _ QZ (pv 1) (pv 2)) jC))))))),?_⟩
 try dsimp only [jX,jW]
 have hc0:=hc
 obtain ⟨dx,rl,ll,nl,fs,rs,ls,ns,hx,hf,hrl,hll,hnl,hR,hL,hN,d1,d2,d3⟩:=hc
 refine (jA rfl (j8 hx (T.clN) (T.nN_reaches) (hf.1) (⟨rl,rfl,⟨_,SqL.of hrl⟩,fun wl hwl0=>?_⟩)))
 refine J4 (K:=K) (a:=rl) (xs:=rs) (caps:=[]) (fun i ys Hi=>ys=((R.take i).map (·.water)).map V.int) hwl0 (SqL.of hrl) rfl ?_ ?_
 ·rintro i v ys Hi hv hi hle sm hY rfl
  obtain ⟨r,hr,y,rfl,dy,gs,hy,hg⟩:=hR.2 i v hv
  have hy:=sm _ _ hy
  have hi100:i<100:=by rw [hR.1] at hi;omega
  refine v0 (kT (jA rfl (j8 hy (T.clR) (T.nR_water) (hg.2.2.2.2.1) (v9 hwl0 sm hY hle (by omega) (Same.refl _) ?_))))
  rw [List.take_add_one,hr,List.map_append,List.map_append]
  rfl
 rintro ys H1 s1 hwl hle rfl
 rw [hR.1,List.take_length] at hwl
 refine ⟨zz1,fun lp hlp=>?_⟩
 have s2:=jI hlp (.lst [V.int 0])
 have s12:=s1.trans s2
 refine (jA rfl (⟨x,dx,jA rfl (⟨(s12 _ _ hx),hf.no (by decide +kernel) (by decide +kernel) (by decide +kernel),zM x D R L N (yZ rfl (hc0.same s12) (jA rfl (⟨wl,jA rfl (⟨.inl (SqL.of (s2 _ _ hwl)),_,_,rfl,rfl,?_⟩)⟩)))⟩)⟩))
 have e1:eA R.length L.length - (((((R.map (·.water)).map V.int).length:Nat)):Int)=((2*L.length+2:Nat):Int):=by
  rw [List.length_map,List.length_map];unfold eA;omega
 try dsimp only
 rw [e1]
 refine ⟨lp,_,_,rfl,rfl,jE,by omega,by omega,?_,fun gp hgp=>?_⟩
 ·rw [Int.toNat_natCast,List.length_singleton,Nat.one_mul]
  exact small (by omega)
 rw [Int.toNat_natCast,wY]
 have s3:=jI hgp (.lst ((List.replicate (2*L.length+2) (0:Int)).map V.int))
 have s13:=s12.trans s3
 have hgp3:upd (upd H1 lp (.lst [V.int 0])) gp (.lst ((List.replicate (2*L.length+2) (0:Int)).map V.int)) gp=_:=jE
 have hwl3:=s3 _ _ (s2 _ _ hwl)
 generalize upd (upd H1 lp (.lst [V.int 0])) gp (.lst ((List.replicate (2*L.length+2) (0:Int)).map V.int))=H3 at s3 s13 hgp3 hwl3 ⊢
 refine (jA rfl (⟨x,dx,jA rfl (⟨(s13 _ _ hx),hf.no (by decide +kernel) (by decide +kernel) (by decide +kernel),zM x D R L N (v8 rfl (hc0.same s13) hR100 (fun wq ws H4 s4 hwq0 hwq hW=>?_))⟩)⟩))
 refine (jA rfl (jA rfl (⟨wl,gp,_,_,rfl,rfl,s4 _ _ hwl3,s4 _ _ hgp3,?_,fun al hal=>?_⟩)))
 ·rw [List.length_map,List.length_map,List.length_map,List.length_replicate]
  exact small (by omega)
 have e2:(R.map (·.water)).map V.int++(List.replicate (2*L.length+2) (0:Int)).map V.int=(JC R L.length).map V.int:=by unfold JC;rw [List.map_append]
 rw [e2]
 have s5:=jI hal (.lst ((JC R L.length).map V.int))
 have s15:=(s13.trans s4).trans s5
 refine ⟨wq,al,ws,kI R L.length,JC R L.length,rfl,⟨SqL.of (s5 _ _ hwq),wG hT (hW.mono (QAt.same s5)),.inl (SqL.of jE),cV hT,by rw [y0,dA];omega,by rw [dA];omega⟩,fun r H' gs s' hr0 hr hSp=>?_⟩
 exact q r H' gs (s15.trans s') (s15.free hr0) hr hSp
theorem GG:FnScope ["self","waters","k"] ["self","waters","k"] (jG lE):=jU
include T in
theorem DR {f:Addr} {fd:FuncData} (F:Fun K "full" "Canal.full" lE f fd) (MM_Canal_chamber:MeD P w K mg base 1 cN "chamber" ["self","k"] (QG (jF cP cB cU) cR cN zJ)):FnOk P w K mg base jP 2 f fd ["self","waters","k"] (gT (jF cP cB cU) cR cN):=by
 refine F.ok2 GG fun vs H Q E h=>?_
 obtain ⟨x,wa,D,R,L,N,ms,k,rfl,hc,hwa,hk,q⟩:=h
 refine ⟨rfl,fun _ _ _ _ hr=>?_⟩
 refine ⟨_,(@jK _ _ _ (@jQ _ _ _ _ (QN CL (jM (jT K) (pv 1) (Z3 MM_Canal_chamber hr (pv 0) (jB (pv 2) jC))) jD))),?_⟩
 try dsimp only [jX,jW]
 have hc0:=hc
 obtain ⟨dx,rl,ll,nl,fs,rs,ls,ns,hx,hf,hrl,hll,hnl,hR,hL,hN,d1,d2,d3⟩:=hc
 have hat:qT (ms.map V.int) (zJ R.length L.length (k:Int))=some (.int (ms.getD (R.length+k) 0)):=by
  rw [show zJ R.length L.length (k:Int)=((R.length+k:Nat):Int) by unfold zJ;omega]
  exact yL hk
 exact (jA rfl (jA rfl (⟨x,dx,jA rfl (⟨hx,hf.no (by decide +kernel) (by decide +kernel) (by decide +kernel),jA rfl (⟨x,D,R,L,N,jA rfl (⟨hc0,jR (SqT.of hwa) hat (j7 (q))⟩)⟩)⟩)⟩)))
theorem G5:FnScope ["lock","basin"] ["lock","basin"] (jG eY):=jU
include T in
theorem EX {f:Addr} {fd:FuncData} (F:Fun K "filling" "filling" eY f fd) (MP_fill_parts:MeK P w K mg base 2 (jF cP cB cU) "fill_parts" ["self","basin"] (yJ (jF cP cB cU) JG)):FnOk P w K mg base jP 3 f fd ["lock","basin"] (dG (jF cP cB cU) zB):=by
 refine F.ok2 G5 fun vs H Q E h=>?_
 obtain ⟨x,kd,n,h₁,l,room,v,b,rfl,⟨dx,hx⟩,q⟩:=h
 refine ⟨rfl,fun _ _ _ _ hr=>?_⟩
 refine ⟨_,(@jK _ _ _ (@jQ _ _ _ _ (yK ["giver","amount"] (kZ 2 []) rfl (qO (jG eY)) (cps 2 []) (vC (CK MP_fill_parts hr (pv 0) (jB (pv 1) jC))) (fun _ _ _ _ _=>(JB (n:=2) K rfl (kW (kC (i:=0) (show List.Nodup (["giver","amount"]:List Str) from by decide +kernel) rfl (.inl rfl)) (kW (kC (i:=1) (show List.Nodup (["giver","amount"]:List Str) from by decide +kernel) rfl (.inl rfl)) y7)))) (fun _ _ _ _ _=>vY) (fun _ _ _ _ _=>(kQ (@jB _ _ _ _ _ (pv 0) (@jB _ _ _ _ _ j5 (@jB _ _ _ _ _ (pv 1) jC (by rfl)) (by rfl)) (by rfl))))))),?_⟩
 try dsimp only [jX,jW]
 refine (jA rfl (⟨kd,x,dx,jA rfl (⟨hx,OR kd _ _ _ _ _,jA rfl (⟨x,n,h₁,vW l room v b (yZ rfl ⟨dx,hx⟩ (fun pl H1 rs s1 hpl0 hpl hP=>?_))⟩)⟩)⟩))
 have hplen:=uZ kd room v b
 refine ⟨pl,rfl,⟨_,SqL.of hpl⟩,fun D hD=>?_⟩
 have u0:=jI hD (.lst [])
 refine ZL (K:=K) (a:=pl) (xs:=rs) (fun i σ Hi=>∃(c1 c2:Option V) (ys:List V),σ=[c1,c2]∧Hi D=some (.lst ys)∧PoursS Hi ys ((JG kd room v b).take i |>.map (fun p=>(p.1,"chamber",p.2)))∧Same H1 Hi)
  (vS none none ([]) (v8 rfl jE PoursS.nil u0)) (fun i σ Hi _ ⟨_,_,_,_,_,_,s⟩=>SqL.of (s _ _ hpl)) ?_ ?_
 ·rintro i y σ Hi hy ⟨c1,c2,ys,rfl,hY,hA,sm⟩
  have hi:i<rs.length:=(List.getElem?_eq_some_iff.mp hy).1
  obtain ⟨t,sN,nN,rfl,hps,hT⟩:=hP.2 i y hy
  have hl:ys.length≤i:=by rw [hA.1,List.length_map];exact List.length_take_le _ _
  refine ⟨t,jA rfl (⟨SqT.of (sm _ _ hT),rfl,_,jA rfl (⟨_,_,rfl,rfl,?_⟩)⟩)⟩
  refine v0 (kT ?_)
  refine (jA rfl (jA rfl (⟨zz3,fun tp htp=>?_⟩)))
  have v1:∀o,Same Hi (upd Hi tp o):=fun o=>jI htp o
  refine ⟨ys,v1 _ _ _ hY,vX (by rw [hP.1] at hi;omega),_,_,ys++[.ref tp],rfl,jE,?_,qA hD (sm.trans (v1 _))⟩
  rw [sK hps]
  exact PoursS.keep ((Keep.refl D _).upd _) (v1 _ _ _ hY) ((hA.same (v1 _)).append (PoursS.one jE))
 ·rintro σ Hi ⟨c1,c2,ys,rfl,hY,hA,sm⟩
  rw [hP.1,List.take_length] at hA
  exact q D Hi ys (s1.trans sm) (s1.free hD) hY hA
theorem HG:FnScope ["lock","basin"] ["lock","basin"] (jG fB):=jU
include T in
theorem E8 {f:Addr} {fd:FuncData} (F:Fun K "letting" "letting" fB f fd) (MP_let_parts:MeK P w K mg base 2 (jF cP cB cU) "let_parts" ["self","basin"] (yJ (jF cP cB cU) JJ)):FnOk P w K mg base jP 3 f fd ["lock","basin"] (dG (jF cP cB cU) v6):=by
 refine F.ok2 HG fun vs H Q E h=>?_
 obtain ⟨x,kd,n,h₁,l,room,v,b,rfl,⟨dx,hx⟩,q⟩:=h
 refine ⟨rfl,fun _ _ _ _ hr=>?_⟩
 refine ⟨_,(@jK _ _ _ (@jQ _ _ _ _ (yK ["taker","amount"] (kZ 2 []) rfl (qO (jG fB)) (cps 2 []) (vC (CK MP_let_parts hr (pv 0) (jB (pv 1) jC))) (fun _ _ _ _ _=>(JB (n:=2) K rfl (kW (kC (i:=0) (show List.Nodup (["taker","amount"]:List Str) from by decide +kernel) rfl (.inl rfl)) (kW (kC (i:=1) (show List.Nodup (["taker","amount"]:List Str) from by decide +kernel) rfl (.inl rfl)) y7)))) (fun _ _ _ _ _=>vY) (fun _ _ _ _ _=>(kQ (@jB _ _ _ _ _ j5 (@jB _ _ _ _ _ (pv 0) (@jB _ _ _ _ _ (pv 1) jC (by rfl)) (by rfl)) (by rfl))))))),?_⟩
 try dsimp only [jX,jW]
 refine (jA rfl (⟨kd,x,dx,jA rfl (⟨hx,PZ kd _ _ _ _ _,jA rfl (⟨x,n,h₁,vW l room v b (yZ rfl ⟨dx,hx⟩ (fun pl H1 rs s1 hpl0 hpl hP=>?_))⟩)⟩)⟩))
 have hplen:=xG kd room v b
 refine ⟨pl,rfl,⟨_,SqL.of hpl⟩,fun D hD=>?_⟩
 have u0:=jI hD (.lst [])
 refine ZL (K:=K) (a:=pl) (xs:=rs) (fun i σ Hi=>∃(c1 c2:Option V) (ys:List V),σ=[c1,c2]∧Hi D=some (.lst ys)∧PoursS Hi ys ((JJ kd room v b).take i |>.map (fun p=>("chamber",p.1,p.2)))∧Same H1 Hi)
  (vS none none ([]) (v8 rfl jE PoursS.nil u0)) (fun i σ Hi _ ⟨_,_,_,_,_,_,s⟩=>SqL.of (s _ _ hpl)) ?_ ?_
 ·rintro i y σ Hi hy ⟨c1,c2,ys,rfl,hY,hA,sm⟩
  have hi:i<rs.length:=(List.getElem?_eq_some_iff.mp hy).1
  obtain ⟨t,sN,nN,rfl,hps,hT⟩:=hP.2 i y hy
  have hl:ys.length≤i:=by rw [hA.1,List.length_map];exact List.length_take_le _ _
  refine ⟨t,jA rfl (⟨SqT.of (sm _ _ hT),rfl,_,jA rfl (⟨_,_,rfl,rfl,?_⟩)⟩)⟩
  refine v0 (kT ?_)
  refine (jA rfl (jA rfl (⟨zz3,fun tp htp=>?_⟩)))
  have v1:∀o,Same Hi (upd Hi tp o):=fun o=>jI htp o
  refine ⟨ys,v1 _ _ _ hY,vX (by rw [hP.1] at hi;omega),_,_,ys++[.ref tp],rfl,jE,?_,qA hD (sm.trans (v1 _))⟩
  rw [sK hps]
  exact PoursS.keep ((Keep.refl D _).upd _) (v1 _ _ _ hY) ((hA.same (v1 _)).append (PoursS.one jE))
 ·rintro σ Hi ⟨c1,c2,ys,rfl,hY,hA,sm⟩
  rw [hP.1,List.take_length] at hA
  exact q D Hi ys (s1.trans sm) (s1.free hD) hY hA
theorem G6:FnScope ["vessel","pours"] ["vessel","pours"] (jG eZ):=jU
include T in
theorem EY {f:Addr} {fd:FuncData} (F:Fun K "given_by" "given_by" eZ f fd) : FnOk P w K mg base jP 1 f fd ["vessel","pours"] (AD):=by
 refine F.ok2 G6 fun vs H Q E h=>?_
 obtain ⟨s₁,p,rs,qs,rfl,hP,hA,hn,q⟩:=h
 refine ⟨rfl,fun _ _ _ _ hr=>?_⟩
 refine ⟨_,(@jK _ _ _ (@jQ _ _ _ _ (kP (oJ rfl) (by rfl) T.z_sum PyProof.Rows.boot_sum (jB (yK ["source","target","amount","vessel"] (kZ 3 [0]) rfl (qO (jG eZ)) (cps 3 [0]) (vC (pv 1)) (fun _ _ _ _ _=>(JB (n:=3) K rfl (kW (kC (i:=0) (show List.Nodup (["source","target","amount","vessel"]:List Str) from by decide +kernel) rfl (.inl rfl)) (kW (kC (i:=1) (show List.Nodup (["source","target","amount","vessel"]:List Str) from by decide +kernel) rfl (.inl rfl)) (kW (kC (i:=2) (show List.Nodup (["source","target","amount","vessel"]:List Str) from by decide +kernel) rfl (.inl rfl)) y7))))) (fun _ _ _ _ _=>(JP (kO qM (pv 0) (pv 3)))) (fun _ _ _ _ _=>(pv 2))) jC)))),?_⟩
 try dsimp only [jX,jW]
 refine (jA rfl (⟨p,rfl,⟨_,SqL.of hP⟩,fun D hD=>?_⟩))
 have u0:=jI hD (.lst [])
 refine ZL (K:=K) (a:=p) (xs:=rs) (fun i σ Hi=>∃(c1 c2 c3:Option V),σ=[c1,c2,c3,some (.str s₁)]∧Hi D=some (.lst ((QK (eK s₁) (qs.take i)).map V.int))∧Same H Hi)
  (vS none none none (yZ rfl jE u0)) (fun i σ Hi _ ⟨_,_,_,_,_,s⟩=>SqL.of (s _ _ hP)) ?_ ?_
 ·rintro i y σ Hi hy ⟨c1,c2,c3,rfl,hY,sm⟩
  have hi:i<rs.length:=(List.getElem?_eq_some_iff.mp hy).1
  obtain ⟨t,sS,sT,nN,rfl,hq,hT⟩:=hA.2 i y hy
  have hat:=t6 (eK s₁) qs i _ hq
  have hal:=wD (eK s₁) qs i
  refine ⟨t,jA rfl (⟨SqT.of (sm _ _ hT),rfl,_,jA rfl (⟨_,jA rfl (⟨_,_,rfl,rfl,?_⟩)⟩)⟩)⟩
  refine (jA rfl (⟨_,rfl,rfl,jA rfl (?_)⟩))
  rw [xS]
  by_cases c:(eK s₁) (sS,sT,nN)=true
  ·rw [if_pos c] at hat
   have c':=of_decide_eq_true c
   refine vD c' (jA rfl (⟨_,hY,vX (by rw [List.length_map];omega),_,_,jA rfl (⟨?_,qA hD sm⟩)⟩))
   rw [jE,hat,List.map_append]
   rfl
  ·rw [if_neg c,List.append_nil] at hat
   have c':¬_:=of_decide_eq_false (Bool.eq_false_iff.mpr c)
   refine qV c' ⟨_,_,jA rfl (⟨?_,sm⟩)⟩
   rw [hY,hat]
 ·rintro σ Hi ⟨c1,c2,c3,rfl,hY,sm⟩
  rw [hA.1,List.take_length] at hY
  exact ⟨D,jA rfl (⟨SqL.of hY,q Hi sm⟩)⟩
theorem sC:FnScope ["basin","pours","got"] ["basin","pours"] (jG eV):=jU
include T in
theorem ET {f:Addr} {fd:FuncData} (F:Fun K "basin_after" "basin_after" eV f fd) (D_given_by:Def P w K mg base 1 "given_by" ["vessel","pours"] [] (AD)):FnOk P w K mg base jP 2 f fd ["basin","pours"] (AE):=by
 refine F.ok2 sC fun vs H Q E h=>?_
 obtain ⟨b,p,rs,qs,rfl,hP,hA,hn,q⟩:=h
 refine ⟨rfl,fun _ _ _ _ hr=>?_⟩
 refine ⟨_,(@jH _ _ _ _ _ (jZ (i:=2) sC.nd rfl (.inl rfl) (kP (oJ rfl) (by rfl) T.z_sum PyProof.Rows.boot_sum (jB (yK ["source","target","amount"] (kZ 3 []) rfl (qO (jG eV)) (cps 3 []) (vC (pv 1)) (fun _ _ _ _ _=>(JB (n:=3) K rfl (kW (kC (i:=0) (show List.Nodup (["source","target","amount"]:List Str) from by decide +kernel) rfl (.inl rfl)) (kW (kC (i:=1) (show List.Nodup (["source","target","amount"]:List Str) from by decide +kernel) rfl (.inl rfl)) (kW (kC (i:=2) (show List.Nodup (["source","target","amount"]:List Str) from by decide +kernel) rfl (.inl rfl)) y7))))) (fun _ _ _ _ _=>(JP (kO qM (pv 1) j5))) (fun _ _ _ _ _=>(pv 2))) jC)))
   (@jK _ _ _ (@jQ _ _ _ _ (@jJ _ _ _ _ _ _ _ _ zT (@jJ _ _ _ _ _ _ _ _ kH (pv 0) (pv 2)) (jO D_given_by hr rfl (jB j5 (jB (pv 1) jC))))))),?_⟩
 try dsimp only [jX,jW]
 refine (jA rfl (⟨p,rfl,⟨_,SqL.of hP⟩,fun D hD=>?_⟩))
 have u0:=jI hD (.lst [])
 refine ZL (K:=K) (a:=p) (xs:=rs) (fun i σ Hi=>∃(c1 c2 c3:Option V),σ=[c1,c2,c3]∧Hi D=some (.lst ((QK (toS "basin") (qs.take i)).map V.int))∧Same H Hi)
  (vS none none none (yZ rfl jE u0)) (fun i σ Hi _ ⟨_,_,_,_,_,s⟩=>SqL.of (s _ _ hP)) ?_ ?_
 ·rintro i y σ Hi hy ⟨c1,c2,c3,rfl,hY,sm⟩
  have hi:i<rs.length:=(List.getElem?_eq_some_iff.mp hy).1
  obtain ⟨t,sS,sT,nN,rfl,hq,hT⟩:=hA.2 i y hy
  have hat:=t6 (toS "basin") qs i _ hq
  have hal:=wD (toS "basin") qs i
  refine ⟨t,jA rfl (⟨SqT.of (sm _ _ hT),rfl,_,jA rfl (⟨_,jA rfl (⟨_,_,rfl,rfl,?_⟩)⟩)⟩)⟩
  refine ⟨_,rfl,rfl,jA rfl (?_)⟩
  rw [xS]
  by_cases c:(toS "basin") (sS,sT,nN)=true
  ·rw [if_pos c] at hat
   have c':=of_decide_eq_true c
   refine vD c' (jA rfl (⟨_,hY,vX (by rw [List.length_map];omega),_,_,jA rfl (⟨?_,qA hD sm⟩)⟩))
   rw [jE,hat,List.map_append]
   rfl
  ·rw [if_neg c,List.append_nil] at hat
   have c':¬_:=of_decide_eq_false (Bool.eq_false_iff.mpr c)
   refine qV c' ⟨_,_,jA rfl (⟨?_,sm⟩)⟩
   rw [hY,hat]
 ·rintro σ Hi ⟨c1,c2,c3,rfl,hY,sm⟩
  rw [hA.1,List.take_length] at hY
  refine ⟨D,jA rfl (⟨SqL.of hY,?_⟩)⟩
  refine (jA rfl (jA rfl (j7 ((jA rfl (⟨"basin",vS p rs qs (yI rfl (sm _ _ hP) (hA.same sm) hn (fun H' s2=>⟨_,_,rfl,rfl,q H' (sm.trans s2)⟩))⟩))))))
theorem nB:FnScope ["lock","full","basin","way","made_ready"] ["lock","full","basin","way"] (jG mO):=jU
include T in
theorem FK {f:Addr} {fd:FuncData} (F:Fun K "passage" "passage" mO f fd) (D_letting:Def P w K mg base 3 "letting" ["lock","basin"] [] (dG (jF cP cB cU) v6)) (D_filling:Def P w K mg base 3 "filling" ["lock","basin"] [] (dG (jF cP cB cU) zB)) (D_basin_after:Def P w K mg base 2 "basin_after" ["basin","pours"] [] (AE)):FnOk P w K mg base jP 4 f fd ["lock","full","basin","way"] (uH (jF cP cB cU)):=by
 refine F.ok2 nB fun vs H Q E h=>?_
 obtain ⟨x,kd,n,h₁,l,room,v,b,f,w,rfl,hx,q⟩:=h
 refine ⟨rfl,fun _ _ _ _ hr=>?_⟩
 refine ⟨_,(@jH _ _ _ _ _ (qQ (kO qM (pv 3) j5) (@jH _ _ _ _ _ (jZ (i:=4) nB.nd rfl (.inl rfl) (J9 (QY (pv 1)) (jO D_letting hr rfl (jB (pv 0) (jB (pv 2) jC))) (qR jC)))
   (@jK _ _ _ (@jQ _ _ _ _ (@jJ _ _ _ _ _ _ _ _ QZ (pv 4) (jO D_filling hr rfl (jB (pv 0) (jB (jO D_basin_after hr rfl (jB (pv 2) (jB (pv 4) jC))) jC))))))) qP)
   (@jH _ _ _ _ _ (jZ (i:=4) nB.nd rfl (.inl rfl) (J9 (QY (pv 1)) (qR jC) (jO D_filling hr rfl (jB (pv 0) (jB (pv 2) jC)))))
   (@jK _ _ _ (@jQ _ _ _ _ (@jJ _ _ _ _ _ _ _ _ QZ (pv 4) (jO D_letting hr rfl (jB (pv 0) (jB (jO D_basin_after hr rfl (jB (pv 2) (jB (pv 4) jC))) jC)))))))),?_⟩
 try dsimp only [jX,jW]
 cases w with
 |true =>
  refine ⟨_,rfl,rfl,jA rfl (vD rfl ?_)⟩
  cases f with
  |true =>
   refine (jA rfl (jA rfl (kT (jA rfl (jA rfl (⟨x,kd,n,h₁,vW l room v b (yZ rfl hx (fun m H1 rs s1 hm0 hm hA=>?_))⟩))))))
   have hl:=ZR kd room v b
   have hl2:=dD kd room v (JR b (v6 kd room v b))
   refine (jA rfl (jA rfl (jA rfl (jA rfl (⟨b,m,rs,jA rfl (⟨hm,hA,by rw [hA.1];omega,fun H2 s2=>?_⟩)⟩)))))
   refine ⟨x,kd,n,h₁,l,room,v,jA rfl (⟨(hx.same s1).same s2,fun z H3 rs3 s3 hz0 hz hA3=>?_⟩)⟩
   refine ⟨m,z,_,_,rfl,rfl,s3 _ _ (s2 _ _ hm),hz,small (by rw [hA.1,hA3.1];omega),fun y hy0=>?_⟩
   have s4:=jI hy0 (.lst (rs++rs3))
   exact q y _ (rs++rs3) (((s1.trans s2).trans s3).trans s4) (((s1.trans s2).trans s3).free hy0) jE ((((hA.same s2).same s3).append hA3).same s4)
  |false =>
   refine (jA rfl (jA rfl (yG ⟨zz0,fun m hm0=>?_⟩)))
   have s1:=jI hm0 (.lst [])
   have hm:upd H m (.lst []) m=some (.lst []):=jE
   generalize upd H m (.lst [])=H1 at s1 hm ⊢
   refine (jA rfl (jA rfl (jA rfl (jA rfl ((vW b m ([]) ([]) (yI rfl hm PoursS.nil (by decide) (fun H2 s2=>?_))))))))
   rw [t7]
   refine ⟨x,kd,n,h₁,vW l room v b (yZ rfl ((hx.same s1).same s2) (fun z H3 rs3 s3 hz0 hz hA3=>?_))⟩
   refine ⟨m,z,_,_,rfl,rfl,s3 _ _ (s2 _ _ hm),hz,small (by rw [hA3.1];have:=dD kd room v b;have:=ZR kd room v b;show 0+_≤1000;omega),fun y hy0=>?_⟩
   have s4:=jI hy0 (.lst ([]++rs3))
   exact q y _ rs3 (((s1.trans s2).trans s3).trans s4) (((s1.trans s2).trans s3).free hy0) jE (hA3.same s4)
 |false =>
  refine ⟨_,rfl,rfl,jA rfl (qV P7 ?_)⟩
  cases f with
  |false =>
   refine (jA rfl (jA rfl (yG (jA rfl (jA rfl (⟨x,kd,n,h₁,vW l room v b (yZ rfl hx (fun m H1 rs s1 hm0 hm hA=>?_))⟩))))))
   have hl:=dD kd room v b
   have hl2:=ZR kd room v (JR b (zB kd room v b))
   refine (jA rfl (jA rfl (jA rfl (jA rfl (⟨b,m,rs,jA rfl (⟨hm,hA,by rw [hA.1];omega,fun H2 s2=>?_⟩)⟩)))))
   refine ⟨x,kd,n,h₁,l,room,v,jA rfl (⟨(hx.same s1).same s2,fun z H3 rs3 s3 hz0 hz hA3=>?_⟩)⟩
   refine ⟨m,z,_,_,rfl,rfl,s3 _ _ (s2 _ _ hm),hz,small (by rw [hA.1,hA3.1];omega),fun y hy0=>?_⟩
   have s4:=jI hy0 (.lst (rs++rs3))
   exact q y _ (rs++rs3) (((s1.trans s2).trans s3).trans s4) (((s1.trans s2).trans s3).free hy0) jE ((((hA.same s2).same s3).append hA3).same s4)
  |true =>
   refine (jA rfl (jA rfl (kT ⟨zz0,fun m hm0=>?_⟩)))
   have s1:=jI hm0 (.lst [])
   have hm:upd H m (.lst []) m=some (.lst []):=jE
   generalize upd H m (.lst [])=H1 at s1 hm ⊢
   refine (jA rfl (jA rfl (jA rfl (jA rfl ((vW b m ([]) ([]) (yI rfl hm PoursS.nil (by decide) (fun H2 s2=>?_))))))))
   rw [t7]
   refine ⟨x,kd,n,h₁,vW l room v b (yZ rfl ((hx.same s1).same s2) (fun z H3 rs3 s3 hz0 hz hA3=>?_))⟩
   refine ⟨m,z,_,_,rfl,rfl,s3 _ _ (s2 _ _ hm),hz,small (by rw [hA3.1];have:=dD kd room v b;have:=ZR kd room v b;show 0+_≤1000;omega),fun y hy0=>?_⟩
   have s4:=jI hy0 (.lst ([]++rs3))
   exact q y _ rs3 (((s1.trans s2).trans s3).trans s4) (((s1.trans s2).trans s3).free hy0) jE (hA3.same s4)
theorem HN:FnScope ["lock","side"] ["lock","side"] (jG mV):=jU
include T in
theorem FT {f:Addr} {fd:FuncData} (F:Fun K "step_ends" "step_ends" mV f fd) : FnOk P w K mg base jP 1 f fd ["lock","side"] (BO (jF cP cB cU)):=by
 refine F.ok2 HN fun vs H Q E h=>?_
 obtain ⟨y,l,b,rfl,⟨y₂,e,dl,hl⟩,q⟩:=h
 refine ⟨rfl,fun _ _ _ _ hr=>?_⟩
 refine ⟨_,(@jK _ _ _ (@jQ _ _ _ _ (J9 (kO qM (pv 1) j5) (kQ (jB (j6 K (pv 0) rfl) (jB (j6 K (pv 0) rfl) jC))) (kQ (jB (j6 K (pv 0) rfl) (jB (j6 K (pv 0) rfl) jC)))))),?_⟩
 try dsimp only [jX,jW]
 cases e
 refine ⟨_,rfl,rfl,jA rfl (?_)⟩
 rw [B7]
 cases b with
 |true=>exact kT (jA rfl (j8 hl (T.cl l.kd) (T.n_low l.kd) (bN l.kd _ _ _ _ _) ((jA rfl (j8 hl (T.cl l.kd) (T.n_high l.kd) (bH l.kd _ _ _ _ _) (⟨zz2,fun t ht=>q t _ (jI ht _) ht jE⟩))))))
 |false=>exact yG (jA rfl (j8 hl (T.cl l.kd) (T.n_high l.kd) (bH l.kd _ _ _ _ _) ((jA rfl (j8 hl (T.cl l.kd) (T.n_low l.kd) (bN l.kd _ _ _ _ _) (⟨zz2,fun t ht=>q t _ (jI ht _) ht jE⟩))))))
theorem cM:FnScope ["canal","start","steps","along","k","side","ends"] ["canal","start","steps"] (jG mH):=jU
include T in
theorem E9 {f:Addr} {fd:FuncData} (F:Fun K "linked" "linked" mH f fd) (D_step_ends:Def P w K mg base 1 "step_ends" ["lock","side"] [] (BO (jF cP cB cU))):FnOk P w K mg base (vF P w) 2 f fd ["canal","start","steps"] (wS K (jF cP cB cU) cR cN eL):=by
 refine F.okX2 cM fun vs H Q E h=>?_
 obtain ⟨x,st,s₁,us,ps,D,R,L,N,rfl,⟨dx,rl,ll,nl,fs,rs,ls,ns,hx,hf,hrl,hll,hnl,hR,hL,hN,d1,d2,d3⟩,hst,hP,hlt,h100,qv,qe⟩:=h
 refine ⟨rfl,fun _ _ _ _ hr=>?_⟩
 refine ⟨_,(@jH _ _ _ _ _ (jZ (i:=3) cM.nd rfl (.inl rfl) (qR (jB (pv 1) jC)))
   (@jH _ _ _ _ _ (zS BX rfl (O8 (pv 2)) (iF rfl (kW (kC (i:=4) cM.nd rfl (.inl rfl)) (kW (kC (i:=5) cM.nd rfl (.inl rfl)) y7)))
    (@jH _ _ _ _ _ (jZ (i:=6) cM.nd rfl (.inl rfl) (jO D_step_ends hr rfl (jB (jM (kN K) (j6 K (pv 0) rfl) (pv 4)) (jB (pv 5) jC))))
   (@jH _ _ _ _ _ (qQ (kO QI (jM (jT K) (pv 6) jD) (jM (kN K) (pv 3) (dZ dU jD))) (@jK _ _ _ (oR nW rfl rfl T.c_NotLinked T.x_NotLinked (jB j5 jC))) qP)
   (@jK _ _ _ (QP (ZZ PySem.F.plainAttrs_list PySem.F.slot_list_append PySem.F.type_list_append ZM (pv 3) (jB (jM (jT K) (pv 6) jD) jC)))))))
   (@jK _ _ _ (@jQ _ _ _ _ (pv 3))))),?_⟩
 try dsimp only [jX,jW]
 refine (jA rfl (⟨zz1,fun al hal0=>?_⟩))
 have s1:=jI hal0 (.lst [V.int s₁])
 refine ⟨_,rfl,st,rfl,⟨_,SqT.of (s1 _ _ hst)⟩,OO (K:=K) (a:=st) (xs:=us) (fun i σ Hi=>∃c4 c5 c6:Option V,σ=[some (.ref x),some (.int s₁),some (.ref st),some (.ref al),c4,c5,c6]∧Hi al=some (.lst ((qS L s₁ (ps.take i)).map V.int))∧(∀(j:Nat) (p:Nat×Bool),j<i→ps[j]?=some p→(qS L s₁ ps)[j]?=some (qX L p).1)∧Same H Hi)
  (vS none none none (v8 rfl jE (fun j p hj=>absurd hj (Nat.not_lt_zero j)) s1)) (fun i σ Hi _ ⟨_,_,_,_,_,_,s⟩=>SqT.of (s _ _ hst)) ?_ ?_⟩
 ·rintro i v σ Hi hv ⟨c4,c5,c6,rfl,hal,hok,sm⟩
  obtain ⟨⟨pk,pb⟩,hp,t,rfl,ht⟩:=hP.2 i v hv
  have hpl:pk<L.length:=hlt _ (List.mem_of_getElem? hp)
  have hi:i<ps.length:=(List.getElem?_eq_some_iff.mp hp).1
  obtain ⟨l,hl'⟩:∃l,L[pk]?=some l:=⟨_,List.getElem?_eq_getElem hpl⟩
  obtain ⟨w,hw,y,rfl,dl,hl⟩:=hL.get hl'
  have hdl:(qS L s₁ (ps.take i)).length=i+1:=by rw [dN,List.length_take];omega
  obtain ⟨z,hz⟩:∃z,(qS L s₁ (ps.take i))[i]?=some z:=⟨_,List.getElem?_eq_getElem (by omega)⟩
  have hlast:qT ((qS L s₁ (ps.take i)).map V.int) (-1)=some (.int z):=atI_last (n:=i) (by rw [List.length_map,hdl]) (by rw [List.getElem?_map,hz];rfl)
  refine ⟨t,jA rfl (⟨SqT.of (sm _ _ ht),rfl,_,jA rfl (⟨_,_,rfl,rfl,?_⟩)⟩)⟩
  refine (jA rfl (j8 ((sm _ _ hx)) (T.clN) (T.nN_locks) (hf.2.1) ((jA rfl (qH (SqL.of (sm _ _ hll)) (qL hw) ((jA rfl ((vS y l pb (yZ rfl ⟨y,rfl,dl,sm _ _ hl⟩ (fun te He se hte0 hte=>?_)))))))))))
  have smE:=sm.trans se
  have halE:=se _ _ hal
  have ee:qX L (pk,pb)=(if pb then l.low else l.high,if pb then l.high else l.low):=by cases pb;exact ZN hl';exact ZU hl'
  have hdue:(qS L s₁ ps)[i]?=some z:=by rw [OS (by omega)];exact hz
  refine (jA rfl (jR (SqT.of hte) rfl ((jA rfl (jA rfl (qH (SqL.of halE) hlast (⟨rfl,jA rfl (?_)⟩)))))))
  by_cases h:(if pb then l.low else l.high)=z
  ·refine JX (congrArg V.int h) ?_
   refine (jA rfl (⟨.inl ⟨rfl,_,SqL.of halE⟩,jA rfl (jR (SqT.of hte) rfl (⟨al,_,_,rfl,rfl,halE,vX (by rw [List.length_map,hdl];omega),?_⟩))⟩))
   refine ⟨_,_,jA rfl (⟨?_,fun j p hj hpj=>?_,qA hal0 smE⟩)⟩
   ·rw [jE,List.take_add_one,hp]
    show _=some (HO.lst ((qS L s₁ (ps.take i++[(pk,pb)])).map V.int))
    rw [oI,List.map_append,ee]
    rfl
   ·by_cases c:j=i
    ·subst c
     rw [hp] at hpj
     cases hpj
     rw [hdue,ee,h]
    ·exact hok j p (by omega) hpj
  ·refine JW (fun e=>h (V.int.inj e)) ⟨by show 1≤sizeLine;decide,qe (fun ok=>h ?_) _ smE⟩
   have:=ok i _ hp
   rw [hdue,ee] at this
   exact (Option.some.inj this).symm
 rintro σ Hi ⟨c4,c5,c6,rfl,hal,hok,sm⟩
 rw [hP.1,List.take_length] at hal
 exact (jA rfl (qv (fun j p hp=>hok j p (by rw [hP.1];exact (List.getElem?_eq_some_iff.mp hp).1) hp) al Hi sm hal0 hal))
theorem HR:FnScope ["way","place"] ["way","place"] (jG mW):=jU
include T in
theorem FV {f:Addr} {fd:FuncData} (F:Fun K "steps_to_do" "steps_to_do" mW f fd) : FnOk P w K mg base jP 1 f fd ["way","place"] (pL):=by
 refine F.ok2 HR fun vs H Q E h=>?_
 obtain ⟨t,y,p,rfl,⟨t₂,st,us,e,h1,h2,h3⟩,q⟩:=h
 refine ⟨rfl,fun _ _ _ _ hr=>?_⟩
 refine ⟨_,(@jK _ _ _ (@jQ _ _ _ _ (@jJ _ _ _ _ _ _ _ _ zT (kP (qD K) (by rfl) T.z_len PySem.boot_len (jB (jM (jT K) (pv 0) jD) jC)) (pv 1)))),?_⟩
 try dsimp only [jX,jW]
 cases e
 refine (jA rfl (jR (SqT.of h1) rfl (⟨st,jA rfl (⟨.inr (SqT.of h2),jA rfl (j7 (?_))⟩)⟩)))
 rw [h3.1]
 exact q
theorem HL:FnScope ["canal","way","place"] ["canal","way","place"] (jG mR):=jU
include T in
theorem FN {f:Addr} {fd:FuncData} (F:Fun K "reach_of" "reach_of" mR f fd) (D_steps_to_do:Def P w K mg base 1 "steps_to_do" ["way","place"] [] (pL)) (D_linked:Def P w K mg base 2 "linked" ["canal","start","steps"] [] (nY K (jF cP cB cU) cR cN)):FnOk P w K mg base jP 3 f fd ["canal","way","place"] (nX (jF cP cB cU) cR cN):=by
 refine F.ok2 HL fun vs H Q E h=>?_
 obtain ⟨x,t,y,p,D,R,L,N,rfl,hc,hwy,ok,hp,q⟩:=h
 refine ⟨rfl,fun _ _ _ _ hr=>?_⟩
 refine ⟨_,(@jH _ _ _ _ _ (qQ (kO qM (jO D_steps_to_do hr rfl (jB (pv 1) (jB (pv 2) jC))) jD) (@jK _ _ _ (@jQ _ _ _ _ (dQ (v:=.int (-1)) rfl T.g_HOME ⟨_,rfl⟩))) qP)
   (@jK _ _ _ (@jQ _ _ _ _ (jM (kN K) (jO D_linked hr rfl (@jB _ _ _ _ _ (pv 0) (@jB _ _ _ _ _ (jM (jT K) (pv 1) jD) (@jB _ _ _ _ _ (jM (jT K) (pv 1) jD) jC (by rfl)) (by rfl)) (by rfl))) (pv 2))))),?_⟩
 try dsimp only [jX,jW]
 obtain ⟨t₂,st,us,e,h1,h2,h3⟩:=id hwy
 cases e
 refine (jA rfl (jA rfl (⟨t,y,jA rfl (⟨hwy,rfl,jA rfl (?_)⟩)⟩)))
 by_cases h:p=y.2.length
 ·refine vD (congrArg V.int (by omega)) ?_
  have:=q H (Same.refl _)
  rw [show q9 L y p = -1 from if_pos h] at this
  exact this
 ·refine qV (fun z=>h (by have:=V.int.inj z;omega)) ?_
  have hle:=ok.le
  refine (jA rfl (jA rfl (jR (SqT.of h1) rfl ((jA rfl (jR (SqT.of h1) rfl ((TK x st y.1 us y.2 D R L N (ZF rfl hc h2 h3 ok.lt (by omega) ok.ok (fun r H' s' hr0 hr=>?_))))))))))
  have hl:p<(qS L y.1 y.2).length:=by rw [dN];omega
  refine (jA rfl (qH (SqL.of hr) (yL hl) (?_)))
  have:=q H' s'
  rw [show q9 L y p=(qS L y.1 y.2).getD p 0 from if_neg h] at this
  exact this
theorem HH:FnScope ["canal","ways","state","reach"] ["canal","ways","state","reach"] (jG fC):=jU
include T in
theorem FB {f:Addr} {fd:FuncData} (F:Fun K "lying" "lying" fC f fd) (D_reach_of:Def P w K mg base 3 "reach_of" ["canal","way","place"] [] (nX (jF cP cB cU) cR cN)):FnOk P w K mg base jP 4 f fd ["canal","ways","state","reach"] (x9 (jF cP cB cU) cR cN):=by
 refine F.ok2 HH fun vs H Q E h=>?_
 obtain ⟨x,wl,st,r,us,ys,d,ms,pl,D,R,L,N,rfl,hc,hwl,hA,⟨wt,pt,hst,hwt,hpt⟩,hfl,q⟩:=h
 refine ⟨rfl,fun _ _ _ _ hr=>?_⟩
 refine ⟨_,(@jK _ _ _ (@jQ _ _ _ _ (ZZ PySem.F.plainAttrs_list PySem.F.slot_list_count PySem.F.type_list_count M1 (yK ["way","place","canal"] (kZ 2 [0]) rfl (qO (jG fC)) (cps 2 [0]) (AK (by rfl) T.z_zip (jB (pv 1) (jB (jM (jT K) (pv 2) jD) jC))) (fun _ _ _ _ _=>(JB (n:=2) K rfl (kW (kC (i:=0) (show List.Nodup (["way","place","canal"]:List Str) from by decide +kernel) rfl (.inl rfl)) (kW (kC (i:=1) (show List.Nodup (["way","place","canal"]:List Str) from by decide +kernel) rfl (.inl rfl)) y7)))) (fun _ _ _ _ _=>vY) (fun _ _ _ _ _=>(jO D_reach_of hr rfl (@jB _ _ _ _ _ (pv 2) (@jB _ _ _ _ _ (pv 0) (@jB _ _ _ _ _ (pv 1) jC (by rfl)) (by rfl)) (by rfl))))) (jB (pv 3) jC)))),?_⟩
 try dsimp only [jX,jW]
 refine (jA rfl (jA rfl (jR (SqT.of hst) rfl (⟨wl,pt,rfl,⟨_,SqL.of hwl⟩,⟨_,SqT.of hpt⟩,fun D₁ hD₁=>?_⟩))))
 refine tD (K:=K) (a1:=wl) (a2:=pt) (xs:=us) (ys:=pl.map fun (p:Nat)=>V.int (p:Int)) (fun i σ Hi=>∃c1 c2:Option V,σ=[c1,c2,some (.ref x)]∧Hi D₁=some (.lst (((zK L ys pl).take i).map V.int))∧Same H Hi)
  ⟨none,none,rfl,by rw [jE,List.take_zero];rfl,jI hD₁ _⟩ (fun i σ Hi _ ⟨_,_,_,_,s⟩=>⟨SqL.of (s _ _ hwl),SqT.of (s _ _ hpt)⟩) (by rw [hA.1,List.length_map,hfl.len]) ?_ ?_
 ·rintro i v z σ Hi T₁ hv hz ⟨c1,c2,rfl,hY,sm⟩ hT
  obtain ⟨y,hy,hwy⟩:=hA.2 i v hv
  have hi:i<ys.length:=(List.getElem?_eq_some_iff.mp hy).1
  obtain ⟨t,st₂,us₂,rfl,hw1,hw2,hw3⟩:=id hwy
  have hip:i<pl.length:=by rw [hfl.len];exact hi
  rw [List.getElem?_map,List.getElem?_eq_getElem hip] at hz
  cases hz
  have u:=jI hT (.tup [V.ref t,V.int ((pl[i]:Nat):Int)])
  have smu:=sm.trans u
  have hwy2:=WyAt.same smu _ _ hwy
  have hp:=hfl.le i y pl[i] hy (List.getElem?_eq_getElem hip)
  have hg1:ys.getD i (0,[])=y:=by rw [List.getD_eq_getElem?_getD,hy];rfl
  have hg2:pl.getD i 0=pl[i]:=by rw [List.getD_eq_getElem?_getD,List.getElem?_eq_getElem hip];rfl
  have h10:=hfl.n10
  have hYu:=u _ _ hY
  refine ⟨T₁,jA rfl (⟨SqT.of jE,rfl,_,jA rfl (⟨_,_,rfl,rfl,?_⟩)⟩)⟩
  generalize upd Hi T₁ (.tup [V.ref t,V.int ((pl[i]:Nat):Int)])=Hj at u smu hwy2 hYu ⊢
  refine v0 (kT ?_)
  refine (jA rfl (jA rfl (jA rfl (⟨x,t,y,pl[i],vW D R L N (yY rfl (hc.same smu) hwy2 (hfl.ok y (List.mem_of_getElem? hy)) hp (fun H' s'=>?_))⟩))))
  refine ⟨_,s' _ _ hYu,vX (by rw [List.length_map,List.length_take];unfold zK;rw [List.length_map,List.length_range];omega),_,jA rfl (⟨?_,qA hD₁ (smu.trans s')⟩)⟩
  rw [jE,List.take_add_one,show (zK L ys pl)[i]?=some (q9 L y pl[i]) by unfold zK;rw [List.getElem?_map,List.getElem?_range hi,← hg1,← hg2];rfl,List.map_append]
  rfl
 rintro σ Hf ⟨c1,c2,rfl,hY,sm⟩
 rw [hA.1,List.take_of_length_le (by unfold zK;rw [List.length_map,List.length_range];exact Nat.le_refl _)] at hY
 refine ⟨.inl ⟨rfl,_,SqL.of hY⟩,jA rfl (⟨D₁,_,_,rfl,rfl,hY,rfl,KS _,?_⟩)⟩
 have e:((zK L ys pl).map V.int).countP (fun z=>J3 z (.int r))=(zK L ys pl).countP fun z=>decide (z=r):=by rw [List.countP_map];rfl
 rw [e]
 exact q Hf sm
theorem cQ:FnScope ["canal","state","weather","waters","sky","sun","rain"] ["canal","state","weather"] (jG Z8):=jU
include T in
theorem FF {f:Addr} {fd:FuncData} (F:Fun K "night_pours" "night_pours" Z8 f fd) (MM_Canal_sky:MeD P w K mg base 2 cN "sky" ["self"] (JH (jF cP cB cU) cR cN bU)) (D_with_spills:Def P w K mg base 4 "with_spills" ["weirs","waters","pours"] [] (oZ K)) (MM_Canal_weirs:MeD P w K mg base 2 cN "weirs" ["self"] (dF (jF cP cB cU) cR cN)):FnOk P w K mg base jP 5 f fd ["canal","state","weather"] (wR K (jF cP cB cU) cR cN):=by
 refine F.ok2 cQ fun vs H Q E h=>?_
 obtain ⟨x,t,wl,d,ms,ps,us,W,D,R,L,N,rfl,hc,⟨wt,pt,h1,h2,h3⟩,hwl,hA,hWR,hms,hR100,hL100,hTg,q⟩:=h
 refine ⟨rfl,fun _ _ _ _ hr=>?_⟩
 refine ⟨_,(@jH _ _ _ _ _ (jZ (i:=3) cQ.nd rfl (.inr rfl) (jM (jT K) (pv 1) jD))
   (@jH _ _ _ _ _ (jZ (i:=4) cQ.nd rfl (.inr rfl) (QH MM_Canal_sky hr (pv 0)))
   (@jH _ _ _ _ _ (zN (i:=5) ["at","pair","sky","waters"] (kZ 2 [4,3]) cQ.nd rfl (.inl rfl) rfl (qO (jG Z8)) (cps 2 [4,3]) (AL (by rfl) T.z_enumerate (jB (pv 2) jC)) (fun _ _ _ _ _=>(JB (n:=2) K rfl (kW (kC (i:=0) (show List.Nodup (["at","pair","sky","waters"]:List Str) from by decide +kernel) rfl (.inl rfl)) (kW (kC (i:=1) (show List.Nodup (["at","pair","sky","waters"]:List Str) from by decide +kernel) rfl (.inl rfl)) y7)))) (fun _ _ _ _ _=>vY) (fun _ _ _ _ _=>(kQ (@jB _ _ _ _ _ (pv 0) (@jB _ _ _ _ _ (pv 2) (@jB _ _ _ _ _ (kP (MF rfl) (by rfl) T.z_min PyProof.Rows.boot_min (jB (jM (jT K) (pv 1) jD) (jB (jM (jT K) (pv 3) (pv 0)) jC))) jC (by rfl)) (by rfl)) (by rfl)))))
   (@jH _ _ _ _ _ (zN (i:=6) ["at","pair","sky"] (kZ 2 [4]) cQ.nd rfl (.inl rfl) rfl (qO (jG Z8)) (cps 2 [4]) (AL (by rfl) T.z_enumerate (jB (pv 2) jC)) (fun _ _ _ _ _=>(JB (n:=2) K rfl (kW (kC (i:=0) (show List.Nodup (["at","pair","sky"]:List Str) from by decide +kernel) rfl (.inl rfl)) (kW (kC (i:=1) (show List.Nodup (["at","pair","sky"]:List Str) from by decide +kernel) rfl (.inl rfl)) y7)))) (fun _ _ _ _ _=>vY) (fun _ _ _ _ _=>(kQ (@jB _ _ _ _ _ (pv 2) (@jB _ _ _ _ _ (pv 0) (@jB _ _ _ _ _ (jM (jT K) (pv 1) jD) jC (by rfl)) (by rfl)) (by rfl)))))
   (@jK _ _ _ (@jQ _ _ _ _ (jO D_with_spills hr rfl (@jB _ _ _ _ _ (QH MM_Canal_weirs hr (pv 0)) (@jB _ _ _ _ _ (pv 3) (@jB _ _ _ _ _ (yK ["pour"] (kZ 1 []) rfl (qO (jG Z8)) (cps 1 []) (vC (@jJ _ _ _ _ _ _ _ _ QZ (pv 5) (pv 6))) (fun _ _ _ _ _=>(kC (i:=0) (show List.Nodup (["pour"]:List Str) from by decide +kernel) rfl (.inl rfl))) (fun _ _ _ _ _=>(JP (kO QI (jM (jT K) (pv 0) jD) jD))) (fun _ _ _ _ _=>(pv 0))) jC (by rfl)) (by rfl)) (by rfl))))))))),?_⟩
 try dsimp only [jX,jW]
 have hc0:=hc
 obtain ⟨dx,rl,ll,nl,fs,rs,ls,nv,hx,hf,hrl,hll,hnl,hR,hL,hN,d1,d2,d3⟩:=hc
 obtain ⟨sk,hsk⟩:∃sk,sk=R.length+2*L.length+1:=⟨_,rfl⟩
 have esk:bU R.length L.length=(sk:Int):=by unfold bU;omega
 refine (jA rfl (jR (SqT.of h1) rfl (?_)))
 refine (jA rfl (⟨x,dx,jA rfl (⟨hx,hf.no (by decide +kernel) (by decide +kernel) (by decide +kernel),zM x D R L N (yZ rfl hc0 (?_))⟩)⟩))
 rw [esk]
 refine (jA rfl (⟨wl,rfl,⟨_,SqL.of hwl⟩,fun D₁ hD₁=>?_⟩))
 refine tE (K:=K) (a:=wl) (xs:=us) (fun i σ Hi=>∃c1 c2:Option V,σ=[c1,c2,some (.int (sk:Int)),some (.ref wt)]∧∃ys:List V,Hi D₁=some (.lst ys)∧PoursH Hi ys ((ZB sk ms W R.length).take i) ms.length∧Same H Hi) ⟨none,none,rfl,[],jE,PoursH.nil _ _,jI hD₁ _⟩ (fun i σ Hi _ ⟨_,_,_,_,_,_,s⟩=>SqL.of (s _ _ hwl)) ?_ ?_
 ·rintro i v σ Hi T₁ hv ⟨c1,c2,rfl,ys,hY,hP,sm⟩ hT
  have hi:i<us.length:=(List.getElem?_eq_some_iff.mp hv).1
  rw [hA.1] at hi
  obtain ⟨y,hy,t1,rfl,ht1⟩:=hA.2 i v hv
  have u:=jI hT (.tup [V.int (i:Int),V.ref t1])
  have smu:=sm.trans u
  have hYu:=u _ _ hY
  refine ⟨T₁,jA rfl (⟨SqT.of jE,rfl,_,jA rfl (⟨_,_,rfl,rfl,?_⟩)⟩)⟩
  generalize upd Hi T₁ (.tup [V.int (i:Int),V.ref t1])=Hj at u smu hYu ⊢
  refine v0 (kT ?_)
  refine (jA rfl (jA rfl (jA rfl (jR (SqT.of (smu _ _ ht1)) rfl ((jA rfl (jA rfl (jR (SqT.of (smu _ _ h2)) (yL (by omega)) (⟨_,jA rfl (?_)⟩)))))))))
  try dsimp only
  first|rw [← xW hy]|rw [← MN hy]
  refine ⟨zz3,fun tp htp=>?_⟩
  have u2:=jI htp (.tup [V.int (i:Int),V.int (sk:Int),V.int (QL ms W i)])
  have hY2:=u2 _ _ hYu
  have hlen:=hP.1
  rw [List.length_take,oM] at hlen
  refine ⟨ys,hY2,vX (by omega),_,jA rfl (⟨ys++[.ref tp],jE,?_,qA hD₁ (smu.trans u2)⟩)⟩
  rw [LJ (by omega)]
  exact (((hP.same u).same u2).snoc jE (by omega) (by omega)).put hY2
 rintro σ H1 ⟨c1,c2,rfl,ys1,hY1,hP1,s1⟩
 rw [hA.1,hWR,List.take_of_length_le (by rw [oM];exact Nat.le_refl _)] at hP1
 refine (jA rfl (⟨wl,rfl,⟨_,SqL.of (s1 _ _ hwl)⟩,fun D₂ hD₂=>?_⟩))
 refine tE (K:=K) (a:=wl) (xs:=us) (fun i σ Hi=>∃c1 c2:Option V,σ=[c1,c2,some (.int (sk:Int))]∧∃ys:List V,Hi D₂=some (.lst ys)∧PoursH Hi ys ((Q7 sk W R.length).take i) ms.length∧Same H1 Hi) ⟨none,none,rfl,[],jE,PoursH.nil _ _,jI hD₂ _⟩ (fun i σ Hi _ ⟨_,_,_,_,_,_,s⟩=>SqL.of (s _ _ (s1 _ _ hwl))) ?_ ?_
 ·rintro i v σ Hi T₁ hv ⟨c1,c2,rfl,ys,hY,hP,sm⟩ hT
  have hi:i<us.length:=(List.getElem?_eq_some_iff.mp hv).1
  rw [hA.1] at hi
  obtain ⟨y,hy,t1,rfl,ht1⟩:=hA.2 i v hv
  have ht1:=s1 _ _ ht1
  have u:=jI hT (.tup [V.int (i:Int),V.ref t1])
  have smu:=sm.trans u
  have hYu:=u _ _ hY
  refine ⟨T₁,jA rfl (⟨SqT.of jE,rfl,_,jA rfl (⟨_,_,rfl,rfl,?_⟩)⟩)⟩
  generalize upd Hi T₁ (.tup [V.int (i:Int),V.ref t1])=Hj at u smu hYu ⊢
  refine v0 (kT ?_)
  refine (jA rfl (jA rfl (jA rfl (jR (SqT.of (smu _ _ ht1)) rfl (?_)))))
  rw [show y.1=(W.getD i (0,0)).1 by rw [C5 hy]]
  refine ⟨zz3,fun tp htp=>?_⟩
  have u2:=jI htp (.tup [V.int (sk:Int),V.int (i:Int),V.int (W.getD i (0,0)).1])
  have hY2:=u2 _ _ hYu
  have hlen:=hP.1
  rw [List.length_take,n4] at hlen
  refine ⟨ys,hY2,vX (by omega),_,jA rfl (⟨ys++[.ref tp],jE,?_,qA hD₂ (smu.trans u2)⟩)⟩
  rw [KD (by omega)]
  exact (((hP.same u).same u2).snoc jE (by omega) (by omega)).put hY2
 rintro σ H2 ⟨c1',c2',rfl,ys2,hY2,hP2,s2⟩
 rw [hA.1,hWR,List.take_of_length_le (by rw [n4];exact Nat.le_refl _)] at hP2
 have s12:=s1.trans s2
 have hl1:=hP1.1
 have hl2:=hP2.1
 rw [oM] at hl1
 rw [n4] at hl2
 refine (jA rfl (⟨x,dx,jA rfl (⟨(s12 _ _ hx),hf.no (by decide +kernel) (by decide +kernel) (by decide +kernel),zM x D R L N (v8 rfl (hc0.same s12) hR100 (fun wq ws H3 s3 hwq0 hwq hW=>?_))⟩)⟩))
 have s13:=s12.trans s3
 refine (jA rfl (jA rfl (jA rfl (⟨D₁,D₂,_,_,rfl,rfl,s3 _ _ (s2 _ _ hY1),s3 _ _ hY2,small (by omega),fun al hal=>?_⟩))))
 have s4:=jI hal (.lst (ys1++ys2))
 have hal4:upd H3 al (.lst (ys1++ys2)) al=_:=jE
 have hP4:PoursH (upd H3 al (.lst (ys1++ys2))) (ys1++ys2) (zH sk ms W R.length) ms.length:=(((hP1.same s2).same s3).same s4).append ((hP2.same s3).same s4)
 have s14:=s13.trans s4
 have hwq4:=s4 _ _ hwq
 have hW4:=hW.mono (QAt.same s4)
 generalize upd H3 al (.lst (ys1++ys2))=H4 at s4 hal4 hP4 s14 hwq4 hW4 ⊢
 refine ⟨al,rfl,⟨_,SqL.of hal4⟩,fun Df hDf=>?_⟩
 refine J4 (K:=K) (a:=al) (xs:=ys1++ys2) (caps:=[]) (fun i ys Hi=>PoursH Hi ys (((zH sk ms W R.length).take i).filter kY) ms.length) hDf (SqL.of hal4) (PoursH.nil _ _) ?_ ?_
 ·rintro i v ys Hi hv hi hle sm hY hP
  rw [List.length_append] at hi
  obtain ⟨a,s,tt,m,rfl,hq,hT,hs,ht⟩:=hP4.2 i v hv
  have ef:((zH sk ms W R.length).take (i+1)).filter kY=((zH sk ms W R.length).take i).filter kY++[(s,tt,m)].filter kY:=by
   rw [List.take_add_one,hq,List.filter_append]
   rfl
  refine (jA rfl (jR (SqT.of (sm _ _ hT)) rfl (⟨rfl,jA rfl (?_)⟩)))
  by_cases hz:m=0
  ·refine JX (congrArg V.int hz) (ZO sm hY hle (Same.refl _) ?_)
   rw [ef,List.filter_cons,if_neg (by unfold kY;rw [decide_eq_true (show m=0 from hz)];decide)]
   show PoursH Hi ys (_++[]) _
   rw [List.append_nil]
   exact hP
  refine JW (fun e=>hz (V.int.inj e)) (jA rfl (v9 hDf sm hY hle (by omega) (Same.refl _) ?_))
  rw [ef,List.filter_cons,if_pos (by unfold kY;rw [decide_eq_false (show ¬m=0 from hz)];rfl)]
  exact (hP.snoc (sm _ _ hT) hs ht).put hY
 rintro ys H5 s5 hY5 hle5 hP5
 rw [hP4.1,List.take_of_length_le (Nat.le_refl _)] at hP5
 have s15:=s14.trans s5
 refine ⟨wq,wt,Df,ws,ys,kI R L.length,ms,jA rfl (⟨nI hTg (hW4.mono (QAt.same s5)) (s5 _ _ hwq4) (.inr (SqT.of (s15 _ _ h2))) hms hR100 hL100,hY5,hP5,?_,fun r H' gs zs s' hr0 hr hP' hS=>?_⟩)⟩
 ·rw [List.length_append] at hle5
  omega
 subst hsk
 exact q r H' gs zs (s15.trans s') (s15.free hr0) hr hP' hS
theorem G7:FnScope ["canal","ways","state","reach"] ["canal","ways","state","reach"] (jG mC):=jU
include T in
theorem EZ {f:Addr} {fd:FuncData} (F:Fun K "has_no_berth" "has_no_berth" mC f fd) (D_lying:Def P w K mg base 4 "lying" ["canal","ways","state","reach"] [] (x9 (jF cP cB cU) cR cN)):FnOk P w K mg base jP 5 f fd ["canal","ways","state","reach"] (uI (jF cP cB cU) cR cN):=by
 refine F.ok2 G7 fun vs H Q E h=>?_
 obtain ⟨x,wl,st,b,r,us,ys,d,ms,pl,D,R,L,N,rfl,hG,hrc,q⟩:=h
 refine ⟨rfl,fun _ _ _ _ hr=>?_⟩
 refine ⟨_,(@jK _ _ _ (@jQ _ _ _ _ (QN RO (jO D_lying hr rfl (@jB _ _ _ _ _ (pv 0) (@jB _ _ _ _ _ (pv 1) (@jB _ _ _ _ _ (pv 2) (@jB _ _ _ _ _ (pv 3) jC (by rfl)) (by rfl)) (by rfl)) (by rfl))) (j6 K (jM (kN K) (j6 K (pv 0) rfl) (pv 3)) rfl)))),?_⟩
 try dsimp only [jX,jW]
 obtain ⟨hc,hdr,hwl,hA,hst,hfl,hml⟩:=id hG
 have hc0:=hc
 obtain ⟨dx,rl,ll,nl,fs,rs,ls,nv,hx,hf,hrl,hll,hnl,hR,hL,hN,d1,d2,d3⟩:=hc
 obtain ⟨z,hz,yr,rfl,dy,gs,hyr,hg⟩:=hR.get hrc
 refine (jA rfl (jA rfl (jA rfl (jA rfl ((bW x wl st _ us ys d ms pl D R L N (Z5 rfl hc0 hwl hA hst hfl (fun H3 s3=>?_))))))))
 exact (jA rfl (j8 ((s3 _ _ hx)) (T.clN) (T.nN_reaches) (hf.1) ((jA rfl (qH (SqL.of (s3 _ _ hrl)) (qL hz) (j8 ((s3 _ _ hyr)) (T.clR) (T.nR_berths) (hg.2.2.2.1) (j7 (q H3 s3))))))))
theorem HI:FnScope ["way","place"] ["way","place"] (jG mK):=jU
include T in
theorem FE {f:Addr} {fd:FuncData} (F:Fun K "next_step" "next_step" mK f fd) : FnOk P w K mg base jP 1 f fd ["way","place"] (BK):=by
 refine F.ok2 HI fun vs H Q E h=>?_
 obtain ⟨t,y,p,s₁,rfl,⟨t₂,st₂,vs₂,e,hw1,hw2,hw3⟩,hs,q⟩:=h
 refine ⟨rfl,fun _ _ _ _ hr=>?_⟩
 refine ⟨_,(@jK _ _ _ (@jQ _ _ _ _ (jM (jT K) (jM (jT K) (pv 0) jD) (pv 1)))),?_⟩
 try dsimp only [jX,jW]
 cases e
 obtain ⟨v3,hv3,hP3⟩:=hw3.get hs
 exact (jA rfl (jR (SqT.of hw1) rfl ((jA rfl (jR (SqT.of hw2) (qL hv3) (q _ hP3))))))
theorem HJ:FnScope ["places","boat"] ["places","boat"] (jG fD):=jU
include T in
theorem FG {f:Addr} {fd:FuncData} (F:Fun K "one_step_on" "one_step_on" fD f fd) : FnOk P w K mg base jP 1 f fd ["places","boat"] (wL):=by
 refine F.ok2 HJ fun vs H Q E h=>?_
 obtain ⟨pt,pl,b,rfl,hpt,h100,q⟩:=h
 refine ⟨rfl,fun _ _ _ _ hr=>?_⟩
 refine ⟨_,(@jK _ _ _ (@jQ _ _ _ _ (yA (bA K) (by rfl) T.z_tuple PyProof.Rows.boot_tuple (jB (yK ["at","place","boat"] (kZ 2 [1]) rfl (qO (jG fD)) (cps 2 [1]) (MT (by rfl) T.z_enumerate (jB (pv 0) jC)) (fun _ _ _ _ _=>(JB (n:=2) K rfl (kW (kC (i:=0) (show List.Nodup (["at","place","boat"]:List Str) from by decide +kernel) rfl (.inl rfl)) (kW (kC (i:=1) (show List.Nodup (["at","place","boat"]:List Str) from by decide +kernel) rfl (.inl rfl)) y7)))) (fun _ _ _ _ _=>vY) (fun _ _ _ _ _=>(J9 (kO qM (pv 0) (pv 2)) (@jJ _ _ _ _ _ _ _ _ kH (pv 1) jD) (pv 1)))) jC)))),?_⟩
 try dsimp only [jX,jW]
 refine (jA rfl (⟨pt,rfl,⟨_,SqT.of hpt⟩,fun D₁ hD₁=>?_⟩))
 refine IJ (K:=K) (a:=pt) (xs:=pl.map fun (p:Nat)=>V.int (p:Int)) (fun i σ Hi=>∃c1 c2:Option V,σ=[c1,c2,some (.int (b:Int))]∧Hi D₁=some (.lst (((zR pl b).take i).map fun (p:Nat)=>V.int (p:Int)))∧Same H Hi) ⟨none,none,rfl,jE,jI hD₁ _⟩ (fun i σ Hi _ ⟨_,_,_,_,s⟩=>SqT.of (s _ _ hpt)) ?_ ?_
 ·rintro i v σ Hi T₁ hv ⟨c1,c2,rfl,hY,sm⟩ hT
  have hi:i<pl.length:=by have:=(List.getElem?_eq_some_iff.mp hv).1;rw [List.length_map] at this;exact this
  rw [List.getElem?_map,List.getElem?_eq_getElem hi] at hv
  cases hv
  have u:=jI hT (.tup [V.int (i:Int),V.int ((pl[i]:Nat):Int)])
  have smu:=sm.trans u
  have hYu:=u _ _ hY
  refine ⟨T₁,jA rfl (⟨SqT.of jE,rfl,_,jA rfl (⟨_,_,rfl,rfl,?_⟩)⟩)⟩
  generalize upd Hi T₁ (.tup [V.int (i:Int),V.int ((pl[i]:Nat):Int)])=Hj at u smu hYu ⊢
  have eg:pl.getD i 0=pl[i]:=by rw [List.getD_eq_getElem?_getD,List.getElem?_eq_getElem hi];rfl
  refine v0 (kT ?_)
  refine (jA rfl (⟨_,rfl,rfl,jA rfl (?_)⟩))
  by_cases h:i=b
  ·refine vD (by rw [h]) (jA rfl (j7 (⟨_,hYu,vX (by rw [List.length_map,List.length_take,cZ];omega),_,jA rfl (⟨?_,qA hD₁ smu⟩)⟩)))
   rw [jE,sU hi,if_pos h,eg,List.map_append]
   rfl
  ·refine qV (fun e=>h (by have:=V.int.inj e;omega)) (jA rfl (⟨_,hYu,vX (by rw [List.length_map,List.length_take,cZ];omega),_,jA rfl (⟨?_,qA hD₁ smu⟩)⟩))
   rw [jE,sU hi,if_neg h,eg,List.map_append]
   rfl
 rintro σ Hf ⟨c1,c2,rfl,hY,sm⟩
 rw [List.length_map,List.take_of_length_le (by rw [cZ];exact Nat.le_refl _)] at hY
 refine ⟨D₁,jA rfl (.inl ⟨SqL.of hY,fun r hr0=>?_⟩)⟩
 exact q r _ (sm.trans (jI hr0 _)) (sm.free hr0) jE
theorem G4:FnScope ["state","deed","waters"] ["state","deed","waters"] (jG l9):=jU
include T in
theorem EV {f:Addr} {fd:FuncData} (F:Fun K "counted_on" "counted_on" l9 f fd) (D_one_step_on:Def P w K mg base 1 "one_step_on" ["places","boat"] [] (wL)):FnOk P w K mg base jP 2 f fd ["state","deed","waters"] (uJ):=by
 refine F.ok2 G4 fun vs H Q E h=>?_
 obtain ⟨st,dd,wo,de,d,ms,mo,pl,rfl,hst,hdd,hwo,h100,q⟩:=h
 refine ⟨rfl,fun _ _ _ _ hr=>?_⟩
 refine ⟨_,(@jH _ _ _ _ _ (qQ (kO qM (jM (jT K) (pv 1) jD) j5) (@jK _ _ _ (@jQ _ _ _ _ (kQ (@jB _ _ _ _ _ (@jJ _ _ _ _ _ _ _ _ kH (jM (jT K) (pv 0) jD) jD) (@jB _ _ _ _ _ (pv 2) (@jB _ _ _ _ _ (jM (jT K) (pv 0) jD) jC (by rfl)) (by rfl)) (by rfl))))) qP)
   (@jH _ _ _ _ _ (qQ (kO qM (jM (jT K) (pv 1) jD) j5) (@jK _ _ _ (@jQ _ _ _ _ (kQ (@jB _ _ _ _ _ (jM (jT K) (pv 0) jD) (@jB _ _ _ _ _ (pv 2) (@jB _ _ _ _ _ (jO D_one_step_on hr rfl (jB (jM (jT K) (pv 0) jD) (jB (jM (jT K) (pv 1) jD) jC))) jC (by rfl)) (by rfl)) (by rfl))))) qP)
   (@jK _ _ _ (@jQ _ _ _ _ (kQ (@jB _ _ _ _ _ (jM (jT K) (pv 0) jD) (@jB _ _ _ _ _ (pv 2) (@jB _ _ _ _ _ (jM (jT K) (pv 0) jD) jC (by rfl)) (by rfl)) (by rfl))))))),?_⟩
 try dsimp only [jX,jW]
 obtain ⟨wt,pt,hst1,hwt,hpt⟩:=id hst
 cases de with
 |night =>
  refine (jA rfl (jR (SqT.of hdd) rfl (⟨rfl,jA rfl (vD rfl ?_)⟩)))
  refine (jA rfl (jR (SqT.of hst1) rfl (j7 ((jA rfl (jA rfl (jR (SqT.of hst1) rfl (⟨zz3,fun t3 ht3=>?_⟩))))))))
  have s3:=jI ht3 (.tup [V.int (d+1),V.ref wo,V.ref pt])
  exact q t3 _ s3 ht3 ⟨wo,pt,jE,s3 _ _ hwo,s3 _ _ hpt⟩
 |pass b =>
  refine (jA rfl (jR (SqT.of hdd) rfl (⟨rfl,jA rfl (qV (fun e=>absurd (V.str.inj e) (by decide +kernel)) ?_)⟩)))
  refine (jA rfl (jR (SqT.of hdd) rfl (⟨rfl,jA rfl (vD rfl ?_)⟩)))
  refine (jA rfl (jR (SqT.of hst1) rfl ((jA rfl (jA rfl (jR (SqT.of hst1) rfl ((jA rfl (jR (SqT.of hdd) rfl ((vS pt pl b (v8 rfl hpt h100 (fun po H3 s3 hpo0 hpo=>?_)))))))))))))
  refine ⟨zz3,fun t3 ht3=>?_⟩
  have s4:=jI ht3 (.tup [V.int d,V.ref wo,V.ref po])
  exact q t3 _ (s3.trans s4) (s3.free ht3) ⟨wo,po,jE,s4 _ _ (s3 _ _ hwo),s4 _ _ hpo⟩
 |«let» k =>
  refine (jA rfl (jR (SqT.of hdd) rfl (⟨rfl,jA rfl (qV (fun e=>absurd (V.str.inj e) (by decide +kernel)) ?_)⟩)))
  refine (jA rfl (jR (SqT.of hdd) rfl (⟨rfl,jA rfl (qV (fun e=>absurd (V.str.inj e) (by decide +kernel)) ?_)⟩)))
  refine (jA rfl (jR (SqT.of hst1) rfl ((jA rfl (jA rfl (jR (SqT.of hst1) rfl (⟨zz3,fun t3 ht3=>?_⟩)))))))
  have s3:=jI ht3 (.tup [V.int d,V.ref wo,V.ref pt])
  exact q t3 _ s3 ht3 ⟨wo,pt,jE,s3 _ _ hwo,s3 _ _ hpt⟩
theorem m9:FnScope ["canal","k","named","lock","vessel"] ["canal","k","named"] (jG eX):=jU
include T in
theorem EU {f:Addr} {fd:FuncData} (F:Fun K "by_number" "by_number" eX f fd) (MM_Canal_basin:MeD P w K mg base 1 cN "basin" ["self","k"] (QG (jF cP cB cU) cR cN yH)) (MM_Canal_chamber:MeD P w K mg base 1 cN "chamber" ["self","k"] (QG (jF cP cB cU) cR cN zJ)):FnOk P w K mg base jP 2 f fd ["canal","k","named"] (o3 (jF cP cB cU) cR cN):=by
 refine F.ok2 m9 fun vs H Q E h=>?_
 obtain ⟨x,p,k,l,rp,ps,D,R,L,N,rfl,hc,hl',hg,hp,hP,hok,h10,q⟩:=h
 refine ⟨rfl,fun _ _ _ _ hr=>?_⟩
 have hu1:=pW hr
 refine ⟨_,(@jH _ _ _ _ _ (jZ (i:=3) m9.nd rfl (.inl rfl) (jM (kN K) (j6 K (pv 0) rfl) (pv 1)))
   (@jH _ _ _ _ _ (jZ (i:=4) m9.nd rfl (.inr rfl) (N7 (dH j5 (j6 K (pv 3) rfl) (dH j5 (j6 K (pv 3) rfl) (dH j5 (Z3 MM_Canal_chamber hr (pv 0) (jB (pv 1) jC)) (dH j5 (Z3 MM_Canal_basin hr (pv 0) (jB (pv 1) jC)) AI)))) rfl rfl (List.cons_ne_nil _ _) (by decide)))
   (@jK _ _ _ (@jQ _ _ _ _ (yK ["source","target","amount","vessel"] (kZ 3 [4]) rfl (qO (jG eX)) (cps 3 [4]) (vC (pv 2)) (fun _ _ _ _ _=>(JB (n:=3) K rfl (kW (kC (i:=0) (show List.Nodup (["source","target","amount","vessel"]:List Str) from by decide +kernel) rfl (.inl rfl)) (kW (kC (i:=1) (show List.Nodup (["source","target","amount","vessel"]:List Str) from by decide +kernel) rfl (.inl rfl)) (kW (kC (i:=2) (show List.Nodup (["source","target","amount","vessel"]:List Str) from by decide +kernel) rfl (.inl rfl)) y7))))) (fun _ _ _ _ _=>vY) (fun _ _ _ _ _=>(kQ (@jB _ _ _ _ _ (AN hu1 (pv 3) (pv 0) (fun _ _=>rfl)) (@jB _ _ _ _ _ (AN hu1 (pv 3) (pv 1) (fun _ _=>rfl)) (@jB _ _ _ _ _ (pv 2) jC (by rfl)) (by rfl)) (by rfl))))))))),?_⟩
 try dsimp only [jX,jW]
 have hc0:=hc
 obtain ⟨dx,rl,ll,nl,fs,rs,ls,nv,hx,hf,hrl,hll,hnl,hR,hL,hN,d1,d2,d3⟩:=hc
 obtain ⟨v,hv,y,rfl,dl,hl⟩:=hL.get hl'
 have hkL:k<L.length:=(List.getElem?_eq_some_iff.mp hl').1
 refine (jA rfl (j8 hx (T.clN) (T.nN_locks) (hf.2.1) ((jA rfl (qH (SqL.of hll) (qL hv) (?_))))))
 refine fun w hw0=>?_
 have s0:=jI hw0 (.dK [])
 refine (jA rfl (j8 ((s0 _ _ hl)) (T.cl l.kd) (T.n_high l.kd) (bH l.kd _ _ _ _ _) ((jA rfl (j8 ((s0 _ _ hl)) (T.cl l.kd) (T.n_low l.kd) (bN l.kd _ _ _ _ _) ((jA rfl (⟨x,dx,jA rfl (⟨(s0 _ _ hx),hf.no (by decide +kernel) (by decide +kernel) (by decide +kernel),jA rfl (⟨x,D,R,L,N,jA rfl (⟨hc0.same s0,jA rfl (⟨x,dx,jA rfl (⟨(s0 _ _ hx),hf.no (by decide +kernel) (by decide +kernel) (by decide +kernel),jA rfl (⟨x,D,R,L,N,jA rfl (⟨hc0.same s0,?_⟩)⟩)⟩)⟩)⟩)⟩)⟩)⟩))))))))
 refine ⟨jE,[(.inr "high",.int l.high),(.inr "low",.int l.low),(.inr "chamber",.int (zJ R.length L.length (k:Int))),(.inr "basin",.int (yH R.length L.length (k:Int)))],rfl,(by show 4≤15;decide),?_⟩
 rw [PJ]
 have s1:Same H (upd (upd H w (.dK [])) w (.dK (d4 (.int l.high) (.int l.low) (.int (zJ R.length L.length (k:Int))) (.int (yH R.length L.length (k:Int)))))):=qA hw0 s0
 have hw:upd (upd H w (.dK [])) w (.dK (d4 (.int l.high) (.int l.low) (.int (zJ R.length L.length (k:Int))) (.int (yH R.length L.length (k:Int))))) w=_:=jE
 generalize upd (upd H w (.dK [])) w (.dK (d4 (.int l.high) (.int l.low) (.int (zJ R.length L.length (k:Int))) (.int (yH R.length L.length (k:Int)))))=H1 at s1 hw ⊢
 have hdg:∀(Hi:Hp) (s:Str),Same H1 Hi→okW s→DGet Hi w (.str s) (some (.int ((zI R.length L.length k l s:Nat):Int))):=fun Hi s sm hs=>by
  obtain ⟨e1,e2,e3,e4⟩:=R9 (sm _ _ hw)
  obtain ⟨g1,g2,g3,g4,_⟩:=hg
  cases hs
  ·rw [wH,show ((l.high.toNat:Nat):Int)=l.high by omega];exact e1
  ·rw [xV,show ((l.low.toNat:Nat):Int)=l.low by omega];exact e2
  ·rw [uA,show ((R.length+k:Nat):Int)=zJ R.length L.length (k:Int) by unfold zJ;omega];exact e3
  ·rw [uB,show ((R.length+L.length+k:Nat):Int)=yH R.length L.length (k:Int) by unfold yH;omega];exact e4
 refine (jA rfl (⟨p,rfl,⟨_,SqL.of (s1 _ _ hp)⟩,fun D₁ hD₁=>?_⟩))
 refine ZL (K:=K) (a:=p) (xs:=rp) (fun i σ Hi=>∃(c1 c2 c3:Option V) (zs:List V),σ=[c1,c2,c3,some (.ref w)]∧Hi D₁=some (.lst zs)∧PoursH Hi zs ((ps.take i).map (eE R.length L.length k l)) (R.length+2*L.length+2)∧Same H1 Hi)
  (vW none none none ([]) (v8 rfl jE (PoursH.nil _ _) (jI hD₁ _))) (fun i σ Hi _ ⟨_,_,_,_,_,_,_,s⟩=>SqL.of (s _ _ (s1 _ _ hp))) ?_ ?_
 ·rintro i v σ Hi hv ⟨c1,c2,c3,zs,rfl,hY,hA,sm⟩
  have hi:i<rp.length:=(List.getElem?_eq_some_iff.mp hv).1
  rw [hP.1] at hi
  obtain ⟨t,sS,sT,nN,rfl,hps,hT⟩:=hP.2 i v hv
  obtain ⟨o1,o2⟩:=hok _ (List.mem_of_getElem? hps)
  have hlz:zs.length≤i:=by rw [hA.1,List.length_map];exact List.length_take_le _ _
  refine ⟨t,jA rfl (⟨SqT.of (sm _ _ (s1 _ _ hT)),rfl,_,jA rfl (⟨_,jA rfl (⟨_,_,rfl,rfl,?_⟩)⟩)⟩)⟩
  refine v0 (kT ?_)
  refine (jA rfl (jA rfl (⟨w,jA rfl (⟨hdg Hi _ sm o1,jA rfl (jA rfl (⟨w,jA rfl (⟨hdg Hi _ sm o2,jA rfl (⟨zz3,fun tp htp=>?_⟩)⟩)⟩))⟩)⟩)))
  have u:=jI htp (.tup [V.int ((zI R.length L.length k l sS:Nat):Int),V.int ((zI R.length L.length k l sT:Nat):Int),V.int nN])
  refine ⟨zs,u _ _ hY,vX (by omega),_,_,_,zs++[.ref tp],rfl,jE,?_,qA hD₁ (sm.trans u)⟩
  rw [List.take_add_one,hps,List.map_append]
  exact ((hA.same u).snoc jE (iB o1 hg hkL) (iB o2 hg hkL)).put (u _ _ hY)
 rintro σ Hf ⟨c1,c2,c3,zs,rfl,hY,hA,sm⟩
 rw [hP.1,List.take_length] at hA
 exact q D₁ Hf zs (s1.trans sm) (s1.free hD₁) hY hA
theorem fL:FnScope ["canal","ways","state","boat","step","k","basin"] ["canal","ways","state","boat"] (jG mM):=jU
include T in
theorem FJ {f:Addr} {fd:FuncData} (F:Fun K "pass_pours" "pass_pours" mM f fd) (D_next_step:Def P w K mg base 1 "next_step" ["way","place"] [] (BK)) (MM_Canal_basin:MeD P w K mg base 1 cN "basin" ["self","k"] (QG (jF cP cB cU) cR cN yH)) (D_by_number:Def P w K mg base 2 "by_number" ["canal","k","named"] [] (o3 (jF cP cB cU) cR cN)) (D_passage:Def P w K mg base 4 "passage" ["lock","full","basin","way"] [] (uH (jF cP cB cU))) (MM_Canal_full:MeD P w K mg base 2 cN "full" ["self","waters","k"] (gT (jF cP cB cU) cR cN)):FnOk P w K mg base jP 6 f fd ["canal","ways","state","boat"] (o0 (jF cP cB cU) cR cN):=by
 refine F.ok2 fL fun vs H Q E h=>?_
 obtain ⟨x,wl,st,b,us,ys,y,p,s₁,d,ms,pl,D,R,L,N,rfl,hG,hy,hpp,hs,q⟩:=h
 refine ⟨rfl,fun _ _ _ _ hr=>?_⟩
 refine ⟨_,(@jH _ _ _ _ _ (jZ (i:=4) fL.nd rfl (.inl rfl) (jO D_next_step hr rfl (jB (jM (kN K) (pv 1) (pv 3)) (jB (jM (jT K) (jM (jT K) (pv 2) jD) (pv 3)) jC))))
   (@jH _ _ _ _ _ (jZ (i:=5) fL.nd rfl (.inl rfl) (jM (jT K) (pv 4) jD))
   (@jH _ _ _ _ _ (jZ (i:=6) fL.nd rfl (.inl rfl) (jM (jT K) (jM (jT K) (pv 2) jD) (Z3 MM_Canal_basin hr (pv 0) (jB (pv 5) jC))))
   (@jK _ _ _ (@jQ _ _ _ _ (jO D_by_number hr rfl (@jB _ _ _ _ _ (pv 0) (@jB _ _ _ _ _ (pv 5) (@jB _ _ _ _ _ (jO D_passage hr rfl (@jB _ _ _ _ _ (jM (kN K) (j6 K (pv 0) rfl) (pv 5)) (@jB _ _ _ _ _ (Z3 MM_Canal_full hr (pv 0) (jB (jM (jT K) (pv 2) jD) (jB (pv 5) jC))) (@jB _ _ _ _ _ (pv 6) (@jB _ _ _ _ _ (jM (jT K) (pv 4) jD) jC (by rfl)) (by rfl)) (by rfl)) (by rfl))) jC (by rfl)) (by rfl)) (by rfl)))))))),?_⟩
 try dsimp only [jX,jW]
 obtain ⟨hc,hdr,hwl,hA,⟨wt,pt,hst1,hwt,hpt⟩,hfl,hml⟩:=id hG
 have hc0:=hc
 obtain ⟨dx,rl,ll,nl,fs,rs,ls,nv,hx,hf,hrl,hll,hnl,hR,hL,hN,d1,d2,d3⟩:=hc
 obtain ⟨v,hvy,t,st₂,vs₂,rfl,hw1,hw2,hw3⟩:=hA.get hy
 have hyok:=hfl.ok y (List.mem_of_getElem? hy)
 have hkL:=hyok.lt s₁ (List.mem_of_getElem? hs)
 obtain ⟨l,hl'⟩:∃l,L[s₁.1]?=some l:=⟨_,List.getElem?_eq_getElem hkL⟩
 obtain ⟨v4,hv4,y4,rfl,dl,hl⟩:=hL.get hl'
 have hgd:=hdr.lock _ _ hl'
 have ebas:yH R.length L.length (s₁.1:Int)=((R.length+L.length+s₁.1:Nat):Int):=by unfold yH;omega
 have hat:qT (ms.map V.int) (yH R.length L.length (s₁.1:Int))=some (.int (ms.getD (R.length+L.length+s₁.1) 0)):=by rw [ebas];exact yL (by omega)
 refine (jA rfl (jA rfl (⟨wl,_,_,_,rfl,rfl,SqL.of hwl,qL hvy,jA rfl (⟨st,_,_,_,rfl,rfl,SqT.of hst1,rfl,jA rfl (⟨pt,_,_,_,rfl,rfl,SqT.of hpt,qL (v:=.int (p:Int)) (by rw [List.getElem?_map,hpp];rfl),vW t y p s₁ (v8 rfl (vS t st₂ vs₂ (v8 rfl hw1 hw2 hw3)) hs (fun v3 ⟨t3,e3,ht3⟩=>?_))⟩)⟩)⟩)))
 subst e3
 refine (jA rfl (⟨t3,_,_,_,rfl,rfl,SqT.of ht3,rfl,?_⟩))
 refine (jA rfl (⟨st,_,_,_,rfl,rfl,SqT.of hst1,rfl,jA rfl (⟨x,dx,jA rfl (⟨hx,hf.no (by decide +kernel) (by decide +kernel) (by decide +kernel),jA rfl (⟨x,D,R,L,N,jA rfl (⟨hc0,wt,_,_,_,rfl,rfl,SqT.of hwt,hat,?_⟩)⟩)⟩)⟩)⟩))
 refine (jA rfl (jA rfl (jA rfl (⟨x,cN,dx,_,jA rfl (⟨hx,T.clN,T.nN_locks,hf.2.1,jA rfl (⟨ll,_,_,_,rfl,rfl,SqL.of hll,qL hv4,jA rfl (⟨x,dx,jA rfl (⟨hx,hf.no (by decide +kernel) (by decide +kernel) (by decide +kernel),jA rfl (⟨st,_,_,_,rfl,rfl,SqT.of hst1,rfl,jA rfl ((QO x wt D R L N ms s₁.1 (yI rfl hc0 hwt (by omega) (jA rfl (jA rfl (⟨t3,_,_,_,rfl,rfl,SqT.of ht3,rfl,y4,l.kd,_,_,_,l.room,l.extra,_,_,s₁.2,(by rw [P6];rfl),⟨dl,hl⟩,fun r H1 rs s1 hr0 hr hP=>?_⟩))))))⟩)⟩)⟩)⟩)⟩)⟩))))
 refine (eG x r s₁.1 l rs _ D R L N (rV rfl (hc0.same s1) hl' hgd hr hP (w4 _ _ _ _ _ _) (Nat.le_trans (uQ _ _ _ _ _ _) (by decide)) (fun r2 H2 zs s2 hr20 hr2 hP2=>?_)))
 refine q r2 H2 zs (s1.trans s2) (s1.free hr20) hr2 ?_
 unfold passQ JY
 rw [hl',hml]
 exact hP2
theorem HF:FnScope ["canal","state","k"] ["canal","state","k"] (jG mG):=jU
include T in
theorem E7 {f:Addr} {fd:FuncData} (F:Fun K "let_pours" "let_pours" mG f fd) (D_by_number:Def P w K mg base 2 "by_number" ["canal","k","named"] [] (o3 (jF cP cB cU) cR cN)) (D_letting:Def P w K mg base 3 "letting" ["lock","basin"] [] (dG (jF cP cB cU) v6)) (MM_Canal_basin:MeD P w K mg base 1 cN "basin" ["self","k"] (QG (jF cP cB cU) cR cN yH)):FnOk P w K mg base jP 4 f fd ["canal","state","k"] (AB (jF cP cB cU) cR cN):=by
 refine F.ok2 HF fun vs H Q E h=>?_
 obtain ⟨x,wl,st,k,us,ys,d,ms,pl,D,R,L,N,rfl,hG,hkL,q⟩:=h
 refine ⟨rfl,fun _ _ _ _ hr=>?_⟩
 refine ⟨_,(@jK _ _ _ (@jQ _ _ _ _ (jO D_by_number hr rfl (@jB _ _ _ _ _ (pv 0) (@jB _ _ _ _ _ (pv 2) (@jB _ _ _ _ _ (jO D_letting hr rfl (jB (jM (kN K) (j6 K (pv 0) rfl) (pv 2)) (jB (jM (jT K) (jM (jT K) (pv 1) jD) (Z3 MM_Canal_basin hr (pv 0) (jB (pv 2) jC))) jC))) jC (by rfl)) (by rfl)) (by rfl))))),?_⟩
 try dsimp only [jX,jW]
 obtain ⟨hc,hdr,hwl,hA,⟨wt,pt,hst1,hwt,hpt⟩,hfl,hml⟩:=id hG
 have hc0:=hc
 obtain ⟨dx,rl,ll,nl,fs,rs,ls,nv,hx,hf,hrl,hll,hnl,hR,hL,hN,d1,d2,d3⟩:=hc
 obtain ⟨l,hl'⟩:∃l,L[k]?=some l:=⟨_,List.getElem?_eq_getElem hkL⟩
 obtain ⟨v4,hv4,y4,rfl,dl,hl⟩:=hL.get hl'
 have hgd:=hdr.lock _ _ hl'
 have hat:qT (ms.map V.int) (yH R.length L.length (k:Int))=some (.int (ms.getD (R.length+L.length+k) 0)):=by
  rw [show yH R.length L.length (k:Int)=((R.length+L.length+k:Nat):Int) by unfold yH;omega]
  exact yL (by omega)
 refine (jA rfl (jA rfl (jA rfl (j8 hx (T.clN) (T.nN_locks) (hf.2.1) ((jA rfl (qH (SqL.of hll) (qL hv4) ((jA rfl (jR (SqT.of hst1) rfl ((jA rfl (⟨x,dx,jA rfl (⟨hx,hf.no (by decide +kernel) (by decide +kernel) (by decide +kernel),jA rfl (⟨x,D,R,L,N,jA rfl (⟨hc0,jR (SqT.of hwt) hat (⟨y4,l.kd,_,_,_,l.room,l.extra,jA rfl (⟨⟨dl,hl⟩,fun r H1 rs s1 hr0 hr hP=>?_⟩)⟩)⟩)⟩)⟩)⟩)))))))))))))
 refine (eG x r k l rs _ D R L N (rV rfl (hc0.same s1) hl' hgd hr hP (dS _ _ _ _) (Nat.le_trans (ZR _ _ _ _) (by decide)) (fun r2 H2 zs s2 hr20 hr2 hP2=>?_)))
 refine q r2 H2 zs (s1.trans s2) (s1.free hr20) hr2 ?_
 unfold letQ
 rw [hl',hml]
 exact hP2
theorem HB:FnScope ["canal","waters","vessel"] ["canal","waters","vessel"] (jG mD):=jU
include T in
theorem E2 {f:Addr} {fd:FuncData} (F:Fun K "is_below_least" "is_below_least" mD f fd) : FnOk P w K mg base jP 1 f fd ["canal","waters","vessel"] (CH (jF cP cB cU) cR cN):=by
 refine F.ok2 HB fun vs H Q E h=>?_
 obtain ⟨x,w,v,ms,D,R,L,N,rfl,hc,hw,hv,q⟩:=h
 refine ⟨rfl,fun _ _ _ _ hr=>?_⟩
 refine ⟨_,(@jK _ _ _ (@jQ _ _ _ _ (PB (QN pU (pv 2) (kP (qD K) (by rfl) T.z_len PySem.boot_len (jB (j6 K (pv 0) rfl) jC))) (BV (QN pU (jM (jT K) (pv 1) (pv 2)) (j6 K (jM (kN K) (j6 K (pv 0) rfl) (pv 2)) rfl)))))),?_⟩
 try dsimp only [jX,jW]
 obtain ⟨dx,rl,ll,nl,fs,rs,ls,nv,hx,hf,hrl,hll,hnl,hR,hL,hN,d1,d2,d3⟩:=hc
 refine (jA rfl (jA rfl (j8 hx (T.clN) (T.nN_reaches) (hf.1) (⟨rl,jA rfl (⟨.inl (SqL.of hrl),_,_,rfl,rfl,jA rfl (?_)⟩)⟩))))
 rw [hR.1]
 by_cases h:v<R.length
 ·obtain ⟨r,hr⟩:∃r,R[v]?=some r:=⟨_,List.getElem?_eq_getElem h⟩
  obtain ⟨z,hz,y,rfl,dy,gs,hy,hg⟩:=hR.get hr
  refine vD (by omega) (jA rfl (jA rfl (jR (SqT.of hw) (yL hv) ((jA rfl (j8 hx (T.clN) (T.nN_reaches) (hf.1) ((jA rfl (qH (SqL.of hrl) (qL hz) (j8 hy (T.clR) (T.nR_least) (hg.2.1) (j7 (?_))))))))))))
  rw [show zY R ms v=decide (ms.getD v 0<r.least) by unfold zY;rw [hr]] at q
  exact q
 ·refine qV (by omega) ?_
  rw [show zY R ms v=false by unfold zY;rw [List.getElem?_eq_none (by omega)]] at q
  exact q
theorem fK:FnScope ["canal","waters","moved","held","pour"] ["canal","waters","moved"] (jG mB):=jU
include T in
theorem EW {f:Addr} {fd:FuncData} (F:Fun K "falls_short" "falls_short" mB f fd) (D_poured_all:Def P w K mg base 1 "poured_all" ["waters","pours"] [] (dY K)) (D_is_below_least:Def P w K mg base 1 "is_below_least" ["canal","waters","vessel"] [] (CH (jF cP cB cU) cR cN)):FnOk P w K mg base jP 2 f fd ["canal","waters","moved"] (wN (jF cP cB cU) cR cN):=by
 refine F.ok2 fK fun vs H Q E h=>?_
 obtain ⟨x,w,p,ms,zs,qs,D,R,L,N,rfl,hc,hw,hp,hP,h1000,q⟩:=h
 refine ⟨rfl,fun _ _ _ _ hr=>?_⟩
 refine ⟨_,(@jH _ _ _ _ _ (jZ (i:=3) fK.nd rfl (.inl rfl) (pv 1))
   (@jH _ _ _ _ _ (zS PassesOwn.never rfl (vC (pv 2)) (kC (i:=4) fK.nd rfl (.inl rfl))
    (@jH _ _ _ _ _ (jZ (i:=3) fK.nd rfl (.inl rfl) (jO D_poured_all hr rfl (jB (pv 3) (jB (qR (jB (pv 4) jC)) jC))))
   (@jK _ _ _ (qQ (QY (jO D_is_below_least hr rfl (@jB _ _ _ _ _ (pv 0) (@jB _ _ _ _ _ (pv 3) (@jB _ _ _ _ _ (jM (jT K) (pv 4) jD) jC (by rfl)) (by rfl)) (by rfl)))) (@jK _ _ _ (@jQ _ _ _ _ Z0)) qP))))
   (@jK _ _ _ (@jQ _ _ _ _ Z0)))),?_⟩
 try dsimp only [jX,jW]
 refine (jA rfl (?_))
 refine ⟨_,rfl,p,rfl,⟨_,SqL.of hp⟩,ZS (K:=K) (a:=p) (xs:=zs) (fun i σ Hi=>∃(h:Addr) (c:Option V),σ=[some (.ref x),some (.ref w),some (.ref p),some (.ref h),c]∧Hi h=some (.tup ((j3 ms (qs.take i)).map V.int))∧y9 R ms qs=y9 R (j3 ms (qs.take i)) (qs.drop i)∧Same H Hi)
  ⟨w,none,rfl,hw,rfl,Same.refl _⟩ (fun i σ Hi _ ⟨_,_,_,_,_,s⟩=>SqL.of (s _ _ hp)) ?_ ?_⟩
 ·rintro i v σ Hi hv ⟨h,c,rfl,hh,he,sm⟩
  obtain ⟨a,s,t,m,rfl,hq,hT,hs,ht⟩:=hP.2 i v hv
  have el:(j3 ms (qs.take i)).length=ms.length:=vG _ _
  refine (jA rfl (jA rfl (⟨zz1,fun lp hlp=>?_⟩)))
  have u:=jI hlp (.lst [V.ref a])
  refine ⟨h,vW lp _ ([.ref a]) ([(s,t,m)]) (yY rfl (.inr (SqT.of (u _ _ hh))) (SqL.of jE) ((PoursH.nil _ _ |>.snoc (u _ _ (sm _ _ hT)) (by rw [el];exact hs) (by rw [el];exact ht)).pa) (by rw [el];exact h1000) (fun r H' s' hr0 hr=>?_))⟩
  have sm2:=(sm.trans u).trans s'
  have ep:j3 (j3 ms (qs.take i)) [(s,t,m)]=j3 ms (qs.take (i+1)):=by rw [nG ms qs i _ hq];rfl
  rw [ep] at hr
  have ed:qs.drop i=(s,t,m)::qs.drop (i+1):=(List.drop_eq_getElem_cons (List.getElem?_eq_some_iff.mp hq).1).trans (by rw [(List.getElem?_eq_some_iff.mp hq).2])
  have he2:y9 R ms qs=(zY R (j3 ms (qs.take (i+1))) s||y9 R (j3 ms (qs.take (i+1))) (qs.drop (i+1))):=by
   rw [he,ed]
   show (zY R (pour (j3 ms (qs.take i)) (s,t,m)) s||y9 R (pour (j3 ms (qs.take i)) (s,t,m)) (qs.drop (i+1)))=_
   rw [nG ms qs i _ hq]
  have el2:(j3 ms (qs.take (i+1))).length=ms.length:=vG _ _
  refine (jA rfl (jA rfl (jA rfl (jR (SqT.of (sm2 _ _ hT)) rfl ((QO x r s _ D R L N (yI rfl (hc.same sm2) hr (by rw [el2];exact hs) (jA rfl (?_)))))))))
  cases hb:zY R (j3 ms (qs.take (i+1))) s with
  |true =>
   refine kT ?_
   have:=q H' sm2
   rw [he2,hb] at this
   exact this
  |false =>
   refine yG ⟨r,jA rfl (⟨hr,?_,sm2⟩)⟩
   rw [he2,hb]
   rfl
 rintro σ Hi ⟨h,c,rfl,hh,he,sm⟩
 rw [hP.1,List.drop_length] at he
 have:=q Hi sm
 rw [he] at this
 exact this
theorem nE:FnScope ["canal","ways","state","boat","place","target"] ["canal","ways","state","boat"] (jG mX):=jU
include T in
theorem FW {f:Addr} {fd:FuncData} (F:Fun K "why_no_pass" "why_no_pass" mX f fd) (D_reach_of:Def P w K mg base 3 "reach_of" ["canal","way","place"] [] (nX (jF cP cB cU) cR cN)) (D_has_no_berth:Def P w K mg base 5 "has_no_berth" ["canal","ways","state","reach"] [] (uI (jF cP cB cU) cR cN)) (D_falls_short:Def P w K mg base 2 "falls_short" ["canal","waters","moved"] [] (wN (jF cP cB cU) cR cN)) (D_pass_pours:Def P w K mg base 6 "pass_pours" ["canal","ways","state","boat"] [] (o0 (jF cP cB cU) cR cN)):FnOk P w K mg base jP 7 f fd ["canal","ways","state","boat"] (BH (jF cP cB cU) cR cN):=by
  refine F.ok2 nE fun vs H Q E h=>?_
  obtain ⟨x,wl,st,b,us,ys,d,ms,pl,D,R,L,N,rfl,hG,hb,q⟩:=h
  refine ⟨rfl,fun _ _ _ _ hr=>?_⟩
  refine ⟨_,(@jH _ _ _ _ _ (jZ (i:=4) nE.nd rfl (.inl rfl) (jM (jT K) (jM (jT K) (pv 2) jD) (pv 3)))
      (@jH _ _ _ _ _ (qQ (kO qM (jO D_reach_of hr rfl (@jB _ _ _ _ _ (pv 0) (@jB _ _ _ _ _ (jM (kN K) (pv 1) (pv 3)) (@jB _ _ _ _ _ (pv 4) jC (by rfl)) (by rfl)) (by rfl))) (dQ (v:=.int (-1)) rfl T.g_HOME ⟨_,rfl⟩)) (@jK _ _ _ (@jQ _ _ _ _ j5)) qP)
      (@jH _ _ _ _ _ (jZ (i:=5) nE.nd rfl (.inl rfl) (jO D_reach_of hr rfl (@jB _ _ _ _ _ (pv 0) (@jB _ _ _ _ _ (jM (kN K) (pv 1) (pv 3)) (@jB _ _ _ _ _ (@jJ _ _ _ _ _ _ _ _ kH (pv 4) jD) jC (by rfl)) (by rfl)) (by rfl))))
      (o6 (qQ (PW.pt (BR (kO QI (pv 5) (dQ (v:=.int (-1)) rfl T.g_HOME ⟨_,rfl⟩)) (AH (QY (jO D_has_no_berth hr rfl (@jB _ _ _ _ _ (pv 0) (@jB _ _ _ _ _ (pv 1) (@jB _ _ _ _ _ (pv 2) (@jB _ _ _ _ _ (pv 5) jC (by rfl)) (by rfl)) (by rfl)) (by rfl))))))) (@jK _ _ _ (@jQ _ _ _ _ j5)) qP)
      (@jH _ _ _ _ _ (qQ (QY (jO D_falls_short hr rfl (@jB _ _ _ _ _ (pv 0) (@jB _ _ _ _ _ (jM (jT K) (pv 2) jD) (@jB _ _ _ _ _ (jO D_pass_pours hr rfl (@jB _ _ _ _ _ (pv 0) (@jB _ _ _ _ _ (pv 1) (@jB _ _ _ _ _ (pv 2) (@jB _ _ _ _ _ (pv 3) jC (by rfl)) (by rfl)) (by rfl)) (by rfl))) jC (by rfl)) (by rfl)) (by rfl)))) (@jK _ _ _ (@jQ _ _ _ _ j5)) qP)
      (@jK _ _ _ (@jQ _ _ _ _ j5))))))),?_⟩
  try dsimp only [jX,jW]
  obtain ⟨hc,hdr,hwl,hA,hst,hfl,hml⟩:=id hG
  obtain ⟨wt,pt,hst1,hwt,hpt⟩:=id hst
  have hc0:=hc
  obtain ⟨dx,rl,ll,nl,fs,rs,ls,nv,hx,hf,hrl,hll,hnl,hR,hL,hN,d1,d2,d3⟩:=hc
  have b1:=hdr.r8
  have b2:=hdr.l8
  obtain ⟨y,hy⟩:∃y,ys[b]?=some y:=⟨_,List.getElem?_eq_getElem hb⟩
  obtain ⟨p,hp⟩:∃p,pl[b]?=some p:=⟨_,List.getElem?_eq_getElem (by rw [hfl.len];exact hb)⟩
  obtain ⟨v,hvy,hwy⟩:=hA.get hy
  obtain ⟨t,st₂,vs₂,rfl,hw1,hw2,hw3⟩:=id hwy
  have hple:=hfl.le b y p hy hp
  have hyok:=hfl.ok y (List.mem_of_getElem? hy)
  have ey:ys.getD b (0,[])=y:=by rw [List.getD_eq_getElem?_getD,hy];rfl
  have ep:pl.getD b 0=p:=by rw [List.getD_eq_getElem?_getD,hp];rfl
  unfold ZA at q
  rw [ey,ep] at q
  refine (jA rfl (jR (SqT.of hst1) rfl ((jA rfl (jR (SqT.of hpt) (qL (v:=.int (p:Int)) (by rw [List.getElem?_map,hp];rfl)) (?_))))))
  refine (jA rfl (jA rfl (jA rfl (qH (SqL.of hwl) (qL hvy) ((jA rfl ((QO x t y p D R L N (yY rfl hc0 hwy hyok hple (fun H1 s1=>⟨rfl,jA rfl (?_)⟩))))))))))
  by_cases h0:p=y.2.length
  · refine vD (by rw [h0,AJ]) ?_
    have:=q H1 s1
    rw [if_pos h0] at this
    exact this
  have hlt:p<y.2.length:=by omega
  have hpin:=BT hdr hyok hlt
  refine qV (fun e=>by have:=V.int.inj e;omega) ?_
  have q:∀H',Same H H'→Q (.str (if ¬q9 L y (p+1) = -1∧dO R (q9 L y (p+1))≤(((zK L ys pl).countP fun z=>decide (z=q9 L y (p+1)):Nat):Int) then "berth" else if y9 R ms (passQ R.length L ms (y.2.getD p (0,true)))=true then "water" else "")) H':=fun H' s'=>by
    have:=q H' s'
    rw [if_neg h0] at this
    exact this
  have s01:=s1
  refine (jA rfl (jA rfl (jA rfl (qH (SqL.of (s1 _ _ hwl)) (qL hvy) ((jA rfl (j7 ((QO x t y (p+1) D R L N (yY rfl (hc0.same s1) (WyAt.same s1 _ _ hwy) hyok (by omega) (fun H2 s2=>?_)))))))))))
  have s02:=s1.trans s2
  refine ⟨fun σ' Ha=>σ'=[some (.ref x),some (.ref wl),some (.ref st),some (.int (b:Int)),some (.int (p:Int)),some (.int (q9 L y (p+1)))]∧Same H Ha∧¬(¬q9 L y (p+1) = -1∧dO R (q9 L y (p+1))≤(((zK L ys pl).countP fun z=>decide (z=q9 L y (p+1)):Nat):Int)),?_,?_⟩
  · refine ⟨_,rfl,rfl,jA rfl (?_)⟩
    by_cases h1:q9 L y (p+1) = -1
    · exact JX (congrArg V.int h1) (yG ⟨rfl,s02,fun z=>z.1 h1⟩)
    refine JW (fun e=>h1 (V.int.inj e)) ?_
    have hlt2:p+1<y.2.length:=by
      by_cases e:p+1=y.2.length
      · rw [e,AJ] at h1;exact absurd rfl h1
      · omega
    have hpin2:=BT hdr hyok hlt2
    obtain ⟨tn,htn⟩:∃tn:Nat,q9 L y (p+1)=(tn:Int):=⟨(q9 L y (p+1)).toNat,by omega⟩
    rw [htn] at h1 ⊢
    obtain ⟨r,hr⟩:∃r,R[tn]?=some r:=⟨_,List.getElem?_eq_getElem (by omega)⟩
    have eb:dO R (tn:Int)=r.berths:=by unfold dO;rw [show ((tn:Nat):Int).toNat=tn from rfl,hr]
    refine (jA rfl (jA rfl (jA rfl (jA rfl ((eF x wl st tn r us ys d ms pl D R L N (v8 rfl (hG.same s02) hr (fun H3 s3=>(jA rfl (?_))))))))))
    have s03:=s02.trans s3
    by_cases h2:r.berths≤(((zK L ys pl).countP fun z=>decide (z=(tn:Int)):Nat):Int)
    · rw [decide_eq_true h2]
      refine kT ?_
      have:=q H3 s03
      rw [htn,eb,if_pos ⟨h1,h2⟩] at this
      exact this
    · rw [decide_eq_false h2]
      exact yG ⟨rfl,s03,fun z=>h2 (by rw [eb] at z;exact z.2)⟩
  rintro σ' H3 ⟨rfl,s03,hno⟩
  obtain ⟨s₁,hs⟩:∃s,y.2[p]?=some s:=⟨_,List.getElem?_eq_getElem hlt⟩
  have es:y.2.getD p (0,true)=s₁:=by rw [List.getD_eq_getElem?_getD,hs];rfl
  refine (jA rfl (jA rfl (jR (SqT.of (s03 _ _ hst1)) rfl ((jA rfl (jA rfl (jA rfl (jA rfl ((C0 x wl st b us ys y p s₁ d ms pl D R L N (yY rfl (hG.same s03) hy hp hs (fun r H4 zs s4 hr0 hr hP=>?_))))))))))))
  have s04:=s03.trans s4
  refine (eG x wt r ms zs _ D R L N (Z5 rfl (hc0.same s04) (s04 _ _ hwt) hr hP (by omega) (fun H5 s5=>(jA rfl (?_)))))
  have:=q H5 (s04.trans s5)
  rw [if_neg hno,es] at this
  cases hsb:y9 R ms (passQ R.length L ms s₁) with
  |true =>
    refine kT ?_
    rw [hsb,if_pos rfl] at this
    exact this
  |false =>
    refine yG ?_
    rw [hsb,if_neg (by decide)] at this
    exact this
theorem HS:FnScope ["canal","ways","state","deed"] ["canal","ways","state","deed"] (jG mY):=jU
include T in
theorem FX {f:Addr} {fd:FuncData} (F:Fun K "why_not" "why_not" mY f fd) (D_why_no_pass:Def P w K mg base 7 "why_no_pass" ["canal","ways","state","boat"] [] (BH (jF cP cB cU) cR cN)) (MM_Canal_full:MeD P w K mg base 2 cN "full" ["self","waters","k"] (gT (jF cP cB cU) cR cN)):FnOk P w K mg base jP 8 f fd ["canal","ways","state","deed"] (pK (jF cP cB cU) cR cN):=by
 refine F.ok2 HS fun vs H Q E h=>?_
 obtain ⟨x,wl,st,dd,de,us,ys,d,ms,pl,D,R,L,N,rfl,hG,hdd,hin,q⟩:=h
 refine ⟨rfl,fun _ _ _ _ hr=>?_⟩
 refine ⟨_,(@jH _ _ _ _ _ (qQ (kO qM (jM (jT K) (pv 3) jD) j5) (@jK _ _ _ (@jQ _ _ _ _ (jO D_why_no_pass hr rfl (@jB _ _ _ _ _ (pv 0) (@jB _ _ _ _ _ (pv 1) (@jB _ _ _ _ _ (pv 2) (@jB _ _ _ _ _ (jM (jT K) (pv 3) jD) jC (by rfl)) (by rfl)) (by rfl)) (by rfl))))) qP)
   (@jH _ _ _ _ _ (qQ (kO qM (jM (jT K) (pv 3) jD) j5) (@jK _ _ _ (@jQ _ _ _ _ (J9 (QY (Z3 MM_Canal_full hr (pv 0) (jB (jM (jT K) (pv 2) jD) (jB (jM (jT K) (pv 3) jD) jC)))) j5 j5))) qP)
   (@jK _ _ _ (@jQ _ _ _ _ (J9 (kO pU (jM (jT K) (pv 2) jD) (kP (qD K) (by rfl) T.z_len PySem.boot_len (jB (j6 K (pv 0) rfl) jC))) j5 j5))))),?_⟩
 try dsimp only [jX,jW]
 obtain ⟨hc,hdr,hwl,hA,hst,hfl,hml⟩:=id hG
 obtain ⟨wt,pt,hst1,hwt,hpt⟩:=id hst
 have hc0:=hc
 obtain ⟨dx,rl,ll,nl,fs,rs,ls,nv,hx,hf,hrl,hll,hnl,hR,hL,hN,d1,d2,d3⟩:=hc
 cases de with
 |pass b =>
  refine (jA rfl (jR (SqT.of hdd) rfl (⟨rfl,jA rfl (vD rfl ?_)⟩)))
  exact (jA rfl (jA rfl (jA rfl (jA rfl (jR (SqT.of hdd) rfl ((bW x wl st b us ys d ms pl D R L N (v8 rfl hG hin q))))))))
 |«let» k =>
  have hk:k<L.length:=hin
  refine (jA rfl (jR (SqT.of hdd) rfl (⟨rfl,jA rfl (qV (fun e=>absurd (V.str.inj e) (by decide +kernel)) ?_)⟩)))
  refine (jA rfl (jR (SqT.of hdd) rfl (⟨rfl,jA rfl (vD rfl ?_)⟩)))
  refine (jA rfl (⟨x,dx,jA rfl (⟨hx,hf.no (by decide +kernel) (by decide +kernel) (by decide +kernel),jA rfl (jR (SqT.of hst1) rfl ((jA rfl (jR (SqT.of hdd) rfl ((QO x wt D R L N ms k (yI rfl hc0 hwt (by omega) (jA rfl (?_)))))))))⟩)⟩))
  have:=q H (Same.refl _)
  change Q (.str (if JY R.length ms k=true then "" else "empty")) H at this
  unfold JY at this
  by_cases h:0<ms.getD (R.length+k) 0
  ·rw [if_pos (decide_eq_true h)] at this
   exact vD h this
  ·rw [if_neg (by rw [decide_eq_true_eq];exact h)] at this
   exact qV h this
 |night =>
  refine (jA rfl (jR (SqT.of hdd) rfl (⟨rfl,jA rfl (qV (fun e=>absurd (V.str.inj e) (by decide +kernel)) ?_)⟩)))
  refine (jA rfl (jR (SqT.of hdd) rfl (⟨rfl,jA rfl (qV (fun e=>absurd (V.str.inj e) (by decide +kernel)) ?_)⟩)))
  refine (jA rfl (jR (SqT.of hst1) rfl ((jA rfl (j8 hx (T.clN) (T.nN_nights) (hf.2.2.1) (⟨nl,jA rfl (⟨.inl (SqL.of hnl),_,_,rfl,rfl,jA rfl (?_)⟩)⟩))))))
  rw [hN.1]
  have:=q H (Same.refl _)
  change Q (.str (if d<(N.length:Int) then "" else "over")) H at this
  by_cases h:d<(N.length:Int)
  ·rw [if_pos h] at this
   exact vD h this
  ·rw [if_neg h] at this
   exact qV h this
theorem fM:FnScope ["canal","ways","state","deed","word","passes","moved"] ["canal","ways","state","deed"] (jG mQ):=jU
include T in
theorem FM {f:Addr} {fd:FuncData} (F:Fun K "pours" "pours" mQ f fd) (D_why_not:Def P w K mg base 8 "why_not" ["canal","ways","state","deed"] [] (pK (jF cP cB cU) cR cN)) (D_night_pours:Def P w K mg base 5 "night_pours" ["canal","state","weather"] [] (wR K (jF cP cB cU) cR cN)) (D_pass_pours:Def P w K mg base 6 "pass_pours" ["canal","ways","state","boat"] [] (o0 (jF cP cB cU) cR cN)) (D_let_pours:Def P w K mg base 4 "let_pours" ["canal","state","k"] [] (AB (jF cP cB cU) cR cN)) (D_with_spills:Def P w K mg base 4 "with_spills" ["weirs","waters","pours"] [] (oZ K)) (MM_Canal_weirs:MeD P w K mg base 2 cN "weirs" ["self"] (dF (jF cP cB cU) cR cN)):FnOk P w K mg base (vF P w) 9 f fd ["canal","ways","state","deed"] (oP (jF cP cB cU) cR cN eW):=by
 refine F.okX2 fM fun vs H Q E h=>?_
 obtain ⟨x,wl,st,dd,de,us,ys,d,ms,pl,D,R,L,N,rfl,hG,hdd,hin,hd0,qv,qe⟩:=h
 refine ⟨rfl,fun _ _ _ _ hr=>?_⟩
 refine ⟨_,(@jH _ _ _ _ _ (jZ (i:=4) fM.nd rfl (.inl rfl) (jO D_why_not hr rfl (@jB _ _ _ _ _ (pv 0) (@jB _ _ _ _ _ (pv 1) (@jB _ _ _ _ _ (pv 2) (@jB _ _ _ _ _ (pv 3) jC (by rfl)) (by rfl)) (by rfl)) (by rfl))))
   (@jH _ _ _ _ _ (qQ (kO QI (pv 4) j5) (@jK _ _ _ (oR nW rfl rfl T.c_NotNow T.x_NotNow (jB (pv 4) jC))) qP)
   (@jH _ _ _ _ _ (qQ (kO qM (jM (jT K) (pv 3) jD) j5) (@jK _ _ _ (@jQ _ _ _ _ (jO D_night_pours hr rfl (@jB _ _ _ _ _ (pv 0) (@jB _ _ _ _ _ (pv 2) (@jB _ _ _ _ _ (jM (kN K) (j6 K (pv 0) rfl) (jM (jT K) (pv 2) jD)) jC (by rfl)) (by rfl)) (by rfl))))) qP)
   (@jH _ _ _ _ _ (jZ (i:=5) fM.nd rfl (.inl rfl) (QN qM (jM (jT K) (pv 3) jD) j5))
   (@jH _ _ _ _ _ (jZ (i:=6) fM.nd rfl (.inl rfl) (J9 (QY (pv 5)) (jO D_pass_pours hr rfl (@jB _ _ _ _ _ (pv 0) (@jB _ _ _ _ _ (pv 1) (@jB _ _ _ _ _ (pv 2) (@jB _ _ _ _ _ (jM (jT K) (pv 3) jD) jC (by rfl)) (by rfl)) (by rfl)) (by rfl))) (jO D_let_pours hr rfl (@jB _ _ _ _ _ (pv 0) (@jB _ _ _ _ _ (pv 2) (@jB _ _ _ _ _ (jM (jT K) (pv 3) jD) jC (by rfl)) (by rfl)) (by rfl)))))
   (@jK _ _ _ (@jQ _ _ _ _ (jO D_with_spills hr rfl (@jB _ _ _ _ _ (QH MM_Canal_weirs hr (pv 0)) (@jB _ _ _ _ _ (jM (jT K) (pv 2) jD) (@jB _ _ _ _ _ (pv 6) jC (by rfl)) (by rfl)) (by rfl)))))))))),?_⟩
 try dsimp only [jX,jW]
 obtain ⟨hc,hdr,hwl,hA,hst,hfl,hml⟩:=id hG
 obtain ⟨wt,pt,hst1,hwt,hpt⟩:=id hst
 have hc0:=hc
 obtain ⟨dx,rl,ll,nl,fs,rs,ls,nv,hx,hf,hrl,hll,hnl,hR,hL,hN,d1,d2,d3⟩:=hc
 have b1:=hdr.r8
 have b2:=hdr.l8
 have hTg:=JN hdr
 refine (jA rfl (jA rfl (jA rfl (jA rfl ((eF x wl st dd de us ys d ms pl D R L N (yI rfl hG hdd hin (fun H1 s1=>?_))))))))
 refine ⟨_,rfl,rfl,jA rfl (?_)⟩
 by_cases hw:qY R L N.length ys d ms pl de=""
 rotate_left
 ·exact JW (fun e=>hw (V.str.inj e)) (jA rfl (⟨by show 1≤sizeLine;decide,qe hw _ s1⟩))
 refine JX (congrArg V.str hw) ?_
 have qv:=qv hw
 have hdd1:=s1 _ _ hdd
 have hst11:=s1 _ _ hst1
 cases de with
 |night =>
  have hdN:d<(N.length:Int):=by
   change (if d<(N.length:Int) then ("":Str) else "over")="" at hw
   by_cases h:d<(N.length:Int)
   ·exact h
   ·rw [if_neg h] at hw;exact absurd hw (by decide +kernel)
  obtain ⟨dn,hdn⟩:∃dn:Nat,d=(dn:Int):=⟨d.toNat,by omega⟩
  subst hdn
  obtain ⟨W,hWn⟩:∃W,N[dn]?=some W:=⟨_,List.getElem?_eq_getElem (by omega)⟩
  obtain ⟨v,hv,wn,qs,rfl,hwn,hqs,_⟩:=hN.get hWn
  have eW:N.getD (dn:Int).toNat []=W:=by rw [Int.toNat_natCast,List.getD_eq_getElem?_getD,hWn];rfl
  refine (jA rfl (jR (SqT.of hdd1) rfl (⟨rfl,jA rfl (vD rfl ?_)⟩)))
  refine (jA rfl (jA rfl (jA rfl (j8 ((s1 _ _ hx)) (T.clN) (T.nN_nights) (hf.2.2.1) ((jA rfl (jR (SqT.of hst11) rfl (qH (SqL.of (s1 _ _ hnl)) (qL hv) ((C1 x st wn _ ms _ qs W D R L N (S0 rfl (hc0.same s1) (hst.toI.same s1) (s1 _ _ hwn) (hqs.mono (QAt.same s1)) (hdr.night W (List.mem_of_getElem? hWn)) hml (by omega) (by omega) hTg (fun r H2 gs zs s2 hr0 hr hP hS=>?_))))))))))))
  refine qv r H2 gs zs (s1.trans s2) (s1.free hr0) hr ?_ ?_
  ·show PoursH H2 zs ((zH (R.length+2*L.length+1) ms (N.getD (dn:Int).toNat []) R.length).filter kY++_) _
   rw [eW]
   exact hP
  ·show Spl _ (j3 ms ((zH (R.length+2*L.length+1) ms (N.getD (dn:Int).toNat []) R.length).filter kY)) gs
   rw [eW]
   exact hS
 |pass b =>
  have hb:b<ys.length:=hin
  obtain ⟨y,hy⟩:∃y,ys[b]?=some y:=⟨_,List.getElem?_eq_getElem hb⟩
  obtain ⟨p,hp⟩:∃p,pl[b]?=some p:=⟨_,List.getElem?_eq_getElem (by rw [hfl.len];exact hb)⟩
  have hple:=hfl.le b y p hy hp
  have ey:ys.getD b (0,[])=y:=by rw [List.getD_eq_getElem?_getD,hy];rfl
  have ep:pl.getD b 0=p:=by rw [List.getD_eq_getElem?_getD,hp];rfl
  have hne:=wE hw
  rw [ey,ep] at hne
  obtain ⟨s₁,hs⟩:∃s,y.2[p]?=some s:=⟨_,List.getElem?_eq_getElem (by omega)⟩
  have es:y.2.getD p (0,true)=s₁:=by rw [List.getD_eq_getElem?_getD,hs];rfl
  refine (jA rfl (jR (SqT.of hdd1) rfl (⟨rfl,jA rfl (qV (fun e=>absurd (V.str.inj e) (by decide +kernel)) ?_)⟩)))
  refine (jA rfl (jR (SqT.of hdd1) rfl (⟨rfl,?_⟩)))
  rw [decide_eq_true rfl]
  refine (jA rfl (jA rfl (kT ?_)))
  refine (jA rfl (jA rfl (jA rfl (jA rfl (jR (SqT.of hdd1) rfl ((C0 x wl st b us ys y p s₁ d ms pl D R L N (yY rfl (hG.same s1) hy hp hs (fun m H2 zs s2 hm0 hm hP=>?_)))))))))
  have s12:=s1.trans s2
  refine (jA rfl (⟨x,dx,jA rfl (⟨(s12 _ _ hx),hf.no (by decide +kernel) (by decide +kernel) (by decide +kernel),zM x D R L N (v8 rfl (hc0.same s12) (by omega) (fun wq ws H3 s3 hwq0 hwq hW=>?_))⟩)⟩))
  have s13:=s12.trans s3
  have hl:=hP.1
  refine (jA rfl (jR (SqT.of (s13 _ _ hst1)) rfl ((jA rfl (⟨wq,wt,m,ws,zs,kI R L.length,ms,jA rfl (⟨nI hTg hW hwq (.inr (SqT.of (s13 _ _ hwt))) hml (by omega) (by omega),s3 _ _ hm,hP.same s3,?_,fun r H4 gs zs4 s4 hr0 hr hP4 hS=>?_⟩)⟩)))))
  ·rw [hl]
   exact Nat.le_trans (LT _ _ _ _) (by decide)
  have e:vV R L N ys d ms pl (.pass b)=passQ R.length L ms s₁:=by show passQ R.length L ms _=_;rw [ey,ep,es]
  refine qv r H4 gs zs4 (s13.trans s4) (s13.free hr0) hr ?_ ?_
  ·unfold yT;rw [e];exact hP4
  ·rw [e];exact hS
 |«let» k =>
  have hk:k<L.length:=hin
  refine (jA rfl (jR (SqT.of hdd1) rfl (⟨rfl,jA rfl (qV (fun e=>absurd (V.str.inj e) (by decide +kernel)) ?_)⟩)))
  refine (jA rfl (jR (SqT.of hdd1) rfl (⟨rfl,?_⟩)))
  rw [decide_eq_false (fun e=>absurd (V.str.inj e) (show ¬("let":Str)="pass" by decide +kernel))]
  refine (jA rfl (jA rfl (yG ?_)))
  refine (jA rfl (jA rfl (jA rfl (jR (SqT.of hdd1) rfl ((bW x wl st k us ys d ms pl D R L N (v8 rfl (hG.same s1) hk (fun m H2 zs s2 hm0 hm hP=>?_))))))))
  have s12:=s1.trans s2
  refine (jA rfl (⟨x,dx,jA rfl (⟨(s12 _ _ hx),hf.no (by decide +kernel) (by decide +kernel) (by decide +kernel),zM x D R L N (v8 rfl (hc0.same s12) (by omega) (fun wq ws H3 s3 hwq0 hwq hW=>?_))⟩)⟩))
  have s13:=s12.trans s3
  have hl:=hP.1
  refine (jA rfl (jR (SqT.of (s13 _ _ hst1)) rfl ((jA rfl (⟨wq,wt,m,ws,zs,kI R L.length,ms,jA rfl (⟨nI hTg hW hwq (.inr (SqT.of (s13 _ _ hwt))) hml (by omega) (by omega),s3 _ _ hm,hP.same s3,?_,fun r H4 gs zs4 s4 hr0 hr hP4 hS=>?_⟩)⟩)))))
  ·rw [hl]
   exact Nat.le_trans (M4 _ _ _ _) (by decide)
  exact qv r H4 gs zs4 (s13.trans s4) (s13.free hr0) hr hP4 hS
theorem G1:FnScope ["canal","ways","state","deed"] ["canal","ways","state","deed"] (jG lZ):=jU
include T in
theorem EQ {f:Addr} {fd:FuncData} (F:Fun K "after" "after" lZ f fd) (D_counted_on:Def P w K mg base 2 "counted_on" ["state","deed","waters"] [] (uJ)) (D_poured_all:Def P w K mg base 1 "poured_all" ["waters","pours"] [] (dY K)) (DX_pours:DefX P w K mg base 9 "pours" ["canal","ways","state","deed"] [] (oP (jF cP cB cU) cR cN eW)):FnOk P w K mg base (vF P w) 10 f fd ["canal","ways","state","deed"] (wU (jF cP cB cU) cR cN eW):=by
 refine F.okX2 G1 fun vs H Q E h=>?_
 obtain ⟨x,wl,st,dd,de,us,ys,d,ms,pl,D,R,L,N,rfl,hG,hdd,hin,hd0,qv,qe⟩:=h
 refine ⟨rfl,fun _ _ _ _ hr=>?_⟩
 refine ⟨_,(@jK _ _ _ (@jQ _ _ _ _ (jO D_counted_on hr rfl (@jB _ _ _ _ _ (pv 2) (@jB _ _ _ _ _ (pv 3) (@jB _ _ _ _ _ (jO D_poured_all hr rfl (jB (jM (jT K) (pv 2) jD) (jB (o8 DX_pours xI hr rfl (@jB _ _ _ _ _ (pv 0) (@jB _ _ _ _ _ (pv 1) (@jB _ _ _ _ _ (pv 2) (@jB _ _ _ _ _ (pv 3) jC (by rfl)) (by rfl)) (by rfl)) (by rfl))) jC))) jC (by rfl)) (by rfl)) (by rfl))))),?_⟩
 try dsimp only [jX,jW]
 obtain ⟨hc,hdr,hwl,hA,hst,hfl,hml⟩:=id hG
 obtain ⟨wt,pt,hst1,hwt,hpt⟩:=id hst
 have b1:=hdr.r8
 have b2:=hdr.l8
 have h10:=hfl.n10
 have hln:=hfl.len
 refine (jA rfl (jA rfl (jA rfl (jR (SqT.of hst1) rfl ((jA rfl (jA rfl (jA rfl (jA rfl ((eF x wl st dd de us ys d ms pl D R L N (Z5 rfl hG hdd hin hd0 (fun hw r H1 gs zs s1 hr0 hr hP hS=>?_) (fun hw H1 s1=>qe hw _ s1)))))))))))))
 have qv:=qv hw
 refine ⟨wt,r,ms,zs,jA rfl (⟨.inr (SqT.of (s1 _ _ hwt)),SqL.of hr,hP.pa,by omega,fun wo H2 s2 hwo0 hwo=>?_⟩)⟩
 have s12:=s1.trans s2
 exact (QO st dd wo de d ms _ pl (yY rfl (hst.same s12) (s12 _ _ hdd) hwo (by omega) (fun r3 H3 s3 hr30 h3=>qv r3 H3 gs (s12.trans s3) (s12.free hr30) h3 hS)))
theorem nA:FnScope ["canal","ways","state","passes","lets"] ["canal","ways","state"] (jG Z7):=jU
include T in
theorem FC {f:Addr} {fd:FuncData} (F:Fun K "may" "may" Z7 f fd) (D_why_not:Def P w K mg base 8 "why_not" ["canal","ways","state","deed"] [] (pK (jF cP cB cU) cR cN)):FnOk P w K mg base jP 9 f fd ["canal","ways","state"] (CG (jF cP cB cU) cR cN):=by
 refine F.ok2 nA fun vs H Q E h=>?_
 obtain ⟨x,wl,st,us,ys,d,ms,pl,D,R,L,N,rfl,hG,q⟩:=h
 refine ⟨rfl,fun _ _ _ _ hr=>?_⟩
 refine ⟨_,(@jH _ _ _ _ _ (zN (i:=3) ["boat"] (kZ 1 []) nA.nd rfl (.inl rfl) rfl (qO (jG Z7)) (cps 1 []) (zO (by rfl) T.z_range (jB (kP (qD K) (by rfl) T.z_len PySem.boot_len (jB (pv 1) jC)) jC)) (fun _ _ _ _ _=>(kC (i:=0) (show List.Nodup (["boat"]:List Str) from by decide +kernel) rfl (.inl rfl))) (fun _ _ _ _ _=>vY) (fun _ _ _ _ _=>(kQ (jB j5 (jB (pv 0) jC)))))
   (@jH _ _ _ _ _ (zN (i:=4) ["k"] (kZ 1 []) nA.nd rfl (.inl rfl) rfl (qO (jG Z7)) (cps 1 []) (zO (by rfl) T.z_range (jB (kP (qD K) (by rfl) T.z_len PySem.boot_len (jB (j6 K (pv 0) rfl) jC)) jC)) (fun _ _ _ _ _=>(kC (i:=0) (show List.Nodup (["k"]:List Str) from by decide +kernel) rfl (.inl rfl))) (fun _ _ _ _ _=>vY) (fun _ _ _ _ _=>(kQ (jB j5 (jB (pv 0) jC)))))
   (@jK _ _ _ (@jQ _ _ _ _ (yK ["deed","canal","ways","state"] (kZ 1 [0,1,2]) rfl (qO (jG Z7)) (cps 1 [0,1,2]) (vC (@jJ _ _ _ _ _ _ _ _ QZ (@jJ _ _ _ _ _ _ _ _ QZ (pv 3) (pv 4)) (qR (jB (kQ (jB j5 jC)) jC)))) (fun _ _ _ _ _=>(kC (i:=0) (show List.Nodup (["deed","canal","ways","state"]:List Str) from by decide +kernel) rfl (.inl rfl))) (fun _ _ _ _ _=>(JP (kO qM (jO D_why_not hr rfl (@jB _ _ _ _ _ (pv 1) (@jB _ _ _ _ _ (pv 2) (@jB _ _ _ _ _ (pv 3) (@jB _ _ _ _ _ (pv 0) jC (by rfl)) (by rfl)) (by rfl)) (by rfl))) j5))) (fun _ _ _ _ _=>(pv 0))))))),?_⟩
 try dsimp only [jX,jW]
 obtain ⟨hc,hdr,hwl,hA,hst,hfl,hml⟩:=id hG
 obtain ⟨dx,rl,ll,nl,fs,rs,ls,nv,hx,hf,hrl,hll,hnl,hR,hL,hN,d1,d2,d3⟩:=hc
 have b1:=hdr.r8
 have b2:=hdr.l8
 have h10:=hfl.n10
 have hul:=hA.1
 refine (jA rfl (⟨wl,jA rfl (⟨.inl (SqL.of hwl),jA rfl (⟨by omega,by omega,fun D₁ hD₁=>?_⟩)⟩)⟩))
 refine QS (n:=((us.length:Nat):Int).toNat) (caps:=[]) (fun i zs Hi=>AllAt (DdAt Hi) zs (passes i)) hD₁ AllAt.nil ?_ ?_
 ·rintro i zs Hi hi hle sm hY hZ
  rw [Int.toNat_natCast] at hi
  rw [Int.zero_add]
  refine v0 (kT (jA rfl (⟨zz2,fun tp htp=>?_⟩)))
  have u:=jI htp (.tup [V.str "pass",V.int (i:Int)])
  refine v9 hD₁ sm hY hle (by omega) u ?_
  rw [show passes (i+1)=passes i++[.pass i] by unfold passes;rw [List.range_succ,List.map_append];rfl]
  exact ((hZ.mono (DdAt.same u)).snoc (v:=.ref tp) (x:=.pass i) ⟨tp,rfl,jE⟩).mono (DdAt.put (u _ _ hY))
 rintro zs H1 s1 hY1 hle1 hZ1
 rw [Int.toNat_natCast] at hZ1
 refine (jA rfl (j8 ((s1 _ _ hx)) (T.clN) (T.nN_locks) (hf.2.1) (⟨ll,jA rfl (⟨.inl (SqL.of (s1 _ _ hll)),jA rfl (⟨by omega,by rw [hL.1];omega,fun D₂ hD₂=>?_⟩)⟩)⟩)))
 refine QS (n:=((ls.length:Nat):Int).toNat) (caps:=[]) (fun i zs Hi=>AllAt (DdAt Hi) zs (lets i)) hD₂ AllAt.nil ?_ ?_
 ·rintro i zs Hi hi hle sm hY hZ
  rw [Int.toNat_natCast,hL.1] at hi
  rw [Int.zero_add]
  refine v0 (kT (jA rfl (⟨zz2,fun tp htp=>?_⟩)))
  have u:=jI htp (.tup [V.str "let",V.int (i:Int)])
  refine v9 hD₂ sm hY hle (by omega) u ?_
  rw [show lets (i+1)=lets i++[.let i] by unfold lets;rw [List.range_succ,List.map_append];rfl]
  exact ((hZ.mono (DdAt.same u)).snoc (v:=.ref tp) (x:=.let i) ⟨tp,rfl,jE⟩).mono (DdAt.put (u _ _ hY))
 rintro zs2 H2 s2 hY2 hle2 hZ2
 rw [Int.toNat_natCast,hL.1] at hZ2
 have l1:=hZ1.1
 have l2:=hZ2.1
 unfold passes at l1
 unfold lets at l2
 rw [List.length_map,List.length_range] at l1 l2
 refine (jA rfl (jA rfl (⟨D₁,D₂,_,_,rfl,rfl,s2 _ _ hY1,hY2,small (by omega),fun al hal=>?_⟩)))
 have s3:=jI hal (.lst (zs++zs2))
 refine ⟨zz1,fun tp htp=>?_⟩
 have s4:=jI htp (.tup [V.str "night"])
 refine ⟨zz1,fun lp hlp=>?_⟩
 have s5:=jI hlp (.lst [V.ref tp])
 have hal5:=s5 _ _ (s4 _ _ (jE:upd H2 al (.lst (zs++zs2)) al=_))
 refine ⟨al,lp,_,_,rfl,rfl,hal5,jE,small (by rw [List.length_append,l1,l2];show _+1≤1000;omega),fun rr hrr=>?_⟩
 have s6:=jI hrr (.lst (zs++zs2++[V.ref tp]))
 have s36:=((s3.trans s4).trans s5).trans s6
 have s26:=s2.trans s36
 have s16:=s1.trans s26
 have hZ:AllAt (DdAt (upd (upd (upd (upd H2 al (.lst (zs++zs2))) tp (.tup [V.str "night"])) lp (.lst [V.ref tp])) rr (.lst (zs++zs2++[V.ref tp])))) (zs++zs2++[V.ref tp]) (yR ys.length L.length):=by
  unfold yR
  rw [← hul]
  exact ((hZ1.mono (DdAt.same s26)).app (hZ2.mono (DdAt.same s36))).snoc (v:=.ref tp) (x:=.night) ⟨tp,rfl,s6 _ _ (s5 _ _ jE)⟩
 have hrr1:upd (upd (upd (upd H2 al (.lst (zs++zs2))) tp (.tup [V.str "night"])) lp (.lst [V.ref tp])) rr (.lst (zs++zs2++[V.ref tp])) rr=_:=jE
 generalize upd (upd (upd (upd H2 al (.lst (zs++zs2))) tp (.tup [V.str "night"])) lp (.lst [V.ref tp])) rr (.lst (zs++zs2++[V.ref tp]))=H6 at hZ hrr1 s16 ⊢
 have hln:=hZ.1
 rw [nH] at hln
 generalize zs++zs2++[V.ref tp]=za at hZ hrr1 hln ⊢
 refine ⟨rr,rfl,⟨_,SqL.of hrr1⟩,fun Df hDf=>?_⟩
 refine J4 (K:=K) (a:=rr) (xs:=za) (caps:=[some (.ref x),some (.ref wl),some (.ref st)]) (fun i zs Hi=>AllAt (DdAt Hi) zs (((yR ys.length L.length).take i).filter fun de=>decide (qY R L N.length ys d ms pl de=""))) hDf (SqL.of hrr1) AllAt.nil ?_ ?_
 ·rintro i v zs Hi hv hi hle sm hY hzz
  obtain ⟨de,hde,t,rfl,ht⟩:=hZ.2 i v hv
  have hin:=nQ (List.mem_of_getElem? hde)
  refine (jA rfl (jA rfl (jA rfl (jA rfl ((eF x wl st t de us ys d ms pl D R L N (yI rfl (hG.same (s16.trans sm)) (sm _ _ ht) hin (fun H7 s7=>⟨rfl,jA rfl (?_)⟩))))))))
  by_cases hw:qY R L N.length ys d ms pl de=""
  ·refine vD (congrArg V.str hw) (jA rfl (v9 hDf sm hY hle (by omega) s7 ?_))
   rw [xE hde,if_pos hw]
   exact ((hzz.mono (DdAt.same s7)).snoc (v:=.ref t) (x:=de) ⟨t,rfl,s7 _ _ (sm _ _ ht)⟩).mono (DdAt.put (s7 _ _ hY))
  ·refine qV (fun e=>hw (V.str.inj e)) (ZO sm hY hle s7 ?_)
   rw [xE hde,if_neg hw,List.append_nil]
   exact hzz.mono (DdAt.same s7)
 rintro zr H8 s8 hY hle hzz
 rw [hZ.1,List.take_length] at hzz
 exact q Df zr H8 (s16.trans s8) (s16.free hDf) hY hzz
theorem HQ:FnScope ["ways","state"] ["ways","state"] (jG fH):=jU
include T in
theorem FU {f:Addr} {fd:FuncData} (F:Fun K "steps_left" "steps_left" fH f fd) (D_steps_to_do:Def P w K mg base 1 "steps_to_do" ["way","place"] [] (pL)):FnOk P w K mg base jP 2 f fd ["ways","state"] (BM):=by
 refine F.ok2 HQ fun vs H Q E h=>?_
 obtain ⟨wl,st,us,ys,d,ms,pl,L,rfl,hwl,hA,⟨wt,pt,hst,hwt,hpt⟩,hfl,q⟩:=h
 refine ⟨rfl,fun _ _ _ _ hr=>?_⟩
 refine ⟨_,(@jK _ _ _ (@jQ _ _ _ _ (kP (oJ rfl) (by rfl) T.z_sum PyProof.Rows.boot_sum (jB (yK ["way","place"] (kZ 2 []) rfl (qO (jG fH)) (cps 2 []) (AK (by rfl) T.z_zip (jB (pv 0) (jB (jM (jT K) (pv 1) jD) jC))) (fun _ _ _ _ _=>(JB (n:=2) K rfl (kW (kC (i:=0) (show List.Nodup (["way","place"]:List Str) from by decide +kernel) rfl (.inl rfl)) (kW (kC (i:=1) (show List.Nodup (["way","place"]:List Str) from by decide +kernel) rfl (.inl rfl)) y7)))) (fun _ _ _ _ _=>vY) (fun _ _ _ _ _=>(jO D_steps_to_do hr rfl (jB (pv 0) (jB (pv 1) jC))))) jC)))),?_⟩
 try dsimp only [jX,jW]
 refine (jA rfl (jA rfl (jR (SqT.of hst) rfl (⟨wl,pt,rfl,⟨_,SqL.of hwl⟩,⟨_,SqT.of hpt⟩,fun D₁ hD₁=>?_⟩))))
 refine tD (K:=K) (a1:=wl) (a2:=pt) (xs:=us) (ys:=pl.map fun (p:Nat)=>V.int (p:Int)) (fun i σ Hi=>∃c1 c2:Option V,σ=[c1,c2]∧Hi D₁=some (.lst (((bR ys pl).take i).map V.int))∧Same H Hi)
  ⟨none,none,rfl,by rw [jE,List.take_zero];rfl,jI hD₁ _⟩ (fun i σ Hi _ ⟨_,_,_,_,s⟩=>⟨SqL.of (s _ _ hwl),SqT.of (s _ _ hpt)⟩) (by rw [hA.1,List.length_map,hfl.len]) ?_ ?_
 ·rintro i v z σ Hi T₁ hv hz ⟨c1,c2,rfl,hY,sm⟩ hT
  obtain ⟨y,hy,hwy⟩:=hA.2 i v hv
  have hi:i<ys.length:=(List.getElem?_eq_some_iff.mp hy).1
  obtain ⟨t,st₂,us₂,rfl,hw1,hw2,hw3⟩:=id hwy
  have hip:i<pl.length:=by rw [hfl.len];exact hi
  rw [List.getElem?_map,List.getElem?_eq_getElem hip] at hz
  cases hz
  have u:=jI hT (.tup [V.ref t,V.int ((pl[i]:Nat):Int)])
  have smu:=sm.trans u
  have hwy2:=WyAt.same smu _ _ hwy
  have hp:=hfl.le i y pl[i] hy (List.getElem?_eq_getElem hip)
  have hg1:ys.getD i (0,[])=y:=by rw [List.getD_eq_getElem?_getD,hy];rfl
  have hg2:pl.getD i 0=pl[i]:=by rw [List.getD_eq_getElem?_getD,List.getElem?_eq_getElem hip];rfl
  have h10:=hfl.n10
  have hYu:=u _ _ hY
  refine ⟨T₁,jA rfl (⟨SqT.of jE,rfl,_,jA rfl (⟨_,_,rfl,rfl,?_⟩)⟩)⟩
  generalize upd Hi T₁ (.tup [V.ref t,V.int ((pl[i]:Nat):Int)])=Hj at u smu hwy2 hYu ⊢
  refine v0 (kT ?_)
  refine (jA rfl (jA rfl (⟨t,y,jA rfl (⟨hwy2,?_⟩)⟩)))
  refine ⟨_,hYu,vX (by rw [List.length_map,List.length_take];unfold bR;rw [List.length_map,List.length_range];omega),_,jA rfl (⟨?_,qA hD₁ smu⟩)⟩
  rw [jE,List.take_add_one,show (bR ys pl)[i]?=some ((y.2.length:Int) - ((pl[i]:Nat):Int)) by unfold bR;rw [List.getElem?_map,List.getElem?_range hi,← hg1,← hg2];rfl,List.map_append]
  rfl
 rintro σ Hf ⟨c1,c2,rfl,hY,sm⟩
 rw [hA.1,List.take_of_length_le (by unfold bR;rw [List.length_map,List.length_range];exact Nat.le_refl _)] at hY
 exact ⟨D₁,jA rfl (⟨SqL.of hY,q Hf sm⟩)⟩
theorem G3:FnScope ["ways","state"] ["ways","state"] (jG l7):=jU
include T in
theorem ES {f:Addr} {fd:FuncData} (F:Fun K "all_home" "all_home" l7 f fd) (D_steps_left:Def P w K mg base 2 "steps_left" ["ways","state"] [] (BM)):FnOk P w K mg base jP 3 f fd ["ways","state"] (BN):=by
 refine F.ok2 G3 fun vs H Q E h=>?_
 obtain ⟨wl,st,us,ys,d,ms,pl,L,rfl,hwl,hA,hst,hfl,q⟩:=h
 refine ⟨rfl,fun _ _ _ _ hr=>?_⟩
 refine ⟨_,(@jK _ _ _ (@jQ _ _ _ _ (QN qM (jO D_steps_left hr rfl (jB (pv 0) (jB (pv 1) jC))) jD))),?_⟩
 try dsimp only [jX,jW]
 refine (jA rfl (jA rfl ((QO wl st us ys d ms pl L (yY rfl hwl hA hst hfl (fun H1 s1=>⟨rfl,?_⟩))))))
 rw [K2]
 exact q H1 s1
theorem GN:LamScope false ["state","ways"] "state" ["ways"] (qI kF):=⟨rfl,rfl,rfl,by decide +kernel,rfl,rfl,by decide +kernel,BZ (by decide +kernel),(show ∀y∈(qI kF).names,y.2≠.cell by decide +kernel)⟩
theorem DY (T:Txt K mg cP cB cU cR cN tkS eW eL eTW tkH) (D_all_home:Def P w K mg base 3 "all_home" ["ways","state"] [] (BN)):FnV P w K mg base jP 5 (vU "homecoming.<locals>.<lambda>" (qW kF) (qZ kF) (qI kF) ["ways"] (QT)):=by
 refine AX (k:=4) GN (fun _ _ _ _ _ _=>rfl) fun A outer s H f cdv cl fvs v Q E hcl hr hc h=>?_
 obtain ⟨wl,st,H0,us,ys,d,ms,pl,L,rfl,⟨⟩,s0,h0,hwl,hA,hst,hfl,q⟩:=h
 have hu:_<cLine:=hr.units0
 have hu1:=pW hr
 have hu9:=bL hr
 have hu10:=bE hr
 refine ⟨_,(jO D_all_home hr rfl (jB (pv 1) (jB (pv 0) jC))),?_⟩
 have sd:=wW s0 h0
 refine (jA rfl (jA rfl ((QO wl st us ys d ms pl L (yY rfl (sd _ _ hwl) (hA.mono (WyAt.same sd)) (hst.del hc) hfl (fun H1 s1 hn=>?_))))))
 exact q _ (wX s1)
theorem GM:LamScope true ["state","ways","canal"] "state" ["ways","canal"] (qI j9):=⟨rfl,rfl,rfl,by decide +kernel,rfl,rfl,by decide +kernel,BZ (by decide +kernel),⟨_,rfl,by decide +kernel⟩⟩
theorem DX (T:Txt K mg cP cB cU cR cN tkS eW eL eTW tkH) (D_may:Def P w K mg base 9 "may" ["canal","ways","state"] [] (CG (jF cP cB cU) cR cN)) (D_after:Def P w K mg base 10 "after" ["canal","ways","state","deed"] [] (nZ (jF cP cB cU) cR cN)):FnV P w K mg base jP 14 (vU "ahead_on.<locals>.<lambda>" (qW j9) (qZ j9) (qI j9) ["ways","canal"] (JO (jF cP cB cU) cR cN)):=by
 refine AX (k:=13) GM (fun _ _ _ _ _ _=>rfl) fun A outer s H f cdv cl fvs v Q E hcl hr hc h=>?_
 obtain ⟨x,wl,st,H0,us,ys,d,ms,pl,D,R,L,N,rfl,⟨⟩,s0,h0,hcn,hdr,hwl,hA,hst,hfl,hml,hd0,q⟩:=h
 have hu:_<cLine:=hr.units0
 have hu1:=pW hr
 have hu9:=bL hr
 have hu10:=bE hr
 refine ⟨_,(yK ["deed","canal","ways","state"] (kZ 1 [2,1,0]) rfl (qO (qI j9)) (cps 1 [2,1,0]) (vC (jO D_may hr rfl (@jB _ _ _ _ _ (pv 2) (@jB _ _ _ _ _ (pv 1) (@jB _ _ _ _ _ (pv 0) jC (by rfl)) (by rfl)) (by rfl)))) (fun _ _ _ _ _=>(kC (i:=0) (show List.Nodup (["deed","canal","ways","state"]:List Str) from by decide +kernel) rfl (.inl rfl))) (fun _ _ _ _ _=>vY) (fun _ _ _ _ _=>(kQ (jB (pv 0) (jB (jO D_after hr rfl (@jB _ _ _ _ _ (pv 1) (@jB _ _ _ _ _ (pv 2) (@jB _ _ _ _ _ (pv 3) (@jB _ _ _ _ _ (pv 0) jC (by rfl)) (by rfl)) (by rfl)) (by rfl))) jC))))),?_⟩
 have sd:=wW s0 h0
 have hG:Stage _ _ _ D (vR H (cl.map (·.2))) x wl st us R L N ys d ms pl:=⟨hcn.same sd,hdr,sd _ _ hwl,hA.mono (WyAt.same sd),hst.del hc,hfl,hml⟩
 refine (jA rfl (jA rfl (jA rfl ((C1 x wl st us ys d ms pl D R L N (yZ rfl hG (fun r zs H1 s1 hr0 hr1 hdd=>⟨r,rfl,⟨_,SqL.of hr1⟩,fun bt hbt=>?_⟩)))))))
 have hml0:(zL R L N.length ys d ms pl).length≤999:=by
  have h1:=List.length_filter_le (fun de=>decide (qY R L N.length ys d ms pl de="")) (yR ys.length L.length)
  rw [nH] at h1
  have h2:=hfl.n10
  have h3:=hdr.l8
  exact Nat.le_trans h1 (by omega)
 refine J4 (K:=K) (a:=r) (xs:=zs) (caps:=[some (.ref x),some (.ref wl),some (.ref st)]) (fun j ws Hk=>QA Hk ws (JQ R L N ys (d,ms,pl) ((zL R L N.length ys d ms pl).take j))) hbt (SqL.of hr1) ⟨rfl,fun i x e=>by cases e⟩ ?_ ?_
 ·rintro j v ws Hk hv hj hle sm hY hR
  obtain ⟨de,hde,ta,rfl,hta⟩:=hdd.2 j v hv
  have hin:=List.mem_filter.mp (List.mem_of_getElem? hde)
  have hj9:j<(zL R L N.length ys d ms pl).length:=(List.getElem?_eq_some_iff.mp hde).1
  refine v0 (kT ?_)
  refine (jA rfl (jA rfl (jA rfl (jA rfl (jA rfl ((eF x wl st ta de us ys d ms pl D R L N (Z5 rfl ((hG.same s1).same sm) (sm _ _ hta) (nQ hin.1) hd0 (of_decide_eq_true hin.2) (fun r2 H2 gs s2 hr2 hs2 hSp=>⟨small (by show 2≤1000;decide),fun tp htp=>?_⟩)))))))))
  have u:=jI htp (.tup [V.ref ta,V.ref r2])
  have hnx:=gW (s:=(d,ms,pl)) (ys:=ys) (N:=N) (de:=de) hdr hml hSp
  refine v9 (R:=fun j ws Hk=>QA Hk ws (JQ R L N ys (d,ms,pl) ((zL R L N.length ys d ms pl).take j))) hbt sm hY hle (by omega) (s2.trans u) ?_
  have tk:∀a l,Hk a=some (.tup l)→upd (upd H2 tp (.tup [V.ref ta,V.ref r2])) bt (.lst (ws++[.ref tp])) a=some (.tup l):=fun a l e=>by rw [jL fun z=>by subst z;rw [hY] at e;cases e];exact u _ _ (s2 _ _ e)
  have hbt2:upd H2 tp (.tup [V.ref ta,V.ref r2]) bt=some (.lst ws):=u _ _ (s2 _ _ hY)
  have tk2:∀a l,upd H2 tp (.tup [V.ref ta,V.ref r2]) a=some (.tup l)→upd (upd H2 tp (.tup [V.ref ta,V.ref r2])) bt (.lst (ws++[.ref tp])) a=some (.tup l):=fun a l e=>by rw [jL fun z=>by subst z;rw [hbt2] at e;cases e];exact e
  have ht:(zL R L N.length ys d ms pl).take (j+1)=(zL R L N.length ys d ms pl).take j++[de]:=by rw [List.take_add_one,hde];rfl
  show QA _ _ (JQ R L N ys (d,ms,pl) ((zL R L N.length ys d ms pl).take (j+1)))
  rw [ht]
  unfold JQ
  rw [List.map_append]
  refine KI (p:=(zF de,kD (zV R L N ys (d,ms,pl) de))) (tL tk hR) (tk2 _ _ jE) (R5 (tk _ _ (sm _ _ hta))) ?_ (R6 de) (CM _)
  have h3:(GV (upd H2 tp (.tup [V.ref ta,V.ref r2])) (kD (zV R L N ys (d,ms,pl) de))).1 (.ref r2):=by
   rw [hnx]
   exact pX (s:=(Z1 d de,j3 ms (yT R L N ys d ms pl de gs),QU pl de)) (hs2.same u)
  exact (GV.keep tk2 _).1 _ h3
 ·rintro ws Hg sg hbg hleg hR hn
  rw [hdd.1,List.take_length] at hR
  have sa:=(s1.trans sg)
  refine q _ _ _ (wX sa) ?_ (BD hn hbg) ?_
  ·have hb:bt∉cl.map (·.2):=fun hin=>by rw [hn bt hin] at hbg;cases hbg
   cases e:H bt with
   |none=>rfl
   |some o=>have:=s1 bt o (by rw [yQ hb];exact e);rw [hbt] at this;cases this
  ·exact tL (fun a l e=>BD hn e) hR
theorem HA:FnScope ["ways"] ["ways"] (jG kF):=jU
theorem E1 {f:Addr} {fd:FuncData} (F:Fun K "homecoming" "homecoming" kF f fd) {cL tH:Addr} (hcL:fd.code=.ref cL) (hC:W.CodeHd base cL tH) (hB:base.BuiltinsAt mg tH) (hgT:PySem.mainGlobals≠tH):FnOk P w K mg base jP 1 f fd ["ways"] (QX tH 1 (kS kF) "homecoming.<locals>.<lambda>" (qW kF) (qZ kF) (qI kF) ["ways"] [0]) :=
  F.maker (k:=0) hcL HA hC hB hgT (fun n=>[("ways",n+1)]) rfl (fun _=>rfl) (fun _=>rfl) (fun _=>rfl) (fun n=>by simp) (fun _=>rfl) (fun n i x c h=>by
    match i,h with
    |0,h=>cases h;exact ⟨0,rfl,by decide,rfl,rfl,rfl⟩
    |i+1,h=>cases h) rfl
theorem G2:FnScope ["canal","ways"] ["canal","ways"] (jG j9):=jU
theorem ER {f:Addr} {fd:FuncData} (F:Fun K "ahead_on" "ahead_on" j9 f fd) {cL tA:Addr} (hcL:fd.code=.ref cL) (hC:W.CodeHd base cL tA) (hB:base.BuiltinsAt mg tA) (hgT:PySem.mainGlobals≠tA):FnOk P w K mg base jP 1 f fd ["canal","ways"] (QX tA 2 (kS j9) "ahead_on.<locals>.<lambda>" (qW j9) (qZ j9) (qI j9) ["ways","canal"] [1,0]) :=
  F.maker (k:=0) hcL G2 hC hB hgT (fun n=>[("ways",n+2),("canal",n+1)]) rfl (fun _=>rfl) (fun _=>rfl) (fun _=>rfl) (fun n=>by simp) (fun _=>rfl) (fun n i x c h=>by
    match i,h with
    |0,h=>cases h;exact ⟨1,rfl,by decide,rfl,rfl,rfl⟩
    |1,h=>cases h;exact ⟨0,rfl,by decide,rfl,rfl,rfl⟩
    |i+2,h=>cases h) rfl
theorem fN:FnScope ["came","state","row","step"] ["came","state"] (jG mS):=jU
include T in
theorem FP {f:Addr} {fd:FuncData} (F:Fun K "row_to" "row_to" mS f fd) : FnOk P w K mg base jP 2 f fd ["came","state"] (wO w):=by
  refine F.ok2 fN fun vs H Q E h=>?_
  obtain ⟨d,y,T0,met,k,k0,j0,rfl,hC,hl,hy,h8,hk,hlev,q⟩:=h
  refine ⟨rfl,fun _ _ _ _ hr=>?_⟩
  have hu9:=bL hr
  have hu10:=bE hr
  refine ⟨_,(@jH _ _ _ _ _ (jZ (i:=2) fN.nd rfl (.inl rfl) (qR jC))
      (@jH _ _ _ _ _ (jZ (i:=3) fN.nd rfl (.inl rfl) (AM hu9 (pv 0) (pv 1) (fun _ _=>rfl)))
      (@jH _ _ _ _ _ (wZ PassesOwn.never (kO OA (pv 3) iH) (@jH _ _ _ _ _ (QP (ZZ PySem.F.plainAttrs_list PySem.F.slot_list_append PySem.F.type_list_append ZM (pv 2) (jB (jM (jT K) (pv 3) jD) jC)))
      (@jK _ _ _ (jZ (i:=3) fN.nd rfl (.inl rfl) (AM hu9 (pv 0) (jM (jT K) (pv 3) jD) (fun _ _=>rfl))))))
      (@jK _ _ _ (@jQ _ _ _ _ (KG rfl (by rfl) T.z_list (by rfl) T.z_reversed (jB (pv 2) jC))))))),?_⟩
  try dsimp only [jX,jW]
  refine ⟨Nat.zero_le _,fun r hr0=>?_⟩
  have u0:=jI hr0 (.lst [])
  obtain ⟨kvs,e1,g,e2,e3⟩:=hC.ex
  obtain ⟨i,hi⟩:=List.mem_iff_getElem?.mp hk
  have hil:=(List.getElem?_eq_some_iff.mp hi).1
  have at_:∀(i:Nat) (k:GK),met[i]?=some k→∃p:qK,kvs[i]?=some p∧p.1=k:=fun i k h=>by
    rw [← e2,List.getElem?_map] at h
    exact Option.map_eq_some_iff.mp h
  obtain ⟨p,hp,hpk⟩:=at_ i k hi
  refine (jA rfl (jA rfl (⟨d,kvs,k,jA rfl (⟨.of (u0 _ _ e1),dM u0 g,yC u0 hy,h8,by rw [← hpk];exact AW g.once hp,?_⟩)⟩)))
  have step:∀(Hi:Hp) (i:Nat) (p:qK),Same H Hi→kvs[i]?=some p→((p.2.2=.non∧p.1=k0)∨∃t yp dv kp de j,p.2.2=.ref t∧Hi t=some (.tup [yp,dv])∧(GV Hi kp).1 yp∧gd kp≤8∧(GV Hi de).1 dv∧gd de≤8∧(de,p.1)∈QD T0 kp∧rN T0 k0 kp p.1∧met[j]?=some kp∧j<i):=fun Hi i p s hp=>by
    rcases e3 i p hp with ⟨h,hz⟩|⟨t,yp,dv,kp,de,j,a1,a2,a3,a4,a5,a6,a7,a8,a9⟩
    · exact .inl ⟨h,hz⟩
    · exact .inr ⟨t,yp,dv,kp,de,j,a1,s _ _ a2,yC s a3,a4,yC s a5,a6,a9.1,a9.2,a8,a7⟩
  refine ⟨CO H d y r met T0 k k0 j0,⟨i,p.2.2,[],[],k,j0,rfl,u0,jE,⟨rfl,fun i x e=>by cases e⟩,by show 0+i≤1000;omega,rfl,hlev,Nat.zero_add j0,by rw [← hpk];exact step _ i p u0 hp⟩,?_⟩
  rintro m σ Hi ⟨sv,xs,rd,c,jc,rfl,s,hr,hks,hlm,hpa,hlc,hj0,hs⟩
  refine ⟨_,rfl,rfl,jA rfl (?_)⟩
  rcases hs with ⟨rfl,rfl⟩|⟨t,yp,dv,kp,de,j,rfl,ht,hyp,hp8,hde,hde8,hah,⟨jl,hl1,hl2⟩,hj,hjm⟩
  · refine JX rfl ?_
    refine (jA rfl (⟨r,xs,rfl,SqL.of hr,fun l hl=>q l _ rd.reverse _ (s.trans (jI hl _)) ?_ jE ?_ hpa ?_⟩))
    · cases e:H l with
      |none=>rfl
      |some o=>have:=s _ _ e;rw [hl] at this;cases this
    · exact (hks.rev).same (jI hl _)
    · have h0:c∈kK T0 c 0:=by show c∈[c];simp
      rw [List.length_reverse]
      have:=xF hlc h0
      omega
  · refine JW (fun z=>by cases z) ⟨fun σ' H'=>∃m',m'<m∧CO H d y r met T0 k k0 j0 m' σ' H',fun _ _ h=>h,?_⟩
    obtain ⟨p',hp',hpk'⟩:=at_ j kp hj
    have hxl:=hks.1
    refine (jA rfl (⟨.inl ⟨rfl,_,SqL.of hr⟩,jA rfl (⟨t,_,_,dv,rfl,rfl,SqT.of ht,rfl,r,_,_,rfl,rfl,hr,iC (by omega),?_⟩)⟩))
    have tk:∀a l,Hi a=some (.tup l)→upd Hi r (.lst (xs++[dv])) a=some (.tup l):=fun a l e=>by rw [jL (fun z=>by rw [z,hr] at e;cases e)];exact e
    have s2:Same H (upd Hi r (.lst (xs++[dv]))):=qA hr0 s
    refine (jA rfl (jA rfl (⟨t,_,_,yp,rfl,rfl,SqT.of (tk _ _ ht),rfl,d,kvs,kp,jA rfl (⟨.of (s2 _ _ e1),dM s2 g,(GV.keep tk _).1 _ hyp,hp8,by rw [← hpk'];exact AW g.once hp',?_⟩)⟩)))
    have hjl:=xF hlc hl2
    refine ⟨j,hjm,p'.2.2,xs++[dv],rd++[de],kp,jl,rfl,s2,jE,hks.snoc tk hde hde8,by rw [List.length_append,List.length_singleton];omega,?_,hl1,by rw [List.length_append,List.length_singleton];omega,by rw [← hpk'];exact step _ j p' s2 hp'⟩
    rw [List.reverse_append]
    exact ⟨c,hah,hpa⟩
theorem cO:FnScope ["layer","ahead","came","fresh","state","deed","behind"] ["layer","ahead","came"] (jG mJ):=jU
include T in
theorem FD {f:Addr} {fd:FuncData} (F:Fun K "next_layer" "next_layer" mJ f fd) (V_lam_ahead:FnV P w K mg base jP 14 (vU "ahead_on.<locals>.<lambda>" (qW j9) (qZ j9) (qI j9) ["ways","canal"] (JO (jF cP cB cU) cR cN))):FnOk P w K mg base jP 16 f fd ["layer","ahead","came"] (x8 w (vU "ahead_on.<locals>.<lambda>" (qW j9) (qZ j9) (qI j9) ["ways","canal"] (JO (jF cP cB cU) cR cN))):=by
 refine F.ok2 cO fun vs H Q E h=>?_
 obtain ⟨l,fa,dc,H0,T0,xs,lay,met,R0,rfl,s0,hdc,hA,hsh,hsz,hl,hks,hsub,hdom,hC,hR0,q⟩:=h
 refine ⟨rfl,fun _ _ _ _ hr=>?_⟩
 have hu9:=bL hr
 have hu10:=bE hr
 refine ⟨_,(@jH _ _ _ _ _ (jZ (i:=3) cO.nd rfl (.inl rfl) (qR jC))
   (@jH _ _ _ _ _ (zS PassesOwn.never rfl (vC (pv 0)) (kC (i:=4) cO.nd rfl (.inl rfl))
    (@jK _ _ _ (zS PassesOwn.never rfl (vC (gL (i:=1) V_lam_ahead (hr.mono (by decide)) JF rfl (by first|exact .inl rfl|exact .inr rfl|exact .inr (.inl rfl)|exact .inr (.inr rfl)) (jB (pv 4) jC))) (iF rfl (kW (kC (i:=5) cO.nd rfl (.inl rfl)) (kW (kC (i:=6) cO.nd rfl (.inl rfl)) y7)))
    (@jK _ _ _ (qQ (O5 (LS hu9 (pv 6) (pv 2))) (@jH _ _ _ _ _ (N4 hu9 (pv 2) (pv 6) (kQ (jB (pv 4) (jB (pv 5) jC))) rfl)
   (@jK _ _ _ (QP (ZZ PySem.F.plainAttrs_list PySem.F.slot_list_append PySem.F.type_list_append ZM (pv 3) (jB (pv 6) jC))))) qP)))))
   (@jK _ _ _ (@jQ _ _ _ _ (pv 3))))),?_⟩
 try dsimp only [jX,jW]
 refine ⟨Nat.zero_le _,fun r hr0=>?_⟩
 have u0:=jI hr0 (.lst [])
 obtain ⟨kvs0,c1,_⟩:=hC.ex
 have hne:r≠dc:=fun z=>by rw [z,c1] at hr0;cases hr0
 have lne:l≠dc:=fun z=>by rw [z,c1] at hl;cases hl
 refine (jA rfl (⟨l,rfl,⟨_,SqL.of (u0 _ _ hl)⟩,?_⟩))
 refine ZS (K:=K) (xs:=xs) (fun i σ Hi=>∃acc c4 c5 c6,σ=[some (.ref l),some (.ref fa),some (.ref dc),some (.ref r),c4,c5,c6]∧NextIn R0 w H Hi dc r T0 met acc∧acc=qB T0 met [] (lay.take i)) ⟨[],none,none,none,rfl,⟨fun a o _ e=>u0 _ _ e,hr0,hne,⟨[],jE,rfl,fun i x e=>by cases e⟩,by rw [List.append_nil];exact hC.same u0,fun x hx=>by cases hx⟩,rfl⟩ (fun i σ Hi _ ⟨_,_,_,_,_,hI,_⟩=>SqL.of (hI.keep l _ lne hl)) ?_ ?_
 ·rintro i x σ Hi hx ⟨acc,c4,c5,c6,rfl,hI,hacc⟩
  obtain ⟨k,hk,hyk,h8⟩:=hks.2 i x hx
  have hkm:=hsub k (List.mem_of_getElem? hk)
  have hps:=hdom k hkm
  have tkI:∀a z,H a=some (.tup z)→Hi a=some (.tup z):=fun a z e=>hI.keep a _ (fun y=>by rw [y,c1] at e;cases e) e
  have sI:Same H0 Hi:=fun a o e=>hI.keep a o (q8 e hdc) (s0 _ _ e)
  have hyk':=(GV.keep tkI k).1 _ hyk
  refine ⟨fa,rfl,jA rfl (hA _ _ k _ _ sI hps hyk' fun p zs HP up hp0 hpl hPP=>⟨p,rfl,⟨_,SqL.of hpl⟩,?_⟩)⟩
  obtain ⟨kvsI,d1,_⟩:=hI.came.ex
  obtain ⟨ysI,r1,_⟩:=hI.row
  have pne:p≠dc:=fun z=>by rw [z,d1] at hp0;cases hp0
  have pnr:p≠r:=fun z=>by rw [z,r1] at hp0;cases hp0
  have hah:T0.1 k=T0.1 k:=rfl
  refine ZS (K:=K) (a:=p) (xs:=zs) (fun j σ Hj=>∃acc' c5 c6,σ=[some (.ref l),some (.ref fa),some (.ref dc),some (.ref r),some x,c5,c6]∧NextIn R0 w H Hj dc r T0 met acc'∧(∀a o,a≠dc→a≠r→HP a=some o→Hj a=some o)∧acc'=vK met acc ((T0.1 k).take j)) ⟨acc,c5,c6,rfl,⟨fun a o n e=>up _ _ (hI.keep a o n e),hI.rn,hI.nr,⟨ysI,up _ _ r1,?_⟩,hI.came.same up,hI.dom⟩,fun _ _ _ _ e=>e,rfl⟩ (fun j σ Hj _ ⟨_,_,_,_,_,kp,_⟩=>SqL.of (kp p _ pne pnr hpl)) ?_ ?_
  ·obtain ⟨ys',r1',r2'⟩:=hI.row
   rw [r1] at r1';cases r1'
   exact r2'.same up
  ·rintro j z σ Hj hz ⟨acc',c5,c6,rfl,hJ,kp,hacc'⟩
   obtain ⟨pr,t,b,c,p1,rfl,p3,p4,p5,p6,p7⟩:=hPP.2 j z hz
   have tkJ:∀a z,HP a=some (.tup z)→Hj a=some (.tup z):=fun a z e=>kp a _ (fun y=>by rw [y,up _ _ d1] at e;cases e) (fun y=>by rw [y,up _ _ r1] at e;cases e) e
   have p3':=tkJ _ _ p3
   have p4':=(GV.keep tkJ _).1 _ p4
   have p5':=(GV.keep tkJ _).1 _ p5
   have hxJ:=(GV.keep tkJ _).1 _ (yC up hyk')
   have hin:pr∈T0.1 k:=by exact List.mem_of_getElem? p1
   have ht:((T0.1 k).take (j+1))=(T0.1 k).take j++[pr]:=by rw [List.take_add_one,p1];rfl
   obtain ⟨kvs,e1,g,e2,e3⟩:=hJ.came.ex
   refine ⟨t,[b,c],rfl,.inl (.inl p3'),rfl,_,jA rfl (⟨_,_,rfl,rfl,jA rfl (jA rfl ((vS dc kvs pr.2 (yY rfl (.of e1) g p5' p7 (jA rfl (?_))))))⟩)⟩
   rw [L6,e2]
   by_cases hm:pr.2∈met++acc'
   ·rw [decide_eq_true hm]
    refine yG ⟨acc',_,jA rfl (⟨hJ,kp,?_⟩)⟩
    rw [ht,nO,← hacc',yN,if_pos hm]
   ·rw [decide_eq_false hm]
    obtain ⟨ys,er,hky⟩:=hJ.row
    have hlen:(met++acc').length≤1000:=by
     have:=w5 (l:=met++acc') (m:=met++qB T0 met [] lay) (by rw [← e2];exact g.once) (fun x hx=>(List.mem_append.mp hx).elim (fun h=>List.mem_append_left _ h) fun h=>List.mem_append_right _ (xL (i:=i) (j:=j) hk rfl (by rw [← hacc,← hacc'];exact h)))
     omega
    have hkl:kvs.length=(met++acc').length:=by rw [← e2,List.length_map]
    refine kT (jA rfl (jA rfl (⟨small (by show 2≤1000;decide),fun t2 ht2=>(jA rfl (jA rfl ((vS dc kvs pr.2 (Z5 rfl (jI ht2 _ _ _ e1) (dM (jI ht2 _) g) (yC (jI ht2 _) p5') p7 (iC (by omega)) (?_))))))⟩)))
    have er3:upd (upd Hj t2 (.tup [x,b])) dc (GO w dc (yF kvs pr.2 c (.ref t2))) r=some (.lst ys):=by rw [jL hJ.nr];exact jI ht2 _ _ _ er
    refine (jA rfl (⟨.inl ⟨rfl,_,SqL.of er3⟩,jA rfl (⟨r,_,_,rfl,rfl,er3,iC (by have:=hky.1;rw [List.length_append] at hlen;omega),?_⟩)⟩))
    refine ⟨acc'++[pr.2],_,jA rfl (⟨hJ.put e1 g e2 e3 er hky hm ht2 hxJ h8 hkm p4' p6 p5' p7 (hR0 k (List.mem_of_getElem? hk) pr hin (xL (i:=i) (j:=j+1) hk hah (by rw [← hacc,ht,nO,← hacc',yN,if_neg hm];exact List.mem_append_right _ (List.mem_singleton.mpr rfl)))) (hsh k pr hps hin),fun a o n1 n2 e=>?_,?_⟩)⟩
    ·rw [jL n2,jL n1];exact jI ht2 _ _ _ (kp a o n1 n2 e)
    ·rw [ht,nO,← hacc',yN,if_neg hm]
  ·rintro σ Hj ⟨acc',c5,c6,rfl,hJ,kp,hacc'⟩
   refine ⟨acc',_,_,jA rfl (⟨hJ,?_⟩)⟩
   rw [hPP.1,List.take_length] at hacc'
   rw [hacc',List.take_add_one,hk]
   show _=qB T0 met [] (lay.take i++[k])
   rw [sX,← hacc]
 ·rintro σ Hf ⟨acc,c4,c5,c6,rfl,hI,hacc⟩
  rw [hks.1,List.take_length] at hacc
  subst hacc
  obtain ⟨ys,er,hky⟩:=hI.row
  exact (jA rfl (q r ys Hf hI.rn hI.nr hI.keep er hky hI.came))
theorem cK:FnScope ["first","ahead","ended","most","came","layers","ended_ones","layer"] ["first","ahead","ended","most"] (jG fA):=jU
include T in
theorem E5 {f:Addr} {fd:FuncData} (F:Fun K "layered" "layered" fA f fd) (V_lam_home:FnV P w K mg base jP 5 (vU "homecoming.<locals>.<lambda>" (qW kF) (qZ kF) (qI kF) ["ways"] (QT))) (D_row_to:Def P w K mg base 2 "row_to" ["came","state"] [] (wO w)) (D_next_layer:Def P w K mg base 16 "next_layer" ["layer","ahead","came"] [] (x8 w (vU "ahead_on.<locals>.<lambda>" (qW j9) (qZ j9) (qI j9) ["ways","canal"] (JO (jF cP cB cU) cR cN)))):FnOk P w K mg base (vF P w) 18 f fd ["first","ahead","ended","most"] (tI w (vU "ahead_on.<locals>.<lambda>" (qW j9) (qZ j9) (qI j9) ["ways","canal"] (JO (jF cP cB cU) cR cN)) (vU "homecoming.<locals>.<lambda>" (qW kF) (qZ kF) (qI kF) ["ways"] QT) eTW):=by
 refine F.okX2 cK fun vs H Q E h=>?_
 obtain ⟨y,fa,fe,most,T0,M,k0,N,rfl,hA,hE,hsh,hfit,hy,h8,hk0,hN,hSt,qF,qC,qE⟩:=h
 refine ⟨rfl,fun _ _ _ _ hr=>?_⟩
 have hu9:=bL hr
 have hu10:=bE hr
 refine ⟨_,(@jH _ _ _ _ _ (jZ (i:=4) cK.nd rfl (.inl rfl) (MV hu9 (pv 0) iH))
   (@jH _ _ _ _ _ (jZ (i:=5) cK.nd rfl (.inl rfl) (qR (jB (qR (jB (pv 0) jC)) jC)))
   (@jH _ _ _ _ _ (wZ BX (kO RN (kP K5 (by rfl) T.z_len PySem.boot_len (jB (pv 4) jC)) (pv 3)) (@jH _ _ _ _ _ (zN (i:=6) ["state","ended"] (kZ 1 [2]) cK.nd rfl (.inl rfl) rfl (qO (jG fA)) (cps 1 [2]) (vC (jM (kN K) (pv 5) (dZ dU jD))) (fun _ _ _ _ _=>(kC (i:=0) (show List.Nodup (["state","ended"]:List Str) from by decide +kernel) rfl (.inl rfl))) (fun _ _ _ _ _=>(JP (QY (gL (i:=1) V_lam_home (hr.mono (by decide)) JF rfl (by first|exact .inl rfl|exact .inr rfl|exact .inr (.inl rfl)|exact .inr (.inr rfl)) (jB (pv 0) jC))))) (fun _ _ _ _ _=>(pv 0)))
   (@jH _ _ _ _ _ (qQ (oQ (pv 6) (fun _=>rfl)) (@jK _ _ _ (@jQ _ _ _ _ (kQ (@jB _ _ _ _ _ j5 (@jB _ _ _ _ _ (jO D_row_to hr rfl (jB (pv 4) (jB (jM (kN K) (pv 6) jD) jC))) (@jB _ _ _ _ _ (pv 5) jC (by rfl)) (by rfl)) (by rfl))))) qP)
   (@jH _ _ _ _ _ (jZ (i:=7) cK.nd rfl (.inl rfl) (jO D_next_layer hr rfl (@jB _ _ _ _ _ (jM (kN K) (pv 5) (dZ dU jD)) (@jB _ _ _ _ _ (pv 1) (@jB _ _ _ _ _ (pv 4) jC (by rfl)) (by rfl)) (by rfl))))
   (@jH _ _ _ _ _ (qQ (BS (oQ (pv 7) (fun _=>rfl))) (@jK _ _ _ (@jQ _ _ _ _ (kQ (jB j5 (jB (pv 5) jC))))) qP)
   (@jK _ _ _ (QP (ZZ PySem.F.plainAttrs_list PySem.F.slot_list_append PySem.F.type_list_append ZM (pv 5) (jB (pv 7) jC)))))))))
   (@jK _ _ _ (oR nW rfl rfl T.c_TooWide T.x_TooWide (jB j5 jC)))))),?_⟩
 try dsimp only [jX,jW]
 have dom:=fun i x (h:x∈(jS T0 k0 i).flatten)=>o5 hsh hk0 i x h
 refine fun dc hdc=>(jA rfl (⟨jE,k0,yC (jI hdc _) hy,h8,?_⟩))
 have s1:Same H (upd (upd H dc (GO w dc [])) dc (GO w dc [(k0,y,.non)])):=qA hdc (jI hdc _)
 have d1:upd (upd H dc (GO w dc [])) dc (GO w dc [(k0,y,.non)]) dc=some (GO w dc [(k0,y,.non)]):=jE
 refine (jA rfl (⟨small (by show 1≤1000;decide),fun l1 hl1=>⟨small (by show 1≤1000;decide),fun lr hlr=>?_⟩⟩))
 have u1:=jI hl1 (.lst [y])
 have u2:=jI hlr (.lst [.ref l1])
 have s2:=(s1.trans u1).trans u2
 have ne1:l1≠lr:=fun z=>by rw [← z,jE] at hlr;cases hlr
 have hlr0:H lr=none:=by
  cases e:H lr with
  |none=>rfl
  |some o=>have:=(s1.trans u1) _ _ e;rw [hlr] at this;cases this
 refine ⟨C4 w H y fa fe most dc lr T0 k0 N,(vW N 0 none none (yI rfl (Nat.add_zero N) s2 (NG rfl (u2 _ _ (u1 _ _ d1)) (yC s2 hy) h8) (KP jE (u2 _ _ jE) ne1 (yC s2 hy) h8))),?_⟩
 rintro m σ Hi ⟨i,c6,c7,rfl,hm,s,hC,hL⟩
 obtain ⟨kvs,e1,g,e2,e3⟩:=hC.ex
 have hkl:kvs.length=(jS T0 k0 i).flatten.length:=by rw [← e2,List.length_map]
 refine (jA rfl (⟨dc,kvs,rfl,.of e1,g,jA rfl (j7 ((jA rfl (bV (fun c=>?_) (fun c=>?_)))))⟩))
 case refine_2 =>
  have c':¬((kvs.length:Nat):Int)≤most:=of_decide_eq_false (Bool.eq_false_iff.mpr c)
  have:=oG (T:=T0) (k0:=k0) (i:=i) m
  rw [show i+m=N by omega] at this
  exact ⟨by show 1≤sizeLine;decide,qE (by omega) _ s⟩
 have c':((kvs.length:Nat):Int)≤most:=of_decide_eq_true c
 refine ⟨fun σ' H'=>∃m',m'<m∧C4 w H y fa fe most dc lr T0 k0 N m' σ' H',fun _ _ h=>h,?_⟩
 obtain ⟨xs,la,ys,f1,f2,f3,f4,f5,f6⟩:=hL.last
 have hyl:ys.length≤1000:=by
  rw [f5.1]
  have:=hfit i (by omega)
  have h2:(kK T0 k0 i).length≤(jS T0 k0 i).flatten.length:=(List.sublist_flatten_of_mem (List.mem_of_getElem? (oS i))).length_le
  omega
 refine (jA rfl (jA rfl (⟨lr,xs,_,_,rfl,rfl,SqL.of f1,f2,la,rfl,⟨_,SqL.of f4⟩,fun bt hbt=>?_⟩)))
 refine J4 (K:=K) (a:=la) (xs:=ys) (caps:=[some (.ref fe)]) (fun j zs Hj=>KeysAt Hj zs (((kK T0 k0 i).take j).filter M)) hbt (SqL.of f4) ⟨rfl,fun i x e=>by cases e⟩ ?_ ?_
 ·rintro j x zs Hj hx hj hle sm hY hR
  obtain ⟨kj,hkj,hgj,h8j⟩:=f5.2 j x hx
  have hdj:=dom i kj (dL (List.mem_of_getElem? hkj))
  refine ⟨fe,rfl,jA rfl (hE _ _ kj _ _ (s.trans sm) hdj (yC sm hgj) fun He se=>(jA rfl (?_)))⟩
  have ht:((kK T0 k0 i).take (j+1))=(kK T0 k0 i).take j++[kj]:=by rw [List.take_add_one,hkj];rfl
  cases hMk:M kj with
  |true =>
   refine kT (jA rfl (v9 hbt sm hY hle (by omega) se ?_))
   show KeysAt _ _ (((kK T0 k0 i).take (j+1)).filter M)
   rw [ht,List.filter_append,List.filter_cons,if_pos hMk]
   exact hR.snoc (k:=kj) (fun a l e=>by rw [jL fun z=>by subst z;rw [hY] at e;cases e];exact se _ _ e) (yC sm hgj) h8j
  |false =>
   refine yG (ZO sm hY hle se ?_)
   show KeysAt _ _ (((kK T0 k0 i).take (j+1)).filter M)
   rw [ht,List.filter_append,List.filter_cons,if_neg (by rw [hMk];decide)]
   have hR2:=hR.same se
   simpa using hR2
 rintro zs Hg sg hbtg hleg hR
 rw [f5.1,List.take_length] at hR
 have hany:=NI (M:=M) (l:=kK T0 k0 i)
 have sG:=s.trans sg
 cases hf:(kK T0 k0 i).filter M with
 |cons kf rest =>
  rw [hf] at hR hany
  have hi:i=N:=xZ hN hm (.inl hany)
  subst hi
  match zs,hR with
  |[],hR=>exact absurd hR.1 (by simp)
  |z0::zs',hR =>
   obtain ⟨k',a1,a2,a3⟩:=hR.2 0 z0 rfl
   cases a1
   have hkf:kf∈kK T0 k0 i:=(List.mem_filter.mp (by rw [hf];exact List.mem_cons_self:kf∈(kK T0 k0 i).filter M)).1
   refine (jA rfl (⟨true,.inl ⟨_,SqL.of hbtg,rfl⟩,kT ?_⟩))
   refine (jA rfl (jA rfl (⟨bt,_,0,z0,rfl,rfl,SqL.of hbtg,qL (j:=0) rfl,TL dc z0 T0 _ kf k0 i (ZF rfl (hC.same sg) (hfit i (by omega)) a2 a3 (dL hkf) hkf (fun rr xs' des H' s' hrr0 hrr hkd hpa hdl=>(jA rfl (⟨small (by show 3≤1000;decide),fun t ht=>?_⟩))))⟩)))
   have ut:=jI ht (.tup [.str "found",.ref rr,.ref lr])
   exact qF (by omega) hany t rr lr xs' des kf _ ((sG.trans s').trans ut) jE (ut _ _ hrr) (hkd.same ut) hpa (List.mem_filter.mp (by rw [hf];exact List.mem_cons_self:kf∈(kK T0 k0 i).filter M)).2 hdl (hL.same ((sg.trans s').trans ut)) (none_of sG hrr0) hlr0 (none_of (sG.trans s') ht) (fun z=>by rw [z,sg _ _ f1] at hrr0;cases hrr0)
 |nil =>
  rw [hf] at hR hany
  obtain rfl:zs=[]:=List.eq_nil_of_length_eq_zero hR.1
  refine (jA rfl (⟨false,.inl ⟨_,SqL.of hbtg,rfl⟩,yG ?_⟩))
  refine (jA rfl (jA rfl (⟨lr,xs,_,_,rfl,rfl,SqL.of (sg _ _ f1),f2,jA rfl (jA rfl (⟨la,fa,dc,H,T0,ys,kK T0 k0 i,(jS T0 k0 i).flatten,rT T0 k0,rfl,sG,hdc,hA,hsh,(by have:=hfit (i+1) (by omega);rw [y6] at this;exact this),sg _ _ f4,f5.same sg,fun k hk=>dL hk,dom i,hC.same sg,(fun kp hkp p hp hx=>⟨hp,i,hkp,by rw [dB];exact hx⟩),fun r zs2 H' hr0 hrn kB hr2 hk2 hc2=>?_⟩))⟩)))
  have hL':=hL.same sg |>.keepB kB (sg _ _ e1)
  have sH':Same H H':=fun a o e=>kB a o (q8 e hdc) (sG _ _ e)
  have rlr:r≠lr:=fun z=>by rw [z,sg _ _ f1] at hr0;cases hr0
  cases hnx:JU T0 k0 i with
  |nil =>
   have hi:i=N:=xZ hN hm (.inr hnx)
   subst hi
   rw [show qB T0 (jS T0 k0 i).flatten [] (kK T0 k0 i)=[] from hnx] at hk2
   obtain rfl:zs2=[]:=List.eq_nil_of_length_eq_zero hk2.1
   refine (jA rfl (⟨false,.inl ⟨_,SqL.of hr2,rfl⟩,kT (jA rfl (⟨small (by show 2≤1000;decide),fun t ht=>?_⟩))⟩))
   have ut:=jI ht (.tup [.str "closed",.ref lr])
   exact qC (by omega) hany t lr _ (sH'.trans ut) jE (hL'.same ut) hlr0 (none_of sH' ht)
  |cons kx rest =>
   have hk2':=hk2
   rw [show qB T0 (jS T0 k0 i).flatten [] (kK T0 k0 i)=kx::rest from hnx] at hk2'
   have hlt:m≠0:=fun z=>by
    have hi:i=N:=by omega
    rw [← hi] at hSt
    rcases hSt with (h|h)|h
    ·rw [hany] at h;cases h
    ·rw [hnx] at h;cases h
    ·omega
   match zs2,hk2',hr2,hk2 with
   |[],hk2',_,_=>exact absurd hk2'.1 (by simp)
   |z1::zs3,_,hr2,hk2 =>
    obtain ⟨xs2,g1,g2,_⟩:=hL'.ex
    rw [gJ] at g2
    refine (jA rfl (⟨true,.inl ⟨_,SqL.of hr2,rfl⟩,yG (jA rfl (⟨.inl ⟨rfl,_,SqL.of g1⟩,jA rfl (⟨lr,_,_,rfl,rfl,g1,iC ?_,?_⟩)⟩))⟩))
    ·have h2:=gI (T:=T0) (M:=M) (k0:=k0) i (fun j hj=>hN j (by omega))
     have:=hfit i (by omega)
     omega
    ·refine ⟨m - 1,by omega,i+1,_,jA rfl (⟨by omega,qA hlr0 sH',?_,?_⟩)⟩
     ·rw [y6]
      exact MD hc2 g1
     ·rw [gE]
      exact hL'.put g1 hr2 hk2 rlr
theorem cT:FnScope ["first","ahead","ended","row","state","deed","behind"] ["first","ahead","ended","row"] (jG fF):=jU
include T in
theorem FO {f:Addr} {fd:FuncData} (F:Fun K "row_holds" "row_holds" fF f fd) (V_lam_ahead:FnV P w K mg base jP 14 (vU "ahead_on.<locals>.<lambda>" (qW j9) (qZ j9) (qI j9) ["ways","canal"] (JO (jF cP cB cU) cR cN))) (V_lam_home:FnV P w K mg base jP 5 (vU "homecoming.<locals>.<lambda>" (qW kF) (qZ kF) (qI kF) ["ways"] (QT))):FnOk P w K mg base jP 17 f fd ["first","ahead","ended","row"] (wT (vU "ahead_on.<locals>.<lambda>" (qW j9) (qZ j9) (qI j9) ["ways","canal"] (JO (jF cP cB cU) cR cN)) (vU "homecoming.<locals>.<lambda>" (qW kF) (qZ kF) (qI kF) ["ways"] QT) K):=by
 refine F.ok2 cT fun vs H Q E h=>?_
 obtain ⟨y,fa,fe,rl,T0,M,k,row,ks,rfl,hA,hE,hsh,hfew,hy,hk,hrl,hks,h900,q⟩:=h
 refine ⟨rfl,fun _ _ _ _ hr=>?_⟩
 have hu9:=bL hr
 have hu10:=bE hr
 refine ⟨_,(@jH _ _ _ _ _ (jZ (i:=4) cT.nd rfl (.inl rfl) (pv 0))
   (@jH _ _ _ _ _ (zS PassesOwn.never rfl (vC (pv 3)) (kC (i:=5) cT.nd rfl (.inr rfl))
    (@jH _ _ _ _ _ (zN (i:=6) ["told","come_to","deed"] (kZ 2 [5]) cT.nd rfl (.inl rfl) rfl (qO (jG fF)) (cps 2 [5]) (vC (gL (i:=1) V_lam_ahead (hr.mono (by decide)) JF rfl (by first|exact .inl rfl|exact .inr rfl|exact .inr (.inl rfl)|exact .inr (.inr rfl)) (jB (pv 4) jC))) (fun _ _ _ _ _=>(JB (n:=2) K rfl (kW (kC (i:=0) (show List.Nodup (["told","come_to","deed"]:List Str) from by decide +kernel) rfl (.inl rfl)) (kW (kC (i:=1) (show List.Nodup (["told","come_to","deed"]:List Str) from by decide +kernel) rfl (.inl rfl)) y7)))) (fun _ _ _ _ _=>(JP (kO (PH hu9) (pv 0) (pv 2)))) (fun _ _ _ _ _=>(pv 1)))
   (@jH _ _ _ _ _ (qQ (BS (oQ (pv 6) (fun _=>rfl))) (@jK _ _ _ (@jQ _ _ _ _ Z0)) qP)
   (@jK _ _ _ (jZ (i:=4) cT.nd rfl (.inl rfl) (jM (kN K) (pv 6) jD))))))
   (@jK _ _ _ (@jQ _ _ _ _ (gL (i:=2) V_lam_home (hr.mono (by decide)) JF rfl (by first|exact .inl rfl|exact .inr rfl|exact .inr (.inl rfl)|exact .inr (.inr rfl)) (jB (pv 4) jC)))))),?_⟩
 try dsimp only [jX,jW]
 refine (jA rfl (jA rfl (⟨rl,rfl,⟨_,SqL.of hrl⟩,?_⟩)))
 refine ZS (K:=K) (xs:=row) (fun i σ Hi=>∃yi ki c5 c6,σ=[some y,some (.ref fa),some (.ref fe),some (.ref rl),some yi,c5,c6]∧Same H Hi∧(GV Hi ki).1 yi∧T0.2 ki∧v5 T0 k (ks.take i)=some ki) ⟨y,k,none,none,rfl,Same.refl _,hy,hk,rfl⟩ (fun i σ Hi _ ⟨_,_,_,_,_,s,_⟩=>SqL.of (s _ _ hrl)) ?_ ?_
 ·rintro i x σ Hi hx ⟨yi,ki,c5,c6,rfl,s,hyi,hki,hw⟩
  obtain ⟨de,hde,hxk,hx8⟩:=hks.2 i x hx
  refine ⟨fa,rfl,jA rfl (hA _ _ ki _ _ s hki hyi fun p xs HP sp hp0 hpl hP1=>⟨p,rfl,⟨_,SqL.of hpl⟩,fun bt hbt=>?_⟩)⟩
  have few:=hfew ki
  have hxl:=hP1.1
  refine K3 (K:=K) (a:=p) (xs:=xs) (caps:=[some x]) (fun j ys Hj=>KeysAt Hj ys ((((T0.1 ki).take j).filter fun z=>decide (z.1=de)).map (·.2))) hbt (SqL.of hpl) ⟨rfl,fun i x e=>by cases e⟩ (fun j z hz=>?_) ?_ ?_
  ·obtain ⟨pr,a,b,c,_,e2,e3,_⟩:=hP1.2 j z hz
   exact ⟨a,b,c,e2,e3⟩
  ·rintro j t b c ys Hj hz et hj hle sm hY hR
   obtain ⟨pr,a,b',c',e1,e2,e3,e4,e5,e6,e7⟩:=hP1.2 j _ hz
   cases e2
   rw [et] at e3;cases e3
   refine (jA rfl (jA rfl (⟨pr.1,de,yC sm e4,yC ((s.trans sp).trans sm) hxk,e6,jA rfl (?_)⟩)))
   have ht:((T0.1 ki).take (j+1))=(T0.1 ki).take j++[pr]:=by rw [List.take_add_one,e1];rfl
   by_cases hd:pr.1=de
   ·rw [decide_eq_true hd]
    refine kT (jA rfl (⟨_,hY,vX (by omega),ys++[c],_,jA rfl (⟨qA hbt sm,jE,by rw [List.length_append,List.length_singleton];omega,?_⟩)⟩))
    show KeysAt _ _ ((((T0.1 ki).take (j+1)).filter fun z=>decide (z.1=de)).map (·.2))
    rw [ht,List.filter_append,List.map_append,List.filter_cons,if_pos (decide_eq_true hd)]
    exact hR.snoc (k:=pr.2) (fun a l e=>by rw [jL fun z=>by subst z;rw [hY] at e;cases e];exact e) (yC sm e5) e7
   ·rw [decide_eq_false hd]
    refine yG ⟨ys,_,jA rfl (⟨sm,hY,by omega,?_⟩)⟩
    show KeysAt _ _ ((((T0.1 ki).take (j+1)).filter fun z=>decide (z.1=de)).map (·.2))
    rw [ht,List.filter_append,List.map_append,List.filter_cons,if_neg (by simpa using hd)]
    simpa using hR
  rintro ys Hg sg hbtg hleg hR
  have hb:((((T0.1 ki).take xs.length).filter fun z=>decide (z.1=de)).map (·.2))=behind T0 ki de:=by
   rw [hP1.1,List.take_length];rfl
  rw [hb] at hR
  have sF:=(s.trans sp).trans sg
  refine (jA rfl (?_))
  cases hbh:behind T0 ki de with
  |nil =>
   rw [hbh] at hR
   obtain rfl:ys=[]:=List.eq_nil_of_length_eq_zero hR.1
   refine ⟨false,.inl ⟨_,SqL.of hbtg,rfl⟩,kT ?_⟩
   have:=q Hg sF
   rw [bM,LE hw hde hbh] at this
   exact this
  |cons k' r =>
   rw [hbh] at hR
   cases ys with
   |nil=>exact absurd hR.1 (by simp)
   |cons y' ys' =>
    obtain ⟨k2,e1,e2,e3⟩:=hR.2 0 y' rfl
    cases e1
    refine ⟨true,.inl ⟨_,SqL.of hbtg,rfl⟩,yG (jA rfl (⟨bt,_,0,y',rfl,rfl,SqL.of hbtg,qL (j:=0) rfl,y',k',_,jA rfl (⟨sF,e2,?_,LF hw hde hbh⟩)⟩))⟩
    have hin:k'∈behind T0 ki de:=by rw [hbh];exact List.mem_cons_self
    unfold behind at hin
    obtain ⟨pr,hm,rfl⟩:=List.mem_map.mp hin
    exact hsh ki pr hki (List.mem_filter.mp hm).1
 ·rintro σ Hf ⟨yi,ki,c5,c6,rfl,s,hyi,hki,hw⟩
  rw [hks.1,List.take_length] at hw
  refine ⟨fe,rfl,jA rfl (hE _ _ ki _ _ s hki hyi fun He se=>?_)⟩
  have:=q He (s.trans se)
  rw [bM,hw] at this
  exact this
theorem sD:FnScope ["canal","ways","state","most","answer"] ["canal","ways","state","most"] (jG mI):=jU
include T in
theorem FA {f:Addr} {fd:FuncData} (F:Fun K "look" "look" mI f fd) (DX_layered:DefX P w K mg base 18 "layered" ["first","ahead","ended","most"] [] (tI w (vU "ahead_on.<locals>.<lambda>" (qW j9) (qZ j9) (qI j9) ["ways","canal"] (JO (jF cP cB cU) cR cN)) (vU "homecoming.<locals>.<lambda>" (qW kF) (qZ kF) (qI kF) ["ways"] QT) eTW)) (D_homecoming:Def P w K mg base 1 "homecoming" ["ways"] [] (QX tH 1 (kS kF) "homecoming.<locals>.<lambda>" (qW kF) (qZ kF) (qI kF) ["ways"] [0])) (D_ahead_on:Def P w K mg base 1 "ahead_on" ["canal","ways"] [] (QX tA 2 (kS j9) "ahead_on.<locals>.<lambda>" (qW j9) (qZ j9) (qI j9) ["ways","canal"] [1,0])):FnOk P w K mg base (vF P w) 19 f fd ["canal","ways","state","most"] (BL (jF cP cB cU) cR cN tA tH (kS j9) (kS kF) eTW):=by
 refine F.okX2 sD fun vs H Q E h=>?_
 obtain ⟨x,wl,st,us,ys,d,ms,pl,D,R,L,N,NN,rfl,hG,hd0,hT,hF,qF,qC,qE⟩:=h
 refine ⟨rfl,fun _ _ _ _ hr=>?_⟩
 refine ⟨_,(@jH _ _ _ _ _ (jZ (i:=4) sD.nd rfl (.inl rfl) (o8 DX_layered xI hr rfl (@jB _ _ _ _ _ (pv 2) (@jB _ _ _ _ _ (jO D_ahead_on hr rfl (jB (pv 0) (jB (pv 1) jC))) (@jB _ _ _ _ _ (jO D_homecoming hr rfl (jB (pv 1) jC)) (@jB _ _ _ _ _ (pv 3) jC (by rfl)) (by rfl)) (by rfl)) (by rfl))))
   (@jH _ _ _ _ _ (qQ (kO qM (jM (jT K) (pv 4) jD) j5) (@jK _ _ _ (@jQ _ _ _ _ (kQ (jB j5 (jB (jM (jT K) (pv 4) jD) jC))))) qP)
   (@jK _ _ _ (@jQ _ _ _ _ (kQ (@jB _ _ _ _ _ j5 (@jB _ _ _ _ _ (jM (jT K) (pv 4) jD) (@jB _ _ _ _ _ (jM (jT K) (pv 4) jD) jC (by rfl)) (by rfl)) (by rfl))))))),?_⟩
 try dsimp only [jX,jW]
 refine (jA rfl (jA rfl (⟨_,rfl,rfl,hT.a,fun fa cA cdA H1 hfa0 hLA hnA hCA hTA hcA kA=>?_⟩)))
 obtain ⟨za,hza⟩:=fX hT.a
 have sT1:=gM hza kA
 have hTh1:=fR hT.ne.symm hza kA hT.h
 obtain ⟨zh,hzh⟩:=fX hTh1
 refine ⟨_,rfl,rfl,hTh1,fun fe cE cdE H2 hfe0 hLE hnE hCE hTE hcE kE=>?_⟩
 have sT2:=gM hzh kE
 have s12:=n5 sT1 sT2
 have hT2:Tabs H2 tA tH (kS j9) (kS kF):=⟨hT.ne,fR hT.ne hzh kE hTA,hTE⟩
 have hG0:=hG.noT
 have hAh:=B9 hG0 s12 (fun c hc=>w9 (hcA c hc)) (fY sT2 (uU hLA)) hnA (fP sT2 (sY hCA))
 have hEn:=B6 hG0 s12 (fun c hc=>none_of sT1 (hcE c hc)) hLE hnE hCE
 refine (jA rfl (⟨_,fa,fe,16,kR R L N ys,vN ys,kD (d,ms,pl),NN,rfl,hAh,hEn,CI hG.dr,hF.fit,pX (s:=(d,ms,pl)) (hG0.sts.same s12),CM _,(jA rfl (⟨hd0,hG.fl,hG.ml⟩)),hF.low,hF.stop,fun hle hany t rr lr xs des kf H' s' ht hrr hks hp hmk hdl hLay _ _ _ _=>?_,fun hle hany t lr H' s' ht hLay _ _=>?_,fun hlt H' s'=>qE hlt H' (s12.trans s') (hT2.same s')⟩))
 ·refine (jA rfl (jR (SqT.of ht) rfl (⟨rfl,jA rfl (qV (fun e=>absurd (V.str.inj e) (by decide +kernel)) (jA rfl (jR (SqT.of ht) rfl ((jA rfl (jR (SqT.of ht) rfl (⟨zz3,fun t2 ht20=>?_⟩)))))))⟩)))
  have u:=jI ht20 (.tup [V.str "home",V.ref rr,V.ref lr])
  exact qF hle hany t2 rr lr xs des kf _ ((s12.trans s').trans u) ((hT2.same s').same u) jE (u _ _ hrr) (hks.same u) hp hmk hdl
 ·refine (jA rfl (jR (SqT.of ht) rfl (⟨rfl,jA rfl (vD rfl (jA rfl (jR (SqT.of ht) rfl (⟨zz2,fun t2 ht20=>?_⟩))))⟩)))
  have u:=jI ht20 (.tup [V.str "doomed",V.ref lr])
  exact qC hle hany t2 lr _ ((s12.trans s').trans u) ((hT2.same s').same u) jE
theorem HE:FnScope ["canal","ways","state","row"] ["canal","ways","state","row"] (jG mF):=jU
include T in
theorem E6 {f:Addr} {fd:FuncData} (F:Fun K "leads_home" "leads_home" mF f fd) (D_row_holds:Def P w K mg base 17 "row_holds" ["first","ahead","ended","row"] [] (wT (vU "ahead_on.<locals>.<lambda>" (qW j9) (qZ j9) (qI j9) ["ways","canal"] (JO (jF cP cB cU) cR cN)) (vU "homecoming.<locals>.<lambda>" (qW kF) (qZ kF) (qI kF) ["ways"] QT) K)) (D_homecoming:Def P w K mg base 1 "homecoming" ["ways"] [] (QX tH 1 (kS kF) "homecoming.<locals>.<lambda>" (qW kF) (qZ kF) (qI kF) ["ways"] [0])) (D_ahead_on:Def P w K mg base 1 "ahead_on" ["canal","ways"] [] (QX tA 2 (kS j9) "ahead_on.<locals>.<lambda>" (qW j9) (qZ j9) (qI j9) ["ways","canal"] [1,0])):FnOk P w K mg base jP 18 f fd ["canal","ways","state","row"] (AC (jF cP cB cU) cR cN tA tH (kS j9) (kS kF)):=by
 refine F.ok2 HE fun vs H Q E h=>?_
 obtain ⟨x,wl,st,rl,us,row,ks,ys,d,ms,pl,D,R,L,N,rfl,hG,hd0,hT,hrl,hks,h900,q⟩:=h
 refine ⟨rfl,fun _ _ _ _ hr=>?_⟩
 refine ⟨_,(@jK _ _ _ (@jQ _ _ _ _ (jO D_row_holds hr rfl (@jB _ _ _ _ _ (pv 2) (@jB _ _ _ _ _ (jO D_ahead_on hr rfl (jB (pv 0) (jB (pv 1) jC))) (@jB _ _ _ _ _ (jO D_homecoming hr rfl (jB (pv 1) jC)) (@jB _ _ _ _ _ (pv 3) jC (by rfl)) (by rfl)) (by rfl)) (by rfl))))),?_⟩
 try dsimp only [jX,jW]
 refine (jA rfl (jA rfl (⟨_,rfl,rfl,hT.a,fun fa cA cdA H1 hfa0 hLA hnA hCA hTA hcA kA=>?_⟩)))
 obtain ⟨za,hza⟩:=fX hT.a
 have sT1:=gM hza kA
 have hTh1:=fR hT.ne.symm hza kA hT.h
 obtain ⟨zh,hzh⟩:=fX hTh1
 refine ⟨_,rfl,rfl,hTh1,fun fe cE cdE H2 hfe0 hLE hnE hCE hTE hcE kE=>?_⟩
 have sT2:=gM hzh kE
 have s12:=n5 sT1 sT2
 have hT2:Tabs H2 tA tH (kS j9) (kS kF):=⟨hT.ne,fR hT.ne hzh kE hTA,hTE⟩
 have hG0:=hG.noT
 have hAh:=B9 hG0 s12 (fun c hc=>w9 (hcA c hc)) (fY sT2 (uU hLA)) hnA (fP sT2 (sY hCA))
 have hEn:=B6 hG0 s12 (fun c hc=>none_of sT1 (hcE c hc)) hLE hnE hCE
 have b1:=hG.fl.n10
 have b2:=hG.dr.l8
 refine (jA rfl (⟨_,fa,fe,rl,kR R L N ys,vN ys,kD (d,ms,pl),row,ks,rfl,hAh,hEn,CI hG.dr,fun k=>Nat.le_trans (AU k) (by omega),pX (s:=(d,ms,pl)) (hG0.sts.same s12),(jA rfl (⟨hd0,hG.fl,hG.ml⟩)),s12 _ _ (qJ hrl (fun _ z=>nomatch z)),hks.noT.same s12,h900,fun H' s'=>q H' (s12.trans s') (hT2.same s')⟩))
def uK (K:W.Frag) (cs:Kd→Addr) (cR cN:Addr):Sp:=fun vs H Q _=>∃(s:Addr) (ns:List Int),vs=[.ref s]∧SqL K H s (ns.map V.int)∧ns.length≤63∧∀(x:Addr) (R:List RC) (L:List LC) (N:List (List (Int×Int))) (H':Hp),Drawn R L N→2≤R.length→1≤L.length→L.length≤2→Same H H'→H x=none→CnAt cs cR cN [] H' x R L N→Q (.ref x) H'
def x6 (K:W.Frag) (cs:Kd→Addr) (cR cN:Addr):Sp:=fun vs H Q _=>∃(s x:Addr) (ns:List Int) (k:Nat) (D:List Addr) (R:List RC) (L:List LC) (N:List (List (Int×Int))),vs=[.ref s,.int (k:Int),.ref x]∧SqL K H s (ns.map V.int)∧ns.length≤63∧k<20∧CnAt cs cR cN D H x R L N∧Drawn R L N∧1≤L.length∧∀(t:Addr) (y:j4) (H':Hp),WyOk L y→Same H H'→H t=none→WyAt H' (.ref t) y→Q (.ref t) H'
def uF (K:W.Frag) (cs:Kd→Addr) (cR cN:Addr):Sp:=fun vs H Q _=>∃(s x wl:Addr) (ns:List Int) (us:List V) (ys:List j4) (D:List Addr) (R:List RC) (L:List LC) (N:List (List (Int×Int))),vs=[.ref s,.ref x,.ref wl]∧SqL K H s (ns.map V.int)∧ns.length≤63∧CnAt cs cR cN D H x R L N∧Drawn R L N∧H wl=some (.lst us)∧AllAt (WyAt H) us ys∧ys.length≤10∧(∀y∈ys,WyOk L y)∧
 ∀(st:Addr) (d:Int) (ms:List Int) (pl:List Nat) (H':Hp),Same H H'→StAt H' st d ms pl→Fleet L ys pl→0≤d→ms.length=R.length+2*L.length+2→Q (.ref st) H'
def tG (K:W.Frag) (cs:Kd→Addr) (cR cN:Addr):Sp:=fun vs H Q _=>∃(x st l:Addr) (zz:List Int) (d:Int) (ms:List Int) (pl:List Nat) (D:List Addr) (R:List RC) (L:List LC) (N:List (List (Int×Int))),vs=[.ref x,.ref st,.ref l]∧CnAt cs cR cN D H x R L N∧Drawn R L N∧H l=some (.lst (zz.map V.int))∧StAt H st d ms pl∧ms.length=R.length+2*L.length+2∧
 ∀(st':Addr) (ms':List Int) (H':Hp),Same H H'→StAt H' st' d ms' pl→Wet R L ms ms'→Q (.ref st') H'
def gS (tA tH:Addr) (K:W.Frag):Sp:=fun vs H Q _=>∃(s:Addr) (ns:List Int),vs=[.ref s]∧SqL K H s (ns.map V.int)∧ns.length≤63∧tA≠tH∧H tA=some (.tbl #[])∧H tH=some (.tbl #[])∧∀H',Q (.bl true) H'
def v7 (L:List LC) (a:Int) (b:Bool) (i:Nat):List (Nat×Bool):=((List.range i).filter fun k=>decide ((qX L (k,b)).1=a)).map fun k=>(k,b)
theorem AG {L:List LC} {a:Int} {b:Bool} {i:Nat} (h:(qX L (i,b)).1=a):v7 L a b (i+1)=v7 L a b i++[(i,b)]:=by
 unfold v7
 rw [List.range_succ,List.filter_append,List.filter_cons,if_pos (decide_eq_true h),List.map_append]
 rfl
theorem BP {L:List LC} {a:Int} {b:Bool} {i:Nat} (h:¬(qX L (i,b)).1=a):v7 L a b (i+1)=v7 L a b i:=by
 unfold v7
 rw [List.range_succ,List.filter_append,List.filter_cons,if_neg (by rw [decide_eq_false h];decide),List.map_append]
 exact List.append_nil _
theorem sdT_mem {L:List LC} {a:Int} {b:Bool} {i:Nat} {p:Nat×Bool}:p∈v7 L a b i↔p.1<i∧p.2=b∧(qX L p).1=a:=by
 unfold v7
 rw [List.mem_map]
 constructor
 ·rintro ⟨k,hk,rfl⟩
  exact ⟨List.mem_range.mp (List.mem_filter.mp hk).1,rfl,of_decide_eq_true (List.mem_filter.mp hk).2⟩
 ·rintro ⟨h1,h2,h3⟩
  obtain ⟨k,c⟩:=p
  have h2:c=b:=h2
  subst h2
  exact ⟨k,List.mem_filter.mpr ⟨List.mem_range.mpr h1,decide_eq_true h3⟩,rfl⟩
theorem BQ {L:List LC} {a:Int} {b:Bool} {i:Nat}:(v7 L a b i).length≤i:=by
 unfold v7
 rw [List.length_map]
 have:=List.length_filter_le (fun k=>decide ((qX L (k,b)).1=a)) (List.range i)
 rwa [List.length_range] at this
theorem NR {L:List LC} {a:Int} {p:Nat×Bool} (h:p∈v7 L a true L.length++v7 L a false L.length):p.1<L.length∧(qX L p).1=a:=by
 rcases List.mem_append.mp h with h|h
 ·exact ⟨(sdT_mem.mp h).1,(sdT_mem.mp h).2.2⟩
 ·exact ⟨(sdT_mem.mp h).1,(sdT_mem.mp h).2.2⟩
theorem NQ {L:List LC} {a:Int} (h:EndAt L a):0<(v7 L a true L.length++v7 L a false L.length).length:=by
 obtain ⟨p,h1,h2⟩:=h
 obtain ⟨k,b⟩:=p
 refine List.length_pos_of_mem (a:=(k,b)) ?_
 cases b with
 |true=>exact List.mem_append_left _ (sdT_mem.mpr ⟨h1,rfl,h2⟩)
 |false=>exact List.mem_append_right _ (sdT_mem.mpr ⟨h1,rfl,h2⟩)
theorem Wet.refl (R:List RC) (L:List LC) (ms:List Int):Wet R L ms ms:=⟨rfl,fun _ _=>Int.le_refl _,fun _ _ _=>rfl⟩
theorem Wet.trans {R:List RC} {L:List LC} {a b c:List Int} (h:Wet R L a b) (h':Wet R L b c):Wet R L a c:=⟨h'.len.trans h.len,fun i hi=>Int.le_trans (h.up i hi) (h'.up i hi),fun i i1 i2=>(h'.eq i i1 i2).trans (h.eq i i1 i2)⟩
theorem Wet.add {R:List RC} {L:List LC} {ms ms':List Int} {j:Nat} {z:Int} (h:Wet R L ms ms') (hj:j<R.length) (hl:R.length≤ms'.length) (hz:0≤z):Wet R L ms (ms'.set j (ms'.getD j 0+z)):=by
 have g:∀i,(ms'.set j (ms'.getD j 0+z)).getD i 0=if i=j then ms'.getD j 0+z else ms'.getD i 0:=fun i=>by
  rw [List.getD_eq_getElem?_getD,List.getElem?_set]
  by_cases e:i=j
  ·subst e
   rw [if_pos rfl,if_pos rfl,if_pos (by omega)]
   rfl
  ·rw [if_neg (fun q=>e q.symm),if_neg e,← List.getD_eq_getElem?_getD]
 refine ⟨by rw [List.length_set];exact h.len,fun i hi=>?_,fun i i1 i2=>?_⟩
 ·rw [g]
  have:=h.up i hi
  split
  ·rename_i e;subst e;omega
  ·exact this
 ·rw [g,if_neg (by omega)]
  exact h.eq i i1 i2
theorem sB:FnScope ["script","k","many","cell"] ["script","k","many"] (jG lU):=jU
include T in
theorem EI {f:Addr} {fd:FuncData} (F:Fun K "_law_draw" "_law_draw" lU f fd) : FnOk P w K mg base jP 1 f fd ["script","k","many"] (ZW K):=by
 refine F.ok2 sB fun vs H Q E h=>?_
 obtain ⟨s,ns,k,m,rfl,hS,h63,hk0,hk1,hm,q⟩:=h
 refine ⟨rfl,fun _ _ _ _ hr=>?_⟩
 refine ⟨_,(@jH _ _ _ _ _ (qQ (kO qM (kP (qD K) (by rfl) T.z_len PySem.boot_len (jB (pv 0) jC)) jD) (@jK _ _ _ (@jQ _ _ _ _ (@jJ _ _ _ _ _ _ _ _ QB (@jJ _ _ _ _ _ _ _ _ kH (@jJ _ _ _ _ _ _ _ _ qG (@jJ _ _ _ _ _ _ _ _ qG (pv 1) (pv 1)) jD) (@jJ _ _ _ _ _ _ _ _ qG jD (pv 1))) (pv 2)))) qP)
   (@jH _ _ _ _ _ (jZ (i:=3) sB.nd rfl (.inl rfl) (@jJ _ _ _ _ _ _ _ _ QB (jM (kN K) (pv 0) (@jJ _ _ _ _ _ _ _ _ QB (pv 1) (kP (qD K) (by rfl) T.z_len PySem.boot_len (jB (pv 0) jC)))) jD))
   (@jK _ _ _ (@jQ _ _ _ _ (@jJ _ _ _ _ _ _ _ _ QB (@jJ _ _ _ _ _ _ _ _ QB (@jJ _ _ _ _ _ _ _ _ kH (@jJ _ _ _ _ _ _ _ _ qG (pv 3) (@jJ _ _ _ _ _ _ _ _ kH (@jJ _ _ _ _ _ _ _ _ qG (pv 1) (pv 1)) jD)) (@jJ _ _ _ _ _ _ _ _ qG (pv 1) jD)) jD) (pv 2)))))),?_⟩
 try dsimp only [jX,jW]
 have hml:(ns.map V.int).length=ns.length:=List.length_map _
 obtain ⟨kk0,kk1⟩:=RY hk0 hk1
 have hm0:(0:Int)<m:=by omega
 refine (jA rfl (⟨s,jA rfl (⟨.inl hS,rfl,jA rfl (?_)⟩)⟩))
 by_cases h0:ns.length=0
 ·refine vD (by rw [hml,h0];rfl) ?_
  refine (jA rfl (jA rfl (j7 (⟨.inl ⟨by omega,by omega⟩,_,_,rfl,rfl,.inr ⟨by decide,by decide⟩,jA rfl (j7 (⟨.inl ⟨by decide,by decide⟩,_,_,rfl,rfl,jA rfl (j7 (⟨hm0,?_⟩))⟩))⟩))))
  exact q _ (Int.emod_nonneg _ (by omega)) (Int.emod_lt_of_pos _ hm0)
 refine qV (fun z=>h0 (by have:=V.int.inj z;rw [hml] at this;omega)) ?_
 have hl0:(0:Int)<(((ns.map V.int).length:Nat):Int):=by rw [hml];omega
 obtain ⟨j,ej,lj⟩:=uD (a:=k) hl0
 have lj:j<ns.length:=by rw [hml] at lj;omega
 refine (jA rfl (jA rfl (jA rfl (⟨s,jA rfl (⟨.inl hS,_,_,rfl,rfl,hl0,?_⟩)⟩))))
 try dsimp only
 rw [ej]
 refine ⟨s,_,_,_,rfl,rfl,hS,yL lj,_,_,rfl,rfl,(by show (0:Int)<1000003;decide),?_⟩
 have c0:=Int.emod_nonneg (ns.getD j 0) (by decide:(1000003:Int)≠0)
 have c1:=Int.emod_lt_of_pos (ns.getD j 0) (by decide:(0:Int)<1000003)
 try dsimp only
 generalize ns.getD j 0%1000003=cell at c0 c1 ⊢
 refine (jA rfl (jA rfl (jA rfl (j7 (⟨.inl ⟨by omega,by omega⟩,_,_,rfl,rfl,_,_,rfl,rfl,.inl ⟨by omega,by omega⟩,jA rfl (j7 (⟨.inr ⟨by decide,by decide⟩,_,_,rfl,rfl,_,_,rfl,rfl,(by show (0:Int)<2147483647;decide),jA rfl (j7 (⟨hm0,?_⟩))⟩))⟩)))))
 exact q _ (Int.emod_nonneg _ (by omega)) (Int.emod_lt_of_pos _ hm0)
theorem cI:FnScope ["script","k","unit","least","crest","berths","water"] ["script","k","unit"] (jG lW):=jU
include T in
theorem EK {f:Addr} {fd:FuncData} (F:Fun K "_law_reach" "_law_reach" lW f fd) (D__law_draw:Def P w K mg base 1 "_law_draw" ["script","k","many"] [] (ZW K)) (M_Reach:MkD P w K mg base 1 "Reach" cR ["self","name","least","crest","berths","water","target"] (nJ cR)):FnOk P w K mg base jP 3 f fd ["script","k","unit"] (wP K cR):=by
 refine F.ok2 cI fun vs H Q E h=>?_
 obtain ⟨s,ns,k,u,rfl,hS,h63,hk,hv0,hv1,q⟩:=h
 refine ⟨rfl,fun _ _ _ _ hr=>?_⟩
 refine ⟨_,(@jH _ _ _ _ _ (jZ (i:=3) cI.nd rfl (.inl rfl) (@jJ _ _ _ _ _ _ _ _ qG (jO D__law_draw hr rfl (@jB _ _ _ _ _ (pv 0) (@jB _ _ _ _ _ (@jJ _ _ _ _ _ _ _ _ kH (@jJ _ _ _ _ _ _ _ _ qG jD (pv 1)) jD) (@jB _ _ _ _ _ jD jC (by rfl)) (by rfl)) (by rfl))) (pv 2)))
   (@jH _ _ _ _ _ (jZ (i:=4) cI.nd rfl (.inl rfl) (@jJ _ _ _ _ _ _ _ _ kH (pv 3) (@jJ _ _ _ _ _ _ _ _ qG (jO D__law_draw hr rfl (@jB _ _ _ _ _ (pv 0) (@jB _ _ _ _ _ (@jJ _ _ _ _ _ _ _ _ kH (@jJ _ _ _ _ _ _ _ _ qG jD (pv 1)) jD) (@jB _ _ _ _ _ jD jC (by rfl)) (by rfl)) (by rfl))) (pv 2))))
   (@jH _ _ _ _ _ (jZ (i:=5) cI.nd rfl (.inl rfl) (jM (kN K) (qR (@jB _ _ _ _ _ jD (@jB _ _ _ _ _ jD (@jB _ _ _ _ _ jD (@jB _ _ _ _ _ jD jC (by rfl)) (by rfl)) (by rfl)) (by rfl))) (jO D__law_draw hr rfl (@jB _ _ _ _ _ (pv 0) (@jB _ _ _ _ _ (@jJ _ _ _ _ _ _ _ _ kH (@jJ _ _ _ _ _ _ _ _ qG jD (pv 1)) jD) (@jB _ _ _ _ _ jD jC (by rfl)) (by rfl)) (by rfl)))))
   (@jH _ _ _ _ _ (jZ (i:=6) cI.nd rfl (.inl rfl) (@jJ _ _ _ _ _ _ _ _ qG (jO D__law_draw hr rfl (@jB _ _ _ _ _ (pv 0) (@jB _ _ _ _ _ (@jJ _ _ _ _ _ _ _ _ kH (@jJ _ _ _ _ _ _ _ _ qG jD (pv 1)) jD) (@jB _ _ _ _ _ jD jC (by rfl)) (by rfl)) (by rfl))) (pv 2)))
   (@jK _ _ _ (@jQ _ _ _ _ (d9 M_Reach hr rfl (@jB _ _ _ _ _ (dI iD j5 (Z6 (pv 1)) gU) (@jB _ _ _ _ _ (pv 3) (@jB _ _ _ _ _ (pv 4) (@jB _ _ _ _ _ (pv 5) (@jB _ _ _ _ _ (pv 6) (@jB _ _ _ _ _ (@jJ _ _ _ _ _ _ _ _ zT (jO D__law_draw hr rfl (@jB _ _ _ _ _ (pv 0) (@jB _ _ _ _ _ (@jJ _ _ _ _ _ _ _ _ kH (@jJ _ _ _ _ _ _ _ _ qG jD (pv 1)) jD) (@jB _ _ _ _ _ (@jJ _ _ _ _ _ _ _ _ kH (pv 1) jD) jC (by rfl)) (by rfl)) (by rfl))) jD) jC (by rfl)) (by rfl)) (by rfl)) (by rfl)) (by rfl)) (by rfl))))))))),?_⟩
 try dsimp only [jX,jW]
 refine (jA rfl (jA rfl (j7 (⟨.inl ⟨by decide,by decide⟩,_,_,rfl,rfl,s,ns,_,jA rfl (⟨hS,h63,by omega,by omega,by omega,fun d1 d10 d11=>?_⟩)⟩))))
 obtain ⟨a1,a2⟩:=iI d10 (show d1≤2 by omega) hv0 hv1 (by decide)
 refine (jA rfl (j7 (⟨.inl ⟨by omega,by omega⟩,?_⟩)))
 try dsimp only
 generalize d1*u=le at a1 a2 ⊢
 refine (jA rfl (jA rfl (jA rfl (j7 (⟨.inl ⟨by decide,by decide⟩,_,_,rfl,rfl,s,ns,_,jA rfl (⟨hS,h63,by omega,by omega,by omega,fun d2 d20 d21=>?_⟩)⟩)))))
 obtain ⟨b1,b2⟩:=iI d20 (show d2≤8 by omega) hv0 hv1 (by decide)
 refine (jA rfl (j7 (⟨.inl ⟨by omega,by omega⟩,_,_,rfl,rfl,?_⟩)))
 try dsimp only
 generalize d2*u=cr at b1 b2 ⊢
 refine ⟨zz4,fun p2 hp2=>?_⟩
 have s2:=jI hp2 (.lst ([(1:Int),1,2,9].map V.int))
 have hS2:=s2.seq hS
 refine (jA rfl (jA rfl (j7 (⟨.inl ⟨by decide,by decide⟩,_,_,rfl,rfl,s,ns,_,jA rfl (⟨hS2,h63,by omega,by omega,by omega,fun d6 d60 d61=>?_⟩)⟩))))
 obtain ⟨be,hbe,hat⟩:=pP [(1:Int),1,2,9] d60 d61
 refine (qH (SqL.of jE) hat (?_))
 have hbe':1≤be∧be≤9:=by
  simp only [List.mem_cons,List.mem_nil_iff,or_false] at hbe
  rcases hbe with rfl|rfl|rfl|rfl<;>decide
 refine (jA rfl (jA rfl (j7 (⟨.inl ⟨by decide,by decide⟩,_,_,rfl,rfl,s,ns,_,jA rfl (⟨hS2,h63,by omega,by omega,by omega,fun d4 d40 d41=>?_⟩)⟩))))
 obtain ⟨c1,c2⟩:=iI d40 (show d4≤9 by omega) hv0 hv1 (by decide)
 refine (jA rfl (j7 (⟨.inl ⟨by omega,by omega⟩,?_⟩)))
 try dsimp only
 generalize d4*u=wa at c1 c2 ⊢
 refine (jA rfl (jA rfl (jA rfl (⟨(show ("mere":Str).length≤sizeLine by decide +kernel),jA rfl (jA rfl (jA rfl (jA rfl (?_))))⟩))))
 refine (jA rfl (jA rfl (j7 (⟨.inl ⟨by decide,by decide⟩,_,_,rfl,rfl,jA rfl (j7 (⟨s,ns,_,jA rfl (⟨hS2,h63,by omega,by omega,by omega,fun d7 d70 d71=>?_⟩)⟩))⟩))))
 refine ⟨_,_,rfl,rfl,?_⟩
 intro x dx nx ndx nex
 refine ⟨x,dx,_,_,_,_,_,jA rfl (⟨jE,fun H' fs kp hx hfl=>⟨rfl,?_⟩⟩)⟩
 exact q x ⟨_,le,le+cr,be,wa,d7 - 1⟩ H' ⟨a1,by show le≤le+cr;omega,by show le+cr≤999999999999;omega,hbe'.1,hbe'.2,c1,by show wa≤999999999999;omega,by show -1≤d7 - 1;omega,by show d7 - 1<(k:Int);omega⟩ (s2.trans (dJ nx (dR nx ndx) kp)) (s2.free nx) ⟨dx,fs,hx,hfl⟩
theorem Z9:FnScope ["script","k","reaches","unit","high","low","room","part","made"] ["script","k","reaches","unit"] (jG lV):=jU
include T in
theorem EJ {f:Addr} {fd:FuncData} (F:Fun K "_law_lock" "_law_lock" lV f fd) (D__law_draw:Def P w K mg base 1 "_law_draw" ["script","k","many"] [] (ZW K)) (M_BasinLock:MkD P w K mg base 2 "BasinLock" cB ["self","name","high","low","room","side"] (bB (jF cP cB cU) .basin)) (M_PumpLock:MkD P w K mg base 2 "PumpLock" cU ["self","name","high","low","room","lift"] (bB (jF cP cB cU) .pump)) (M_PlainLock:MkD P w K mg base 1 "PlainLock" cP ["self","name","high","low","room"] (bC (jF cP cB cU))):FnOk P w K mg base jP 4 f fd ["script","k","reaches","unit"] (AA K (jF cP cB cU)):=by
 refine F.ok2 Z9 fun vs H Q E h=>?_
 obtain ⟨s,ns,k,n,u,rfl,hS,h63,hk,hn2,hn8,hv0,hv1,q⟩:=h
 refine ⟨rfl,fun _ _ _ _ hr=>?_⟩
 refine ⟨_,(@jH _ _ _ _ _ (jZ (i:=4) Z9.nd rfl (.inl rfl) (@jJ _ _ _ _ _ _ _ _ kH jD (jO D__law_draw hr rfl (@jB _ _ _ _ _ (pv 0) (@jB _ _ _ _ _ (@jJ _ _ _ _ _ _ _ _ kH jD (@jJ _ _ _ _ _ _ _ _ qG jD (pv 1))) (@jB _ _ _ _ _ (@jJ _ _ _ _ _ _ _ _ zT (pv 2) jD) jC (by rfl)) (by rfl)) (by rfl)))))
   (@jH _ _ _ _ _ (jZ (i:=5) Z9.nd rfl (.inl rfl) (jO D__law_draw hr rfl (@jB _ _ _ _ _ (pv 0) (@jB _ _ _ _ _ (@jJ _ _ _ _ _ _ _ _ kH jD (@jJ _ _ _ _ _ _ _ _ qG jD (pv 1))) (@jB _ _ _ _ _ (pv 4) jC (by rfl)) (by rfl)) (by rfl))))
   (@jH _ _ _ _ _ (jZ (i:=6) Z9.nd rfl (.inl rfl) (@jJ _ _ _ _ _ _ _ _ qG (@jJ _ _ _ _ _ _ _ _ kH jD (jO D__law_draw hr rfl (@jB _ _ _ _ _ (pv 0) (@jB _ _ _ _ _ (@jJ _ _ _ _ _ _ _ _ kH jD (@jJ _ _ _ _ _ _ _ _ qG jD (pv 1))) (@jB _ _ _ _ _ jD jC (by rfl)) (by rfl)) (by rfl)))) (pv 3)))
   (@jH _ _ _ _ _ (jZ (i:=7) Z9.nd rfl (.inl rfl) (jM (kN K) (qR (@jB _ _ _ _ _ jD (@jB _ _ _ _ _ (pv 6) (@jB _ _ _ _ _ (@jJ _ _ _ _ _ _ _ _ kH jD (@jJ _ _ _ _ _ _ _ _ o9 (pv 6) jD)) jC (by rfl)) (by rfl)) (by rfl))) (jO D__law_draw hr rfl (@jB _ _ _ _ _ (pv 0) (@jB _ _ _ _ _ (@jJ _ _ _ _ _ _ _ _ kH jD (@jJ _ _ _ _ _ _ _ _ qG jD (pv 1))) (@jB _ _ _ _ _ jD jC (by rfl)) (by rfl)) (by rfl)))))
   (@jH _ _ _ _ _ (jZ (i:=8) Z9.nd rfl (.inl rfl) (jO D__law_draw hr rfl (@jB _ _ _ _ _ (pv 0) (@jB _ _ _ _ _ (@jJ _ _ _ _ _ _ _ _ kH jD (@jJ _ _ _ _ _ _ _ _ qG jD (pv 1))) (@jB _ _ _ _ _ jD jC (by rfl)) (by rfl)) (by rfl))))
   (@jH _ _ _ _ _ (qQ (kO qM (pv 8) jD) (@jK _ _ _ (@jQ _ _ _ _ (d9 M_BasinLock hr rfl (@jB _ _ _ _ _ (@jJ _ _ _ _ _ _ _ _ nV j5 (dI iD j5 (Z6 (pv 1)) gU)) (@jB _ _ _ _ _ (pv 4) (@jB _ _ _ _ _ (pv 5) (@jB _ _ _ _ _ (pv 6) (@jB _ _ _ _ _ (pv 7) jC (by rfl)) (by rfl)) (by rfl)) (by rfl)) (by rfl))))) qP)
   (@jH _ _ _ _ _ (qQ (kO qM (pv 8) jD) (@jK _ _ _ (@jQ _ _ _ _ (d9 M_PumpLock hr rfl (@jB _ _ _ _ _ (@jJ _ _ _ _ _ _ _ _ nV j5 (dI iD j5 (Z6 (pv 1)) gU)) (@jB _ _ _ _ _ (pv 4) (@jB _ _ _ _ _ (pv 5) (@jB _ _ _ _ _ (pv 6) (@jB _ _ _ _ _ (pv 7) jC (by rfl)) (by rfl)) (by rfl)) (by rfl)) (by rfl))))) qP)
   (@jK _ _ _ (@jQ _ _ _ _ (d9 M_PlainLock hr rfl (@jB _ _ _ _ _ (@jJ _ _ _ _ _ _ _ _ nV j5 (dI iD j5 (Z6 (pv 1)) gU)) (@jB _ _ _ _ _ (pv 4) (@jB _ _ _ _ _ (pv 5) (@jB _ _ _ _ _ (pv 6) jC (by rfl)) (by rfl)) (by rfl)) (by rfl)))))))))))),?_⟩
 try dsimp only [jX,jW]
 refine (jA rfl (jA rfl (j7 (⟨.inl ⟨by decide,by decide⟩,_,_,rfl,rfl,jA rfl (j7 (⟨s,ns,_,jA rfl (⟨hS,h63,by omega,by omega,by omega,fun h1 h10 h11=>?_⟩)⟩))⟩))))
 refine ⟨_,_,rfl,rfl,?_⟩
 refine (jA rfl (jA rfl (j7 (⟨.inl ⟨by decide,by decide⟩,_,_,rfl,rfl,jA rfl (⟨s,ns,_,jA rfl (⟨hS,h63,by omega,by omega,by omega,fun lo lo0 lo1=>?_⟩)⟩)⟩))))
 refine (jA rfl (jA rfl (j7 (⟨.inl ⟨by decide,by decide⟩,_,_,rfl,rfl,s,ns,_,jA rfl (⟨hS,h63,by omega,by omega,by omega,fun d2 d20 d21=>?_⟩)⟩))))
 obtain ⟨b1,b2⟩:=iI (a:=1+d2) (by omega) (show 1+d2≤3 by omega) hv0 hv1 (by decide)
 refine ⟨_,_,rfl,rfl,jA rfl (j7 (⟨.inl ⟨by omega,by omega⟩,?_⟩))⟩
 have b3:1≤(1+d2)*u:=by
  have:=Int.mul_le_mul (show (1:Int)≤1+d2 by omega) hv0 (by decide) (by omega)
  omega
 try dsimp only
 have ro1:1≤(1+d2)*u:=b3
 have ro2:(1+d2)*u≤999999999999:=by omega
 generalize (1+d2)*u=ro at ro1 ro2 ⊢
 refine (jA rfl (jA rfl (j7 (⟨⟨by decide,by decide⟩,_,_,rfl,rfl,zz3,fun p2 hp2=>?_⟩))))
 have s2:=jI hp2 (.lst ([(1:Int),ro,1+ro / 2].map V.int))
 have hS2:=s2.seq hS
 refine (jA rfl (jA rfl (j7 (⟨.inl ⟨by decide,by decide⟩,_,_,rfl,rfl,s,ns,_,jA rfl (⟨hS2,h63,by omega,by omega,by omega,fun d4 d40 d41=>?_⟩)⟩))))
 obtain ⟨pa,hpa,hat⟩:=pP [(1:Int),ro,1+ro / 2] d40 d41
 refine (qH (SqL.of jE) hat (?_))
 have hpa:1≤pa∧pa≤ro:=by
  simp only [List.mem_cons,List.mem_nil_iff,or_false] at hpa
  rcases hpa with rfl|rfl|rfl<;>omega
 refine (jA rfl (jA rfl (j7 (⟨.inl ⟨by decide,by decide⟩,_,_,rfl,rfl,s,ns,_,jA rfl (⟨hS2,h63,by omega,by omega,by omega,fun d5 d50 d51=>?_⟩)⟩))))
 refine ⟨_,rfl,rfl,jA rfl (bV (fun _=>?_) (fun _=>?_))⟩
 ·refine (jA rfl (jA rfl (jA rfl (⟨(show ("ate":Str).length≤sizeLine by decide +kernel),_,_,rfl,rfl,Nat.le_trans (Nat.add_le_add_left (Txt.slice_le _ _ _) _) (show ("g":Str).length+("ate":Str).length≤sizeLine by decide +kernel),jA rfl (jA rfl (jA rfl (jA rfl (?_))))⟩))))
  intro x dx nx ndx nex
  refine ⟨x,dx,_,_,_,_,jA rfl (⟨jE,fun H' kp hx=>⟨rfl,?_⟩⟩)⟩
  refine q x ⟨_,1+h1,lo,ro,.basin,pa⟩ H' ⟨by show 1≤1+h1;omega,by show 1+h1<(n:Int);omega,lo0,by show lo<1+h1;omega,ro1,ro2,(fun z=>nomatch z),fun _=>hpa⟩ (s2.trans (dJ nx (dR nx ndx) kp)) (s2.free nx) ⟨x,rfl,dx,hx⟩
 refine ⟨_,rfl,rfl,jA rfl (bV (fun _=>?_) (fun _=>?_))⟩
 ·refine (jA rfl (jA rfl (jA rfl (⟨(show ("ate":Str).length≤sizeLine by decide +kernel),_,_,rfl,rfl,Nat.le_trans (Nat.add_le_add_left (Txt.slice_le _ _ _) _) (show ("g":Str).length+("ate":Str).length≤sizeLine by decide +kernel),jA rfl (jA rfl (jA rfl (jA rfl (?_))))⟩))))
  intro x dx nx ndx nex
  refine ⟨x,dx,_,_,_,_,jA rfl (⟨jE,fun H' kp hx=>⟨rfl,?_⟩⟩)⟩
  refine q x ⟨_,1+h1,lo,ro,.pump,pa⟩ H' ⟨by show 1≤1+h1;omega,by show 1+h1<(n:Int);omega,lo0,by show lo<1+h1;omega,ro1,ro2,(fun z=>nomatch z),fun _=>hpa⟩ (s2.trans (dJ nx (dR nx ndx) kp)) (s2.free nx) ⟨x,rfl,dx,hx⟩
 refine (jA rfl (jA rfl (jA rfl (⟨(show ("ate":Str).length≤sizeLine by decide +kernel),_,_,rfl,rfl,Nat.le_trans (Nat.add_le_add_left (Txt.slice_le _ _ _) _) (show ("g":Str).length+("ate":Str).length≤sizeLine by decide +kernel),jA rfl (jA rfl (jA rfl (?_)))⟩))))
 intro x dx nx ndx nex
 refine ⟨.plain,x,dx,_,_,_,jA rfl (⟨jE,fun H' kp hx=>⟨rfl,?_⟩⟩)⟩
 refine q x ⟨_,1+h1,lo,ro,.plain,0⟩ H' ⟨by show 1≤1+h1;omega,by show 1+h1<(n:Int);omega,lo0,by show lo<1+h1;omega,ro1,ro2,fun _=>rfl,fun z=>absurd rfl z⟩ (s2.trans (dJ nx (dR nx ndx) kp)) (s2.free nx) ⟨x,rfl,dx,hx⟩
theorem QQ:FnScope ["script","unit","many","reaches","locks","nights","r"] ["script"] (jG cG):=jU
include T in
theorem EH {f:Addr} {fd:FuncData} (F:Fun K "_law_canal" "_law_canal" cG f fd) (D__law_draw:Def P w K mg base 1 "_law_draw" ["script","k","many"] [] (ZW K)) (D__law_reach:Def P w K mg base 3 "_law_reach" ["script","k","unit"] [] (wP K cR)) (D__law_lock:Def P w K mg base 4 "_law_lock" ["script","k","reaches","unit"] [] (AA K (jF cP cB cU))) (M_Canal:MkD P w K mg base 1 "Canal" cN ["self","reaches","locks","nights"] (nK (jF cP cB cU) cR cN)):FnOk P w K mg base jP 6 f fd ["script"] (uK K (jF cP cB cU) cR cN):=by
 refine F.ok2 QQ fun vs H Q E h=>?_
 obtain ⟨s,ns,rfl,hS,h63,q⟩:=h
 refine ⟨rfl,fun _ _ _ _ hr=>?_⟩
 refine ⟨_,(@jH _ _ _ _ _ (jZ (i:=1) QQ.nd rfl (.inr rfl) (@jJ _ _ _ _ _ _ _ _ kH jD (@jJ _ _ _ _ _ _ _ _ qG (jO D__law_draw hr rfl (@jB _ _ _ _ _ (pv 0) (@jB _ _ _ _ _ jD (@jB _ _ _ _ _ jD jC (by rfl)) (by rfl)) (by rfl))) (@jJ _ _ _ _ _ _ _ _ kH (jO D__law_draw hr rfl (@jB _ _ _ _ _ (pv 0) (@jB _ _ _ _ _ jD (@jB _ _ _ _ _ (@jJ _ _ _ _ _ _ _ _ PD jD jD) jC (by rfl)) (by rfl)) (by rfl))) jD))))
   (@jH _ _ _ _ _ (jZ (i:=2) QQ.nd rfl (.inr rfl) (@jJ _ _ _ _ _ _ _ _ kH jD (jO D__law_draw hr rfl (@jB _ _ _ _ _ (pv 0) (@jB _ _ _ _ _ jD (@jB _ _ _ _ _ jD jC (by rfl)) (by rfl)) (by rfl)))))
   (@jH _ _ _ _ _ (zN (i:=3) ["k","script","unit"] (kZ 1 [0,1]) QQ.nd rfl (.inl rfl) rfl (qO (jG cG)) (cps 1 [0,1]) (zO (by rfl) T.z_range (jB (pv 2) jC)) (fun _ _ _ _ _=>(kC (i:=0) (show List.Nodup (["k","script","unit"]:List Str) from by decide +kernel) rfl (.inl rfl))) (fun _ _ _ _ _=>vY) (fun _ _ _ _ _=>(jO D__law_reach hr rfl (@jB _ _ _ _ _ (pv 1) (@jB _ _ _ _ _ (pv 0) (@jB _ _ _ _ _ (pv 2) jC (by rfl)) (by rfl)) (by rfl)))))
   (@jH _ _ _ _ _ (zN (i:=4) ["k","script","many","unit"] (kZ 1 [0,2,1]) QQ.nd rfl (.inl rfl) rfl (qO (jG cG)) (cps 1 [0,2,1]) (zO (by rfl) T.z_range (jB (@jJ _ _ _ _ _ _ _ _ kH jD (jO D__law_draw hr rfl (@jB _ _ _ _ _ (pv 0) (@jB _ _ _ _ _ jD (@jB _ _ _ _ _ jD jC (by rfl)) (by rfl)) (by rfl)))) jC)) (fun _ _ _ _ _=>(kC (i:=0) (show List.Nodup (["k","script","many","unit"]:List Str) from by decide +kernel) rfl (.inl rfl))) (fun _ _ _ _ _=>vY) (fun _ _ _ _ _=>(jO D__law_lock hr rfl (@jB _ _ _ _ _ (pv 1) (@jB _ _ _ _ _ (pv 0) (@jB _ _ _ _ _ (pv 2) (@jB _ _ _ _ _ (pv 3) jC (by rfl)) (by rfl)) (by rfl)) (by rfl)))))
   (@jH _ _ _ _ _ (jZ (i:=5) QQ.nd rfl (.inl rfl) (qR jC))
   (o6 (qQ (kO qM (jO D__law_draw hr rfl (@jB _ _ _ _ _ (pv 0) (@jB _ _ _ _ _ jD (@jB _ _ _ _ _ jD jC (by rfl)) (by rfl)) (by rfl))) jD) (@jH _ _ _ _ _ (zS PassesOwn.never rfl (zO (by rfl) T.z_range (jB (pv 2) jC)) (kC (i:=6) QQ.nd rfl (.inl rfl))
    (@jK _ _ _ (QP (ZZ PySem.F.plainAttrs_list PySem.F.slot_list_append PySem.F.type_list_append ZM (pv 5) (jB (kQ (jB (@jJ _ _ _ _ _ _ _ _ qG (jO D__law_draw hr rfl (@jB _ _ _ _ _ (pv 0) (@jB _ _ _ _ _ (@jJ _ _ _ _ _ _ _ _ kH jD (pv 6)) (@jB _ _ _ _ _ jD jC (by rfl)) (by rfl)) (by rfl))) (pv 1)) (jB (@jJ _ _ _ _ _ _ _ _ qG (jO D__law_draw hr rfl (@jB _ _ _ _ _ (pv 0) (@jB _ _ _ _ _ (@jJ _ _ _ _ _ _ _ _ kH jD (pv 6)) (@jB _ _ _ _ _ jD jC (by rfl)) (by rfl)) (by rfl))) (pv 1)) jC))) jC)))))
   (@jK _ _ _ (jZ (i:=5) QQ.nd rfl (.inl rfl) (qR (jB (pv 5) jC))))) qP)
   (@jK _ _ _ (@jQ _ _ _ _ (d9 M_Canal hr rfl (@jB _ _ _ _ _ (pv 3) (@jB _ _ _ _ _ (pv 4) (@jB _ _ _ _ _ (pv 5) jC (by rfl)) (by rfl)) (by rfl))))))))))),?_⟩
 try dsimp only [jX,jW]
 have e9:(10:Int) ^ Int.toNat 9=1000000000:=by decide +kernel
 refine (jA rfl (⟨s,ns,_,jA rfl (⟨hS,h63,by decide,by decide,by decide,fun a a0 a1=>?_⟩)⟩))
 refine (jA rfl (j7 (⟨⟨by decide,by decide,by decide⟩,s,ns,_,jA rfl (⟨hS,h63,by decide,by decide,(show (1:Int)≤10 ^ Int.toNat 9 by decide +kernel),fun b b0 b1=>?_⟩)⟩)))
 rw [e9] at b1
 obtain ⟨u,hu2,hv0,hv1⟩:∃u:Int,u=1+a*(b+1)∧1≤u∧u≤10000000000:=by
  have h1:=Int.mul_le_mul (show a≤4 by omega) (show b+1≤1000000000 by omega) (by omega) (by decide)
  have h2:=Int.mul_nonneg a0 (show (0:Int)≤b+1 by omega)
  exact Exists.intro (1+a*(b+1)) (And.intro rfl (And.intro (by omega) (by omega)))
 refine ⟨_,_,rfl,rfl,_,_,rfl,rfl,.inl ⟨by omega,by omega⟩,_,_,rfl,rfl,?_⟩
 try dsimp only
 rw [← hu2]
 refine (jA rfl (⟨s,ns,_,jA rfl (⟨hS,h63,by omega,by omega,by omega,fun m0 m00 m01=>?_⟩)⟩))
 refine ⟨_,_,rfl,rfl,?_⟩
 obtain ⟨n,hn⟩:∃n:Nat,2+m0=(n:Int):=⟨(2+m0).toNat,by omega⟩
 try dsimp only
 rw [hn]
 have hn2:2≤n:=by omega
 have hn8:n≤8:=by omega
 refine (jA rfl (jA rfl (⟨by omega,by omega,fun rl hrl0=>?_⟩)))
 refine QS (n:=((n:Nat):Int).toNat) (caps:=[some (.ref s),some (.int u)]) (fun i ys Hi=>∃R:List RC,AllAt (RcO cR Hi) ys R∧R.length=i∧∀(j:Nat) (r:RC),R[j]?=some r→r.good j) hrl0 ⟨[],AllAt.nil,rfl,fun j r hj=>by cases hj⟩ ?_ ?_
 ·rintro i ys Hi hi hle sm hY ⟨R,hR,hRl,hRg⟩
  rw [Int.toNat_natCast] at hi
  rw [Int.zero_add]
  refine v0 (kT (jA rfl (jA rfl (jA rfl ((vW s ns i u (Z5 rfl (sm.seq hS) h63 (by omega) hv0 hv1 (fun x r H' hg s' hx0 hx=>v9 hrl0 sm hY hle (by omega) s' ?_))))))))
  refine ⟨R++[r],((hR.mono (RcO.same s')).snoc (v:=.ref x) (x:=r) ⟨x,rfl,hx⟩).mono (RcO.keep ((Keep.refl rl H').upd _) (s' _ _ hY)),by rw [List.length_append,hRl];rfl,fun j r' hj=>?_⟩
  by_cases hl:j<R.length
  ·rw [List.getElem?_append_left hl] at hj;exact hRg j r' hj
  ·rw [List.getElem?_append_right (by omega)] at hj
   have hz:j - R.length=0:=by
    have:=(List.getElem?_eq_some_iff.mp hj).1
    rw [List.length_singleton] at this
    omega
   rw [hz] at hj
   cases hj
   rw [show j=i by omega]
   exact hg
 rintro rs H1 s1 hrl hle1 ⟨R,hR,hRl,hRg⟩
 rw [Int.toNat_natCast] at hRl
 refine (jA rfl (⟨s,ns,_,jA rfl (⟨s1.seq hS,h63,by omega,by omega,by omega,fun m1 m10 m11=>?_⟩)⟩))
 refine ⟨_,_,rfl,rfl,?_⟩
 obtain ⟨m,hm⟩:∃m:Nat,1+m1=(m:Int):=⟨(1+m1).toNat,by omega⟩
 try dsimp only
 rw [hm]
 refine (jA rfl (⟨by omega,by omega,fun ll hll0=>?_⟩))
 refine QS (n:=((m:Nat):Int).toNat) (caps:=[some (.ref s),some (.int (n:Int)),some (.int u)]) (fun i ys Hi=>∃L:List LC,AllAt (LkO (jF cP cB cU) Hi) ys L∧L.length=i∧∀l∈L,l.good n) hll0 ⟨[],AllAt.nil,rfl,fun l hl=>by cases hl⟩ ?_ ?_
 ·rintro i ys Hi hi hle sm hY ⟨L,hL,hLl,hLg⟩
  rw [Int.toNat_natCast] at hi
  rw [Int.zero_add]
  refine v0 (kT (jA rfl (jA rfl (jA rfl (jA rfl ((zM s ns i n u (rV rfl ((s1.trans sm).seq hS) h63 (by omega) hn2 hn8 hv0 hv1 (fun x l H' hg s' hx0 hx=>v9 hll0 sm hY hle (by omega) s' ?_)))))))))
  refine ⟨L++[l],((hL.mono (LkO.same s')).snoc (v:=.ref x) (x:=l) hx).mono (LkO.keep ((Keep.refl ll H').upd _) (s' _ _ hY)),by rw [List.length_append,hLl];rfl,fun l' hl'=>?_⟩
  rcases List.mem_append.mp hl' with hl'|hl'
  ·exact hLg l' hl'
  ·rw [List.mem_singleton.mp hl'];exact hg
 rintro ls H2 s2 hll hle2 ⟨L,hL,hLl,hLg⟩
 rw [Int.toNat_natCast] at hLl
 have s12:=s1.trans s2
 refine ⟨zz0,fun n0 hn00=>?_⟩
 have s3:=jI hn00 (.lst [])
 have hn0:upd H2 n0 (.lst []) n0=_:=jE
 generalize upd H2 n0 (.lst [])=H3 at s3 hn0 ⊢
 have s13:=s12.trans s3
 refine ⟨fun σ' H'=>∃(nl:Addr) (nv:List V) (N:List (List (Int×Int))) (c:Option V),σ'=[some (.ref s),some (.int u),some (.int (n:Int)),some (.ref rl),some (.ref ll),some (.ref nl),c]∧H' nl=some (.lst nv)∧AllAt (NAt [] H') nv N∧N.length≤1∧(∀p∈N,p.length=n)∧Same H2 H',?_,?_⟩
 ·refine (jA rfl (⟨s,ns,_,jA rfl (⟨s13.seq hS,h63,by omega,by omega,by omega,fun m2 m20 m21=>?_⟩)⟩))
  refine ⟨rfl,jA rfl (bV (fun _=>?_) (fun _=>?_))⟩
  ·refine (jA rfl (jA rfl (⟨by omega,by omega,gG (n:=((n:Nat):Int).toNat) (fun i σ Hi=>∃(us:List V) (p:List (Int×Int)) (c:Option V),σ=[some (.ref s),some (.int u),some (.int (n:Int)),some (.ref rl),some (.ref ll),some (.ref n0),c]∧Hi n0=some (.lst us)∧AllAt (QAt Hi) us p∧p.length=i∧Same H2 Hi) ⟨[],[],none,rfl,hn0,AllAt.nil,rfl,s3⟩ ?_ ?_⟩)))
   ·rintro i σ Hi hi ⟨us,p,c,rfl,hl,hA,hp,sm⟩
    rw [Int.toNat_natCast] at hi
    rw [Int.zero_add]
    have hSi:=(s12.trans sm).seq hS
    refine (jA rfl (⟨.inl ⟨rfl,_,SqL.of hl⟩,jA rfl (jA rfl (j7 (⟨s,ns,_,jA rfl (⟨hSi,h63,by omega,by omega,by omega,fun d1 d10 d11=>?_⟩)⟩)))⟩))
    refine (jA rfl (j7 (⟨.inl ⟨by omega,by omega⟩,?_⟩)))
    refine (jA rfl (jA rfl (j7 (⟨s,ns,_,jA rfl (⟨hSi,h63,by omega,by omega,by omega,fun d2 d20 d21=>?_⟩)⟩))))
    refine (jA rfl (j7 (⟨.inl ⟨by omega,by omega⟩,zz2,fun tp htp=>?_⟩)))
    have v:=jI htp (.tup [V.int (d1*u),V.int (d2*u)])
    refine ⟨n0,_,_,rfl,rfl,v _ _ hl,vX (by rw [hA.1];omega),?_⟩
    refine ⟨us++[.ref tp],p++[(d1*u,d2*u)],jA rfl (⟨jE,?_,by rw [List.length_append,hp];rfl,qA hn00 (sm.trans v)⟩)⟩
    exact ((hA.mono (QAt.same v)).snoc (v:=.ref tp) (x:=(d1*u,d2*u)) ⟨tp,rfl,jE⟩).mono (QAt.put (v _ _ hl))
   rintro σ Hi ⟨us,p,c,rfl,hl,hA,hp,sm⟩
   rw [Int.toNat_natCast] at hp
   refine (jA rfl (⟨zz1,fun nl hnl0=>?_⟩))
   have v:=jI hnl0 (.lst [V.ref n0])
   exact (vW nl _ ([p]) c (yY rfl jE (AllAt.nil.snoc ⟨n0,us,rfl,v _ _ hl,hA.mono (QAt.same v),by simp⟩) (Nat.le_refl _) (fun p' hp'=>by rw [List.mem_singleton.mp hp'];exact hp) (sm.trans v)))
  ·exact (vW n0 ([]) ([]) none (yY rfl hn0 AllAt.nil (Nat.zero_le _) (fun p hp=>by cases hp) s3))
 rintro σ' H4 ⟨nl,nv,N,c,rfl,hnl,hN,hN1,hNg,s4⟩
 have hNl:=hN.1
 refine (jA rfl (jA rfl (jA rfl (?_))))
 intro x dx nx ndx nex
 have v:=fun o o'=>dR (o:=o) (o':=o') nx ndx
 refine (eG x dx rl ll _ rs ls R L N (ZF rfl jE (v _ _ _ _ (s4 _ _ (s2 _ _ hrl))) (v _ _ _ _ (s4 _ _ hll)) ((hR.mono (RcO.same (s2.trans s4))).mono (RcO.same (v _ _))) ((hL.mono (LkO.same s4)).mono (LkO.same (v _ _))) (.inr ⟨nl,nv,rfl,v _ _ _ _ hnl,hN.mono (NAt.same (v _ _)),by omega⟩) (fun H' kp hC=>⟨rfl,?_⟩)))
 have w:=s12.trans s4
 exact q x R L N H' ⟨by omega,by omega,by omega,by omega,hRg,fun i l hl=>by rw [hRl];exact hLg l (List.mem_of_getElem? hl),fun p hp=>by rw [hRl];exact hNg p hp⟩ (by omega) (by omega) (by omega) (w.trans (dJ nx (v _ _) kp)) (w.free nx) (hC [] (fun d hd=>nomatch hd))
theorem JL:FnScope ["script","k","canal","lock","at","start","steps","j","some","step"] ["script","k","canal"] (jG cH):=jU
include T in
theorem EN {f:Addr} {fd:FuncData} (F:Fun K "_law_way" "_law_way" cH f fd) (D__law_draw:Def P w K mg base 1 "_law_draw" ["script","k","many"] [] (ZW K)):FnOk P w K mg base jP 2 f fd ["script","k","canal"] (x6 K (jF cP cB cU) cR cN):=by
 refine F.ok2 JL fun vs H Q E h=>?_
 obtain ⟨s,x,ns,k,D,R,L,N,rfl,hS,h63,hk,hc,hdr,b1,q⟩:=h
 refine ⟨rfl,fun _ _ _ _ hr=>?_⟩
 refine ⟨_,(@jH _ _ _ _ _ (jZ (i:=3) JL.nd rfl (.inl rfl) (jM (kN K) (j6 K (pv 2) rfl) (jO D__law_draw hr rfl (@jB _ _ _ _ _ (pv 0) (@jB _ _ _ _ _ (@jJ _ _ _ _ _ _ _ _ kH jD (@jJ _ _ _ _ _ _ _ _ qG jD (pv 1))) (@jB _ _ _ _ _ (kP (qD K) (by rfl) T.z_len PySem.boot_len (jB (j6 K (pv 2) rfl) jC)) jC (by rfl)) (by rfl)) (by rfl)))))
   (@jH _ _ _ _ _ (jZ (i:=4) JL.nd rfl (.inr rfl) (jM (kN K) (qR (jB (j6 K (pv 3) rfl) (jB (j6 K (pv 3) rfl) jC))) (jO D__law_draw hr rfl (@jB _ _ _ _ _ (pv 0) (@jB _ _ _ _ _ (@jJ _ _ _ _ _ _ _ _ kH jD (@jJ _ _ _ _ _ _ _ _ qG jD (pv 1))) (@jB _ _ _ _ _ jD jC (by rfl)) (by rfl)) (by rfl)))))
   (@jH _ _ _ _ _ (jZ (i:=5) JL.nd rfl (.inl rfl) (pv 4))
   (@jH _ _ _ _ _ (jZ (i:=6) JL.nd rfl (.inl rfl) (qR jC))
   (@jH _ _ _ _ _ (zS PassesOwn.never rfl (zO (by rfl) T.z_range (jB (@jJ _ _ _ _ _ _ _ _ kH jD (jO D__law_draw hr rfl (@jB _ _ _ _ _ (pv 0) (@jB _ _ _ _ _ (@jJ _ _ _ _ _ _ _ _ kH jD (@jJ _ _ _ _ _ _ _ _ qG jD (pv 1))) (@jB _ _ _ _ _ jD jC (by rfl)) (by rfl)) (by rfl)))) jC)) (kC (i:=7) JL.nd rfl (.inl rfl))
    (@jH _ _ _ _ _ (zN (i:=8) ["n","at","canal"] (kZ 1 [4,2]) JL.nd rfl (.inl rfl) rfl (qO (jG cH)) (cps 1 [4,2]) (zO (by rfl) T.z_range (jB (kP (qD K) (by rfl) T.z_len PySem.boot_len (jB (j6 K (pv 2) rfl) jC)) jC)) (fun _ _ _ _ _=>(kC (i:=0) (show List.Nodup (["n","at","canal"]:List Str) from by decide +kernel) rfl (.inl rfl))) (fun _ _ _ _ _=>(JP (kO qM (j6 K (jM (kN K) (j6 K (pv 2) rfl) (pv 0)) rfl) (pv 1)))) (fun _ _ _ _ _=>(kQ (jB (pv 0) (jB j5 jC)))))
   (@jH _ _ _ _ _ (jZ (i:=8) JL.nd rfl (.inl rfl) (@jJ _ _ _ _ _ _ _ _ QZ (pv 8) (yK ["n","at","canal"] (kZ 1 [4,2]) rfl (qO (jG cH)) (cps 1 [4,2]) (zO (by rfl) T.z_range (jB (kP (qD K) (by rfl) T.z_len PySem.boot_len (jB (j6 K (pv 2) rfl) jC)) jC)) (fun _ _ _ _ _=>(kC (i:=0) (show List.Nodup (["n","at","canal"]:List Str) from by decide +kernel) rfl (.inl rfl))) (fun _ _ _ _ _=>(JP (kO qM (j6 K (jM (kN K) (j6 K (pv 2) rfl) (pv 0)) rfl) (pv 1)))) (fun _ _ _ _ _=>(kQ (jB (pv 0) (jB j5 jC)))))))
   (@jH _ _ _ _ _ (jZ (i:=9) JL.nd rfl (.inl rfl) (jM (kN K) (pv 8) (jO D__law_draw hr rfl (@jB _ _ _ _ _ (pv 0) (@jB _ _ _ _ _ (@jJ _ _ _ _ _ _ _ _ kH (@jJ _ _ _ _ _ _ _ _ kH jD (@jJ _ _ _ _ _ _ _ _ qG jD (pv 1))) (pv 7)) (@jB _ _ _ _ _ (kP (qD K) (by rfl) T.z_len PySem.boot_len (jB (pv 8) jC)) jC (by rfl)) (by rfl)) (by rfl)))))
   (@jH _ _ _ _ _ (QP (ZZ PySem.F.plainAttrs_list PySem.F.slot_list_append PySem.F.type_list_append ZM (pv 6) (jB (pv 9) jC)))
   (@jK _ _ _ (jZ (i:=4) JL.nd rfl (.inr rfl) (jM (kN K) (qR (jB (j6 K (jM (kN K) (j6 K (pv 2) rfl) (jM (jT K) (pv 9) jD)) rfl) (jB (j6 K (jM (kN K) (j6 K (pv 2) rfl) (jM (jT K) (pv 9) jD)) rfl) jC))) (yA MG (by rfl) T.z_int PyProof.Rows.boot_int (jB (QN qM (jM (jT K) (pv 9) jD) j5) jC))))))))))
   (@jK _ _ _ (@jQ _ _ _ _ (kQ (jB (pv 5) (jB (yA (bA K) (by rfl) T.z_tuple PyProof.Rows.boot_tuple (jB (pv 6) jC)) jC)))))))))),?_⟩
 try dsimp only [jX,jW]
 have hc0:=hc
 obtain ⟨dx,rl,ll,nl,fs,rs,ls,nv,hx,hf,hrl,hll,hnl,hR,hL,hN,d1,d2,d3⟩:=hc
 have b8:=hdr.l8
 refine (jA rfl (j8 hx (T.clN) (T.nN_locks) (hf.2.1) ((jA rfl (jA rfl (j7 (⟨.inl ⟨by decide,by decide⟩,_,_,rfl,rfl,jA rfl (j8 hx (T.clN) (T.nN_locks) (hf.2.1) (⟨ll,jA rfl (⟨.inl (SqL.of hll),s,ns,_,jA rfl (⟨hS,h63,by omega,by omega,by rw [hL.1];omega,fun d1 d10 d11=>?_⟩)⟩)⟩))⟩)))))))
 obtain ⟨k1,hk1⟩:∃k1:Nat,d1=(k1:Int):=⟨d1.toNat,by omega⟩
 subst hk1
 have hk1L:k1<L.length:=by rw [hL.1] at d11;omega
 obtain ⟨l0,hl0⟩:∃l,L[k1]?=some l:=⟨_,List.getElem?_eq_getElem hk1L⟩
 obtain ⟨v,hv,yl,rfl,dl,hl⟩:=hL.get hl0
 refine (qH (SqL.of hll) (qL hv) (?_))
 refine (jA rfl (j8 hl (T.cl l0.kd) (T.n_low l0.kd) (bN l0.kd _ _ _ _ _) ((jA rfl (j8 hl (T.cl l0.kd) (T.n_high l0.kd) (bH l0.kd _ _ _ _ _) (⟨zz2,fun p1 hp1=>?_⟩))))))
 have s1:=jI hp1 (.lst [V.int l0.low,V.int l0.high])
 refine (jA rfl (jA rfl (j7 (⟨.inl ⟨by decide,by decide⟩,_,_,rfl,rfl,s,ns,_,jA rfl (⟨s1.seq hS,h63,by omega,by omega,by omega,fun d2 d20 d21=>?_⟩)⟩))))
 obtain ⟨a0,hat,hend⟩:∃a0:Int,qT [V.int l0.low,V.int l0.high] d2=some (.int a0)∧EndAt L a0:=by
  obtain ⟨k2,hk2⟩:∃k2:Nat,d2=(k2:Int):=⟨d2.toNat,by omega⟩
  subst hk2
  rcases k2 with _|_|k2
  ·exact ⟨l0.low,rfl,(k1,true),hk1L,by rw [ZU hl0]⟩
  ·exact ⟨l0.high,rfl,(k1,false),hk1L,by rw [ZN hl0]⟩
  ·omega
 refine (qH (SqL.of jE) hat (?_))
 refine (jA rfl (⟨zz0,fun sp hsp0=>?_⟩))
 have s2:=jI hsp0 (.lst [])
 have s12:=s1.trans s2
 have hsp:upd (upd H p1 (.lst [V.int l0.low,V.int l0.high])) sp (.lst []) sp=some (.lst []):=jE
 have hspf:=s1.free hsp0
 generalize upd (upd H p1 (.lst [V.int l0.low,V.int l0.high])) sp (.lst [])=H2 at s2 s12 hsp ⊢
 refine (jA rfl (jA rfl (j7 (⟨.inl ⟨by decide,by decide⟩,_,_,rfl,rfl,s,ns,_,jA rfl (⟨s12.seq hS,h63,by omega,by omega,by omega,fun m0 m00 m01=>?_⟩)⟩))))
 obtain ⟨n,hn⟩:∃n:Nat,1+m0=(n:Int):=⟨(1+m0).toNat,by omega⟩
 refine ⟨_,_,rfl,rfl,(n:Int),(by show [V.int (1+m0)]=_;rw [hn]),by omega,by omega,?_⟩
 refine gG (n:=((n:Nat):Int).toNat) (fun i σ Hi=>∃(a:Int) (ps:List (Nat×Bool)) (us:List V) (c8 c9 c10:Option V),σ=[some (.ref s),some (.int (k:Int)),some (.ref x),some (.ref yl),some (.int a),some (.int a0),some (.ref sp),c8,c9,c10]∧Hi sp=some (.lst us)∧AllAt (PAt Hi) us ps∧(∀p∈ps,p.1<L.length)∧ps.length=i∧(qS L a0 ps)[ps.length]?=some a∧ZE L a0 ps∧EndAt L a∧Same H Hi)
  ⟨a0,[],[],none,none,none,rfl,hsp,AllAt.nil,fun p hp=>(by cases hp),rfl,rfl,OC _ _,hend,s12⟩ ?_ ?_
 ·rintro i σ Hi hi ⟨a,ps,us,c8,c9,c10,rfl,hsp,hA,hlt,hpl,hlast,hok,hen,sm⟩
  rw [Int.toNat_natCast] at hi
  rw [Int.zero_add]
  refine (jA rfl (j8 ((sm _ _ hx)) (T.clN) (T.nN_locks) (hf.2.1) (⟨ll,jA rfl (⟨.inl (SqL.of (sm _ _ hll)),jA rfl (⟨by omega,by rw [hL.1];omega,fun c1 hc10=>?_⟩)⟩)⟩)))
  refine QS (n:=((ls.length:Nat):Int).toNat) (caps:=[some (.int a),some (.ref x)]) (fun j zs Hj=>AllAt (PAt Hj) zs (v7 L a true j)) hc10 AllAt.nil ?_ ?_
  ·rintro j zs Hj hj hle sj hY hA1
   rw [Int.toNat_natCast,hL.1] at hj
   rw [Int.zero_add]
   obtain ⟨l,hl'⟩:∃l,L[j]?=some l:=⟨_,List.getElem?_eq_getElem hj⟩
   obtain ⟨w,hw,y,rfl,dl,hl⟩:=hL.get hl'
   have smj:=sm.trans sj
   have ee:(qX L (j,true)).1=l.low:=by rw [ZU hl']
   refine (jA rfl (j8 ((smj _ _ hx)) (T.clN) (T.nN_locks) (hf.2.1) ((jA rfl (qH (SqL.of (smj _ _ hll)) (qL hw) (j8 ((smj _ _ hl)) (T.cl l.kd) (T.n_low l.kd) (bN l.kd _ _ _ _ _) (⟨_,rfl,rfl,jA rfl (?_)⟩)))))))
   by_cases he:l.low=a
   ·refine vD (congrArg V.int he) (jA rfl (⟨zz2,fun tp htp=>v9 hc10 sj hY hle (by omega) (jI htp _) ?_⟩))
    rw [AG (ee.trans he)]
    have v:=jI htp (.tup [V.int (j:Int),V.str "up"])
    exact ((hA1.mono (PAt.same v)).snoc (v:=.ref tp) (x:=(j,true)) ⟨tp,rfl,jE⟩).mono (PAt.put (v _ _ hY))
   ·refine qV (fun z=>he (V.int.inj z)) (ZO sj hY hle (Same.refl _) ?_)
    rw [BP (fun z=>he (ee.symm.trans z))]
    exact hA1
  rintro z1 Ha sa hc1 hle1 hA1
  rw [Int.toNat_natCast,hL.1] at hA1
  have sma:=sm.trans sa
  refine (jA rfl (jA rfl (j8 ((sma _ _ hx)) (T.clN) (T.nN_locks) (hf.2.1) (⟨ll,jA rfl (⟨.inl (SqL.of (sma _ _ hll)),jA rfl (⟨by omega,by rw [hL.1];omega,fun c2 hc20=>?_⟩)⟩)⟩))))
  refine QS (n:=((ls.length:Nat):Int).toNat) (caps:=[some (.int a),some (.ref x)]) (fun j zs Hj=>AllAt (PAt Hj) zs (v7 L a false j)) hc20 AllAt.nil ?_ ?_
  ·rintro j zs Hj hj hle sj hY hA1
   rw [Int.toNat_natCast,hL.1] at hj
   rw [Int.zero_add]
   obtain ⟨l,hl'⟩:∃l,L[j]?=some l:=⟨_,List.getElem?_eq_getElem hj⟩
   obtain ⟨w,hw,y,rfl,dl,hl⟩:=hL.get hl'
   have smj:=sma.trans sj
   have ee:(qX L (j,false)).1=l.high:=by rw [ZN hl']
   refine (jA rfl (j8 ((smj _ _ hx)) (T.clN) (T.nN_locks) (hf.2.1) ((jA rfl (qH (SqL.of (smj _ _ hll)) (qL hw) (j8 ((smj _ _ hl)) (T.cl l.kd) (T.n_high l.kd) (bH l.kd _ _ _ _ _) (⟨_,rfl,rfl,jA rfl (?_)⟩)))))))
   by_cases he:l.high=a
   ·refine vD (congrArg V.int he) (jA rfl (⟨zz2,fun tp htp=>v9 hc20 sj hY hle (by omega) (jI htp _) ?_⟩))
    rw [AG (ee.trans he)]
    have v:=jI htp (.tup [V.int (j:Int),V.str "down"])
    exact ((hA1.mono (PAt.same v)).snoc (v:=.ref tp) (x:=(j,false)) ⟨tp,rfl,jE⟩).mono (PAt.put (v _ _ hY))
   ·refine qV (fun z=>he (V.int.inj z)) (ZO sj hY hle (Same.refl _) ?_)
    rw [BP (fun z=>he (ee.symm.trans z))]
    exact hA1
  rintro z2 Hb sb hc2 hle2 hA2
  rw [Int.toNat_natCast,hL.1] at hA2
  have smb:=sma.trans sb
  have hl1:=BQ (L:=L) (a:=a) (b:=true) (i:=L.length)
  have hl2:=BQ (L:=L) (a:=a) (b:=false) (i:=L.length)
  have hz1:=hA1.1
  have hz2:=hA2.1
  refine ⟨c1,c2,_,_,rfl,rfl,sb _ _ hc1,hc2,small (by omega),fun so hso0=>?_⟩
  have s4':=jI hso0 (.lst (z1++z2))
  have hTA:AllAt (PAt (upd Hb so (.lst (z1++z2)))) (z1++z2) (v7 L a true L.length++v7 L a false L.length):=((hA1.mono (PAt.same sb)).app hA2).mono (PAt.same s4')
  have hso:upd Hb so (.lst (z1++z2)) so=_:=jE
  have s4:=(sa.trans sb).trans s4'
  generalize upd Hb so (.lst (z1++z2))=H4 at s4 hTA hso ⊢
  have sm4:=sm.trans s4
  have htl:=NQ hen
  generalize z1++z2=tus at hTA hso ⊢
  refine (jA rfl (jA rfl (jA rfl (j7 (⟨.inl ⟨by decide,by decide⟩,_,_,rfl,rfl,jA rfl (j7 ((jA rfl (⟨so,jA rfl (⟨.inl (SqL.of hso),s,ns,_,jA rfl (⟨sm4.seq hS,h63,by omega,by omega,by rw [hTA.1];omega,fun d4 d40 d41=>?_⟩)⟩)⟩))))⟩)))))
  obtain ⟨m,hm⟩:∃m:Nat,d4=(m:Int):=⟨d4.toNat,by omega⟩
  subst hm
  have hml:m<tus.length:=by omega
  obtain ⟨p,hp,t,et,ht⟩:=hTA.2 m _ (List.getElem?_eq_getElem hml)
  obtain ⟨hpL,hpe⟩:=NR (List.mem_of_getElem? hp)
  refine (qH (SqL.of hso) (qL (v:=.ref t) (by rw [List.getElem?_eq_getElem hml,et])) (?_))
  have hsp4:=s4 _ _ hsp
  refine (jA rfl (⟨.inl ⟨rfl,_,SqL.of hsp4⟩,jA rfl (⟨sp,_,_,rfl,rfl,hsp4,vX (by rw [hA.1];omega),?_⟩)⟩))
  have hA5:AllAt (PAt (upd H4 sp (.lst (us++[.ref t])))) (us++[.ref t]) (ps++[p]):=((hA.mono (PAt.same s4)).snoc ⟨t,rfl,ht⟩).mono (PAt.put hsp4)
  have sm5:Same H (upd H4 sp (.lst (us++[.ref t]))):=qA hspf sm4
  have hsp5:upd H4 sp (.lst (us++[.ref t])) sp=some (.lst (us++[.ref t])):=jE
  have ht:upd H4 sp (.lst (us++[.ref t])) t=some (.tup [.int (p.1:Int),.str (eJ p.2)]):=by rw [jL (fun z=>by rw [z,hsp4] at ht;cases ht)];exact ht
  generalize upd H4 sp (.lst (us++[.ref t]))=H5 at hA5 sm5 hsp5 ht ⊢
  obtain ⟨l,hl',hlg⟩:=tX hdr hpL
  obtain ⟨w,hw,y,rfl,dl,hl⟩:=hL.get hl'
  refine (jA rfl (j8 ((sm5 _ _ hx)) (T.clN) (T.nN_locks) (hf.2.1) ((jA rfl (jR (SqT.of ht) rfl (qH (SqL.of (sm5 _ _ hll)) (qL hw) (j8 ((sm5 _ _ hl)) (T.cl l.kd) (T.n_low l.kd) (bN l.kd _ _ _ _ _) ((jA rfl (j8 ((sm5 _ _ hx)) (T.clN) (T.nN_locks) (hf.2.1) ((jA rfl (jR (SqT.of ht) rfl (qH (SqL.of (sm5 _ _ hll)) (qL hw) (j8 ((sm5 _ _ hl)) (T.cl l.kd) (T.n_high l.kd) (bH l.kd _ _ _ _ _) (⟨zz2,fun pl hpl0=>?_⟩))))))))))))))))
  have u:=jI hpl0 (.lst [V.int l.low,V.int l.high])
  refine (jA rfl (jR (SqT.of (u _ _ ht)) rfl (⟨rfl,.inr (jA rfl (?_))⟩)))
  rw [B7]
  have hat:qT [V.int l.low,V.int l.high] (if p.2=true then 1 else 0)=some (.int (qX L p).2):=by
   obtain ⟨pk,pb⟩:=p
   cases pb
   ·rw [ZN hl'];rfl
   ·rw [ZU hl'];rfl
  refine (qH (SqL.of jE) hat (?_))
  refine ⟨_,ps++[p],us++[.ref t],_,_,jA rfl (⟨u _ _ hsp5,hA5.mono (PAt.same u),fun p' hp'=>?_,by rw [List.length_append,hpl];rfl,?_,(MX hlast).mpr ⟨hok,hpe⟩,EndAt.next hpL,sm5.trans u⟩)⟩
  ·rcases List.mem_append.mp hp' with h|h
   ·exact hlt p' h
   ·rw [List.mem_singleton.mp h];exact hpL
  ·rw [oI,List.length_append,List.getElem?_append_right (by rw [dN];exact Nat.le_refl _),dN]
   show [(qX L p).2][ps.length+1 - (ps.length+1)]?=_
   rw [Nat.sub_self]
   rfl
 rintro σ Hi ⟨a,ps,us,c8,c9,c10,rfl,hsp,hA,hlt,hpl,hlast,hok,hen,sm⟩
 rw [Int.toNat_natCast] at hpl
 refine (jA rfl (jA rfl (⟨sp,us,rfl,.inl ⟨SqL.of hsp,fun st hst0=>?_⟩⟩)))
 have v1:=jI hst0 (.tup us)
 refine ⟨zz2,fun t ht0=>?_⟩
 have v2:=jI ht0 (.tup [V.int a0,V.ref st])
 have w:=(sm.trans v1).trans v2
 exact q t (a0,ps) _ ⟨hlt,hok,by show ps.length≤8;omega⟩ w ((sm.trans v1).free ht0) (vS t st us (v8 rfl jE (v2 _ _ jE) (hA.mono (PAt.same (v1.trans v2)))))
theorem cJ:FnScope ["script","canal","ways","waters","k","held","places"] ["script","canal","ways"] (jG eU):=jU
include T in
theorem EL {f:Addr} {fd:FuncData} (F:Fun K "_law_state" "_law_state" eU f fd) (MM_Canal_start:MeD P w K mg base 5 cN "start" ["self"] (oN (jF cP cB cU) cR cN)) (D__law_draw:Def P w K mg base 1 "_law_draw" ["script","k","many"] [] (ZW K)) (MP_kind:MeK P w K mg base 1 (jF cP cB cU) "kind" ["self"] (yM (jF cP cB cU) (fun kd _=>V.str (match kd with|.plain=>"plain"|.basin=>"basin"|.pump=>"pump")))) (MP_extra:MeK P w K mg base 1 (jF cP cB cU) "extra" ["self"] (yM (jF cP cB cU) (fun kd v=>V.int (match kd with|.plain=>0|.basin=>v|.pump=>v)))):FnOk P w K mg base jP 6 f fd ["script","canal","ways"] (uF K (jF cP cB cU) cR cN):=by
 refine F.ok2 cJ fun vs H Q E h=>?_
 obtain ⟨s,x,wl,ns,us,ys,D,R,L,N,rfl,hS,h63,hc,hdr,hwl,hA,h10,hok,q⟩:=h
 refine ⟨rfl,fun _ _ _ _ hr=>?_⟩
 refine ⟨_,(@jH _ _ _ _ _ (jZ (i:=3) cJ.nd rfl (.inl rfl) (yA (QR K) (by rfl) T.z_list PyProof.Rows.boot_list (jB (QH MM_Canal_start hr (pv 1)) jC)))
   (@jH _ _ _ _ _ (zS PassesOwn.never rfl (zO (by rfl) T.z_range (jB (kP (qD K) (by rfl) T.z_len PySem.boot_len (jB (j6 K (pv 1) rfl) jC)) jC)) (kC (i:=4) cJ.nd rfl (.inl rfl))
    (o6 (qQ (kO qM (jO D__law_draw hr rfl (@jB _ _ _ _ _ (pv 0) (@jB _ _ _ _ _ (@jJ _ _ _ _ _ _ _ _ kH jD (pv 4)) (@jB _ _ _ _ _ jD jC (by rfl)) (by rfl)) (by rfl))) jD) (@jK _ _ _ (iE (j6 K (jM (kN K) (j6 K (pv 1) rfl) (pv 4)) rfl) (iG (pv 3) (@jJ _ _ _ _ _ _ _ _ kH (kP (qD K) (by rfl) T.z_len PySem.boot_len (jB (j6 K (pv 1) rfl) jC)) (pv 4)) ZQ))) qP)
   (@jK _ _ _ (qQ (kO qM (BW MP_kind hr (jM (kN K) (j6 K (pv 1) rfl) (pv 4))) j5) (@jH _ _ _ _ _ (jZ (i:=5) cJ.nd rfl (.inl rfl) (jM (kN K) (qR (jB jD (jB (BW MP_extra hr (jM (kN K) (j6 K (pv 1) rfl) (pv 4))) jC))) (jO D__law_draw hr rfl (@jB _ _ _ _ _ (pv 0) (@jB _ _ _ _ _ (@jJ _ _ _ _ _ _ _ _ kH jD (pv 4)) (@jB _ _ _ _ _ jD jC (by rfl)) (by rfl)) (by rfl)))))
   (@jK _ _ _ (iE (pv 5) (iG (pv 3) (@jJ _ _ _ _ _ _ _ _ kH (@jJ _ _ _ _ _ _ _ _ kH (kP (qD K) (by rfl) T.z_len PySem.boot_len (jB (j6 K (pv 1) rfl) jC)) (kP (qD K) (by rfl) T.z_len PySem.boot_len (jB (j6 K (pv 1) rfl) jC))) (pv 4)) ZQ)))) qP))))
   (@jH _ _ _ _ _ (zN (i:=6) ["k","script","ways"] (kZ 1 [0,2]) cJ.nd rfl (.inl rfl) rfl (qO (jG eU)) (cps 1 [0,2]) (zO (by rfl) T.z_range (jB (kP (qD K) (by rfl) T.z_len PySem.boot_len (jB (pv 2) jC)) jC)) (fun _ _ _ _ _=>(kC (i:=0) (show List.Nodup (["k","script","ways"]:List Str) from by decide +kernel) rfl (.inl rfl))) (fun _ _ _ _ _=>vY) (fun _ _ _ _ _=>(@jJ _ _ _ _ _ _ _ _ QB (kP (u8 rfl) (by rfl) T.z_max PyProof.Rows.boot_max (jB jD (jB (@jJ _ _ _ _ _ _ _ _ zT (jO D__law_draw hr rfl (@jB _ _ _ _ _ (pv 1) (@jB _ _ _ _ _ (@jJ _ _ _ _ _ _ _ _ kH jD (pv 0)) (@jB _ _ _ _ _ jD jC (by rfl)) (by rfl)) (by rfl))) jD) jC))) (@jJ _ _ _ _ _ _ _ _ kH jD (kP (qD K) (by rfl) T.z_len PySem.boot_len (jB (jM (jT K) (jM (kN K) (pv 2) (pv 0)) jD) jC))))))
   (@jK _ _ _ (@jQ _ _ _ _ (kQ (@jB _ _ _ _ _ (jO D__law_draw hr rfl (@jB _ _ _ _ _ (pv 0) (@jB _ _ _ _ _ jD (@jB _ _ _ _ _ (@jJ _ _ _ _ _ _ _ _ kH (kP (qD K) (by rfl) T.z_len PySem.boot_len (jB (j6 K (pv 1) rfl) jC)) jD) jC (by rfl)) (by rfl)) (by rfl))) (@jB _ _ _ _ _ (yA (bA K) (by rfl) T.z_tuple PyProof.Rows.boot_tuple (jB (pv 3) jC)) (@jB _ _ _ _ _ (yA (bA K) (by rfl) T.z_tuple PyProof.Rows.boot_tuple (jB (pv 6) jC)) jC (by rfl)) (by rfl)) (by rfl)))))))),?_⟩
 try dsimp only [jX,jW]
 have hc0:=hc
 obtain ⟨dx,rl,ll,nl,fs,rs,ls,nv,hx,hf,hrl,hll,hnl,hR,hL,hN,d1,d2,d3⟩:=hc
 have b1:=hdr.r8
 have b2:=hdr.l8
 have b3:=hdr.n6
 refine (jA rfl (⟨x,dx,jA rfl (⟨hx,hf.no (by decide +kernel) (by decide +kernel) (by decide +kernel),zM x D R L N (yY rfl hc0 (by omega) (by omega) (JN hdr) (fun t0 H0 gs s0 ht00 ht0 hSp=>?_))⟩)⟩))
 refine ⟨t0,jA rfl (⟨.inr (SqT.of ht0),fun wa hwa0=>?_⟩)⟩
 have hm0:(JI (JC R L.length) (kI R L.length) gs).length=R.length+2*L.length+2:=by rw [IN,dA]
 generalize JI (JC R L.length) (kI R L.length) gs=m0 at hm0 ⊢
 have s1:=jI hwa0 (.lst (m0.map V.int))
 have hwaH:=s0.free hwa0
 refine (jA rfl (j8 ((s1 _ _ (s0 _ _ hx))) (T.clN) (T.nN_locks) (hf.2.1) (⟨ll,jA rfl (⟨.inl (SqL.of (s1 _ _ (s0 _ _ hll))),jA rfl (⟨by omega,by rw [hL.1];omega,gG (n:=((ls.length:Nat):Int).toNat) (fun i σ Hi=>∃(ms:List Int) (c1 c2:Option V),σ=[some (.ref s),some (.ref x),some (.ref wl),some (.ref wa),c1,c2,none]∧Hi wa=some (.lst (ms.map V.int))∧ms.length=R.length+2*L.length+2∧Same H Hi) (vS m0 none none (v8 rfl jE hm0 (s0.trans s1))) ?_ ?_⟩)⟩)⟩)))
 ·rintro i σ Hi hi ⟨ms,c1,c2,rfl,hwa,hml,sm⟩
  rw [Int.toNat_natCast,hL.1] at hi
  rw [Int.zero_add]
  obtain ⟨l,hl'⟩:∃l,L[i]?=some l:=⟨_,List.getElem?_eq_getElem hi⟩
  obtain ⟨v,hv,y,rfl,dl,hl⟩:=hL.get hl'
  refine ⟨fun σ' H'=>∃ms:List Int,σ'=[some (.ref s),some (.ref x),some (.ref wl),some (.ref wa),some (.int (i:Int)),c2,none]∧H' wa=some (.lst (ms.map V.int))∧ms.length=R.length+2*L.length+2∧Same H H',?_,?_⟩
  ·refine (jA rfl (jA rfl (j7 (⟨s,ns,_,jA rfl (⟨sm.seq hS,h63,by omega,by omega,by omega,fun d1 d10 d11=>?_⟩)⟩))))
   refine ⟨rfl,jA rfl (bV (fun _=>?_) (fun _=>⟨ms,rfl,hwa,hml,sm⟩))⟩
   refine (jA rfl (j8 ((sm _ _ hx)) (T.clN) (T.nN_locks) (hf.2.1) ((jA rfl (qH (SqL.of (sm _ _ hll)) (qL hv) (j8 ((sm _ _ hl)) (T.cl l.kd) (T.n_room l.kd) (bG l.kd _ _ _ _ _) ((jA rfl (jA rfl (j8 ((sm _ _ hx)) (T.clN) (T.nN_reaches) (hf.1) (⟨rl,jA rfl (⟨.inl (SqL.of (sm _ _ hrl)),jA rfl (j7 ((vW wa _ _ (R.length+i) (yI rfl (by rw [hR.1];rfl) hwa (ZT (by rw [List.length_map];omega)) (?_)))))⟩)⟩)))))))))))
   rw [ZK]
   exact ⟨ms.set (R.length+i) l.room,rfl,jE,by rw [List.length_set];exact hml,qA hwaH sm⟩
  rintro σ' H1 ⟨ms,rfl,hwa,hml,sm⟩
  have hl2:=sm _ _ hl
  refine (jA rfl (j8 ((sm _ _ hx)) (T.clN) (T.nN_locks) (hf.2.1) ((jA rfl (qH (SqL.of (sm _ _ hll)) (qL hv) (⟨l.kd,y,dl,jA rfl (⟨hl2,OQ l.kd _ _ _ _ _,y,_,_,_,_,jA rfl (⟨⟨dl,hl2⟩,rfl,jA rfl (bV (fun _=>?_) (fun _=>⟨ms,_,jA rfl (⟨hwa,hml,sm⟩)⟩))⟩)⟩)⟩))))))
  refine (jA rfl (j8 ((sm _ _ hx)) (T.clN) (T.nN_locks) (hf.2.1) ((jA rfl (qH (SqL.of (sm _ _ hll)) (qL hv) (⟨l.kd,y,dl,jA rfl (⟨hl2,NB l.kd _ _ _ _ _,y,_,_,_,_,jA rfl (⟨⟨dl,hl2⟩,zz2,fun p1 hp1=>?_⟩)⟩)⟩))))))
  try dsimp only
  generalize hex:(match l.kd with|.plain=>(0:Int)|.basin=>l.extra|.pump=>l.extra)=ex
  have u:=jI hp1 (.lst ([(0:Int),ex].map V.int))
  have smu:=sm.trans u
  refine (jA rfl (jA rfl (j7 (⟨s,ns,_,jA rfl (⟨smu.seq hS,h63,by omega,by omega,by omega,fun d1 d10 d11=>?_⟩)⟩))))
  obtain ⟨he,hhe,hat⟩:=pP [(0:Int),ex] d10 d11
  refine (qH (SqL.of jE) hat (?_))
  have hwau:=u _ _ hwa
  refine (jA rfl (jA rfl (jA rfl (j8 ((smu _ _ hx)) (T.clN) (T.nN_reaches) (hf.1) (⟨rl,jA rfl (⟨.inl (SqL.of (smu _ _ hrl)),jA rfl (j8 ((smu _ _ hx)) (T.clN) (T.nN_locks) (hf.2.1) (⟨ll,jA rfl (⟨.inl (SqL.of (smu _ _ hll)),_,_,rfl,rfl,jA rfl (j7 ((vW wa _ _ (R.length+L.length+i) (yI rfl (by rw [hR.1,hL.1];rfl) hwau (ZT (by rw [List.length_map];omega)) (?_)))))⟩)⟩))⟩)⟩)))))
  rw [ZK]
  exact ⟨ms.set (R.length+L.length+i) he,_,jA rfl (⟨jE,by rw [List.length_set];exact hml,qA hwaH smu⟩)⟩
 rintro σ H2 ⟨ms,c1,c2,rfl,hwa2,hml,sm2⟩
 have hA2:=hA.mono (WyAt.same sm2)
 refine (jA rfl (⟨wl,jA rfl (⟨.inl (SqL.of (sm2 _ _ hwl)),jA rfl (⟨by omega,by rw [hA.1];omega,fun pb hpb0=>?_⟩)⟩)⟩))
 refine QS (n:=((us.length:Nat):Int).toNat) (caps:=[some (.ref s),some (.ref wl)]) (fun i zs _=>∃ps:List Nat,zs=ps.map (fun (p:Nat)=>V.int (p:Int))∧ps.length=i∧∀(j:Nat) (y:j4) (p:Nat),ys[j]?=some y→ps[j]?=some p→p≤y.2.length) hpb0 ⟨[],rfl,rfl,fun j y p _ h=>by cases h⟩ ?_ ?_
 ·rintro i zs Hj hi hle sj hY ⟨ps,rfl,hpl,hple⟩
  rw [Int.toNat_natCast,hA.1] at hi
  rw [Int.zero_add]
  obtain ⟨y,hy⟩:∃y,ys[i]?=some y:=⟨_,List.getElem?_eq_getElem hi⟩
  obtain ⟨v,hv,t,st,vs,rfl,h1,h2,h3⟩:=hA2.get hy
  have smj:=sm2.trans sj
  refine v0 (kT ?_)
  refine (jA rfl (jA rfl (j7 (⟨s,ns,_,jA rfl (⟨smj.seq hS,h63,by omega,by omega,by omega,fun d d0 d1=>?_⟩)⟩))))
  refine ⟨_,_,rfl,rfl,_,jA rfl (?_)⟩
  refine (jA rfl (jA rfl (qH (SqL.of (smj _ _ hwl)) (qL hv) (jR (SqT.of (sj _ _ h1)) rfl (⟨st,jA rfl (⟨.inr (SqT.of (sj _ _ h2)),_,_,rfl,rfl,_,_,rfl,rfl,(by omega),?_⟩)⟩)))))
  have hl3:=h3.1
  obtain ⟨p,hp,hpy⟩:∃p:Nat,(if 0<d - 1 then d - 1 else 0)%(1+((vs.length:Nat):Int))=(p:Int)∧p≤y.2.length:=by
   have e0:=Int.emod_nonneg (if 0<d - 1 then d - 1 else 0) (show (1+((vs.length:Nat):Int))≠0 by omega)
   have e1:=Int.emod_lt_of_pos (if 0<d - 1 then d - 1 else 0) (show (0:Int)<1+((vs.length:Nat):Int) by omega)
   exact ⟨_,(Int.toNat_of_nonneg e0).symm,by omega⟩
  try dsimp only
  rw [hp]
  refine v9 hpb0 sj hY hle (by omega) (Same.refl _) ⟨ps++[p],by rw [List.map_append];rfl,by rw [List.length_append,hpl];rfl,fun j y' p' hj hp'=>?_⟩
  by_cases hl:j<ps.length
  ·rw [List.getElem?_append_left hl] at hp';exact hple j y' p' hj hp'
  ·rw [List.getElem?_append_right (by omega)] at hp'
   have hz:j - ps.length=0:=by
    have:=(List.getElem?_eq_some_iff.mp hp').1
    rw [List.length_singleton] at this
    omega
   rw [hz] at hp'
   cases hp'
   rw [show j=i by omega,hy] at hj
   cases hj
   exact hpy
 rintro zs H4 s4 hpb hle4 ⟨pl,rfl,hpl,hple⟩
 rw [Int.toNat_natCast,hA.1] at hpl
 have sm4:=sm2.trans s4
 refine (jA rfl (jA rfl (j8 ((sm4 _ _ hx)) (T.clN) (T.nN_nights) (hf.2.2.1) (⟨nl,jA rfl (⟨.inl (SqL.of (sm4 _ _ hnl)),_,_,rfl,rfl,s,ns,_,jA rfl (⟨sm4.seq hS,h63,by omega,by omega,by rw [hN.1];omega,fun dd dd0 dd1=>?_⟩)⟩)⟩))))
 refine (jA rfl (⟨wa,jA rfl (.inl ⟨SqL.of (s4 _ _ hwa2),fun t1 ht10=>?_⟩)⟩))
 have v1:=jI ht10 (.tup (ms.map V.int))
 refine (jA rfl (⟨pb,jA rfl (.inl ⟨SqL.of (v1 _ _ hpb),fun t2 ht20=>?_⟩)⟩))
 have v2:=jI ht20 (.tup (pl.map fun (p:Nat)=>V.int (p:Int)))
 refine ⟨zz3,fun t3 ht30=>?_⟩
 have v3:=jI ht30 (.tup [V.int dd,V.ref t1,V.ref t2])
 exact q t3 dd ms pl _ (((sm4.trans v1).trans v2).trans v3) ⟨t1,t2,jE,v3 _ _ (v2 _ _ jE),v3 _ _ jE⟩ ⟨hpl,h10,hok,hple⟩ dd0 hml
theorem fI:FnScope ["canal","ways","state","most","told"] ["canal","ways","state","most"] (jG lX):=jU
include T in
theorem EM {f:Addr} {fd:FuncData} (F:Fun K "_law_told" "_law_told" lX f fd) (DX_look:DefX P w K mg base 19 "look" ["canal","ways","state","most"] [] (BL (jF cP cB cU) cR cN tA tH (kS j9) (kS kF) eTW)):FnOk P w K mg base jP 20 f fd ["canal","ways","state","most"] (BI (jF cP cB cU) cR cN tA tH (kS j9) (kS kF)):=by
 refine F.ok2 fI fun vs H Q E h=>?_
 obtain ⟨x,wl,st,us,ys,d,ms,pl,D,R,L,N,NN,rfl,hG,hd0,hT,hF,qF,qC,qE⟩:=h
 refine ⟨rfl,fun _ _ _ _ hr=>?_⟩
 refine ⟨_,(@jH _ _ _ _ _ (jZ (i:=4) fI.nd rfl (.inl rfl) iH)
   (@jH _ _ _ _ _ (O6 rfl rfl rfl rfl T.c_TooWide T.x_TooWide (fun _ _ hx=>(jK (jZ (i:=4) fI.nd rfl (.inl rfl) (o8 DX_look hx hr rfl (@jB _ _ _ _ _ (pv 0) (@jB _ _ _ _ _ (pv 1) (@jB _ _ _ _ _ (pv 2) (@jB _ _ _ _ _ (pv 3) jC (by rfl)) (by rfl)) (by rfl)) (by rfl)))))) (fun _=>(@jK _ _ _ (jZ (i:=4) fI.nd rfl (.inl rfl) (kQ (@jB _ _ _ _ _ j5 (@jB _ _ _ _ _ (qR jC) (@jB _ _ _ _ _ (qR jC) jC (by rfl)) (by rfl)) (by rfl)))))))
   (@jK _ _ _ (@jQ _ _ _ _ (pv 4))))),?_⟩
 try dsimp only [jX,jW]
 refine ⟨fun σ' c H'=>σ'=[some (.ref x),some (.ref wl),some (.ref st),some (.int 16),some .non]∧c=.ref eTW∧(16:Int)<(((jS (kR R L N ys) (kD (d,ms,pl)) NN).flatten.length:Nat):Int)∧Same (noT H) H'∧Tabs H' tA tH (kS j9) (kS kF),?_,?_⟩
 ·refine (jA rfl (jA rfl (jA rfl (jA rfl ((bW x wl st us ys d ms pl D R L N NN (ZF rfl hG hd0 hT hF (fun hle hany t rr lr xs des kf H' s' hT' ht hrr hks hp hmk hdl=>(jA rfl (qF hle hany t rr lr xs des kf H' s' hT' ht hrr hks hp hmk hdl))) (fun hle hany t lr H' s' hT' ht=>(jA rfl (qC hle hany t lr H' s' hT' ht))) (fun hlt H' s' hT'=>⟨rfl,rfl,hlt,s',hT'⟩))))))))
 rintro σ' c H2 ⟨rfl,rfl,hlt,s2,hT2⟩
 refine ⟨rfl,zz0,fun a ha0=>?_⟩
 have u1:=jI ha0 (.lst [])
 refine ⟨zz0,fun b hb0=>?_⟩
 have u2:=jI hb0 (.lst [])
 refine ⟨zz3,fun t ht0=>?_⟩
 have u3:=jI ht0 (.tup [V.str "wide",V.ref a,V.ref b])
 have u:=(u1.trans u2).trans u3
 exact (jA rfl (qE hlt t a b _ (s2.trans u) (hT2.same u) jE))
theorem fJ:FnScope ["canal","state","cells","waters","cell","r"] ["canal","state","cells"] (jG lY):=jU
include T in
theorem EO {f:Addr} {fd:FuncData} (F:Fun K "_law_wetter" "_law_wetter" lY f fd) : FnOk P w K mg base jP 1 f fd ["canal","state","cells"] (tG K (jF cP cB cU) cR cN):=by
 refine F.ok2 fJ fun vs H Q E h=>?_
 obtain ⟨x,st,l,zz,d,ms,pl,D,R,L,N,rfl,hc,hdr,hl,hst,hml,q⟩:=h
 refine ⟨rfl,fun _ _ _ _ hr=>?_⟩
 refine ⟨_,(@jH _ _ _ _ _ (jZ (i:=3) fJ.nd rfl (.inl rfl) (yA (QR K) (by rfl) T.z_list PyProof.Rows.boot_list (jB (jM (jT K) (pv 1) jD) jC)))
   (@jH _ _ _ _ _ (zS PassesOwn.never rfl (vC (pv 2)) (kC (i:=4) fJ.nd rfl (.inl rfl))
    (@jH _ _ _ _ _ (jZ (i:=5) fJ.nd rfl (.inl rfl) (@jJ _ _ _ _ _ _ _ _ QB (@jJ _ _ _ _ _ _ _ _ QB (pv 4) jD) (kP (qD K) (by rfl) T.z_len PySem.boot_len (jB (j6 K (pv 0) rfl) jC))))
   (@jK _ _ _ (iE (@jJ _ _ _ _ _ _ _ _ kH (jM (kN K) (pv 3) (pv 5)) (@jJ _ _ _ _ _ _ _ _ QB (@jJ _ _ _ _ _ _ _ _ o9 (pv 4) jD) jD)) (iG (pv 3) (pv 5) ZQ)))))
   (@jK _ _ _ (@jQ _ _ _ _ (kQ (@jB _ _ _ _ _ (jM (jT K) (pv 1) jD) (@jB _ _ _ _ _ (yA (bA K) (by rfl) T.z_tuple PyProof.Rows.boot_tuple (jB (pv 3) jC)) (@jB _ _ _ _ _ (jM (jT K) (pv 1) jD) jC (by rfl)) (by rfl)) (by rfl))))))),?_⟩
 try dsimp only [jX,jW]
 obtain ⟨dx,rl,ll,nl,fs,rs,ls,nv,hx,hf,hrl,hll,hnl,hR,hL,hN,d1,d2,d3⟩:=hc
 have b1:=hdr.r8
 have r1:=hdr.r1
 obtain ⟨wt,pt,h1,h2,h3⟩:=hst
 refine (jA rfl (jR (SqT.of h1) rfl (⟨wt,jA rfl (⟨.inr (SqT.of h2),fun wa hwa0=>?_⟩)⟩)))
 have s1:=jI hwa0 (.lst (ms.map V.int))
 refine (jA rfl (⟨l,rfl,⟨_,SqL.of (s1 _ _ hl)⟩,ZS (K:=K) (a:=l) (xs:=zz.map V.int) (fun i σ Hi=>∃(m2:List Int) (c1 c2:Option V),σ=[some (.ref x),some (.ref st),some (.ref l),some (.ref wa),c1,c2]∧Hi wa=some (.lst (m2.map V.int))∧Wet R L ms m2∧Same H Hi) (vS ms none none (v8 rfl jE (Wet.refl _ _ _) s1)) (fun i σ Hi _ ⟨_,_,_,_,_,_,sm⟩=>SqL.of (sm _ _ hl)) ?_ ?_⟩))
 ·rintro i v σ Hi hv ⟨m2,c1,c2,rfl,hwa,hW,sm⟩
  obtain ⟨ce,rfl,hce⟩:=M9 hv
  have hl0:(0:Int)<(R.length:Int):=by omega
  obtain ⟨j,ej,lj⟩:=uD (a:=ce%7) hl0
  have hm2:=hW.len
  refine (jA rfl (j7 (⟨(show (0:Int)<7 from by decide),jA rfl (j8 ((sm _ _ hx)) (T.clN) (T.nN_reaches) (hf.1) (⟨rl,jA rfl (⟨.inl (SqL.of (sm _ _ hrl)),_,_,rfl,rfl,(by rw [hR.1];exact hl0),?_⟩)⟩))⟩)))
  try dsimp only
  rw [hR.1,ej]
  have lj2:j<R.length:=by omega
  refine (jA rfl (jA rfl (qH (SqL.of hwa) (yL (by omega)) ((jA rfl (j7 (⟨⟨by decide,by decide⟩,_,_,rfl,rfl,(show (0:Int)<4000000002 from by decide),_,_,rfl,rfl,jA rfl (jA rfl (⟨wa,_,_,j,rfl,rfl,hwa,ZT (by rw [List.length_map];omega),?_⟩))⟩)))))))
  try dsimp only
  rw [ZK]
  exact ⟨_,_,jA rfl (⟨jE,hW.add lj2 (by omega) (Int.emod_nonneg _ (by decide)),qA hwa0 sm⟩)⟩
 rintro σ Hi ⟨m2,c1,c2,rfl,hwa,hW,sm⟩
 refine (jA rfl (jR (SqT.of (sm _ _ h1)) rfl ((jA rfl (⟨wa,jA rfl (.inl ⟨SqL.of hwa,fun t1 ht10=>?_⟩)⟩)))))
 have v1:=jI ht10 (.tup (m2.map V.int))
 have w1:=sm.trans v1
 refine (jA rfl (jR (SqT.of (w1 _ _ h1)) rfl (⟨zz3,fun t2 ht20=>?_⟩)))
 have v2:=jI ht20 (.tup [V.int d,V.ref t1,V.ref pt])
 exact q t2 m2 _ (w1.trans v2) ⟨t1,pt,jE,v2 _ _ jE,v2 _ _ (w1 _ _ h3)⟩ hW
theorem J7:FnScope ["script","canal","ways","state","told","part","k","again"] ["script"] (jG JK):=jU
include T in
theorem E4 {f:Addr} {fd:FuncData} (F:Fun K "law" "law" JK f fd) (D__law_canal:Def P w K mg base 6 "_law_canal" ["script"] [] (uK K (jF cP cB cU) cR cN)) (D__law_draw:Def P w K mg base 1 "_law_draw" ["script","k","many"] [] (ZW K)) (D__law_way:Def P w K mg base 2 "_law_way" ["script","k","canal"] [] (x6 K (jF cP cB cU) cR cN)) (D__law_state:Def P w K mg base 6 "_law_state" ["script","canal","ways"] [] (uF K (jF cP cB cU) cR cN)) (D__law_told:Def P w K mg base 20 "_law_told" ["canal","ways","state","most"] [] (BI (jF cP cB cU) cR cN tA tH (kS j9) (kS kF))) (D__law_wetter:Def P w K mg base 1 "_law_wetter" ["canal","state","cells"] [] (tG K (jF cP cB cU) cR cN)) (D_leads_home:Def P w K mg base 18 "leads_home" ["canal","ways","state","row"] [] (AC (jF cP cB cU) cR cN tA tH (kS j9) (kS kF))):FnOk P w K mg base jP 21 f fd ["script"] (gS tA tH K):=by
 refine F.ok2 J7 fun vs H Q E h=>?_
 obtain ⟨s,ns,rfl,hS,h63,hne,hTA0,hTH0,q⟩:=h
 refine ⟨rfl,fun _ _ _ _ hr=>?_⟩
 refine ⟨_,(@jH _ _ _ _ _ (jZ (i:=1) J7.nd rfl (.inr rfl) (jO D__law_canal hr rfl (jB (pv 0) jC)))
   (@jH _ _ _ _ _ (zN (i:=2) ["k","script","canal"] (kZ 1 [0,1]) J7.nd rfl (.inl rfl) rfl (qO (jG JK)) (cps 1 [0,1]) (zO (by rfl) T.z_range (jB (jO D__law_draw hr rfl (@jB _ _ _ _ _ (pv 0) (@jB _ _ _ _ _ jD (@jB _ _ _ _ _ jD jC (by rfl)) (by rfl)) (by rfl))) jC)) (fun _ _ _ _ _=>(kC (i:=0) (show List.Nodup (["k","script","canal"]:List Str) from by decide +kernel) rfl (.inl rfl))) (fun _ _ _ _ _=>vY) (fun _ _ _ _ _=>(jO D__law_way hr rfl (@jB _ _ _ _ _ (pv 1) (@jB _ _ _ _ _ (pv 0) (@jB _ _ _ _ _ (pv 2) jC (by rfl)) (by rfl)) (by rfl)))))
   (@jH _ _ _ _ _ (jZ (i:=3) J7.nd rfl (.inl rfl) (jO D__law_state hr rfl (@jB _ _ _ _ _ (pv 0) (@jB _ _ _ _ _ (pv 1) (@jB _ _ _ _ _ (pv 2) jC (by rfl)) (by rfl)) (by rfl))))
   (@jH _ _ _ _ _ (jZ (i:=4) J7.nd rfl (.inl rfl) (jO D__law_told hr rfl (@jB _ _ _ _ _ (pv 1) (@jB _ _ _ _ _ (pv 2) (@jB _ _ _ _ _ (pv 3) (@jB _ _ _ _ _ jD jC (by rfl)) (by rfl)) (by rfl)) (by rfl))))
   (@jH _ _ _ _ _ (qQ (kO QI (jM (jT K) (pv 4) jD) j5) (@jK _ _ _ (@jQ _ _ _ _ (RM (QN qM (jM (jT K) (pv 4) jD) j5) (BV (QN qM (jM (jT K) (pv 4) jD) j5))))) qP)
   (@jH _ _ _ _ _ (jZ (i:=5) J7.nd rfl (.inl rfl) (@jJ _ _ _ _ _ _ _ _ kH (@jJ _ _ _ _ _ _ _ _ o9 (kP (qD K) (by rfl) T.z_len PySem.boot_len (jB (pv 0) jC)) jD) jD))
   (@jH _ _ _ _ _ (zS PassesOwn.never rfl (zO (by rfl) T.z_range (jB jD jC)) (kC (i:=6) J7.nd rfl (.inl rfl))
    (@jH _ _ _ _ _ (jZ (i:=3) J7.nd rfl (.inl rfl) (jO D__law_wetter hr rfl (@jB _ _ _ _ _ (pv 1) (@jB _ _ _ _ _ (pv 3) (@jB _ _ _ _ _ (dI (MO K) (pv 0) (Z6 (@jJ _ _ _ _ _ _ _ _ qG (pv 6) (pv 5))) (Z6 (@jJ _ _ _ _ _ _ _ _ kH (@jJ _ _ _ _ _ _ _ _ qG (pv 6) (pv 5)) (pv 5)))) jC (by rfl)) (by rfl)) (by rfl))))
   (@jH _ _ _ _ _ (qQ (kO LU (jO D_leads_home hr rfl (@jB _ _ _ _ _ (pv 1) (@jB _ _ _ _ _ (pv 2) (@jB _ _ _ _ _ (pv 3) (@jB _ _ _ _ _ (yA (QR K) (by rfl) T.z_list PyProof.Rows.boot_list (jB (jM (jT K) (pv 4) jD) jC)) jC (by rfl)) (by rfl)) (by rfl)) (by rfl))) Z0) (@jK _ _ _ (@jQ _ _ _ _ Z0)) qP)
   (@jH _ _ _ _ _ (jZ (i:=7) J7.nd rfl (.inl rfl) (jO D__law_told hr rfl (@jB _ _ _ _ _ (pv 1) (@jB _ _ _ _ _ (pv 2) (@jB _ _ _ _ _ (pv 3) (@jB _ _ _ _ _ jD jC (by rfl)) (by rfl)) (by rfl)) (by rfl))))
   (@jK _ _ _ (qQ (PW.pt (BR (kO QI (jM (jT K) (pv 7) jD) j5) (AH (PW.pt (RL (kO QI (jM (jT K) (pv 7) jD) j5) (O4 (kO CL (kP (qD K) (by rfl) T.z_len PySem.boot_len (jB (jM (jT K) (pv 7) jD) jC)) (kP (qD K) (by rfl) T.z_len PySem.boot_len (jB (jM (jT K) (pv 4) jD) jC))))))))) (@jK _ _ _ (@jQ _ _ _ _ Z0)) qP))))))
   (@jK _ _ _ (@jQ _ _ _ _ Z0))))))))),?_⟩
 try dsimp only [jX,jW]
 have hT0:Tabs H tA tH (kS j9) (kS kF):=⟨hne,.inl hTA0,.inl hTH0⟩
 refine (jA rfl (⟨s,ns,rfl,hS,h63,fun x R L N H1 hdr hr2 hl1 hl2 s1 hx0 hcn=>?_⟩))
 have b1:=hdr.r8
 have b3:=hdr.n6
 have hS1:=s1.seq hS
 refine (jA rfl (⟨s,ns,_,jA rfl (⟨hS1,h63,by omega,by omega,by omega,fun m0 m00 m01=>?_⟩)⟩))
 obtain ⟨n,hn⟩:∃n:Nat,m0=(n:Int):=⟨m0.toNat,by omega⟩
 subst hn
 refine (jA rfl (⟨by omega,by omega,fun wl hwl0=>?_⟩))
 refine QS (n:=((n:Nat):Int).toNat) (caps:=[some (.ref s),some (.ref x)]) (fun i us Hi=>∃ys:List j4,AllAt (WyAt Hi) us ys∧ys.length=i∧∀y∈ys,WyOk L y) hwl0 ⟨[],AllAt.nil,rfl,fun y hy=>by cases hy⟩ ?_ ?_
 ·rintro i us Hi hi hle sm hY ⟨ys,hA,hyl,hok⟩
  rw [Int.toNat_natCast] at hi
  rw [Int.zero_add]
  refine v0 (kT (jA rfl (jA rfl (jA rfl ((QO s x ns i _ R L N (ZF rfl (sm.seq hS1) h63 (by omega) (hcn.same sm) hdr hl1 (fun t y H' hyo s' ht0 hwy=>v9 hwl0 sm hY hle (by omega) s' ?_))))))))
  refine ⟨ys++[y],((hA.mono (WyAt.same s')).snoc hwy).mono (WyAt.put (s' _ _ hY)),by rw [List.length_append,hyl];rfl,fun y' hy'=>?_⟩
  rcases List.mem_append.mp hy' with h|h
  ·exact hok y' h
  ·rw [List.mem_singleton.mp h];exact hyo
 rintro us H2 s2 hwl hle2 ⟨ys,hA,hyl,hok⟩
 rw [Int.toNat_natCast] at hyl
 have hcn2:=hcn.same s2
 refine (jA rfl (jA rfl (jA rfl ((eG s x wl ns us ys _ R L N (S1 rfl (s2.seq hS1) h63 hcn2 hdr hwl hA (by omega) hok (fun st d ms pl H3 s3 hst hfl hd0 hml=>?_)))))))
 have hG:Stage (jF cP cB cU) cR cN [] H3 x wl st us R L N ys d ms pl:=⟨hcn2.same s3,hdr,s3 _ _ hwl,hA.mono (WyAt.same s3),hst,hfl,hml⟩
 have s13:=(s1.trans s2).trans s3
 have hS3:=s13.seq hS
 have few:∀k,((kR R L N ys).1 k).length≤5:=fun k=>Nat.le_trans (AU k) (by omega)
 have hdom:bX R L ys (d,ms,pl):=⟨hd0,hfl,hml⟩
 obtain ⟨NN,hF⟩:=xN (M:=vN ys) (k0:=kD (d,ms,pl)) few
 refine (jA rfl (jA rfl (jA rfl ((bW x wl st us ys d ms pl _ R L N NN (ZF rfl hG hd0 (hT0.same s13) hF (fun hle hany t rr lr xs des kf H4 s4 hT4 ht hrr hks hpath hmk hdl=>?_) (fun hle hany t lr H4 s4 hT4 ht=>(jA rfl (jR (SqT.of ht) rfl (⟨rfl,jA rfl (JW (fun e=>absurd (V.str.inj e) (by decide +kernel)) (jA rfl (jR (SqT.of ht) rfl (⟨rfl,jA rfl (vD rfl (q _))⟩))))⟩)))) (fun hlt t a b H4 s4 hT4 ht=>(jA rfl (jR (SqT.of ht) rfl (⟨rfl,jA rfl (JW (fun e=>absurd (V.str.inj e) (by decide +kernel)) (jA rfl (jR (SqT.of ht) rfl (⟨rfl,jA rfl (qV (fun e=>absurd (V.str.inj e) (by decide +kernel)) (jA rfl (jR (SqT.of ht) rfl (⟨rfl,q _⟩))))⟩))))⟩))))))))))
 have hNN:NN+1≤16:=by
  have:=gI (T:=kR R L N ys) (M:=vN ys) (k0:=kD (d,ms,pl)) NN hF.low
  omega
 refine (jA rfl (jR (SqT.of ht) rfl (⟨rfl,jA rfl (JX rfl ?_)⟩)))
 have hGN:=(hG.noT.same s4).noT
 have hSN:SqL K (noT H4) s (ns.map V.int):=o4 (s4.seq (o4 hS3))
 have hS4:=s4.seq (o4 hS3)
 have htN:=qJ ht (fun _ z=>nomatch z)
 have hrN:=qJ hrr (fun _ z=>nomatch z)
 have hkN:=hks.noT
 have hxl:=hks.1
 refine (jA rfl (⟨s,jA rfl (⟨.inl hS4,_,_,rfl,rfl,⟨by decide,by decide⟩,_,_,rfl,rfl,?_⟩)⟩))
 rw [List.length_map]
 refine ⟨2,rfl,by decide,by decide,gG (n:=(2:Int).toNat) (fun i σ Hi=>∃(st:Addr) (m2:List Int) (c1 c2:Option V),σ=[some (.ref s),some (.ref x),some (.ref wl),some (.ref st),some (.ref t),some (.int (((ns.length:Nat):Int) / 2+1)),c1,c2]∧StAt Hi st d m2 pl∧Wet R L ms m2∧Tabs Hi tA tH (kS j9) (kS kF)∧Same (noT H4) Hi) (vW st ms none none (yI rfl (hG.sts.noT.same s4) (Wet.refl _ _ _) hT4 (w8 (Same.refl _)))) ?_ ?_⟩
 ·rintro i σ Hi hi ⟨st,m2,c1,c2,rfl,hst,hW,hT,sm⟩
  have hi:i<2:=hi
  rw [Int.zero_add]
  refine (jA rfl (jA rfl (jA rfl (jA rfl (jA rfl (j7 (⟨.inl ⟨by omega,by omega⟩,jA rfl (jA rfl (jA rfl (j7 (⟨.inl ⟨by omega,by omega⟩,jA rfl (j7 ((jA rfl (⟨s,jA rfl (⟨sm.seq hSN,fun sl hsl0=>?_⟩)⟩))))⟩))))⟩)))))))
  try dsimp only
  generalize hc1:some ((i:Int)*(((ns.length:Nat):Int) / 2+1))=lo at hsl0 ⊢
  generalize hc2:some ((i:Int)*(((ns.length:Nat):Int) / 2+1)+(((ns.length:Nat):Int) / 2+1))=hi2 at hsl0 ⊢
  obtain ⟨zz,ezz,hzl⟩:=MC ns lo hi2
  rw [ezz]
  have u1:=jI hsl0 (.lst (zz.map V.int))
  have sm1:=sm.trans u1
  refine (SZ x st sl zz d m2 pl _ R L N (Z5 rfl (hGN.cn.same sm1) hdr jE (hst.same u1) (by rw [hW.len];exact hml) (fun st2 m3 Hb s2' hst2 hW2=>?_)))
  have sm2:=sm1.trans s2'
  have hW3:=hW.trans hW2
  have hTb:=(hT.same u1).same s2'
  have hGb:Stage (jF cP cB cU) cR cN [] Hb x wl st2 us R L N ys d m3 pl:=⟨hGN.cn.same sm2,hdr,sm2 _ _ hGN.wls,hGN.wys.mono (WyAt.same sm2),hst2,hfl,by rw [hW3.len];exact hml⟩
  obtain ⟨kf',hp',hmk'⟩:=wF hdr des (d,ms,pl) (d,m3,pl) kf hdom ⟨rfl,rfl,hW3⟩ hpath hmk
  have htb:=sm2 _ _ htN
  have hrb:=sm2 _ _ hrN
  refine (jA rfl (jA rfl (jA rfl (jA rfl (jR (SqT.of htb) rfl (⟨rr,jA rfl (⟨.inl (SqL.of hrb),fun cp hcp0=>?_⟩)⟩))))))
  have u3:=jI hcp0 (.lst xs)
  refine (SY x wl st2 cp us xs des ys d m3 pl _ R L N (ZF rfl (hGb.same u3) hd0 (hTb.same u3) jE ((hkN.same sm2).same u3) (by omega) (fun Hc s3' hTc=>?_)))
  rw [KH hp' hmk']
  refine ⟨_,_,rfl,rfl,jA rfl (yG ?_)⟩
  have smc:Same (noT H4) Hc:=n5 (w8 (Same.refl _)) (fun b o e=>s3' b o (qJ (u3 _ _ (sm2 b o (qJ (Q0 e).1 (Q0 e).2))) (Q0 e).2))
  have hstc:=(hst2.same u3).noT.same s3'
  have hGc:Stage (jF cP cB cU) cR cN [] Hc x wl st2 us R L N ys d m3 pl:=⟨hGN.cn.same smc,hdr,smc _ _ hGN.wls,hGN.wys.mono (WyAt.same smc),hstc,hfl,by rw [hW3.len];exact hml⟩
  obtain ⟨N2,hF2⟩:=xN (M:=vN ys) (k0:=kD (d,m3,pl)) few
  have hgo:∀(t2:Addr) (Hd:Hp),Same (noT Hc) Hd→Tabs Hd tA tH (kS j9) (kS kF)→∃(st:Addr) (m2:List Int) (c1 c2:Option V),[some (.ref s),some (.ref x),some (.ref wl),some (.ref st2),some (.ref t),some (.int (((ns.length:Nat):Int) / 2+1)),some (.int (i:Int)),some (.ref t2)]=[some (.ref s),some (.ref x),some (.ref wl),some (.ref st),some (.ref t),some (.int (((ns.length:Nat):Int) / 2+1)),c1,c2]∧StAt Hd st d m2 pl∧Wet R L ms m2∧Tabs Hd tA tH (kS j9) (kS kF)∧Same (noT H4) Hd:=fun t2 Hd s hTd=>⟨st2,m3,_,jA rfl (⟨hstc.noT.same s,hW3,hTd,fun b o e=>s b o (qJ (smc b o e) (Q0 e).2)⟩)⟩
  refine (jA rfl (jA rfl (jA rfl ((bW x wl st2 us ys d m3 pl _ R L N N2 (ZF rfl hGc hd0 hTc hF2 (fun hle2 hany2 t2 rr2 lr2 xs2 des2 kf2 Hd s4' hTd ht2 hrr2 hks2 hp2 hmk2 hdl2=>?_) (fun hle2 hany2 t2 lr2 Hd s4' hTd ht2=>?_) (fun hlt t2 a b Hd s4' hTd ht2=>(jA rfl (jR (SqT.of ht2) rfl (⟨rfl,jA rfl (JX rfl (hgo t2 Hd s4' hTd))⟩))))))))))
  ·have hN2:=(tK hp' hmk' hF2.low (hF2.stop.resolve_right (by omega))).1
   have smd:Same (noT H4) Hd:=fun b o e=>s4' b o (qJ (smc b o e) (Q0 e).2)
   have htd:=smd _ _ htN
   have hx2:=hks2.1
   refine (jA rfl (jR (SqT.of ht2) rfl (⟨rfl,jA rfl (JW (fun e=>absurd (V.str.inj e) (by decide +kernel)) (jA rfl (jR (SqT.of ht2) rfl (⟨rfl,jA rfl (JX rfl (jA rfl (jR (SqT.of ht2) rfl (⟨rr2,jA rfl (⟨.inl (SqL.of hrr2),jA rfl (jR (SqT.of htd) rfl (⟨rr,jA rfl (⟨.inl (SqL.of (smd _ _ hrN)),_,_,rfl,rfl,jA rfl (qV (by omega) (hgo t2 Hd s4' hTd))⟩)⟩))⟩)⟩))))⟩))))⟩)))
  ·have:=(tK hp' hmk' hF2.low (hF2.stop.resolve_right (by omega))).2
   rw [hany2] at this
   cases this
 rintro σ Hi ⟨st,m2,c1,c2,rfl,hst,hW,hT,sm⟩
 exact q _
end
theorem all_mk {l:W.OpenLaw} {h:Heap} {mg:Str→Option Value} {fa f0 f1 f2 f3 f4 f5 f6 f7 f8 f9 f10 f11 f12 f13 f14 f15 f16 f17 f18 f19 f20 f21 f22 f23 f24 f25 f26 f27 f28 f29 f30 f31 f32 f33 f34 f35 f36 f37 f38 f39 f40 f41 f42 f43 f44 f45 f46 f47 f48 f49 f50 f51 f52 f53 f54 f55 f56 f57 f58 f61 f62 f63 f64 f65 f66 f67 f68 f69 f70 f71 f72 f73 f74 f75 f76 f77:Addr} {ctA ctH:Addr} {cP cB cU:Addr} {dn0:Nat} {tkS:Tok} {eL eTW:Addr} {tkH:Tok} (X:K.In h) (G:h.Ns mainGlobals mg) (hfa:mg "law"=some (.ref fa))
 {od23 an23 od61 an61 od62 an62 od77 an77:Option Addr} {sl23 sl61 sl62 sl77:Array (Option Value)} {oc23 kV23 dc23 pm23 cd23 ct23 oc61 kV61 dc61 pm61 cd61 ct61 oc62 kV62 dc62 pm62 cd62 ct62 oc77 kV77 dc77 pm77 cd77 ct77:Value} {T23:Addr} {oT23:Obj}
  (aC_P:W.nsIn K mainGlobals "PlainLock"=some (some (.ref cP)))
  (aC_B:W.nsIn K mainGlobals "BasinLock"=some (some (.ref cB)))
  (aC_U:W.nsIn K mainGlobals "PumpLock"=some (some (.ref cU)))
  (aC_R:W.nsIn K mainGlobals "Reach"=some (some (.ref cR)))
  (aC_N:W.nsIn K mainGlobals "Canal"=some (some (.ref cN)))
  (aX_NotNow:W.nsIn K mainGlobals "NotNow"=some (some (.ref eW)))
  (aX_NotLinked:W.nsIn K mainGlobals "NotLinked"=some (some (.ref eL)))
  (aX_TooWide:W.nsIn K mainGlobals "TooWide"=some (some (.ref eTW)))
  (a0:W.nsIn K mainGlobals "poured_all"=some (some (.ref f0)))
  (p0:jY K "poured_all" "poured_all" mP f0)
  (a1:W.nsIn K mainGlobals "over"=some (some (.ref f1)))
  (p1:jY K "over" "over" mL f1)
  (a2:W.nsIn K mainGlobals "last_first"=some (some (.ref f2)))
  (p2:jY K "last_first" "last_first" mE f2)
  (a3:W.nsIn K mainGlobals "spills"=some (some (.ref f3)))
  (p3:jY K "spills" "spills" mU f3)
  (a4:W.nsIn K mainGlobals "spill_pours"=some (some (.ref f4)))
  (p4:jY K "spill_pours" "spill_pours" fG f4)
  (a5:W.nsIn K mainGlobals "settled"=some (some (.ref f5)))
  (p5:jY K "settled" "settled" mT f5)
  (a6:W.nsIn K mainGlobals "with_spills"=some (some (.ref f6)))
  (p6:jY K "with_spills" "with_spills" mZ f6)
  (a7:W.nsIn K mainGlobals "parts_not_nought"=some (some (.ref f7)))
  (p7:jY K "parts_not_nought" "parts_not_nought" fE f7)
  (a8:W.findIn K (.ref cP) "__init__"=some (some (.ref f8)))
  (i8:W.isFn K (.ref f8)=true)
  (ac8:W.findCls K (.ref cP) (.type "type") "__init__"=some (.val (.ref f8)))
  (p8:jY K "__init__" "PlainLock.__init__" lJ f8)
  (a9:W.findIn K (.ref cB) "__init__"=some (some (.ref f9)))
  (i9:W.isFn K (.ref f9)=true)
  (p9:jY K "__init__" "BasinLock.__init__" i5 f9)
  (a10:W.findIn K (.ref cU) "__init__"=some (some (.ref f10)))
  (i10:W.isFn K (.ref f10)=true)
  (p10:jY K "__init__" "PumpLock.__init__" lO f10)
  (a11:W.findIn K (.ref cR) "__init__"=some (some (.ref f11)))
  (i11:W.isFn K (.ref f11)=true)
  (p11:jY K "__init__" "Reach.__init__" lS f11)
  (a12:W.findIn K (.ref cP) "kind"=some (some (.ref f12)))
  (i12:W.isFn K (.ref f12)=true)
  (p12:jY K "kind" "PlainLock.kind" lM f12)
  (a13:W.findIn K (.ref cB) "kind"=some (some (.ref f13)))
  (i13:W.isFn K (.ref f13)=true)
  (p13:jY K "kind" "BasinLock.kind" lA f13)
  (a14:W.findIn K (.ref cU) "kind"=some (some (.ref f14)))
  (i14:W.isFn K (.ref f14)=true)
  (p14:jY K "kind" "PumpLock.kind" lR f14)
  (a15:W.findIn K (.ref cP) "extra"=some (some (.ref f15)))
  (i15:W.isFn K (.ref f15)=true)
  (p15:jY K "extra" "PlainLock.extra" lK f15)
  (a16:W.findIn K (.ref cB) "extra"=some (some (.ref f16)))
  (i16:W.isFn K (.ref f16)=true)
  (p16:jY K "extra" "BasinLock.extra" i6 f16)
  (a17:W.findIn K (.ref cU) "extra"=some (some (.ref f17)))
  (i17:W.isFn K (.ref f17)=true)
  (p17:jY K "extra" "PumpLock.extra" lP f17)
  (a18:W.findIn K (.ref cP) "fill_parts"=some (some (.ref f18)))
  (i18:W.isFn K (.ref f18)=true)
  (p18:jY K "fill_parts" "PlainLock.fill_parts" lL f18)
  (a19:W.findIn K (.ref cB) "fill_parts"=some (some (.ref f19)))
  (i19:W.isFn K (.ref f19)=true)
  (p19:jY K "fill_parts" "BasinLock.fill_parts" i7 f19)
  (a20:W.findIn K (.ref cU) "fill_parts"=some (some (.ref f20)))
  (i20:W.isFn K (.ref f20)=true)
  (p20:jY K "fill_parts" "PumpLock.fill_parts" lQ f20)
  (a21:W.findIn K (.ref cP) "let_parts"=some (some (.ref f21)))
  (a21_U:W.findIn K (.ref cU) "let_parts"=some (some (.ref f21)))
  (i21:W.isFn K (.ref f21)=true)
  (p21:jY K "let_parts" "PlainLock.let_parts" lN f21)
  (a22:W.findIn K (.ref cB) "let_parts"=some (some (.ref f22)))
  (i22:W.isFn K (.ref f22)=true)
  (p22:jY K "let_parts" "BasinLock.let_parts" lB f22)
  (a23:W.findIn K (.ref cN) "__init__"=some (some (.ref f23)))
  (i23:W.isFn K (.ref f23)=true)
  (l23:K.lookup f23=some ⟨oc23,od23,.func (W.fnOf "__init__" "Canal.__init__" (y8 ZJ) (vI ZJ) (jG ZJ) (.ref T23) kV23 dc23 pm23 an23 cd23 ct23),sl23⟩)
  (c23:W.codeIn K cd23 "Canal.__init__"=true)
  (k23:W.keepIn K (.ref f23)=true)
  (lT23:K.lookup T23=some oT23)
  (dT23:oT23.data=.seq ([.none]:List Value).toArray dn0)
  (a24:W.findIn K (.ref cN) "sea"=some (some (.ref f24)))
  (i24:W.isFn K (.ref f24)=true)
  (p24:jY K "sea" "Canal.sea" lG f24)
  (a25:W.findIn K (.ref cN) "sky"=some (some (.ref f25)))
  (i25:W.isFn K (.ref f25)=true)
  (p25:jY K "sky" "Canal.sky" lH f25)
  (a26:W.findIn K (.ref cN) "many"=some (some (.ref f26)))
  (i26:W.isFn K (.ref f26)=true)
  (p26:jY K "many" "Canal.many" lF f26)
  (a27:W.findIn K (.ref cN) "chamber"=some (some (.ref f27)))
  (i27:W.isFn K (.ref f27)=true)
  (p27:jY K "chamber" "Canal.chamber" lD f27)
  (a28:W.findIn K (.ref cN) "basin"=some (some (.ref f28)))
  (i28:W.isFn K (.ref f28)=true)
  (p28:jY K "basin" "Canal.basin" lC f28)
  (a29:W.findIn K (.ref cN) "weirs"=some (some (.ref f29)))
  (i29:W.isFn K (.ref f29)=true)
  (p29:jY K "weirs" "Canal.weirs" eT f29)
  (a30:W.findIn K (.ref cN) "start"=some (some (.ref f30)))
  (i30:W.isFn K (.ref f30)=true)
  (p30:jY K "start" "Canal.start" eS f30)
  (a31:W.findIn K (.ref cN) "full"=some (some (.ref f31)))
  (i31:W.isFn K (.ref f31)=true)
  (p31:jY K "full" "Canal.full" lE f31)
  (a32:W.nsIn K mainGlobals "filling"=some (some (.ref f32)))
  (p32:jY K "filling" "filling" eY f32)
  (a33:W.nsIn K mainGlobals "letting"=some (some (.ref f33)))
  (p33:jY K "letting" "letting" fB f33)
  (a34:W.nsIn K mainGlobals "given_by"=some (some (.ref f34)))
  (p34:jY K "given_by" "given_by" eZ f34)
  (a35:W.nsIn K mainGlobals "basin_after"=some (some (.ref f35)))
  (p35:jY K "basin_after" "basin_after" eV f35)
  (a36:W.nsIn K mainGlobals "passage"=some (some (.ref f36)))
  (p36:jY K "passage" "passage" mO f36)
  (a37:W.nsIn K mainGlobals "step_ends"=some (some (.ref f37)))
  (p37:jY K "step_ends" "step_ends" mV f37)
  (a38:W.nsIn K mainGlobals "linked"=some (some (.ref f38)))
  (p38:jY K "linked" "linked" mH f38)
  (a39:W.nsIn K mainGlobals "steps_to_do"=some (some (.ref f39)))
  (p39:jY K "steps_to_do" "steps_to_do" mW f39)
  (a40:W.nsIn K mainGlobals "reach_of"=some (some (.ref f40)))
  (p40:jY K "reach_of" "reach_of" mR f40)
  (a41:W.nsIn K mainGlobals "lying"=some (some (.ref f41)))
  (p41:jY K "lying" "lying" fC f41)
  (a42:W.nsIn K mainGlobals "night_pours"=some (some (.ref f42)))
  (p42:jY K "night_pours" "night_pours" Z8 f42)
  (a43:W.nsIn K mainGlobals "has_no_berth"=some (some (.ref f43)))
  (p43:jY K "has_no_berth" "has_no_berth" mC f43)
  (a44:W.nsIn K mainGlobals "next_step"=some (some (.ref f44)))
  (p44:jY K "next_step" "next_step" mK f44)
  (a45:W.nsIn K mainGlobals "one_step_on"=some (some (.ref f45)))
  (p45:jY K "one_step_on" "one_step_on" fD f45)
  (a46:W.nsIn K mainGlobals "counted_on"=some (some (.ref f46)))
  (p46:jY K "counted_on" "counted_on" l9 f46)
  (a47:W.nsIn K mainGlobals "by_number"=some (some (.ref f47)))
  (p47:jY K "by_number" "by_number" eX f47)
  (a48:W.nsIn K mainGlobals "pass_pours"=some (some (.ref f48)))
  (p48:jY K "pass_pours" "pass_pours" mM f48)
  (a49:W.nsIn K mainGlobals "let_pours"=some (some (.ref f49)))
  (p49:jY K "let_pours" "let_pours" mG f49)
  (a50:W.nsIn K mainGlobals "is_below_least"=some (some (.ref f50)))
  (p50:jY K "is_below_least" "is_below_least" mD f50)
  (a51:W.nsIn K mainGlobals "falls_short"=some (some (.ref f51)))
  (p51:jY K "falls_short" "falls_short" mB f51)
  (a52:W.nsIn K mainGlobals "why_no_pass"=some (some (.ref f52)))
  (p52:jY K "why_no_pass" "why_no_pass" mX f52)
  (a53:W.nsIn K mainGlobals "why_not"=some (some (.ref f53)))
  (p53:jY K "why_not" "why_not" mY f53)
  (a54:W.nsIn K mainGlobals "pours"=some (some (.ref f54)))
  (p54:jY K "pours" "pours" mQ f54)
  (a55:W.nsIn K mainGlobals "after"=some (some (.ref f55)))
  (p55:jY K "after" "after" lZ f55)
  (a56:W.nsIn K mainGlobals "may"=some (some (.ref f56)))
  (p56:jY K "may" "may" Z7 f56)
  (a57:W.nsIn K mainGlobals "steps_left"=some (some (.ref f57)))
  (p57:jY K "steps_left" "steps_left" fH f57)
  (a58:W.nsIn K mainGlobals "all_home"=some (some (.ref f58)))
  (p58:jY K "all_home" "all_home" l7 f58)
  (a61:W.nsIn K mainGlobals "homecoming"=some (some (.ref f61)))
  (l61:K.lookup f61=some ⟨oc61,od61,.func (W.fnOf "homecoming" "homecoming" (y8 kF) (vI kF) (jG kF) .none kV61 dc61 pm61 an61 cd61 ct61),sl61⟩)
  (c61:W.codeIn K cd61 "homecoming"=true)
  (k61:W.keepIn K (.ref f61)=true)
  (a62:W.nsIn K mainGlobals "ahead_on"=some (some (.ref f62)))
  (l62:K.lookup f62=some ⟨oc62,od62,.func (W.fnOf "ahead_on" "ahead_on" (y8 j9) (vI j9) (jG j9) .none kV62 dc62 pm62 an62 cd62 ct62),sl62⟩)
  (c62:W.codeIn K cd62 "ahead_on"=true)
  (k62:W.keepIn K (.ref f62)=true)
  (a63:W.nsIn K mainGlobals "row_to"=some (some (.ref f63)))
  (p63:jY K "row_to" "row_to" mS f63)
  (a64:W.nsIn K mainGlobals "next_layer"=some (some (.ref f64)))
  (p64:jY K "next_layer" "next_layer" mJ f64)
  (a65:W.nsIn K mainGlobals "layered"=some (some (.ref f65)))
  (p65:jY K "layered" "layered" fA f65)
  (a66:W.nsIn K mainGlobals "row_holds"=some (some (.ref f66)))
  (p66:jY K "row_holds" "row_holds" fF f66)
  (a67:W.nsIn K mainGlobals "look"=some (some (.ref f67)))
  (p67:jY K "look" "look" mI f67)
  (a68:W.nsIn K mainGlobals "leads_home"=some (some (.ref f68)))
  (p68:jY K "leads_home" "leads_home" mF f68)
  (a69:W.nsIn K mainGlobals "_law_draw"=some (some (.ref f69)))
  (p69:jY K "_law_draw" "_law_draw" lU f69)
  (a70:W.nsIn K mainGlobals "_law_reach"=some (some (.ref f70)))
  (p70:jY K "_law_reach" "_law_reach" lW f70)
  (a71:W.nsIn K mainGlobals "_law_lock"=some (some (.ref f71)))
  (p71:jY K "_law_lock" "_law_lock" lV f71)
  (a72:W.nsIn K mainGlobals "_law_canal"=some (some (.ref f72)))
  (p72:jY K "_law_canal" "_law_canal" cG f72)
  (a73:W.nsIn K mainGlobals "_law_way"=some (some (.ref f73)))
  (p73:jY K "_law_way" "_law_way" cH f73)
  (a74:W.nsIn K mainGlobals "_law_state"=some (some (.ref f74)))
  (p74:jY K "_law_state" "_law_state" eU f74)
  (a75:W.nsIn K mainGlobals "_law_told"=some (some (.ref f75)))
  (p75:jY K "_law_told" "_law_told" lX f75)
  (a76:W.nsIn K mainGlobals "_law_wetter"=some (some (.ref f76)))
  (p76:jY K "_law_wetter" "_law_wetter" lY f76)
  (a77:W.nsIn K mainGlobals "law"=some (some (.ref f77)))
  (l77:K.lookup f77=some ⟨oc77,od77,.func (W.fnOf "law" "law" (y8 JK) (vI JK) (jG JK) .none kV77 dc77 pm77 an77 cd77 ct77),sl77⟩)
  (c77:W.codeIn K cd77 "law"=true)
  (k77:W.keepIn K (.ref f77)=true)
  (z_list:W.nsIn K mainGlobals "list"=some none)
  (z_tuple:W.nsIn K mainGlobals "tuple"=some none)
  (z_max:W.nsIn K mainGlobals "max"=some none)
  (z_range:W.nsIn K mainGlobals "range"=some none)
  (z_len:W.nsIn K mainGlobals "len"=some none)
  (z_sum:W.nsIn K mainGlobals "sum"=some none)
  (z_zip:W.nsIn K mainGlobals "zip"=some none)
  (z_enumerate:W.nsIn K mainGlobals "enumerate"=some none)
  (z_min:W.nsIn K mainGlobals "min"=some none)
  (z_reversed:W.nsIn K mainGlobals "reversed"=some none)
  (z_int:W.nsIn K mainGlobals "int"=some none)
  (pg_P:W.plainGet K cP Str.empty=true)
  (hdd_P:W.hasDictIn K cP=true)
  (po_P:W.plainOver K cP=true)
  (sa_P:W.findIn K (.ref cP) "__setattr__"=some (some (.builtin "object.__setattr__")))
  (mk_P:W.makesIn K cP=true)
  (kc_P:W.keepIn K (.ref cP)=true)
  (n_name_P:W.findIn K (.ref cP) "name"=some none)
  (n_high_P:W.findIn K (.ref cP) "high"=some none)
  (n_low_P:W.findIn K (.ref cP) "low"=some none)
  (n_room_P:W.findIn K (.ref cP) "room"=some none)
  (pg_B:W.plainGet K cB Str.empty=true)
  (hdd_B:W.hasDictIn K cB=true)
  (po_B:W.plainOver K cB=true)
  (sa_B:W.findIn K (.ref cB) "__setattr__"=some (some (.builtin "object.__setattr__")))
  (mk_B:W.makesIn K cB=true)
  (kc_B:W.keepIn K (.ref cB)=true)
  (n_name_B:W.findIn K (.ref cB) "name"=some none)
  (n_high_B:W.findIn K (.ref cB) "high"=some none)
  (n_low_B:W.findIn K (.ref cB) "low"=some none)
  (n_room_B:W.findIn K (.ref cB) "room"=some none)
  (n_side_B:W.findIn K (.ref cB) "side"=some none)
  (pg_U:W.plainGet K cU Str.empty=true)
  (hdd_U:W.hasDictIn K cU=true)
  (po_U:W.plainOver K cU=true)
  (sa_U:W.findIn K (.ref cU) "__setattr__"=some (some (.builtin "object.__setattr__")))
  (mk_U:W.makesIn K cU=true)
  (kc_U:W.keepIn K (.ref cU)=true)
  (n_name_U:W.findIn K (.ref cU) "name"=some none)
  (n_high_U:W.findIn K (.ref cU) "high"=some none)
  (n_low_U:W.findIn K (.ref cU) "low"=some none)
  (n_room_U:W.findIn K (.ref cU) "room"=some none)
  (n_lift_U:W.findIn K (.ref cU) "lift"=some none)
  (g1:W.specialIn K (.ref cP) "__getattribute__"=some (some (.builtin "type.__getattribute__")))
  (g2:W.readsIn K cP (.type "type")=true)
  (pg_R:W.plainGet K cR Str.empty=true)
  (hdd_R:W.hasDictIn K cR=true)
  (po_R:W.plainOver K cR=true)
  (sa_R:W.findIn K (.ref cR) "__setattr__"=some (some (.builtin "object.__setattr__")))
  (mk_R:W.makesIn K cR=true)
  (kc_R:W.keepIn K (.ref cR)=true)
  (nR_name:W.findIn K (.ref cR) "name"=some none)
  (nR_least:W.findIn K (.ref cR) "least"=some none)
  (nR_crest:W.findIn K (.ref cR) "crest"=some none)
  (nR_berths:W.findIn K (.ref cR) "berths"=some none)
  (nR_water:W.findIn K (.ref cR) "water"=some none)
  (nR_target:W.findIn K (.ref cR) "target"=some none)
  (pg_N:W.plainGet K cN Str.empty=true)
  (hdd_N:W.hasDictIn K cN=true)
  (po_N:W.plainOver K cN=true)
  (sa_N:W.findIn K (.ref cN) "__setattr__"=some (some (.builtin "object.__setattr__")))
  (mk_N:W.makesIn K cN=true)
  (kc_N:W.keepIn K (.ref cN)=true)
  (nN_reaches:W.findIn K (.ref cN) "reaches"=some none)
  (nN_locks:W.findIn K (.ref cN) "locks"=some none)
  (nN_nights:W.findIn K (.ref cN) "nights"=some none)
  (gSEA:W.nsIn K mainGlobals "SEA"=some (some (.int (-1) tkS)))
  (xX_NotNow:W.excIn K eW [.type "ValueError",.type "Exception",.type "BaseException",.type "object"] "ValueError.__new__"=true)
  (xX_NotLinked:W.excIn K eL [.type "ValueError",.type "Exception",.type "BaseException",.type "object"] "ValueError.__new__"=true)
  (xX_TooWide:W.excIn K eTW [.type "ValueError",.type "Exception",.type "BaseException",.type "object"] "ValueError.__new__"=true)
  (gHOME:W.nsIn K mainGlobals "HOME"=some (some (.int (-1) tkH)))
  (ht62:W.tabIn K "ahead_on"=some (ctA,tA))
  (ht61:W.tabIn K "homecoming"=some (ctH,tH)) :
  ∃fd:FuncData,(∀(s:Shared) (v:Value),BindsTo s fd ⟨[v],[]⟩ [("script",v)])∧∀base:Heap,K.In base→base.Ns mainGlobals mg→(∀p∈([(ctA,tA),(ctH,tH)]:List (Addr×Addr)),W.CodeHd base p.1 p.2∧base.BuiltinsAt mg p.2∧PySem.mainGlobals≠p.2)→FnOk l.prog w K mg base jP 21 fa fd ["script"] (gS tA tH K):=by
 have e:=hfa.symm.trans (W.mg_of X G a77)
 cases e
 obtain ⟨_,F0⟩:=p0
 have k0:=F0.kp
 have b0:=F0.binds (ps:=["waters","pours"]) fun _ _ _ _ _ _ us hl=>match us,hl with|[_,_],_=>rfl
 obtain ⟨_,F1⟩:=p1
 have k1:=F1.kp
 have b1:=F1.binds (ps:=["weirs","waters","at"]) fun _ _ _ _ _ _ us hl=>match us,hl with|[_,_,_],_=>rfl
 obtain ⟨_,F2⟩:=p2
 have k2:=F2.kp
 have b2:=F2.binds (ps:=["weirs"]) fun _ _ _ _ _ _ us hl=>match us,hl with|[_],_=>rfl
 obtain ⟨_,F3⟩:=p3
 have k3:=F3.kp
 have b3:=F3.binds (ps:=["weirs","waters"]) fun _ _ _ _ _ _ us hl=>match us,hl with|[_,_],_=>rfl
 obtain ⟨_,F4⟩:=p4
 have k4:=F4.kp
 have b4:=F4.binds (ps:=["weirs","waters"]) fun _ _ _ _ _ _ us hl=>match us,hl with|[_,_],_=>rfl
 obtain ⟨_,F5⟩:=p5
 have k5:=F5.kp
 have b5:=F5.binds (ps:=["weirs","waters"]) fun _ _ _ _ _ _ us hl=>match us,hl with|[_,_],_=>rfl
 obtain ⟨_,F6⟩:=p6
 have k6:=F6.kp
 have b6:=F6.binds (ps:=["weirs","waters","pours"]) fun _ _ _ _ _ _ us hl=>match us,hl with|[_,_,_],_=>rfl
 obtain ⟨_,F7⟩:=p7
 have k7:=F7.kp
 have b7:=F7.binds (ps:=["parts"]) fun _ _ _ _ _ _ us hl=>match us,hl with|[_],_=>rfl
 obtain ⟨_,F8⟩:=p8
 have k8:=F8.kp
 have b8:=F8.binds (ps:=["self","name","high","low","room"]) fun _ _ _ _ _ _ us hl=>match us,hl with|[_,_,_,_,_],_=>rfl
 obtain ⟨_,F9⟩:=p9
 have k9:=F9.kp
 have b9:=F9.binds (ps:=["self","name","high","low","room","side"]) fun _ _ _ _ _ _ us hl=>match us,hl with|[_,_,_,_,_,_],_=>rfl
 obtain ⟨_,F10⟩:=p10
 have k10:=F10.kp
 have b10:=F10.binds (ps:=["self","name","high","low","room","lift"]) fun _ _ _ _ _ _ us hl=>match us,hl with|[_,_,_,_,_,_],_=>rfl
 obtain ⟨_,F11⟩:=p11
 have k11:=F11.kp
 have b11:=F11.binds (ps:=["self","name","least","crest","berths","water","target"]) fun _ _ _ _ _ _ us hl=>match us,hl with|[_,_,_,_,_,_,_],_=>rfl
 obtain ⟨_,F12⟩:=p12
 have k12:=F12.kp
 have b12:=F12.binds (ps:=["self"]) fun _ _ _ _ _ _ us hl=>match us,hl with|[_],_=>rfl
 obtain ⟨_,F13⟩:=p13
 have k13:=F13.kp
 have b13:=F13.binds (ps:=["self"]) fun _ _ _ _ _ _ us hl=>match us,hl with|[_],_=>rfl
 obtain ⟨_,F14⟩:=p14
 have k14:=F14.kp
 have b14:=F14.binds (ps:=["self"]) fun _ _ _ _ _ _ us hl=>match us,hl with|[_],_=>rfl
 obtain ⟨_,F15⟩:=p15
 have k15:=F15.kp
 have b15:=F15.binds (ps:=["self"]) fun _ _ _ _ _ _ us hl=>match us,hl with|[_],_=>rfl
 obtain ⟨_,F16⟩:=p16
 have k16:=F16.kp
 have b16:=F16.binds (ps:=["self"]) fun _ _ _ _ _ _ us hl=>match us,hl with|[_],_=>rfl
 obtain ⟨_,F17⟩:=p17
 have k17:=F17.kp
 have b17:=F17.binds (ps:=["self"]) fun _ _ _ _ _ _ us hl=>match us,hl with|[_],_=>rfl
 obtain ⟨_,F18⟩:=p18
 have k18:=F18.kp
 have b18:=F18.binds (ps:=["self","basin"]) fun _ _ _ _ _ _ us hl=>match us,hl with|[_,_],_=>rfl
 obtain ⟨_,F19⟩:=p19
 have k19:=F19.kp
 have b19:=F19.binds (ps:=["self","basin"]) fun _ _ _ _ _ _ us hl=>match us,hl with|[_,_],_=>rfl
 obtain ⟨_,F20⟩:=p20
 have k20:=F20.kp
 have b20:=F20.binds (ps:=["self","basin"]) fun _ _ _ _ _ _ us hl=>match us,hl with|[_,_],_=>rfl
 obtain ⟨_,F21⟩:=p21
 have k21:=F21.kp
 have b21:=F21.binds (ps:=["self","basin"]) fun _ _ _ _ _ _ us hl=>match us,hl with|[_,_],_=>rfl
 obtain ⟨_,F22⟩:=p22
 have k22:=F22.kp
 have b22:=F22.binds (ps:=["self","basin"]) fun _ _ _ _ _ _ us hl=>match us,hl with|[_,_],_=>rfl
 have F23:=ON (st:=ZJ) (ds:=[.none]) (n:=dn0) l23 c23 k23 lT23 (by first|exact dT23|rfl)
 have b23:Binds K _ ["self","reaches","locks","nights"] []:=F23.binds [] 4 rfl fun _ _ _ _ _ _ _ us hl=>match us,hl with|[_,_,_,_],_=>⟨_,rfl,rfl⟩
 have b23_1:Binds K _ ["self","reaches","locks","nights"] [.none]:=F23.binds [.none] 3 rfl fun _ _ _ _ _ _ _ us hl=>match us,hl with|[_,_,_],_=>⟨_,rfl,rfl⟩
 obtain ⟨_,F24⟩:=p24
 have k24:=F24.kp
 have b24:=F24.binds (ps:=["self"]) fun _ _ _ _ _ _ us hl=>match us,hl with|[_],_=>rfl
 obtain ⟨_,F25⟩:=p25
 have k25:=F25.kp
 have b25:=F25.binds (ps:=["self"]) fun _ _ _ _ _ _ us hl=>match us,hl with|[_],_=>rfl
 obtain ⟨_,F26⟩:=p26
 have k26:=F26.kp
 have b26:=F26.binds (ps:=["self"]) fun _ _ _ _ _ _ us hl=>match us,hl with|[_],_=>rfl
 obtain ⟨_,F27⟩:=p27
 have k27:=F27.kp
 have b27:=F27.binds (ps:=["self","k"]) fun _ _ _ _ _ _ us hl=>match us,hl with|[_,_],_=>rfl
 obtain ⟨_,F28⟩:=p28
 have k28:=F28.kp
 have b28:=F28.binds (ps:=["self","k"]) fun _ _ _ _ _ _ us hl=>match us,hl with|[_,_],_=>rfl
 obtain ⟨_,F29⟩:=p29
 have k29:=F29.kp
 have b29:=F29.binds (ps:=["self"]) fun _ _ _ _ _ _ us hl=>match us,hl with|[_],_=>rfl
 obtain ⟨_,F30⟩:=p30
 have k30:=F30.kp
 have b30:=F30.binds (ps:=["self"]) fun _ _ _ _ _ _ us hl=>match us,hl with|[_],_=>rfl
 obtain ⟨_,F31⟩:=p31
 have k31:=F31.kp
 have b31:=F31.binds (ps:=["self","waters","k"]) fun _ _ _ _ _ _ us hl=>match us,hl with|[_,_,_],_=>rfl
 obtain ⟨_,F32⟩:=p32
 have k32:=F32.kp
 have b32:=F32.binds (ps:=["lock","basin"]) fun _ _ _ _ _ _ us hl=>match us,hl with|[_,_],_=>rfl
 obtain ⟨_,F33⟩:=p33
 have k33:=F33.kp
 have b33:=F33.binds (ps:=["lock","basin"]) fun _ _ _ _ _ _ us hl=>match us,hl with|[_,_],_=>rfl
 obtain ⟨_,F34⟩:=p34
 have k34:=F34.kp
 have b34:=F34.binds (ps:=["vessel","pours"]) fun _ _ _ _ _ _ us hl=>match us,hl with|[_,_],_=>rfl
 obtain ⟨_,F35⟩:=p35
 have k35:=F35.kp
 have b35:=F35.binds (ps:=["basin","pours"]) fun _ _ _ _ _ _ us hl=>match us,hl with|[_,_],_=>rfl
 obtain ⟨_,F36⟩:=p36
 have k36:=F36.kp
 have b36:=F36.binds (ps:=["lock","full","basin","way"]) fun _ _ _ _ _ _ us hl=>match us,hl with|[_,_,_,_],_=>rfl
 obtain ⟨_,F37⟩:=p37
 have k37:=F37.kp
 have b37:=F37.binds (ps:=["lock","side"]) fun _ _ _ _ _ _ us hl=>match us,hl with|[_,_],_=>rfl
 obtain ⟨_,F38⟩:=p38
 have k38:=F38.kp
 have b38:=F38.binds (ps:=["canal","start","steps"]) fun _ _ _ _ _ _ us hl=>match us,hl with|[_,_,_],_=>rfl
 obtain ⟨_,F39⟩:=p39
 have k39:=F39.kp
 have b39:=F39.binds (ps:=["way","place"]) fun _ _ _ _ _ _ us hl=>match us,hl with|[_,_],_=>rfl
 obtain ⟨_,F40⟩:=p40
 have k40:=F40.kp
 have b40:=F40.binds (ps:=["canal","way","place"]) fun _ _ _ _ _ _ us hl=>match us,hl with|[_,_,_],_=>rfl
 obtain ⟨_,F41⟩:=p41
 have k41:=F41.kp
 have b41:=F41.binds (ps:=["canal","ways","state","reach"]) fun _ _ _ _ _ _ us hl=>match us,hl with|[_,_,_,_],_=>rfl
 obtain ⟨_,F42⟩:=p42
 have k42:=F42.kp
 have b42:=F42.binds (ps:=["canal","state","weather"]) fun _ _ _ _ _ _ us hl=>match us,hl with|[_,_,_],_=>rfl
 obtain ⟨_,F43⟩:=p43
 have k43:=F43.kp
 have b43:=F43.binds (ps:=["canal","ways","state","reach"]) fun _ _ _ _ _ _ us hl=>match us,hl with|[_,_,_,_],_=>rfl
 obtain ⟨_,F44⟩:=p44
 have k44:=F44.kp
 have b44:=F44.binds (ps:=["way","place"]) fun _ _ _ _ _ _ us hl=>match us,hl with|[_,_],_=>rfl
 obtain ⟨_,F45⟩:=p45
 have k45:=F45.kp
 have b45:=F45.binds (ps:=["places","boat"]) fun _ _ _ _ _ _ us hl=>match us,hl with|[_,_],_=>rfl
 obtain ⟨_,F46⟩:=p46
 have k46:=F46.kp
 have b46:=F46.binds (ps:=["state","deed","waters"]) fun _ _ _ _ _ _ us hl=>match us,hl with|[_,_,_],_=>rfl
 obtain ⟨_,F47⟩:=p47
 have k47:=F47.kp
 have b47:=F47.binds (ps:=["canal","k","named"]) fun _ _ _ _ _ _ us hl=>match us,hl with|[_,_,_],_=>rfl
 obtain ⟨_,F48⟩:=p48
 have k48:=F48.kp
 have b48:=F48.binds (ps:=["canal","ways","state","boat"]) fun _ _ _ _ _ _ us hl=>match us,hl with|[_,_,_,_],_=>rfl
 obtain ⟨_,F49⟩:=p49
 have k49:=F49.kp
 have b49:=F49.binds (ps:=["canal","state","k"]) fun _ _ _ _ _ _ us hl=>match us,hl with|[_,_,_],_=>rfl
 obtain ⟨_,F50⟩:=p50
 have k50:=F50.kp
 have b50:=F50.binds (ps:=["canal","waters","vessel"]) fun _ _ _ _ _ _ us hl=>match us,hl with|[_,_,_],_=>rfl
 obtain ⟨_,F51⟩:=p51
 have k51:=F51.kp
 have b51:=F51.binds (ps:=["canal","waters","moved"]) fun _ _ _ _ _ _ us hl=>match us,hl with|[_,_,_],_=>rfl
 obtain ⟨_,F52⟩:=p52
 have k52:=F52.kp
 have b52:=F52.binds (ps:=["canal","ways","state","boat"]) fun _ _ _ _ _ _ us hl=>match us,hl with|[_,_,_,_],_=>rfl
 obtain ⟨_,F53⟩:=p53
 have k53:=F53.kp
 have b53:=F53.binds (ps:=["canal","ways","state","deed"]) fun _ _ _ _ _ _ us hl=>match us,hl with|[_,_,_,_],_=>rfl
 obtain ⟨_,F54⟩:=p54
 have k54:=F54.kp
 have b54:=F54.binds (ps:=["canal","ways","state","deed"]) fun _ _ _ _ _ _ us hl=>match us,hl with|[_,_,_,_],_=>rfl
 obtain ⟨_,F55⟩:=p55
 have k55:=F55.kp
 have b55:=F55.binds (ps:=["canal","ways","state","deed"]) fun _ _ _ _ _ _ us hl=>match us,hl with|[_,_,_,_],_=>rfl
 obtain ⟨_,F56⟩:=p56
 have k56:=F56.kp
 have b56:=F56.binds (ps:=["canal","ways","state"]) fun _ _ _ _ _ _ us hl=>match us,hl with|[_,_,_],_=>rfl
 obtain ⟨_,F57⟩:=p57
 have k57:=F57.kp
 have b57:=F57.binds (ps:=["ways","state"]) fun _ _ _ _ _ _ us hl=>match us,hl with|[_,_],_=>rfl
 obtain ⟨_,F58⟩:=p58
 have k58:=F58.kp
 have b58:=F58.binds (ps:=["ways","state"]) fun _ _ _ _ _ _ us hl=>match us,hl with|[_,_],_=>rfl
 have F61:=cF (st:=kF) l61 c61 k61
 have b61:=F61.binds (ps:=["ways"]) fun _ _ _ _ _ _ us hl=>match us,hl with|[_],_=>rfl
 have F62:=cF (st:=j9) l62 c62 k62
 have b62:=F62.binds (ps:=["canal","ways"]) fun _ _ _ _ _ _ us hl=>match us,hl with|[_,_],_=>rfl
 obtain ⟨_,F63⟩:=p63
 have k63:=F63.kp
 have b63:=F63.binds (ps:=["came","state"]) fun _ _ _ _ _ _ us hl=>match us,hl with|[_,_],_=>rfl
 obtain ⟨_,F64⟩:=p64
 have k64:=F64.kp
 have b64:=F64.binds (ps:=["layer","ahead","came"]) fun _ _ _ _ _ _ us hl=>match us,hl with|[_,_,_],_=>rfl
 obtain ⟨_,F65⟩:=p65
 have k65:=F65.kp
 have b65:=F65.binds (ps:=["first","ahead","ended","most"]) fun _ _ _ _ _ _ us hl=>match us,hl with|[_,_,_,_],_=>rfl
 obtain ⟨_,F66⟩:=p66
 have k66:=F66.kp
 have b66:=F66.binds (ps:=["first","ahead","ended","row"]) fun _ _ _ _ _ _ us hl=>match us,hl with|[_,_,_,_],_=>rfl
 obtain ⟨_,F67⟩:=p67
 have k67:=F67.kp
 have b67:=F67.binds (ps:=["canal","ways","state","most"]) fun _ _ _ _ _ _ us hl=>match us,hl with|[_,_,_,_],_=>rfl
 obtain ⟨_,F68⟩:=p68
 have k68:=F68.kp
 have b68:=F68.binds (ps:=["canal","ways","state","row"]) fun _ _ _ _ _ _ us hl=>match us,hl with|[_,_,_,_],_=>rfl
 obtain ⟨_,F69⟩:=p69
 have k69:=F69.kp
 have b69:=F69.binds (ps:=["script","k","many"]) fun _ _ _ _ _ _ us hl=>match us,hl with|[_,_,_],_=>rfl
 obtain ⟨_,F70⟩:=p70
 have k70:=F70.kp
 have b70:=F70.binds (ps:=["script","k","unit"]) fun _ _ _ _ _ _ us hl=>match us,hl with|[_,_,_],_=>rfl
 obtain ⟨_,F71⟩:=p71
 have k71:=F71.kp
 have b71:=F71.binds (ps:=["script","k","reaches","unit"]) fun _ _ _ _ _ _ us hl=>match us,hl with|[_,_,_,_],_=>rfl
 obtain ⟨_,F72⟩:=p72
 have k72:=F72.kp
 have b72:=F72.binds (ps:=["script"]) fun _ _ _ _ _ _ us hl=>match us,hl with|[_],_=>rfl
 obtain ⟨_,F73⟩:=p73
 have k73:=F73.kp
 have b73:=F73.binds (ps:=["script","k","canal"]) fun _ _ _ _ _ _ us hl=>match us,hl with|[_,_,_],_=>rfl
 obtain ⟨_,F74⟩:=p74
 have k74:=F74.kp
 have b74:=F74.binds (ps:=["script","canal","ways"]) fun _ _ _ _ _ _ us hl=>match us,hl with|[_,_,_],_=>rfl
 obtain ⟨_,F75⟩:=p75
 have k75:=F75.kp
 have b75:=F75.binds (ps:=["canal","ways","state","most"]) fun _ _ _ _ _ _ us hl=>match us,hl with|[_,_,_,_],_=>rfl
 obtain ⟨_,F76⟩:=p76
 have k76:=F76.kp
 have b76:=F76.binds (ps:=["canal","state","cells"]) fun _ _ _ _ _ _ us hl=>match us,hl with|[_,_,_],_=>rfl
 have F77:=cF (st:=JK) l77 c77 k77
 have b77:=F77.binds (ps:=["script"]) fun _ _ _ _ _ _ us hl=>match us,hl with|[_],_=>rfl
 have T:Txt K mg cP cB cU cR cN tkS eW eL eTW tkH:={z_list:=W.mg_none_of X G z_list,z_tuple:=W.mg_none_of X G z_tuple,z_max:=W.mg_none_of X G z_max,z_range:=W.mg_none_of X G z_range,z_len:=W.mg_none_of X G z_len,z_sum:=W.mg_none_of X G z_sum,z_zip:=W.mg_none_of X G z_zip,z_enumerate:=W.mg_none_of X G z_enumerate,z_min:=W.mg_none_of X G z_min,z_reversed:=W.mg_none_of X G z_reversed,z_int:=W.mg_none_of X G z_int,cl:=fun kd=>match kd with|.plain=>⟨pg_P,hdd_P,po_P,sa_P⟩|.basin=>⟨pg_B,hdd_B,po_B,sa_B⟩|.pump=>⟨pg_U,hdd_U,po_U,sa_U⟩,n_name:=fun kd=>match kd with|.plain=>n_name_P|.basin=>n_name_B|.pump=>n_name_U,n_high:=fun kd=>match kd with|.plain=>n_high_P|.basin=>n_high_B|.pump=>n_high_U,n_low:=fun kd=>match kd with|.plain=>n_low_P|.basin=>n_low_B|.pump=>n_low_U,n_room:=fun kd=>match kd with|.plain=>n_room_P|.basin=>n_room_B|.pump=>n_room_U,n_side:=n_side_B,n_lift:=n_lift_U,c_PlainLock:=W.mg_of X G aC_P,c_BasinLock:=W.mg_of X G aC_B,c_PumpLock:=W.mg_of X G aC_U,clR:=⟨pg_R,hdd_R,po_R,sa_R⟩,nR_name:=nR_name,nR_least:=nR_least,nR_crest:=nR_crest,nR_berths:=nR_berths,nR_water:=nR_water,nR_target:=nR_target,c_Reach:=W.mg_of X G aC_R,clN:=⟨pg_N,hdd_N,po_N,sa_N⟩,nN_reaches:=nN_reaches,nN_locks:=nN_locks,nN_nights:=nN_nights,c_Canal:=W.mg_of X G aC_N,g_SEA:=W.mg_of X G gSEA,c_NotNow:=W.mg_of X G aX_NotNow,c_NotLinked:=W.mg_of X G aX_NotLinked,c_TooWide:=W.mg_of X G aX_TooWide,x_NotNow:=xX_NotNow,x_NotLinked:=xX_NotLinked,x_TooWide:=xX_TooWide,g_HOME:=W.mg_of X G gHOME}
 refine ⟨W.fnOf "law" "law" (y8 JK) (vI JK) (jG JK) .none kV77 dc77 pm77 an77 cd77 ct77,fun s v=>.of_eq rfl,fun base _ _ hTs=>?_⟩
 have D0:=kJ (FL (P:=l.prog) (w:=w) (base:=base) T F0) (W.mg_of X G a0) k0 b0
 have D1:=kJ (FH (P:=l.prog) (w:=w) (base:=base) T F1) (W.mg_of X G a1) k1 b1
 have D2:=kJ (E3 (P:=l.prog) (w:=w) (base:=base) T F2) (W.mg_of X G a2) k2 b2
 have D3:=kJ (FS (P:=l.prog) (w:=w) (base:=base) T F3 D2 D1) (W.mg_of X G a3) k3 b3
 have D4:=kJ (FR (P:=l.prog) (w:=w) (base:=base) T F4 D3 D2) (W.mg_of X G a4) k4 b4
 have D5:=kJ (FQ (P:=l.prog) (w:=w) (base:=base) T F5 D0 D4) (W.mg_of X G a5) k5 b5
 have D6:=kJ (FY (P:=l.prog) (w:=w) (base:=base) T F6 D4 D0) (W.mg_of X G a6) k6 b6
 have D7:=kJ (FI (P:=l.prog) (w:=w) (base:=base) T F7) (W.mg_of X G a7) k7 b7
 have G8:=DZ (P:=l.prog) (w:=w) (base:=base) T F8
 have MK_PlainLock:MkD l.prog w K mg base 1 "PlainLock" cP ["self","name","high","low","room"] (bC (jF cP cB cU)):=⟨T.c_PlainLock,_,_,⟨mk_P,a8,i8,kc_P⟩,G8,b8⟩
 have CM8:CmD l.prog w K mg base 1 "PlainLock" cP "__init__" ["self","name","high","low","room"] (bC (jF cP cB cU)):=⟨T.c_PlainLock,_,_,⟨g1,g2,ac8,k8⟩,G8,b8⟩
 have G9:=DJ (P:=l.prog) (w:=w) (base:=base) T F9 CM8
 have MK_BasinLock:MkD l.prog w K mg base 2 "BasinLock" cB ["self","name","high","low","room","side"] (bB (jF cP cB cU) .basin):=⟨T.c_BasinLock,_,_,⟨mk_B,a9,i9,kc_B⟩,G9,b9⟩
 have G10:=EC (P:=l.prog) (w:=w) (base:=base) T F10 CM8
 have MK_PumpLock:MkD l.prog w K mg base 2 "PumpLock" cU ["self","name","high","low","room","lift"] (bB (jF cP cB cU) .pump):=⟨T.c_PumpLock,_,_,⟨mk_U,a10,i10,kc_U⟩,G10,b10⟩
 have G11:=EG (P:=l.prog) (w:=w) (base:=base) T F11
 have MK_Reach:MkD l.prog w K mg base 1 "Reach" cR ["self","name","least","crest","berths","water","target"] (nJ cR):=⟨T.c_Reach,_,_,⟨mk_R,a11,i11,kc_R⟩,G11,b11⟩
 have G12:=EA (P:=l.prog) (w:=w) (base:=base) T F12
 have ME_kind_P:MeD l.prog w K mg base 1 cP "kind" ["self"] (yM (jF cP cB cU) (fun kd _=>V.str (match kd with|.plain=>"plain"|.basin=>"basin"|.pump=>"pump")) .plain):=⟨T.cl .plain,_,_,⟨a12,i12,k12⟩,G12,b12⟩
 have G13:=DM (P:=l.prog) (w:=w) (base:=base) T F13
 have ME_kind_B:MeD l.prog w K mg base 1 cB "kind" ["self"] (yM (jF cP cB cU) (fun kd _=>V.str (match kd with|.plain=>"plain"|.basin=>"basin"|.pump=>"pump")) .basin):=⟨T.cl .basin,_,_,⟨a13,i13,k13⟩,G13,b13⟩
 have G14:=EF (P:=l.prog) (w:=w) (base:=base) T F14
 have ME_kind_U:MeD l.prog w K mg base 1 cU "kind" ["self"] (yM (jF cP cB cU) (fun kd _=>V.str (match kd with|.plain=>"plain"|.basin=>"basin"|.pump=>"pump")) .pump):=⟨T.cl .pump,_,_,⟨a14,i14,k14⟩,G14,b14⟩
 have MP_kind:MeK l.prog w K mg base 1 (jF cP cB cU) "kind" ["self"] (yM (jF cP cB cU) (fun kd _=>V.str (match kd with|.plain=>"plain"|.basin=>"basin"|.pump=>"pump"))):=⟨fun kd=>match kd with|.plain=>ME_kind_P|.basin=>ME_kind_B|.pump=>ME_kind_U⟩
 have G15:=D8 (P:=l.prog) (w:=w) (base:=base) T F15
 have ME_extra_P:MeD l.prog w K mg base 1 cP "extra" ["self"] (yM (jF cP cB cU) (fun kd v=>V.int (match kd with|.plain=>0|.basin=>v|.pump=>v)) .plain):=⟨T.cl .plain,_,_,⟨a15,i15,k15⟩,G15,b15⟩
 have G16:=DK (P:=l.prog) (w:=w) (base:=base) T F16
 have ME_extra_B:MeD l.prog w K mg base 1 cB "extra" ["self"] (yM (jF cP cB cU) (fun kd v=>V.int (match kd with|.plain=>0|.basin=>v|.pump=>v)) .basin):=⟨T.cl .basin,_,_,⟨a16,i16,k16⟩,G16,b16⟩
 have G17:=ED (P:=l.prog) (w:=w) (base:=base) T F17
 have ME_extra_U:MeD l.prog w K mg base 1 cU "extra" ["self"] (yM (jF cP cB cU) (fun kd v=>V.int (match kd with|.plain=>0|.basin=>v|.pump=>v)) .pump):=⟨T.cl .pump,_,_,⟨a17,i17,k17⟩,G17,b17⟩
 have MP_extra:MeK l.prog w K mg base 1 (jF cP cB cU) "extra" ["self"] (yM (jF cP cB cU) (fun kd v=>V.int (match kd with|.plain=>0|.basin=>v|.pump=>v))):=⟨fun kd=>match kd with|.plain=>ME_extra_P|.basin=>ME_extra_B|.pump=>ME_extra_U⟩
 have G18:=D9 (P:=l.prog) (w:=w) (base:=base) T F18 D7
 have ME_fill_parts_P:MeD l.prog w K mg base 2 cP "fill_parts" ["self","basin"] (yJ (jF cP cB cU) JG .plain):=⟨T.cl .plain,_,_,⟨a18,i18,k18⟩,G18,b18⟩
 have G19:=DL (P:=l.prog) (w:=w) (base:=base) T F19 D7
 have ME_fill_parts_B:MeD l.prog w K mg base 2 cB "fill_parts" ["self","basin"] (yJ (jF cP cB cU) JG .basin):=⟨T.cl .basin,_,_,⟨a19,i19,k19⟩,G19,b19⟩
 have G20:=EE (P:=l.prog) (w:=w) (base:=base) T F20 D7
 have ME_fill_parts_U:MeD l.prog w K mg base 2 cU "fill_parts" ["self","basin"] (yJ (jF cP cB cU) JG .pump):=⟨T.cl .pump,_,_,⟨a20,i20,k20⟩,G20,b20⟩
 have MP_fill_parts:MeK l.prog w K mg base 2 (jF cP cB cU) "fill_parts" ["self","basin"] (yJ (jF cP cB cU) JG):=⟨fun kd=>match kd with|.plain=>ME_fill_parts_P|.basin=>ME_fill_parts_B|.pump=>ME_fill_parts_U⟩
 have G21:=EB (P:=l.prog) (w:=w) (base:=base) T F21 D7
 have ME_let_parts_P:MeD l.prog w K mg base 2 cP "let_parts" ["self","basin"] (yJ (jF cP cB cU) JJ .plain):=⟨T.cl .plain,_,_,⟨a21,i21,k21⟩,(G21.imp (sp':=yJ (jF cP cB cU) JJ .plain) (fun vs H Q E ⟨x,n,h,l,room,v,b,e,a,q⟩=>⟨.plain,x,n,h,l,room,v,b,e,a,q⟩)),b21⟩
 have ME_let_parts_U:MeD l.prog w K mg base 2 cU "let_parts" ["self","basin"] (yJ (jF cP cB cU) JJ .pump):=⟨T.cl .pump,_,_,⟨a21_U,i21,k21⟩,(G21.imp (sp':=yJ (jF cP cB cU) JJ .pump) (fun vs H Q E ⟨x,n,h,l,room,v,b,e,a,q⟩=>⟨.pump,x,n,h,l,room,v,b,e,a,q⟩)),b21⟩
 have G22:=DN (P:=l.prog) (w:=w) (base:=base) T F22 D7
 have ME_let_parts_B:MeD l.prog w K mg base 2 cB "let_parts" ["self","basin"] (yJ (jF cP cB cU) JJ .basin):=⟨T.cl .basin,_,_,⟨a22,i22,k22⟩,G22,b22⟩
 have MP_let_parts:MeK l.prog w K mg base 2 (jF cP cB cU) "let_parts" ["self","basin"] (yJ (jF cP cB cU) JJ):=⟨fun kd=>match kd with|.plain=>ME_let_parts_P|.basin=>ME_let_parts_B|.pump=>ME_let_parts_U⟩
 have G23:=DO (P:=l.prog) (w:=w) (base:=base) T F23
 have MK_Canal:MkD l.prog w K mg base 1 "Canal" cN ["self","reaches","locks","nights"] (nK (jF cP cB cU) cR cN):=⟨T.c_Canal,_,_,⟨mk_N,a23,i23,kc_N⟩,G23,b23⟩
 have G24:=DT (P:=l.prog) (w:=w) (base:=base) T F24
 have MN_sea:MeD l.prog w K mg base 1 cN "sea" ["self"] (JH (jF cP cB cU) cR cN zC):=⟨T.clN,_,_,⟨a24,i24,k24⟩,G24,b24⟩
 have G25:=DU (P:=l.prog) (w:=w) (base:=base) T F25 MN_sea
 have MN_sky:MeD l.prog w K mg base 2 cN "sky" ["self"] (JH (jF cP cB cU) cR cN bU):=⟨T.clN,_,_,⟨a25,i25,k25⟩,G25,b25⟩
 have G26:=DS (P:=l.prog) (w:=w) (base:=base) T F26 MN_sky
 have MN_many:MeD l.prog w K mg base 3 cN "many" ["self"] (JH (jF cP cB cU) cR cN eA):=⟨T.clN,_,_,⟨a26,i26,k26⟩,G26,b26⟩
 have G27:=DQ (P:=l.prog) (w:=w) (base:=base) T F27
 have MN_chamber:MeD l.prog w K mg base 1 cN "chamber" ["self","k"] (QG (jF cP cB cU) cR cN zJ):=⟨T.clN,_,_,⟨a27,i27,k27⟩,G27,b27⟩
 have G28:=DP (P:=l.prog) (w:=w) (base:=base) T F28
 have MN_basin:MeD l.prog w K mg base 1 cN "basin" ["self","k"] (QG (jF cP cB cU) cR cN yH):=⟨T.clN,_,_,⟨a28,i28,k28⟩,G28,b28⟩
 have G29:=DW (P:=l.prog) (w:=w) (base:=base) T F29 MN_sea
 have MN_weirs:MeD l.prog w K mg base 2 cN "weirs" ["self"] (dF (jF cP cB cU) cR cN):=⟨T.clN,_,_,⟨a29,i29,k29⟩,G29,b29⟩
 have G30:=DV (P:=l.prog) (w:=w) (base:=base) T F30 MN_many D5 MN_weirs
 have MN_start:MeD l.prog w K mg base 5 cN "start" ["self"] (oN (jF cP cB cU) cR cN):=⟨T.clN,_,_,⟨a30,i30,k30⟩,G30,b30⟩
 have G31:=DR (P:=l.prog) (w:=w) (base:=base) T F31 MN_chamber
 have MN_full:MeD l.prog w K mg base 2 cN "full" ["self","waters","k"] (gT (jF cP cB cU) cR cN):=⟨T.clN,_,_,⟨a31,i31,k31⟩,G31,b31⟩
 have D32:=kJ (EX (P:=l.prog) (w:=w) (base:=base) T F32 MP_fill_parts) (W.mg_of X G a32) k32 b32
 have D33:=kJ (E8 (P:=l.prog) (w:=w) (base:=base) T F33 MP_let_parts) (W.mg_of X G a33) k33 b33
 have D34:=kJ (EY (P:=l.prog) (w:=w) (base:=base) T F34) (W.mg_of X G a34) k34 b34
 have D35:=kJ (ET (P:=l.prog) (w:=w) (base:=base) T F35 D34) (W.mg_of X G a35) k35 b35
 have D36:=kJ (FK (P:=l.prog) (w:=w) (base:=base) T F36 D33 D32 D35) (W.mg_of X G a36) k36 b36
 have D37:=kJ (FT (P:=l.prog) (w:=w) (base:=base) T F37) (W.mg_of X G a37) k37 b37
 have G38:=E9 (P:=l.prog) (w:=w) (base:=base) T F38 D37
 have GX38:=G38
 have DX38:=dX GX38 (W.mg_of X G a38) k38 b38
 have G38:=GX38.noX (sp':=nY K (jF cP cB cU) cR cN) KO
 have D38:=kJ G38 (W.mg_of X G a38) k38 b38
 have D39:=kJ (FV (P:=l.prog) (w:=w) (base:=base) T F39) (W.mg_of X G a39) k39 b39
 have D40:=kJ (FN (P:=l.prog) (w:=w) (base:=base) T F40 D39 D38) (W.mg_of X G a40) k40 b40
 have D41:=kJ (FB (P:=l.prog) (w:=w) (base:=base) T F41 D40) (W.mg_of X G a41) k41 b41
 have D42:=kJ (FF (P:=l.prog) (w:=w) (base:=base) T F42 MN_sky D6 MN_weirs) (W.mg_of X G a42) k42 b42
 have D43:=kJ (EZ (P:=l.prog) (w:=w) (base:=base) T F43 D41) (W.mg_of X G a43) k43 b43
 have D44:=kJ (FE (P:=l.prog) (w:=w) (base:=base) T F44) (W.mg_of X G a44) k44 b44
 have D45:=kJ (FG (P:=l.prog) (w:=w) (base:=base) T F45) (W.mg_of X G a45) k45 b45
 have D46:=kJ (EV (P:=l.prog) (w:=w) (base:=base) T F46 D45) (W.mg_of X G a46) k46 b46
 have D47:=kJ (EU (P:=l.prog) (w:=w) (base:=base) T F47 MN_basin MN_chamber) (W.mg_of X G a47) k47 b47
 have D48:=kJ (FJ (P:=l.prog) (w:=w) (base:=base) T F48 D44 MN_basin D47 D36 MN_full) (W.mg_of X G a48) k48 b48
 have D49:=kJ (E7 (P:=l.prog) (w:=w) (base:=base) T F49 D47 D33 MN_basin) (W.mg_of X G a49) k49 b49
 have D50:=kJ (E2 (P:=l.prog) (w:=w) (base:=base) T F50) (W.mg_of X G a50) k50 b50
 have D51:=kJ (EW (P:=l.prog) (w:=w) (base:=base) T F51 D0 D50) (W.mg_of X G a51) k51 b51
 have D52:=kJ (FW (P:=l.prog) (w:=w) (base:=base) T F52 D40 D43 D51 D48) (W.mg_of X G a52) k52 b52
 have D53:=kJ (FX (P:=l.prog) (w:=w) (base:=base) T F53 D52 MN_full) (W.mg_of X G a53) k53 b53
 have G54:=FM (P:=l.prog) (w:=w) (base:=base) T F54 D53 D42 D48 D49 D6 MN_weirs
 have GX54:=G54
 have DX54:=dX GX54 (W.mg_of X G a54) k54 b54
 have G54:=GX54.noX (sp':=wQ (jF cP cB cU) cR cN) LQ
 have D54:=kJ G54 (W.mg_of X G a54) k54 b54
 have G55:=EQ (P:=l.prog) (w:=w) (base:=base) T F55 D46 D0 DX54
 have GX55:=G55
 have DX55:=dX GX55 (W.mg_of X G a55) k55 b55
 have G55:=GX55.noX (sp':=nZ (jF cP cB cU) cR cN) MI
 have D55:=kJ G55 (W.mg_of X G a55) k55 b55
 have D56:=kJ (FC (P:=l.prog) (w:=w) (base:=base) T F56 D53) (W.mg_of X G a56) k56 b56
 have D57:=kJ (FU (P:=l.prog) (w:=w) (base:=base) T F57 D39) (W.mg_of X G a57) k57 b57
 have D58:=kJ (ES (P:=l.prog) (w:=w) (base:=base) T F58 D57) (W.mg_of X G a58) k58 b58
 have V59:=DY (P:=l.prog) (w:=w) (base:=base) T D58
 have V60:=DX (P:=l.prog) (w:=w) (base:=base) T D56 D55
 have hcL61:=W.law_code X G ht61 (W.mg_of X G a61) (X _ _ l61) rfl
 have D61:=kJ (E1 (P:=l.prog) (w:=w) (base:=base) (mg:=mg) F61 hcL61 (hTs (ctH,tH) (by simp)).1 (hTs (ctH,tH) (by simp)).2.1 (hTs (ctH,tH) (by simp)).2.2) (W.mg_of X G a61) k61 b61
 have hcL62:=W.law_code X G ht62 (W.mg_of X G a62) (X _ _ l62) rfl
 have D62:=kJ (ER (P:=l.prog) (w:=w) (base:=base) (mg:=mg) F62 hcL62 (hTs (ctA,tA) (by simp)).1 (hTs (ctA,tA) (by simp)).2.1 (hTs (ctA,tA) (by simp)).2.2) (W.mg_of X G a62) k62 b62
 have D63:=kJ (FP (P:=l.prog) (w:=w) (base:=base) T F63) (W.mg_of X G a63) k63 b63
 have D64:=kJ (FD (P:=l.prog) (w:=w) (base:=base) T F64 V60) (W.mg_of X G a64) k64 b64
 have G65:=E5 (P:=l.prog) (w:=w) (base:=base) T F65 V59 D63 D64
 have GX65:=G65
 have DX65:=dX GX65 (W.mg_of X G a65) k65 b65
 have D66:=kJ (FO (P:=l.prog) (w:=w) (base:=base) T F66 V60 V59) (W.mg_of X G a66) k66 b66
 have G67:=FA (P:=l.prog) (w:=w) (base:=base) T F67 DX65 D61 D62
 have GX67:=G67
 have DX67:=dX GX67 (W.mg_of X G a67) k67 b67
 have D68:=kJ (E6 (P:=l.prog) (w:=w) (base:=base) T F68 D66 D61 D62) (W.mg_of X G a68) k68 b68
 have D69:=kJ (EI (P:=l.prog) (w:=w) (base:=base) T F69) (W.mg_of X G a69) k69 b69
 have D70:=kJ (EK (P:=l.prog) (w:=w) (base:=base) T F70 D69 MK_Reach) (W.mg_of X G a70) k70 b70
 have D71:=kJ (EJ (P:=l.prog) (w:=w) (base:=base) T F71 D69 MK_BasinLock MK_PumpLock MK_PlainLock) (W.mg_of X G a71) k71 b71
 have D72:=kJ (EH (P:=l.prog) (w:=w) (base:=base) T F72 D69 D70 D71 MK_Canal) (W.mg_of X G a72) k72 b72
 have D73:=kJ (EN (P:=l.prog) (w:=w) (base:=base) T F73 D69) (W.mg_of X G a73) k73 b73
 have D74:=kJ (EL (P:=l.prog) (w:=w) (base:=base) T F74 MN_start D69 MP_kind MP_extra) (W.mg_of X G a74) k74 b74
 have D75:=kJ (EM (P:=l.prog) (w:=w) (base:=base) T F75 DX67) (W.mg_of X G a75) k75 b75
 have D76:=kJ (EO (P:=l.prog) (w:=w) (base:=base) T F76) (W.mg_of X G a76) k76 b76
 have G77:=E4 (P:=l.prog) (w:=w) (base:=base) T F77 D72 D69 D73 D74 D75 D76 D68
 exact G77
theorem tabIn_mk {x:Str} {c P:Addr} {oc oc2:Value} {od od2:Option Addr} {fd:FuncData} {sl sl2:Array (Option Value)} {vs:Array Value} (h1:W.nsIn K mainGlobals x=some (some (.ref f))) (h2:K.lookup f=some ⟨oc,od,.func fd,sl⟩) (h3:fd.code=.ref c) (h4:K.lookup c=some ⟨oc2,od2,.fields vs,sl2⟩) (h5:(vs[11]?:Option Value)=some (.ref P)):W.tabIn K x=some (c,P):=by
 unfold W.tabIn
 simp only [h1,h2,h3,h4,h5]
theorem walk {l:W.OpenLaw} {q:Program} {loose:List Str} {XP:(Str→Option Value)→Heap→Prop} {YP:World→Heap→Prop} {d:DefRec} {K:Params→W.Frag} {ctA ctH:Addr} (hn:l.most=some 63) (hdf:d.params.defaults=[])
  (hrtA:((PyProof.Rows.recsOf q).find? (fun e=>e.name == ("ahead_on":Str))).isSome=true) (hrtH:((PyProof.Rows.recsOf q).find? (fun e=>e.name == ("homecoming":Str))).isSome=true) (httA:∀P:Params,W.tabIn (K P) "ahead_on"=some (ctA,tA)) (httH:∀P:Params,W.tabIn (K P) "homecoming"=some (ctH,tH)) (hno:∀P:Params,W.noTabs (K P)=true) (hne:tA≠tH)
  (hY:∀(w:World) (h:Heap),YP w h→(K w.params).In h)
  (F:∀(w:World) (mg:Str→Option Value) (fa:Addr) (h:Heap),(K w.params).In h→h.Ns mainGlobals mg→mg d.name=some (.ref fa)→
   ∃fd:FuncData,(∀(s:Shared) (u:Value),BindsTo s fd ⟨[u],[]⟩ [("script",u)])∧∀base:Heap,(K w.params).In base→base.Ns mainGlobals mg→(∀p∈([(ctA,tA),(ctH,tH)]:List (Addr×Addr)),W.CodeHd base p.1 p.2∧base.BuiltinsAt mg p.2∧PySem.mainGlobals≠p.2)→FnOk l.prog w (K w.params) mg base jP 21 fa fd ["script"] (gS tA tH (K w.params))) :
  W.WalkO q loose XP YP l.row.toRowW d [] (fun f vs=>PySem.call f vs) :=
 L2.walk_ofTs [("ahead_on",ctA,tA),("homecoming",ctH,tH)] (n:=63) (k:=21) (x:="script") (CX:=fun _=>jP) (sp:=fun w=>gS tA tH (K w.params)) hn (by decide) hdf ⟨rfl,by decide,by decide⟩ (fun e he=>by
  simp only [List.mem_cons,List.mem_nil_iff,or_false] at he
  rcases he with rfl|rfl
  ·exact hrtA
  ·exact hrtH) (fun P e he=>by
  simp only [List.mem_cons,List.mem_nil_iff,or_false] at he
  rcases he with rfl|rfl
  ·exact httA P
  ·exact httH P) hno hY F (fun _ _ a ns hl hO hS=>⟨a,ns,rfl,hS,hl,hne,hO.1 tA (by simp),hO.1 tH (by simp),fun _=>rfl⟩) fun _ _ _ _ _ z=>z
end My
/- These names are taken here so that the head below leaves out its twins of whole states (they are not needed,and make the compiled file larger than a hand-in may be). -/
namespace PySem.W.Fast
def tw2419388174287380299:Nat:=0
def tw14273737743917635688:Nat:=0
def tw18202698141350435636:Nat:=0
def tw16976940544010135812:Nat:=0
def tw5734434533387893880:Nat:=0
def tw18387974915865429285:Nat:=0
def tw12604446184642052804:Nat:=0
def tw3514941855074719496:Nat:=0
def tw15459682538246398529:Nat:=0
def tw18235614607217944358:Nat:=0
def tw10632107222444736949:Nat:=0
def tw17882018653011176956:Nat:=0
def tw4819371340103555070:Nat:=0
def tw2689207167934115941:Nat:=0
def tw13160001481537342912:Nat:=0
def tw1960642201069163292:Nat:=0
def tw4537278737338937197:Nat:=0
def tw10883899413728775150:Nat:=0
def tw9878579644742233284:Nat:=0
def tw3622697459249589408:Nat:=0
def tw7553212463156351511:Nat:=0
def tw2787182296778751284:Nat:=0
def tw11640066246112362839:Nat:=0
def tw1546621215296013712:Nat:=0
def tw2037987188960420082:Nat:=0
def tw12105834966996072469:Nat:=0
def tw5671597757481456249:Nat:=0
def tw8524635990328962522:Nat:=0
def tw15931490813069557171:Nat:=0
def tw11651593485998033728:Nat:=0
def tw7989437734139019560:Nat:=0
def tw3370713121893723359:Nat:=0
def tw5715389445306782722:Nat:=0
def tw16456913820159390739:Nat:=0
def tw7939420184341862826:Nat:=0
def tw8763011599599137468:Nat:=0
def tw1367256555810312499:Nat:=0
def tw11352765833162321228:Nat:=0
def tw11323524915646920925:Nat:=0
def tw5408137089842664711:Nat:=0
def tw17855830026533686971:Nat:=0
def tw10427914631818192134:Nat:=0
def tw4007809018687683141:Nat:=0
def tw9804342347377921092:Nat:=0
def tw12107500604110862816:Nat:=0
def tw12329372798957247353:Nat:=0
def tw12885989419610879533:Nat:=0
def tw17564032536967136842:Nat:=0
def tw6123878824149797424:Nat:=0
def tw4670020931013595690:Nat:=0
def tw4240510633988042807:Nat:=0
def tw16292664549712222293:Nat:=0
def tw6592890913446758236:Nat:=0
def tw16570946944447297736:Nat:=0
def tw17070209266063366077:Nat:=0
def tw4589813218480936868:Nat:=0
def tw8322630830638250416:Nat:=0
def tw9841082968998937511:Nat:=0
def tw9793486575829091792:Nat:=0
def tw5118678016773643628:Nat:=0
def tw4865515825095281609:Nat:=0
def tw10667598521998748742:Nat:=0
def tw11734756170170957527:Nat:=0
def tw1117248027950292991:Nat:=0
def tw6904504175918619431:Nat:=0
def tw5544170582327875289:Nat:=0
def tw11822613706180887426:Nat:=0
def tw14215005795902243939:Nat:=0
def tw57207270922925769:Nat:=0
def tw11772657503618387539:Nat:=0
def tw9652682227641531933:Nat:=0
def tw5983445055295762992:Nat:=0
def tw3804102473649497979:Nat:=0
def tw17408655386631757925:Nat:=0
def tw6442822758200554974:Nat:=0
def tw18032138753274943394:Nat:=0
def tw13440484709262295607:Nat:=0
def tw12179212369430128959:Nat:=0
def tw11183255292352075051:Nat:=0
def tw13565045569923575904:Nat:=0
def tw240248280409961156:Nat:=0
def tw12216083250898283367:Nat:=0
def tw5121982646001357956:Nat:=0
def tw15125965897274617055:Nat:=0
def tw17711288167827440850:Nat:=0
def tw12038213767944742928:Nat:=0
def tw14568472925693485475:Nat:=0
def tw2685959921883759268:Nat:=0
def tw3555396786557374232:Nat:=0
def tw9243547189474545045:Nat:=0
def tw7904389275598880524:Nat:=0
def tw14105493425533282011:Nat:=0
def tw13017515097622037386:Nat:=0
def tw490716038963839199:Nat:=0
def tw4356968759415783502:Nat:=0
def tw10352570655580702339:Nat:=0
def tw13720310939584472021:Nat:=0
def tw8980507971367939193:Nat:=0
def tw15575156543895155073:Nat:=0
def tw4434319505729272753:Nat:=0
def tw5826886058369267880:Nat:=0
def tw8911495975977165017:Nat:=0
def tw1974852063565680480:Nat:=0
def tw3629084882145637719:Nat:=0
def tw12727803388109287629:Nat:=0
def tw10724869514210283831:Nat:=0
def tw6015512087888438956:Nat:=0
def tw12252933850985053739:Nat:=0
def tw2166144438348649586:Nat:=0
def tw10211732870428840912:Nat:=0
def tw13468145593556446766:Nat:=0
def tw6502169842942083221:Nat:=0
def tw603499808098929747:Nat:=0
def tw15994068507523998239:Nat:=0
def tw8916874522840937426:Nat:=0
def tw8962470198440726321:Nat:=0
def tw13745982161416314353:Nat:=0
def tw9434634837431764661:Nat:=0
def tw8904844652816238948:Nat:=0
def tw2849455867422047235:Nat:=0
def tw5920602650316410328:Nat:=0
def tw12227002983982866081:Nat:=0
def tw1949779298280630491:Nat:=0
def tw3554898482195477686:Nat:=0
def tw4324620371135414:Nat:=0
def tw3584558729621362637:Nat:=0
def tw11843977358124535288:Nat:=0
def tw311517014501221126:Nat:=0
def tw14016567282665657385:Nat:=0
def tw12979590945911746855:Nat:=0
def tw16810624948752895005:Nat:=0
def tw17918777645795332242:Nat:=0
def tw17429973548546983560:Nat:=0
def tw9532969963655644707:Nat:=0
def tw6052995961628965872:Nat:=0
def tw12927465800250119820:Nat:=0
def tw1233824880485138228:Nat:=0
def tw3919982638069175038:Nat:=0
def tw6578319221947830730:Nat:=0
def tw7147415248495670382:Nat:=0
def tw5192480919245297594:Nat:=0
def tw9702567258535948588:Nat:=0
def tw6754600267186798623:Nat:=0
def tw10196878404844667510:Nat:=0
def tw11281455977353043030:Nat:=0
def tw5623031086593576880:Nat:=0
def tw1351417793386622072:Nat:=0
def tw8647425717498695783:Nat:=0
def tw9300278491427944546:Nat:=0
def tw1587720915004182813:Nat:=0
def tw11247093360724463989:Nat:=0
def tw12560241983535355964:Nat:=0
def tw6582096699071537272:Nat:=0
def tw4979818601415960718:Nat:=0
def tw14773267832219596674:Nat:=0
def tw16315027464252302585:Nat:=0
def tw241252285800693531:Nat:=0
def tw15622591682071397295:Nat:=0
def tw16737426233434280779:Nat:=0
def tw5189826901998008397:Nat:=0
def tw7328738922339053627:Nat:=0
def tw7878767274025447700:Nat:=0
def tw10965797078276984004:Nat:=0
def tw11310999862839990010:Nat:=0
def tw12638379312615513977:Nat:=0
def tw3962155819584380202:Nat:=0
def tw9801736294231288487:Nat:=0
def tw7899322368105002725:Nat:=0
def tw7347149253283494894:Nat:=0
def tw17259316809072788019:Nat:=0
def tw14600857384476638170:Nat:=0
def tw4120802784993056359:Nat:=0
def tw2836017262064151946:Nat:=0
def tw15751118962391527501:Nat:=0
def tw4846561546095607969:Nat:=0
def tw14500654240079009140:Nat:=0
def tw7639624387510978400:Nat:=0
def tw3685876532445370474:Nat:=0
def tw7664980209300973960:Nat:=0
def tw7672309385146079487:Nat:=0
end PySem.W.Fast
open PySem PySem.W PyProof.Rows
set_option maxRecDepth 100000 in
set_option maxHeartbeats 0 in
theorem PySem.Challenge.cw_lockhouse_k59_whole_wetter_holds : PySem.Challenge.rw_lockhouse_k59_whole_wetter.Holds := by
 w_on;o_law;k_head;(case hw=>w_witness2)
 k_fill
 refine' My.walk (l:=PySem.Challenge.rw_lockhouse_k59_whole_wetter) rfl rfl ?rectA ?rectH ?tabtA ?tabtH ?no ?ne (fun w h Y=>PySem.W.km_in_of Y) ?F
 case tabtA =>
  intro P
  refine' My.tabIn_mk ?t1 ?t2 ?t3 ?t4 ?t5
  (case t1=>k_is)
  (case t2=>k_is)
  (case t3=>rfl)
  (case t4=>k_is)
  (case t5=>rfl)
 case tabtH =>
  intro P
  refine' My.tabIn_mk ?t1 ?t2 ?t3 ?t4 ?t5
  (case t1=>k_is)
  (case t2=>k_is)
  (case t3=>rfl)
  (case t4=>k_is)
  (case t5=>rfl)
 case rectA=>kernel_rfl
 case rectH=>kernel_rfl
 case no=>intro P;kernel_rfl
 case ne=>decide
 case F =>
  intro w mg fa h KX G hmg
  refine' My.all_mk KX G hmg ?aC_P ?aC_B ?aC_U ?aC_R ?aC_N ?aX_NotNow ?aX_NotLinked ?aX_TooWide ?a0 ?p0 ?a1 ?p1 ?a2 ?p2 ?a3 ?p3 ?a4 ?p4 ?a5 ?p5 ?a6 ?p6 ?a7 ?p7 ?a8 ?i8 ?ac8 ?p8 ?a9 ?i9 ?p9 ?a10 ?i10 ?p10 ?a11 ?i11 ?p11 ?a12 ?i12 ?p12 ?a13 ?i13 ?p13 ?a14 ?i14 ?p14 ?a15 ?i15 ?p15 ?a16 ?i16 ?p16 ?a17 ?i17 ?p17 ?a18 ?i18 ?p18 ?a19 ?i19 ?p19 ?a20 ?i20 ?p20 ?a21 ?a21_U ?i21 ?p21 ?a22 ?i22 ?p22 ?a23 ?i23 ?l23 ?c23 ?k23 ?lT23 ?dT23 ?a24 ?i24 ?p24 ?a25 ?i25 ?p25 ?a26 ?i26 ?p26 ?a27 ?i27 ?p27 ?a28 ?i28 ?p28 ?a29 ?i29 ?p29 ?a30 ?i30 ?p30 ?a31 ?i31 ?p31 ?a32 ?p32 ?a33 ?p33 ?a34 ?p34 ?a35 ?p35 ?a36 ?p36 ?a37 ?p37 ?a38 ?p38 ?a39 ?p39 ?a40 ?p40 ?a41 ?p41 ?a42 ?p42 ?a43 ?p43 ?a44 ?p44 ?a45 ?p45 ?a46 ?p46 ?a47 ?p47 ?a48 ?p48 ?a49 ?p49 ?a50 ?p50 ?a51 ?p51 ?a52 ?p52 ?a53 ?p53 ?a54 ?p54 ?a55 ?p55 ?a56 ?p56 ?a57 ?p57 ?a58 ?p58 ?a61 ?l61 ?c61 ?k61 ?a62 ?l62 ?c62 ?k62 ?a63 ?p63 ?a64 ?p64 ?a65 ?p65 ?a66 ?p66 ?a67 ?p67 ?a68 ?p68 ?a69 ?p69 ?a70 ?p70 ?a71 ?p71 ?a72 ?p72 ?a73 ?p73 ?a74 ?p74 ?a75 ?p75 ?a76 ?p76 ?a77 ?l77 ?c77 ?k77 ?z_list ?z_tuple ?z_max ?z_range ?z_len ?z_sum ?z_zip ?z_enumerate ?z_min ?z_reversed ?z_int ?pg_P ?hdd_P ?po_P ?sa_P ?mk_P ?kc_P ?n_name_P ?n_high_P ?n_low_P ?n_room_P ?pg_B ?hdd_B ?po_B ?sa_B ?mk_B ?kc_B ?n_name_B ?n_high_B ?n_low_B ?n_room_B ?n_side_B ?pg_U ?hdd_U ?po_U ?sa_U ?mk_U ?kc_U ?n_name_U ?n_high_U ?n_low_U ?n_room_U ?n_lift_U ?g1 ?g2 ?pg_R ?hdd_R ?po_R ?sa_R ?mk_R ?kc_R ?nR_name ?nR_least ?nR_crest ?nR_berths ?nR_water ?nR_target ?pg_N ?hdd_N ?po_N ?sa_N ?mk_N ?kc_N ?nN_reaches ?nN_locks ?nN_nights ?gSEA ?xX_NotNow ?xX_NotLinked ?xX_TooWide ?gHOME ?ht62 ?ht61
  (case aC_P|aC_B|aC_U|aC_R|aC_N|aX_NotNow|aX_NotLinked|aX_TooWide|a0|a1|a2|a3|a4|a5|a6|a7|a8|i8|ac8|a9|i9|a10|i10|a11|i11|a12|i12|a13|i13|a14|i14|a15|i15|a16|i16|a17|i17|a18|i18|a19=>first|k_is|k_exc|kit_is|kts_exm|rfl)
  (case i19|a20|i20|a21|a21_U|i21|a22|i22|a23|i23|l23|c23|k23|lT23|dT23|a24|i24|a25|i25|a26|i26|a27|i27|a28|i28|a29|i29|a30|i30|a31|i31|a32|a33|a34|a35|a36|a37|a38|a39|a40=>first|k_is|k_exc|kit_is|kts_exm|rfl)
  (case a41|a42|a43|a44|a45|a46|a47|a48|a49|a50|a51|a52|a53|a54|a55|a56|a57|a58|a61|l61|c61|k61|a62|l62|c62|k62|a63|a64|a65|a66|a67|a68|a69|a70|a71|a72|a73|a74|a75|a76=>first|k_is|k_exc|kit_is|kts_exm|rfl)
  (case a77|l77|c77|k77|z_list|z_tuple|z_max|z_range|z_len|z_sum|z_zip|z_enumerate|z_min|z_reversed|z_int|pg_P|hdd_P|po_P|sa_P|mk_P|kc_P|n_name_P|n_high_P|n_low_P|n_room_P|pg_B|hdd_B|po_B|sa_B|mk_B|kc_B|n_name_B|n_high_B|n_low_B|n_room_B|n_side_B|pg_U|hdd_U|po_U|sa_U=>first|k_is|k_exc|kit_is|kts_exm|rfl)
  (case mk_U|kc_U|n_name_U|n_high_U|n_low_U|n_room_U|n_lift_U|g1|g2|pg_R|hdd_R|po_R|sa_R|mk_R|kc_R|nR_name|nR_least|nR_crest|nR_berths|nR_water|nR_target|pg_N|hdd_N|po_N|sa_N|mk_N|kc_N|nN_reaches|nN_locks|nN_nights|gSEA|xX_NotNow|xX_NotLinked|xX_TooWide|gHOME=>first|k_is|k_exc|kit_is|kts_exm|rfl)
  (case ht62=>kernel_rfl)
  (case ht61=>kernel_rfl)
  (case p0|p1|p2|p3|p4|p5|p6|p7|p8|p9|p10|p11|p12|p13|p14|p15|p16|p17|p18|p19|p20|p21|p22|p24|p25|p26|p27|p28|p29|p30|p31|p32|p33|p34|p35|p36|p37|p38|p39|p40=>refine' ⟨_,L2.cF ?l ?c ?k⟩;(case l=>k_is);(case c=>k_is);(case k=>k_is))
  (case p41|p42|p43|p44|p45|p46|p47|p48|p49|p50|p51|p52|p53|p54|p55|p56|p57|p58|p63|p64|p65|p66|p67|p68|p69|p70|p71|p72|p73|p74|p75|p76=>refine' ⟨_,L2.cF ?l ?c ?k⟩;(case l=>k_is);(case c=>k_is);(case k=>k_is))
