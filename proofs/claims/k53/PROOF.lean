import PyProof.Rows.All
import Wide.All
import OpenK.AllK
import Wide.FinOn
import Lean
import PyProof.EqAt
import PyProof.EqKinds
import PyProof.TupleCall
import PyProof.NeKinds
import OpenK.KOwn
import KE.KTryMore
import KE.RegKTryMore
import PyProof.NsDelKeeps
import KE.KIntText
import PySem.Challenge.RW_lockhouse_k53_papers_show
set_option Elab.async false
set_option linter.all false
set_option maxRecDepth 100000
namespace L2
open PySem PySem.Spec PyProof.Rows
theorem fG {M:Model} {Γ:PySem.Ctx} {p:Pos} {t:Sem PySem.Fin} {fs:List PySem.Frame} {s s1:Shared} {e1:PySem.End} (h:Runs M Γ p t fs s e1 s1):s.toks≤s1.toks:=by
 have hs:∀(s:Shared) g x,(s.setGen g x).toks=s.toks:=fun s g x=>rfl
 induction h with
 |fresh _ ih=>exact Nat.le_trans (Nat.le_succ _) ih
 |_=>first|exact Nat.le_refl _|assumption|(simp only [hs] at *;omega)
theorem uK {M:Model} {Γ:PySem.Ctx} {p:Pos} {g:Nat} {r:Resume} {s s1:Shared} {x1:GenResult} (h1:Wakes M Γ p g r s x1 s1):s.toks≤s1.toks:=by
 have hs:∀(s:Shared) g x,(s.setGen g x).toks=s.toks:=fun s g x=>rfl
 unfold Wakes at h1
 split at h1
 ·exact h1.elim
 ·split at h1
  ·obtain ⟨a,b,c,_,rfl,rfl⟩:=h1
   have:=fG c
   simp only [hs] at *;omega
  ·obtain ⟨rfl,rfl⟩:=h1;exact Nat.le_refl _
  ·obtain ⟨rfl,rfl⟩:=h1;exact Nat.le_refl _
 ·obtain ⟨a,b,c,_,rfl,rfl⟩:=h1
  have:=fG c
  simp only [hs] at *;omega
 ·obtain ⟨rfl,rfl⟩:=h1;exact Nat.le_refl _
 ·obtain ⟨rfl,rfl⟩:=h1;exact Nat.le_refl _
theorem BJ {M:Model} {Γ:PySem.Ctx} {α:Type} {Q:α→Pos→Shared→Prop} {E:Value→Pos→Shared→Prop} (n:Nat) (t:Sem α):∀{p:Pos} {s:Shared},n≤s.toks→Sem.wp M Γ t (fun a p s=>n≤s.toks→Q a p s) (fun a p s=>n≤s.toks→E a p s) p s→Sem.wp M Γ t Q E p s:=by
 induction t with
 |pure a=>intro p s hn h1;exact h1 hn
 |raise a=>intro p s hn h1;exact h1 hn
 |call c h g l k ih =>
  intro p s hn h1
  obtain ⟨r,s',a,b⟩:=h1
  exact ⟨r,s',a,ih _ (Nat.le_trans hn (fG a)) b⟩
 |resume g r l k ih =>
  intro p s hn h1
  obtain ⟨x,s',a,b⟩:=h1
  exact ⟨_,_,a,ih _ (Nat.le_trans hn (uK a)) b⟩
 |load a _ k ih =>
  intro p s hn h1
  obtain ⟨o,a,b⟩:=h1
  exact ⟨_,a,ih _ hn b⟩
 |genState g k ih =>
  intro p s hn h1
  obtain ⟨o,a,b⟩:=h1
  exact ⟨_,a,ih _ hn b⟩
 |update a _ f k ih=>intro p s hn h1;exact ⟨h1.1,ih _ hn h1.2⟩
 |choose a b k ih=>intro p s hn h1;exact ⟨h1.1,ih _ hn h1.2⟩
 |fresh k ih=>intro p s hn h1;exact ih _ (Nat.le_trans hn (Nat.le_succ _)) h1
 |_=>first|(intro p s hn h1;exact h1.elim)|(rename_i ih;intro p s hn h1;exact ih _ hn h1)
theorem y0 {M:Model} {A:Around} {α:Type} {t:Sem α} {Q:α→Shared→Prop} {E:Value→Shared→Prop} {s:Shared} (h:wpAny M A t (fun a s'=>s.toks≤s'.toks→Q a s') (fun e s'=>s.toks≤s'.toks→E e s') s):wpAny M A t Q E s:=fun Γ p hΓ=>BJ s.toks t (Nat.le_refl _) (h Γ p hΓ)
end L2
namespace L2
open PySem PySem.Spec PyProof.Rows
abbrev kU:=Sum Int Str
def ZN:kU→Value→Bool
 |.inl k,v=>Value.isInt k v
 |.inr x,v=>Value.isStrOf x v
def ET (w:World):kU→Int
 |.inl k=>hashInt k
 |.inr x=>hashStr w x
theorem zT:∀{k:kU} {v:Value},ZN k v=true→(∃i t,k=Sum.inl i∧v=Value.int i t)∨(∃x t,k=Sum.inr x∧v=Value.str x t)
 |.inl i,v,h=>by
  obtain ⟨t,e⟩:=Value.isInt_shape (k:=i) (v:=v) h
  exact .inl ⟨i,t,rfl,e⟩
 |.inr x,v,h=>by
  obtain ⟨t,e⟩:=Value.isStrOf_shape (x:=x) (v:=v) h
  exact .inr ⟨x,t,rfl,e⟩
theorem wM (i:Int) (t:Tok):ZN (.inl i) (.int i t)=true:=by simp [ZN,Value.isInt]
theorem wL (x:Str) (t:Tok):ZN (.inr x) (.str x t)=true:=by simp [ZN,Value.isStrOf]
theorem CK (a b:Int):decide ((Sum.inl a:kU)=Sum.inl b)=(a == b):=by
 by_cases e:a=b
 ·subst e;simp
 ·have h:¬(Sum.inl a:kU)=Sum.inl b:=fun q=>e (Sum.inl.inj q)
  rw [decide_eq_false h]
  exact (beq_eq_false_iff_ne.mpr e).symm
theorem CH (a b:Str):decide ((Sum.inr a:kU)=Sum.inr b)=decide (a=b):=by
 by_cases e:a=b
 ·subst e;simp
 ·have h:¬(Sum.inr a:kU)=Sum.inr b:=fun q=>e (Sum.inr.inj q)
  rw [decide_eq_false h,decide_eq_false e]
theorem CJ (a:Int) (b:Str):decide ((Sum.inl a:kU)=Sum.inr b)=false:=decide_eq_false (fun q=>nomatch q)
theorem CI (a:Str) (b:Int):decide ((Sum.inr a:kU)=Sum.inl b)=false:=decide_eq_false (fun q=>nomatch q)
def JH (prog:Program) (w:World):PySem.KeyKind prog w kU where
 is:=ZN
 hash:=ET w
 inj:=fun v a b ha hb=>by
  rcases zT ha with ⟨i,t,rfl,rfl⟩|⟨x,t,rfl,rfl⟩
  ·rcases zT hb with ⟨j,u,rfl,e⟩|⟨y,u,rfl,e⟩
   ·injection e with e1 _;rw [e1]
   ·exact nomatch e
  ·rcases zT hb with ⟨j,u,rfl,e⟩|⟨y,u,rfl,e⟩
   ·exact nomatch e
   ·injection e with e1 _;rw [e1]
 byValue:=fun k v h=>by
  rcases zT h with ⟨i,t,rfl,rfl⟩|⟨x,t,rfl,rfl⟩<;>rfl
 pyHash:=fun hv h=>by
  rcases zT hv with ⟨i,t,rfl,rfl⟩|⟨x,t,rfl,rfl⟩
  ·exact wpAny_pyHash_int h
  ·exact wpAny_pyHash_str h
 eqBool:=fun hu hv h=>by
  rcases zT hu with ⟨i,t,rfl,rfl⟩|⟨x,t,rfl,rfl⟩
  ·rcases zT hv with ⟨j,u,rfl,rfl⟩|⟨y,u,rfl,rfl⟩
   ·rw [CK] at h;exact wpAny_eqBool_int h
   ·rw [CJ] at h;exact SeqAt.EqAt.int_str i t y u _ _ _ _ h
  ·rcases zT hv with ⟨j,u,rfl,rfl⟩|⟨y,u,rfl,rfl⟩
   ·rw [CI] at h;exact SeqAt.EqAt.str_int x t j u _ _ _ _ h
   ·rw [CH] at h;exact wpAny_eqBool_str h
 «strs»:=fun k x t v h=>by
  rcases zT h with ⟨i,u,rfl,e⟩|⟨y,u,rfl,e⟩
  ·exact nomatch e
  ·injection e with e1 _
   subst e1
   cases v<;>rfl
end L2
namespace L2
open PySem PySem.Spec PyProof.Rows
inductive V where
 |non|bl (b:Bool)|int (i:Int)|str (x:Str)|byt (b:Array UInt8)|raw (i:Int)|ref (a:Addr)|ty (n:String)
 deriving DecidableEq
abbrev JM:={t:Nat // 0<t}
def RelV:V→Value→Prop
 |.non,u=>u=Value.none
 |.bl b,u=>u=Value.bool b
 |.int i,u=>∃t:JM,u=Value.int i t.1
 |.str x,u=>∃t:JM,u=Value.str x t.1
 |.byt b,u=>∃t,u=Value.bytes b t
 |.raw i,u=>u=Value.int i 0
 |.ref a,u=>u=Value.ref a
 |.ty n,u=>u=Value.type n
abbrev Vals:List V→List Value→Prop:=Paired RelV
theorem Vals.length {xs:List V} {us:List Value} (r:Vals xs us):xs.length=us.length:=Paired.length r
theorem Vals.get:∀{xs:List V} {us:List Value} {i:Nat} {x:V},Vals xs us→xs[i]?=some x→∃u,us[i]?=some u∧RelV x u
 |_,_,_,_,.nil,e=>by simp at e
 |_,_,0,_,.cons r _,e=>by simp at e;subst e;exact ⟨_,rfl,r⟩
 |_,_,i+1,x,.cons _ t,e=>by
  obtain ⟨u,h1,h2⟩:=Vals.get (i:=i) (x:=x) t (by simpa using e)
  exact ⟨u,by simpa using h1,h2⟩
theorem Vals.set {x:V} {u:Value} (r:RelV x u):∀{xs:List V} {us:List Value} (i:Nat),Vals xs us→Vals (xs.set i x) (us.set i u)
 |_,_,_,.nil=>.nil
 |_,_,0,.cons _ t=>.cons r t
 |_,_,i+1,.cons q t=>.cons q (Vals.set r i t)
theorem Vals.append:∀{xs ys:List V} {us ws:List Value},Vals xs us→Vals ys ws→Vals (xs++ys) (us++ws)
 |_,_,_,_,.nil,s=>s
 |_,_,_,_,.cons r t,s=>.cons r (Vals.append t s)
theorem Vals.take:∀{xs:List V} {us:List Value} (n:Nat),Vals xs us→Vals (xs.take n) (us.take n)
 |_,_,0,_=>.nil
 |_,_,_+1,.nil=>.nil
 |_,_,n+1,.cons r t=>.cons r (Vals.take n t)
theorem Vals.drop:∀{xs:List V} {us:List Value} (n:Nat),Vals xs us→Vals (xs.drop n) (us.drop n)
 |_,_,0,r=>r
 |_,_,_+1,.nil=>.nil
 |_,_,n+1,.cons _ t=>Vals.drop n t
def RelO:Option V→Option Value→Prop
 |some v,some u=>RelV v u
 |none,none=>True
 |_,_=>False
def KV {κ:Type}:List (κ×V)→List (κ×Value)→Prop:=Paired fun (p:κ×V) (q:κ×Value)=>p.1=q.1∧RelV p.2 q.2
def kV:kU→V
 |.inl i=>.int i
 |.inr x=>.str x
inductive HO where
 /-- a list -/
 |lst (xs:List V)
 /-- a tuple (never changes) -/
 |tup (xs:List V)
 /-- a dict whose keys are ints and texts;one whose keys are tuples of ints and texts (the empty one is both) -/
 |dK (kvs:List (kU×V))|dT (kvs:List (List kU×V))
 /-- a set of ints: its members,its size -/
 |set (S:Int→Bool) (n:Nat)
 /-- an instance of the class at C,its dict at dx,its attributes -/
 |ins (C dx:Addr) (fs:List (Str×V))
 /-- the dict of the instance at x -/
 |own (x:Addr)
 /-- the dict of an exception -/
 |xd (fs:List (Str×V))
 /-- a bound method,f of x -/
 |met (f x:Addr)
 /-- a range object lo,lo+1,.. below hi -/
 |rng (lo hi:Int)
 /-- a thing that is known to the object (the script;a dict while a loop walks it): read,never written while it is so -/
 |frz (o:Obj) (u:HO)
 /-- a code object's table -/
 |tbl (ps:Array Value)
 /-- any other thing,by what is true of its one object (a def of one's own: SetO a S n:=HO.ext fun h=>..) -/
 |ext (φ:Heap→Prop)
abbrev Hp:=Addr→Option HO
def jC (H:Hp) (a:Addr) (o:HO):Hp:=fun b=>if b=a then some o else H b
theorem jG {H:Hp} {a:Addr} {o:HO}:jC H a o a=some o:=by unfold jC;rw [if_pos rfl]
theorem jH {H:Hp} {a b:Addr} {o:HO} (h:b≠a):jC H a o b=H b:=by unfold jC;rw [if_neg h]
theorem yZ {H:Hp} {a b:Addr} {o:HO} (h:H a=some o) (h':H b=none):a≠b:=by
 intro e;subst e;rw [h] at h';cases h'
section
variable (P:Program) (w:World)
def ObjOk (H:Hp) (h:Heap) (a:Addr):HO→Prop
 |.lst xs=>xs.length≤sizeLine∧∃(its:List Value) (n:Nat),Vals xs its∧h.get? a=some {cls:=.type "list",data:=.seq its.toArray n}
 |.tup xs=>xs.length≤sizeLine∧∃its:List Value,Vals xs its∧IsTup h a its.toArray
 |.dK kvs=>kvs.length≤sizeLine∧(a == sysModules)=false∧∃vs,KV kvs vs∧h.DictOf (JH P w) a vs
 |.dT kvs=>kvs.length≤sizeLine∧(a == sysModules)=false∧∃xs:List (List kU×Addr×Value),
   Paired (fun (p:List kU×V) (q:List kU×Addr×Value)=>p.1=q.1∧H q.2.1=some (.tup (p.1.map kV))∧RelV p.2 q.2.2) kvs xs∧
   ∃o es ep,h.get? a=some o∧o.ExactDict∧o.data=.dict es ep∧es.toList=xs.map (entryOfKey (tupleKind (JH P w)))∧(xs.map (·.1)).Nodup
 |.set S n=>h.SetOf (intKind P w) a S n
 |.ins C dx fs=>H dx=some (.own a)∧fs.length≤1000∧dx≠a∧h.get? a=some (PySem.W.instObj C dx)∧
   ∃mA,h.Ns1 dx mA∧(∀f,RelO (fs.lookup f) (mA f))∧PySem.Within mA (fs.map (·.1))
 |.own _=>∃o,h.get? a=some o
 |.xd fs=>∃mA,h.Ns1 a mA∧∀f,RelO (fs.lookup f) (mA f)
 |.rng lo hi=>∃t u v,h.get? a=some {cls:=.type "range",data:=.fields #[.int lo t,.int hi u,.int 1 v]}
 |.frz o u=>h.get? a=some o∧ObjOk H h a u
 |.tbl ps=>h.get? a=some {cls:=.none,data:=.fields ps}
 |.met f x=>h.get? a=some (PySem.W.methodObj (.ref f) (.ref x))
 |.ext φ=>φ h∧(∃o,h.get? a=some o)∧∀h1 h2:Heap,φ h1→(∀o,h1.get? a=some o→h2.get? a=some o)→φ h2
def HOk (H:Hp) (h:Heap):Prop:=∀a o,H a=some o→ObjOk P w H h a o
end
section
variable {P:Program} {w:World} {H H':Hp} {h h':Heap} {a:Addr} {o:HO}
theorem ObjOk.lt (x:ObjOk P w H h a o):a<h.objs.size:=by
 cases o with
 |lst xs=>obtain ⟨_,_,_,_,e⟩:=x;exact Heap.lt_size e
 |tup xs=>obtain ⟨_,_,_,p⟩:=x;exact p.lt
 |dK kvs=>obtain ⟨_,_,_,_,o,_,_,e,_⟩:=x;exact Heap.lt_size e
 |dT kvs=>obtain ⟨_,_,_,_,o,_,_,e,_⟩:=x;exact Heap.lt_size e
 |set S n=>obtain ⟨o,_,_,_,e,_⟩:=x;exact Heap.lt_size e
 |ins C dx fs=>obtain ⟨_,_,_,e,_⟩:=x;exact Heap.lt_size e
 |own y=>obtain ⟨_,e⟩:=x;exact Heap.lt_size e
 |xd fs=>obtain ⟨_,⟨_,_,_,e,_⟩,_⟩:=x;exact Heap.lt_size e
 |rng lo hi=>obtain ⟨_,_,_,e⟩:=x;exact Heap.lt_size e
 |frz ob u=>obtain ⟨e,_⟩:=x;exact Heap.lt_size e
 |tbl ps=>exact Heap.lt_size (show h.get? a=some _ from x)
 |met f y=>exact Heap.lt_size (show h.get? a=some _ from x)
 |ext φ=>obtain ⟨_,⟨_,e⟩,_⟩:=x;exact Heap.lt_size e
theorem Paired.mapP {α β:Type} {F G:α→β→Prop}:∀{l₁:List α} {l₂:List β},Paired F l₁ l₂→(∀a b,F a b→G a b)→Paired G l₁ l₂
 |_,_,.nil,_=>.nil
 |_,_,.cons r t,f=>.cons (f _ _ r) (Paired.mapP t f)
theorem ObjOk.stay (x:ObjOk P w H h a o) (k:∀b u,(b=a∨H b=some (.own a))→h.get? b=some u→h'.get? b=some u)
  (ho:∀b,H b=some (.own a)→H' b=some (.own a)) (ht:∀b xs,H b=some (.tup xs)→H' b=some (.tup xs)):ObjOk P w H' h' a o:=by
 induction o with
 |lst xs=>obtain ⟨z,its,n,r,e⟩:=x;exact ⟨z,its,n,r,k _ _ (.inl rfl) e⟩
 |tup xs=>obtain ⟨z,its,r,ob,e,c⟩:=x;exact ⟨z,its,r,ob,k _ _ (.inl rfl) e,c⟩
 |dK kvs=>obtain ⟨z,y,vs,r,ob,es,ep,e,c⟩:=x;exact ⟨z,y,vs,r,ob,es,ep,k _ _ (.inl rfl) e,c⟩
 |dT kvs =>
  obtain ⟨z,y,xs,r,ob,es,ep,e,c⟩:=x
  exact ⟨z,y,xs,Paired.mapP r fun p q z=>⟨z.1,ht _ _ z.2.1,z.2.2⟩,ob,es,ep,k _ _ (.inl rfl) e,c⟩
 |set S n=>obtain ⟨ob,es,ep,t,e,c⟩:=x;exact ⟨ob,es,ep,t,k _ _ (.inl rfl) e,c⟩
 |ins C dx fs =>
  obtain ⟨d,z,ne,e,mA,⟨od,es,ep,e2,c⟩,r⟩:=x
  exact ⟨ho _ d,z,ne,k _ _ (.inl rfl) e,mA,⟨od,es,ep,k _ _ (.inr d) e2,c⟩,r⟩
 |own y=>obtain ⟨ob,e⟩:=x;exact ⟨ob,k _ _ (.inl rfl) e⟩
 |xd fs=>obtain ⟨mA,⟨od,es,ep,e,c⟩,r⟩:=x;exact ⟨mA,⟨od,es,ep,k _ _ (.inl rfl) e,c⟩,r⟩
 |rng lo hi=>obtain ⟨t,u,v,e⟩:=x;exact ⟨t,u,v,k _ _ (.inl rfl) e⟩
 |frz ob u ih=>obtain ⟨e,q⟩:=x;exact ⟨k _ _ (.inl rfl) e,ih q⟩
 |tbl ps =>
  have e:h.get? a=some {cls:=.none,data:=.fields ps}:=x
  show h'.get? a=some {cls:=.none,data:=.fields ps}
  exact k a _ (.inl rfl) e
 |met f y =>
  have e:h.get? a=some (PySem.W.methodObj (.ref f) (.ref y)):=x
  show h'.get? a=some (PySem.W.methodObj (.ref f) (.ref y))
  exact k a _ (.inl rfl) e
 |ext φ=>obtain ⟨p,⟨o,e⟩,st⟩:=x;exact ⟨st _ _ p fun o q=>k _ _ (.inl rfl) q,⟨o,k _ _ (.inl rfl) e⟩,st⟩
theorem HOk.lt (x:HOk P w H h) (e:H a=some o):a<h.objs.size:=(x a o e).lt
theorem HOk.fresh (x:HOk P w H h) (e:h.objs.size≤a):H a=none:=by
 cases q:H a with
 |none=>rfl
 |some u=>exact absurd (Nat.lt_of_lt_of_le (x.lt q) e) (Nat.lt_irrefl _)
theorem HOk.kept (x:HOk P w H h) (k:∀b u,h.get? b=some u→h'.get? b=some u):HOk P w H h':=fun a o e =>
 (x a o e).stay (fun b u _ q=>k b u q) (fun _ q=>q) fun _ _ q=>q
theorem HOk.laid (x:HOk P w H h) (k:∀b u,h.get? b=some u→h'.get? b=some u) (hp:h.objs.size≤a) (new:ObjOk P w (jC H a o) h' a o):HOk P w (jC H a o) h':=fun b u e=>by
 have hn:=x.fresh hp
 by_cases hb:b=a
 ·subst hb;rw [jG] at e;cases e;exact new
 ·rw [jH hb] at e
  exact (x b u e).stay (fun c v _ q=>k c v q) (fun c q=>by rw [jH (yZ q hn)];exact q) fun c xs q=>by rw [jH (yZ q hn)];exact q
end
def Rd (H:Hp) (a:Addr) (u:HO):Prop:=H a=some u∨∃o,H a=some (.frz o u)
theorem Rd.of {H:Hp} {a:Addr} {u:HO} (h:H a=some u):Rd H a u:=.inl h
theorem Rd.ok {P:Program} {w:World} {H:Hp} {h:Heap} {a:Addr} {u:HO} (r:Rd H a u) (x:HOk P w H h):ObjOk P w H h a u:=by
 rcases r with r|⟨o,r⟩
 ·exact x a u r
 ·obtain ⟨_,q⟩:=x a _ r
  exact q
def bL:Option HO→Prop
 |some (.lst _)=>True
 |some (.dK _)=>True
 |some (.dT _)=>True
 |some (.set _ _)=>True
 |some (.ins _ _ _)=>True
 |some (.ext _)=>True
 |_=>False
section
variable {P:Program} {w:World} {H:Hp} {h h':Heap} {x e:Addr} {o':HO}
theorem HOk.write (ok:HOk P w H h) (mu:bL (H x)) (he:e=x∨H e=some (.own x)) (k:∀b u,b≠e→h.get? b=some u→h'.get? b=some u) (heo:∃u,h'.get? e=some u)
  (new:ObjOk P w (jC H x o') h' x o'):HOk P w (jC H x o') h':=fun b u q=>by
 have nown:∀c y,H c=some (.own y)→c≠x:=fun c y r z=>by subst z;rw [r] at mu;exact mu
 have ntup:∀c xs,H c=some (.tup xs)→c≠x:=fun c xs r z=>by subst z;rw [r] at mu;exact mu
 by_cases hb:b=x
 ·subst hb;rw [jG] at q;cases q;exact new
 ·rw [jH hb] at q
  by_cases hbe:b=e
  ·have q':H b=some (.own x):=by
    rcases he with z|z
    ·exact absurd (hbe.trans z) hb
    ·rw [hbe];exact z
   rw [q] at q';cases q'
   obtain ⟨v,hv⟩:=heo
   exact ⟨v,by rw [hbe];exact hv⟩
  ·refine (ok b u q).stay (fun c v hc r=>k c v ?_ r) (fun c r=>by rw [jH (nown c b r)];exact r) fun c xs r=>by rw [jH (ntup c xs r)];exact r
   rcases hc with rfl|hc
   ·exact hbe
   ·rintro rfl
    rcases he with z|z
    ·exact nown c b hc z
    ·rw [hc] at z;cases z;exact hb rfl
end
structure Un (fs ex:List Addr) (H H':Hp) (h h':Heap):Prop where
 keep:∀b o,h.get? b=some o→H b=none→b∉fs→b∉ex→h'.get? b=some o
 slot:∀b o,h.get? b=some o→H b=none→b∈fs→b∉ex→∃sl,h'.get? b=some {o with slots:=sl}
 free:∀b o,h.get? b=some o→H b=none→b∉ex→H' b=none
 there:∀b o,h.get? b=some o→b∉ex→∃o',h'.get? b=some o'
 tups:∀b xs,H b=some (.tup xs)→H' b=some (.tup xs)
 frzs:∀b o u,H b=some (.frz o u)→H' b=some (.frz o u)
 tbls:∀b ps,H b=some (.tbl ps)→∃more,H' b=some (.tbl (ps++more))
section
variable {fs fs' ex ex':List Addr} {H H1 H2:Hp} {h h1 h2 h':Heap} {a x e:Addr} {o:HO}
theorem Un.any (u:Un fs ex H H1 h h1) {b:Addr} {ob:Obj} (q:h.get? b=some ob) (n:H b=none) (hx:b∉ex):∃sl,h1.get? b=some {ob with slots:=sl}:=by
 by_cases hb:b∈fs
 ·exact u.slot b ob q n hb hx
 ·exact ⟨ob.slots,u.keep b ob q n hb hx⟩
theorem Un.kept (k:∀b u,h.get? b=some u→h'.get? b=some u):Un fs ex H H h h' :=
 ⟨fun b ob q _ _ _=>k b ob q,fun b ob q _ _ _=>⟨ob.slots,k b ob q⟩,fun _ _ _ n _=>n,fun b ob q _=>⟨ob,k b ob q⟩,fun _ _ q=>q,fun _ _ _ q=>q,fun _ ps q=>⟨#[],by rw [q];simp⟩⟩
theorem Un.refl:Un fs ex H H h h:=Un.kept fun _ _ q=>q
theorem Un.laid (k:∀b u,h.get? b=some u→h'.get? b=some u) (hp:h.objs.size≤a) (hn:H a=none):Un fs ex H (jC H a o) h h' where
 keep:=fun b u q _ _ _=>k b u q
 slot:=fun b u q _ _ _=>⟨u.slots,k b u q⟩
 free:=fun b u q n _=>by rw [jH (Nat.ne_of_lt (Nat.lt_of_lt_of_le (Heap.lt_size q) hp))];exact n
 there:=fun b u q _=>⟨u,k b u q⟩
 tups:=fun b xs q=>by rw [jH (yZ q hn)];exact q
 frzs:=fun b u xs q=>by rw [jH (yZ q hn)];exact q
 tbls:=fun b ps q=>⟨#[],by rw [jH (yZ q hn),q];simp⟩
theorem Un.write (mu:bL (H x)) (he:e=x∨H e=some (.own x)) (k:∀b u,b≠e→h.get? b=some u→h'.get? b=some u) (heo:∃u,h'.get? e=some u):Un fs ex H (jC H x o) h h':=by
 have hx:∀b,H b=none→b≠x:=fun b n z=>by subst z;rw [n] at mu;exact mu
 have hb:∀b,H b=none→b≠e:=fun b n z=>by
  subst z
  rcases he with r|r
  ·exact hx b n r
  ·rw [n] at r;cases r
 have hm:∀b u,H b=some u→¬bL (some u)→b≠x:=fun b u q nm z=>by subst z;rw [q] at mu;exact nm mu
 refine ⟨fun b u q n _ _=>k b u (hb b n) q,fun b u q n _ _=>⟨u.slots,k b u (hb b n) q⟩,fun b u q n _=>by rw [jH (hx b n)];exact n,fun b u q _=>?_,
  fun b xs q=>by rw [jH (hm b _ q fun z=>z)];exact q,fun b u xs q=>by rw [jH (hm b _ q fun z=>z)];exact q,fun b ps q=>⟨#[],by rw [jH (hm b _ q fun z=>z),q];simp⟩⟩
 by_cases hbe:b=e
 ·subst hbe;exact heo
 ·exact ⟨u,k b u hbe q⟩
theorem Un.mono (u:Un fs ex H H1 h h1) (hs:∀b∈fs,b∈fs') (hx:∀b∈ex,b∈ex'):Un fs' ex' H H1 h h1 :=
 ⟨fun b ob q n hb he=>u.keep b ob q n (fun z=>hb (hs b z)) fun z=>he (hx b z),fun _ _ q n _ he=>u.any q n fun z=>he (hx _ z),fun b ob q n he=>u.free b ob q n fun z=>he (hx b z),fun b ob q he=>u.there b ob q fun z=>he (hx b z),u.tups,u.frzs,u.tbls⟩
end
def trk (h:Heap) (H:Hp):List Addr:=(List.range h.objs.size).filter fun a=>(H a).isSome
def zM (h:Heap) (H:Hp):Heap:=PySem.W.hideAll h (trk h H)
theorem wP (h:Heap) (H:Hp):(zM h H).objs.size=h.objs.size:=PySem.W.hideAll_size _ _
theorem cK {h:Heap} {H:Hp} {b:Addr} {o:Obj} (e:h.get? b=some o) (n:H b=none):(zM h H).get? b=some o :=
 PySem.W.hideAll_get _ e fun hm=>by
  have q:(H b).isSome=true:=(List.mem_filter.mp hm).2
  rw [n] at q;simp at q
theorem AR {h:Heap} {H:Hp} {b:Addr} {o:Obj} (e:(zM h H).get? b=some o):h.get? b=some o∧H b=none:=by
 have e':h.get? b=some o:=PySem.W.of_hideAll (trk h H) e
 refine ⟨e',?_⟩
 cases q:H b with
 |none=>rfl
 |some x =>
  have hm:b∈trk h H:=List.mem_filter.mpr ⟨List.mem_range.mpr (Heap.lt_size e'),by simp [q]⟩
  have z:(zM h H).get? b=none:=PySem.W.hideAll_none (trk h H) hm
  rw [z] at e;cases e
def BH (g h:Heap) (L:Addr):List (Addr×Obj):=(List.range h.objs.size).filterMap fun a=>if a=L∨(g.get? a).isSome=true then none else (h.get? a).map fun o=>(a,o)
def rest (g h:Heap) (L d:Addr):List (Addr×Obj):=(BH g h L).filter fun p=>decide (p.1≠d)
end L2
namespace L2
open PySem PySem.Spec PyProof.Rows
structure Mod (K:PySem.W.Frag) (mg:Str→Option Value) (base:Heap):Prop where
 kin:K.In base
 glob:base.Ns mainGlobals mg
 blt:∃mb,base.Ns builtinsNs mb∧∀x:Str,x≠"__name__"→mb x=bootBuiltins x
 nolimit:base.NoLimit
structure Cx where
 prog:Program
 w:World
 K:PySem.W.Frag
 mg:Str→Option Value
 base:Heap
 A:Around
 N:List Str
 s₀:Shared
 H₀:Hp
 env:Env
 outer:List Env
 stack:List Env
 ex:List Addr
 fn:Str→Bool
 calm:Bool
 pn:List (Addr×Obj)
 xe:Value→Shared→Prop
def yF (l:List Env):List Addr:=l.filterMap (·.frame)
abbrev Cx.fs (X:Cx):List Addr:=yF X.outer
def zE (sc:Scope) (x:Str):Prop:=sc.names.lookup x=some .local∨sc.names.lookup x=some .cell∨sc.names.lookup x=some .free
def QG (sc:Scope) (x:Str):Prop:=sc.names.lookup x=some .local∨sc.names.lookup x=some .cell
def E1 (env:Env) (h:Heap) (m:Str→Option Value) (x:Str) (u:Value):Prop :=
 (env.kindOf x=some .local∧m x=some u)∨((env.kindOf x=some .cell∨env.kindOf x=some .free)∧∃c,env.cells.lookup x=some c∧h.IsCell c (some u))
structure Cx.Ok (X:Cx):Prop where
 mod:Mod X.K X.mg X.base
 kind:X.env.scope.kind=.function
 glob:X.env.globals=mainGlobals
 blt:X.env.builtins=builtinsNs
 above:X.s₀.heap.objs.size≤X.env.locals
 inj:∀x y c,X.env.cells.lookup x=some c→X.env.cells.lookup y=some c→x=y
 has:∀x,(X.env.kindOf x=some .cell∨X.env.kindOf x=some .free)→∃c,X.env.cells.lookup x=some c
 cab:∀x c,X.fn x=true→X.env.cells.lookup x=some c→X.s₀.heap.objs.size≤c
 hd:X.calm=true→X.A.handled=none
 frames:X.A.frames=some X.stack
 stk:X.stack=X.outer∨(X.stack=X.env::X.outer∧X.env.frame=some X.env.locals)
 exf:∀b∈X.ex,b≠X.env.locals∧∀x c,X.env.cells.lookup x=some c→c≠b
 bs:∀b o,X.base.get? b=some o→X.s₀.heap.get? b=some o∧X.H₀ b=none
 bsz:X.base.objs.size≤X.s₀.heap.objs.size
 noex:∀b o,X.base.get? b=some o→b∉X.ex
 exfs:∀b∈X.ex,b∉X.fs
 funs:X.s₀.heap.FunFrames X.base X.outer
 frf:∀b∈X.fs,X.H₀ b=none
structure Bare (s:Shared):Prop where
 b:AllBare s.gens
 t:0<s.toks
structure Inv (X:Cx) (pins:List (Addr×Obj)) (σ:List (Option V)) (H:Hp) (s:Shared):Prop where
 ok:X.Ok
 os:s.os=X.s₀.os
 bare:Bare s
 base:Un X.fs X.ex X.H₀ H X.s₀.heap s.heap
 loc:∃m,s.heap.Ns X.env.locals m∧∀(i:Nat) (x:Str) (v:V),X.N[i]?=some x→σ[i]?=some (some v)→zE X.env.scope x→∃u,RelV v u∧E1 X.env s.heap m x u
 cell:∀x c,X.env.cells.lookup x=some c→∃v,s.heap.IsCell c v
 free:H X.env.locals=none
 freeC:∀x c,X.env.cells.lookup x=some c→H c=none
 pin:∀p∈X.pn++pins,s.heap.get? p.1=some p.2∧H p.1=none∧p.1≠X.env.locals∧p.1∉X.fs∧∀v,p.2.data≠.cell v
 hok:HOk X.prog X.w H s.heap
 len:σ.length=X.N.length
theorem Inv.tk {X:Cx} {pins:List (Addr×Obj)} {σ:List (Option V)} {H:Hp} {s:Shared} (I:Inv X pins σ H s):0<s.toks:=I.bare.t
section
variable {X:Cx} {pins:List (Addr×Obj)} {σ:List (Option V)} {H H':Hp} {s:Shared} {h':Heap}
theorem Cx.Ok.nofr (ok:X.Ok) {b:Addr} {o:Obj} (e:X.base.get? b=some o):b∉X.fs:=fun hb=>by
 have:=(ok.funs.mem hb).1
 rw [e] at this;cases this
theorem Inv.bs (I:Inv X pins σ H s):∀b o,X.base.get? b=some o→s.heap.get? b=some o∧H b=none:=fun b o e =>
 ⟨I.base.keep b o (I.ok.bs b o e).1 (I.ok.bs b o e).2 (I.ok.nofr e) (I.ok.noex b o e),I.base.free b o (I.ok.bs b o e).1 (I.ok.bs b o e).2 (I.ok.noex b o e)⟩
theorem Inv.bk (I:Inv X pins σ H s):∀b o,X.base.get? b=some o→s.heap.get? b=some o:=fun b o e=>(I.bs b o e).1
theorem Inv.mod (I:Inv X pins σ H s):Mod X.K X.mg X.base:=I.ok.mod
theorem Inv.kIn (I:Inv X pins σ H s):X.K.In s.heap:=I.ok.mod.kin.keeps I.bk
theorem Inv.lt (I:Inv X pins σ H s):X.env.locals<s.heap.objs.size:=let ⟨_,hn,_⟩:=I.loc;hn.lt
theorem Inv.sz (I:Inv X pins σ H s):X.s₀.heap.objs.size≤s.heap.objs.size:=Nat.le_trans I.ok.above (Nat.le_of_lt I.lt)
theorem Inv.nofs (I:Inv X pins σ H s) {a:Addr} (h:s.heap.objs.size≤a):a∉X.fs:=fun hb=>by
 obtain ⟨_,o,ho,_⟩:=I.ok.funs.mem hb
 exact absurd (Nat.lt_of_lt_of_le (Heap.lt_size ho) (Nat.le_trans I.sz h)) (Nat.lt_irrefl _)
theorem Inv.cne (I:Inv X pins σ H s):∀x c,X.env.cells.lookup x=some c→c≠X.env.locals:=fun x c e z=>by
 obtain ⟨v,o,ho,hd⟩:=I.cell x c e
 obtain ⟨m,⟨o',es,ep,ho',hd',_⟩,_⟩:=I.loc
 rw [z,ho'] at ho;cases ho;rw [hd'] at hd;cases hd
theorem Inv.funs (I:Inv X pins σ H s):s.heap.FunFrames X.base X.outer:=by
 have all:∀(l:List Env),(∀b∈yF l,b∈X.fs)→X.s₀.heap.FunFrames X.base l→s.heap.FunFrames X.base l:=by
  intro l
  induction l with
  |nil=>intro _ _;trivial
  |cons env r ih =>
   intro hs hl
   obtain ⟨hk,⟨L,o,hf,hn,ho,hd⟩,hr⟩:=hl
   have hL:L∈X.fs:=hs L (by unfold yF;rw [List.filterMap_cons,hf];exact List.mem_cons_self)
   obtain ⟨sl,e⟩:=I.base.slot L o ho (I.ok.frf L hL) hL fun z=>I.ok.exfs L z hL
   exact ⟨hk,⟨L,_,hf,hn,e,hd⟩,ih (fun b hb=>hs b (by unfold yF;rw [List.filterMap_cons,hf];exact List.mem_cons_of_mem _ hb)) hr⟩
 exact all X.outer (fun _ hb=>hb) I.ok.funs
theorem Inv.stack (I:Inv X pins σ H s):s.heap.FunFrames X.base X.stack:=by
 rcases I.ok.stk with e|⟨e,hf⟩
 ·rw [e];exact I.funs
 ·rw [e]
  obtain ⟨m,hn,_⟩:=I.loc
  refine .cons (by rw [I.ok.kind];decide) hf hn ?_ I.funs
  exact Heap.get?_none_of_le (Nat.le_trans I.ok.bsz I.ok.above)
theorem Inv.stkSub (I:Inv X pins σ H s):∀b∈yF X.stack,b∈X.env.locals::X.fs:=fun b hb=>by
 rcases I.ok.stk with e|⟨e,hf⟩
 ·rw [e] at hb;exact List.mem_cons_of_mem _ hb
 ·rw [e] at hb
  unfold yF at hb
  rw [List.filterMap_cons,hf] at hb
  exact hb
theorem Inv.stkFree (I:Inv X pins σ H s):∀b∈yF X.stack,H b=none:=fun b hb=>by
 rcases List.mem_cons.mp (I.stkSub b hb) with e|hb
 ·rw [e];exact I.free
 ·obtain ⟨_,o,ho,_⟩:=I.ok.funs.mem hb
  exact I.base.free b o ho (I.ok.frf b hb) fun z=>I.ok.exfs b z hb
theorem Inv.step {g':Array GenState} {t':Nat} {d':Drawn} {ch:List Addr} (I:Inv X pins σ H s)
  (hch:∀b∈ch,(b∈X.ex∨X.s₀.heap.objs.size≤b)∧b≠X.env.locals∧(∀x c,X.env.cells.lookup x=some c→c≠b)∧∀p∈X.pn++pins,p.1≠b)
  (keep:∀b o,b≠X.env.locals→b∉X.fs→b∉ch→s.heap.get? b=some o→H b=none→h'.get? b=some o)
  (slot:∀b o,b≠X.env.locals→b∈X.fs→b∉ch→s.heap.get? b=some o→H b=none→∃sl,h'.get? b=some {o with slots:=sl}) (free:∀b o,b∉ch→s.heap.get? b=some o→H b=none→H' b=none)
  (there:∀b o,b∉ch→s.heap.get? b=some o→∃o',h'.get? b=some o')
  (tups:∀b xs,H b=some (.tup xs)→H' b=some (.tup xs)) (frzs:∀b o u,H b=some (.frz o u)→H' b=some (.frz o u)) (tbls:∀b ps,H b=some (.tbl ps)→∃more,H' b=some (.tbl (ps++more)))
  (ns:∀m,s.heap.Ns X.env.locals m→h'.Ns X.env.locals m) (hok:HOk X.prog X.w H' h') (hg:Bare {s with heap:=h',gens:=g',drawn:=d',toks:=t'}) :
  Inv X pins σ H' {s with heap:=h',gens:=g',drawn:=d',toks:=t'}:=by
 have neL:∀b o,X.s₀.heap.get? b=some o→b≠X.env.locals:=fun b o e=>Nat.ne_of_lt (Nat.lt_of_lt_of_le (Heap.lt_size e) I.ok.above)
 have neC:∀b o,X.s₀.heap.get? b=some o→b∉X.ex→b∉ch:=fun b o e hx hb=>by
  rcases (hch b hb).1 with z|z
  ·exact hx z
  ·exact absurd (Nat.lt_of_lt_of_le (Heap.lt_size e) z) (Nat.lt_irrefl _)
 have cellK:∀x c,X.env.cells.lookup x=some c→∀v,s.heap.IsCell c v→h'.IsCell c v:=fun x c e v ⟨o,ho,hd⟩=>by
  have nch:c∉ch:=fun z=>(hch c z).2.2.1 x c e rfl
  by_cases hc:c∈X.fs
  ·obtain ⟨sl,q⟩:=slot c o (I.cne x c e) hc nch ho (I.freeC x c e)
   exact ⟨_,q,hd⟩
  ·exact ⟨o,keep c o (I.cne x c e) hc nch ho (I.freeC x c e),hd⟩
 refine ⟨I.ok,I.os,hg,⟨fun b o e n hb hx=>?_,fun b o e n hb hx=>?_,fun b o e n hx=>?_,fun b o e hx=>?_,fun b xs e=>tups b xs (I.base.tups b xs e),fun b o xs e=>frzs b o xs (I.base.frzs b o xs e),fun b ps e=>?_⟩,?_,fun x c e=>?_,?_,fun x c e=>?_,fun p hp=>?_,hok,I.len⟩
 ·exact keep b o (neL b o e) hb (neC b o e hx) (I.base.keep b o e n hb hx) (I.base.free b o e n hx)
 ·obtain ⟨sl,e1⟩:=I.base.slot b o e n hb hx
  obtain ⟨sl',e2⟩:=slot b _ (neL b o e) hb (neC b o e hx) e1 (I.base.free b o e n hx)
  exact ⟨sl',e2⟩
 ·obtain ⟨o',e1⟩:=I.base.there b o e hx
  exact free b o' (neC b o e hx) e1 (I.base.free b o e n hx)
 ·obtain ⟨o',e1⟩:=I.base.there b o e hx
  exact there b o' (neC b o e hx) e1
 ·obtain ⟨m1,e1⟩:=I.base.tbls b ps e
  obtain ⟨m2,e2⟩:=tbls b _ e1
  exact ⟨m1++m2,by rw [e2,Array.append_assoc]⟩
 ·obtain ⟨m,hn,hl⟩:=I.loc
  refine ⟨m,ns m hn,fun i x v e1 e2 e3=>?_⟩
  obtain ⟨u,r,l⟩:=hl i x v e1 e2 e3
  refine ⟨u,r,?_⟩
  rcases l with l|⟨k,c,e,z⟩
  ·exact .inl l
  ·exact .inr ⟨k,c,e,cellK x c e _ z⟩
 ·obtain ⟨v,z⟩:=I.cell x c e
  exact ⟨v,cellK x c e v z⟩
 ·obtain ⟨m,⟨o,_,_,ho,_⟩,_⟩:=I.loc
  exact free _ o (fun z=>(hch _ z).2.1 rfl) ho I.free
 ·obtain ⟨v,o,ho,hd⟩:=I.cell x c e
  exact free c o (fun z=>(hch c z).2.2.1 x c e rfl) ho (I.freeC x c e)
 ·obtain ⟨e,n,ne,nf,d⟩:=I.pin p hp
  have nch:p.1∉ch:=fun z=>(hch p.1 z).2.2.2 p hp rfl
  exact ⟨keep p.1 p.2 ne nf nch e n,free p.1 p.2 nch e n,ne,nf,d⟩
theorem Inv.un {t':Nat} (I:Inv X pins σ H s) (u:Un X.fs [] H H' s.heap h') (hok:HOk X.prog X.w H' h') (ht:0<t':=by first|exact Nat.succ_pos _|exact Inv.tk (by assumption)|(dsimp only;exact Inv.tk (by assumption))):Inv X pins σ H' {s with heap:=h',toks:=t'}:=by
  obtain ⟨m,⟨o,es,ep,ho,r⟩,_⟩:=id I.loc
  obtain ⟨sl,hL⟩:=u.any ho I.free (by simp)
  exact I.step (g':=s.gens) (d':=s.drawn) (ch:=[]) (fun _ z=>nomatch z) (fun b o _ hb _ e n=>u.keep b o e n hb (by simp)) (fun b o _ hb _ e n=>u.slot b o e n hb (by simp)) (fun b o _ e n=>u.free b o e n (by simp)) (fun b o _ e=>u.there b o e (by simp)) u.tups u.frzs u.tbls (fun m' hm=>by
    obtain ⟨o',es',ep',ho',r'⟩:=hm
    rw [ho] at ho';cases ho'
    exact ⟨_,es',ep',hL,r'⟩) hok ⟨I.bare.b,ht⟩
theorem Inv.call {g':Array GenState} {t':Nat} {d':Drawn} {ch:List Addr} (I:Inv X pins σ H s) (u:Un (yF X.stack) ch H H' s.heap h') (hok:HOk X.prog X.w H' h') (hg:Bare {s with heap:=h',gens:=g',drawn:=d',toks:=t'})
  (hch:∀b∈ch,(b∈X.ex∨X.s₀.heap.objs.size≤b)∧b≠X.env.locals∧(∀x c,X.env.cells.lookup x=some c→c≠b)∧∀p∈X.pn++pins,p.1≠b) :
  Inv X pins σ H' {s with heap:=h',gens:=g',drawn:=d',toks:=t'}:=by
 obtain ⟨m,⟨o,es,ep,ho,r⟩,_⟩:=id I.loc
 obtain ⟨sl,hL⟩:=u.any ho I.free fun z=>(hch _ z).2.1 rfl
 exact I.step (ch:=ch) hch (fun b o hL hb hc e n=>u.keep b o e n (fun z=>(List.mem_cons.mp (I.stkSub b z)).elim hL hb) hc) (fun b o _ _ hc e n=>u.any e n hc) (fun b o hc e n=>u.free b o e n hc) (fun b o hc e=>u.there b o e hc) u.tups u.frzs u.tbls (fun m' hm=>by
  obtain ⟨o',es',ep',ho',r'⟩:=hm
  rw [ho] at ho';cases ho'
  exact ⟨_,es',ep',hL,r'⟩) hok hg
theorem Inv.turned {t':Nat} {it:Addr} (I:Inv X pins σ H s) (k:∀b o,b≠it→s.heap.get? b=some o→h'.get? b=some o) (hn:H it=none) (hL:it≠X.env.locals)
    (h1:it∈X.ex∨X.s₀.heap.objs.size≤it) (h2:∀x c,X.env.cells.lookup x=some c→c≠it) (h3:∀p∈X.pn++pins,p.1≠it) (ht:0<t':=by first|exact Nat.succ_pos _|exact Inv.tk (by assumption)|(dsimp only;exact Inv.tk (by assumption))):Inv X pins σ H {s with heap:=h',toks:=t'}:=by
  have nit:∀b u,H b=some u→b≠it:=fun b u e z=>by rw [z,hn] at e;cases e
  refine I.step (g':=s.gens) (d':=s.drawn) (ch:=[it]) (fun b hb=>?_) (fun b o _ _ hc e _=>k b o (fun z=>hc (by simp [z])) e) (fun b o _ _ hc e _=>⟨o.slots,k b o (fun z=>hc (by simp [z])) e⟩) (fun _ _ _ _ n=>n)
    (fun b o hc e=>⟨o,k b o (fun z=>hc (by simp [z])) e⟩) (fun _ _ e=>e) (fun _ _ _ e=>e) (fun b ps e=>⟨#[],by rw [e];simp⟩) (fun m hm=>?_) (fun b u e=>?_) ⟨I.bare.b,ht⟩
  · have e:b=it:=by simpa using hb
    subst e
    exact ⟨h1,hL,h2,h3⟩
  · obtain ⟨o,es,ep,ho,r⟩:=hm
    exact ⟨o,es,ep,k _ o (Ne.symm hL) ho,r⟩
  · refine (I.hok b u e).stay (fun c v hc q=>k c v ?_ q) (fun _ q=>q) fun _ _ q=>q
    rcases hc with z|z
    · rw [z];exact nit b u e
    · exact nit c _ z
theorem Inv.tok (I:Inv X pins σ H s) (t:Nat) (ht:0<t:=by first|exact Nat.succ_pos _|exact Inv.tk (by assumption)|(dsimp only;exact Inv.tk (by assumption))):Inv X pins σ H {s with toks:=t}:=I.un (h':=s.heap) (t':=t) Un.refl I.hok ht
theorem Inv.kept {t':Nat} (I:Inv X pins σ H s) (k:∀b u,s.heap.get? b=some u→h'.get? b=some u) (ht:0<t':=by first|exact Nat.succ_pos _|exact Inv.tk (by assumption)|(dsimp only;exact Inv.tk (by assumption))):Inv X pins σ H {s with heap:=h',toks:=t'}:=I.un (Un.kept k) (I.hok.kept k) ht
theorem Inv.laid {a:Addr} {o:HO} {t':Nat} (I:Inv X pins σ H s) (k:∀b u,s.heap.get? b=some u→h'.get? b=some u) (hp:s.heap.objs.size≤a) (new:ObjOk X.prog X.w (jC H a o) h' a o) (ht:0<t':=by first|exact Nat.succ_pos _|exact Inv.tk (by assumption)|(dsimp only;exact Inv.tk (by assumption))) :
  Inv X pins σ (jC H a o) {s with heap:=h',toks:=t'}:=I.un (Un.laid k hp (I.hok.fresh hp)) (I.hok.laid k hp new) ht
theorem Inv.write {x e:Addr} {o:HO} {t':Nat} (I:Inv X pins σ H s) (mu:bL (H x)) (he:e=x∨H e=some (.own x)) (k:∀b u,b≠e→s.heap.get? b=some u→h'.get? b=some u) (heo:∃u,h'.get? e=some u)
  (new:ObjOk X.prog X.w (jC H x o) h' x o) (ht:0<t':=by first|exact Nat.succ_pos _|exact Inv.tk (by assumption)|(dsimp only;exact Inv.tk (by assumption))):Inv X pins σ (jC H x o) {s with heap:=h',toks:=t'}:=I.un (Un.write mu he k heo) (I.hok.write mu he k heo new) ht
theorem Inv.pins_of {pins':List (Addr×Obj)} (I:Inv X pins σ H s) (h:∀p∈pins',s.heap.get? p.1=some p.2∧H p.1=none∧p.1≠X.env.locals∧p.1∉X.fs∧∀v,p.2.data≠.cell v):Inv X pins' σ H s :=
 ⟨I.ok,I.os,I.bare,I.base,I.loc,I.cell,I.free,I.freeC,fun p hp=>(List.mem_append.mp hp).elim (fun z=>I.pin p (List.mem_append_left _ z)) (h p),I.hok,I.len⟩
theorem mG {N:List Str} (hN:N.Nodup) {i j:Nat} {x:Str} (a:N[i]?=some x) (b:N[j]?=some x):i=j:=by
 obtain ⟨h1,e1⟩:=List.getElem?_eq_some_iff.mp a
 obtain ⟨h2,e2⟩:=List.getElem?_eq_some_iff.mp b
 exact (List.getElem_inj hN).mp (e1.trans e2.symm)
theorem iN {M:Model} {A:Around} {E:Value→Shared→Prop} {i:Nat} {x:Str} {v:V} {u:Value} {Q:Unit→Shared→Prop} (I:Inv X pins σ H s) (hN:X.N.Nodup) (hi:X.N[i]?=some x) (hx:QG X.env.scope x) (r:RelV v u)
  (h:∀s',Inv X pins (σ.set i (some v)) H s'→(∃a,Heap.SameBut a s.heap s'.heap∧(a=X.env.locals∨X.env.cells.lookup x=some a))→Q () s') (hf:X.fn x=true∨X.env.scope.names.lookup x=some .local:=by first|exact .inl rfl|exact .inr rfl|assumption):wpAny M A (storeName X.env x u) Q E s:=by
 obtain ⟨m,hn,hl⟩:=id I.loc
 have hcls:(X.env.scope.kind == .class||(X.env.scope.kind == .module&&X.env.locals != X.env.globals))=false:=by rw [I.ok.kind];rfl
 have hiσ:i<σ.length:=by rw [I.len];exact (List.getElem?_eq_some_iff.mp hi).1
 have cne:=I.cne
 have tracked:∀{a:Addr} {h':Heap},(∃o,s.heap.get? a=some o∧H a=none)→Heap.SameBut a s.heap h'→HOk X.prog X.w H h':=fun {a h'} ha hs b ob e=>by
  obtain ⟨_,_,hfree⟩:=ha
  refine (I.hok b ob e).stay (fun c w' hc q=>(hs.2 c ?_).trans q) (fun _ q=>q) fun _ _ q=>q
  rintro rfl
  rcases hc with rfl|hc
  ·rw [hfree] at e;cases e
  ·rw [hfree] at hc;cases hc
 rcases hx with hk|hk
 ·refine wpAny_storeName_local hk hn (fun h' hn' hs=>?_) hcls
  obtain ⟨oL,_,_,hoL,_⟩:=id hn
  refine h _ ⟨I.ok,I.os,⟨I.bare.b,Nat.succ_pos _⟩,⟨fun b o e n hb hx=>?_,fun b o e n hb hx=>?_,I.base.free,fun b o e hx=>?_,I.base.tups,I.base.frzs,I.base.tbls⟩,⟨_,hn',fun j y v' e1 e2 e3=>?_⟩,fun y c e=>?_,I.free,I.freeC,fun p hp=>?_,tracked ⟨oL,hoL,I.free⟩ hs,by simpa using I.len⟩ ⟨_,hs,.inl rfl⟩
  ·exact (hs.2 b (Nat.ne_of_lt (Nat.lt_of_lt_of_le (Heap.lt_size e) I.ok.above))).trans (I.base.keep b o e n hb hx)
  ·obtain ⟨sl,e1⟩:=I.base.slot b o e n hb hx
   exact ⟨sl,(hs.2 b (Nat.ne_of_lt (Nat.lt_of_lt_of_le (Heap.lt_size e) I.ok.above))).trans e1⟩
  ·obtain ⟨o',e1⟩:=I.base.there b o e hx
   exact ⟨o',(hs.2 b (Nat.ne_of_lt (Nat.lt_of_lt_of_le (Heap.lt_size e) I.ok.above))).trans e1⟩
  ·by_cases hj:j=i
   ·subst hj
    rw [hi] at e1;cases e1
    rw [List.getElem?_set_self hiσ] at e2
    cases e2
    exact ⟨u,r,.inl ⟨hk,by simp⟩⟩
   ·rw [List.getElem?_set_ne (Ne.symm hj)] at e2
    obtain ⟨u',r',q⟩:=hl j y v' e1 e2 e3
    refine ⟨u',r',?_⟩
    rcases q with ⟨k,e⟩|⟨k,c,e,z⟩
    ·refine .inl ⟨k,?_⟩
     have:y≠x:=fun e=>hj (mG hN e1 (e▸hi))
     simp [this,e]
    ·exact .inr ⟨k,c,e,z.sameBut hs (cne y c e)⟩
  ·obtain ⟨w',z⟩:=I.cell y c e
   exact ⟨w',z.sameBut hs (cne y c e)⟩
  ·obtain ⟨e,n,ne,nf,d⟩:=I.pin p hp
   exact ⟨(hs.2 p.1 ne).trans e,n,ne,nf,d⟩
 ·have hfn:X.fn x=true:=by
   rcases hf with z|z
   ·exact z
   ·rw [z] at hk;cases hk
  obtain ⟨c,hc⟩:=I.ok.has x (.inl hk)
  obtain ⟨w',z⟩:=I.cell x c hc
  refine wpAny_storeName_cell I.ok.kind hk hc z (fun h' hc' hs=>?_)
  obtain ⟨oc,hoc,hocd⟩:=id z
  refine h {s with heap:=h'} ⟨I.ok,I.os,⟨I.bare.b,I.bare.t⟩,⟨fun b o e n hb hx=>?_,fun b o e n hb hx=>?_,I.base.free,fun b o e hx=>?_,I.base.tups,I.base.frzs,I.base.tbls⟩,⟨m,hn.sameBut hs (Ne.symm (cne x c hc)),fun j y v' e1 e2 e3=>?_⟩,fun y c' e=>?_,I.free,I.freeC,fun p hp=>?_,tracked ⟨oc,hoc,I.freeC x c hc⟩ hs,by simpa using I.len⟩ ⟨c,hs,.inr hc⟩
  ·exact (hs.2 b (Nat.ne_of_lt (Nat.lt_of_lt_of_le (Heap.lt_size e) (I.ok.cab x c hfn hc)))).trans (I.base.keep b o e n hb hx)
  ·obtain ⟨sl,e1⟩:=I.base.slot b o e n hb hx
   exact ⟨sl,(hs.2 b (Nat.ne_of_lt (Nat.lt_of_lt_of_le (Heap.lt_size e) (I.ok.cab x c hfn hc)))).trans e1⟩
  ·obtain ⟨o',e1⟩:=I.base.there b o e hx
   exact ⟨o',(hs.2 b (Nat.ne_of_lt (Nat.lt_of_lt_of_le (Heap.lt_size e) (I.ok.cab x c hfn hc)))).trans e1⟩
  ·by_cases hj:j=i
   ·subst hj
    rw [hi] at e1;cases e1
    rw [List.getElem?_set_self hiσ] at e2
    cases e2
    exact ⟨u,r,.inr ⟨.inl hk,c,hc,hc'⟩⟩
   ·rw [List.getElem?_set_ne (Ne.symm hj)] at e2
    obtain ⟨u',r',q⟩:=hl j y v' e1 e2 e3
    refine ⟨u',r',?_⟩
    rcases q with q|⟨k,c',e,z'⟩
    ·exact .inl q
    ·refine .inr ⟨k,c',e,z'.sameBut hs ?_⟩
     rintro rfl
     exact hj (mG hN e1 (I.ok.inj _ _ _ e hc▸hi))
  ·by_cases hcc:c'=c
   ·subst hcc;exact ⟨_,hc'⟩
   ·obtain ⟨w2,z2⟩:=I.cell y c' e
    exact ⟨w2,z2.sameBut hs hcc⟩
  ·obtain ⟨e,n,ne,nf,d⟩:=I.pin p hp
   refine ⟨(hs.2 p.1 ?_).trans e,n,ne,nf,d⟩
   intro q
   rw [q,hoc] at e
   have q':oc=p.2:=Option.some.inj e
   exact d w' (by rw [← q'];exact hocd)
theorem cD {M:Model} {A:Around} {E:Value→Shared→Prop} {i:Nat} {x:Str} {v:V} {u:Value} {Q:Unit→Shared→Prop} (I:Inv X pins σ H s) (hN:X.N.Nodup) (hi:X.N[i]?=some x) (hx:QG X.env.scope x) (r:RelV v u)
  (h:∀s',Inv X pins (σ.set i (some v)) H s'→Q () s') (hf:X.fn x=true∨X.env.scope.names.lookup x=some .local:=by first|exact .inl rfl|exact .inr rfl|assumption):wpAny M A (storeName X.env x u) Q E s :=
 iN I hN hi hx r (fun s' I' _=>h s' I') hf
theorem Inv.call' {s':Shared} {ch:List Addr} (I:Inv X pins σ H s) (ho:s'.os=s.os) (u:Un (yF X.stack) ch H H' s.heap s'.heap) (hok:HOk X.prog X.w H' s'.heap) (hg:Bare s')
  (hch:∀b∈ch,(b∈X.ex∨X.s₀.heap.objs.size≤b)∧b≠X.env.locals∧(∀x c,X.env.cells.lookup x=some c→c≠b)∧∀p∈X.pn++pins,p.1≠b):Inv X pins σ H' s':=by
 obtain ⟨h',g',d',t',o'⟩:=s'
 have e:o'=s.os:=ho
 subst e
 exact I.call (g':=g') (t':=t') (d':=d') u hok hg hch
end
abbrev XK:=Value→Option Addr→Hp→Prop
abbrev St:=List (Option V)
abbrev VK:=V→Hp→Prop
abbrev TE:=St→Hp→VK→Prop
abbrev TT:=St→Hp→(Bool→Hp→Prop)→Prop
abbrev TA:=St→Hp→(List V→Hp→Prop)→Prop
structure Ends where
 nx:St→Hp→Prop
 rt:VK
 bk:St→Hp→Prop:=fun _ _=>False
 ct:St→Hp→Prop:=fun _ _=>False
abbrev TS:=Ends→St→Hp→Prop
def EP (X:Cx) (pins:List (Addr×Obj)) (σ:St) (Q:VK) (u:Value) (s':Shared):Prop:=∃v H',Inv X pins σ H' s'∧RelV v u∧Q v H'
def TP (X:Cx) (pins:List (Addr×Obj)) (σ:St) (Q:Bool→Hp→Prop) (b:Bool) (s':Shared):Prop:=∃H',Inv X pins σ H' s'∧Q b H'
def AP (X:Cx) (pins:List (Addr×Obj)) (σ:St) (Q:List V→Hp→Prop) (us:List Value) (s':Shared):Prop:=∃vs H',Inv X pins σ H' s'∧Vals vs us∧Q vs H'
def SP (X:Cx) (pins:List (Addr×Obj)) (D:Ends) (f:Flow) (s':Shared):Prop :=
 match f with
 |.next=>∃σ' H',Inv X pins σ' H' s'∧D.nx σ' H'
 |.brk=>∃σ' H',Inv X pins σ' H' s'∧D.bk σ' H'
 |.cont=>∃σ' H',Inv X pins σ' H' s'∧D.ct σ' H'
 |.ret u=>∃v σ' H',Inv X pins σ' H' s'∧RelV v u∧D.rt v H'
def PE (X:Cx) (e:Expr) (t:TE):Prop :=
 ∀(pins:List (Addr×Obj)) (s:Shared) (σ:St) (H:Hp) (Q:VK),Inv X pins σ H s→t σ H Q→wpAny (model X.prog X.w) X.A (eval e X.env) (EP X pins σ Q) X.xe s
def PT (X:Cx) (e:Expr) (t:TT):Prop :=
 ∀(pins:List (Addr×Obj)) (s:Shared) (σ:St) (H:Hp) (Q:Bool→Hp→Prop),Inv X pins σ H s→t σ H Q→wpAny (model X.prog X.w) X.A (isTrue e X.env (eval e X.env)) (TP X pins σ Q) X.xe s
def PW (X:Cx) (e:Expr) (t:TT):Prop :=
 ∀(whole:Sem Value) (pins:List (Addr×Obj)) (s:Shared) (σ:St) (H:Hp) (Q:Bool→Hp→Prop),Inv X pins σ H s→t σ H Q→wpAny (model X.prog X.w) X.A (isTrue e X.env whole) (TP X pins σ Q) X.xe s
theorem PW.pt {X:Cx} {e:Expr} {t:TT} (h:PW X e t):PT X e t:=h _
def PA (X:Cx) (es:List Expr) (t:TA):Prop :=
 ∀(pos:Pos) (pins:List (Addr×Obj)) (s:Shared) (σ:St) (H:Hp) (Q:List V→Hp→Prop),Inv X pins σ H s→t σ H Q→wpAny (model X.prog X.w) X.A (spliced (backTo pos (starEach es X.env))) (AP X pins σ Q) X.xe s
def PS (X:Cx) (st:Stmt) (t:TS):Prop :=
 ∀(pins:List (Addr×Obj)) (s:Shared) (σ:St) (H:Hp) (D:Ends),Inv X pins σ H s→t D σ H→wpAny (model X.prog X.w) X.A (exec st X.env) (SP X pins D) X.xe s
def PSs (X:Cx) (st:List Stmt) (t:TS):Prop :=
 ∀(pins:List (Addr×Obj)) (s:Shared) (σ:St) (H:Hp) (D:Ends),Inv X pins σ H s→t D σ H→wpAny (model X.prog X.w) X.A (execs st X.env) (SP X pins D) X.xe s
theorem jM {α:Type} {t:Sem α} {Q Q':α→Shared→Prop} {M:Model} {A:Around} {E:Value→Shared→Prop} {s:Shared} (h:wpAny M A t Q E s) (hQ:∀a s,Q a s→Q' a s):wpAny M A t Q' E s:=wpAny_mono h hQ fun _ _ x=>x
end L2
namespace L2
open PySem PySem.Spec PyProof.Rows
section
variable {X:Cx}
def pP (i:Nat):TE:=fun σ H Q=>∃v,σ[i]?=some (some v)∧Q v H
def tC (v:V):TE:=fun _ H Q=>Q v H
theorem oY {i:Nat} {x:Str} {pos:Pos} (hN:X.N[i]?=some x) (hv:zE X.env.scope x) (hd:(x == ("__debug__":Str))=false:=by decide) (hcd:(x == ("__classdict__":Str))=false:=by decide):PE X (.Name x pos) (pP i):=by
 intro pins s σ H Q I h
 obtain ⟨v,e,h⟩:=h
 obtain ⟨m,hn,hl⟩:=I.loc
 obtain ⟨u,r,l⟩:=hl i x v hN e hv
 have fin:EP X pins σ Q u s:=⟨v,H,I,r,h⟩
 rcases l with ⟨hk,hm⟩|⟨hk,c,hc,hcell⟩
 ·exact wpAny_Name (wpAny_loadName_local I.ok.kind hk hn hm fin) hd
 ·rcases hk with hk|hk
  ·exact wpAny_Name (wpAny_loadName_cell I.ok.kind hk hc hcell fin) hd
  ·exact wpAny_Name (wpAny_loadName_free I.ok.kind hk hc hcell fin hcd) hd
theorem jE {i j pos}:PE X (.Constant (.int i) j pos) (tC (.int i)):=fun _ _ _ H _ I h=>wpAny_Constant_int ⟨.int i,H,I.tok _,⟨⟨_,I.tk⟩,rfl⟩,h⟩
theorem kY {b j pos}:PE X (.Constant (.bool b) j pos) (tC (.bl b)):=fun _ _ _ H _ I h=>Constant_bool ⟨.bl b,H,I,rfl,h⟩
theorem fZ {j pos}:PE X (.Constant .none j pos) (tC .non):=fun _ _ _ H _ I h=>Constant_none ⟨.non,H,I,rfl,h⟩
theorem QK {x j pos}:PE X (.Constant (.str x) j pos) (tC (.str x)):=fun _ _ _ H _ I h=>Calls.Constant_str ⟨.str x,H,I.tok _,⟨⟨_,I.tk⟩,rfl⟩,h⟩
def Gl (X:Cx) (x:Str):Prop:=X.env.kindOf x=some .globalImplicit
theorem nQ {E:Value→Shared→Prop} {pins:List (Addr×Obj)} {s:Shared} {σ:St} {H:Hp} {x:Str} {u:Value} {pos:Pos} {Q:Value→Shared→Prop} (I:Inv X pins σ H s) (hg:Gl X x) (hm:X.mg x=some u) (h:Q u s)
  (hd:(x == ("__debug__":Str))=false:=by decide):wpAny (model X.prog X.w) X.A (eval (.Name x pos) X.env) Q E s :=
 Calls.Name_function_global I.ok.kind hg (Calls.loadGlobal_global (by rw [I.ok.glob];exact I.mod.glob.keeps I.bk) hm h) hd
theorem JI {E:Value→Shared→Prop} {pins:List (Addr×Obj)} {s:Shared} {σ:St} {H:Hp} {x:Str} {u:Value} {pos:Pos} {Q:Value→Shared→Prop} (I:Inv X pins σ H s) (hg:Gl X x) (hm:X.mg x=none) (hv:bootBuiltins x=some u) (h:Q u s)
  (hn:x≠"__name__":=by decide) (hd:(x == ("__debug__":Str))=false:=by decide):wpAny (model X.prog X.w) X.A (eval (.Name x pos) X.env) Q E s:=by
 obtain ⟨mb,h1,h2⟩:=I.mod.blt
 exact Calls.Name_function_global I.ok.kind hg (Calls.loadGlobal_builtin (by rw [I.ok.glob];exact I.mod.glob.keeps I.bk) hm (by rw [I.ok.blt];exact h1.keeps I.bk) ((h2 x hn).trans hv) h) hd
theorem nJ {x:Str} {v:V} {u:Value} {pos:Pos} (hg:Gl X x) (hm:X.mg x=none) (hv:bootBuiltins x=some u) (r:RelV v u) (hn:x≠"__name__":=by decide) (hd:(x == ("__debug__":Str))=false:=by decide):PE X (.Name x pos) (tC v) :=
 fun _ _ _ H _ I h=>JI I hg hm hv ⟨v,H,I,r,h⟩ hn hd
variable {a b:Expr} {ta tb:TE} {pos:Pos}
def PC (X:Cx) (op:CmpOp) (a b:Expr) (t:TE):Prop :=
 ∀(pins:List (Addr×Obj)) (s:Shared) (σ:St) (H:Hp) (Q:VK),Inv X pins σ H s→t σ H Q→
  wpAny (model X.prog X.w) X.A (eval a X.env) (fun v s₁=>wpAny (model X.prog X.w) X.A (eval b X.env) (fun u s₂=>wpAny (model X.prog X.w) X.A (compareOp op v u) (EP X pins σ Q) X.xe s₂) X.xe s₁) X.xe s
theorem xL (b:Expr) {op:CmpOp} (h:op≠.In) (h2:op≠.NotIn):behindInMarks op b=false:=by
 have e1:(op == CmpOp.In)=false:=by cases op<;>first|rfl|exact absurd rfl h
 have e2:(op == CmpOp.NotIn)=false:=by cases op<;>first|rfl|exact absurd rfl h2
 cases b<;>simp [behindInMarks,e1,e2]
def tB (t:TE):TT:=fun σ H Q=>t σ H fun x H1=>∃c,x=.bl c∧Q c H1
theorem dD {op:CmpOp} {t:TE} (h:PC X op a b t) (h1:behindInMarks op b=false:=by first|exact xL _ (by decide) (by decide)|rfl):PT X (.Compare a [op] [b] pos) (tB t):=by
 intro pins s σ H Q I hw
 refine wpAny_isTrue_Compare1 (jM (h pins s σ H _ I hw) fun v s1 h1=>jM h1 fun u s2 h2=>jM h2 fun c s3 ⟨x,H1,I1,r1,q1⟩=>?_) h1
 obtain ⟨d,rfl,q⟩:=q1
 cases r1
 exact wpAny_truthy_bool ⟨H1,I1,q⟩
theorem yU {e:Expr} {t:TE} (h:PE X e t) (he:∀whole,isTrue e X.env whole=(do let v ← whole;standAt e.pos;holding [v] (truthy v)):=by intro _;rfl):PT X e (tB t):=by
 intro pins s σ H Q I hw
 refine isTrue_plain (jM (h pins s σ H _ I hw) fun v s1 ⟨x,H1,I1,r1,q1⟩=>?_) (he _)
 obtain ⟨d,rfl,q⟩:=q1
 cases r1
 exact wpAny_truthy_bool ⟨H1,I1,q⟩
variable {tA tB':TT} {rest:List Expr}
def EE (t u:TT):TT:=fun σ H Q=>t σ H fun c H1=>if c=true then u σ H1 Q else Q false H1
def E6 (t u:TT):TT:=fun σ H Q=>t σ H fun c H1=>if c=true then Q true H1 else u σ H1 Q
def DX (t:TT):TT:=fun σ H Q=>t σ H fun c H1=>Q (!c) H1
theorem Z7 (ha:PT X a tA):PW X (.BoolOp .And [a] pos) tA:=by
 intro wh pins s σ H Q I h
 refine isTrue_and (jM (ha pins s σ H Q I h) fun c s1 e=>?_)
 cases c with
 |true=>exact isTrue_and_nil e
 |false=>exact e
theorem dC (ha:PT X a tA):PW X (.BoolOp .Or [a] pos) tA:=by
 intro wh pins s σ H Q I h
 refine isTrue_or (jM (ha pins s σ H Q I h) fun c s1 e=>?_)
 cases c with
 |false=>exact isTrue_or_nil e
 |true=>exact e
theorem bA (ha:PT X a tA) (hb:PW X (.BoolOp .And (b::rest) pos) tB'):PW X (.BoolOp .And (a::b::rest) pos) (EE tA tB'):=by
 intro wh pins s σ H Q I h
 refine isTrue_and (jM (ha pins s σ H _ I h) fun c s1 ⟨H1,I1,q1⟩=>?_)
 cases c with
 |true=>exact hb wh pins s1 σ H1 Q I1 q1
 |false=>exact ⟨H1,I1,q1⟩
theorem bD (ha:PT X a tA) (hb:PW X (.BoolOp .Or (b::rest) pos) tB'):PW X (.BoolOp .Or (a::b::rest) pos) (E6 tA tB'):=by
 intro wh pins s σ H Q I h
 refine isTrue_or (jM (ha pins s σ H _ I h) fun c s1 ⟨H1,I1,q1⟩=>?_)
 cases c with
 |true=>exact ⟨H1,I1,q1⟩
 |false=>exact hb wh pins s1 σ H1 Q I1 q1
theorem zJ (ha:PT X a tA):PT X (.UnaryOp .Not a pos) (DX tA):=by
 intro pins s σ H Q I h
 exact isTrue_not (ha pins s σ H (fun c H1=>Q (!c) H1) I h)
def DB (ta tb:TE):TE:=fun σ H Q=>ta σ H fun x H1=>∃c,x=.bl c∧if c=true then tb σ H1 Q else Q (.bl false) H1
def DW (ta tb:TE):TE:=fun σ H Q=>ta σ H fun x H1=>∃c,x=.bl c∧if c=true then Q (.bl true) H1 else tb σ H1 Q
def C4 (ta:TE):TE:=fun σ H Q=>ta σ H fun x H1=>∃c,x=.bl c∧Q (.bl (!c)) H1
theorem y8 {op} {t:TE} (h:PE X a t):PE X (.BoolOp op [a] pos) t:=fun pins s σ H Q I hw=>BoolOp_one (h pins s σ H Q I hw)
theorem y9 (ha:PE X a ta) (hb:PE X (.BoolOp .And (b::rest) pos) tb):PE X (.BoolOp .And (a::b::rest) pos) (DB ta tb):=by
 intro pins s σ H Q I h
 refine BoolOp_and (jM (ha pins s σ H _ I h) fun v s1 ⟨x,H1,I1,r1,q1⟩=>?_)
 obtain ⟨c,rfl,q1⟩:=q1
 cases r1
 refine wpAny_truthy_bool ?_
 cases c with
 |true=>exact hb pins s1 σ H1 Q I1 q1
 |false=>exact ⟨.bl false,H1,I1,rfl,q1⟩
theorem pE (ha:PE X a ta) (hb:PE X (.BoolOp .Or (b::rest) pos) tb):PE X (.BoolOp .Or (a::b::rest) pos) (DW ta tb):=by
 intro pins s σ H Q I h
 refine BoolOp_or (jM (ha pins s σ H _ I h) fun v s1 ⟨x,H1,I1,r1,q1⟩=>?_)
 obtain ⟨c,rfl,q1⟩:=q1
 cases r1
 refine wpAny_truthy_bool ?_
 cases c with
 |false=>exact hb pins s1 σ H1 Q I1 q1
 |true=>exact ⟨.bl true,H1,I1,rfl,q1⟩
theorem B0 (ha:PE X a ta):PE X (.UnaryOp .Not a pos) (C4 ta):=by
 intro pins s σ H Q I h
 refine UnaryOp_ (jM (ha pins s σ H _ I h) fun v s1 ⟨x,H1,I1,r1,q1⟩=>?_)
 obtain ⟨c,rfl,q1⟩:=q1
 cases r1
 exact not_of (wpAny_truthy_bool ⟨.bl (!c),H1,I1,rfl,q1⟩)
end
end L2
namespace L2
open PySem PySem.Spec PyProof.Rows
def SqL (K:PySem.W.Frag) (H:Hp) (a:Addr) (xs:List V):Prop :=
 Rd H a (.lst xs)∨
  ∃(o:Obj) (its:Array Value) (n:Nat),K.lookup a=some o∧o.cls=.type "list"∧o.dict=none∧o.data=.seq its n∧its.size≤sizeLine∧Vals xs its.toList
def SqT (K:PySem.W.Frag) (H:Hp) (a:Addr) (xs:List V):Prop :=
 Rd H a (.tup xs)∨
  ∃(o:Obj) (its:Array Value) (n:Nat),K.lookup a=some o∧o.cls=.type "tuple"∧o.data=.seq its n∧its.size≤sizeLine∧Vals xs its.toList
def EX:Value→Option V
 |.none=>some .non
 |.bool b=>some (.bl b)
 |.int i 0=>some (.raw i)
 |.int i (_+1)=>some (.int i)
 |.str x _=>some (.str x)
 |.bytes b _=>some (.byt b)
 |.ref a=>some (.ref a)
 |.type n=>some (.ty n)
 |_=>none
theorem RelV.abs {x:V} {u:Value} (r:RelV x u):EX u=some x:=by
 cases x with
 |non=>cases r;rfl
 |bl _=>cases r;rfl
 |int _=>obtain ⟨⟨t,ht⟩,rfl⟩:=r;cases t with|zero=>cases ht|succ n=>rfl
 |str _=>obtain ⟨t,rfl⟩:=r;rfl
 |byt _=>obtain ⟨t,rfl⟩:=r;rfl
 |raw _=>cases r;rfl
 |ref _=>cases r;rfl
 |ty _=>cases r;rfl
theorem RelV.inj {x y:V} {u:Value} (r:RelV x u) (q:RelV y u):x=y:=Option.some.inj (r.abs.symm.trans q.abs)
theorem Vals.inj:∀{xs ys:List V} {us:List Value},Vals xs us→Vals ys us→xs=ys
 |_,_,_,.nil,.nil=>rfl
 |_,_,_,.cons r t,.cons r' t'=>by rw [r.inj r',Vals.inj t t']
section
variable {X:Cx} {pins:List (Addr×Obj)} {σ:St} {H:Hp} {s:Shared} {a:Addr} {xs ys:List V}
theorem SqL.of {K:PySem.W.Frag} (h:H a=some (.lst xs)):SqL K H a xs:=.inl (.inl h)
theorem SqT.of {K:PySem.W.Frag} (h:H a=some (.tup xs)):SqT K H a xs:=.inl (.inl h)
theorem Inv.list (I:Inv X pins σ H s) (h:SqL X.K H a xs):∃its:List Value,Vals xs its∧PlainL s.heap a its.toArray∧xs.length≤sizeLine:=by
 rcases h with h|⟨o,its,n,hk,hc,hd,hs,hz,r⟩
 ·obtain ⟨z,its,n,r,e⟩:=h.ok I.hok
  exact ⟨its,r,⟨_,n,e,rfl,rfl,rfl⟩,z⟩
 ·refine ⟨its.toList,r,⟨o,n,I.kIn a o hk,hc,hd,by simpa using hs⟩,?_⟩
  have e:=r.length
  simp only [Array.length_toList] at e
  omega
theorem Inv.tuple (I:Inv X pins σ H s) (h:SqT X.K H a xs):∃its:List Value,Vals xs its∧IsTup s.heap a its.toArray∧xs.length≤sizeLine:=by
 rcases h with h|⟨o,its,n,hk,hc,hs,hz,r⟩
 ·obtain ⟨z,its,r,p⟩:=h.ok I.hok
  exact ⟨its,r,p,z⟩
 ·refine ⟨its.toList,r,⟨o,I.kIn a o hk,hc,n,by simpa using hs⟩,?_⟩
  have e:=r.length
  simp only [Array.length_toList] at e
  omega
theorem Inv.list_inj (I:Inv X pins σ H s) (h:SqL X.K H a xs) (h':SqL X.K H a ys):xs=ys:=by
 obtain ⟨its,r,⟨o,n,e,_,_,d⟩,_⟩:=I.list h
 obtain ⟨its',r',⟨o',n',e',_,_,d'⟩,_⟩:=I.list h'
 rw [e] at e';cases e'
 rw [d] at d'
 injection d' with d1 _
 have:its=its':=by simpa using congrArg Array.toList d1
 subst this
 exact r.inj r'
end
abbrev Cx.wish (X:Cx) (E:Value→Shared→Prop):Cx:={X with xe:=E}
abbrev Cx.nox (X:Cx):Cx:=X.wish fun _ _=>False
theorem Cx.Ok.wish {X:Cx} (ok:X.Ok) (E:Value→Shared→Prop):(X.wish E).Ok :=
 ⟨ok.mod,ok.kind,ok.glob,ok.blt,ok.above,ok.inj,ok.has,ok.cab,ok.hd,ok.frames,ok.stk,ok.exf,ok.bs,ok.bsz,ok.noex,ok.exfs,ok.funs,ok.frf⟩
theorem Cx.Ok.unwish {X:Cx} {E:Value→Shared→Prop} (ok:(X.wish E).Ok):X.Ok :=
 ⟨ok.mod,ok.kind,ok.glob,ok.blt,ok.above,ok.inj,ok.has,ok.cab,ok.hd,ok.frames,ok.stk,ok.exf,ok.bs,ok.bsz,ok.noex,ok.exfs,ok.funs,ok.frf⟩
section
variable {X:Cx} {pins:List (Addr×Obj)} {σ:St} {H:Hp} {s:Shared} {E:Value→Shared→Prop}
theorem Inv.wish (I:Inv X pins σ H s) (E:Value→Shared→Prop):Inv (X.wish E) pins σ H s:=⟨I.ok.wish E,I.os,I.bare,I.base,I.loc,I.cell,I.free,I.freeC,I.pin,I.hok,I.len⟩
theorem Inv.unwish (I:Inv (X.wish E) pins σ H s):Inv X pins σ H s:=⟨I.ok.unwish,I.os,I.bare,I.base,I.loc,I.cell,I.free,I.freeC,I.pin,I.hok,I.len⟩
theorem SP.unwish {D:Ends} {f:Flow} {s':Shared} (h:SP (X.wish E) pins D f s'):SP X pins D f s':=by
 cases f with
 |next=>obtain ⟨σ',H',I,q⟩:=h;exact ⟨σ',H',I.unwish,q⟩
 |brk=>obtain ⟨σ',H',I,q⟩:=h;exact ⟨σ',H',I.unwish,q⟩
 |cont=>obtain ⟨σ',H',I,q⟩:=h;exact ⟨σ',H',I.unwish,q⟩
 |ret u=>obtain ⟨v,σ',H',I,r,q⟩:=h;exact ⟨v,σ',H',I.unwish,r,q⟩
theorem PSs.nox {st:List Stmt} {t:TS} (h:PSs X.nox st t):PSs X st t:=fun pins s σ H D I hw =>
 wpAny_mono (h pins s σ H D (I.wish _) hw) (fun _ _ q=>q.unwish) fun _ _ z=>False.elim z
end
section
variable {X:Cx} {st:Stmt} {rest:List Stmt} {t u:TS} {e:Expr} {te:TE} {pos:Pos}
def C5:TS:=fun D σ H=>D.nx σ H
def DU (t u:TS):TS:=fun D σ H=>t {D with nx:=u D} σ H
theorem j7:PSs X [] C5:=fun _ _ σ H _ I h=>wpAny_execs_nil ⟨σ,H,I,h⟩
theorem jJ (h1:PS X st t) (h2:PSs X rest u):PSs X (st::rest) (DU t u):=by
 intro pins s σ H D I h
 refine wpAny_execs_cons (jM (h1 pins s σ H {D with nx:=u D} I h) fun f s1 q=>?_)
 cases f with
 |next =>
  obtain ⟨σ',H',I',q⟩:=q
  exact h2 pins s1 σ' H' D I' q
 |ret v=>exact q
 |brk=>exact q
 |cont=>exact q
theorem jI (h1:PS X st t):PSs X [st] t:=by
 intro pins s σ H D I h
 refine wpAny_execs_cons (jM (h1 pins s σ H D I h) fun f s1 q=>?_)
 cases f with
 |next=>exact wpAny_execs_nil q
 |ret v=>exact q
 |brk=>exact q
 |cont=>exact q
theorem Inv.quiet {pins:List (Addr×Obj)} {σ:St} {H:Hp} {s:Shared} (I:Inv X pins σ H s):interactive X.env=false:=by simp [interactive,I.ok.kind]
def C7 (te:TE):TS:=fun D σ H=>te σ H fun _ H1=>D.nx σ H1
theorem qW (he:PE X e te) (hs:swapsWith e none pos.line X.env=pure false:=by rfl):PS X (.Expr e pos) (C7 te):=by
 intro pins s σ H D I h
 exact wpAny_Expr_any (jM (he pins s σ H _ I h) fun v s1 ⟨x,H1,I1,r1,q1⟩=>⟨σ,H1,I1,q1⟩) I.quiet hs
def DV (te:TE):TS:=fun D σ H=>te σ H D.rt
theorem j0 (he:PE X e te):PS X (.Return (some e) pos) (DV te):=by
 intro pins s σ H D I h
 exact wpAny_Return_some (jM (he pins s σ H _ I h) fun v s1 ⟨x,H1,I1,r1,q1⟩=>⟨x,σ,H1,I1,r1,q1⟩)
def D0 (c:TT) (t u:TS):TS:=fun D σ H=>c σ H fun b H1=>if b=true then t D σ H1 else u D σ H1
theorem j8 {c:Expr} {a b:List Stmt} {tc:TT} (hc:PT X c tc) (ha:PSs X a t) (hb:PSs X b u):PS X (.If c a b pos) (D0 tc t u):=by
 intro pins s σ H D I h
 refine wpAny_If (jM (hc pins s σ H _ I h) fun d s1 ⟨H1,I1,q1⟩=>?_)
 cases d with
 |true=>exact ha pins s1 σ H1 D I1 q1
 |false=>exact hb pins s1 σ H1 D I1 q1
end
abbrev TG:=V→St→Hp→(St→Hp→Prop)→Prop
abbrev JR:=List V→St→Hp→(St→Hp→Prop)→Prop
def PG (X:Cx) (target:Expr) (t:TG):Prop :=
 ∀(pins:List (Addr×Obj)) (s:Shared) (σ:St) (H:Hp) (v:V) (u:Value) (Q:St→Hp→Prop),Inv X pins σ H s→RelV v u→t v σ H Q→
  wpAny (model X.prog X.w) X.A (assign target X.env u) (fun _ s'=>∃σ' H',Inv X pins σ' H' s'∧Q σ' H') X.xe s
def bK (X:Cx) (ts:List Expr) (t:JR):Prop :=
 ∀(pins:List (Addr×Obj)) (s:Shared) (σ:St) (H:Hp) (vs:List V) (us:List Value) (Q:St→Hp→Prop),Inv X pins σ H s→Vals vs us→t vs σ H Q→
  wpAny (model X.prog X.w) X.A (assignInOrder ((assignEach ts X.env).map (·.2)) us) (fun _ s'=>∃σ' H',Inv X pins σ' H' s'∧Q σ' H') X.xe s
abbrev gO:=V→V→V→Hp→(Hp→Prop)→Prop
def pY (X:Cx) (t:gO):Prop :=
 ∀(pins:List (Addr×Obj)) (s:Shared) (σ:St) (H:Hp) (o i v:V) (ov iv u:Value) (Q:Hp→Prop),Inv X pins σ H s→RelV o ov→RelV i iv→RelV v u→t o i v H Q→
  wpAny (model X.prog X.w) X.A (setItem ov iv u) (fun _ s'=>∃H',Inv X pins σ H' s'∧Q H') X.xe s
section
variable {X:Cx} {pos:Pos}
def ZP (i:Nat):TG:=fun v σ H Q=>Q (σ.set i (some v)) H
theorem kD {i:Nat} {x:Str} (hN:X.N.Nodup) (hi:X.N[i]?=some x) (hx:QG X.env.scope x) (hf:X.fn x=true∨X.env.scope.names.lookup x=some .local:=by first|exact .inl rfl|exact .inr rfl|assumption):PG X (.Name x pos) (ZP i):=by
 intro pins s σ H v u Q I r h
 exact wpAny_assign_Name (cD I hN hi hx r (fun s' I'=>⟨_,H,I',h⟩) hf)
def pW:JR:=fun vs σ H Q=>vs=[]∧Q σ H
def gE (t:TG) (u:JR):JR:=fun vs σ H Q=>∃v r,vs=v::r∧t v σ H fun σ' H'=>u r σ' H' Q
theorem nI:bK X [] pW:=by
 intro pins s σ H vs us Q I r h
 obtain ⟨e,h⟩:=h
 subst e
 cases r
 exact assignInOrder_nil ⟨σ,H,I,h⟩
theorem cG {e:Expr} {es:List Expr} {t:TG} {u:JR} (h1:PG X e t) (h2:bK X es u)
  (hs:(assignEach (e::es) X.env).map (·.2)=assign e X.env::(assignEach es X.env).map (·.2):=by rfl):bK X (e::es) (gE t u):=by
 intro pins s σ H vs us Q I r h
 obtain ⟨v,vr,e1,h⟩:=h
 subst e1
 cases r with
 |cons r rr =>
  rw [hs]
  refine assignInOrder_cons (jM (h1 pins s σ H _ _ _ I r h) fun _ s1 ⟨σ1,H1,I1,q1⟩=>?_)
  exact h2 pins s1 σ1 H1 _ _ Q I1 rr q1
def gL (K:PySem.W.Frag) (n:Nat) (t:JR):TG:=fun v σ H Q=>∃a xs,v=.ref a∧SqT K H a xs∧xs.length=n∧t xs σ H Q
theorem oW {es:List Expr} {k:Nat} {t:JR} {n:Nat} (hc:X.calm=true) (h:bK X es t)
  (hn:(assignEach es X.env).length=n:=by rfl) (hst:(assignEach es X.env).findIdx? (·.1)=none:=by rfl):PG X (.Tuple es k pos) (gL X.K n t):=by
 intro pins s σ H v u Q I r hw
 obtain ⟨a,xs,e1,hq,hl,hw⟩:=hw
 subst e1
 cases r
 obtain ⟨its,rv,ht,hz⟩:=I.tuple hq
 refine assign_Tuple_tuple (I.ok.hd hc) ht (by simp [hn,← hl,rv.length]) hst fun h' hx=>?_
 have I1:Inv X pins σ H {s with heap:=h'}:=I.kept (t':=s.toks) fun b o e=>hx b o (Nat.ne_of_lt (Heap.lt_size e)) e
 exact h pins _ σ H xs _ Q I1 (by simpa using rv) hw
def EV (to ti:TE) (t:gO):TG:=fun v σ H Q=>to σ H fun o H1=>ti σ H1 fun i H2=>t o i v H2 fun H3=>Q σ H3
theorem oX {o i:Expr} {to ti:TE} {t:gO} (ho:PE X o to) (hi:PE X i ti) (hs:pY X t)
  (ha:∀v,assign (.Subscript o i pos) X.env v=(do
   let ov ← holding [v] (eval o X.env)
   let iv ← holding [v,ov] (eval i X.env)
   standAt pos
   holding [v,ov,iv] (setItem ov iv v)
   release [v,ov,iv] []):=by intro _;rfl):PG X (.Subscript o i pos) (EV to ti t):=by
 intro pins s σ H v u Q I r h
 rw [ha]
 refine wpAny_bind (wpAny_holding (jM (ho pins s σ H _ I h) fun ov s1 ⟨x,H1,I1,r1,q1⟩=>?_))
 refine wpAny_bind (wpAny_holding (jM (hi pins s1 σ H1 _ I1 q1) fun iv s2 ⟨y,H2,I2,r2,q2⟩=>?_))
 refine wpAny_bind (wpAny_standAt (wpAny_bind (wpAny_holding (jM (hs pins s2 σ H2 x y v ov iv u _ I2 r1 r2 r q2) fun _ s3 ⟨H3,I3,q3⟩=>?_))))
 exact wpAny_release ⟨σ,H3,I3,q3⟩
def pR (te:TE) (g:TG):TS:=fun D σ H=>te σ H fun x H1=>g x σ H1 D.nx
theorem oV {tg e:Expr} {te:TE} {g:TG} (he:PE X e te) (hg:PG X tg g) (hs:swapsWithSole [tg] e pos.line X.env=pure false:=by rfl) (hw:swappedStores [tg] e X.env=pure none:=by rfl)
  (h1:(assignEach [tg] X.env).map (·.2)=[assign tg X.env]:=by rfl):PS X (.Assign [tg] e pos) (pR te g):=by
 intro pins s σ H D I h
 refine wpAny_Assign_stores (jM (he pins s σ H _ I h) fun v s1 ⟨x,H1,I1,r1,q1⟩=>?_) hs hw
 rw [h1]
 exact jM (hg pins s1 σ H1 x v _ I1 r1 q1) fun _ s2 q=>q
theorem jV {i:Nat} {x:Str} {e:Expr} {te:TE} {pos':Pos} (hN:X.N.Nodup) (hi:X.N[i]?=some x) (hx:QG X.env.scope x) (he:PE X e te) (hs:swapsWith e (some (.Name x pos')) pos.line X.env=pure false:=by rfl) (hf:X.fn x=true∨X.env.scope.names.lookup x=some .local:=by first|exact .inl rfl|exact .inr rfl|assumption) :
  PS X (.Assign [.Name x pos'] e pos) (pR te (ZP i)):=by
 intro pins s σ H D I h
 refine wpAny_Assign_Name (jM (he pins s σ H _ I h) fun v s1 ⟨y,H1,I1,r1,q1⟩=>?_) hs
 exact cD I1 hN hi hx r1 (fun s2 I2=>⟨_,H1,I2,q1⟩) hf
end
section
variable {X:Cx} {pos:Pos}
def BO (c:TT) (tb:TS):TS:=fun D σ H=>∃W:Nat→St→Hp→Prop,(∃m,W m σ H)∧∀m σ H,W m σ H→
 c σ H fun b H1=>if b=true then ∃N:St→Hp→Prop,(∀σ' H',N σ' H'→∃m',m'<m∧W m' σ' H')∧tb {D with nx:=N,ct:=N,bk:=D.nx} σ H1 else D.nx σ H1
theorem xC {c:Expr} {body:List Stmt} {tc:TT} {tb:TS} (hp:PassesOwn (model X.prog X.w) X.A X.env X.xe) (hc:PT X c tc) (hb:PSs X body tb):PS X (.While c body [] pos) (BO tc tb):=by
 intro pins s σ H D I h
 obtain ⟨W,⟨m0,w0⟩,turn⟩:=h
 refine wpAny_While (codeAny_whileLoop (fun n s'=>∃σ' H',Inv X pins σ' H' s'∧W n σ' H') ?_ m0 ⟨σ,H,I,w0⟩)
 rintro n s1 ⟨σ1,H1,I1,w1⟩
 refine wpAny_passesOwn hp (jM (hc pins s1 σ1 H1 _ I1 (turn n σ1 H1 w1)) fun b s2 ⟨H2,I2,q2⟩=>?_)
 cases b with
 |true =>
  obtain ⟨N,hN,q2⟩:=q2
  rw [if_pos rfl]
  refine wpAny_passesOwn hp (jM (hb pins s2 σ1 H2 _ I2 q2) fun f s3 q3=>?_)
  cases f with
  |next =>
   obtain ⟨σ3,H3,I3,n3⟩:=q3
   obtain ⟨m',hm,w3⟩:=hN σ3 H3 n3
   exact ⟨m',hm,σ3,H3,I3,w3⟩
  |cont =>
   obtain ⟨σ3,H3,I3,n3⟩:=q3
   obtain ⟨m',hm,w3⟩:=hN σ3 H3 n3
   exact ⟨m',hm,σ3,H3,I3,w3⟩
  |brk=>exact q3
  |ret v=>exact q3
 |false =>
  rw [if_neg Bool.false_ne_true]
  exact wpAny_execs_nil ⟨σ1,H2,I2,q2⟩
end
structure It where
 go:Nat→Hp→Prop
 yld:Nat→Hp→V→Hp→Prop
 stop:Nat→Hp→Prop
def zN (X:Cx) (pins:List (Addr×Obj)) (H:Hp) (b:Addr):Prop :=
 H b=none∧b≠X.env.locals∧b∉X.fs∧(b∈X.ex∨X.s₀.heap.objs.size≤b)∧(∀x c,X.env.cells.lookup x=some c→c≠b)∧∀p∈X.pn++pins,p.1≠b
theorem Inv.fpOk {X:Cx} {pins:List (Addr×Obj)} {σ:St} {H H':Hp} {s:Shared} {b:Addr} (I:Inv X pins σ H s) (hb:s.heap.objs.size≤b) (hn:H' b=none):zN X pins H' b:=by
 refine ⟨hn,Nat.ne_of_gt (Nat.lt_of_lt_of_le I.lt hb),I.nofs hb,.inr (Nat.le_trans I.sz hb),fun x c e z=>?_,fun p hp z=>?_⟩
 ·obtain ⟨v,q⟩:=I.cell x c e
  exact absurd (Nat.lt_of_lt_of_le q.lt (by rw [z];exact hb)) (Nat.lt_irrefl _)
 ·exact absurd (Nat.lt_of_lt_of_le (Heap.lt_size (I.pin p hp).1) (by rw [z];exact hb)) (Nat.lt_irrefl _)
structure Turn (P:Program) (w:World) (K:PySem.W.Frag) (tg:Expr) (J:It) (fp:List Addr) (it:Addr) (tn:Nat→Heap→Prop):Prop where
 mem:it∈fp
 obj:∀i h,tn i h→∀b∈fp,∃o,h.get? b=some o∧∀v,o.data≠.cell v
 keep:∀i h h',tn i h→(∀b∈fp,∀o,h.get? b=some o→h'.get? b=some o)→tn i h'
 item:∀(X:Cx),X.prog=P→X.w=w→X.K=K→X.calm=true→∀(i:Nat) (pins:List (Addr×Obj)) (s:Shared) (σ:St) (H:Hp) (E:Value→Shared→Prop),Inv X pins σ H s→(∀b∈fp,zN X pins H b)→tn i s.heap→J.go i H→
  wpAny (model P w) X.A (pyNext (.ref it)) (fun r s1=>∃u,r=some u∧
   wpAny (model P w) X.A (letOwnedTupleGo tg (.ref it) u) (fun _ s2=>∃x H',Inv X pins σ H' s2∧RelV x u∧J.yld i H x H'∧tn (i+1) s2.heap∧∀b∈fp,H' b=none) E s1) E s
 done:∀(X:Cx),X.prog=P→X.w=w→X.K=K→X.calm=true→∀(i:Nat) (pins:List (Addr×Obj)) (s:Shared) (σ:St) (H:Hp) (E:Value→Shared→Prop),Inv X pins σ H s→(∀b∈fp,zN X pins H b)→tn i s.heap→J.stop i H→
  wpAny (model P w) X.A (pyNext (.ref it)) (fun r s1=>r=none∧Inv X pins σ H s1) E s
 self:∀(A:Around) (i:Nat) (s:Shared) (Q:Value→Shared→Prop) (E:Value→Shared→Prop),tn i s.heap→Q (.ref it) s→wpAny (model P w) A (pyIter (.ref it)) Q E s
abbrev TI:=St→Hp→(It→Hp→Prop)→Prop
def rB (X:Cx) (pins:List (Addr×Obj)) (σ:St) (tg:Expr) (R:It→Hp→Prop) (itv:Value) (s2:Shared):Prop :=
 ∃(it:Addr) (fp:List Addr) (tn:Nat→Heap→Prop) (J:It) (H':Hp),itv=.ref it∧Inv X pins σ H' s2∧Turn X.prog X.w X.K tg J fp it tn∧tn 0 s2.heap∧(∀b∈fp,zN X pins H' b)∧R J H'
def PI (X:Cx) (tg iter:Expr) (wi:TI):Prop :=
 ∀(pins:List (Addr×Obj)) (s:Shared) (σ:St) (H:Hp) (R:It→Hp→Prop),Inv X pins σ H s→wi σ H R→
  wpAny (model X.prog X.w) X.A (eval iter X.env) (fun v s1=>wpAny (model X.prog X.w) X.A (pyIter v) (rB X pins σ tg R) X.xe s1) X.xe s
theorem gD {M:Model} {A:Around} {E:Value→Shared→Prop} {s:Shared} {tg:Expr} {it:Addr} {u:Value} {o:Obj} {n:String} {vs:Array Value} {Q:Unit→Shared→Prop} (ho:s.heap.get? it=some o) (hc:o.cls=.type n) (hd:o.data=.fields vs)
    (hn:["enumerate","zip","dict_itemiterator","dict_reverseitemiterator","odict_iterator","itertools.zip_longest","itertools.pairwise"].contains n=false) (hQ:Q () s):wpAny M A (letOwnedTupleGo tg (.ref it) u) Q E s:=by
  unfold letOwnedTupleGo
  cases tg<;>first
    |exact wpAny_pure hQ
    | (cases u<;>first
        |exact wpAny_pure hQ
        | (refine wpAny_bind (wpAny_load ho ?_)
           rw [hc,hd]
           show wpAny M A (if (["enumerate","zip","dict_itemiterator","dict_reverseitemiterator","odict_iterator","itertools.zip_longest","itertools.pairwise"].contains n&&vs[0]? == some (rawInt _))=true then _ else _) Q E s
           rw [if_neg (by intro h;rw [hn,Bool.false_and] at h;cases h)]
           exact wpAny_pure hQ))
def JS (K:PySem.W.Frag) (a:Addr):It :=
 ⟨fun i H=>∃xs x,SqL K H a xs∧xs[i]?=some x,fun i H x H'=>H'=H∧∀xs,SqL K H a xs→xs[i]?=some x,fun i H=>∃xs,SqL K H a xs∧xs.length≤i⟩
def QH (lo:Int) (n:Nat):It:=⟨fun i _=>i<n,fun i H x H'=>H'=H∧x=.int (lo+i),fun i _=>n≤i⟩
theorem uO {P:Program} {w:World} {K:PySem.W.Frag} {tg:Expr} (a it:Addr):Turn P w K tg (JS K a) [it] it (fun i h=>h.IsListIter it a i) where
 mem:=by simp
 obj:=fun i h st b hb=>by
  have e:b=it:=by simpa using hb
  subst e
  obtain ⟨o,e,c,d⟩:=st
  exact ⟨o,e,fun v z=>by rw [d] at z;cases z⟩
 keep:=fun i h h' st k=>st.at fun o e=>k it (by simp) o e
 item:=by
  intro X hP hw hK hc i pins s σ H E I hf st hg
  subst hP hw hK
  obtain ⟨xs,x,hq,hx⟩:=hg
  obtain ⟨its,rv,p,hz⟩:=I.list hq
  obtain ⟨u,hu,ru⟩:=rv.get hx
  obtain ⟨f0,f1,f2,f3,f4,f5⟩:=hf it (by simp)
  refine wpAny_pyNext_list_item st p.isList (x:=u) (by simpa using hu) fun h' st' sb=>?_
  have I1:Inv X pins σ H {s with heap:=h'}:=I.turned (t':=s.toks) (fun b o hb e=>(sb.2 b hb).trans e) f0 f1 f3 f4 f5
  obtain ⟨o,e,c,d⟩:=id st'
  exact ⟨u,rfl,gD (s:={s with heap:=h'}) e c d (by decide) ⟨x,H,I1,ru,⟨rfl,fun ys hy=>by rw [I.list_inj hy hq];exact hx⟩,st',fun b hb=>(hf b hb).1⟩⟩
 done:=by
  intro X hP hw hK hc i pins s σ H E I hf st hg
  subst hP hw hK
  obtain ⟨xs,hq,hx⟩:=hg
  obtain ⟨its,rv,p,hz⟩:=I.list hq
  obtain ⟨f0,f1,f2,f3,f4,f5⟩:=hf it (by simp)
  have hl:=rv.length
  exact wpAny_pyNext_list_end (I.ok.hd hc) st p.isList (by simp;omega) fun h' eb=>⟨rfl,I.turned (t':=s.toks) (fun b o hb e=>eb b o hb e) f0 f1 f3 f4 f5⟩
 self:=fun _ _ _ _ _ st h=>wpAny_pyIter_listiter st h
theorem tW {P:Program} {w:World} {K:PySem.W.Frag} {tg:Expr} (it:Addr) (lo:Int) (n:Nat):Turn P w K tg (QH lo n) [it] it (fun i h=>IsRangeIter h it (lo+(i:Nat)*1) ((n:Int) - (i:Nat)) 1) where
 mem:=by simp
 obj:=fun i h st b hb=>by
  have e:b=it:=by simpa using hb
  subst e
  exact ⟨_,st,fun v z=>by
   have z':Data.fields _=Data.cell v:=z
   cases z'⟩
 keep:=fun i h h' st k=>k it (by simp) _ st
 item:=by
  intro X hP hw hK hc i pins s σ H E I hf st hg
  subst hP hw hK
  obtain ⟨f0,f1,f2,f3,f4,f5⟩:=hf it (by simp)
  have st:IsRangeIter s.heap it (lo+(i:Nat)*1) ((n:Int) - (i:Nat)) 1:=st
  have hg:i<n:=hg
  refine wpAny_pyNext_range_item st (by omega) fun h' hit' hs'=>?_
  have st':IsRangeIter h' it (lo+((i+1:Nat):Int)*1) ((n:Int) - ((i+1:Nat):Int)) 1:=by
   have e1:lo+((i+1:Nat):Int)*1=lo+(i:Int)*1+1:=by omega
   have e2:(n:Int) - ((i+1:Nat):Int)=(n:Int) - (i:Int) - 1:=by omega
   rw [e1,e2];exact hit'
  have I1:Inv X pins σ H {s with heap:=h',toks:=s.toks+1}:=I.turned (fun b o hb e=>hs'.extBut b o hb e) f0 f1 f3 f4 f5
  refine ⟨_,rfl,gD (s:={s with heap:=h',toks:=s.toks+1}) (n:="range_iterator") st' rfl rfl (by decide) ⟨.int (lo+i),H,I1,⟨⟨_,I.tk⟩,?_⟩,⟨rfl,rfl⟩,st',fun b hb=>(hf b hb).1⟩⟩
  rw [Int.mul_one]
 done:=by
  intro X hP hw hK hc i pins s σ H E I hf st hg
  subst hP hw hK
  obtain ⟨f0,f1,f2,f3,f4,f5⟩:=hf it (by simp)
  exact wpAny_pyNext_range_end (I.ok.hd hc) st (by have:n≤i:=hg;omega) fun h' eb=>⟨rfl,I.turned (t':=s.toks) (fun b o hb e=>eb b o hb e) f0 f1 f3 f4 f5⟩
 self:=fun _ _ _ _ _ st h=>wpAny_pyIter_rangeiter st h
end L2
namespace L2
open PySem PySem.Spec PyProof.Rows
section
variable {X:Cx} {tg:Expr}
def DO (K:PySem.W.Frag) (tl:TE):TI:=fun σ H R=>tl σ H fun x H1=>∃a,x=.ref a∧(∃xs,SqL K H1 a xs)∧R (JS K a) H1
theorem kO {l:Expr} {tl:TE} (hl:PE X l tl):PI X tg l (DO X.K tl):=by
 intro pins s σ H R I h
 refine jM (hl pins s σ H _ I h) fun v s1 ⟨x,H1,I1,r1,q1⟩=>?_
 obtain ⟨a,e,⟨xs,hq⟩,q⟩:=q1
 subst e
 cases r1
 obtain ⟨its,rv,p,hz⟩:=I1.list hq
 refine wpAny_pyIter_list p.isList ?_
 refine ⟨s1.heap.objs.size,[s1.heap.objs.size],_,_,H1,rfl,I1.kept (t':=s1.toks) fun b o e=>Heap.get?_push_of_some _ e,uO a _,⟨_,Heap.get?_push_size _ rfl,rfl,rfl⟩,fun b hb=>?_,q⟩
 have e:b=s1.heap.objs.size:=by simpa using hb
 subst e
 exact I1.fpOk (Nat.le_refl _) (I1.hok.fresh (Nat.le_refl _))
theorem lY {pins:List (Addr×Obj)} {σ:St} {H:Hp} {s:Shared} {R:It→Hp→Prop} {E:Value→Shared→Prop} {lo hi:Int} {t u v:Tok} {tk:Nat} (I:Inv X pins σ H s) (h1 : -(2 ^ 62)≤lo) (h2:lo<2 ^ 62) (h3 : -(2 ^ 62)≤hi) (h4:hi<2 ^ 62)
    (q:R (QH lo (hi - lo).toNat) H) (ht:0<tk:=by first|exact Nat.succ_pos _|exact Inv.tk (by assumption)|(dsimp only;exact Inv.tk (by assumption))):wpAny (model X.prog X.w) X.A (pyIter (.ref s.heap.objs.size)) (rB X pins σ tg R) E {s with heap:=s.heap.push {cls:=.type "range",data:=.fields #[.int lo t,.int hi u,.int 1 v]},toks:=tk}:=by
  refine wpAny_pyIter_range (IsRange.new ..) (small_one h1 h2 h3 h4) ?_
  have I1:Inv X pins σ H {s with heap:=s.heap.push {cls:=.type "range",data:=.fields #[.int lo t,.int hi u,.int 1 v]},toks:=tk}:=I.kept (ht:=ht) fun b o e=>Heap.get?_push_of_some _ e
  refine ⟨(s.heap.push {cls:=.type "range",data:=.fields #[.int lo t,.int hi u,.int 1 v]}).objs.size,[(s.heap.push {cls:=.type "range",data:=.fields #[.int lo t,.int hi u,.int 1 v]}).objs.size],_,_,H,rfl,
    I1.kept (t':=tk) fun b o e=>Heap.get?_push_of_some _ e,tW _ lo (hi - lo).toNat,?_,fun b hb=>?_,q⟩
  · have e1:lo+((0:Nat):Int)*1=lo:=by simp
    have e2:(((hi - lo).toNat:Nat):Int) - ((0:Nat):Int)=Builtin.Range.rangeSize lo hi 1:=by rw [rangeSize_one];split<;>omega
    show IsRangeIter _ _ (lo+((0:Nat):Int)*1) ((((hi - lo).toNat:Nat):Int) - ((0:Nat):Int)) 1
    rw [e1,e2]
    exact Heap.get?_push_size _ rfl
  · have e:b=(s.heap.push {cls:=.type "range",data:=.fields #[.int lo t,.int hi u,.int 1 v]}).objs.size:=by simpa using hb
    subst e
    exact I1.fpOk (Nat.le_refl _) (I1.hok.fresh (Nat.le_refl _))
def DN (ta:TA):TI:=fun σ H R=>ta σ H fun vs H1=>∃j:Int,vs=[.int j]∧-(2 ^ 62)≤j∧j<2 ^ 62∧R (QH 0 j.toNat) H1
def DM (ta:TA):TI:=fun σ H R=>ta σ H fun vs H1=>∃i j:Int,vs=[.int i,.int j]∧(-(2 ^ 62)≤i∧i<2 ^ 62∧-(2 ^ 62)≤j∧j<2 ^ 62)∧R (QH i (j - i).toNat) H1
theorem ZZ {a:Expr} {ta:TA} {p pos:Pos} (hg:Gl X "range") (hm:X.mg "range"=none) (ha:PA X [a] ta) (hs:starEach [a] X.env=[(false,eval a X.env)]:=by rfl):PI X tg (.Call (.Name "range" p) [a] [] pos) (DN ta):=by
 intro pins s σ H R I h
 refine Call_ (JI I hg hm boot_range (PyProof.Rows.callWith_type1 (jM (ha pos pins s σ H _ I h) fun us s1 ⟨vs,H1,I1,r1,q1⟩=>?_) hs rfl))
 obtain ⟨j,e,q1,q2,q⟩:=q1
 subst e
 cases r1 with
 |cons r rr =>
  cases rr
  obtain ⟨t,rfl⟩:=r
  exact call_range_1 (lY I1 (by omega) (by omega) q1 q2 (by simpa using q))
theorem wB {a b:Expr} {ta:TA} {p pos:Pos} (hg:Gl X "range") (hm:X.mg "range"=none) (ha:PA X [a,b] ta) (hs:starEach [a,b] X.env=[(false,eval a X.env),(false,eval b X.env)]:=by rfl) (hs2:starEach [b] X.env=[(false,eval b X.env)]:=by rfl) :
  PI X tg (.Call (.Name "range" p) [a,b] [] pos) (DM ta):=by
 intro pins s σ H R I h
 refine Call_ (JI I hg hm boot_range (PyProof.Rows.callWith_type1 (jM (ha pos pins s σ H _ I h) fun us s1 ⟨vs,H1,I1,r1,q1⟩=>?_) (by rw [hs,hs2]) (by rw [hs2];rfl)))
 obtain ⟨i,j,e,⟨q1,q2,q3,q4⟩,q⟩:=q1
 subst e
 cases r1 with
 |cons r rr =>
  cases rr with
  |cons r' rr =>
   cases rr
   obtain ⟨t,rfl⟩:=r
   obtain ⟨t',rfl⟩:=r'
   exact call_range_2 (lY I1 q1 q2 q3 q4 q)
def EB (wi:TI) (g:TG) (tb:TS):TS:=fun D σ H=>wi σ H fun J H1=>∃W:Nat→Nat→St→Hp→Prop,(∃m,W 0 m σ H1)∧∀i m σ H,W i m σ H→
 (J.stop i H∧D.nx σ H)∨(J.go i H∧∃N:St→Hp→Prop,(∀σ' H',N σ' H'→∃m',m'<m∧W (i+1) m' σ' H')∧∀x H',J.yld i H x H'→g x σ H' fun σ2 H2=>tb {D with nx:=N,ct:=N,bk:=D.nx} σ2 H2)
def bB (fp:List Addr) (h:Heap):List (Addr×Obj):=fp.filterMap fun b=>(h.get? b).map fun o=>(b,o)
theorem bV {fp:List Addr} {h:Heap} {b:Addr} {o:Obj} (hb:b∈fp) (e:h.get? b=some o):(b,o)∈bB fp h:=List.mem_filterMap.mpr ⟨b,hb,by rw [e];rfl⟩
theorem wE {fp:List Addr} {h:Heap} {p:Addr×Obj} (hp:p∈bB fp h):p.1∈fp∧h.get? p.1=some p.2:=by
 obtain ⟨b,hb,e⟩:=List.mem_filterMap.mp hp
 cases q:h.get? b with
 |none=>rw [q] at e;cases e
 |some o =>
  rw [q] at e
  have e':(b,o)=p:=Option.some.inj e
  subst e'
  exact ⟨hb,q⟩
theorem Inv.pinned {pins:List (Addr×Obj)} {σ:St} {H:Hp} {s:Shared} {fp:List Addr} (I:Inv X pins σ H s) (hf:∀b∈fp,zN X pins H b) (ho:∀b∈fp,∃o,s.heap.get? b=some o∧∀v,o.data≠.cell v):Inv X (pins++bB fp s.heap) σ H s :=
 I.pins_of fun p hp=>(List.mem_append.mp hp).elim (fun z=>I.pin p (List.mem_append_right _ z)) fun z=>by
  obtain ⟨hb,e⟩:=wE z
  obtain ⟨f0,f1,f2,_⟩:=hf p.1 hb
  obtain ⟨o,e',d⟩:=ho p.1 hb
  rw [e] at e';cases e'
  exact ⟨e,f0,f1,f2,d⟩
theorem Inv.unpinned {pins pl:List (Addr×Obj)} {σ:St} {H:Hp} {s:Shared} (I:Inv X (pins++pl) σ H s):Inv X pins σ H s:=I.pins_of fun p hp=>I.pin p (List.mem_append_right _ (List.mem_append_left _ hp))
theorem qE {iter:Expr} {body:List Stmt} {wi:TI} {g:TG} {tb:TS} {pos:Pos} (hp:PassesOwn (model X.prog X.w) X.A X.env X.xe) (hc:X.calm=true) (hi:PI X tg iter wi) (hg:PG X tg g) (hb:PSs X body tb)
  (hs:∀x,foldedSetIterable iter X.env x=pure x:=by intro _;rfl):PS X (.For tg iter body [] pos) (EB wi g tb):=by
 intro pins s σ H D I h
 refine wpAny_For (jM (hi pins s σ H _ I h) fun v s1 h1=>jM h1 fun itv s2 h2=>?_) hs
 obtain ⟨it,fp,tn,J,H2,e,I2,T,st2,f2,W,⟨m0,w0⟩,turn⟩:=h2
 subst e
 have stat:∀{H':Hp},(∀b∈fp,H' b=none)→∀b∈fp,zN X pins H' b:=fun hn b hb=>⟨hn b hb,(f2 b hb).2⟩
 refine codeAny_forLoop_any (fun n s'=>∃i σ' H',Inv X pins σ' H' s'∧tn i s'.heap∧(∀b∈fp,H' b=none)∧W i n σ' H') ?_ m0 ⟨0,σ,H2,I2,st2,fun b hb=>(f2 b hb).1,w0⟩
 rintro n s3 ⟨i,σ3,H3,I3,st3,fr3,w3⟩
 rcases turn i n σ3 H3 w3 with ⟨stop,qn⟩|⟨go,N,hN,step⟩
 ·refine wpAny_passesOwn hp (jM (T.done X rfl rfl rfl hc i pins s3 σ3 H3 X.xe I3 (stat fr3) st3 stop) fun r s4 ⟨hr,I4⟩=>?_)
  subst hr
  exact wpAny_execs_nil ⟨σ3,H3,I4,qn⟩
 ·refine wpAny_passesOwn hp (jM (T.item X rfl rfl rfl hc i pins s3 σ3 H3 X.xe I3 (stat fr3) st3 go) fun r s4 ⟨u,hr,h4⟩=>?_)
  subst hr
  refine wpAny_passesOwn hp (jM h4 fun _ s5 ⟨x,H5,I5,r5,y5,st5,fr5⟩=>?_)
  have I5':=I5.pinned (stat fr5) (T.obj _ _ st5)
  refine wpAny_passesOwn hp (jM (hg _ s5 σ3 H5 x u _ I5' r5 (step x H5 y5)) fun _ s6 ⟨σ6,H6,I6,q6⟩=>?_)
  refine wpAny_passesOwn hp (jM (hb _ s6 σ6 H6 _ I6 q6) fun f s7 q7=>?_)
  have again:∀{σ7:St} {H7:Hp},Inv X (pins++bB fp s5.heap) σ7 H7 s7→N σ7 H7→∃m,m<n∧∃i σ' H',Inv X pins σ' H' s7∧tn i s7.heap∧(∀b∈fp,H' b=none)∧W i m σ' H':=fun {σ7 H7} I7 n7=>by
   obtain ⟨m',hm,w7⟩:=hN σ7 H7 n7
   refine ⟨m',hm,i+1,σ7,H7,I7.unpinned,T.keep _ _ _ st5 fun b hb o e=>(I7.pin (b,o) (List.mem_append_right _ (List.mem_append_right _ (bV hb e)))).1,fun b hb=>?_,w7⟩
   obtain ⟨o,e,d⟩:=T.obj _ _ st5 b hb
   exact (I7.pin (b,o) (List.mem_append_right _ (List.mem_append_right _ (bV hb e)))).2.1
  cases f with
  |next=>obtain ⟨σ7,H7,I7,n7⟩:=q7;exact again I7 n7
  |cont=>obtain ⟨σ7,H7,I7,n7⟩:=q7;exact again I7 n7
  |brk=>obtain ⟨σ7,H7,I7,q7⟩:=q7;exact ⟨σ7,H7,I7.unpinned,q7⟩
  |ret v=>obtain ⟨x7,σ7,H7,I7,r7,q7⟩:=q7;exact ⟨x7,σ7,H7,I7.unpinned,r7,q7⟩
end
theorem qX {K:PySem.W.Frag} {a:Addr} {xs:List V} {g:TG} {tb:TS} {D:Ends} {σ:St} {H:Hp} (Pv:Nat→St→Hp→Prop) (h0:Pv 0 σ H) (hl:∀i σ H,i≤xs.length→Pv i σ H→SqL K H a xs)
    (hs:∀i x σ H,xs[i]?=some x→Pv i σ H→g x σ H fun σ2 H2=>tb {D with nx:=Pv (i+1),ct:=Pv (i+1),bk:=D.nx} σ2 H2) (hd:∀σ H,Pv xs.length σ H→D.nx σ H) :
    ∃W:Nat→Nat→St→Hp→Prop,(∃m,W 0 m σ H)∧∀i m σ H,W i m σ H→
      ((JS K a).stop i H∧D.nx σ H)∨((JS K a).go i H∧∃N:St→Hp→Prop,(∀σ' H',N σ' H'→∃m',m'<m∧W (i+1) m' σ' H')∧∀x H',(JS K a).yld i H x H'→g x σ H' fun σ2 H2=>tb {D with nx:=N,ct:=N,bk:=D.nx} σ2 H2):=by
  refine ⟨fun i m σ H=>m=xs.length - i∧i≤xs.length∧Pv i σ H,⟨xs.length,by simp,Nat.zero_le _,h0⟩,?_⟩
  rintro i m σ H ⟨rfl,hi,p⟩
  have q:=hl i σ H hi p
  by_cases hlt:i<xs.length
  · refine .inr ⟨⟨xs,xs[i],q,by simp [hlt]⟩,Pv (i+1),fun σ' H' p'=>⟨xs.length - (i+1),by omega,rfl,hlt,p'⟩,fun x H' y=>?_⟩
    obtain ⟨e,y⟩:=y
    subst e
    exact hs i x σ _ (y xs q) p
  · have e:i=xs.length:=by omega
    subst e
    exact .inl ⟨⟨xs,q,Nat.le_refl _⟩,hd σ H p⟩
theorem Q6 {lo:Int} {n:Nat} {g:TG} {tb:TS} {D:Ends} {σ:St} {H:Hp} (Pv:Nat→St→Hp→Prop) (h0:Pv 0 σ H)
  (hs:∀i σ H,i<n→Pv i σ H→g (.int (lo+i)) σ H fun σ2 H2=>tb {D with nx:=Pv (i+1),ct:=Pv (i+1),bk:=D.nx} σ2 H2) (hd:∀σ H,Pv n σ H→D.nx σ H) :
  ∃W:Nat→Nat→St→Hp→Prop,(∃m,W 0 m σ H)∧∀i m σ H,W i m σ H→
   ((QH lo n).stop i H∧D.nx σ H)∨((QH lo n).go i H∧∃N:St→Hp→Prop,(∀σ' H',N σ' H'→∃m',m'<m∧W (i+1) m' σ' H')∧∀x H',(QH lo n).yld i H x H'→g x σ H' fun σ2 H2=>tb {D with nx:=N,ct:=N,bk:=D.nx} σ2 H2):=by
 refine ⟨fun i m σ H=>m=n - i∧i≤n∧Pv i σ H,⟨n,by simp,Nat.zero_le _,h0⟩,?_⟩
 rintro i m σ H ⟨rfl,hi,p⟩
 by_cases hlt:i<n
 ·refine .inr ⟨hlt,Pv (i+1),fun σ' H' p'=>⟨n - (i+1),by omega,rfl,hlt,p'⟩,fun x H' y=>?_⟩
  obtain ⟨e,y⟩:=y
  subst e y
  exact hs i σ _ hlt p
 ·have e:i=n:=by omega
  subst e
  exact .inl ⟨Nat.le_refl _,hd σ H p⟩
end L2
namespace L2
open PySem PySem.Spec PyProof.Rows
abbrev R2:=V→V→Hp→VK→Prop
def OpR (X:Cx) (f:Value→Value→Sem Value) (r:R2):Prop :=
 ∀(pins:List (Addr×Obj)) (s:Shared) (σ:St) (H:Hp) (x y:V) (v u:Value) (Q:VK),Inv X pins σ H s→RelV x v→RelV y u→r x y H Q→
  wpAny (model X.prog X.w) X.A (f v u) (EP X pins σ Q) X.xe s
def gX (X:Cx) (f:Value→Sem Value) (r:V→Hp→VK→Prop):Prop :=
 ∀(pins:List (Addr×Obj)) (s:Shared) (σ:St) (H:Hp) (x:V) (v:Value) (Q:VK),Inv X pins σ H s→RelV x v→r x H Q→
  wpAny (model X.prog X.w) X.A (f v) (EP X pins σ Q) X.xe s
def CallR (X:Cx) (f:Value) (r:List V→Hp→VK→Prop):Prop :=
 ∀(pins:List (Addr×Obj)) (s:Shared) (σ:St) (H:Hp) (xs:List V) (us:List Value) (Q:VK),Inv X pins σ H s→Vals xs us→r xs H Q→
  wpAny (model X.prog X.w) X.A (call f us) (EP X pins σ Q) X.xe s
def EZ (X:Cx) (r:V→Hp→(Bool→Hp→Prop)→Prop):Prop :=
 ∀(pins:List (Addr×Obj)) (s:Shared) (σ:St) (H:Hp) (x:V) (v:Value) (Q:Bool→Hp→Prop),Inv X pins σ H s→RelV x v→r x H Q→
  wpAny (model X.prog X.w) X.A (truthy v) (TP X pins σ Q) X.xe s
def dU (r:R2) (ta tb:TE):TE:=fun σ H Q=>ta σ H fun x H1=>tb σ H1 fun y H2=>r x y H2 Q
def E4 (r:V→Hp→VK→Prop) (ta:TE):TE:=fun σ H Q=>ta σ H fun x H1=>r x H1 Q
def rI (C:Int→Int→Prop) (g:Int→Int→V):R2:=fun x y H Q=>∃i j,x=.int i∧y=.int j∧C i j∧Q (g i j) H
def QF (g:Int→Int→V):R2:=fun x y H Q=>∃i j,x=.int i∧y=.int j∧Q (g i j) H
def rU (g:Int→V):V→Hp→VK→Prop:=fun x H Q=>∃i,x=.int i∧Q (g i) H
section
variable {X:Cx} {a b c:Expr} {ta tb tc:TE} {pos:Pos}
theorem gN (ha:PE X a ta) (hb:PE X b tb) {pins:List (Addr×Obj)} {s:Shared} {σ:St} {H:Hp} {R:V→V→Hp→Prop} (I:Inv X pins σ H s)
  (h:ta σ H fun x H1=>tb σ H1 fun y H2=>R x y H2) {Q:Value→Shared→Prop} {f:Value→Value→Sem Value}
  (hf:∀v u s2 x y H2,Inv X pins σ H2 s2→RelV x v→RelV y u→R x y H2→wpAny (model X.prog X.w) X.A (f v u) Q X.xe s2) :
  wpAny (model X.prog X.w) X.A (eval a X.env) (fun v s₁=>wpAny (model X.prog X.w) X.A (eval b X.env) (fun u s₂=>wpAny (model X.prog X.w) X.A (f v u) Q X.xe s₂) X.xe s₁) X.xe s:=by
 refine jM (ha pins s σ H _ I h) fun v s1 ⟨x,H1,I1,r1,q1⟩=>?_
 refine jM (hb pins s1 σ H1 _ I1 q1) fun u s2 ⟨y,H2,I2,r2,q2⟩=>?_
 exact hf v u s2 x y H2 I2 r1 r2 q2
theorem jL {op:Operator} {r:R2} (ho:OpR X (binaryOp op) r) (ha:PE X a ta) (hb:PE X b tb):PE X (.BinOp a op b pos) (dU r ta tb):=by
 intro pins s σ H Q I h
 exact wpAny_BinOp (gN ha hb I h fun v u s2 x y H2 I2 rx ry q=>ho pins s2 σ H2 x y v u Q I2 rx ry q)
theorem yW {op:UnaryOp} {r:V→Hp→VK→Prop} (ho:gX X (unaryOp op) r) (ha:PE X a ta):PE X (.UnaryOp op a pos) (E4 r ta):=by
 intro pins s σ H Q I h
 exact UnaryOp_ (jM (ha pins s σ H _ I h) fun v s1 ⟨x,H1,I1,r1,q1⟩=>ho pins s1 σ H1 x v Q I1 r1 q1)
theorem dW {f:Value→Value→Sem Value} {C:Int→Int→Prop} {g:Int→Int→Int}
  (rule:∀(i j:Int) (t u:Tok) (s:Shared) (Q:Value→Shared→Prop) (E:Value→Shared→Prop),C i j→Q (.int (g i j) s.toks) {s with toks:=s.toks+1}→wpAny (model X.prog X.w) X.A (f (.int i t) (.int j u)) Q E s) :
  OpR X f (rI C fun i j=>.int (g i j)):=by
 intro pins s σ H x y v u Q I rx ry h
 obtain ⟨i,j,rfl,rfl,hc,q⟩:=h
 obtain ⟨t,rfl⟩:=rx
 obtain ⟨t',rfl⟩:=ry
 exact rule i j t t' s _ _ hc ⟨.int (g i j),H,I.tok _,⟨⟨_,I.tk⟩,rfl⟩,q⟩
theorem pV {f:Value→Value→Sem Value} {g:Int→Int→Int}
  (rule:∀(i j:Int) (t u:Tok) (s:Shared) (Q:Value→Shared→Prop) (E:Value→Shared→Prop),Q (.int (g i j) s.toks) {s with toks:=s.toks+1}→wpAny (model X.prog X.w) X.A (f (.int i t) (.int j u)) Q E s) :
  OpR X f (QF fun i j=>.int (g i j)):=by
 intro pins s σ H x y v u Q I rx ry h
 obtain ⟨i,j,rfl,rfl,q⟩:=h
 obtain ⟨t,rfl⟩:=rx
 obtain ⟨t',rfl⟩:=ry
 exact rule i j t t' s _ _ ⟨.int (g i j),H,I.tok _,⟨⟨_,I.tk⟩,rfl⟩,q⟩
theorem gJ {f:Value→Value→Sem Value} {g:Int→Int→Bool}
  (rule:∀(i j:Int) (t u:Tok) (s:Shared) (Q:Value→Shared→Prop) (E:Value→Shared→Prop),Q (.bool (g i j)) s→wpAny (model X.prog X.w) X.A (f (.int i t) (.int j u)) Q E s) :
  OpR X f (QF fun i j=>.bl (g i j)):=by
 intro pins s σ H x y v u Q I rx ry h
 obtain ⟨i,j,rfl,rfl,q⟩:=h
 obtain ⟨t,rfl⟩:=rx
 obtain ⟨t',rfl⟩:=ry
 exact rule i j t t' s _ _ ⟨.bl (g i j),H,I,rfl,q⟩
def p0 (i j:Int):Prop:=0<j∧j<1073741824
def E2 (i j:Int):Prop:=0≤j∧j≤1000000∧i.natAbs<2 ^ 64
def CMul (i j:Int):Prop:=(-(2 ^ 64)<i∧i<2 ^ 64)∨(-(2 ^ 64)<j∧j<2 ^ 64)
theorem CMul.ok {i j:Int} (h:CMul i j):IntMulOk i j:=by
 rcases h with ⟨h1,h2⟩|⟨h1,h2⟩
 ·exact .of_left (intBits_le_64 h1 h2)
 ·exact .of_right (intBits_le_64 h1 h2)
theorem vR:OpR X (binaryOp .Add) (QF fun i j=>.int (i+j)):=pV fun _ _ _ _ _ _ _ q=>add_int q
theorem zA:OpR X (binaryOp .Sub) (QF fun i j=>.int (i - j)):=pV fun _ _ _ _ _ _ _ q=>sub_int q
theorem oZ:OpR X (binaryOp .Mult) (rI CMul fun i j=>.int (i*j)):=dW fun _ _ _ _ _ _ _ hc q=>mul_int q hc.ok
theorem yC:OpR X (binaryOp .FloorDiv) (rI p0 fun i j=>.int (i / j)):=dW fun i j _ _ _ _ _ hc q=>by
 have h1:(0:Int)<j:=hc.1
 have h2:j<1073741824:=hc.2
 exact floordiv_int (by omega) (by rw [Int.fdiv_eq_ediv_of_nonneg i (by omega)];exact q) (.inl (PyProof.noPylong_small (by omega)))
theorem qF:OpR X (binaryOp .Mod) (rI (fun _ j=>0<j) fun i j=>.int (i%j)):=dW fun i j _ _ _ _ _ hc q=>by
 have h1:(0:Int)<j:=hc
 exact mod_int' (by omega) (by rw [Int.fmod_eq_emod_of_nonneg i (by omega)];exact q)
theorem B4:OpR X (binaryOp .Pow) (rI E2 fun i j=>.int (i ^ j.toNat)):=dW fun _ _ _ _ _ _ _ hc q=>pow_int_small hc.1 hc.2.1 hc.2.2 q
theorem E3 {f:Value→Sem Value} {g:Int→Int}
  (rule:∀(i:Int) (t:Tok) (s:Shared) (Q:Value→Shared→Prop) (E:Value→Shared→Prop),Q (.int (g i) s.toks) {s with toks:=s.toks+1}→wpAny (model X.prog X.w) X.A (f (.int i t)) Q E s) :
  gX X f (rU fun i=>.int (g i)):=by
 intro pins s σ H x v Q I rx h
 obtain ⟨i,rfl,q⟩:=h
 obtain ⟨t,rfl⟩:=rx
 exact rule i t s _ _ ⟨.int (g i),H,I.tok _,⟨⟨_,I.tk⟩,rfl⟩,q⟩
theorem yT:gX X (unaryOp .USub) (rU fun i=>.int (-i)):=E3 fun _ _ _ _ _ q=>neg_int q
end
def pS:V→V→Bool
 |.non,.non=>true|.non,.int _=>true|.int _,.non=>true|.non,.bl _=>true|.bl _,.non=>true|.non,.str _=>true|.str _,.non=>true
 |.int _,.int _=>true|.bl _,.bl _=>true|.str _,.str _=>true|.byt _,.byt _=>true
 |.int _,.str _=>true|.str _,.int _=>true|.bl _,.str _=>true|.str _,.bl _=>true
 |_,_=>false
def E9:R2:=fun x y H Q=>pS x y=true∧Q (.bl (decide (x=y))) H
def E8:R2:=fun x y H Q=>pS x y=true∧Q (.bl (!decide (x=y))) H
theorem oE {i j:Int}:decide (V.int i=V.int j)=(i == j):=by
 rw [Bool.eq_iff_iff]
 simp
theorem o8 {i j:Bool}:decide (V.bl i=V.bl j)=(i == j):=by
 rw [Bool.eq_iff_iff]
 simp
theorem oD {i j:Str}:decide (V.str i=V.str j)=(i == j):=by
 rw [Bool.eq_iff_iff]
 simp
theorem oF {i j:Array UInt8}:decide (V.byt i=V.byt j)=(i.toList == j.toList):=by
 rw [Bool.eq_iff_iff]
 cases i
 cases j
 simp
section
variable {X:Cx} {a b c:Expr} {ta tb tc:TE} {pos:Pos}
theorem kX {pins:List (Addr×Obj)} {σ:St} {H:Hp} {s:Shared} {Q:VK} {k k':Bool} (I:Inv X pins σ H s) (q:Q (.bl k) H) (e:k=k'):EP X pins σ Q (.bool k') s:=by
 subst e
 exact ⟨.bl k,H,I,rfl,q⟩
theorem kJ:OpR X (compareOp .Eq) E9:=by
 intro pins s σ H x y v u Q I rx ry h
 obtain ⟨hs,q⟩:=h
 cases x with
 |non =>
  cases rx
  cases y with
  |non=>cases ry;exact PySem.EqNone.eq_none_none (kX I q (by simp))
  |bl j=>cases ry;exact PySem.EqNone.eq_none_bool (kX I q (by simp))
  |int j=>obtain ⟨t',rfl⟩:=ry;exact PySem.EqNone.eq_none_int (kX I q (by simp))
  |str j=>obtain ⟨t',rfl⟩:=ry;exact PySem.EqNone.eq_none_str (kX I q (by simp))
  |_=>exact absurd (show false=true from hs) Bool.false_ne_true
 |bl i =>
  cases rx
  cases y with
  |non=>cases ry;exact PySem.EqNone.eq_bool_none (kX I q (by simp))
  |bl j=>cases ry;exact eq_bool (kX I q o8)
  |str j=>obtain ⟨t',rfl⟩:=ry;exact PySem.EqMixed.eq_bool_str (kX I q (by simp))
  |_=>exact absurd (show false=true from hs) Bool.false_ne_true
 |int i =>
  obtain ⟨t,rfl⟩:=rx
  cases y with
  |non=>cases ry;exact PySem.EqNone.eq_int_none (kX I q (by simp))
  |int j=>obtain ⟨t',rfl⟩:=ry;exact eq_int (kX I q oE)
  |str j=>obtain ⟨t',rfl⟩:=ry;exact PySem.EqMixed.eq_int_str (kX I q (by simp))
  |_=>exact absurd (show false=true from hs) Bool.false_ne_true
 |str i =>
  obtain ⟨t,rfl⟩:=rx
  cases y with
  |non=>cases ry;exact PySem.EqNone.eq_str_none (kX I q (by simp))
  |bl j=>cases ry;exact PySem.EqMixed.eq_str_bool (kX I q (by simp))
  |int j=>obtain ⟨t',rfl⟩:=ry;exact PySem.EqMixed.eq_str_int (kX I q (by simp))
  |str j=>obtain ⟨t',rfl⟩:=ry;exact eq_str (kX I q oD)
  |_=>exact absurd (show false=true from hs) Bool.false_ne_true
 |byt i =>
  obtain ⟨t,rfl⟩:=rx
  cases y with
  |byt j=>obtain ⟨t',rfl⟩:=ry;exact PySem.W.eq_bytes (kX I q oF)
  |_=>exact absurd (show false=true from hs) Bool.false_ne_true
 |_=>cases y<;>exact absurd (show false=true from hs) Bool.false_ne_true
theorem DH:OpR X (compareOp .NotEq) E8:=by
 intro pins s σ H x y v u Q I rx ry h
 obtain ⟨hs,q⟩:=h
 cases x with
 |non =>
  cases rx
  cases y with
  |non=>cases ry;exact PySem.EqNone.ne_none_none (kX I q (by simp))
  |bl j=>cases ry;exact PySem.EqNone.ne_none_bool (kX I q (by simp))
  |int j=>obtain ⟨t',rfl⟩:=ry;exact PySem.EqNone.ne_none_int (kX I q (by simp))
  |str j=>obtain ⟨t',rfl⟩:=ry;exact PySem.EqNone.ne_none_str (kX I q (by simp))
  |_=>exact absurd (show false=true from hs) Bool.false_ne_true
 |bl i =>
  cases rx
  cases y with
  |non=>cases ry;exact PySem.EqNone.ne_bool_none (kX I q (by simp))
  |bl j=>cases ry;exact ne_bool (kX I q (congrArg not o8))
  |str j=>obtain ⟨t',rfl⟩:=ry;exact PySem.EqMixed.ne_bool_str (kX I q (by simp))
  |_=>exact absurd (show false=true from hs) Bool.false_ne_true
 |int i =>
  obtain ⟨t,rfl⟩:=rx
  cases y with
  |non=>cases ry;exact PySem.EqNone.ne_int_none (kX I q (by simp))
  |int j=>obtain ⟨t',rfl⟩:=ry;exact ne_int (kX I q (congrArg not oE))
  |str j=>obtain ⟨t',rfl⟩:=ry;exact PySem.EqMixed.ne_int_str (kX I q (by simp))
  |_=>exact absurd (show false=true from hs) Bool.false_ne_true
 |str i =>
  obtain ⟨t,rfl⟩:=rx
  cases y with
  |non=>cases ry;exact PySem.EqNone.ne_str_none (kX I q (by simp))
  |bl j=>cases ry;exact PySem.EqMixed.ne_str_bool (kX I q (by simp))
  |int j=>obtain ⟨t',rfl⟩:=ry;exact PySem.EqMixed.ne_str_int (kX I q (by simp))
  |str j=>obtain ⟨t',rfl⟩:=ry;exact ne_str (kX I q (congrArg not oD))
  |_=>exact absurd (show false=true from hs) Bool.false_ne_true
 |byt i =>
  obtain ⟨t,rfl⟩:=rx
  cases y with
  |byt j=>obtain ⟨t',rfl⟩:=ry;exact PySem.W.ne_bytes (kX I q (congrArg not oF))
  |_=>exact absurd (show false=true from hs) Bool.false_ne_true
 |_=>cases y<;>exact absurd (show false=true from hs) Bool.false_ne_true
theorem DI:OpR X (compareOp .Lt) (QF fun i j=>.bl (decide (i<j))):=gJ fun _ _ _ _ _ _ _ q=>lt_int q
theorem dO:OpR X (compareOp .Gt) (QF fun i j=>.bl (decide (j<i))):=gJ fun _ _ _ _ _ _ _ q=>gt_int q
theorem DJ:OpR X (compareOp .GtE) (QF fun i j=>.bl (decide (j≤i))):=gJ fun _ _ _ _ _ _ _ q=>ge_int q
theorem nL:OpR X (compareOp .IsNot) (fun x y H Q=>y=.non∧Q (.bl (!decide (x=.non))) H):=by
 intro pins s σ H x y v u Q I rx ry h
 obtain ⟨rfl,q⟩:=h
 cases ry
 refine isnot_none_gen (kX I q ?_)
 cases x<;>first
  | (cases rx;rfl)
  | (obtain ⟨t,rfl⟩:=rx;rfl)
theorem OpR.or {f:Value→Value→Sem Value} {r r':R2} (h:OpR X f r) (h':OpR X f r'):OpR X f (fun x y H Q=>r x y H Q∨r' x y H Q):=by
 intro pins s σ H x y v u Q I rx ry q
 rcases q with q|q
 ·exact h pins s σ H x y v u Q I rx ry q
 ·exact h' pins s σ H x y v u Q I rx ry q
theorem jW (b:Expr) {op:CmpOp} (h:op≠.In:=by decide) (h2:op≠.NotIn:=by decide):behindInMarks op b=false:=by
 have e1:(op == CmpOp.In)=false:=by cases op<;>first|rfl|exact absurd rfl h
 have e2:(op == CmpOp.NotIn)=false:=by cases op<;>first|rfl|exact absurd rfl h2
 cases b<;>simp [behindInMarks,e1,e2]
theorem yB {op:CmpOp} {r:R2} (ho:OpR X (compareOp op) r) (ha:PE X a ta) (hb:PE X b tb) (hm:behindInMarks op b=false):PE X (.Compare a [op] [b] pos) (dU r ta tb):=by
 intro pins s σ H Q I h
 exact wpAny_Compare1 (gN ha hb I h fun v u s2 x y H2 I2 rx ry q=>ho pins s2 σ H2 x y v u Q I2 rx ry q) hm
def C2 (t:TE):TT:=fun σ H Q=>t σ H fun x H'=>∃k,x=.bl k∧Q k H'
theorem j5 {op:CmpOp} {r:R2} (ho:OpR X (compareOp op) r) (ha:PE X a ta) (hb:PE X b tb) (hm:behindInMarks op b=false):PT X (.Compare a [op] [b] pos) (C2 (dU r ta tb)):=by
 intro pins s σ H Q I h
 refine wpAny_isTrue_Compare1 (jM (ha pins s σ H _ I h) fun v s1 ⟨x,H1,I1,r1,q1⟩=>jM (hb pins s1 σ H1 _ I1 q1) fun u s2 ⟨y,H2,I2,r2,q2⟩ =>
  jM (ho pins s2 σ H2 x y v u _ I2 r1 r2 q2) fun c s3 ⟨z,H3,I3,r3,k,e,q3⟩=>?_) hm
 subst e
 cases r3
 exact wpAny_truthy_bool ⟨H3,I3,q3⟩
def pX (K:PySem.W.Frag) (x:V) (H:Hp) (k:Bool):Prop :=
 match x with
 |.non=>k=false
 |.bl b=>k=b
 |.int i=>k=(i != 0)
 |.str y=>y.length≤sizeLine∧k=((y.length:Int) != 0)
 |.byt y=>y.size≤sizeLine∧k=((y.size:Int) != 0)
 |.ref p=>(∃xs,SqL K H p xs∧k = !xs.isEmpty)∨(∃xs,SqT K H p xs∧k = !xs.isEmpty)∨∃kvs,H p=some (.dK kvs)∧k = !kvs.isEmpty
 |_=>False
theorem uD {κ:Type} {kvs:List (κ×V)} {vs:List (κ×Value)} (r:KV kvs vs):(!vs.isEmpty) = !kvs.isEmpty:=by
 cases r<;>rfl
theorem iI {xs:List V} {its:List Value} (r:Vals xs its):(!its.toArray.isEmpty) = !xs.isEmpty:=by
 cases r<;>simp
theorem ZJ:(sizeLine:Nat)<2 ^ 63:=by rw [sizeLine_eq];decide
theorem BN:EZ X (fun x H Q=>∃k,pX X.K x H k∧Q k H):=by
 intro pins s σ H x v Q I rx h
 obtain ⟨k,e,q⟩:=h
 have hl:=ZJ
 have hs:sizeLine=16777216:=sizeLine_eq
 cases x with
 |non =>
  cases rx
  have e':k=false:=e
  subst e'
  exact truthy_none ⟨H,I,q⟩
 |bl b =>
  cases rx
  have e':k=b:=e
  subst e'
  exact wpAny_truthy_bool ⟨H,I,q⟩
 |int i =>
  obtain ⟨t,rfl⟩:=rx
  have e':k=(i != 0):=e
  subst e'
  exact PySem.P.truthy_int ⟨H,I,q⟩
 |str y =>
  obtain ⟨t,rfl⟩:=rx
  obtain ⟨hy,e'⟩:y.length≤sizeLine∧k=((y.length:Int) != 0):=e
  subst e'
  exact PySem.P.truthy_str (by omega) ⟨H,I.tok _,q⟩
 |byt y =>
  obtain ⟨t,rfl⟩:=rx
  obtain ⟨hy,e'⟩:y.size≤sizeLine∧k=((y.size:Int) != 0):=e
  subst e'
  exact PySem.W.truthy_bytes (by omega) ⟨H,I.tok _,q⟩
 |ref p =>
  cases rx
  have e':(∃xs,SqL X.K H p xs∧k = !xs.isEmpty)∨(∃xs,SqT X.K H p xs∧k = !xs.isEmpty)∨∃kvs,H p=some (.dK kvs)∧k = !kvs.isEmpty:=e
  rcases e' with ⟨xs,hx,e'⟩|⟨xs,hx,e'⟩|⟨kvs,hx,e'⟩
  ·subst e'
   obtain ⟨its,r,pl,hz⟩:=I.list hx
   have hlen:=r.length
   exact wpAny_truthy_list pl.isList (by simp only [List.size_toArray];omega) ⟨H,I.tok _,by rw [iI r];exact q⟩
  ·subst e'
   obtain ⟨its,r,pl,hz⟩:=I.tuple hx
   have hlen:=r.length
   exact truthy_tuple pl (by simp only [List.size_toArray];omega) ⟨H,I.tok _,by rw [iI r];exact q⟩
  ·subst e'
   obtain ⟨hz,hS,vs,r,m⟩:kvs.length≤sizeLine∧(p == sysModules)=false∧∃vs,KV kvs vs∧s.heap.DictOf (JH X.prog X.w) p vs:=I.hok p _ hx
   have hlen:kvs.length=vs.length:=Paired.length r
   exact wpAny_truthy_dict hS m (by omega) ⟨H,I.tok _,by rw [uD r];exact q⟩
 |_=>exact (show False from e).elim
theorem mB (ha:PE X a ta) (he:∀whole,isTrue a X.env whole=(do let v ← whole;standAt a.pos;holding [v] (truthy v))) :
  PT X a (fun σ H Q=>ta σ H fun x H'=>∃k,pX X.K x H' k∧Q k H'):=by
 intro pins s σ H Q I h
 exact isTrue_plain (jM (ha pins s σ H _ I h) fun v s1 ⟨x,H1,I1,r1,q1⟩=>BN pins s1 σ H1 x v Q I1 r1 q1) (he _)
theorem iF:OpR X (binaryOp .Add) (fun x y H Q=>∃i j,x=.str i∧y=.str j∧i.length+j.length≤sizeLine∧Q (.str (i++j)) H):=by
 intro pins s σ H x y v u Q I rx ry h
 obtain ⟨i,j,rfl,rfl,hz,q⟩:=h
 obtain ⟨t,rfl⟩:=rx
 obtain ⟨t',rfl⟩:=ry
 refine PySem.P.add_str ?_
 by_cases h1:i.length=0
 ·rw [if_pos (by simpa using h1)]
  exact ⟨.str (i++j),H,I,⟨t',by rw [Str.append_left_empty (by simpa using h1)]⟩,q⟩
 rw [if_neg (by simpa using h1)]
 by_cases h2:j.length=0
 ·rw [if_pos (by simpa using h2)]
  exact ⟨.str (i++j),H,I,⟨t,by rw [Str.append_right_empty (by simpa using h2)]⟩,q⟩
 rw [if_neg (by simpa using h2)]
 exact ⟨by rw [Str.length_append];exact hz,.str (i++j),H,I.tok _,⟨⟨_,I.tk⟩,rfl⟩,q⟩
theorem dL {x:V} {us:List Value} (r:Vals [x] us):∃u,us=[u]∧RelV x u:=by
 cases r with
 |cons r1 r2=>cases r2;exact ⟨_,rfl,r1⟩
theorem pB {x y:V} {us:List Value} (r:Vals [x,y] us):∃u w',us=[u,w']∧RelV x u∧RelV y w':=by
 cases r with
 |cons r1 r2 =>
  cases r2 with
  |cons r3 r4=>cases r4;exact ⟨_,_,rfl,r1,r3⟩
end
end L2
namespace L2
open PySem PySem.Spec PyProof.Rows
structure ObjM (h:Heap) (x dx C:Addr) (mA:Str→Option Value):Prop where
 obj:h.get? x=some (PySem.W.instObj C dx)
 ns:h.Ns1 dx mA
 ne:dx≠x
theorem wH {h:Heap} {dx:Addr} {mA:Str→Option Value} (n:h.Ns1 dx mA):∃od,h.get? dx=some od∧∀name,PySem.W.lookIn name od=some (mA name):=by
 obtain ⟨o,es,ep,ho,hd,hk,_,hm⟩:=n
 refine ⟨o,ho,fun name=>?_⟩
 have e:=hm name
 unfold nsFind findBy at e
 rw [← Array.find?_toList] at e
 unfold PySem.W.lookIn
 rw [hd]
 dsimp only
 split
 ·rename_i y q
  rw [q] at e
  exact congrArg some e
 ·rename_i q
  rw [q] at e
  have a:es.toList.any (·.refKey)=false:=by
   rw [List.any_eq_false]
   intro y hy
   obtain ⟨z,t,hkey⟩:=hk y (Array.mem_toList_iff.mp hy)
   simp [DictEntry.refKey,hkey]
  have a':¬es.toList.any (·.refKey)=true:=by rw [a];exact Bool.false_ne_true
  rw [if_neg a']
  exact congrArg some e
theorem ObjM.look {h:Heap} {x dx C:Addr} {mA:Str→Option Value} (I:ObjM h x dx C mA):∃od,PySem.W.InstAt h x (PySem.W.instObj C dx) C (some od)∧∀name,PySem.W.lookIn name od=some (mA name) :=
 let ⟨od,ho,hl⟩:=wH I.ns
 ⟨od,⟨I.obj,rfl,rfl,ho⟩,hl⟩
section
variable {prog:Program} {w:World} {A:Around} {E:Value→Shared→Prop} {s:Shared} {K:PySem.W.Frag} {x dx C f:Addr} {mA:Str→Option Value} {name:Str} {v:Value}
end
section
variable {P:Program} {w:World} {H H':Hp} {h h':Heap} {a C dx:Addr} {fs fs':List (Str×V)}
theorem AY (hok:HOk P w H h) (e:H a=some (.ins C dx fs)):∃mA,ObjM h a dx C mA∧(∀f,RelO (fs.lookup f) (mA f))∧PySem.Within mA (fs.map (·.1))∧fs.length≤1000∧H dx=some (.own a):=by
 obtain ⟨d,z,ne,ob,mA,n,r,q⟩:=(show ObjOk P w H h a (.ins C dx fs) from hok a _ e)
 exact ⟨mA,⟨ob,n,ne⟩,r,q,z,d⟩
end
structure Cls (K:PySem.W.Frag) (C:Addr):Prop where
 pg:PySem.W.plainGet K C Str.empty=true
 hd:PySem.W.hasDictIn K C=true
 po:PySem.W.plainOver K C=true
 sa:PySem.W.findIn K (.ref C) "__setattr__"=some (some (.builtin "object.__setattr__"))
theorem Cls.get {K:PySem.W.Frag} {C:Addr} (c:Cls K C) (f:Str):PySem.W.plainGet K C f=true:=c.pg
section
variable {X:Cx} {pins:List (Addr×Obj)} {σ:St} {H:Hp} {s:Shared} {a C dx:Addr} {fs:List (Str×V)} {f:Str} {v:V} {A:Around} {E:Value→Shared→Prop}
end
section
variable {X:Cx} {o e value:Expr} {f:Str} {pos pos' tpos:Pos} {ta tv:TE}
end
section
variable {X:Cx} {pins:List (Addr×Obj)} {σ:St} {H:Hp} {s:Shared} {A:Around} {E:Value→Shared→Prop} {Q:Value→Shared→Prop} {c:Value} {b:Bool}
inductive TyOf (K:PySem.W.Frag) (H:Hp):V→Value→Prop where
 |non:TyOf K H .non (.type "NoneType")
 |bl (x:Bool):TyOf K H (.bl x) (.type "bool")
 |int (i:Int):TyOf K H (.int i) (.type "int")
 |str (x:Str):TyOf K H (.str x) (.type "str")
 |raw (x:Int):TyOf K H (.raw x) (.type "int")
 |lst {a:Addr} {xs:List V} (e:H a=some (.lst xs)):TyOf K H (.ref a) (.type "list")
 |frz {a:Addr} {o:Obj} {xs:List V} (e:H a=some (.frz o (.lst xs))):TyOf K H (.ref a) (.type "list")
 |tup {a:Addr} {xs:List V} (e:H a=some (.tup xs)):TyOf K H (.ref a) (.type "tuple")
 |dK {a:Addr} {kvs:List (kU×V)} (e:H a=some (.dK kvs)):TyOf K H (.ref a) (.type "dict")
 |dT {a:Addr} {kvs:List (List kU×V)} (e:H a=some (.dT kvs)):TyOf K H (.ref a) (.type "dict")
 |ins {a C dx:Addr} {fs:List (Str×V)} (e:H a=some (.ins C dx fs)) (cl:Cls K C) (ha:PySem.W.findIn K (.ref C) "__class__"=some (some (.builtin "object.__class__")))
   (hn:PySem.W.specialIn K (.builtin "object.__class__") "__get__"=some (some (.builtin "getset_descriptor.__get__"))) (htk:PySem.W.takesIn K (.builtin "object.__class__")=some true)
   (hm:PySem.W.mroIn K C (.type "object")=some true):TyOf K H (.ref a) (.ref C)
theorem wN {x:V} {u t:Value} (I:Inv X pins σ H s) (rx:RelV x u) (ty:TyOf X.K H x t) (e:PySem.W.kitOne X.K t c=some b) (h:∀tk,Q (.bool b) {s with toks:=tk}) :
  wpAny (model X.prog X.w) A (call (.builtin "isinstance") [u,c]) Q E s:=by
 cases ty with
 |non=>cases (show u=Value.none from rx);exact PySem.W.kia_one PySem.W.kitx_none I.kIn True.intro e (fun z=>nomatch z) h
 |bl y=>cases (show u=Value.bool y from rx);exact PySem.W.kia_one PySem.W.kitx_bool I.kIn True.intro e (fun z=>nomatch z) h
 |int i=>obtain ⟨t,q⟩:=(show ∃t:JM,u=Value.int i t.1 from rx);cases q;exact PySem.W.kia_one PySem.W.kitx_int I.kIn True.intro e (fun z=>nomatch z) h
 |str y=>obtain ⟨t,q⟩:=(show ∃t:JM,u=Value.str y t.1 from rx);cases q;exact PySem.W.kia_one PySem.W.kitx_str I.kIn True.intro e (fun z=>nomatch z) h
 |raw y=>cases (show u=Value.int y 0 from rx);exact PySem.W.kia_one PySem.W.kitx_int I.kIn True.intro e (fun z=>nomatch z) h
 |@lst a xs ea =>
  cases (show u=Value.ref a from rx)
  obtain ⟨_,_,n,_,h1⟩:=(show ObjOk X.prog X.w H s.heap a (.lst xs) from I.hok a _ ea)
  exact PySem.W.kia_one PySem.W.kitx_list I.kIn ⟨_,h1,rfl⟩ e (fun z=>nomatch z) h
 |@frz a ob xs ea =>
  cases (show u=Value.ref a from rx)
  obtain ⟨_,_,_,n,_,h1⟩:=(show ObjOk X.prog X.w H s.heap a (.frz ob (.lst xs)) from I.hok a _ ea)
  exact PySem.W.kia_one PySem.W.kitx_list I.kIn ⟨_,h1,rfl⟩ e (fun z=>nomatch z) h
 |@tup a xs ea =>
  cases (show u=Value.ref a from rx)
  obtain ⟨_,_,_,p⟩:=(show ObjOk X.prog X.w H s.heap a (.tup xs) from I.hok a _ ea)
  obtain ⟨o,h1,h2,_⟩:=p
  exact PySem.W.kia_one PySem.W.kitx_tuple I.kIn ⟨o,h1,h2⟩ e (fun z=>nomatch z) h
 |@dK a kvs ea =>
  cases (show u=Value.ref a from rx)
  obtain ⟨_,_,vs,_,p⟩:=(show ObjOk X.prog X.w H s.heap a (.dK kvs) from I.hok a _ ea)
  obtain ⟨o,es,ep,h1,h2,_⟩:=p
  exact PySem.W.kia_one PySem.W.kitx_dict I.kIn ⟨o,h1,h2.1⟩ e (fun z=>nomatch z) h
 |@dT a kvs ea =>
  cases (show u=Value.ref a from rx)
  obtain ⟨_,_,xs,_,o,es,ep,h1,h2,_⟩:=(show ObjOk X.prog X.w H s.heap a (.dT kvs) from I.hok a _ ea)
  exact PySem.W.kia_one PySem.W.kitx_dict I.kIn ⟨o,h1,h2.1⟩ e (fun z=>nomatch z) h
 |@ins a C dx fs ea cl ha hn htk hm =>
  cases (show u=Value.ref a from rx)
  obtain ⟨mA,O,_⟩:=AY I.hok ea
  obtain ⟨od,J,_⟩:=O.look
  exact PySem.W.kia_one (PySem.W.kitx_own (cl.get _) cl.hd ha hn htk hm) I.kIn J e (fun z=>nomatch z) h
end
end L2
namespace L2
open PySem PySem.Spec PyProof.Rows
structure Room (k:Nat) (A:Around):Prop where
 hd:A.handled=none
 dp:A.depth+3*k+5<recursionLimit
 un:A.units+16*k+200<cLine
theorem Room.mono {j k:Nat} {A:Around} (r:Room k A) (h:j≤k):Room j A:=⟨r.hd,by have:=r.dp;omega,by have:=r.un;omega⟩
theorem Room.deeper {k:Nat} {A:Around} (r:Room (k+1) A) (env:Env):Room k (A.deeper env) :=
 ⟨r.hd,by have:=r.dp;show A.depth+1+3*k+5<_;omega,by have:=r.un;show A.units+3+16*k+200<_;omega⟩
theorem Room.in1 {k:Nat} {A:Around} (r:Room (k+1) A):Room k A.in1 :=
 ⟨r.hd,by have:=r.dp;show A.depth+3*k+5<_;omega,by have:=r.un;show A.units+1+16*k+200<_;omega⟩
theorem Room.depth {k:Nat} {A:Around} (r:Room k A):A.depth<recursionLimit:=by have:=r.dp;omega
theorem Room.units {k:Nat} {A:Around} (r:Room k A):A.units+64<cLine:=by have:=r.un;omega
theorem Room.units0 {k:Nat} {A:Around} (r:Room k A):A.units<cLine:=by have:=r.un;omega
def DY:TA:=fun _ H Q=>Q [] H
def C9 (ta:TE) (tr:TA):TA:=fun σ H Q=>ta σ H fun x H1=>tr σ H1 fun xs H2=>Q (x::xs) H2
section
variable {X:Cx} {e:Expr} {es:List Expr} {te:TE} {t:TA} {pos:Pos}
theorem jD:PA X [] DY:=fun _ _ _ _ H Q I h=>Calls.spliced_nil ⟨[],H,I,.nil,h⟩
theorem jB (ha:PE X e te) (hr:PA X es t) (hs:starEach (e::es) X.env=(false,eval e X.env)::starEach es X.env:=by rfl):PA X (e::es) (C9 te t):=by
 intro pos pins s σ H Q I h
 rw [hs]
 show wpAny _ _ (spliced ((false,eval e X.env)::backTo pos (starEach es X.env))) _ _ s
 refine Calls.spliced_cons (jM (ha pins s σ H _ I h) fun u s1 ⟨x,H1,I1,r1,q1⟩=>?_)
 exact jM (hr pos pins s1 σ H1 _ I1 q1) fun us s2 ⟨xs,H2,I2,r2,q2⟩=>⟨x::xs,H2,I2,.cons r1 r2,q2⟩
def DT (t:TA):TE:=fun σ H Q=>t σ H fun xs H1=>xs.length≤sizeLine∧∀p,H1 p=none→Q (.ref p) (jC H1 p (.tup xs))
def DZ (t:TA):TE:=fun σ H Q=>t σ H fun xs H1=>xs.length≤sizeLine∧∀p,H1 p=none→Q (.ref p) (jC H1 p (.lst xs))
theorem ZH {x1} (h:PA X es t):PE X (.Tuple es x1 pos) (DT t):=by
 intro pins s σ H Q I hq
 refine wpAny_Tuple_spliced (jM (h pos pins s σ H _ I hq) fun us s1 ⟨xs,H1,I1,r,z,q⟩=>⟨by rw [← r.length];exact z,?_⟩)
 have hf:H1 s1.heap.objs.size=none:=I1.hok.fresh (Nat.le_refl _)
 refine ⟨.ref s1.heap.objs.size,jC H1 s1.heap.objs.size (.tup xs),I1.laid (t':=s1.toks) (fun b u e=>Heap.get?_push_of_some _ e) (Nat.le_refl _) ?_,rfl,q _ hf⟩
 exact ⟨z,us,r,⟨_,Heap.get?_push_size _ rfl,rfl,_,rfl⟩⟩
theorem kZ (h:PA X es t):PE X (.List es pos) (DZ t):=by
 intro pins s σ H Q I hq
 refine wpAny_List_spliced (jM (h pos pins s σ H _ I hq) fun us s1 ⟨xs,H1,I1,r,z,q⟩=>⟨by rw [← r.length];exact z,?_⟩)
 have hf:H1 s1.heap.objs.size=none:=I1.hok.fresh (Nat.le_refl _)
 refine ⟨.ref s1.heap.objs.size,jC H1 s1.heap.objs.size (.lst xs),I1.laid (t':=s1.toks) (fun b u e=>Heap.get?_push_of_some _ e) (Nat.le_refl _) ?_,rfl,q _ hf⟩
 exact ⟨z,us,0,r,Heap.get?_push_size _ rfl⟩
end
abbrev Sp:=List V→Hp→VK→XK→Prop
abbrev qV:=List Env→Hp→Shared→XK→Value→Shared→Prop
structure Env0 (P:Program) (w:World) (K:PySem.W.Frag) (mg:Str→Option Value) (base:Heap) (A:Around) (outer:List Env) (s:Shared) (H:Hp):Prop where
 frames:A.frames=some outer
 mod:Mod K mg base
 bs:∀b o,base.get? b=some o→s.heap.get? b=some o∧H b=none
 bsz:base.objs.size≤s.heap.objs.size
 funs:s.heap.FunFrames base outer
 frf:∀b∈yF outer,H b=none
 hok:HOk P w H s.heap
 bare:Bare s
def CE (outer:List Env) (P:Program) (w:World) (H:Hp) (s:Shared) (Q:VK) (u:Value) (s':Shared):Prop :=
 ∃v H',s'.os=s.os∧Bare s'∧Un (yF outer) [] H H' s.heap s'.heap∧HOk P w H' s'.heap∧RelV v u∧Q v H'
def CR (CX:qV) (outer:List Env) (P:Program) (w:World) (H:Hp) (s:Shared) (Q:VK) (E:XK) (r:Result) (s':Shared):Prop :=
 match r with
 |.ok (.ret u)=>CE outer P w H s Q u s'
 |.ok _=>False
 |.error e=>CX outer H s E e s'
structure FnOk (P:Program) (w:World) (K:PySem.W.Frag) (mg:Str→Option Value) (base:Heap) (CX:qV) (k:Nat) (f:Addr) (fd:FuncData) (ps:List Str) (sp:Sp):Prop where
 len:∀vs H Q E,sp vs H Q E→vs.length=ps.length
 run:∀(A:Around) (outer:List Env) (s:Shared) (H:Hp) (args:Args) (us:List Value) (vs:List V) (Q:VK) (E:XK),Room k A→Env0 P w K mg base A outer s H→BindsTo s fd args (ps.zip us)→Vals vs us→sp vs H Q E→
  codeAny (model P w) A (.call (.ref f) args) (CR CX outer P w H s Q E) s
theorem FnOk.mono {P:Program} {w:World} {K:PySem.W.Frag} {mg:Str→Option Value} {base:Heap} {CX:qV} {j k:Nat} {f:Addr} {fd:FuncData} {ps:List Str} {sp:Sp} (F:FnOk P w K mg base CX j f fd ps sp) (h:j≤k) :
  FnOk P w K mg base CX k f fd ps sp:=⟨F.len,fun A outer s H args us vs Q E hr=>F.run A outer s H args us vs Q E (hr.mono h)⟩
theorem Env0.in1 {P:Program} {w:World} {K:PySem.W.Frag} {mg:Str→Option Value} {base:Heap} {A:Around} {outer:List Env} {s:Shared} {H:Hp} (e:Env0 P w K mg base A outer s H) :
  Env0 P w K mg base A.in1 outer s H:=⟨e.frames,e.mod,e.bs,e.bsz,e.funs,e.frf,e.hok,e.bare⟩
section
variable {X:Cx} {pins:List (Addr×Obj)} {σ:St} {H:Hp} {s s':Shared}
theorem Inv.env0 (I:Inv X pins σ H s):Env0 X.prog X.w X.K X.mg X.base X.A X.stack s H :=
 ⟨I.ok.frames,I.ok.mod,I.bs,Nat.le_trans I.ok.bsz I.sz,I.stack,I.stkFree,I.hok,I.bare⟩
theorem Inv.after {Q:VK} {u:Value} (I:Inv X pins σ H s) (h:CE X.stack X.prog X.w H s Q u s'):EP X pins σ Q u s':=by
 obtain ⟨v,H',os,bare,un,hok,r,q⟩:=h
 obtain ⟨hh,g,d,t,os'⟩:=s'
 obtain rfl:os'=s.os:=os
 exact ⟨v,H',I.call (h':=hh) (g':=g) (d':=d) (t':=t) (ch:=[]) un hok bare (fun b z=>absurd z (by simp)),r,q⟩
end
def pD (sp:Sp) (dvs:List V) (E:XK) (t:TA):TE:=fun σ H Q=>t σ H fun vs H1=>sp (vs++dvs) H1 Q E
def Binds (K:PySem.W.Frag) (fd:FuncData) (ps:List Str) (ds:List Value):Prop :=
 ∀(s:Shared) (us:List Value),K.In s.heap→(us++ds).length=ps.length→BindsTo s fd ⟨us,[]⟩ (ps.zip (us++ds))
theorem Binds.all {K:PySem.W.Frag} {fd:FuncData} {ps:List Str} (h:∀us:List Value,us.length=ps.length→bindArgs fd ⟨us,[]⟩=pure (ps.zip us)):Binds K fd ps []:=fun s us _ hl=>by
 rw [List.append_nil] at hl ⊢
 exact .of_eq (h us hl)
def dJ (CX:qV) (X:Cx) (E:XK):Prop:=∀(pins:List (Addr×Obj)) (σ:St) (H:Hp) (s:Shared) (e:Value) (s':Shared),Inv X pins σ H s→CX X.stack H s E e s'→X.xe e s'
section
variable {X:Cx} {CX:qV} {k:Nat} {f C:Addr} {fd:FuncData} {ps:List Str} {sp:Sp} {dvs:List V} {ds:List Value} {E:XK} {x m:Str} {p pos apos:Pos} {e o:Expr} {es:List Expr} {ta:TE} {t:TA}
theorem BV {pins:List (Addr×Obj)} {σ:St} {H:Hp} {s:Shared} {Q:VK} {us:List Value} {vs:List V} (F:FnOk X.prog X.w X.K X.mg X.base CX k f fd ps sp) (hr:Room k X.A) (hb:Binds X.K fd ps ds) (hd:Vals dvs ds) (hx:dJ CX X E)
  (I:Inv X pins σ H s) (r:Vals vs us) (h:sp (vs++dvs) H Q E):wpAny (model X.prog X.w) X.A (call (.ref f) us) (EP X pins σ Q) X.xe s:=by
 have r2:Vals (vs++dvs) (us++ds):=r.append hd
 have hl:(us++ds).length=ps.length:=by rw [← r2.length];exact F.len _ _ _ _ h
 refine wpAny_call (codeAny_mono (F.run X.A X.stack s H ⟨us,[]⟩ (us++ds) (vs++dvs) Q E hr I.env0 (hb s us I.kIn hl) r2 h) fun r s' hq=>?_)
 cases r with
 |error e=>exact hx pins σ H s e s' I hq
 |ok fl =>
  cases fl with
  |ret u=>exact I.after hq
  |next=>exact False.elim hq
  |brk=>exact False.elim hq
  |cont=>exact False.elim hq
theorem AK (F:FnOk X.prog X.w X.K X.mg X.base CX k f fd ps sp) (hr:Room k X.A) (hg:Gl X x) (hm:X.mg x=some (.ref f)) (hk:PySem.W.keepIn X.K (.ref f)=true) (hb:Binds X.K fd ps ds) (hd:Vals dvs ds) (hx:dJ CX X E)
  (ha:PA X (e::es) t) (hdb:(x == ("__debug__":Str))=false:=by decide) (he:starEach (e::es) X.env=(false,eval e X.env)::starEach es X.env:=by rfl) (hpl:(backTo pos (starEach es X.env)).any (·.1)=false:=by rfl) :
  PE X (.Call (.Name x p) (e::es) [] pos) (pD sp dvs E t):=by
 intro pins s σ H Q I h
 refine wpAny_Call_Name_kw (nQ I hg hm ?_ hdb)
 refine PySem.W.callWith_K (h₀:=X.base) I.ok.mod.kin hk (jM (ha pos pins s σ H _ I h) fun us s1 ⟨vs,H1,I1,r,q⟩=>⟨I1.kIn,?_⟩) he hpl
 exact BV F hr hb hd hx I1 r q
end
section
variable {X:Cx} {CX:qV} {k:Nat} {f C:Addr} {fd:FuncData} {ps ks:List Str} {sp:Sp} {E:XK} {x m:Str} {p pos apos kpos:Pos} {e o:Expr} {es:List Expr} {kws:List Keyword} {te ta:TE} {t tk:TA} {nm:Option Str}
variable {g:List Value→List Value→List Value} {gV:List V→List V→List V}
end
structure FnScope (N P:List Str) (sc:Scope):Prop where
 kind:sc.kind=.function
 co:sc.isCoroutine=false
 gen:sc.isGenerator=false
 nd:N.Nodup
 pre:N.take P.length=P
 par:∀x∈P,sc.names.lookup x=some .local∨sc.names.lookup x=some .cell
 nofree:∀y∈sc.names,y.2≠.free
theorem lJ {kindOf:Str→Option NameKind} {x:Str}:∀{binds:List (Str×Value)} {m:Str→Option Value},(∀v,(x,v)∉binds)→bindL kindOf binds m x=m x
 |[],_,_=>rfl
 | (n,v)::r,m,h=>by
  unfold bindL
  rw [lJ fun w hw=>h w (List.mem_cons_of_mem _ hw)]
  split
  ·have:x≠n:=by rintro rfl;exact h v List.mem_cons_self
   simp [this]
  ·rfl
theorem lL {kindOf:Str→Option NameKind} {x:Str}:∀{binds:List (Str×Value)} {m:Str→Option Value},(∀v,(x,v)∉binds)→bindC kindOf binds m x=m x
 |[],_,_=>rfl
 | (n,v)::r,m,h=>by
  unfold bindC
  rw [lL fun w hw=>h w (List.mem_cons_of_mem _ hw)]
  split
  ·rfl
  ·have:x≠n:=by rintro rfl;exact h v List.mem_cons_self
   simp [this]
theorem lK {kindOf:Str→Option NameKind} {x:Str} {v:Value}:∀{P:List Str} {vs:List Value} {i:Nat} {m:Str→Option Value},P.Nodup→P[i]?=some x→vs[i]?=some v→kindOf x=some .local→
  bindL kindOf (P.zip vs) m x=some v
 |[],_,_,_,_,h,_,_=>by simp at h
 |_::_,[],_,_,_,_,h,_=>by simp at h
 |p::P,w::vs,0,m,nd,h1,h2,hk=>by
  simp at h1 h2;subst h1;subst h2
  show bindL kindOf ((p,w)::P.zip vs) m p=_
  unfold bindL
  rw [lJ fun v hv=>(List.nodup_cons.mp nd).1 (List.of_mem_zip hv).1,if_pos hk]
  simp
 |p::P,w::vs,i+1,m,nd,h1,h2,hk=>by
  show bindL kindOf ((p,w)::P.zip vs) m x=_
  unfold bindL
  exact lK (i:=i) (List.nodup_cons.mp nd).2 (by simpa using h1) (by simpa using h2) hk
theorem lM {kindOf:Str→Option NameKind} {x:Str} {v:Value}:∀{P:List Str} {vs:List Value} {i:Nat} {m:Str→Option Value},P.Nodup→P[i]?=some x→vs[i]?=some v→kindOf x≠some .local→
  bindC kindOf (P.zip vs) m x=some v
 |[],_,_,_,_,h,_,_=>by simp at h
 |_::_,[],_,_,_,_,h,_=>by simp at h
 |p::P,w::vs,0,m,nd,h1,h2,hk=>by
  simp at h1 h2;subst h1;subst h2
  show bindC kindOf ((p,w)::P.zip vs) m p=_
  unfold bindC
  rw [lL fun v hv=>(List.nodup_cons.mp nd).1 (List.of_mem_zip hv).1,if_neg hk]
  simp
 |p::P,w::vs,i+1,m,nd,h1,h2,hk=>by
  show bindC kindOf ((p,w)::P.zip vs) m x=_
  unfold bindC
  exact lM (i:=i) (List.nodup_cons.mp nd).2 (by simpa using h1) (by simpa using h2) hk
def qU (N:List Str) (vs:List V):St:=vs.map some++List.replicate (N.length - vs.length) none
def zC (CX:qV) (P:Program) (w:World) (K:PySem.W.Frag) (mg:Str→Option Value) (base:Heap) (N:List Str) (qual:Str) (scope:Scope) (f:Addr) (cd:Value) (A:Around) (outer:List Env) (s:Shared) (H:Hp) (E:XK):Cx where
 prog:=P
 w:=w
 K:=K
 mg:=mg
 base:=base
 A:=A.deeper (envOfC qual scope s.heap.objs.size f cd)
 N:=N
 s₀:=s
 H₀:=H
 env:=envOfC qual scope s.heap.objs.size f cd
 outer:=outer
 stack:=envOfC qual scope s.heap.objs.size f cd::outer
 ex:=[]
 calm:=true
 fn:=fun _=>true
 pn:=[]
 xe:=fun e s'=>wpAny (model P w) (A.deeper (envOfC qual scope s.heap.objs.size f cd)) (leaving (envOfC qual scope s.heap.objs.size f cd) e) (fun _ s''=>CX outer H s E e s'') (fun e' s''=>CX outer H s E e' s'') s'
theorem mT {sc:Scope} {n:Nat} {x:Str} (h:sc.names.lookup x=some .cell):∃c,(cellsFrom n sc.names []).lookup x=some c:=by
 have q:=PySem.W.cellsFrom_some sc.names n [] (.inl h)
 exact Option.isSome_iff_exists.mp q
theorem i8 {CX:qV} {P:Program} {w:World} {K:PySem.W.Frag} {mg:Str→Option Value} {base:Heap} {N ps:List Str} {qual:Str} {scope:Scope} {f:Addr} {cd:Value} {A:Around} {outer:List Env} {s s1:Shared} {H:Hp} {t0:Nat} {E:XK} {us:List Value} {vs:List V}
  (S:FnScope N ps scope) (hd:A.handled=none) (e0:Env0 P w K mg base A outer {s with toks:=t0} H) (hl:vs.length=ps.length) (r:Vals vs us)
  (x:InCallC s s.heap.objs.size (bindL (envOfC qual scope s.heap.objs.size f cd).kindOf (ps.zip us) fun _=>none) (cellsFrom (s.heap.objs.size+1) scope.names []) (bindC (envOfC qual scope s.heap.objs.size f cd).kindOf (ps.zip us) fun _=>none) s1)
  (ht:0<s1.toks):Inv (zC CX P w K mg base N qual scope f cd A outer s H E) [] (qU N vs) H s1:=by
 have hpl:ps.length≤N.length:=by have:=congrArg List.length S.pre;rw [List.length_take] at this;omega
 obtain ⟨h1,tk,rfl,hk⟩:=x.done
 have noA:∀b:Addr,b∉(zC CX P w K mg base N qual scope f cd A outer s H E).ex:=fun b z=>absurd (show b∈([]:List Addr) from z) (by simp)
 refine ⟨⟨e0.mod,S.kind,rfl,rfl,Nat.le_refl _,fun y z c h1 h2=>?_,fun y hy=>?_,fun y c _ h=>?_,fun _=>hd,Around.frames_deeper e0.frames,.inr ⟨rfl,rfl⟩,fun b z=>absurd z (noA b),e0.bs,e0.bsz,fun b _ _=>noA b,fun b z=>absurd z (noA b),e0.funs,e0.frf⟩,
  rfl,⟨e0.bare.b,ht⟩,Un.kept hk,⟨_,x.toInCall.ns,fun i y v h1 h2 h3=>?_⟩,fun y c h=>⟨_,x.cell y c h⟩,e0.hok.fresh (Nat.le_refl _),fun y c h=>?_,fun p hp=>absurd (show p∈([]:List (Addr×Obj)) from hp) (by simp),e0.hok.kept hk,?_⟩
 ·exact name_of_addr x.apart (PySem.mem_of_lookup h1) (PySem.mem_of_lookup h2)
 ·have hy:scope.names.lookup y=some .cell∨scope.names.lookup y=some .free:=hy
  rcases hy with hy|hy
  ·exact mT hy
  ·exact absurd rfl (S.nofree _ (PySem.mem_of_lookup hy))
 ·exact Nat.le_of_lt (x.above y c (PySem.mem_of_lookup h))
 ·have hi:i<vs.length:=by
   unfold qU at h2
   by_cases hi:i<vs.length
   ·exact hi
   ·rw [List.getElem?_append_right (by simpa using hi)] at h2
    rw [List.getElem?_replicate] at h2
    split at h2<;>cases h2
  have ha:vs[i]?=some v:=by
   unfold qU at h2
   rw [List.getElem?_append_left (by simpa using hi),List.getElem?_map] at h2
   cases e:vs[i]? with
   |none=>rw [e] at h2;cases h2
   |some a=>rw [e] at h2;cases h2;rfl
  obtain ⟨u,hu,rv⟩:=r.get ha
  have hp:ps[i]?=some y:=by
   rw [← S.pre,List.getElem?_take_of_lt (by omega)];exact h1
  have ndP:ps.Nodup:=by rw [← S.pre];exact S.nd.sublist (List.take_sublist _ _)
  refine ⟨u,rv,?_⟩
  rcases S.par y (List.mem_of_getElem? hp) with k|k
  ·exact .inl ⟨k,lK ndP hp hu k⟩
  ·obtain ⟨c,e⟩:=mT (n:=s.heap.objs.size+1) k
   refine .inr ⟨.inl k,c,e,?_⟩
   have q:=x.cell y c e
   rw [lM ndP hp hu (by show scope.names.lookup y≠_;rw [k];decide)] at q
   exact q
 ·exact e0.hok.fresh (Nat.le_of_lt (x.above y c (PySem.mem_of_lookup h)))
 ·unfold qU
  show _=N.length
  rw [List.length_append,List.length_map,List.length_replicate]
  omega
theorem DR {CX:qV} {P:Program} {w:World} {K:PySem.W.Frag} {mg:Str→Option Value} {base:Heap} {k:Nat} {f:Addr} {name qual:Str} {params:Arguments} {body:List Stmt} {scope:Scope} {dV kV doc pm cdv ct oc:Value} {an od:Option Addr}
  {osl:Array (Option Value)} {N ps:List Str} {sp:Sp} (lk:K.lookup f=some ⟨oc,od,.func (PySem.W.fnOf name qual params body scope dV kV doc pm an cdv ct),osl⟩) (hcd:PySem.W.codeIn K cdv qual=true) (S:FnScope N ps scope)
  (len:∀vs H Q E,sp vs H Q E→vs.length=ps.length)
  (hbody:∀(A:Around) (outer:List Env) (s:Shared) (H:Hp) (vs:List V) (Q:VK) (E:XK),Room k (A.deeper (envOfC qual scope s.heap.objs.size f cdv))→sp vs H Q E→
   ∃t,PSs (zC CX P w K mg base N qual scope f cdv A outer s H E) body t∧t {nx:=fun _ H'=>Q .non H',rt:=Q} (qU N vs) H) :
  FnOk P w K mg base CX (k+1) f (PySem.W.fnOf name qual params body scope dV kV doc pm an cdv ct) ps sp:=by
 refine ⟨len,fun A outer s H args us vs Q E hr e0 hb r hsp=>?_⟩
 have hl:=len _ _ _ _ hsp
 have KX:K.In s.heap:=e0.mod.kin.keeps fun b o e=>(e0.bs b o e).1
 have lim:s.heap.NoLimit:=e0.mod.nolimit.keeps fun b o e=>(e0.bs b o e).1
 have hkind:∀y∈ps.zip us,scope.names.lookup y.1=some .local∨(scope.names.lookup y.1=some .cell∧((cellsFrom (s.heap.objs.size+1) scope.names []).lookup y.1).isSome=true):=fun ⟨n,v⟩ hy=>by
  rcases S.par n (List.of_mem_zip hy).1 with q|q
  ·exact .inl q
  ·exact .inr ⟨q,PySem.W.cellsFrom_some _ _ _ (.inl q)⟩
 refine codeAny_call_function hr.depth (KX _ _ lk) rfl S.co S.gen rfl (PySem.W.codeRec_of KX hcd) (hb _ _ _ _ ?_)
 refine y0 (wpAny_newFunctionEnv_cells S.kind hkind fun env he s1 x hle=>?_)
 subst he
 refine ⟨lim.keeps x.toInCall.keep,codeAny_func ?_⟩
 obtain ⟨t,ht,hq⟩:=hbody A outer s H vs Q E (hr.deeper _) hsp
 have I:Inv (zC CX P w K mg base N qual scope f cdv A outer s H E) [] (qU N vs) H s1:=i8 (t0:=s.toks) S hr.hd e0 hl r x (Nat.lt_of_lt_of_le e0.bare.t hle)
 refine wpAny_mono (ht [] s1 (qU N vs) H _ I hq) (fun fl s' hs=>?_) fun e s' hs=>hs
 have fin:∀{σ':St} {H':Hp} {v:V} {u:Value},Inv (zC CX P w K mg base N qual scope f cdv A outer s H E) [] σ' H' s'→RelV v u→Q v H'→CE outer P w H s Q u s' :=
  fun {σ' H' v u} J rv q=>⟨v,H',J.os,J.bare,J.base,J.hok,rv,q⟩
 cases fl with
 |ret u =>
  obtain ⟨v,σ',H',J,rv,q⟩:=hs
  exact fin J rv q
 |next =>
  obtain ⟨σ',H',J,q⟩:=hs
  exact fin (v:=V.non) (u:=Value.none) J rfl q
 |brk =>
  obtain ⟨_,_,_,q⟩:=hs
  exact False.elim q
 |cont =>
  obtain ⟨_,_,_,q⟩:=hs
  exact False.elim q
end L2
namespace L2
open PySem PySem.Spec PyProof.Rows
section
variable {X:Cx} {x:Str} {p pos:Pos} {e:Expr} {es:List Expr} {t:TA} {id T:String} {r:List V→Hp→VK→Prop}
def p9 (r:List V→Hp→VK→Prop) (t:TA):TE:=fun σ H Q=>t σ H fun vs H1=>r vs H1 Q
theorem kW (hc:CallR X (.builtin id) r) (hg:Gl X x) (hm:X.mg x=none) (hv:bootBuiltins x=some (.builtin id)) (ha:PA X (e::es) t) (hn:x≠"__name__":=by decide) (hdb:(x == ("__debug__":Str))=false:=by decide)
  (he:starEach (e::es) X.env=(false,eval e X.env)::starEach es X.env:=by rfl) (hpl:(backTo pos (starEach es X.env)).any (·.1)=false:=by rfl):PE X (.Call (.Name x p) (e::es) [] pos) (p9 r t):=by
 intro pins s σ H Q I h
 refine wpAny_Call_Name_kw (JI I hg hm hv ?_ hn hdb)
 exact PyProof.Rows.callWith_builtin1 (jM (ha pos pins s σ H _ I h) fun us s1 ⟨vs,H1,I1,r1,q1⟩=>hc pins s1 σ H1 vs us Q I1 r1 q1) he hpl
theorem JT (hc:CallR X (.type T) r) (hg:Gl X x) (hm:X.mg x=none) (hv:bootBuiltins x=some (.type T)) (ha:PA X (e::es) t) (hn:x≠"__name__":=by decide) (hdb:(x == ("__debug__":Str))=false:=by decide)
  (he:starEach (e::es) X.env=(false,eval e X.env)::starEach es X.env:=by rfl) (hpl:(backTo pos (starEach es X.env)).any (·.1)=false:=by rfl):PE X (.Call (.Name x p) (e::es) [] pos) (p9 r t):=by
 intro pins s σ H Q I h
 refine wpAny_Call_Name_kw (JI I hg hm hv ?_ hn hdb)
 exact PyProof.Rows.callWith_type1 (jM (ha pos pins s σ H _ I h) fun us s1 ⟨vs,H1,I1,r1,q1⟩=>hc pins s1 σ H1 vs us Q I1 r1 q1) he hpl
end
end L2
namespace HT
open PySem PyProof.Rows
section
open PySem.SeqAt
open PySem.AutoSeq1 (wpAny_loadPart')
open PySem.MeetsSeq PySem.MeetsSeq2 PySem.MeetsSeq3
end
section
variable {prog:Program} {w:World} {A:Around} {E:Value→Shared→Prop} {s:Shared}
def sIx (n d:Nat):Option Int→Nat
 |none=>d
 |some v=>if v<0 then (v+(n:Int)).toNat else min v.toNat n
theorem sIx_none (n d:Nat):sIx n d none=d:=rfl
theorem sIx_nat (n d k:Nat):sIx n d (some (k:Int))=min k n:=by
 show (if (k:Int)<0 then ((k:Int)+(n:Int)).toNat else min (k:Int).toNat n)=min k n
 rw [if_neg (by omega),Int.toNat_natCast]
end
end HT
namespace L2
open PySem PySem.Spec PyProof.Rows
abbrev TO:=St→Hp→(Option Int→Hp→Prop)→Prop
def PO (X:Cx) (e:Option Expr) (t:TO):Prop :=
 ∀(pins:List (Addr×Obj)) (s:Shared) (σ:St) (H:Hp) (Q:Option Int→Hp→Prop),Inv X pins σ H s→t σ H Q→
  wpAny (model X.prog X.w) X.A (evalPart e X.env) (fun u s'=>∃o H',Inv X pins σ H' s'∧IsPart u o∧Q o H') X.xe s
def x5:TO:=fun _ H Q=>Q none H
def C3 (t:TE):TO:=fun σ H Q=>t σ H fun x H1=>∃i,x=.int i∧Q (some i) H1
section
variable {X:Cx} {e:Expr} {te:TE} {lo hi:Option Expr} {tl th:TO} {pos p2:Pos}
theorem zI:PO X none x5:=by
 intro pins s σ H Q I h
 rw [evalPart_none]
 exact wpAny_pure ⟨none,H,I,.none,h⟩
theorem zR (h:PE X e te):PO X (some e) (C3 te):=by
 intro pins s σ H Q I hw
 rw [evalPart_some]
 refine jM (h pins s σ H _ I hw) fun u s1 ⟨x,H1,I1,r1,q1⟩=>?_
 obtain ⟨i,rfl,q⟩:=q1
 obtain ⟨t,rfl⟩:=r1
 exact ⟨some i,H1,I1,.int i t,q⟩
def SlR (X:Cx) (r:V→Option Int→Option Int→Hp→VK→Prop):Prop :=
 ∀(pins:List (Addr×Obj)) (s:Shared) (σ:St) (H:Hp) (x:V) (v vl vu:Value) (lo hi:Option Int) (sl:Addr) (Q:VK),Inv X pins σ H s→RelV x v→s.heap.IsSliceOf sl vl vu .none→IsPart vl lo→IsPart vu hi→r x lo hi H Q→
  ∃T id,typeLookup (.type T) "__getitem__"=pure (some (.builtin id))∧s.TypeIs v T∧wpAny (model X.prog X.w) X.A (getItem v (.ref sl)) (EP X pins σ Q) X.xe s
theorem SlR.or {r r':V→Option Int→Option Int→Hp→VK→Prop} (h:SlR X r) (h':SlR X r'):SlR X (fun x lo hi H Q=>r x lo hi H Q∨r' x lo hi H Q):=by
 intro pins s σ H x v vl vu lo hi sl Q I rx hs pl pu q
 rcases q with q|q
 ·exact h pins s σ H x v vl vu lo hi sl Q I rx hs pl pu q
 ·exact h' pins s σ H x v vl vu lo hi sl Q I rx hs pl pu q
def E5 (r:V→Option Int→Option Int→Hp→VK→Prop) (te:TE) (tl th:TO):TE:=fun σ H Q=>te σ H fun x H1=>tl σ H1 fun l H2=>th σ H2 fun u H3=>r x l u H3 Q
theorem JD {r:V→Option Int→Option Int→Hp→VK→Prop} (hr:SlR X r) (he:PE X e te) (hl:PO X lo tl) (hu:PO X hi th):PE X (.Subscript e (.Slice lo hi none p2) pos) (E5 r te tl th):=by
 intro pins s σ H Q I h
 refine Subscript_ (jM (he pins s σ H _ I h) fun v s1 ⟨x,H1,I1,r1,q1⟩=>?_)
 refine wpAny_Slice (jM (hl pins s1 σ H1 _ I1 q1) fun vl s2 ⟨l,H2,I2,pl,q2⟩=>jM (hu pins s2 σ H2 _ I2 q2) fun vu s3 ⟨u,H3,I3,pu,q3⟩=>?_)
 rw [evalPart_none]
 refine wpAny_pure ?_
 have I4:Inv X pins σ H3 {s3 with heap:=s3.heap.push {cls:=.type "slice",data:=.fields #[vl,vu,.none]}}:=I3.kept (t':=s3.toks) fun b ob q=>Heap.get?_push_of_some _ q
 obtain ⟨T,id,hT,ht,hg⟩:=hr pins {s3 with heap:=s3.heap.push {cls:=.type "slice",data:=.fields #[vl,vu,.none]}} σ H3 x v vl vu l u s3.heap.objs.size Q I4 r1 (Heap.IsSliceOf.new ..) pl pu q3
 show wpAny (model X.prog X.w) X.A (subscriptTail e (.Slice lo hi none p2) v (.ref s3.heap.objs.size)) (EP X pins σ Q) X.xe {s3 with heap:=s3.heap.push {cls:=.type "slice",data:=.fields #[vl,vu,.none]}}
 exact tail_any (ops:=[.ref s3.heap.objs.size,v]) ht hT hg (by with_unfolding_all rfl)
def kP (xs:List V) (lo hi:Option Int):List V:=(xs.drop (HT.sIx xs.length 0 lo)).take (HT.sIx xs.length xs.length hi - HT.sIx xs.length 0 lo)
theorem tO (xs:List V) (lo hi:Option Int):(kP xs lo hi).length≤xs.length:=by
 unfold kP
 rw [List.length_take,List.length_drop]
 omega
end
end L2
namespace L2
open PySem PySem.Spec PyProof.Rows
def yQ (n:Nat) (i:Int):Option Nat:=if 0≤i then (if i<n then some i.toNat else none) else if -(n:Int)≤i then some (i+n).toNat else none
def v7 {α:Type} (xs:List α) (i:Int):Option α:=(yQ xs.length i).bind fun j=>xs[j]?
theorem ZF {n:Nat} {i:Int} {j:Nat} (h:yQ n i=some j):seqIndex? i n=some j∧j<n∧-(n:Int)≤i∧i<n:=by
 unfold yQ at h
 by_cases h0:0≤i
 ·rw [if_pos h0] at h
  by_cases h1:i<n
  ·rw [if_pos h1] at h
   have e:i.toNat=j:=Option.some.inj h
   exact ⟨by rw [seqIndex_of h0 h1,e],by omega,by omega,h1⟩
  ·rw [if_neg h1] at h;cases h
 ·rw [if_neg h0] at h
  by_cases h1 : -(n:Int)≤i
  ·rw [if_pos h1] at h
   have e:(i+n).toNat=j:=Option.some.inj h
   exact ⟨by rw [seqIndex_neg (by omega) h1,e],by omega,h1,by omega⟩
  ·rw [if_neg h1] at h;cases h
theorem fV {α:Type} {xs:List α} {i:Int} {v:α} (h:v7 xs i=some v):∃j,seqIndex? i xs.length=some j∧xs[j]?=some v∧j<xs.length∧-(xs.length:Int)≤i∧i<xs.length:=by
 unfold v7 at h
 cases e:yQ xs.length i with
 |none=>rw [e] at h;cases h
 |some j =>
  rw [e] at h
  obtain ⟨h1,h2,h3,h4⟩:=ZF e
  exact ⟨j,h1,h,h2,h3,h4⟩
theorem kK {α:Type} {xs:List α} {j:Nat} {v:α} (h:xs[j]?=some v):v7 xs (j:Int)=some v:=by
 have hj:j<xs.length:=(List.getElem?_eq_some_iff.mp h).1
 have e:yQ xs.length (j:Int)=some j:=by
  unfold yQ
  rw [if_pos (by omega),if_pos (by omega)];simp
 unfold v7;rw [e];exact h
theorem atI_last {α:Type} (xs:List α) (v:α):v7 (xs++[v]) (-1)=some v:=by
 have hl:(xs++[v]).length=xs.length+1:=by simp
 have e:yQ (xs++[v]).length (-1)=some xs.length:=by
  unfold yQ
  rw [hl,if_neg (by decide),if_pos (by omega)]
  congr 1
  omega
 unfold v7
 rw [e]
 show (xs++[v])[xs.length]?=some v
 simp
def BI (b:Expr):Prop:=∀o i,subscripted b false o i=operate [o,i] (getItem o i)
def IxR (X:Cx) (r:R2):Prop :=
 ∀(value slice:Expr) (pins:List (Addr×Obj)) (s:Shared) (σ:St) (H:Hp) (x y:V) (v u:Value) (Q:VK),Inv X pins σ H s→RelV x v→RelV y u→r x y H Q→
  subscripted slice false v u=operate [v,u] (getItem v u)→wpAny (model X.prog X.w) X.A (subscriptTail value slice v u) (EP X pins σ Q) X.xe s
def MtR (X:Cx) (id:String) (r:V→List V→Hp→VK→Prop):Prop :=
 ∀(pins:List (Addr×Obj)) (s:Shared) (σ:St) (H:Hp) (x:V) (xs:List V) (v:Value) (us:List Value) (Q:VK),Inv X pins σ H s→RelV x v→Vals xs us→r x xs H Q→
  wpAny (model X.prog X.w) X.A (call (.builtin id) (v::us)) (EP X pins σ Q) X.xe s
section
variable {X:Cx} {a b:Expr} {ta tb:TE} {pos:Pos}
theorem IxR.or {r r':R2} (h:IxR X r) (h':IxR X r'):IxR X (fun x y H Q=>r x y H Q∨r' x y H Q):=by
 intro value slice pins s σ H x y v u Q I rx ry q hs
 rcases q with q|q
 ·exact h value slice pins s σ H x y v u Q I rx ry q hs
 ·exact h' value slice pins s σ H x y v u Q I rx ry q hs
theorem MtR.or {id:String} {r r':V→List V→Hp→VK→Prop} (h:MtR X id r) (h':MtR X id r'):MtR X id (fun x xs H Q=>r x xs H Q∨r' x xs H Q):=by
 intro pins s σ H x xs v us Q I rx rs q
 rcases q with q|q
 ·exact h pins s σ H x xs v us Q I rx rs q
 ·exact h' pins s σ H x xs v us Q I rx rs q
theorem j4 {r:R2} (hr:IxR X r) (ha:PE X a ta) (hb:PE X b tb) (hs:BI b):PE X (.Subscript a b pos) (dU r ta tb):=by
 intro pins s σ H Q I h
 exact Subscript_ (gN ha hb I h fun v u s2 x y H2 I2 rx ry q=>hr a b pins s2 σ H2 x y v u Q I2 rx ry q (hs _ _))
def EL (K:PySem.W.Frag):R2:=fun x y H Q=>∃p xs i v,x=.ref p∧y=.int i∧SqL K H p xs∧v7 xs i=some v∧Q v H
def pT (K:PySem.W.Frag):R2:=fun x y H Q=>∃p xs i v,x=.ref p∧y=.int i∧SqT K H p xs∧v7 xs i=some v∧Q v H
def EK:R2:=fun x y H Q=>∃z i c,x=.str z∧y=.int i∧z.length≤sizeLine∧v7 z.cps.toList i=some c∧Q (.str ⟨#[c]⟩) H
theorem kG:IxR X (EL X.K):=by
 intro value slice pins s σ H x y v u Q I rx ry h hs
 obtain ⟨p,xs,i,z,rfl,rfl,hq,he,q⟩:=h
 cases rx
 obtain ⟨t,rfl⟩:=ry
 obtain ⟨its,r,pl,hz⟩:=I.list hq
 obtain ⟨j,h1,h2,h3,h4,h5⟩:=fV he
 obtain ⟨w,ew,rw'⟩:=r.get h2
 have hl:=r.length
 have hn:=ZJ
 have fin:EP X pins σ Q w s:=⟨z,H,I,rw',q⟩
 by_cases h0:0≤i
 ·have hj:i.toNat=j:=by
   rw [seqIndex_of h0 h5] at h1
   exact Option.some.inj h1
  exact item_listR pl.isList h0 (by omega) (by rw [hj];simpa using ew) fin hs
 ·have hj:(i+(its.toArray.size:Int)).toNat=j:=by
   rw [seqIndex_neg (by omega) h4] at h1
   rw [List.size_toArray,← hl]
   exact Option.some.inj h1
  exact subscriptTail_builtinR (x:=w) pl.isList.typeIs slot_list_getitem.lookup
   (wpAny_getItem_list_neg (Q:=fun r s'=>r=w∧EP X pins σ Q r s') pl.isList (by omega) (by rw [List.size_toArray]<;>omega) (by omega) (by rw [hj];simpa using ew) ⟨rfl,fin⟩) hs
theorem ZK:IxR X (pT X.K):=by
 intro value slice pins s σ H x y v u Q I rx ry h hs
 obtain ⟨p,xs,i,z,rfl,rfl,hq,he,q⟩:=h
 cases rx
 obtain ⟨t,rfl⟩:=ry
 obtain ⟨its,r,pl,hz⟩:=I.tuple hq
 obtain ⟨j,h1,h2,h3,h4,h5⟩:=fV he
 obtain ⟨w,ew,rw'⟩:=r.get h2
 have hl:=r.length
 have hn:=ZJ
 have fin:EP X pins σ Q w s:=⟨z,H,I,rw',q⟩
 exact subscriptTail_builtinR (x:=w) pl.typeIs slot_tuple_getitem.lookup
  (getItem_tuple (j:=j) (Q:=fun r s'=>r=w∧EP X pins σ Q r s') pl (by omega) (by omega) (by rw [List.size_toArray,← hl];exact h1) (by simpa using ew) ⟨rfl,fin⟩) hs
theorem CL:IxR X EK:=by
 intro value slice pins s σ H x y v u Q I rx ry h hs
 obtain ⟨z,i,c,rfl,rfl,hz,he,q⟩:=h
 obtain ⟨t,rfl⟩:=rx
 obtain ⟨t',rfl⟩:=ry
 obtain ⟨j,h1,h2,h3,h4,h5⟩:=fV he
 have hl:z.cps.toList.length=z.length:=by simp [Str.length]
 rw [hl] at h1 h4 h5
 have hn:=ZJ
 exact tail_any (typeIs_str s z t) slot_str_getitem.lookup (getItem_str (c:=c) (by
  have e1:decide (i < -(2 ^ 63:Int))=false:=decide_eq_false (by omega)
  have e2:decide (i≥2 ^ 63)=false:=decide_eq_false (by omega)
  rw [e1,e2,Bool.or_false]) (by rw [h1];simpa using h2) ⟨.str ⟨#[c]⟩,H,I.tok _,⟨⟨_,I.tk⟩,rfl⟩,q⟩) hs
theorem uA (its:List Value) (n j:Nat) (u:Value):Obj.mapSeq (·.setIfInBounds j u) {cls:=.type "list",data:=.seq its.toArray n}={cls:=.type "list",data:=.seq (its.set j u).toArray n}:=by
 simp [Obj.mapSeq]
theorem Inv.lst {pins:List (Addr×Obj)} {σ:St} {H:Hp} {s:Shared} {p:Addr} {xs:List V} (I:Inv X pins σ H s) (h:H p=some (.lst xs)) :
  ∃(its:List Value) (n:Nat),Vals xs its∧s.heap.get? p=some {cls:=.type "list",data:=.seq its.toArray n}∧xs.length≤sizeLine:=by
 obtain ⟨z,its,n,r,e⟩:=I.hok p _ h
 exact ⟨its,n,r,e,z⟩
theorem Inv.lstUpd {pins:List (Addr×Obj)} {σ:St} {H:Hp} {s:Shared} {p:Addr} {xs ys:List V} {its its':List Value} {n n':Nat} {f:Obj→Obj} (I:Inv X pins σ H s) (h:H p=some (.lst xs))
  (ho:s.heap.get? p=some {cls:=.type "list",data:=.seq its.toArray n}) (hf:f {cls:=.type "list",data:=.seq its.toArray n}={cls:=.type "list",data:=.seq its'.toArray n'}) (r:Vals ys its') (hz:ys.length≤sizeLine) (t:Nat) (ht:0<t:=by first|exact Nat.succ_pos _|exact Inv.tk (by assumption)|(dsimp only;exact Inv.tk (by assumption))) :
  Inv X pins σ (jC H p (.lst ys)) {s with heap:=s.heap.update p f,toks:=t}:=by
 have e:(s.heap.update p f).get? p=some {cls:=.type "list",data:=.seq its'.toArray n'}:=by
  rw [Heap.get?_update_self f ho (by rw [hf]<;>rfl),hf]
 refine I.write (ht:=ht) (x:=p) (e:=p) (by rw [h];trivial) (.inl rfl) (fun b u hb q=>(Heap.get?_update_other _ _ (Ne.symm hb)).trans q) ⟨_,e⟩ ?_
 exact ⟨hz,its',n',r,e⟩
def DE:V→V→V→Hp→(Hp→Prop)→Prop:=fun o i v H Q=>∃p xs k j,o=.ref p∧i=.int k∧H p=some (.lst xs)∧yQ xs.length k=some j∧Q (jC H p (.lst (xs.set j v)))
theorem lV:pY X DE:=by
 intro pins s σ H o i v ov iv u Q I ro ri rv h
 obtain ⟨p,xs,k,j,rfl,rfl,hp,hj,q⟩:=h
 cases ro
 obtain ⟨t,rfl⟩:=ri
 obtain ⟨its,n,r,ho,hz⟩:=I.lst hp
 obtain ⟨h1,h2,h3,h4⟩:=ZF hj
 have hl:=r.length
 have hn:=ZJ
 have I':Inv X pins σ (jC H p (.lst (xs.set j v))) {s with heap:=s.heap.update p (Obj.mapSeq (·.setIfInBounds j u))} :=
  I.lstUpd hp ho (uA its n j u) (r.set rv j) (by rw [List.length_set];exact hz) s.toks
 by_cases h0:0≤k
 ·have hk:k.toNat=j:=by
   rw [seqIndex_of h0 h4] at h1
   exact Option.some.inj h1
  exact PySem.W.ki_setAt ho h0 (by omega) (by rw [List.size_toArray,← hl];exact h4) (by rw [hk];exact ⟨_,I',q⟩)
 ·have hk:(k+(its.toArray.size:Int)).toNat=j:=by
   rw [seqIndex_neg (by omega) h3] at h1
   rw [List.size_toArray,← hl]
   exact Option.some.inj h1
  exact PySem.W.ki_setBack ho (by omega) (by rw [List.size_toArray,← hl];exact h3) (by omega) (by rw [hk];exact ⟨_,I',q⟩)
theorem tI (lo hi:Option Int) (n:Nat):(sliceBounds lo hi none n).1=((HT.sIx n 0 lo:Nat):Int)∧(sliceBounds lo hi none n).2.1=((HT.sIx n n hi:Nat):Int)∧(sliceBounds lo hi none n).2.2=1:=by
 refine ⟨?_,?_,rfl⟩
 ·cases lo with
  |none=>simp [sliceBounds,HT.sIx]
  |some i =>
   simp only [sliceBounds,HT.sIx,Option.getD_none,show (1:Int)>0 by decide,if_true]
   by_cases h:i<0
   ·simp only [h,if_true]<;>omega
   ·simp only [h,if_false]<;>omega
 ·cases hi with
  |none=>simp [sliceBounds,HT.sIx]
  |some i =>
   simp only [sliceBounds,HT.sIx,Option.getD_none,show (1:Int)>0 by decide,if_true]
   by_cases h:i<0
   ·simp only [h,if_true]<;>omega
   ·simp only [h,if_false]<;>omega
theorem tG (its:List Value) (lo hi:Option Int):slicePick its.toArray lo hi none=((its.drop (HT.sIx its.length 0 lo)).take (HT.sIx its.length its.length hi - HT.sIx its.length 0 lo)).toArray:=by
 obtain ⟨h1,h2,h3⟩:=tI lo hi its.toArray.size
 unfold slicePick
 rw [h1,h2,h3]
 simp only [sliceRange_one,pick_run,List.size_toArray]<;>rfl
def EG (K:PySem.W.Frag):V→Option Int→Option Int→Hp→VK→Prop:=fun x lo hi H Q=>∃a xs,x=.ref a∧SqL K H a xs∧∀p,H p=none→Q (.ref p) (jC H p (.lst (kP xs lo hi)))
theorem JG:SlR X (EG X.K):=by
 intro pins s σ H x v vl vu lo hi sl Q I rx hs pl pu h
 obtain ⟨a,xs,rfl,hx,q⟩:=h
 cases rx
 obtain ⟨its,r,ht,hz⟩:=I.list hx
 have hlen:=r.length
 refine ⟨"list",_,slot_list_getitem.lookup,ht.isList.typeIs,?_⟩
 refine wpAny_getItem_list_slice ht.isList hs pl pu .none (by simp) ?_ (by rw [List.size_toArray]<;>omega)
 rw [tG,← hlen]
 refine ⟨.ref s.heap.objs.size,_,I.laid (t':=s.toks) (o:=.lst (kP xs lo hi)) (fun b ob q=>Heap.get?_push_of_some _ q) (Nat.le_refl _) ?_,rfl,q _ (I.hok.fresh (Nat.le_refl _))⟩
 exact ⟨Nat.le_trans (tO xs lo hi) hz,_,0,(r.drop (HT.sIx xs.length 0 lo)).take (HT.sIx xs.length xs.length hi - HT.sIx xs.length 0 lo),Heap.get?_push_size _ rfl⟩
def vY:V→Bool
 |.non=>true
 |.bl _=>true
 |.int _=>true
 |.str _=>true
 |_=>false
def JQ:V→V→Bool
 |.non,.non=>true
 |.bl a,.bl b=>a == b
 |.bl a,.int b=>(if a then 1 else 0) == b
 |.int a,.bl b=>a == (if b then 1 else 0)
 |.int a,.int b=>a == b
 |.str a,.str b=>a == b
 |_,_=>false
theorem dI {A:Around} {s:Shared} {y x:V} {u v:Value} (ry:RelV y u) (rx:RelV x v) (fy:vY y=true) (fx:vY x=true):SeqAt.EqAt A s u v (JQ y x):=by
 cases y with
 |non =>
  cases ry
  cases x with
  |non=>cases rx;exact SeqAt.EqAt.same _
  |bl b=>cases rx;exact SeqAt.EqAt.none_bool b
  |int b=>obtain ⟨t,rfl⟩:=rx;exact SeqAt.EqAt.none_int b t
  |str b=>obtain ⟨t,rfl⟩:=rx;exact SeqAt.EqAt.none_str b t
  |_=>exact absurd (show false=true from fx) Bool.false_ne_true
 |bl a =>
  cases ry
  cases x with
  |non=>cases rx;exact SeqAt.EqAt.bool_none a
  |bl b=>cases rx;exact SeqAt.EqAt.bool_bool a b
  |int b=>obtain ⟨t,rfl⟩:=rx;exact SeqAt.EqAt.bool_int a b t
  |str b=>obtain ⟨t,rfl⟩:=rx;exact SeqAt.EqAt.bool_str a b t
  |_=>exact absurd (show false=true from fx) Bool.false_ne_true
 |int a =>
  obtain ⟨t',rfl⟩:=ry
  cases x with
  |non=>cases rx;exact SeqAt.EqAt.int_none a t'
  |bl b=>cases rx;exact SeqAt.EqAt.int_bool a t' b
  |int b=>obtain ⟨t,rfl⟩:=rx;exact SeqAt.EqAt.int_int a t' b t
  |str b=>obtain ⟨t,rfl⟩:=rx;exact SeqAt.EqAt.int_str a t' b t
  |_=>exact absurd (show false=true from fx) Bool.false_ne_true
 |str a =>
  obtain ⟨t',rfl⟩:=ry
  cases x with
  |non=>cases rx;exact SeqAt.EqAt.str_none a t'
  |bl b=>cases rx;exact SeqAt.EqAt.str_bool a t' b
  |int b=>obtain ⟨t,rfl⟩:=rx;exact SeqAt.EqAt.str_int a t' b t
  |str b=>obtain ⟨t,rfl⟩:=rx;exact SeqAt.EqAt.str_str a t' b t
  |_=>exact absurd (show false=true from fx) Bool.false_ne_true
 |_=>exact absurd (show false=true from fy) Bool.false_ne_true
theorem qA:CallR X (.builtin "len") (fun xs H Q=>∃p ys,xs=[.ref p]∧(SqL X.K H p ys∨SqT X.K H p ys)∧Q (.int ys.length) H):=by
 intro pins s σ H xs us Q I r h
 obtain ⟨p,ys,rfl,hq,q⟩:=h
 obtain ⟨u,rfl,rx⟩:=dL r
 cases rx
 have hn:=ZJ
 rcases hq with hq|hq
 ·obtain ⟨its,r',pl,hz⟩:=I.list hq
  have hlen:=r'.length
  exact Calls.call_len_list pl.isList (by simp only [List.size_toArray]<;>omega) ⟨.int ys.length,H,I.tok _,⟨⟨s.toks+1,Nat.succ_pos _⟩,by rw [List.size_toArray,hlen]⟩,q⟩
 ·obtain ⟨its,r',pl,hz⟩:=I.tuple hq
  have hlen:=r'.length
  exact len_tuple pl (by simp only [List.size_toArray]<;>omega) ⟨.int ys.length,H,I.tok _,⟨⟨s.toks+1,Nat.succ_pos _⟩,by rw [List.size_toArray,hlen]⟩,q⟩
theorem CallR.or {f:Value} {r r':List V→Hp→VK→Prop} (h:CallR X f r) (h':CallR X f r'):CallR X f (fun xs H Q=>r xs H Q∨r' xs H Q):=by
 intro pins s σ H xs us Q I rs q
 rcases q with q|q
 ·exact h pins s σ H xs us Q I rs q
 ·exact h' pins s σ H xs us Q I rs q
theorem eH:CallR X (.type "list") (fun xs H Q=>∃p ys,xs=[.ref p]∧(SqL X.K H p ys∨SqT X.K H p ys)∧∀l,H l=none→Q (.ref l) (jC H l (.lst ys))):=by
 intro pins s σ H xs us Q I r h
 obtain ⟨p,ys,rfl,hq,q⟩:=h
 obtain ⟨u,rfl,rx⟩:=dL r
 cases rx
 have fin:∀(its:List Value),Vals ys its→ys.length≤sizeLine→∀(h':Heap) (c':Nat),(∀b o',s.heap.get? b=some o'→h'.get? b=some o')→
   h'.get? s.heap.objs.size=some {cls:=.type "list",dict:=none,data:=.seq its.toArray c',slots := #[]}→EP X pins σ Q (.ref s.heap.objs.size) {s with heap:=h'}:=fun its r' hz h' c' kp e =>
  ⟨.ref s.heap.objs.size,_,I.laid (t':=s.toks) kp (Nat.le_refl _) (show ObjOk X.prog X.w _ h' _ (.lst ys) from ⟨hz,its,c',r',e⟩),rfl,q _ (I.hok.fresh (Nat.le_refl _))⟩
 rcases hq with hq|hq
 ·obtain ⟨its,r',pl,hz⟩:=I.list hq
  have hlen:=r'.length
  obtain ⟨o,ho,hc,n,hd⟩:=pl.isList
  exact call_list_seq p (.inl rfl) ho hc hd (fun h' c' kp e=>fin its r' hz h' c' kp e) (by simp only [List.size_toArray]<;>omega)
 ·obtain ⟨its,r',pl,hz⟩:=I.tuple hq
  have hlen:=r'.length
  obtain ⟨o,ho,hc,n,hd⟩:=pl
  exact call_list_seq p (.inr rfl) ho hc hd (fun h' c' kp e=>fin its r' hz h' c' kp e) (by simp only [List.size_toArray]<;>omega)
def gR (K:PySem.W.Frag) (T:String) (x:V) (H:Hp):Prop:=match x with
 |.str _=>T="str"
 |.int _=>T="int"
 |.ref p=>(T="list"∧∃xs,SqL K H p xs)∨(T="tuple"∧∃o,K.lookup p=some o∧o.cls=.type "tuple"∧o.dict=none)∨
   (T="dict"∧((∃kvs,H p=some (.dK kvs))∨∃kvs,H p=some (.dT kvs)))∨(T="set"∧∃S n,H p=some (.set S n))
 |_=>False
theorem oK {pins:List (Addr×Obj)} {σ:St} {H:Hp} {s:Shared} {T:String} {x:V} {v:Value} (I:Inv X pins σ H s) (r:RelV x v) (ty:gR X.K T x H) :
  s.TypeIs v T∧∀a,v=.ref a→∃ob,s.heap.get? a=some ob∧ob.dict=none:=by
 cases x with
 |str z =>
  obtain ⟨t,rfl⟩:=r
  cases (show T="str" from ty)
  exact ⟨typeIs_str s z t,fun _ e=>nomatch e⟩
 |int i =>
  obtain ⟨t,rfl⟩:=r
  cases (show T="int" from ty)
  exact ⟨typeIs_int s i t,fun _ e=>nomatch e⟩
 |ref p =>
  cases r
  rcases ty with ⟨rfl,xs,hq⟩|⟨rfl,o,hk,hc,hd⟩|⟨rfl,hk⟩|⟨rfl,S,n,hk⟩
  ·obtain ⟨its,_,pl,_⟩:=I.list hq
   refine ⟨pl.isList.typeIs,fun a e=>?_⟩
   cases e
   obtain ⟨o,n,e,c,hd,_⟩:=pl
   exact ⟨o,e,hd⟩
  ·refine ⟨⟨o,I.kIn p o hk,hc⟩,fun a e=>?_⟩
   cases e
   exact ⟨o,I.kIn _ o hk,hd⟩
  ·have z:∃o,s.heap.get? p=some o∧o.ExactDict:=by
    rcases hk with ⟨kvs,hk⟩|⟨kvs,hk⟩
    ·obtain ⟨_,_,_,_,o,_,_,e,ex,_⟩:=I.hok p _ hk
     exact ⟨o,e,ex⟩
    ·obtain ⟨_,_,_,_,o,_,_,e,ex,_⟩:=I.hok p _ hk
     exact ⟨o,e,ex⟩
   obtain ⟨o,e,ex⟩:=z
   refine ⟨⟨o,e,ex.1⟩,fun a e2=>?_⟩
   cases e2
   exact ⟨o,e,ex.2.1⟩
  ·obtain ⟨o,_,_,_,e,ex,_⟩:=I.hok p _ hk
   refine ⟨⟨o,e,ex.1⟩,fun a e2=>?_⟩
   cases e2
   exact ⟨o,e,ex.2.1⟩
 |_=>exact False.elim ty
def ED (K:PySem.W.Frag) (T:String) (r:V→List V→Hp→VK→Prop) (to:TE):TE:=fun σ H Q=>to σ H fun x H1=>gR K T x H1∧r x [] H1 Q
def E7 (K:PySem.W.Frag) (T:String) (r:V→List V→Hp→VK→Prop) (to:TE) (t:TA):TE:=fun σ H Q=>to σ H fun x H1=>gR K T x H1∧t σ H1 fun xs H2=>r x xs H2 Q
variable {o e:Expr} {es:List Expr} {to:TE} {t:TA} {name:Str} {apos cpos:Pos} {T id:String} {r:V→List V→Hp→VK→Prop}
theorem B1 (pa:PlainAttrs T) (slot:Slot T name id) (hty:typeOf (.builtin id)=pure (.type "method_descriptor")) (hm:MtR X id r) (ho:PE X o to)
  (hbase:attributeBase o name X.env (eval o X.env)=eval o X.env:=by rfl) (hline:(apos.endLine == cpos.line)=true:=by rfl):PE X (.Call (.Attribute o name apos) [] [] cpos) (ED X.K T r to):=by
 intro pins s σ H Q I h
 refine wpAny_Call_method0_late hbase hline (jM (ho pins s σ H _ I h) fun v s1 ⟨x,H1,I1,r1,ty,q1⟩=>?_)
 obtain ⟨h1,h2⟩:=oK I1 r1 ty
 exact ⟨T,id,pa,slot,hty,h1,h2,Calls.callWith_builtin rfl (PySem.evalArgs_none (hm pins s1 σ H1 x [] v [] Q I1 r1 .nil q1))⟩
theorem vI (pa:PlainAttrs T) (slot:Slot T name id) (hty:typeOf (.builtin id)=pure (.type "method_descriptor")) (hm:MtR X id r) (ho:PE X o to) (ha:PA X (e::es) t)
  (hbase:attributeBase o name X.env (eval o X.env)=eval o X.env:=by rfl)
  (hfew:((backTo cpos (starEach (e::es) X.env)).all (fun x => !x.1)&&(backToKw cpos (keywordEach [] X.env)).all (fun x=>x.1.isSome)
   && decide ((e::es).length+([]:List Keyword).length+(if ([]:List Keyword).isEmpty then 0 else 1)<30))=true:=by rfl)
  (hline:(apos.endLine == cpos.line)=true:=by rfl) (hs:starEach (e::es) X.env=(false,eval e X.env)::starEach es X.env:=by rfl) (hplain:(backTo cpos (starEach es X.env)).any (·.1)=false:=by rfl) :
  PE X (.Call (.Attribute o name apos) (e::es) [] cpos) (E7 X.K T r to t):=by
 intro pins s σ H Q I h
 refine wpAny_Call_method_late hbase hfew hline rfl (jM (ho pins s σ H _ I h) fun v s1 ⟨x,H1,I1,r1,ty,q1⟩=>?_)
 obtain ⟨h1,h2⟩:=oK I1 r1 ty
 refine ⟨T,id,pa,slot,hty,h1,h2,?_⟩
 have hA:=ha cpos pins s1 σ H1 _ I1 q1
 rw [hs] at hA ⊢
 refine Calls.callWith_builtin (by show (false||(backTo cpos (starEach es X.env)).any (·.1))=false;rw [hplain]<;>rfl) (Calls.evalArgs_plain ?_)
 exact jM hA fun us s2 ⟨vs,H2,I2,r2,q2⟩=>hm pins s2 σ H2 x vs v us Q I2 r1 r2 q2
/- xs.append(e),list.index on a module's tuple .. are MtR facts of 06m -/
end
end L2
namespace L2
open PySem PySem.Spec PyProof.Rows
def bM (X:Cx) (id:String) (r:V→List V→Hp→VK→Prop):Prop :=
 ∀(pins:List (Addr×Obj)) (s:Shared) (σ:St) (H:Hp) (x:V) (xs:List V) (v:Value) (us:List Value) (Q:VK),Inv X pins σ H s→RelV x v→Vals xs us→r x xs H Q→
  wpAny (model X.prog X.w) X.A (call (.builtin id) (v::us)) (EP X pins σ Q) X.xe s
theorem Vals.one:∀{x:V} {us:List Value},Vals [x] us→∃u,us=[u]∧RelV x u
 |_,_,.cons r .nil=>⟨_,rfl,r⟩
theorem Vals.two:∀{x y:V} {us:List Value},Vals [x,y] us→∃u v,us=[u,v]∧RelV x u∧RelV y v
 |_,_,_,.cons r (.cons q .nil)=>⟨_,_,rfl,r,q⟩
theorem Vals.zero:∀{us:List Value},Vals [] us→us=[]
 |_,.nil=>rfl
theorem Vals.eraseIdx:∀{xs:List V} {us:List Value} (i:Nat),Vals xs us→Vals (xs.eraseIdx i) (us.eraseIdx i)
 |_,_,_,.nil=>.nil
 |_,_,0,.cons _ t=>t
 |_,_,i+1,.cons r t=>.cons r (Vals.eraseIdx i t)
theorem Vals.reverse {xs:List V} {us:List Value} (h:Vals xs us):Vals xs.reverse us.reverse:=by
 induction h with
 |nil=>exact .nil
 |cons r t ih=>rw [List.reverse_cons,List.reverse_cons];exact Vals.append ih (.cons r .nil)
theorem i5 {α:Type}:∀(l:List α) (i:Nat),(l.eraseIdx i).length≤l.length
 |[],_=>Nat.le_refl _
 |_::_,0=>Nat.le_succ _
 |_::r,i+1=>Nat.succ_le_succ (i5 r i)
section
variable {X:Cx} {pins:List (Addr×Obj)} {σ:St} {H:Hp} {s:Shared} {l b:Addr} {xs ys zs:List V}
theorem Inv.lset {its its':List Value} {n:Nat} {f:Array Value→Array Value} {t':Nat} (I:Inv X pins σ H s) (hH:H l=some (.lst xs))
  (e:s.heap.get? l=some {cls:=.type "list",data:=.seq its.toArray n}) (hf:f its.toArray=its'.toArray) (hv:Vals ys its') (hz:ys.length≤sizeLine) (ht:0<t':=by first|exact Nat.succ_pos _|exact Inv.tk (by assumption)|(dsimp only;exact Inv.tk (by assumption))) :
  Inv X pins σ (jC H l (.lst ys)) {s with heap:=s.heap.update l (Obj.mapSeq f),toks:=t'}:=by
 have q:=PySem.IsL.update e f
 rw [hf] at q
 refine I.write (ht:=ht) (x:=l) (e:=l) (by rw [hH];exact trivial) (.inl rfl) (fun b' u hb hu=>(Heap.get?_update_other s.heap (Obj.mapSeq f) (Ne.symm hb)).trans hu) ⟨_,q⟩ ?_
 exact ⟨hz,its',_,hv,q⟩
theorem Inv.lnew {its:List Value} {t':Nat} (I:Inv X pins σ H s) (hv:Vals ys its) (hz:ys.length≤sizeLine) (ht:0<t':=by first|exact Nat.succ_pos _|exact Inv.tk (by assumption)|(dsimp only;exact Inv.tk (by assumption))) :
  Inv X pins σ (jC H s.heap.objs.size (.lst ys)) {s with heap:=s.heap.push {cls:=.type "list",data:=.seq its.toArray},toks:=t'} :=
 I.laid (ht:=ht) (fun _ _ q=>Heap.get?_push_of_some _ q) (Nat.le_refl _) ⟨hz,its,0,hv,Heap.get?_push_size _ rfl⟩
theorem Inv.fresh (I:Inv X pins σ H s):H s.heap.objs.size=none:=I.hok.fresh (Nat.le_refl _)
theorem Inv.lstM (I:Inv X pins σ H s) (hH:H l=some (.lst xs)):xs.length≤sizeLine∧∃(its:List Value) (n:Nat),Vals xs its∧xs.length=its.length∧s.heap.get? l=some {cls:=.type "list",data:=.seq its.toArray n}:=by
 obtain ⟨z,its,n,r,e⟩:=I.hok l _ hH
 exact ⟨z,its,n,r,r.length,e⟩
theorem xK {n:Nat} (h:n≤sizeLine):Builtin.List.listTooLong n=false:=by
 unfold Builtin.List.listTooLong
 exact decide_eq_false (by omega)
end
section
variable {X:Cx}
def AG:V→List V→Hp→VK→Prop:=fun x vs H Q=>∃l xs y,x=.ref l∧vs=[y]∧H l=some (.lst xs)∧xs.length<sizeLine∧Q .non (jC H l (.lst (xs++[y])))
theorem zG:bM X "list.append" AG:=by
 intro pins s σ H x vs v us Q I rx rv h
 obtain ⟨l,xs,y,rfl,rfl,hH,hz,q⟩:=h
 cases rx
 obtain ⟨u,rfl,ru⟩:=rv.one
 obtain ⟨z,its,n,r,hl,e⟩:=I.lstM hH
 refine call_meets F.slot_list_append ⟨_,e,rfl⟩ F.entry_list_append (F.args_list_append_2 _ _) (PySem.list_append l its.toArray n u (by rw [List.size_toArray];omega)) ⟨e,?_⟩
 refine ⟨.non,_,I.lset (its':=its++[u]) hH e (by simp) (r.append (.cons ru .nil)) ?_,rfl,q⟩
 rw [List.length_append,List.length_singleton]
 omega
def AF:V→List V→Hp→VK→Prop:=fun x vs H Q=>∃l b xs zs,x=.ref l∧vs=[.ref b]∧H l=some (.lst xs)∧H b=some (.lst zs)∧xs.length+zs.length≤sizeLine∧Q .non (jC H l (.lst (xs++zs)))
theorem wG:bM X "list.extend" AF:=by
 intro pins s σ H x vs v us Q I rx rv h
 obtain ⟨l,b,xs,zs,rfl,rfl,hH,hB,hz,q⟩:=h
 cases rx
 obtain ⟨u,rfl,ru⟩:=rv.one
 cases ru
 obtain ⟨z,its,n,r,hl,e⟩:=I.lstM hH
 obtain ⟨z2,its2,n2,r2,hl2,e2⟩:=I.lstM hB
 have hsz:its.toArray.size+its2.toArray.size≤sizeLine:=by rw [List.size_toArray,List.size_toArray];omega
 have hlong:¬(!its.toArray.isEmpty&&Builtin.List.listTooLong (its.toArray.size+its2.toArray.size))=true:=by
  rw [xK hsz,Bool.and_false]
  exact Bool.false_ne_true
 refine call_meets F.slot_list_extend ⟨_,e,rfl⟩ F.entry_list_extend (F.args_list_extend_2 _ _)
  (AutoSeq1.list_extend_list_list_0 l its.toArray n b its2.toArray n2 hlong (by rw [List.size_toArray];omega) (by omega)) ⟨e,e2,?_⟩
 refine ⟨.non,_,I.lset (its':=its++its2) hH e (by simp) (r.append r2) ?_,rfl,q⟩
 rw [List.length_append]
 omega
def BY:V→List V→Hp→VK→Prop:=fun x vs H Q=>∃l xs i k y,x=.ref l∧vs=[.int i]∧H l=some (.lst xs)∧-(2 ^ 63)≤i∧i<2 ^ 63∧seqIndex? i xs.length=some k∧xs[k]?=some y∧Q y (jC H l (.lst (xs.eraseIdx k)))
theorem cI:bM X "list.pop" BY:=by
 intro pins s σ H x vs v us Q I rx rv h
 obtain ⟨l,xs,i,k,y,rfl,rfl,hH,h1,h2,hk,hy,q⟩:=h
 cases rx
 obtain ⟨u,rfl,ru⟩:=rv.one
 obtain ⟨t,rfl⟩:=ru
 obtain ⟨z,its,n,r,hl,e⟩:=I.lstM hH
 obtain ⟨w,hw,rw'⟩:=r.get hy
 refine call_meets F.slot_list_pop ⟨_,e,rfl⟩ F.entry_list_pop (F.args_list_pop_2 _ _)
  (MeetsSeq.list_pop_at l its.toArray n i t k w (fitsIndex_both h1 h2) (by rw [List.size_toArray,← hl];exact hk) (by rw [← Array.getElem?_toList];exact hw) (by rw [List.size_toArray];omega)) ⟨e,?_⟩
 refine ⟨y,_,I.lset (its':=its.eraseIdx k) hH e ?_ (r.eraseIdx k) ?_,rw',q⟩
 ·show its.toArray.eraseIdxIfInBounds k=(its.eraseIdx k).toArray
  rw [List.eraseIdxIfInBounds_toArray]
 ·have:=i5 xs k
  omega
def xB:V→List V→Hp→VK→Prop:=fun x vs H Q=>∃l xs,x=.ref l∧vs=[]∧H l=some (.lst xs)∧Q .non (jC H l (.lst xs.reverse))
theorem t9:bM X "list.reverse" xB:=by
 intro pins s σ H x vs v us Q I rx rv h
 obtain ⟨l,xs,rfl,rfl,hH,q⟩:=h
 cases rx
 have hus:=rv.zero
 subst hus
 obtain ⟨z,its,n,r,hl,e⟩:=I.lstM hH
 refine call_meets F.slot_list_reverse ⟨_,e,rfl⟩ F.entry_list_reverse (F.args_list_reverse_1 _) (AutoSeq1.list_reverse_list_0 l its.toArray n (by rw [List.size_toArray];omega)) ⟨e,?_⟩
 refine ⟨.non,_,I.lset (its':=its.reverse) hH e (by simp) r.reverse ?_,rfl,q⟩
 rw [List.length_reverse]
 omega
def ER:R2:=fun x y H Q=>∃l b xs zs,x=.ref l∧y=.ref b∧H l=some (.lst xs)∧H b=some (.lst zs)∧xs.length+zs.length≤sizeLine∧∀p,H p=none→Q (.ref p) (jC H p (.lst (xs++zs)))
theorem ZI:OpR X (binaryOp .Add) ER:=by
 intro pins s σ H x y v u Q I rx ry h
 obtain ⟨l,b,xs,zs,rfl,rfl,hH,hB,hz,q⟩:=h
 cases rx
 cases ry
 obtain ⟨z,its,n,r,hl,e⟩:=I.lstM hH
 obtain ⟨z2,its2,n2,r2,hl2,e2⟩:=I.lstM hB
 refine PySem.P.add_list e e2 ?_ (by rw [List.size_toArray,List.size_toArray];omega)
 have ea:its.toArray++its2.toArray=(its++its2).toArray:=by simp
 rw [ea]
 exact ⟨.ref _,_,I.lnew (t':=s.toks) (r.append r2) (by rw [List.length_append];omega),rfl,q _ I.fresh⟩
theorem AU {α:Type} (xs:List α) (k:Nat):(List.replicate k xs).flatten.length=k*xs.length:=by
 induction k with
 |zero=>simp
 |succ k ih=>rw [List.replicate_succ,List.flatten_cons,List.length_append,ih,Nat.succ_mul,Nat.add_comm]
end
section
variable {prog:Program} {w:World} {A:Around} {E:Value→Shared→Prop} {s:Shared}
end
section
variable {X:Cx}
end
end L2
namespace Att
open PySem PySem.W PySem.Calls PyProof.Rows
theorem sU {P:Params} {h:Heap}:∀(ns:List Int) (vs:List Value),WellAll P h vs (ns.map WData.int)→IntsAre vs ns:=by
 intro ns
 induction ns with
 |nil =>
  intro vs w
  rw [List.map_nil] at w
  cases w
  exact .nil
 |cons n ns ih =>
  intro vs w
  rw [List.map_cons] at w
  cases w with
  |cons a b =>
   cases a
   exact .cons _ _ (ih _ b)
theorem uY {l:OpenLaw} {n:Nat} (hn:l.most=some n) {P:Params} {h:Heap} {args:List WData} {vals:List Value}
  (hpre:l.row.toRowW.claim.pre args=true) (hwl:WellAll P h vals args) :
  ∃a vs ns,vals=[Value.ref a]∧args=[WData.list (ns.map WData.int)]∧h.get? a=some {cls:=.type "list",data:=.seq vs.toArray}∧IntsAre vs ns∧ns.length≤n:=by
 have hsh:WShape.hasAll [] args [.list .int]=true:=(pre_splitW hpre).1
 have hc:l.pre.holds [] {args:=args}=true:=(pre_splitW hpre).2
 obtain ⟨d,r,rfl,h1,h2⟩:=hasAllW_cons hsh
 obtain rfl:=hasAllW_nil h2
 obtain ⟨xs,rfl,h3⟩:=hasW_list h1
 obtain ⟨ns,rfl⟩:=items_int h3
 have hlen:ns.length≤n:=by
  unfold OpenLaw.pre at hc
  have h4:(WTm.not (.lt (.lit (.int (n:Int))) (.len (.arg 0)))).holds [] {args:=[.list (ns.map .int)]}=true:=by
   have h4:=(holds_andW hc).1
   rw [hn] at h4
   exact h4
  have h5:=condW_of h4 (w_not (w_lt w_lit (w_len_list (w_arg rfl))))
  rw [List.length_map] at h5
  refine Nat.le_of_not_lt fun q=>?_
  have q':(n:Int)<((ns.length:Nat):Int):=by omega
  first
   | (rw [decide_eq_true q'] at h5;exact absurd h5 (by decide))
   | (simp at h5;omega)
 cases hwl with
 |cons w1 w2 =>
  cases w2
  cases w1 with
  |list ho hall=>exact ⟨_,_,ns,rfl,rfl,ho,sU ns _ hall,hlen⟩
theorem u9 (l:OpenLaw) (args:List WData):l.row.toRowW.claim.post args (.bool true) args=true :=
 postW_of (r:=l.row.toRowW) (X:=(true == true))
  (show WShape.has [] (.bool true) .bool=true by first|rfl|decide|simp [WShape.has,WShape.arms,WShape.armsAll])
  (show (WTm.eq .res (.lit (.bool true))).value [] {args:=args,res:=some (.bool true),after:=args}=some (.bool (true == true)) from w_eq_bool (w_res rfl) w_lit) rfl
theorem attach_call {l:OpenLaw} {n:Nat} {q:Program} {loose:List Str} {XP:(Str→Option Value)→Heap→Prop} {YP:World→Heap→Prop} {d:DefRec}
  (hn:l.most=some n) (hdf:d.params.defaults=[])
  (call:∀(w:World) (s₀ s₁:Shared) (mg mb:Str→Option Value) (fa:Addr) (o:Obj) (pm cd doc:Value) (a:Addr) (vs:List Value) (ns:List Int),
   Ground q loose [] XP w s₀ mg mb s₁.heap→YP w s₁.heap→
   s₁.heap.get? fa=some o→o.data=.func (docDef d.name d.params d.body d.scope pm cd doc)→s₁.heap.CodeRec cd d.name→mg d.name=some (.ref fa)→
   s₁.heap.get? a=some {cls:=.type "list",data:=.seq vs.toArray}→IntsAre vs ns→ns.length≤n→s₁.gens = #[]→
   codeAny (model l.prog w) callerA (.call (.ref fa) ⟨[.ref a],[]⟩) (fun r s'=>r=.ok (.ret (.bool true))∧OldK s₁.heap s'.heap∧s'.os=s₁.os∧AllBare s'.gens) s₁) :
  WalkO q loose XP YP l.row.toRowW d [] (fun f vs=>PySem.call f vs):=by
 intro w s₀ s₁ mg mb G Y fa o pm cd doc dV kV ho hd hcd hD hmg hg args vals as hpre hlay hrd hwl hlo
 obtain rfl:dV=.none:=Dflts.none hD hdf
 obtain rfl:kV=.none:=Dflts.noKw hD
 obtain ⟨a,vs,ns,rfl,rfl,hobj,hints,hlen⟩:=uY hn hpre hwl
 refine enter_call (codeAny_mono (call w s₀ s₁ mg mb fa o pm cd doc a vs ns G Y ho (fd_plain hd) hcd hmg hobj hints hlen hg) fun r s' hq=>?_)
 obtain ⟨rfl,h2,h3,h4⟩:=hq
 exact ⟨.inl ⟨.bool true,.bool true,[],rfl,fun _=>rfl,.bool true,u9 l _,fun _=>⟨List.Pairwise.nil,fun _ hm=>(nomatch hm)⟩⟩,h2,h3,h4⟩
section
variable {prog:Program} {w:World} {A:Around} {E:Value→Shared→Prop} {s:Shared} {K:Frag}
def FC (h:Heap) (L d:Addr):List (Addr×Obj):=(List.range h.objs.size).filterMap fun a=>if a=L∨a=d then none else (h.get? a).map fun o=>(a,o)
end
end Att
namespace L2
open PySem PySem.Spec PyProof.Rows
def v8:V→Int→Prop
 |.int i,n=>i=n
 |.raw i,n=>i=n
 |_,_=>False
theorem iL:∀{vs:List Value} {ns:List Int},IntsAre vs ns→∃xs,Vals xs vs∧Paired v8 xs ns
 |_,_,.nil=>⟨[],.nil,.nil⟩
 |_,_,.cons n t h=>by
  obtain ⟨xs,h1,h2⟩:=iL h
  cases t with
  |zero=>exact ⟨.raw n::xs,.cons rfl h1,.cons rfl h2⟩
  |succ t=>exact ⟨.int n::xs,.cons ⟨⟨t+1,Nat.succ_pos _⟩,rfl⟩ h1,.cons rfl h2⟩
end L2
namespace L2
open PySem PySem.Spec PyProof.Rows
end L2
namespace L2
open PySem PySem.Spec PyProof.Rows
def jT (s:Stmt):Arguments:=match s with
 |.FunctionDef _ a _ _ _ _ _ _ _ _=>a
 |_=>{posonlyargs:=[],args:=[],vararg:=none,kwonlyargs:=[],kw_defaults:=[],kwarg:=none,defaults:=[]}
def jR (s:Stmt):List Stmt:=match s with
 |.FunctionDef _ _ b _ _ _ _ _ _ _=>b
 |_=>[]
def jF (s:Stmt):Scope:=match s with
 |.FunctionDef _ _ _ _ _ _ sc _ _ _=>sc
 |_=>{kind:=.function,names:=[],isGenerator:=false,isCoroutine:=false}
abbrev kC:qV:=fun _ _ _ _ _ _=>False
abbrev E0:XK:=fun _ _ _=>False
theorem bE {X:Cx}:dJ kC X E0:=fun _ _ _ _ _ _ _ h=>h.elim
structure Fun (K:PySem.W.Frag) (x qual:Str) (st:Stmt) (f:Addr) (fd:FuncData):Prop where
 ex:∃(oc:Value) (od:Option Addr) (kV doc pm:Value) (an:Option Addr) (cdv ct:Value) (osl:Array (Option Value)),
  fd=PySem.W.fnOf x qual (jT st) (jR st) (jF st) .none kV doc pm an cdv ct∧K.lookup f=some ⟨oc,od,.func fd,osl⟩∧PySem.W.codeIn K cdv qual=true
 kp:PySem.W.keepIn K (.ref f)=true
section
variable {P:Program} {w:World} {K:PySem.W.Frag} {mg:Str→Option Value} {base:Heap}
theorem Fun.ok {x qual:Str} {st:Stmt} {f:Addr} {fd:FuncData} {N ps:List Str} {k:Nat} {sp:Sp} (F:Fun K x qual st f fd) (S:FnScope N ps (jF st)) (len:∀vs H Q E,sp vs H Q E→vs.length=ps.length)
  (hbody:∀(cdv:Value) (A:Around) (outer:List Env) (s:Shared) (H:Hp) (vs:List V) (Q:VK) (E:XK),Room k (A.deeper (envOfC qual (jF st) s.heap.objs.size f cdv))→sp vs H Q E→
   ∃t,PSs (zC kC P w K mg base N qual (jF st) f cdv A outer s H E).nox (jR st) t∧t {nx:=fun _ H'=>Q .non H',rt:=Q} (qU N vs) H):FnOk P w K mg base kC (k+1) f fd ps sp:=by
 obtain ⟨oc,od,kV,doc,pm,an,cdv,ct,osl,rfl,lk,hcd⟩:=F.ex
 refine DR lk hcd S len fun A outer s H vs Q E hr hsp=>?_
 obtain ⟨t,h,q⟩:=hbody cdv A outer s H vs Q E hr hsp
 exact ⟨t,h.nox,q⟩
theorem Fun.binds {x qual:Str} {st:Stmt} {f:Addr} {fd:FuncData} {ps:List Str} (F:Fun K x qual st f fd)
  (h:∀(kV doc pm:Value) (an:Option Addr) (cdv ct:Value) (us:List Value),us.length=ps.length→bindArgs (PySem.W.fnOf x qual (jT st) (jR st) (jF st) .none kV doc pm an cdv ct) ⟨us,[]⟩=pure (ps.zip us)):Binds K fd ps []:=by
 obtain ⟨oc,od,kV,doc,pm,an,cdv,ct,osl,rfl,lk,hcd⟩:=F.ex
 exact .all (h kV doc pm an cdv ct)
theorem qD {x qual:Str} {st:Stmt} {f:Addr} {oc:Value} {od an:Option Addr} {osl:Array (Option Value)} {kV doc pm cdv ct:Value} (l:K.lookup f=some ⟨oc,od,.func (PySem.W.fnOf x qual (jT st) (jR st) (jF st) .none kV doc pm an cdv ct),osl⟩)
  (c:PySem.W.codeIn K cdv qual=true) (k:PySem.W.keepIn K (.ref f)=true):Fun K x qual st f (PySem.W.fnOf x qual (jT st) (jR st) (jF st) .none kV doc pm an cdv ct):=⟨⟨oc,od,kV,doc,pm,an,cdv,ct,osl,rfl,l,c⟩,k⟩
end
theorem qB {A:Around} {k:Nat} (hr:Room k A):A.units+1<cLine:=Nat.lt_of_le_of_lt (Nat.add_le_add_left (by decide:1≤64) _) hr.units
theorem vG {n:Nat} (h:n≤1000):n<sizeLine:=Nat.lt_of_le_of_lt h (by decide)
section
variable {X:Cx}
theorem pv (i:Nat) {x:Str} {pos:Pos} (hN:X.N[i]?=some x:=by rfl) (hv:zE X.env.scope x:=by first|exact Or.inl rfl|exact Or.inr (Or.inl rfl)|exact Or.inr (Or.inr rfl)) (hd:(x == ("__debug__":Str))=false:=by decide)
  (hcd:(x == ("__classdict__":Str))=false:=by decide):PE X (.Name x pos) (pP i):=oY hN hv hd hcd
end
theorem kE {A B:Prop} (h:B):if false=true then A else B:=by
 rw [if_neg Bool.false_ne_true]
 exact h
theorem j9 {A B:Prop} (h:A):if true=true then A else B:=by
 rw [if_pos rfl]
 exact h
theorem kI {c A B:Prop} [Decidable c] (h1:c→A) (h2:¬c→B):if c then A else B:=by
 by_cases h:c
 ·rw [if_pos h]
  exact h1 h
 ·rw [if_neg h]
  exact h2 h
theorem pH {c A B:Prop} [Decidable c] (hc:c) (h:B):if (!decide c)=true then A else B:=by
 rw [decide_eq_true hc]
 exact kE h
def Same (H H':Hp):Prop:=∀b o,H b=some o→H' b=some o
theorem Same.refl (H:Hp):Same H H:=fun _ _ h=>h
theorem Same.trans {H H1 H2:Hp} (a:Same H H1) (b:Same H1 H2):Same H H2:=fun c o h=>b c o (a c o h)
theorem Same.free {H H':Hp} (e:Same H H') {l:Addr} (h:H' l=Option.none):H l=Option.none:=by
 cases q:H l with
 |none=>rfl
 |some o =>
  rw [e l o q] at h
  cases h
theorem Same.seq {K:PySem.W.Frag} {H H':Hp} {a:Addr} {xs:List V} (e:Same H H') (h:SqL K H a xs):SqL K H' a xs:=by
 rcases h with (h|⟨o,h⟩)|h
 ·exact .inl (.inl (e _ _ h))
 ·exact .inl (.inr ⟨o,e _ _ h⟩)
 ·exact .inr h
end L2
namespace L2
open PySem PySem.Spec PyProof.Rows
def vP (cells:List (Str×Addr)):List (Str×NameKind)→List (Str×Addr)→List (Str×Addr)
 |[],cs=>cs
 | (n,k)::r,cs=>if (k == NameKind.free)=true then vP cells r ((n,(cells.lookup n).getD 0)::cs) else vP cells r cs
theorem g7 {scope:Scope} {env:Env} (h:∀x∈scope.names,x.2=.free→∃c,env.cells.lookup x.1=some c):closureFor scope env=pure (vP env.cells scope.names []):=by
 simp only [closureFor]
 have go:∀(l:List (Str×NameKind)) (cs:List (Str×Addr)),(∀x∈l,x.2=.free→∃c,env.cells.lookup x.1=some c)→
   (forIn l cs fun x r=>match x with|(name,kind)=>if (kind == NameKind.free)=true then do let a ← cellOf env name;pure (ForInStep.yield ((name,a)::r)) else pure (ForInStep.yield r):Sem (List (Str×Addr)))=pure (vP env.cells l cs):=by
  intro l
  induction l with
  |nil=>intro cs _;rfl
  |cons p r ih =>
   intro cs hp
   obtain ⟨n,k⟩:=p
   rw [List.forIn_cons]
   have hr:=fun cs=>ih cs fun x hx=>hp x (List.mem_cons_of_mem _ hx)
   by_cases hk:(k == NameKind.free)=true
   ·have hk':k=NameKind.free:=by simpa using hk
    obtain ⟨c,hc⟩:=hp (n,k) List.mem_cons_self hk'
    have hc':env.cells.lookup n=some c:=hc
    simp only [hk,if_true,vP,cellOf,hc',Option.getD_some,pure_bind]
    exact hr _
   ·simp only [hk,if_false,vP,pure_bind]
    exact hr _
 rw [go scope.names [] h]
 rfl
theorem bU {cells:List (Str×Addr)}:∀{l:List (Str×NameKind)} {cs:List (Str×Addr)} {x:Str} {c:Addr},(∀y∈l,y.2=.free→∃c,cells.lookup y.1=some c)→(∀y d,cs.lookup y=some d→cells.lookup y=some d)→
  (vP cells l cs).lookup x=some c→cells.lookup x=some c
 |[],cs,x,c,_,hc,e=>hc x c e
 | (n,k)::r,cs,x,c,hl,hc,e=>by
  unfold vP at e
  by_cases hk:(k == NameKind.free)=true
  ·rw [if_pos hk] at e
   obtain ⟨d,hd⟩:=hl (n,k) List.mem_cons_self (by simpa using hk)
   have hd':cells.lookup n=some d:=hd
   refine bU (fun y hy=>hl y (List.mem_cons_of_mem _ hy)) (fun y d' q=>?_) e
   rw [List.lookup_cons] at q
   by_cases hy:(y == n)=true
   ·rw [hy] at q
    have hyn:y=n:=by simpa using hy
    subst hyn
    rw [hd'] at q ⊢
    exact q
   ·rw [Bool.not_eq_true] at hy
    rw [hy] at q
    exact hc y d' q
  ·rw [if_neg hk] at e
   exact bU (fun y hy=>hl y (List.mem_cons_of_mem _ hy)) hc e
theorem eM {cells:List (Str×Addr)}:∀{l:List (Str×NameKind)} {cs:List (Str×Addr)} {x:Str},(∃c,cs.lookup x=some c)→∃c,(vP cells l cs).lookup x=some c
 |[],_,_,h=>h
 | (n,k)::r,cs,x,h=>by
  unfold vP
  by_cases hk:(k == NameKind.free)=true
  ·rw [if_pos hk]
   refine eM ?_
   rw [List.lookup_cons]
   by_cases hy:(x == n)=true
   ·rw [hy];exact ⟨_,rfl⟩
   ·rw [Bool.not_eq_true] at hy
    rw [hy];exact h
  ·rw [if_neg hk];exact eM h
theorem bX {cells:List (Str×Addr)}:∀{l:List (Str×NameKind)} {cs:List (Str×Addr)} {x:Str},(x,NameKind.free)∈l→∃c,(vP cells l cs).lookup x=some c
 | (n,k)::r,cs,x,h=>by
  unfold vP
  rcases List.mem_cons.mp h with e|e
  ·cases e
   rw [if_pos (by rfl)]
   exact eM (by rw [List.lookup_cons,beq_self_eq_true];exact ⟨_,rfl⟩)
  ·by_cases hk:(k == NameKind.free)=true
   ·rw [if_pos hk];exact bX e
   ·rw [if_neg hk];exact bX e
theorem wT {prog:Program} {w:World} {A:Around} {elt target iter:Expr} {ifs:List Expr} {scope:Scope} {pos:Pos} {it acc:Value} {env:Env} {R:Result→Shared→Prop} {s:Shared} (I:Nat→Shared→Prop)
  (turn:∀n s,I n s→wpAny (model prog w) A (pyNext it) (fun r s₁=>match r with
   |none=>R (.ok .next) s₁
   |some v=>wpAny (model prog w) A (letOwnedTupleGo target it v) (fun _ s₁'=>wpAny (model prog w) A (assign target env v) (fun _ s₂ =>
     wpAny (model prog w) A (forIn ifs true fun c r=>if r=true then do let ok ← isTrue c env (eval c env);pure (ForInStep.yield ok) else pure (ForInStep.yield r)) (fun ok s₃ =>
      if ok=true then wpAny (model prog w) A (eval elt env) (fun x s₄ =>
       wpAny (model prog w) A (call (.builtin "list.append") [acc,x]) (fun _ s₅=>∃m,m<n∧I m s₅) (fun _ _=>False) s₄) (fun _ _=>False) s₃
      else ∃m,m<n∧I m s₃) (fun _ _=>False) s₂) (fun _ _=>False) s₁') (fun _ _=>False) s₁) (fun _ _=>False) s)
  (n:Nat) (h:I n s):codeAny (model prog w) A (.compLoop (.ListComp elt [⟨target,iter,ifs,0⟩] scope pos) 0 it acc env) R s:=by
 refine codeAny_loop rfl I (fun n s hI=>?_) n h
 show wpAny _ A ((compTurn (.ListComp elt [⟨target,iter,ifs,0⟩] scope pos) 0 it acc env).onRaise (fun x=>do noteFrame x env;theTreesLotGoes x)) _ _ s
 refine wpAny_noted ?_
 rw [compTurn_list]
 refine wpAny_bind (wpAny_standAt (wpAny_bind (wpAny_mono (turn n s hI) (fun r s₁ h₁=>?_) fun _ _ h'=>h'.elim)))
 cases r with
 |none=>exact wpAny_pure h₁
 |some v =>
  refine wpAny_bind (wpAny_mono h₁ (fun _ s₁' h₁'=>?_) fun _ _ h'=>h'.elim)
  refine wpAny_bind (wpAny_mono h₁' (fun _ s₂ h₂=>wpAny_bind (wpAny_mono h₂ (fun ok s₃ h₃=>?_) fun _ _ h'=>h'.elim)) fun _ _ h'=>h'.elim)
  cases ok with
  |false=>exact wpAny_pure ⟨rfl,h₃⟩
  |true =>
   exact wpAny_bind (wpAny_bind (wpAny_mono h₃ (fun x s₄ h₄=>wpAny_bind (wpAny_mono h₄ (fun _ s₅ h₅=>wpAny_pure (wpAny_pure ⟨rfl,h₅⟩)) fun _ _ h'=>h'.elim)) fun _ _ h'=>h'.elim))
def q0 (X:Cx) (N:List Str) (scope:Scope) (C:Addr) (s:Shared) (H:Hp) (pins:List (Addr×Obj)) (fp:List Addr):Cx where
 prog:=X.prog
 w:=X.w
 K:=X.K
 mg:=X.mg
 base:=X.base
 A:=X.A
 N:=N
 s₀:=s
 H₀:=H
 env:=compEnvC scope (vP X.env.cells scope.names []) C X.env
 outer:=X.stack
 stack:=X.stack
 ex:=fp
 fn:=fun _=>false
 calm:=X.calm
 pn:=X.pn++pins
 xe:=fun _ _=>False
structure CompScope (X:Cx) (scope:Scope):Prop where
 kind:scope.kind=.function
 nocell:∀y∈scope.names,y.2≠.cell
 names:∀y∈scope.names,y.2=.local→scope.names.lookup y.1=some .local
 free:∀y∈scope.names,y.2=.free→X.env.kindOf y.1=some .cell∨X.env.kindOf y.1=some .free
theorem eA {env:Env} {x:Str}:∀{names:List (Str×NameKind)} {k:NameKind},(names.map fun (n,k)=>if (k == NameKind.free&&env.scope.kind == .function&&env.kindOf n == some .cell) then (n,NameKind.cell) else (n,k)).lookup x=some k→
  ∃k',names.lookup x=some k'∧(k'=k∨(k'=.free∧k=.cell∧env.kindOf x=some .cell))
 |[],k,h=>by simp at h
 | (n,k0)::r,k,h=>by
  have ih:=@eA env x r k
  have h':List.lookup x ((if (k0 == NameKind.free&&env.scope.kind == .function&&env.kindOf n == some .cell)=true then (n,NameKind.cell) else (n,k0))::r.map fun (n,k)=>if (k == NameKind.free&&env.scope.kind == .function&&env.kindOf n == some .cell)=true then (n,NameKind.cell) else (n,k))=some k:=h
  by_cases hc:(k0 == NameKind.free&&env.scope.kind == .function&&env.kindOf n == some .cell)=true
  ·rw [if_pos hc] at h'
   rw [List.lookup_cons] at h'
   cases hx:x == n with
   |true =>
    rw [hx] at h'
    have hk:NameKind.cell=k:=Option.some.inj h'
    simp only [Bool.and_eq_true,beq_iff_eq] at hc
    have hxn:x=n:=by simpa using hx
    refine ⟨k0,by rw [List.lookup_cons,hx],.inr ⟨hc.1.1,hk.symm,by rw [hxn];exact hc.2⟩⟩
   |false =>
    rw [hx] at h'
    obtain ⟨k',e1,e2⟩:=ih h'
    exact ⟨k',by rw [List.lookup_cons,hx];exact e1,e2⟩
  ·rw [if_neg hc] at h'
   rw [List.lookup_cons] at h'
   cases hx:x == n with
   |true =>
    rw [hx] at h'
    exact ⟨k0,by rw [List.lookup_cons,hx],.inl (Option.some.inj h')⟩
   |false =>
    rw [hx] at h'
    obtain ⟨k',e1,e2⟩:=ih h'
    exact ⟨k',by rw [List.lookup_cons,hx];exact e1,e2⟩
theorem eL {α:Type}:∀{l:List (Str×α)} {x:Str} {k:α},l.lookup x=some k→(x,k)∈l
 |[],_,_,h=>by simp at h
 | (n,a)::r,x,k,h=>by
  rw [List.lookup_cons] at h
  cases hx:x == n with
  |true =>
   rw [hx] at h
   have e:a=k:=Option.some.inj h
   have hxn:x=n:=by simpa using hx
   subst e;subst hxn
   exact List.mem_cons_self
  |false =>
   rw [hx] at h
   exact List.mem_cons_of_mem _ (eL h)
def bJ (X:Cx) (ifs:List Expr) (t:TT):Prop :=
 ∀(pins:List (Addr×Obj)) (s:Shared) (σ:St) (H:Hp) (Q:Bool→Hp→Prop),Inv X pins σ H s→t σ H Q→
  wpAny (model X.prog X.w) X.A (forIn ifs true fun c r=>if r=true then do let ok ← isTrue c X.env (eval c X.env);pure (ForInStep.yield ok) else pure (ForInStep.yield r)) (TP X pins σ Q) X.xe s
def pO:TT:=fun _ H Q=>Q true H
theorem JU {X:Cx}:bJ X [] pO:=fun _ _ _ H _ I h=>wpAny_tests_nil ⟨H,I,h⟩
theorem zU {X:Cx} {c:Expr} {t:TT} (hc:PT X c t):bJ X [c] t:=fun pins s σ H Q I h=>wpAny_tests_one (hc pins s σ H Q I h)
def QB (D:Addr) (J:It) (g:TG) (tc:TT) (te:TE) (σ₀:St) (H:Hp) (Q:Hp→Prop):Prop :=
 ∃W:Nat→Nat→St→Hp→Prop,(∃m,W 0 m σ₀ (jC H D (.lst [])))∧∀i m σ' H',W i m σ' H'→
  (J.stop i H'∧Q H')∨(J.go i H'∧∃N:St→Hp→Prop,(∀σ'' H'',N σ'' H''→∃m',m'<m∧W (i+1) m' σ'' H'')∧∀x H2,J.yld i H' x H2→g x σ' H2 fun σ2 H3=>tc σ2 H3 fun b H4 =>
   if b=true then te σ2 H4 fun v H5=>∃xs,H5 D=some (.lst xs)∧xs.length<sizeLine∧N σ2 (jC H5 D (.lst (xs++[v]))) else N σ2 H4)
def DA (wi:TI) (cap:St→St) (g:TG) (tc:TT) (te:TE):TE:=fun σ H Q=>wi σ H fun J H1=>∀D,H1 D=none→QB D J g tc te (cap σ) H1 fun H'=>Q (.ref D) H'
def w4 (i:Nat) (wi:TI) (cap:St→St) (g:TG) (tc:TT) (te:TE):TS:=fun D σ H=>wi σ H fun J H1=>∀d,H1 d=none→QB d J g tc te (cap σ) H1 fun H'=>D.nx (σ.set i (some (.ref d))) H'
def bI (X:Cx) (N:List Str) (scope:Scope) (cap:St→St):Prop :=
 ∀σ:St,σ.length=X.N.length→(cap σ).length=N.length∧∀(i:Nat) (x:Str) (v:V),N[i]?=some x→(cap σ)[i]?=some (some v)→scope.names.lookup x=some .free∧∃j:Nat,X.N[j]?=some x∧σ[j]?=some (some v)
def vA (n:Nat) (js:List Nat):St→St:=fun σ=>List.replicate n none++js.map fun j=>(σ[j]?).join
theorem vO {X:Cx} {N:List Str} {scope:Scope} (n:Nat) (js:List Nat) (h1:N.length=n+js.length) (h2:js.map (fun j=>X.N[j]?)=(N.drop n).map some) (h3:∀x∈N.drop n,scope.names.lookup x=some .free):bI X N scope (vA n js):=by
 intro σ hσ
 refine ⟨by unfold vA;rw [List.length_append,List.length_replicate,List.length_map,h1],fun i x v e1 e2=>?_⟩
 unfold vA at e2
 by_cases hi:i<n
 ·rw [List.getElem?_append_left (by simpa using hi),List.getElem?_replicate,if_pos hi] at e2
  cases e2
 ·rw [List.getElem?_append_right (by simpa using hi),List.length_replicate,List.getElem?_map] at e2
  cases hj:js[i - n]? with
  |none=>rw [hj] at e2;cases e2
  |some j =>
   rw [hj] at e2
   have e3:(σ[j]?).join=some v:=Option.some.inj e2
   have e4:σ[j]?=some (some v):=by
    cases q:σ[j]? with
    |none=>rw [q] at e3;cases e3
    |some o =>
     rw [q] at e3
     have e5:o=some v:=e3
     rw [e5]
   have hd:(N.drop n)[i - n]?=some x:=by
    rw [List.getElem?_drop,show n+(i - n)=i by omega]
    exact e1
   have e5:=congrArg (fun l=>l[i - n]?) h2
   simp only [List.getElem?_map,hj,hd,Option.map_some] at e5
   exact ⟨h3 x (List.mem_of_getElem? hd),j,Option.some.inj e5,e4⟩
theorem vN {X:Cx} {scope:Scope} (sc:Scope) (hsc:X.env.scope=sc) (kind:scope.kind=.function) (nocell:∀y∈scope.names,y.2≠.cell) (names:∀y∈scope.names,y.2=.local→scope.names.lookup y.1=some .local)
  (free:∀y∈scope.names,y.2=.free→sc.names.lookup y.1=some .cell∨sc.names.lookup y.1=some .free):CompScope X scope:=⟨kind,nocell,names,fun y hy hf=>by
 subst hsc
 exact free y hy hf⟩
section
variable {X:Cx} {N:List Str} {scope:Scope} {pins:List (Addr×Obj)} {σ:St} {H:Hp} {s:Shared} {fp:List Addr}
theorem bW (S:CompScope X scope) (I:Inv X pins σ H s):∀y∈scope.names,y.2=.free→∃c,X.env.cells.lookup y.1=some c:=fun y hy hf=>I.ok.has y.1 (S.free y hy hf)
theorem xT {cap:St→St} {D C:Addr} {h₁:Heap} {t':Nat} {m:Str→Option Value} (S:CompScope X scope) (I:Inv X pins σ H s) (hcap:bI X N scope cap) (hf:∀b∈fp,zN X pins H b) (hfo:∀b∈fp,∃o,s.heap.get? b=some o)
  (hD:s.heap.objs.size≤D) (hC:s.heap.objs.size≤C) (hDC:D≠C) (old:∀b o,s.heap.get? b=some o→h₁.get? b=some o) (hns:h₁.Ns C m) (hl:h₁.get? D=some {cls:=.type "list",data:=.seq ([]:List Value).toArray})
  (ht:0<t':=by first|exact Nat.succ_pos _|exact Inv.tk (by assumption)|(dsimp only;exact Inv.tk (by assumption))):Inv (q0 X N scope C s H pins fp) [] (cap σ) (jC H D (.lst [])) {s with heap:=h₁,toks:=t'}:=by
 have cellsOk:=bW S I
 have look:∀x c,(vP X.env.cells scope.names []).lookup x=some c→X.env.cells.lookup x=some c:=fun x c e=>bU cellsOk (fun y d q=>by simp at q) e
 have lt:∀{b:Addr} {o:Obj},s.heap.get? b=some o→b<s.heap.objs.size:=fun e=>Heap.lt_size e
 have cellLt:∀x c,X.env.cells.lookup x=some c→c<s.heap.objs.size:=fun x c e=>by
  obtain ⟨v,o,ho,_⟩:=I.cell x c e
  exact lt ho
 have nD:H D=none:=I.hok.fresh hD
 have nC:H C=none:=I.hok.fresh hC
 have stkNe:∀b:Addr,b≠X.env.locals→b∉X.fs→b∉yF X.stack:=fun b h1 h2 z=>by
  rcases List.mem_cons.mp (I.stkSub b z) with e|e
  ·exact h1 e
  ·exact h2 e
 refine ⟨⟨I.ok.mod,S.kind,I.ok.glob,I.ok.blt,hC,fun x y c h1 h2=>I.ok.inj x y c (look x c h1) (look y c h2),fun x hx=>?_,fun x c hfn _=>(nomatch hfn),I.ok.hd,I.ok.frames,.inl rfl,fun b hb=>⟨?_,fun x c e=>(hf b hb).2.2.2.2.1 x c (look x c e)⟩,
   I.bs,Nat.le_trans I.ok.bsz I.sz,fun b o e hb=>?_,fun b hb=>stkNe b (hf b hb).2.1 (hf b hb).2.2.1,I.stack,I.stkFree⟩,
  rfl,⟨I.bare.b,ht⟩,Un.laid old hD nD,⟨m,hns,fun i x v h1 h2 h3=>?_⟩,fun x c e=>?_,?_,fun x c e=>?_,fun p hp=>?_,?_,(hcap σ I.len).1⟩
 ·-- has
  have hx':∃k,(relabel scope X.env).names.lookup x=some k∧(k=.cell∨k=.free):=by
   rcases hx with e|e
   ·exact ⟨_,e,.inl rfl⟩
   ·exact ⟨_,e,.inr rfl⟩
  obtain ⟨k,e,hk⟩:=hx'
  obtain ⟨k',e1,e2⟩:=eA e
  have hm:=eL e1
  have hfree:k'=.free:=by
   rcases e2 with e2|e2
   ·subst e2
    rcases hk with hk|hk
    ·subst hk
     exact absurd rfl (S.nocell _ hm)
    ·exact hk
   ·exact e2.1
  subst hfree
  exact bX hm
 ·obtain ⟨o,ho⟩:=hfo b hb
  exact Nat.ne_of_lt (Nat.lt_of_lt_of_le (lt ho) hC)
 ·rcases (hf b hb).2.2.2.1 with z|z
  ·exact I.ok.noex b o e z
  ·exact absurd (Nat.lt_of_lt_of_le (Heap.lt_size e) (Nat.le_trans I.ok.bsz z)) (Nat.lt_irrefl _)
 ·-- names
  obtain ⟨hfr,j,hj,hv⟩:=(hcap σ I.len).2 i x v h1 h2
  have hm:=eL hfr
  have hk:=S.free _ hm rfl
  obtain ⟨m0,_,hl0⟩:=I.loc
  have jO:zE X.env.scope x:=by
   rcases hk with k|k
   ·exact .inr (.inl k)
   ·exact .inr (.inr k)
  obtain ⟨u,r,l⟩:=hl0 j x v hj hv jO
  refine ⟨u,r,.inr ⟨?_,?_⟩⟩
  ·have hvis:∃k,(relabel scope X.env).names.lookup x=some k:=by
    rcases h3 with e|e|e<;>exact ⟨_,e⟩
   obtain ⟨k,e⟩:=hvis
   obtain ⟨k',e1,e2⟩:=eA e
   rw [hfr] at e1
   cases e1
   rcases e2 with e2|e2
   ·subst e2;exact .inr e
   ·rw [e2.2.1] at e;exact .inl e
  ·rcases l with ⟨k,_⟩|⟨_,c,hc,hcell⟩
   ·exfalso
    rcases hk with q|q
    ·have q':X.env.kindOf x=some .cell:=q
     rw [k] at q';cases q'
    ·have q':X.env.kindOf x=some .free:=q
     rw [k] at q';cases q'
   ·obtain ⟨c',e'⟩:=bX (cells:=X.env.cells) (cs:=[]) hm
    have e2:=look x c' e'
    have e2':X.env.cells.lookup x=some c':=e2
    rw [hc] at e2'
    cases e2'
    obtain ⟨o,ho,hd⟩:=hcell
    exact ⟨c,e',o,old _ _ ho,hd⟩
 ·obtain ⟨v,o,ho,hd⟩:=I.cell x c (look x c e)
  exact ⟨v,o,old _ _ ho,hd⟩
 ·show jC H D (.lst []) C=none
  rw [jH (Ne.symm hDC)]
  exact nC
 ·have hc:=look x c e
  rw [jH (Nat.ne_of_lt (Nat.lt_of_lt_of_le (cellLt x c hc) hD))]
  exact I.freeC x c hc
 ·have hp':p∈X.pn++pins:=by
   rcases List.mem_append.mp hp with z|z
   ·exact z
   ·cases z
  obtain ⟨e,n,ne,nf,d⟩:=I.pin p hp'
  refine ⟨old _ _ e,?_,Nat.ne_of_lt (Nat.lt_of_lt_of_le (lt e) hC),stkNe p.1 ne nf,d⟩
  rw [jH (Nat.ne_of_lt (Nat.lt_of_lt_of_le (lt e) hD))]
  exact n
 ·refine I.hok.laid old hD ?_
  exact ⟨Nat.zero_le _,[],0,.nil,hl⟩
theorem lH {σ':St} {H':Hp} {s':Shared} {C:Addr} {σc:St} {Nc:List Str} (I:Inv X pins σ H s) (hf:∀b∈fp,zN X pins H b) (J:Inv (q0 X Nc scope C s H pins fp) [] σc H' s'):Inv X pins σ H' s':=by
 refine I.call' (ch:=fp) J.os J.base J.hok J.bare fun b hb=>?_
 obtain ⟨_,h2,_,h4,h5,h6⟩:=hf b hb
 exact ⟨h4,h2,h5,h6⟩
theorem mS {σ':St} {H':Hp} {s':Shared} {C:Addr} {h':Heap} (I:Inv X pins σ H s) (hC:s.heap.objs.size≤C) (J:Inv X pins σ' H' s') (hn:H' C=none) (sb:Heap.SameBut C s'.heap h'):Inv X pins σ' H' {s' with heap:=h'}:=by
 refine J.turned (t':=s'.toks) (it:=C) (fun b o hb e=>(sb.2 b hb).trans e) hn (Nat.ne_of_gt (Nat.lt_of_lt_of_le I.lt hC)) (.inr (Nat.le_trans I.sz hC)) (fun x c e z=>?_) fun p hp z=>?_
 ·obtain ⟨v,q⟩:=I.cell x c e
  exact absurd (Nat.lt_of_lt_of_le q.lt (by rw [z];exact hC)) (Nat.lt_irrefl _)
 ·exact absurd (Nat.lt_of_lt_of_le (Heap.lt_size (I.pin p hp).1) (by rw [z];exact hC)) (Nat.lt_irrefl _)
theorem mR {tg iter elt:Expr} {ifs:List Expr} {pos:Pos} {cap:St→St} {g:TG} {tc:TT} {te:TE} {J:It} {it:Addr} {tn:Nat→Heap→Prop} {Q:Addr→Hp→Prop} {RR:Value→Addr→Result→Shared→Prop}
  (hcalm:X.calm=true) (S:CompScope X scope) (hcap:bI X N scope cap) (I:Inv X pins σ H s) (T:Turn X.prog X.w X.K tg J fp it tn) (st:tn 0 s.heap) (hf:∀b∈fp,zN X pins H b)
  (hg:∀C,PG (q0 X N scope C s H pins fp) tg g) (hc:∀C,bJ (q0 X N scope C s H pins fp) ifs tc) (he:∀C,PE (q0 X N scope C s H pins fp) elt te)
  (hq:∀D,H D=none→QB D J g tc te (cap σ) H (Q D))
  (hRR:∀D C σc H' s',s.heap.objs.size≤C→Inv (q0 X N scope C s H pins fp) [] σc H' s'→Q D H'→RR (.ref D) C (.ok .next) s') :
  wpAny (model X.prog X.w) X.A (newList []) (fun acc s₃=>wpAny (model X.prog X.w) X.A (newFunctionEnv scope X.env.globals (vP X.env.cells scope.names []) [] X.env.qual none .none (some X.env)) (fun cenv s₄ =>
   codeAny (model X.prog X.w) X.A (.compStart (.ListComp elt [⟨tg,iter,ifs,0⟩] scope pos) 0 (.ref it) acc {cenv with scope:=relabel scope X.env}) (RR acc cenv.locals) s₄) X.xe s₃) X.xe s:=by
 refine wpAny_newObj_type (wpAny_newFunctionEnv S.nocell (by intro y hy;simp at hy) (fun h₁ hns₁ hsb₁=>?_) S.kind)
 dsimp only at hns₁ hsb₁ ⊢
 generalize hH2:s.heap.push {cls:=.type "list",dict:=none,data:=.seq ([]:List Value).toArray}=H2 at hns₁ hsb₁ ⊢
 have hC:H2.objs.size=s.heap.objs.size+1:=by rw [← hH2,Heap.size_push]
 have hDC:s.heap.objs.size≠H2.objs.size:=by rw [hC];exact Nat.ne_of_lt (Nat.lt_succ_self _)
 have hCle:s.heap.objs.size≤H2.objs.size:=by rw [hC];exact Nat.le_succ _
 have below:∀b,b<s.heap.objs.size→b≠H2.objs.size:=fun b hb=>by rw [hC];exact Nat.ne_of_lt (Nat.lt_succ_of_lt hb)
 have old:∀b o,s.heap.get? b=some o→h₁.get? b=some o:=fun b o e=>hsb₁.extBut b o (below b (Heap.lt_size e)) (Heap.get?_push_of_some _ (hH2▸Heap.get?_push_of_some _ e))
 have hacc:h₁.get? s.heap.objs.size=some {cls:=.type "list",data:=.seq ([]:List Value).toArray}:=hsb₁.extBut _ _ hDC (Heap.get?_push_of_some _ (hH2▸Heap.get?_push_size _ rfl))
 have obj0:=T.obj 0 s.heap st
 have I1:∀t',0<t'→Inv (q0 X N scope H2.objs.size s H pins fp) [] (cap σ) (jC H s.heap.objs.size (.lst [])) {s with heap:=h₁,toks:=t'}:=fun t' ht =>
  xT (ht:=ht) S I hcap hf (fun b hb=>let ⟨o,e,_⟩:=obj0 b hb;⟨o,e⟩) (Nat.le_refl _) hCle hDC old hns₁ hacc
 have st1:tn 0 h₁:=T.keep 0 s.heap h₁ st fun b _ o e=>old b o e
 have stat:∀{H':Hp},(∀b∈fp,H' b=none)→∀b∈fp,zN (q0 X N scope H2.objs.size s H pins fp) [] H' b:=fun hn b hb=>by
  obtain ⟨_,h2,h3,h4,h5,h6⟩:=hf b hb
  obtain ⟨o,ho,_⟩:=obj0 b hb
  refine ⟨hn b hb,below b (Heap.lt_size ho),?_,.inl hb,fun x c e=>h5 x c (bU (bW S I) (fun y d q=>by simp at q) e),fun p hp=>?_⟩
  ·intro z
   rcases List.mem_cons.mp (I.stkSub b z) with e|e
   ·exact h2 e
   ·exact h3 e
  ·rcases List.mem_append.mp hp with z|z
   ·exact h6 p z
   ·cases z
 have fr1:∀b∈fp,jC H s.heap.objs.size (.lst []) b=none:=fun b hb=>by
  obtain ⟨o,ho,_⟩:=obj0 b hb
  rw [jH (Nat.ne_of_lt (Heap.lt_size ho))]
  exact (hf b hb).1
 obtain ⟨W,⟨m0,w0⟩,turn⟩:=hq s.heap.objs.size (I.hok.fresh (Nat.le_refl _))
 have loop:∀s₃:Shared,s₃={s with heap:=h₁,toks:=s.toks+([]:List (Str×Value)).length}→
   codeAny (model X.prog X.w) X.A (.compLoop (.ListComp elt [⟨tg,iter,ifs,0⟩] scope pos) 0 (.ref it) (.ref s.heap.objs.size) (compEnvC scope (vP X.env.cells scope.names []) H2.objs.size X.env))
    (RR (.ref s.heap.objs.size) H2.objs.size) s₃:=by
  rintro s₃ rfl
  refine wT (fun n s'=>∃i σ' H',Inv (q0 X N scope H2.objs.size s H pins fp) [] σ' H' s'∧tn i s'.heap∧(∀b∈fp,H' b=none)∧W i n σ' H') ?_ m0 ⟨0,cap σ,_,I1 _ I.tk,st1,fr1,w0⟩
  rintro n s3 ⟨i,σ3,H3,I3,st3,fr3,w3⟩
  rcases turn i n σ3 H3 w3 with ⟨stop,qn⟩|⟨go,Nn,hN,step⟩
  ·refine jM (T.done (q0 X N scope H2.objs.size s H pins fp) rfl rfl rfl hcalm i [] s3 σ3 H3 (fun _ _=>False) I3 (stat fr3) st3 stop) fun r s4 ⟨hr,I4⟩=>?_
   subst hr
   exact hRR _ _ σ3 H3 s4 hCle I4 qn
  ·refine jM (T.item (q0 X N scope H2.objs.size s H pins fp) rfl rfl rfl hcalm i [] s3 σ3 H3 (fun _ _=>False) I3 (stat fr3) st3 go) fun r s4 ⟨u,hr,h4⟩=>?_
   subst hr
   refine jM h4 fun _ s5 ⟨x,H5,I5,r5,y5,st5,fr5⟩=>?_
   have I5':=I5.pinned (stat fr5) (T.obj _ _ st5)
   have again:∀{σ7:St} {H7:Hp} {s7:Shared},Inv (q0 X N scope H2.objs.size s H pins fp) ([]++bB fp s5.heap) σ7 H7 s7→Nn σ7 H7→
     ∃m,m<n∧∃i σ' H',Inv (q0 X N scope H2.objs.size s H pins fp) [] σ' H' s7∧tn i s7.heap∧(∀b∈fp,H' b=none)∧W i m σ' H':=fun {σ7 H7 s7} I7 n7=>by
    obtain ⟨m',hm,w7⟩:=hN σ7 H7 n7
    refine ⟨m',hm,i+1,σ7,H7,I7.unpinned,T.keep _ _ _ st5 fun b hb o e=>(I7.pin (b,o) (List.mem_append_right _ (List.mem_append_right _ (bV hb e)))).1,fun b hb=>?_,w7⟩
    obtain ⟨o,e,d⟩:=T.obj _ _ st5 b hb
    exact (I7.pin (b,o) (List.mem_append_right _ (List.mem_append_right _ (bV hb e)))).2.1
   refine jM (hg _ _ s5 σ3 H5 x u _ I5' r5 (step x H5 y5)) fun _ s6 ⟨σ6,H6,I6,q6⟩=>?_
   refine jM (hc _ _ s6 σ6 H6 _ I6 q6) fun ok s7 ⟨H7,I7,q7⟩=>?_
   cases ok with
   |false=>exact again I7 q7
   |true =>
    refine jM (he _ _ s7 σ6 H7 _ I7 q7) fun v s8 ⟨y,H8,I8,r8,xs,hD8,hz8,n8⟩=>?_
    refine jM (zG _ s8 σ6 H8 (.ref s.heap.objs.size) [y] (.ref s.heap.objs.size) [v] (fun _ H9=>Nn σ6 H9) I8 rfl (.cons r8 .nil) ⟨_,_,_,rfl,rfl,hD8,hz8,n8⟩) fun _ s9 ⟨_,H9,I9,_,n9⟩=>?_
    exact again I9 n9
 exact codeAny_compStart_list (loop _ rfl) (wpAny_mono (T.self X.A 0 _ (fun v s'=>v=.ref it∧s'=_) (fun _ _=>False) st1 ⟨rfl,rfl⟩) (fun v s' ⟨e1,e2⟩=>by subst e1;subst e2;exact loop _ rfl) fun _ _ z=>z.elim)
theorem cR {tg iter elt:Expr} {ifs:List Expr} {pos:Pos} {wi:TI} {g:TG} {tc:TT} {te:TE} (N:List Str) (cap:St→St) (hcalm:X.calm=true) (S:CompScope X scope) (hcap:bI X N scope cap) (hi:PI X tg iter wi)
  (hg:∀C s H pins fp,PG (q0 X N scope C s H pins fp) tg g) (hc:∀C s H pins fp,bJ (q0 X N scope C s H pins fp) ifs tc) (he:∀C s H pins fp,PE (q0 X N scope C s H pins fp) elt te)
  (hs:∀x,foldedSetIterable iter X.env x=pure x:=by intro _;rfl):PE X (.ListComp elt [⟨tg,iter,ifs,0⟩] scope pos) (DA wi cap g tc te):=by
 intro pins s σ H Q I h
 rw [eval_ListComp]
 refine wpAny_comprehension_free (use:=none) rfl hs (g7 (bW S I)) S.kind S.names (jM (hi pins s σ H _ I h) fun v s1 h1=>jM h1 fun itv s2 h2=>?_)
 obtain ⟨it,fp,tn,J,H2,e,I2,T,st2,f2,q2⟩:=h2
 subst e
 refine mR (RR:=fun acc C=>compPost (model X.prog X.w) X.A X.xe none (EP X pins σ Q) acc C) (Q:=fun D H'=>Q (.ref D) H') hcalm S hcap I2 T st2 f2 (fun C=>hg C _ _ _ _) (fun C=>hc C _ _ _ _) (fun C=>he C _ _ _ _) q2 ?_
 intro D C σc H' s' hC Jc q
 obtain ⟨m,hn,_⟩:=Jc.loc
 refine ⟨m,hn,fun h' hs'=>?_⟩
 exact ⟨.ref D,H',mS I2 hC (lH (σ':=σ) I2 f2 Jc) Jc.free hs',rfl,q⟩
theorem yR {tg iter elt:Expr} {ifs:List Expr} {pos spos py:Pos} {i:Nat} {y:Str} {wi:TI} {g:TG} {tc:TT} {te:TE} (N:List Str) (cap:St→St) (hN:X.N.Nodup) (hy:X.N[i]?=some y) (hloc:QG X.env.scope y) (hcalm:X.calm=true) (S:CompScope X scope) (hcap:bI X N scope cap) (hi:PI X tg iter wi)
  (hg:∀C s H pins fp,PG (q0 X N scope C s H pins fp) tg g) (hc:∀C s H pins fp,bJ (q0 X N scope C s H pins fp) ifs tc) (he:∀C s H pins fp,PE (q0 X N scope C s H pins fp) elt te)
  (hsw:swapsWith (.ListComp elt [⟨tg,iter,ifs,0⟩] scope pos) (some (.Name y py)) spos.line X.env=pure true:=by rfl)
  (hs:∀x,foldedSetIterable iter X.env x=pure x:=by intro _;rfl) (hfn:X.fn y=true∨X.env.scope.names.lookup y=some .local:=by first|exact .inl rfl|exact .inr rfl|assumption) :
  PS X (.Assign [.Name y py] (.ListComp elt [⟨tg,iter,ifs,0⟩] scope pos) spos) (w4 i wi cap g tc te):=by
 intro pins s σ H D I h
 rw [exec_Assign_Name_used _ _ _ _ hsw]
 refine wpAny_bind (wpAny_standAt (wpAny_bind ?_))
 show wpAny _ X.A (do let _ ← comprehension (.ListComp elt [⟨tg,iter,ifs,0⟩] scope pos) scope X.env _ (newList []) false (eval iter X.env) (some (assign (.Name y py) X.env))) _ _ s
 refine wpAny_bind (wpAny_mono (wpAny_comprehension_free (use:=some (assign (.Name y py) X.env)) (Q:=fun _ s'=>SP X pins D .next s') rfl hs (g7 (bW S I)) S.kind S.names
  (jM (hi pins s σ H _ I h) fun v s1 h1=>jM h1 fun itv s2 h2=>?_)) (fun _ s' hq=>wpAny_pure (wpAny_pure hq)) fun _ _ e=>e)
 obtain ⟨it,fp,tn,J,H2,e,I2,T,st2,f2,q2⟩:=h2
 subst e
 refine mR (RR:=fun acc C=>compPost (model X.prog X.w) X.A X.xe (some (assign (.Name y py) X.env)) (fun _ s'=>SP X pins D .next s') acc C) (Q:=fun d H'=>D.nx (σ.set i (some (.ref d))) H') hcalm S hcap I2 T st2 f2 (fun C=>hg C _ _ _ _) (fun C=>hc C _ _ _ _) (fun C=>he C _ _ _ _) q2 ?_
 intro d C σc H' s' hC Jc q
 obtain ⟨m,hn,_⟩:=Jc.loc
 have J1:Inv X pins σ H' s':=lH (σ':=σ) I2 f2 Jc
 show wpAny _ X.A (assign (.Name y py) X.env (.ref d)) _ _ _
 refine wpAny_assign_Name (iN (v:=.ref d) J1 hN hy hloc rfl (fun s'' J2 hsb=>?_) hfn)
 obtain ⟨a,sb,ha⟩:=hsb
 have haC:C≠a:=by
  rcases ha with e|e
  ·rw [e];exact Nat.ne_of_gt (Nat.lt_of_lt_of_le I2.lt hC)
  ·obtain ⟨v,q'⟩:=I2.cell y a e
   exact Nat.ne_of_gt (Nat.lt_of_lt_of_le q'.lt hC)
 refine ⟨m,hn.sameBut sb haC,fun h' hs'=>?_⟩
 exact ⟨_,H',mS I2 hC J2 Jc.free hs',q⟩
end
end L2
namespace L2
open PySem PySem.Spec PyProof.Rows
theorem J9 {σ:St} {H:Hp} {Q:Bool→Hp→Prop} (h:Q true H):pO σ H Q:=h
theorem iD {K:PySem.W.Frag} {a D:Addr} {xs:List V} {g:TG} {tc:TT} {te:TE} {σ₀:St} {H:Hp} {Q:Hp→Prop} (Pv:Nat→St→Hp→Prop) (h0:Pv 0 σ₀ (jC H D (.lst []))) (hl:∀i σ H,i≤xs.length→Pv i σ H→SqL K H a xs)
    (hs:∀i x σ H,xs[i]?=some x→Pv i σ H→g x σ H fun σ2 H3=>tc σ2 H3 fun b H4=>if b=true then te σ2 H4 fun v H5=>∃ys,H5 D=some (.lst ys)∧ys.length<sizeLine∧Pv (i+1) σ2 (jC H5 D (.lst (ys++[v]))) else Pv (i+1) σ2 H4)
    (hd:∀σ H,Pv xs.length σ H→Q H):QB D (JS K a) g tc te σ₀ H Q:=by
  refine ⟨fun i m σ H=>m=xs.length - i∧i≤xs.length∧Pv i σ H,⟨xs.length,by simp,Nat.zero_le _,h0⟩,?_⟩
  rintro i m σ H ⟨rfl,hi,p⟩
  have q:=hl i σ H hi p
  by_cases hlt:i<xs.length
  · refine .inr ⟨⟨xs,xs[i],q,by simp [hlt]⟩,Pv (i+1),fun σ' H' p'=>⟨xs.length - (i+1),by omega,rfl,hlt,p'⟩,fun x H' y=>?_⟩
    obtain ⟨e,y⟩:=y
    subst e
    exact hs i x σ _ (y xs q) p
  · have e:i=xs.length:=by omega
    subst e
    exact .inl ⟨⟨xs,q,Nat.le_refl _⟩,hd σ H p⟩
theorem qI {H H':Hp} {D:Addr} {o:HO} (hD:H D=none) (s:Same H H'):Same H (jC H' D o):=fun b u q=>by
 rw [jH (yZ q hD)]
 exact s b u q
def zK (H:Hp) (D:Addr) (caps:St) (R:Nat→List V→Hp→Prop) (i:Nat) (σ:St) (Hi:Hp):Prop:=∃ys c,σ=c::caps∧Same H Hi∧Hi D=some (.lst ys)∧ys.length≤i∧R i ys Hi
theorem yI {H Hi H5:Hp} {D:Addr} {caps:St} {R:Nat→List V→Hp→Prop} {i:Nat} {ys:List V} {c:Option V} {v:V} (hD:H D=none) (s:Same H Hi) (hY:Hi D=some (.lst ys)) (hl:ys.length≤i) (hi:i≤999) (s5:Same Hi H5)
  (r:R (i+1) (ys++[v]) (jC H5 D (.lst (ys++[v])))):∃zs,H5 D=some (.lst zs)∧zs.length<sizeLine∧zK H D caps R (i+1) (c::caps) (jC H5 D (.lst (zs++[v]))):=by
 refine ⟨ys,s5 _ _ hY,vG (by omega),ys++[v],c,rfl,qI hD (s.trans s5),jG,?_,r⟩
 rw [List.length_append,List.length_singleton];omega
theorem JB {H Hi H4:Hp} {D:Addr} {caps:St} {R:Nat→List V→Hp→Prop} {i:Nat} {ys:List V} {c:Option V} (s:Same H Hi) (hY:Hi D=some (.lst ys)) (hl:ys.length≤i) (s4:Same Hi H4) (r:R (i+1) ys H4) :
  zK H D caps R (i+1) (c::caps) H4:=⟨ys,c,rfl,s.trans s4,s4 _ _ hY,by omega,r⟩
theorem yH {K:PySem.W.Frag} {a D:Addr} {xs:List V} {tc:TT} {te:TE} {caps:St} {H:Hp} {Q:Hp→Prop} (R:Nat→List V→Hp→Prop) (hD:H D=none) (hS:SqL K H a xs) (h0:R 0 [] (jC H D (.lst [])))
  (hs:∀i x ys Hi,xs[i]?=some x→i<xs.length→ys.length≤i→Same H Hi→Hi D=some (.lst ys)→R i ys Hi→tc (some x::caps) Hi fun b H4=>if b=true then te (some x::caps) H4 fun v H5=>∃zs,H5 D=some (.lst zs)∧zs.length<sizeLine∧zK H D caps R (i+1) (some x::caps) (jC H5 D (.lst (zs++[v])))
   else zK H D caps R (i+1) (some x::caps) H4)
  (hd:∀ys Hf,Same H Hf→Hf D=some (.lst ys)→ys.length≤xs.length→R xs.length ys Hf→Q Hf):QB D (JS K a) (ZP 0) tc te (none::caps) H Q:=by
 refine iD (xs:=xs) (zK H D caps R) ⟨[],none,rfl,qI hD (Same.refl H),jG,Nat.le_refl _,h0⟩ (fun i σ Hi _ ⟨_,_,_,s,_⟩=>s.seq hS) ?_ ?_
 ·rintro i x σ Hi hx ⟨ys,c,rfl,s,hY,hl,r⟩
  exact hs i x ys Hi hx (List.getElem?_eq_some_iff.mp hx).1 hl s hY r
 ·rintro σ Hf ⟨ys,c,rfl,s,hY,hl,r⟩
  exact hd ys Hf s hY hl r
def EW:V→Option Value
 |.ty n=>some (.type n)
 |.ref a=>some (.ref a)
 |_=>none
section
variable {X:Cx}
def EM (K:PySem.W.Frag):List V→Hp→VK→Prop:=fun xs H Q=>∃(x c:V) (t u:Value) (b:Bool),xs=[x,c]∧EW c=some u∧TyOf K H x t∧PySem.W.kitOne K t u=some b∧Q (.bl b) H
theorem mU:CallR X (.builtin "isinstance") (EM X.K):=by
 intro pins s σ H xs us Q I r h
 obtain ⟨x,c,t,u,b,rfl,hc,ty,e,q⟩:=h
 obtain ⟨u1,u2,rfl,r1,r2⟩:=pB r
 have e2:u2=u:=by
  cases c with
  |ty n=>cases (show u2=Value.type n from r2);exact Option.some.inj hc
  |ref a=>cases (show u2=Value.ref a from r2);exact Option.some.inj hc
  |_=>cases hc
 subst e2
 exact y0 (wN I r1 ty e fun tk hle=>⟨.bl b,H,I.tok _ (Nat.lt_of_lt_of_le I.tk hle),rfl,q⟩)
end
theorem mH {K:PySem.W.Frag} (n:String):PySem.W.kitOne K (.type n) (.type n)=some true:=by
 unfold PySem.W.kitOne
 rw [if_pos (beq_self_eq_true _)]
def JP (xs ys:List V):Bool:=(List.range (min xs.length ys.length)).all (fun j=>JQ (xs.getD j .non) (ys.getD j .non))&&xs.length == ys.length
theorem xS {x:V} (h:vY x=true):JQ x x=true:=by
 cases x with
 |non=>rfl
 |bl b=>show (b == b)=true;simp
 |int i=>show (i == i)=true;simp
 |str z=>show (z == z)=true;simp
 |_=>exact absurd (show false=true from h) Bool.false_ne_true
theorem vQ {xs:List V} {us:List Value} (r:Vals xs us) {j:Nat} (h:j<us.toArray.size):RelV (xs.getD j .non) us.toArray[j]:=by
 have hj:j<us.length:=by simpa using h
 have hx:j<xs.length:=by rw [r.length];exact hj
 obtain ⟨u,e,q⟩:=r.get (List.getElem?_eq_getElem hx)
 rw [List.getElem?_eq_getElem hj] at e
 have e':=Option.some.inj e
 rw [List.getD_eq_getElem?_getD,List.getElem?_eq_getElem hx]
 show RelV xs[j] us.toArray[j]
 rw [List.getElem_toArray,e']
 exact q
theorem bZ {xs:List V} (h:xs.all vY=true) {j:Nat} (hj:j<xs.length):vY (xs.getD j .non)=true:=by
 rw [List.getD_eq_getElem?_getD,List.getElem?_eq_getElem hj]
 exact List.all_eq_true.mp h _ (List.getElem_mem hj)
section
variable {X:Cx}
end
end L2
namespace L2
open PySem PySem.Spec PyProof.Rows
section
variable {X:Cx}
end
end L2
namespace L2
open PySem PySem.Spec PyProof.Rows
section
variable {X:Cx} (K:PySem.W.Frag)
theorem nV (h:X.K=K:=by rfl):IxR X (pT K):=by subst h;exact ZK
theorem AJ {es:List Expr} {k:Nat} {t:JR} {n:Nat} {pos:Pos} (hc:X.calm=true) (h:bK X es t) (hK:X.K=K:=by rfl)
  (hn:(assignEach es X.env).length=n:=by rfl) (hst:(assignEach es X.env).findIdx? (·.1)=none:=by rfl):PG X (.Tuple es k pos) (gL K n t):=by subst hK;exact oW hc h hn hst
end
end L2
namespace L2
open PySem PySem.Spec PyProof.Rows
section
variable {X:Cx}
end
end L2
namespace L2
open PySem PySem.Spec PyProof.Rows
section
variable {X:Cx}
def EC (t u:TS):TS:=fun D σ H=>∃P:St→Hp→Prop,t {D with nx:=P} σ H∧∀σ' H',P σ' H'→u D σ' H'
theorem qG {st:Stmt} {rest:List Stmt} {t u:TS} (h1:PS X st t) (h2:PSs X rest u):PSs X (st::rest) (EC t u):=by
 intro pins s σ H D I h
 obtain ⟨P,hP,hu⟩:=h
 refine wpAny_execs_cons (jM (h1 pins s σ H {D with nx:=P} I hP) fun f s1 q=>?_)
 cases f with
 |next =>
  obtain ⟨σ',H',I',q⟩:=q
  exact h2 pins s1 σ' H' D I' (hu σ' H' q)
 |ret v=>exact q
 |brk=>exact q
 |cont=>exact q
end
end L2
namespace L2
open PySem PySem.Spec PyProof.Rows
structure Def (P:Program) (w:World) (K:PySem.W.Frag) (mg:Str→Option Value) (base:Heap) (k:Nat) (x:Str) (ps:List Str) (dvs:List V) (sp:Sp):Prop where
 ex:∃(f:Addr) (fd:FuncData) (ds:List Value),FnOk P w K mg base kC k f fd ps sp∧mg x=some (.ref f)∧PySem.W.keepIn K (.ref f)=true∧Vals dvs ds∧Binds K fd ps ds
theorem kA {X:Cx} {k k':Nat} {x:Str} {ps:List Str} {dvs:List V} {sp:Sp} {p pos:Pos} {e:Expr} {es:List Expr} {t:TA} (F:Def X.prog X.w X.K X.mg X.base k x ps dvs sp) (hr:Room k' X.A) (hg:Gl X x) (ha:PA X (e::es) t)
  (hk:k≤k':=by decide) (hdb:(x == ("__debug__":Str))=false:=by decide) (he:starEach (e::es) X.env=(false,eval e X.env)::starEach es X.env:=by rfl) (hpl:(backTo pos (starEach es X.env)).any (·.1)=false:=by rfl) :
  PE X (.Call (.Name x p) (e::es) [] pos) (pD sp dvs E0 t):=by
 obtain ⟨f,fd,ds,G,m,kp,hv,b⟩:=F.ex
 exact AK G (hr.mono hk) hg m kp b hv bE ha hdb he hpl
section
variable {P:Program} {w:World} {K:PySem.W.Frag} {mg:Str→Option Value} {base:Heap}
end
section
variable {X:Cx}
end
end L2
namespace L2
open PySem
theorem pG {c A B:Prop} [Decidable c] (hc:¬c) (h:A):if (!decide c)=true then A else B:=by
 rw [decide_eq_false hc]
 exact j9 h
end L2
namespace L2
open PySem PySem.Spec PyProof.Rows
end L2
namespace L2
open PySem PySem.Spec PyProof.Rows
section
variable {X:Cx}
end
end L2
namespace L2
open PySem PySem.Spec PyProof.Rows
section
variable {X:Cx}
end
end L2
namespace L2
open PySem PySem.Spec PyProof.Rows
end L2
namespace L2
open PySem PySem.Spec PyProof.Rows
section
variable {κ:Type} [DecidableEq κ]
def dP (kvs:List (κ×V)) (k:κ):Option V:=(kvs.find? fun kv=>decide (kv.1=k)).map (·.2)
def dR (kvs:List (κ×V)) (k:κ) (v:V):List (κ×V) :=
 if (kvs.any fun kv=>decide (kv.1=k))=true then kvs.map (fun kv=>if kv.1=k then (kv.1,v) else kv) else kvs++[(k,v)]
theorem RelO.getD {o:Option V} {u:Option Value} {d:V} {d':Value} (r:RelO o u) (rd:RelV d d'):RelV (o.getD d) (u.getD d'):=by
 cases o with
 |none=>cases u with
  |none=>exact rd
  |some _=>exact (show False from r).elim
 |some _=>cases u with
  |none=>exact (show False from r).elim
  |some _=>exact r
theorem KV.any {kvs:List (κ×V)} {vs:List (κ×Value)} (r:KV kvs vs) (k:κ):(kvs.any fun kv=>decide (kv.1=k))=vs.any fun kv=>decide (kv.1=k):=by
 unfold KV at r
 induction r with
 |nil=>rfl
 |cons h t ih=>rw [List.any_cons,List.any_cons,ih,h.1]
theorem KV.length {kvs:List (κ×V)} {vs:List (κ×Value)} (r:KV kvs vs):kvs.length=vs.length:=Paired.length r
end
section
variable {P:Program} {w:World} {H:Hp} {h:Heap} {a:Addr}
end
def DGet (H:Hp) (a:Addr) (y:V) (r:Option V):Prop :=
 (∃kvs k,Rd H a (.dK kvs)∧y=kV k∧r=dP kvs k)∨∃kvs k b,Rd H a (.dT kvs)∧y=.ref b∧H b=some (.tup (k.map kV))∧r=dP kvs k
def DPut (H:Hp) (a:Addr) (y v:V) (H':Hp):Prop :=
 (∃kvs k,H a=some (.dK kvs)∧y=kV k∧kvs.length<sizeLine∧H'=jC H a (.dK (dR kvs k v)))∨
 ∃kvs k b,H a=some (.dT kvs)∧y=.ref b∧H b=some (.tup (k.map kV))∧kvs.length<sizeLine∧H'=jC H a (.dT (dR kvs k v))
theorem DGet.k {H:Hp} {a:Addr} {kvs:List (kU×V)} {k:kU} (e:H a=some (.dK kvs)):DGet H a (kV k) (dP kvs k):=.inl ⟨kvs,k,.inl e,rfl,rfl⟩
theorem DGet.t {H:Hp} {a b:Addr} {kvs:List (List kU×V)} {k:List kU} (e:H a=some (.dT kvs)) (eb:H b=some (.tup (k.map kV))):DGet H a (.ref b) (dP kvs k):=.inr ⟨kvs,k,b,.inl e,rfl,eb,rfl⟩
theorem DPut.k {H:Hp} {a:Addr} {kvs:List (kU×V)} {k:kU} {v:V} (e:H a=some (.dK kvs)) (hl:kvs.length<sizeLine):DPut H a (kV k) v (jC H a (.dK (dR kvs k v))):=.inl ⟨kvs,k,e,rfl,hl,rfl⟩
theorem DPut.t {H:Hp} {a b:Addr} {kvs:List (List kU×V)} {k:List kU} {v:V} (e:H a=some (.dT kvs)) (eb:H b=some (.tup (k.map kV))) (hl:kvs.length<sizeLine) :
  DPut H a (.ref b) v (jC H a (.dT (dR kvs k v))):=.inr ⟨kvs,k,b,e,rfl,eb,hl,rfl⟩
section
variable {X:Cx} {pins:List (Addr×Obj)} {σ:St} {H:Hp} {s:Shared} {a:Addr} {y v:V} {u r:Value} {o:Option V} {A:Around} {E:Value→Shared→Prop}
theorem Inv.big (I:Inv X pins σ H s):sysModules<s.heap.objs.size:=by
 have h:mainGlobals<s.heap.objs.size:=(I.mod.glob.keeps I.bk).lt
 exact Nat.lt_trans (by decide) h
theorem oG {h':Heap} {t':Nat} {ob:HO} (I:Inv X pins σ H s) (mu:bL (H a)) (hs:Heap.SameBut a s.heap h') (he:∃q,h'.get? a=some q) (new:ObjOk X.prog X.w (jC H a ob) h' a ob) (ht:0<t':=by first|exact Nat.succ_pos _|exact Inv.tk (by assumption)|(dsimp only;exact Inv.tk (by assumption))) :
  Inv X pins σ (jC H a ob) {s with heap:=h',toks:=t'} :=
 I.write (ht:=ht) (x:=a) (e:=a) mu (.inl rfl) (fun b q hb z=>(hs.2 b hb).trans z) he new
end
section
variable {X:Cx} {pins:List (Addr×Obj)} {σ:St} {H:Hp} {s:Shared} {a:Addr} {kvs:List (kU×V)} {k:kU} {u:Value} {A:Around} {E:Value→Shared→Prop}
end
def gQ (i:Expr):Prop:=∀ov iv,subscripted i false ov iv=operate [ov,iv] (getItem ov iv)
theorem x6 {prog:Program} {w:World} {A:Around} {E:Value→Shared→Prop} {s:Shared} {env:Env} {value slice:Expr} {pos:Pos} {T id:String} {Q:Value→Shared→Prop}
  (hl:typeLookup (.type T) "__getitem__"=pure (some (.builtin id))) (hs:gQ slice)
  (h:wpAny (model prog w) A (eval value env) (fun o s₁=>wpAny (model prog w) A (eval slice env) (fun i s₂=>s₂.TypeIs o T∧wpAny (model prog w) A (getItem o i) Q E s₂) E s₁) E s) :
  wpAny (model prog w) A (eval (.Subscript value slice pos) env) Q E s:=by
 refine Subscript_ (wpAny_mono h (fun o s₁ h₁=>wpAny_mono h₁ (fun i s₂ h₂=>?_) fun _ _ x=>x) fun _ _ x=>x)
 obtain ⟨hT,h₂⟩:=h₂
 unfold subscriptTail
 refine wpAny_bind ?_
 rw [getitemInPython_of_ne hT.not_modules]
 refine wpAny_bind (wpAny_specialOf hT hl ?_)
 have fin:wpAny (model prog w) A (subscripted slice false o i) (fun r s₃=>wpAny (model prog w) A (letTemporaryGo value o r >>= fun _=>pure r) Q E s₃) E s₂:=by
  rw [hs o i]
  exact wpAny_operating (wpAny_mono h₂ (fun r s₃ h₃=>wpAny_bind (wpAny_letTemporaryGo (wpAny_pure h₃))) fun _ _ x=>x)
 first
  |exact wpAny_pure (wpAny_bind fin)
  |exact wpAny_bind (wpAny_pure (wpAny_bind fin))
  |exact wpAny_bind fin
section
variable {X:Cx} {o i e value:Expr} {pos pos' tpos:Pos} {td ty tv:TE}
end
section
variable {X:Cx} {pos:Pos}
end
def oP:List (TE×TE)→St→Hp→(List (V×V)→Hp→Prop)→Prop
 |[],_,H,Q=>Q [] H
 | (tk,tv)::r,σ,H,Q=>tk σ H fun x H1=>tv σ H1 fun y H2=>oP r σ H2 fun ps H3=>Q ((x,y)::ps) H3
abbrev VV:List (V×V)→List (Value×Value)→Prop:=Paired fun p q=>RelV p.1 q.1∧RelV p.2 q.2
def gY (X:Cx) (pos:Pos) (keys:List (Option Expr)) (values:List Expr) (trs:List (TE×TE)):Prop :=
 ∀(pins:List (Addr×Obj)) (s:Shared) (σ:St) (H:Hp) (Q:List (V×V)→Hp→Prop),Inv X pins σ H s→oP trs σ H Q→
  wpAny (model X.prog X.w) X.A (evalPairs (pairTrees keys values X.env pos)) (fun vs s'=>∃ps H',Inv X pins σ H' s'∧VV ps vs∧Q ps H') X.xe s
theorem AI {X:Cx} {pos:Pos}:gY X pos [] [] []:=fun pins s σ H Q I h=>pairTrees_nil_walk ⟨[],H,I,.nil,h⟩
theorem xD {X:Cx} {pos:Pos} {k v:Expr} {ks:List (Option Expr)} {vs:List Expr} {tk tv:TE} {trs:List (TE×TE)} (hk:PE X k tk) (hv:PE X v tv) (hr:gY X pos ks vs trs) :
  gY X pos (some k::ks) (v::vs) ((tk,tv)::trs):=fun pins s σ H Q I h =>
 pairTrees_cons_walk (jM (hk pins s σ H _ I h) fun u s1 ⟨x,H1,I1,rx,q1⟩=>jM (hv pins s1 σ H1 _ I1 q1) fun w2 s2 ⟨y,H2,I2,ry,q2⟩ =>
  jM (hr pins s2 σ H2 _ I2 q2) fun ws s3 ⟨ps,H3,I3,rel,q3⟩=>⟨(x,y)::ps,H3,I3,.cons ⟨rx,ry⟩ rel,q3⟩)
end L2
namespace L2
open PySem PySem.Spec PyProof.Rows
inductive DEq (K:PySem.W.Frag) (H:Hp):V→V→Bool→Prop where
 |flat {x y:V} (hx:vY x=true) (hy:vY y=true):DEq K H x y (JQ x y)
 |same (a:Addr):DEq K H (.ref a) (.ref a) true
 |tup {a b:Addr} {xs ys:List V} (ne:a≠b) (ha:SqT K H a xs) (hb:SqT K H b ys) (fx:xs.all vY=true) (fy:ys.all vY=true):DEq K H (.ref a) (.ref b) (JP xs ys)
 |lst {a b:Addr} {xs ys:List V} (ne:a≠b) (ha:SqL K H a xs) (hb:SqL K H b ys) (fx:xs.all vY=true) (fy:ys.all vY=true):DEq K H (.ref a) (.ref b) (JP xs ys)
section
variable {X:Cx} {pins:List (Addr×Obj)} {σ:St} {H:Hp} {s:Shared} {A:Around}
theorem DEq.at {x y:V} {u v:Value} {e:Bool} (I:Inv X pins σ H s) (d:DEq X.K H x y e) (rx:RelV x u) (ry:RelV y v) (hu:A.units<cLine):SeqAt.EqAt A s u v e:=by
 cases d with
 |flat hx hy=>exact dI rx ry hx hy
 |same a=>cases rx;cases ry;exact SeqAt.EqAt.same _
 |@tup a b xs ys ne ha hb fx fy =>
  cases rx;cases ry
  obtain ⟨its,r,pl,hz⟩:=I.tuple ha
  obtain ⟨its2,r2,pl2,hz2⟩:=I.tuple hb
  have hl:=r.length
  have hl2:=r2.length
  have h:=SeqAt.RcAt.tuples (A:=A) (e:=fun j=>JQ (xs.getD j .non) (ys.getD j .non)) pl pl2 hu (fun j h1 h2=>dI (vQ r h1) (vQ r2 h2) (bZ fx (by rw [hl];simpa using h1)) (bZ fy (by rw [hl2];simpa using h2)))
  have e:((List.range (min its.toArray.size its2.toArray.size)).all (fun j=>JQ (xs.getD j .non) (ys.getD j .non))&&its.toArray.size == its2.toArray.size)=JP xs ys:=by
   unfold JP
   rw [List.size_toArray,List.size_toArray,← hl,← hl2]
  rw [e] at h
  exact SeqAt.EqAt.of_refs ne h
 |@lst a b xs ys ne ha hb fx fy =>
  cases rx;cases ry
  obtain ⟨its,r,pl,hz⟩:=I.list ha
  obtain ⟨its2,r2,pl2,hz2⟩:=I.list hb
  have hl:=r.length
  have hl2:=r2.length
  by_cases he:xs.length=ys.length
  ·have h:=SeqAt.RcAt.lists (A:=A) (e:=fun j=>JQ (xs.getD j .non) (ys.getD j .non)) pl.isList pl2.isList (by rw [List.size_toArray,List.size_toArray,← hl,← hl2,he]) hu (fun j h1 h2=>dI (vQ r h1) (vQ r2 h2) (bZ fx (by rw [hl];simpa using h1)) (bZ fy (by rw [hl2];simpa using h2)))
   have e:((List.range its.toArray.size).all (fun j=>JQ (xs.getD j .non) (ys.getD j .non)))=JP xs ys:=by
    unfold JP
    rw [List.size_toArray,← hl,← he,Nat.min_self,beq_self_eq_true,Bool.and_true]
   rw [e] at h
   exact SeqAt.EqAt.of_refs ne h
  ·have hf:JP xs ys=false:=by
    unfold JP
    rw [show (xs.length == ys.length)=false from beq_eq_false_iff_ne.mpr he,Bool.and_false]
   rw [hf]
   exact SeqAt.EqAt.of_refs ne (SeqAt.RcAt.lists_lengths pl.isList pl2.isList (by rw [List.size_toArray,List.size_toArray,← hl,← hl2];exact bne_iff_ne.mpr he) hu)
end
section
variable {X:Cx}
end
end L2
namespace L2
open PySem PySem.Spec PyProof.Rows
section
variable {X:Cx}
theorem lI:CallR X (.type "str") (fun xs H Q=>∃n:Int,xs=[.int n]∧n.natAbs.log2<1920∧Q (.str (Str.ofString (toString n))) H):=by
 intro pins s σ H xs us Q I r h
 obtain ⟨n,rfl,hl,q⟩:=h
 obtain ⟨u,rfl,t,rfl⟩:=dL r
 exact P.str_of_int hl ⟨.str (Str.ofString (toString n)),H,I.tok _,⟨⟨_,I.tk⟩,rfl⟩,q⟩
end
end L2
namespace L2
open PySem PySem.Spec PyProof.Rows
end L2
namespace L2
open PySem PySem.Spec PyProof.Rows
end L2
namespace L2
open PySem PySem.Spec PyProof.Rows
end L2
namespace L2
open PySem PySem.Spec PyProof.Rows
section
variable {X:Cx}
def yX (z:Str) (k:Nat):Str:=⟨(List.replicate k z.cps).foldl (·++·) #[]⟩
theorem mN (a:Array Nat):∀(k:Nat) (acc:Array Nat),((List.replicate k a).foldl (·++·) acc).toList=acc.toList++(List.replicate k a.toList).flatten
 |0,acc=>by simp
 |k+1,acc=>by rw [List.replicate_succ,List.foldl_cons,mN a k,List.replicate_succ,List.flatten_cons,Array.toList_append,List.append_assoc]
theorem lX (z:Str) (k:Nat):(yX z k).cps.toList=(List.replicate k z.cps.toList).flatten:=by
 unfold yX
 rw [mN]
 rfl
theorem xA (z:Str) (k:Nat):(yX z k).length=k*z.length:=by
 show (yX z k).cps.size=k*z.cps.size
 rw [← Array.length_toList,lX,AU,Array.length_toList]
def DF:R2:=fun x y H Q=>∃(z:Str) (k:Int),x=.str z∧y=.int k∧0≤k∧k≤100∧z.length≤100∧Q (.str (yX z k.toNat)) H
theorem AM:OpR X (binaryOp .Mult) DF:=by
 intro pins s σ H x y v u Q I rx ry h
 obtain ⟨z,k,rfl,rfl,h0,h1,hz,q⟩:=h
 obtain ⟨t,rfl⟩:=rx
 obtain ⟨t',rfl⟩:=ry
 have hm:z.length*k.toNat≤10000:=Nat.le_trans (Nat.mul_le_mul hz (show k.toNat≤100 by omega)) (Nat.le_refl _)
 refine P.mul_str ?_ (fun h2 _=>?_) (fun _ _=>?_) ?_
 ·rw [decide_eq_false (by omega),decide_eq_false (by omega)];rfl
 ·have:(100:Int)≤(2 ^ 63 - 1) / k:=by
   rw [Int.le_ediv_iff_mul_le (by omega)]
   omega
  omega
 ·exact decide_eq_false (Nat.not_lt.mpr (Nat.le_trans hm (by decide)))
 ·by_cases h2:k<1
  ·rw [if_pos h2]
   have e:k.toNat=0:=by omega
   rw [e] at q
   exact ⟨by decide,.str (yX z 0),H,I.tok _,⟨⟨_,I.tk⟩,rfl⟩,q⟩
  ·rw [if_neg h2]
   by_cases h3:(k == 1||z.length == 0)=true
   ·rw [if_pos h3]
    have e:yX z k.toNat=z:=by
     have:(yX z k.toNat).cps.toList=z.cps.toList:=by
      rw [lX]
      rcases Bool.or_eq_true_iff.mp h3 with h|h
      ·rw [show k.toNat=1 by have:=eq_of_beq h;omega];simp
      ·have h:z.cps.size=0:=eq_of_beq h
       rw [Array.eq_empty_of_size_eq_zero h]
       simp
     cases hr:yX z k.toNat with
     |mk a=>rw [hr] at this;obtain ⟨b⟩:=z;exact congrArg Str.mk (Array.toList_inj.mp this)
    rw [e] at q
    exact ⟨.str z,H,I,⟨_,rfl⟩,q⟩
   ·rw [if_neg h3]
    exact ⟨by show (yX z k.toNat).length≤sizeLine;rw [xA,Nat.mul_comm];exact Nat.le_trans hm (by decide),.str (yX z k.toNat),H,I.tok _,⟨⟨_,I.tk⟩,rfl⟩,q⟩
end
end L2
namespace L2
open PySem PySem.Spec PyProof.Rows
theorem yP {K:PySem.W.Frag} {H:Hp} {p:Addr} {xs:List V} {i:Int} {v:V} {P:V→Prop} (h:SqL K H p xs) (t:v7 xs i=some v) (q:P v):∃p' xs' i' v',V.ref p=.ref p'∧V.int i=.int i'∧SqL K H p' xs'∧v7 xs' i'=some v'∧P v':=⟨p,xs,i,v,rfl,rfl,h,t,q⟩
theorem jZ {P:Int→Int→Prop} {i j:Int} (h:P i j):∃a b,V.int i=V.int a∧V.int j=V.int b∧P a b:=⟨i,j,rfl,rfl,h⟩
end L2
namespace L2
theorem jA {α β:Type} {f:α→β} {b:β} {v:α} {B:α→Prop} (h:b=f v) (q:B v):∃x,b=f x∧B x:=⟨v,h,q⟩
end L2
namespace L2
theorem yG {α0:Sort _} {α1:Sort _} {α2:Sort _} {P:α0→α1→α2→Prop} (a0:α0) (a1:α1) (a2:α2) (h:P a0 a1 a2):∃a0 a1 a2,P a0 a1 a2:=⟨a0,a1,a2,h⟩
theorem v6 {α0:Sort _} {α1:Sort _} {α2:Sort _} {α3:Sort _} {P:α0→α1→α2→α3→Prop} (a0:α0) (a1:α1) (a2:α2) (a3:α3) (h:P a0 a1 a2 a3):∃a0 a1 a2 a3,P a0 a1 a2 a3:=⟨a0,a1,a2,a3,h⟩
theorem JO {α0:Sort _} {α1:Sort _} {α2:Sort _} {α3:Sort _} {α4:Sort _} {P:α0→α1→α2→α3→α4→Prop} (a0:α0) (a1:α1) (a2:α2) (a3:α3) (a4:α4) (h:P a0 a1 a2 a3 a4):∃a0 a1 a2 a3 a4,P a0 a1 a2 a3 a4:=⟨a0,a1,a2,a3,a4,h⟩
theorem gW {α0:Sort _} {α1:Sort _} {α2:Sort _} {α3:Sort _} {α4:Sort _} {α5:Sort _} {P:α0→α1→α2→α3→α4→α5→Prop} (a0:α0) (a1:α1) (a2:α2) (a3:α3) (a4:α4) (a5:α5) (h:P a0 a1 a2 a3 a4 a5):∃a0 a1 a2 a3 a4 a5,P a0 a1 a2 a3 a4 a5:=⟨a0,a1,a2,a3,a4,a5,h⟩
theorem rA {α0:Sort _} {α1:Sort _} {α2:Sort _} {α3:Sort _} {α4:Sort _} {α5:Sort _} {α6:Sort _} {α7:Sort _} {α8:Sort _} {P:α0→α1→α2→α3→α4→α5→α6→α7→α8→Prop} (a0:α0) (a1:α1) (a2:α2) (a3:α3) (a4:α4) (a5:α5) (a6:α6) (a7:α7) (a8:α8) (h:P a0 a1 a2 a3 a4 a5 a6 a7 a8):∃a0 a1 a2 a3 a4 a5 a6 a7 a8,P a0 a1 a2 a3 a4 a5 a6 a7 a8:=⟨a0,a1,a2,a3,a4,a5,a6,a7,a8,h⟩
theorem gM {α0:Sort _} {α1:Sort _} {α2:Sort _} {α3:Sort _} {α4:Sort _} {α5:Sort _} {α6:Sort _} {α7:Sort _} {α8:Sort _} {α9:Sort _} {P:α0→α1→α2→α3→α4→α5→α6→α7→α8→α9→Prop} (a0:α0) (a1:α1) (a2:α2) (a3:α3) (a4:α4) (a5:α5) (a6:α6) (a7:α7) (a8:α8) (a9:α9) (h:P a0 a1 a2 a3 a4 a5 a6 a7 a8 a9):∃a0 a1 a2 a3 a4 a5 a6 a7 a8 a9,P a0 a1 a2 a3 a4 a5 a6 a7 a8 a9:=⟨a0,a1,a2,a3,a4,a5,a6,a7,a8,a9,h⟩
theorem an3 {A0 A1 A2:Prop} (h0:A0) (h1:A1) (h2:A2):A0∧A1∧A2:=⟨h0,h1,h2⟩
theorem an4 {A0 A1 A2 A3:Prop} (h0:A0) (h1:A1) (h2:A2) (h3:A3):A0∧A1∧A2∧A3:=⟨h0,h1,h2,h3⟩
theorem an5 {A0 A1 A2 A3 A4:Prop} (h0:A0) (h1:A1) (h2:A2) (h3:A3) (h4:A4):A0∧A1∧A2∧A3∧A4:=⟨h0,h1,h2,h3,h4⟩
theorem an6 {A0 A1 A2 A3 A4 A5:Prop} (h0:A0) (h1:A1) (h2:A2) (h3:A3) (h4:A4) (h5:A5):A0∧A1∧A2∧A3∧A4∧A5:=⟨h0,h1,h2,h3,h4,h5⟩
theorem an7 {A0 A1 A2 A3 A4 A5 A6:Prop} (h0:A0) (h1:A1) (h2:A2) (h3:A3) (h4:A4) (h5:A5) (h6:A6):A0∧A1∧A2∧A3∧A4∧A5∧A6:=⟨h0,h1,h2,h3,h4,h5,h6⟩
theorem an8 {A0 A1 A2 A3 A4 A5 A6 A7:Prop} (h0:A0) (h1:A1) (h2:A2) (h3:A3) (h4:A4) (h5:A5) (h6:A6) (h7:A7):A0∧A1∧A2∧A3∧A4∧A5∧A6∧A7:=⟨h0,h1,h2,h3,h4,h5,h6,h7⟩
theorem an9 {A0 A1 A2 A3 A4 A5 A6 A7 A8:Prop} (h0:A0) (h1:A1) (h2:A2) (h3:A3) (h4:A4) (h5:A5) (h6:A6) (h7:A7) (h8:A8):A0∧A1∧A2∧A3∧A4∧A5∧A6∧A7∧A8:=⟨h0,h1,h2,h3,h4,h5,h6,h7,h8⟩
theorem an10 {A0 A1 A2 A3 A4 A5 A6 A7 A8 A9:Prop} (h0:A0) (h1:A1) (h2:A2) (h3:A3) (h4:A4) (h5:A5) (h6:A6) (h7:A7) (h8:A8) (h9:A9):A0∧A1∧A2∧A3∧A4∧A5∧A6∧A7∧A8∧A9:=⟨h0,h1,h2,h3,h4,h5,h6,h7,h8,h9⟩
theorem an11 {A0 A1 A2 A3 A4 A5 A6 A7 A8 A9 A10:Prop} (h0:A0) (h1:A1) (h2:A2) (h3:A3) (h4:A4) (h5:A5) (h6:A6) (h7:A7) (h8:A8) (h9:A9) (h10:A10):A0∧A1∧A2∧A3∧A4∧A5∧A6∧A7∧A8∧A9∧A10:=⟨h0,h1,h2,h3,h4,h5,h6,h7,h8,h9,h10⟩
theorem an12 {A0 A1 A2 A3 A4 A5 A6 A7 A8 A9 A10 A11:Prop} (h0:A0) (h1:A1) (h2:A2) (h3:A3) (h4:A4) (h5:A5) (h6:A6) (h7:A7) (h8:A8) (h9:A9) (h10:A10) (h11:A11):A0∧A1∧A2∧A3∧A4∧A5∧A6∧A7∧A8∧A9∧A10∧A11:=⟨h0,h1,h2,h3,h4,h5,h6,h7,h8,h9,h10,h11⟩
theorem an13 {A0 A1 A2 A3 A4 A5 A6 A7 A8 A9 A10 A11 A12:Prop} (h0:A0) (h1:A1) (h2:A2) (h3:A3) (h4:A4) (h5:A5) (h6:A6) (h7:A7) (h8:A8) (h9:A9) (h10:A10) (h11:A11) (h12:A12):A0∧A1∧A2∧A3∧A4∧A5∧A6∧A7∧A8∧A9∧A10∧A11∧A12:=⟨h0,h1,h2,h3,h4,h5,h6,h7,h8,h9,h10,h11,h12⟩
theorem an14 {A0 A1 A2 A3 A4 A5 A6 A7 A8 A9 A10 A11 A12 A13:Prop} (h0:A0) (h1:A1) (h2:A2) (h3:A3) (h4:A4) (h5:A5) (h6:A6) (h7:A7) (h8:A8) (h9:A9) (h10:A10) (h11:A11) (h12:A12) (h13:A13):A0∧A1∧A2∧A3∧A4∧A5∧A6∧A7∧A8∧A9∧A10∧A11∧A12∧A13:=⟨h0,h1,h2,h3,h4,h5,h6,h7,h8,h9,h10,h11,h12,h13⟩
theorem an15 {A0 A1 A2 A3 A4 A5 A6 A7 A8 A9 A10 A11 A12 A13 A14:Prop} (h0:A0) (h1:A1) (h2:A2) (h3:A3) (h4:A4) (h5:A5) (h6:A6) (h7:A7) (h8:A8) (h9:A9) (h10:A10) (h11:A11) (h12:A12) (h13:A13) (h14:A14):A0∧A1∧A2∧A3∧A4∧A5∧A6∧A7∧A8∧A9∧A10∧A11∧A12∧A13∧A14:=⟨h0,h1,h2,h3,h4,h5,h6,h7,h8,h9,h10,h11,h12,h13,h14⟩
end L2
namespace L2
open PySem PySem.Spec PyProof.Rows
section
variable {prog:Program} {w:World} {A:Around} {s:Shared} {E:Value→Shared→Prop}
abbrev EY (h:Heap) (z P1 P2:Addr) (f0:Value) (f1:Bool):Prop:=h.get? z=some {cls:=.type "zip",dict:=none,data:=.fields #[f0,.bool f1,.bool false,.ref P1,.ref P2],slots := #[]}
def ZStands (h:Heap) (N z P1 P2 j1 j2 a b:Addr) (us vs:Array Value) (k:Nat):Prop :=
 ((IsZip h z P1 P2 .none∧∃g g',IsPair h P2 g g')∨∃(T:Addr) (f1:Bool) (o:Obj),EY h z P1 P2 (rawInt T) f1∧N≤T∧h.get? T=some o)∧IsPair h P1 (.ref j1) (.ref j2)∧h.IsListIter j1 a k∧h.IsListIter j2 b k∧h.IsList a us∧h.IsList b vs
theorem ZStands.keep {h h':Heap} {N z P1 P2 j1 j2 a b S:Addr} {us vs:Array Value} {k:Nat} (hs:ZStands h N z P1 P2 j1 j2 a b us vs k) (bS:S<N) (nS:∀c∈[z,P1,P2,j1,j2,a,b],c≠S) (kp:∀c o,c≠S→h.get? c=some o→h'.get? c=some o):ZStands h' N z P1 P2 j1 j2 a b us vs k:=by
 obtain ⟨hz,hP1,n1,n2,la,lb⟩:=hs
 have nS':∀c,c∈[z,P1,P2,j1,j2,a,b]→∀o,h.get? c=some o→h'.get? c=some o:=fun c hc o e=>kp c o (nS c hc) e
 refine ⟨?_,nS' _ (by simp) _ hP1,n1.at fun o e=>nS' _ (by simp) o e,n2.at fun o e=>nS' _ (by simp) o e,la.at fun o e=>nS' _ (by simp) o e,lb.at fun o e=>nS' _ (by simp) o e⟩
 rcases hz with ⟨hz,g,g',hP2⟩|⟨T,f1,o,hz,t0,hT⟩
 ·exact .inl ⟨nS' _ (by simp) _ hz,g,g',nS' _ (by simp) _ hP2⟩
 ·exact .inr ⟨T,f1,o,nS' _ (by simp) _ hz,t0,kp _ _ (Nat.ne_of_gt (Nat.lt_of_lt_of_le bS t0)) hT⟩
def Pairs (h:Heap) (N:Addr) (us vs acc:Array Value) (k:Nat):Prop:=acc.size=k∧(∀(j:Nat) (v:Value),acc[j]?=some v→∃(T:Addr) (x y:Value),v=.ref T∧N≤T∧T<h.objs.size∧IsPair h T x y∧us[j]?=some x∧vs[j]?=some y)∧∀(i j:Nat) (v:Value),acc[i]?=some v→acc[j]?=some v→i=j
theorem Pairs.keep {h h':Heap} {N:Addr} {us vs acc:Array Value} {k:Nat} (p:Pairs h N us vs acc k) (kp:∀c o,N≤c→h.get? c=some o→h'.get? c=some o) (sz:h.objs.size≤h'.objs.size):Pairs h' N us vs acc k:=⟨p.1,fun j v hv=>by
 obtain ⟨T,x,y,e1,e2,e3,e4,e5⟩:=p.2.1 j v hv
 exact ⟨T,x,y,e1,e2,Nat.lt_of_lt_of_le e3 sz,kp _ _ e2 e4,e5⟩,p.2.2⟩
end
end L2
namespace L2
open PySem PySem.Spec PyProof.Rows
section
variable {X:Cx} {pins:List (Addr×Obj)} {σ:List (Option V)} {H:Hp} {s:Shared} {h':Heap}
end
section
variable {X:Cx}
end
end L2
namespace L2
open PySem PySem.Spec PyProof.Rows
inductive GK where
 |i (n:Int)
 |s (t:Str)
 |nil
 |cons (a b:GK)
 deriving DecidableEq
def TupOf (h:Heap) (v:Value) (P:List Value→Prop):Prop :=
 ∃(a:Addr) (o:Obj) (its:Array Value) (n:Nat),v=.ref a∧h.get? a=some o∧o.cls=.type "tuple"∧o.data=.seq its n∧P its.toList
def GR (h:Heap):GK→(Value→Prop)×(List Value→Prop)
 |.i n=>(fun v=>∃t:JM,v=.int n t.1,fun _=>False)
 |.s x=>(fun v=>∃t:JM,v=.str x t.1,fun _=>False)
 |.nil=>(fun v=>TupOf h v (fun l=>l=[]),fun l=>l=[])
 |.cons a b=>(fun v=>TupOf h v (fun l=>∃u us,l=u::us∧(GR h a).1 u∧(GR h b).2 us),fun l=>∃u us,l=u::us∧(GR h a).1 u∧(GR h b).2 us)
def gh (w:World):GK→Int×List Int
 |.i n=>(hashInt n,[])
 |.s x=>(hashStr w x,[])
 |.nil=>(reduceHash (Builtin.Tuple.tupleHashOf []),[])
 |.cons a b=>(reduceHash (Builtin.Tuple.tupleHashOf ((gh w a).1::(gh w b).2)),(gh w a).1::(gh w b).2)
def gd:GK→Nat
 |.i _=>1
 |.s _=>1
 |.nil=>1
 |.cons a b=>max (gd a+1) (gd b)
theorem TupOf.mono {h h':Heap} {v:Value} {P P':List Value→Prop} (x:TupOf h v P) (hk:∀a o its n,h.get? a=some o→o.data=.seq its n→h'.get? a=some o) (hp:∀l,P l→P' l):TupOf h' v P' :=
 let ⟨a,o,its,n,e,ho,hc,hd,p⟩:=x
 ⟨a,o,its,n,e,hk a o its n ho hd,hc,hd,hp _ p⟩
def zD:GK→Bool
 |.nil=>true
 |.cons _ _=>true
 |_=>false
theorem GR.tup {h:Heap} {k:GK} (ht:zD k=true) {v:Value}:(GR h k).1 v↔TupOf h v (GR h k).2:=by
 cases k<;>first|exact Iff.rfl|cases ht
theorem GR.keep {h h':Heap} (hk:∀a o its n,h.get? a=some o→o.data=.seq its n→h'.get? a=some o):∀k,(∀v,(GR h k).1 v→(GR h' k).1 v)∧(∀l,(GR h k).2 l→(GR h' k).2 l)
 |.i _=>⟨fun _ p=>p,fun _ p=>p⟩
 |.s _=>⟨fun _ p=>p,fun _ p=>p⟩
 |.nil=>⟨fun _ p=>(GR.tup rfl).2 (((GR.tup rfl).1 p).mono hk fun _ q=>q),fun _ p=>p⟩
 |.cons a b=>by
  have c:∀l,(∃u us,l=u::us∧(GR h a).1 u∧(GR h b).2 us)→∃u us,l=u::us∧(GR h' a).1 u∧(GR h' b).2 us :=
   fun l ⟨u,us,e,p,q⟩=>⟨u,us,e,(GR.keep hk a).1 _ p,(GR.keep hk b).2 _ q⟩
  exact ⟨fun _ p=>(GR.tup rfl).2 (((GR.tup rfl).1 p).mono hk c),c⟩
theorem TupOf.typeIs {s:Shared} {v:Value} {P:List Value→Prop} (x:TupOf s.heap v P):s.TypeIs v "tuple":=by
 obtain ⟨a,o,its,n,rfl,ho,hc,_⟩:=x
 exact ⟨o,ho,hc⟩
theorem GR.inj {h:Heap}:∀x y,(∀v,(GR h x).1 v→(GR h y).1 v→x=y)∧(∀l,(GR h x).2 l→(GR h y).2 l→x=y):=by
 have tt:∀{v:Value} {P P':List Value→Prop},TupOf h v P→TupOf h v P'→∃l,P l∧P' l:=by
  rintro v P P' ⟨a,o,its,n,rfl,ho,_,hd,p⟩ ⟨a',o',its',n',e,ho',_,hd',p'⟩
  cases e
  obtain rfl:o=o':=Option.some.inj (ho.symm.trans ho')
  rw [hd] at hd'
  injection hd' with e1 _
  subst e1
  exact ⟨_,p,p'⟩
 intro x
 induction x with
 |i n =>
  intro y
  refine ⟨fun v p q=>?_,fun l p=>p.elim⟩
  obtain ⟨t,rfl⟩:=p
  cases y with
  |i m=>obtain ⟨u,e⟩:=q;injection e with e1 _;rw [e1]
  |s z=>obtain ⟨u,e⟩:=q;cases e
  |nil=>obtain ⟨a,_,_,_,e,_⟩:=q;cases e
  |cons a b=>obtain ⟨a,_,_,_,e,_⟩:=q;cases e
 |s z =>
  intro y
  refine ⟨fun v p q=>?_,fun l p=>p.elim⟩
  obtain ⟨t,rfl⟩:=p
  cases y with
  |i m=>obtain ⟨u,e⟩:=q;cases e
  |s z=>obtain ⟨u,e⟩:=q;injection e with e1 _;rw [e1]
  |nil=>obtain ⟨a,_,_,_,e,_⟩:=q;cases e
  |cons a b=>obtain ⟨a,_,_,_,e,_⟩:=q;cases e
 |nil =>
  intro y
  have c:∀l,(GR h .nil).2 l→(GR h y).2 l→GK.nil=y:=by
   intro l p q
   cases p
   cases y with
   |i m=>exact q.elim
   |s z=>exact q.elim
   |nil=>rfl
   |cons a b=>obtain ⟨u,us,e,_⟩:=q;cases e
  refine ⟨fun v p q=>?_,c⟩
  cases y with
  |i m=>obtain ⟨u,rfl⟩:=q;obtain ⟨a,_,_,_,e,_⟩:=p;cases e
  |s z=>obtain ⟨u,rfl⟩:=q;obtain ⟨a,_,_,_,e,_⟩:=p;cases e
  |nil=>rfl
  |cons a b=>obtain ⟨l,p,q⟩:=tt ((GR.tup rfl).1 p) ((GR.tup rfl).1 q);exact c l p q
 |cons a b iha ihb =>
  intro y
  have c:∀l,(GR h (.cons a b)).2 l→(GR h y).2 l→GK.cons a b=y:=by
   rintro l ⟨u,us,rfl,p1,p2⟩ q
   cases y with
   |i m=>exact q.elim
   |s z=>exact q.elim
   |nil=>cases q
   |cons a' b' =>
    obtain ⟨u',us',e,q1,q2⟩:=q
    cases e
    rw [(iha a').1 _ p1 q1,(ihb b').2 _ p2 q2]
  refine ⟨fun v p q=>?_,c⟩
  cases y with
  |i m=>obtain ⟨u,rfl⟩:=q;obtain ⟨a,_,_,_,e,_⟩:=p;cases e
  |s z=>obtain ⟨u,rfl⟩:=q;obtain ⟨a,_,_,_,e,_⟩:=p;cases e
  |nil=>obtain ⟨l,p,q⟩:=tt ((GR.tup rfl).1 p) ((GR.tup rfl).1 q);exact c l p q
  |cons a b=>obtain ⟨l,p,q⟩:=tt ((GR.tup rfl).1 p) ((GR.tup rfl).1 q);exact c l p q
section
variable {prog:Program} {w:World} {E:Value→Shared→Prop}
abbrev cO (prog:Program) (w:World) (E:Value→Shared→Prop) (k:GK):Prop :=
 ∀(l:List Value) (A:Around) (s:Shared) (b:Array Int) (Q:Array Int→Shared→Prop),(GR s.heap k).2 l→A.units+gd k≤cLine→(∀n b',b'.toList=b.toList++(gh w k).2→Q b' {s with toks:=n})→
  wpAny (model prog w) A (forIn l b fun x r=>do let h ← pyHash x;pure (ForInStep.yield (r.push h))) Q E s
theorem mK {k:GK} (ht:zD k=true) (hs:(gh w k).1=reduceHash (Builtin.Tuple.tupleHashOf (gh w k).2))
  (lp:cO prog w E k)
  {v:Value} {A:Around} {s:Shared} {Q:Int→Shared→Prop} (hv:(GR s.heap k).1 v) (hu:A.units+gd k<cLine) (hq:∀n,Q (gh w k).1 {s with toks:=n}):wpAny (model prog w) A (pyHash v) Q E s:=by
 have hv':=(GR.tup ht).1 hv
 have hT:=hv'.typeIs
 obtain ⟨a,o,its,n,rfl,ho,hc,hd,hl⟩:=hv'
 refine PySem.W.pyHash_slot (T:="tuple") hT F.slot_tuple_hash F.entry_tuple_hash (F.args_tuple_hash_1 _) (beq_builtin_none _) (.inr (by omega)) ?_
 show wpAny _ A.in1 (Builtin.Tuple.tupleItemsOf _ >>= _) _ E s
 refine wpAny_bind (wpAny_tupleItemsOf ho hd (wpAny_bind ?_))
 rw [← Array.forIn_toList]
 refine lp its.toList _ s #[] _ hl (by simp only [Around.in1_units];omega) fun m b' hb=>?_
 have e:b'.toList=(gh w k).2:=by rw [hb];rfl
 show wpAny _ _ (retInt (Builtin.Tuple.tupleHashOf b'.toList)) _ _ _
 rw [e]
 exact wpAny_bind (wpAny_mkInt (wpAny_pure ⟨_,_,rfl,hs▸hq _⟩))
theorem cN:∀k:GK,(∀(v:Value) (A:Around) (s:Shared) (Q:Int→Shared→Prop),(GR s.heap k).1 v→A.units+gd k<cLine→(∀n,Q (gh w k).1 {s with toks:=n})→wpAny (model prog w) A (pyHash v) Q E s)∧cO prog w E k
 |.i n=>⟨fun v A s Q p _ q=>by obtain ⟨t,rfl⟩:=p;exact wpAny_pyHash_int (q _),fun _ _ _ _ _ p=>p.elim⟩
 |.s z=>⟨fun v A s Q p _ q=>by obtain ⟨t,rfl⟩:=p;exact wpAny_pyHash_str (q _),fun _ _ _ _ _ p=>p.elim⟩
 |.nil=>by
  have lp:cO prog w E .nil:=fun l A s b Q p _ q=>by
   cases p
   exact wpAny_pure (q s.toks b (by simp [gh]))
  exact ⟨fun v A s Q p hu q=>mK rfl (by simp only [gh]) lp p hu q,lp⟩
 |.cons x y=>by
  have lp:cO prog w E (.cons x y):=fun l A s b Q p hu q=>by
   obtain ⟨u,us,rfl,p1,p2⟩:=p
   simp only [gd] at hu
   rw [List.forIn_cons]
   refine wpAny_bind (wpAny_bind ((cN x).1 u A s _ p1 (by omega) fun m=>wpAny_pure ?_))
   exact (cN y).2 us A _ _ Q p2 (by omega) fun m' b' hb=>q m' b' (by simp [hb,gh])
  exact ⟨fun v A s Q p hu q=>mK rfl (by simp only [gh]) lp p hu q,lp⟩
end
section
variable {s:Shared}
theorem sX (n:Nat) (e:Nat→Bool):(List.range (n+1)).all e=(e 0&&(List.range n).all fun j=>e (j+1)):=by
 rw [List.range_succ_eq_map,List.all_cons,List.all_map]
 rfl
abbrev cY (s:Shared) (x y:GK):Prop :=
 ∀(A:Around) (l m:List Value),(GR s.heap x).2 l→(GR s.heap y).2 m→A.units+gd x≤cLine→∃e:Nat→Bool,(∀j (h1:j<l.length) (h2:j<m.length),SeqAt.EqAt A s l[j] m[j] (e j))∧((List.range (min l.length m.length)).all e&&l.length == m.length)=decide (x=y)
theorem cU {x y:GK} (hx:zD x=true) (hy:zD y=true) (lp:cY s x y) {v u:Value} {A:Around} (p:(GR s.heap x).1 v) (q:(GR s.heap y).1 u) (hu:A.units+gd x<cLine):SeqAt.EqAt A s v u (decide (x=y)):=by
 obtain ⟨a,o,its,n,rfl,ho,hc,hd,hl⟩:=(GR.tup hx).1 p
 obtain ⟨a',o',its',n',rfl,ho',hc',hd',hl'⟩:=(GR.tup hy).1 q
 by_cases ea:a=a'
 ·subst ea
  rw [decide_eq_true ((GR.inj x y).1 _ p q)]
  exact SeqAt.EqAt.same _
 ·obtain ⟨e,he,hr⟩:=lp A.in1 _ _ hl hl' (by simp only [Around.in1_units];omega)
  have r:=SeqAt.RcAt.tuples (A:=A) (s:=s) (e:=e) (items:=its) (items2:=its') ⟨o,ho,hc,n,hd⟩ ⟨o',ho',hc',n',hd'⟩ (by omega) (fun j h1 h2=>by have:=he j (by simpa using h1) (by simpa using h2);rwa [Array.getElem_toList,Array.getElem_toList] at this)
  rw [Array.length_toList,Array.length_toList] at hr
  rw [hr] at r
  exact SeqAt.EqAt.of_refs ea r
theorem QA:∀x y:GK,(∀(A:Around) (v u:Value),(GR s.heap x).1 v→(GR s.heap y).1 u→A.units+gd x<cLine→SeqAt.EqAt A s v u (decide (x=y)))∧cY s x y:=by
 intro x
 induction x with
 |i n =>
  intro y
  refine ⟨fun A v u p q hu=>?_,fun _ _ _ p=>p.elim⟩
  obtain ⟨t,rfl⟩:=p
  cases y with
  |i m=>obtain ⟨t',rfl⟩:=q;rw [show decide (GK.i n=GK.i m)=(n == m) by by_cases e:n=m<;>simp [e]];exact SeqAt.EqAt.int_int n t m t'
  |s z=>obtain ⟨t',rfl⟩:=q;exact SeqAt.EqAt.int_str _ _ _ _
  |nil=>obtain ⟨a,o,its,n,rfl,ho,hc,hd,_⟩:=(GR.tup rfl).1 q;exact SeqAt.EqAt.int_tuple _ _ ⟨o,ho,hc,_,hd⟩ (by omega)
  |cons a b=>obtain ⟨a,o,its,n,rfl,ho,hc,hd,_⟩:=(GR.tup rfl).1 q;exact SeqAt.EqAt.int_tuple _ _ ⟨o,ho,hc,_,hd⟩ (by omega)
 |s n =>
  intro y
  refine ⟨fun A v u p q hu=>?_,fun _ _ _ p=>p.elim⟩
  obtain ⟨t,rfl⟩:=p
  cases y with
  |i m=>obtain ⟨t',rfl⟩:=q;exact SeqAt.EqAt.str_int _ _ _ _
  |s z=>obtain ⟨t',rfl⟩:=q;rw [show decide (GK.s n=GK.s z)=(n == z) by by_cases e:n=z<;>simp [e]];exact SeqAt.EqAt.str_str n t z t'
  |nil=>obtain ⟨a,o,its,n,rfl,ho,hc,hd,_⟩:=(GR.tup rfl).1 q;exact SeqAt.EqAt.str_tuple _ _ ⟨o,ho,hc,_,hd⟩ (by omega)
  |cons a b=>obtain ⟨a,o,its,n,rfl,ho,hc,hd,_⟩:=(GR.tup rfl).1 q;exact SeqAt.EqAt.str_tuple _ _ ⟨o,ho,hc,_,hd⟩ (by omega)
 |nil =>
  intro y
  have lp:cY s .nil y:=by
   intro A l m p q _
   cases p
   cases y with
   |i m=>exact q.elim
   |s m=>exact q.elim
   |nil=>cases q;exact ⟨fun _=>true,fun j h1=>absurd h1 (Nat.not_lt_zero j),rfl⟩
   |cons a b=>obtain ⟨u,us,rfl,_⟩:=q;exact ⟨fun _=>true,fun j h1=>absurd h1 (Nat.not_lt_zero j),by simp⟩
  refine ⟨fun A v u p q hu=>?_,lp⟩
  cases y with
  |i m=>obtain ⟨t',rfl⟩:=q;obtain ⟨a,o,its,n,rfl,ho,hc,hd,_⟩:=(GR.tup rfl).1 p;exact SeqAt.EqAt.tuple_int _ _ ⟨o,ho,hc,_,hd⟩ (by omega)
  |s m=>obtain ⟨t',rfl⟩:=q;obtain ⟨a,o,its,n,rfl,ho,hc,hd,_⟩:=(GR.tup rfl).1 p;exact SeqAt.EqAt.tuple_str _ _ ⟨o,ho,hc,_,hd⟩ (by omega)
  |nil=>exact cU rfl rfl lp p q hu
  |cons a b=>exact cU rfl rfl lp p q hu
 |cons x1 x2 ih1 ih2 =>
  intro y
  have lp:cY s (.cons x1 x2) y:=by
   intro A l m p q hu
   simp only [gd] at hu
   obtain ⟨u,us,rfl,p1,p2⟩:=p
   cases y with
   |i m=>exact q.elim
   |s m=>exact q.elim
   |nil=>cases q;exact ⟨fun _=>true,fun j _ h1=>absurd h1 (Nat.not_lt_zero j),by simp⟩
   |cons a b =>
    obtain ⟨u',us',rfl,q1,q2⟩:=q
    obtain ⟨e,he,hr⟩:=(ih2 b).2 A us us' p2 q2 (by omega)
    have h0:=(ih1 a).1 A u u' p1 q1 (by omega)
    refine ⟨fun j=>match j with|0=>decide (x1=a)|j+1=>e j,fun j h1 h2=>?_,?_⟩
    ·cases j with
     |zero=>exact h0
     |succ j=>exact he j (by simpa using h1) (by simpa using h2)
    ·rw [List.length_cons,List.length_cons,Nat.succ_min_succ,sX,Bool.and_assoc]
     have e2:(us.length+1 == us'.length+1)=(us.length == us'.length):=by by_cases e:us.length=us'.length<;>simp [e]
     rw [e2,hr]
     by_cases e1:x1=a<;>by_cases e3:x2=b<;>simp [e1,e3]
  refine ⟨fun A v u p q hu=>?_,lp⟩
  cases y with
  |i m=>obtain ⟨t',rfl⟩:=q;obtain ⟨a,o,its,n,rfl,ho,hc,hd,_⟩:=(GR.tup rfl).1 p;exact SeqAt.EqAt.tuple_int _ _ ⟨o,ho,hc,_,hd⟩ (by omega)
  |s m=>obtain ⟨t',rfl⟩:=q;obtain ⟨a,o,its,n,rfl,ho,hc,hd,_⟩:=(GR.tup rfl).1 p;exact SeqAt.EqAt.tuple_str _ _ ⟨o,ho,hc,_,hd⟩ (by omega)
  |nil=>exact cU rfl rfl lp p q hu
  |cons a b=>exact cU rfl rfl lp p q hu
end
end L2
namespace L2
open PySem PySem.Spec PyProof.Rows
theorem GR.str_key {h:Heap} {k:GK} {z:Str} {u:Tok} (p:(GR h k).1 (.str z u)):k=.s z:=by
 cases k with
 |i n=>obtain ⟨_,e⟩:=p;cases e
 |s y=>obtain ⟨_,e⟩:=p;injection e with e1;rw [e1]
 |nil=>obtain ⟨a,_,_,_,e,_⟩:=p;cases e
 |cons x y=>obtain ⟨a,_,_,_,e,_⟩:=p;cases e
section
variable {prog:Program} {w:World} {E:Value→Shared→Prop} {s:Shared}
abbrev yV (prog:Program) (w:World) (E:Value→Shared→Prop) (s:Shared) (m:Nat) (v:Value):Prop :=
 ∀(A:Around) (Q:Bool→Shared→Prop),Q true s→wpAny (model prog w) A (eqIsQuiet m v) Q E s
theorem iV {v:Value} {P:List Value→Prop} {m:Nat} (x:TupOf s.heap v P) (hp:∀l,P l→∀y∈l,yV prog w E s m y):yV prog w E s (m+1) v:=by
 intro A Q q
 have hT:=x.typeIs
 obtain ⟨a,o,its,n,rfl,ho,hc,hd,hl⟩:=x
 unfold eqIsQuiet
 refine wpAny_bind (wpAny_specialOf hT F.slot_tuple_eq.lookup ?_)
 show wpAny _ A (isInstance _ (.type "tuple") >>= _) _ E s
 refine wpAny_bind (wpAny_isInstance hT isSubtype_tuple_tuple ?_)
 rw [if_neg (by decide)]
 refine wpAny_bind (wpAny_seqItems ho hd (wpAny_bind ?_))
 show wpAny _ A (forIn its _ _) _ E s
 rw [← Array.forIn_toList]
 refine wpAny_forIn_list _ (fun left r s1=>r.1=none∧s1=s∧∀y∈left,yV prog w E s m y) _ ?_ ?_ _ _ ⟨rfl,rfl,hp _ hl⟩
 ·rintro y left r s1 ⟨hr,rfl,hall⟩
  refine wpAny_bind (hall y List.mem_cons_self A _ ?_)
  rw [if_neg (by decide)]
  exact wpAny_pure ⟨rfl,rfl,fun z hz=>hall z (List.mem_cons_of_mem y hz)⟩
 ·rintro ⟨r1,r2⟩ s1 ⟨hr,rfl,_⟩
  cases hr
  exact wpAny_pure q
theorem Q4:∀(k:GK) (m:Nat),gd k≤m→(∀v,(GR s.heap k).1 v→yV prog w E s m v)∧(∀l,(GR s.heap k).2 l→∀y∈l,yV prog w E s (m - 1) y)
 |.i n,m,_=>⟨fun v p A Q q=>by obtain ⟨t,rfl⟩:=p;rw [eqIsQuiet_byValue m rfl];exact wpAny_pure q,fun _ p=>p.elim⟩
 |.s n,m,_=>⟨fun v p A Q q=>by obtain ⟨t,rfl⟩:=p;rw [eqIsQuiet_byValue m rfl];exact wpAny_pure q,fun _ p=>p.elim⟩
 |.nil,m,hm=>by
  have lp:∀l,(GR s.heap .nil).2 l→∀y∈l,yV prog w E s (m - 1) y:=fun l p y hy=>by cases p;cases hy
  refine ⟨fun v p=>?_,lp⟩
  obtain ⟨m',rfl⟩:∃m',m=m'+1:=⟨m - 1,by simp only [gd] at hm;omega⟩
  exact iV ((GR.tup rfl).1 p) lp
 |.cons x y,m,hm=>by
  have hm':=hm
  simp only [gd] at hm'
  have lp:∀l,(GR s.heap (.cons x y)).2 l→∀z∈l,yV prog w E s (m - 1) z:=by
   rintro l ⟨u,us,rfl,p1,p2⟩ z hz
   rcases List.mem_cons.mp hz with rfl|hz
   ·exact (Q4 x (m - 1) (by omega)).1 _ p1
   ·exact (Q4 y m (by omega)).2 us p2 z hz
  refine ⟨fun v p=>?_,lp⟩
  obtain ⟨m',rfl⟩:∃m',m=m'+1:=⟨m - 1,by omega⟩
  exact iV ((GR.tup rfl).1 p) lp
abbrev j3:=GK×Value×Value
def yO (w:World) (x:j3):DictEntry:=⟨(gh w x.1).1,x.2.1,x.2.2⟩
structure KEnt (w:World) (h:Heap) (es:Array DictEntry) (xs:List j3):Prop where
 es:es.toList=xs.map (yO w)
 is:∀x∈xs,(GR h x.1).1 x.2.1
 deep:∀x∈xs,gd x.1≤8
 once:(xs.map (·.1)).Nodup
theorem KEnt.at {h:Heap} {es:Array DictEntry} {xs:List j3} (x:KEnt w h es xs) (j:Nat):es[j]?=(xs[j]?).map (yO w):=by
 rw [← Array.getElem?_toList,x.es,List.getElem?_map]
theorem AQ {xs:List j3} (hn:(xs.map (·.1)).Nodup) {i j:Nat} {k:GK} {p q:Value×Value} (hi:xs[i]?=some (k,p)) (hj:xs[j]?=some (k,q)):i=j:=by
 have a:(xs.map (·.1))[i]?=some k:=by rw [List.getElem?_map,hi];rfl
 have b:(xs.map (·.1))[j]?=some k:=by rw [List.getElem?_map,hj];rfl
 exact (List.getElem?_inj (List.getElem?_eq_some_iff.mp a).1 hn).mp (a.trans b.symm)
def QC (xs:List j3) (k:GK):Option Nat→Prop
 |none=>∀(j:Nat) (p:Value×Value),xs[j]?≠some (k,p)
 |some j=>∃p,xs[j]?=some (k,p)
theorem tM {A:Around} {key:Value} {st:List Value} {Q:Bool→Shared→Prop} (hk:yV prog w E s 8 key) (hs:∀v∈st,yV prog w E s 8 v) (q:Q false s):wpAny (model prog w) A (tableMayTell key st) Q E s:=by
 unfold tableMayTell
 by_cases he:st.isEmpty=true
 ·rw [if_pos he];exact wpAny_pure q
 ·rw [if_neg he]
  refine wpAny_bind (hk A _ ?_)
  rw [if_neg (by decide)]
  refine wpAny_bind (wpAny_forIn_list _ (fun left r s1=>s1=s∧r=(none,())∧∀v∈left,yV prog w E s 8 v) _ ?_ ?_ _ _ ⟨rfl,rfl,hs⟩)
  ·rintro v left r s1 ⟨rfl,rfl,hl⟩
   refine wpAny_bind (hl v List.mem_cons_self A _ ?_)
   rw [if_neg (by decide)]
   exact wpAny_pure ⟨rfl,rfl,fun z hz=>hl z (List.mem_cons_of_mem v hz)⟩
  ·rintro r s1 ⟨rfl,rfl,_⟩
   exact wpAny_pure q
theorem tS {A:Around} {d:Addr} {o:Obj} {es:Array DictEntry} {ep:Nat} {xs:List j3} {k:GK} {key:Value} {pl:List Nat} {Q:Option Nat→Shared→Prop} (hu:∀x∈xs,A.units+gd x.1<cLine) (hkey:(GR s.heap k).1 key)
  (ho:s.heap.get? d=some o) (hd:o.data=.dict es ep) (he:KEnt w s.heap es xs) (hpl:∀j p,xs[j]?=some (k,p)→j∈pl) (q:∀r,QC xs k r→Q r s) :
  wpAny (model prog w) A (dictWalkPlain d key (gh w k).1 es pl) Q E s:=by
 unfold dictWalkPlain
 refine wpAny_bind (wpAny_forIn_list _ (fun left r s1=>s1=s∧r=(none,())∧∀j p,xs[j]?=some (k,p)→j∈left) _ ?_ ?_ _ _ ⟨rfl,rfl,hpl⟩)
 ·rintro x left r s1 ⟨rfl,rfl,hl⟩
  have next:(∀p,xs[x]?≠some (k,p))→∀j p,xs[j]?=some (k,p)→j∈left:=fun hno j p hj=>by
   rcases List.mem_cons.mp (hl j p hj) with rfl|h
   ·exact absurd hj (hno p)
   ·exact h
  rw [he.at x]
  cases hx:xs[x]? with
  |none=>exact wpAny_pure ⟨rfl,rfl,next fun p h=>by rw [hx] at h;cases h⟩
  |some y =>
   obtain ⟨k',v',u'⟩:=y
   have hm:=List.mem_of_getElem? hx
   show wpAny _ A (if ((gh w k').1 == (gh w k).1)=true then _ else _) _ E _
   by_cases hh:((gh w k').1 == (gh w k).1)=true
   ·rw [if_pos hh]
    refine wpAny_bind (wpAny_dictEpoch ho hd (wpAny_bind ((QA k' k).1 A v' key (he.is _ hm) hkey (hu _ hm) prog w E _ (wpAny_bind (wpAny_dictEpoch ho hd ?_)))))
    rw [if_neg (by simp)]
    by_cases hkk:k'=k
    ·rw [decide_eq_true hkk,if_pos rfl]
     exact wpAny_bind (wpAny_rule (wpAny_pure (wpAny_pure (q _ ⟨_,hkk▸hx⟩))))
    ·rw [decide_eq_false hkk,if_neg (by decide)]
     exact wpAny_bind (wpAny_rule (wpAny_pure ⟨rfl,rfl,next fun p h=>by rw [hx] at h;injection h with h;injection h with h _;exact hkk h⟩))
   ·rw [if_neg hh]
    exact wpAny_pure ⟨rfl,rfl,next fun p h=>by rw [hx] at h;injection h with h;injection h with h _;rw [h] at hh;simp at hh⟩
 ·rintro r s1 ⟨rfl,rfl,hl⟩
  exact wpAny_pure (q none (show QC xs k none from fun j p h=>nomatch hl j p h))
theorem tZ {es:Array DictEntry} {h:Int} {j:Nat}:j∈placesWithHash es.size (fun i=>es[i]?.map (·.hash)) h↔j<es.size∧(es[j]?.map (·.hash) == some h)=true:=by
 unfold placesWithHash
 rw [List.mem_filter,List.mem_range]
theorem mO {A:Around} {d:Addr} {o:Obj} {es:Array DictEntry} {ep:Nat} {xs:List j3} {k:GK} {key:Value} {Q:Option Nat→Shared→Prop} (hu:A.units+8<cLine) (hkey:(GR s.heap k).1 key) (hk8:gd k≤8)
    (ho:s.heap.get? d=some o) (hd:o.data=.dict es ep) (he:KEnt w s.heap es xs) (q:∀r,QC xs k r→Q r s) :
    wpAny (model prog w) A (dictFind d key (gh w k).1) Q E s:=by
  have hu':∀x∈xs,A.units+gd x.1<cLine:=fun x hx=>by have:=he.deep x hx;omega
  have hsz:es.size=xs.length:=by rw [← Array.length_toList,he.es,List.length_map]
  have hpl:∀j p,xs[j]?=some (k,p)→j∈placesWithHash es.size (fun i=>es[i]?.map (·.hash)) (gh w k).1:=fun j p hj=>by
    rw [tZ,he.at j,hj]
    refine ⟨?_,by simp [yO]⟩
    rw [hsz]
    exact (List.getElem?_eq_some_iff.mp hj).1
  have hof:∀e∈es,∃x∈xs,e=yO w x:=fun e hin=>by
    have:e∈xs.map (yO w):=he.es▸Array.mem_toList_iff.mpr hin
    obtain ⟨x,hx,rfl⟩:=List.mem_map.mp this
    exact ⟨x,hx,rfl⟩
  have plain:wpAny (model prog w) A (dictWalkPlain d key (gh w k).1 es (placesWithHash es.size (fun i=>es[i]?.map (·.hash)) (gh w k).1)) Q E s:=tS hu' hkey ho hd he hpl q
  have hst:∀v∈(placesWithHash es.size (fun i=>es[i]?.map (·.hash)) (gh w k).1).filterMap (fun i=>es[i]?.map (·.key)),yV prog w E s 8 v:=fun v hv=>by
    obtain ⟨i,_,hi⟩:=List.mem_filterMap.mp hv
    obtain ⟨e,h1,h2⟩:=Option.map_eq_some_iff.mp hi
    obtain ⟨x,hx,rfl⟩:=hof e (Array.mem_of_getElem? h1)
    subst h2
    exact (Q4 x.1 8 (he.deep x hx)).1 _ (he.is x hx)
  have hchg:∀a,key=.ref a→¬(es.any fun e=>e.key == key&&e.hash != (gh w k).1)=true:=fun a ha hany=>by
    rw [← Array.any_toList,List.any_eq_true] at hany
    obtain ⟨e,hin,hc⟩:=hany
    obtain ⟨x,hx,rfl⟩:=hof e (Array.mem_toList_iff.mp hin)
    rw [Bool.and_eq_true] at hc
    have e1:x.2.1=key:=eq_of_beq hc.1
    have e2:=(GR.inj x.1 k).1 key (e1▸he.is x hx) hkey
    have:=hc.2
    simp [yO,e2] at this
  have hkey':=hkey
  have hkind:(∃n t,key=.int n t)∨(∃z t,key=.str z t∧k=.s z)∨∃a,key=.ref a:=by
    cases k with
    |i n=>obtain ⟨t,rfl⟩:=hkey;exact .inl ⟨n,t.1,rfl⟩
    |s z=>obtain ⟨t,rfl⟩:=hkey;exact .inr (.inl ⟨z,t.1,rfl,rfl⟩)
    |nil=>obtain ⟨a,o,its,n,e,_⟩:=(GR.tup rfl).1 hkey;exact .inr (.inr ⟨a,e⟩)
    |cons x y=>obtain ⟨a,o,its,n,e,_⟩:=(GR.tup rfl).1 hkey;exact .inr (.inr ⟨a,e⟩)
  have hnd:(placesWithHash es.size (fun i=>es[i]?.map (·.hash)) (gh w k).1).Nodup:=by
    unfold placesWithHash
    exact List.Pairwise.filter _ List.nodup_range
  have hquiet:yV prog w E s 8 key:=(Q4 k 8 hk8).1 key hkey
  have texts:∀z t,key=.str z t→k=.s z→(es.all fun e=>isExactStrKey e.key)=true→Q (es.findIdx? fun e=>e.key.isStr z) s:=by
    rintro z t rfl rfl _
    cases hf:es.findIdx? fun e=>e.key.isStr z with
    |none =>
      refine q none (show QC xs (.s z) none from fun j p hj=>?_)
      obtain ⟨u,hu⟩:∃u:JM,p.1=.str z u.1:=he.is _ (List.mem_of_getElem? hj)
      have e2:es[j]?=some (yO w (.s z,p)):=by rw [he.at j,hj];rfl
      have:=Array.findIdx?_eq_none_iff.mp hf _ (Array.mem_of_getElem? e2)
      simp [yO,hu,Value.isStr] at this
    |some j =>
      obtain ⟨hlt,hj,_⟩:=Array.findIdx?_eq_some_iff_getElem.mp hf
      refine q (some j) ?_
      obtain ⟨u,hu⟩:=KTD.kt_isStr hj
      have e2:=he.at j
      rw [Array.getElem?_eq_getElem hlt] at e2
      cases hx:xs[j]? with
      |none=>rw [hx] at e2;cases e2
      |some x =>
        rw [hx] at e2
        injection e2 with e2
        have hx1:=he.is x (List.mem_of_getElem? hx)
        have e3:x.2.1=.str z u:=by rw [← hu,e2];rfl
        have e4:x.1=.s z:=GR.str_key (e3▸hx1)
        exact ⟨x.2,by rw [hx,← e4]⟩
  by_cases htx:(∃z t,key=.str z t∧k=.s z)∧(es.all fun e=>isExactStrKey e.key)=true
  · obtain ⟨⟨z,t,rfl,rfl⟩,hall⟩:=htx
    exact KTD.kt_dictFind_strs ho hd hall (texts z t rfl rfl hall)
  unfold dictFind
  refine wpAny_holding (wpAny_bind (wpAny_dictEntries ho hd ?_))
  generalize hpl0:placesWithHash es.size (fun i=>es[i]?.map (·.hash)) (gh w k).1=pl at *
  rcases hkind with ⟨n,t,rfl⟩|⟨z,t,rfl,hz⟩|⟨a,rfl⟩<;>dsimp only
  case' inr.inl=>rw [if_neg fun hall=>htx ⟨⟨z,t,rfl,hz⟩,hall⟩]
  all_goals refine wpAny_ite_split (fun _=>plain) fun _=>?_
  case' inr.inr=>rw [if_neg (hchg a rfl)]
  all_goals refine wpAny_ite_split (fun _=>wpAny_bind (wpAny_pure ?_)) fun _=>wpAny_bind (tM hquiet hst ?_)
  all_goals
    rw [if_neg (by simp)]
    refine wpAny_bind (wpAny_forIn_list _ (fun left b s1=>s1=s∧left.Nodup∧∃hit,b=(none,hit)∧
      ((hit=none∧∀j p,xs[j]?=some (k,p)→j∈left)∨∃j p,hit=some j∧xs[j]?=some (k,p)∧j∉left)) _ ?_ ?_ _ _ ⟨rfl,hnd,none,rfl,.inl ⟨rfl,hpl⟩⟩)
    · rintro x left b s1 ⟨rfl,hno,hit,rfl,hH⟩
      rw [List.nodup_cons] at hno
      rw [he.at x]
      cases hx:xs[x]? with
      |none =>
        refine wpAny_pure ⟨rfl,hno.2,hit,rfl,?_⟩
        rcases hH with ⟨h0,hl⟩|⟨j,p,h1,h2,h3⟩
        · refine .inl ⟨h0,fun j p hj=>?_⟩
          rcases List.mem_cons.mp (hl j p hj) with rfl|h
          · rw [hx] at hj;cases hj
          · exact h
        · exact .inr ⟨j,p,h1,h2,fun h=>h3 (List.mem_cons_of_mem x h)⟩
      |some y =>
        obtain ⟨k',v',u'⟩:=y
        have hm:=List.mem_of_getElem? hx
        have other:k'≠k→(hit=none∧∀j p,xs[j]?=some (k,p)→j∈left)∨∃j p,hit=some j∧xs[j]?=some (k,p)∧j∉left:=fun hne=>by
          rcases hH with ⟨h0,hl⟩|⟨j,p,h1,h2,h3⟩
          · refine .inl ⟨h0,fun j p hj=>?_⟩
            rcases List.mem_cons.mp (hl j p hj) with rfl|h
            · rw [hx] at hj;injection hj with hj;injection hj with hj _;exact absurd hj hne
            · exact h
          · exact .inr ⟨j,p,h1,h2,fun h=>h3 (List.mem_cons_of_mem x h)⟩
        show wpAny _ A (if ((gh w k').1 == (gh w k).1)=true then _ else _) _ E _
        refine wpAny_ite_split (fun hh=>?_) fun hh=>wpAny_pure ⟨rfl,hno.2,hit,rfl,other fun e=>hh (by rw [e];exact beq_self_eq_true _)⟩
        refine wpAny_bind (wpAny_dictEpoch ho hd (wpAny_bind ((QA k' k).1 A v' _ (he.is _ hm) hkey' (hu' _ hm) prog w E _ (wpAny_bind (wpAny_dictEpoch ho hd ?_)))))
        rw [if_neg (by simp)]
        by_cases hkk:k'=k
        · rw [decide_eq_true hkk,if_pos rfl]
          subst hkk
          rcases hH with ⟨rfl,hl⟩|⟨j,p,rfl,h2,h3⟩
          · rw [if_neg (by simp)]
            refine wpAny_bind (wpAny_rule (wpAny_ite_split (fun _=>wpAny_pure (wpAny_pure (q (some x) ⟨_,hx⟩))) fun _=>wpAny_pure ⟨rfl,hno.2,some x,rfl,.inr ⟨x,_,rfl,hx,hno.1⟩⟩))
          · exact absurd (AQ he.once h2 hx▸List.mem_cons_self) h3
        · rw [decide_eq_false hkk,if_neg (by decide)]
          refine wpAny_bind (wpAny_rule ?_)
          rw [if_neg (by simp)]
          exact wpAny_pure ⟨rfl,hno.2,hit,rfl,other hkk⟩
    · rintro b s1 ⟨rfl,_,hit,rfl,hH⟩
      rcases hH with ⟨rfl,hl⟩|⟨j,p,rfl,h2,_⟩
      · exact wpAny_pure (q none (show QC xs _ none from fun j p h=>nomatch hl j p h))
      · exact wpAny_pure (q (some j) ⟨p,h2⟩)
end
end L2
namespace L2
open PySem PySem.Spec PyProof.Rows
section
variable {prog:Program} {w:World} {A:Around} {E:Value→Shared→Prop} {s:Shared}
def DictG (w:World) (h:Heap) (d:Addr) (xs:List j3):Prop:=∃o es ep,h.get? d=some o∧o.ExactDict∧o.data=.dict es ep∧KEnt w h es xs
theorem DictG.typeIs {d:Addr} {xs:List j3} (x:DictG w s.heap d xs):s.TypeIs (.ref d) "dict":=let ⟨o,_,_,ho,hc,_⟩:=x;⟨o,ho,hc.1⟩
def vK (xs:List j3) (k:GK):Option Value:=(xs.find? fun x=>decide (x.1=k)).map (·.2.2)
def yE (xs:List j3) (k:GK) (key v:Value):List j3:=if (xs.any fun x=>decide (x.1=k)) then xs.map (fun x=>if x.1=k then (x.1,x.2.1,v) else x) else xs++[(k,key,v)]
theorem lB {k:GK}:∀{xs:List j3} (_:(xs.map (·.1)).Nodup) {j:Nat} {p:Value×Value} (_:xs[j]?=some (k,p)),vK xs k=some p.2
 |[],_,j,p,h=>by cases j<;>cases h
 |x::xs,hn,0,p,h=>by cases h;simp [vK]
 |x::xs,hn,j+1,p,h=>by
  rw [List.map_cons,List.nodup_cons] at hn
  have h':xs[j]?=some (k,p):=h
  have hne:¬x.1=k:=fun e=>hn.1 (e▸List.mem_map.mpr ⟨_,List.mem_of_getElem? h',rfl⟩)
  have:=lB hn.2 h'
  simpa [vK,List.find?_cons,hne] using this
theorem xX {xs:List j3} {k:GK} (h:QC xs k none):(xs.any fun x=>decide (x.1=k))=false:=by
 rw [Bool.eq_false_iff]
 intro hx
 rw [List.any_eq_true] at hx
 obtain ⟨x,hm,hk⟩:=hx
 obtain ⟨j,hj⟩:=List.mem_iff_getElem?.mp hm
 exact h j x.2 (by rw [hj,← of_decide_eq_true hk])
theorem wQ {xs:List j3} {k:GK} (h:QC xs k none):vK xs k=none:=by
 have:xs.find? (fun x=>decide (x.1=k))=none:=by
  rw [List.find?_eq_none]
  intro x hm hk
  obtain ⟨j,hj⟩:=List.mem_iff_getElem?.mp hm
  exact h j x.2 (by rw [hj,← of_decide_eq_true hk])
 rw [vK,this]
 rfl
theorem fS {d:Addr} {xs:List j3} {k:GK} {key:Value} {Q:Option Value→Shared→Prop} (hu:A.units+8<cLine) (hkey:(GR s.heap k).1 key) (hk8:gd k≤8) (hm:DictG w s.heap d xs)
  (q:∀n,Q (vK xs k) {s with toks:=n}):wpAny (model prog w) A (dictGet d key) Q E s:=by
 obtain ⟨o,es,ep,ho,hc,hd,he⟩:=hm
 unfold dictGet
 refine wpAny_holding (wpAny_bind ((cN k).1 key A s _ hkey (by omega) fun n=>wpAny_bind (mO (s:={s with toks:=n}) hu hkey hk8 ho hd he fun r hr=>?_)))
 cases r with
 |none=>rw [← wQ hr];exact wpAny_pure (q n)
 |some j =>
  obtain ⟨p,hj⟩:=hr
  refine wpAny_bind (wpAny_dictEntries (s:={s with toks:=n}) ho hd ?_)
  rw [he.at j,hj]
  refine wpAny_pure ?_
  have:=q n
  rw [lB he.once hj] at this
  exact this
theorem iA {h h':Heap} {d:Addr} {o:Obj} {es:Array DictEntry} {ep:Nat} (ho:h.get? d=some o) (hd:o.data=.dict es ep) (hs:Heap.SameBut d h h'):∀a o its n,h.get? a=some o→o.data=.seq its n→h'.get? a=some o:=by
 intro a o' its n ho' hd'
 have hne:a≠d:=by
  rintro rfl
  obtain rfl:o'=o:=Option.some.inj (ho'.symm.trans ho)
  rw [hd] at hd'
  cases hd'
 exact (hs.2 a hne).trans ho'
theorem uX {xs:List j3} {k:GK} {v:Value}:(xs.map (fun x=>if x.1=k then (x.1,x.2.1,v) else x)).map (·.1)=xs.map (·.1):=by
 rw [List.map_map]
 refine List.map_congr_left fun x _=>?_
 show (if x.1=k then (x.1,x.2.1,v) else x).1=x.1
 split<;>rfl
theorem i3 {k:GK} {v:Value}:∀{xs:List j3} (_:(xs.map (·.1)).Nodup) {j:Nat} {p:Value×Value} (_:xs[j]?=some (k,p)),
  (xs.map (yO w)).modify j (fun e=>{e with val:=v})=(xs.map (fun x=>if x.1=k then (x.1,x.2.1,v) else x)).map (yO w)
 |[],_,j,p,h=>by cases j<;>cases h
 |x::xs,hn,0,p,h=>by
  cases h
  rw [List.map_cons,List.nodup_cons] at hn
  have e:xs.map (fun x=>if x.1=k then (x.1,x.2.1,v) else x)=xs:=by
   refine (List.map_congr_left fun x hx=>?_).trans (List.map_id xs)
   have hne:¬x.1=k:=fun e=>hn.1 (List.mem_map.mpr ⟨x,hx,e⟩)
   show (if x.1=k then (x.1,x.2.1,v) else x)=x
   rw [if_neg hne]
  rw [List.map_cons,List.map_cons,e]
  simp [yO]
 |x::xs,hn,j+1,p,h=>by
  rw [List.map_cons,List.nodup_cons] at hn
  have h':xs[j]?=some (k,p):=h
  have hne:¬x.1=k:=fun e=>hn.1 (e▸List.mem_map.mpr ⟨_,List.mem_of_getElem? h',rfl⟩)
  rw [List.map_cons,List.map_cons,if_neg hne,List.map_cons,← i3 hn.2 h']
  rfl
theorem fQ {d:Addr} {xs:List j3} {k:GK} {key v:Value} {Q:Unit→Shared→Prop} (hu:A.units+8<cLine) (hkey:(GR s.heap k).1 key) (hk8:gd k≤8) (hm:DictG w s.heap d xs) (hsz:xs.length≤sizeLine)
  (q:∀n h',DictG w h' d (yE xs k key v)→Heap.SameBut d s.heap h'→Q () {s with heap:=h',toks:=n}):wpAny (model prog w) A (dictSet d key v) Q E s:=by
 obtain ⟨o,es,ep,ho,hc,hd,he⟩:=hm
 have hz:es.size=xs.length:=by rw [← Array.length_toList,he.es,List.length_map]
 unfold dictSet
 refine wpAny_holding (wpAny_bind ((cN k).1 key A s _ hkey (by omega) fun n=>?_))
 unfold dictSetHashed
 refine wpAny_holding (wpAny_bind (mO (s:={s with toks:=n}) hu hkey hk8 ho hd he fun r hr=>?_))
 cases r with
 |none =>
  have e0:yE xs k key v=xs++[(k,key,v)]:=by rw [yE,xX hr];rfl
  refine wpAny_bind (wpAny_rule (wpAny_updateDictKeys (hz:=by omega) (s:={s with toks:=n}) ho hd (q n _ ?_ (Heap.SameBut.update ..))))
  rw [e0]
  have kp:=iA ho hd (Heap.SameBut.update (h:=s.heap) (a:=d) (f:=fun o=>o.mapDictKeys fun es=>es.push ⟨(gh w k).1,key,v⟩))
  refine ⟨_,_,ep+1,Heap.get?_update_self _ ho (Obj.isFreed_of_dict (Obj.data_mapDictKeys hd _)),hc.mapDictKeys _,Obj.data_mapDictKeys hd _,?_,?_,?_,?_⟩
  ·rw [Array.toList_push,he.es,List.map_append];rfl
  ·intro x hx
   rcases List.mem_append.mp hx with hx|hx
   ·exact (GR.keep kp x.1).1 _ (he.is x hx)
   ·cases List.mem_singleton.mp hx;exact (GR.keep kp k).1 _ hkey
  ·intro x hx
   rcases List.mem_append.mp hx with hx|hx
   ·exact he.deep x hx
   ·cases List.mem_singleton.mp hx;exact hk8
  ·rw [List.map_append,List.nodup_append]
   refine ⟨he.once,by simp,fun a ha b hb e=>?_⟩
   cases List.mem_singleton.mp hb
   obtain ⟨x,hx,rfl⟩:=List.mem_map.mp ha
   obtain ⟨j,hj⟩:=List.mem_iff_getElem?.mp hx
   have e':x.1=k:=e
   exact hr j x.2 (by rw [hj,← e'])
 |some j =>
  obtain ⟨p,hj⟩:=hr
  have e0:yE xs k key v=xs.map (fun x=>if x.1=k then (x.1,x.2.1,v) else x):=by
   rw [yE,if_pos]
   rw [List.any_eq_true]
   exact ⟨_,List.mem_of_getElem? hj,decide_eq_true rfl⟩
  refine wpAny_bind (wpAny_rule (wpAny_bind (wpAny_updateDict (s:={s with toks:=n}) ho hd (wpAny_point (q n _ ?_ (Heap.SameBut.update ..))))))
  rw [e0]
  have kp:=iA ho hd (Heap.SameBut.update (h:=s.heap) (a:=d) (f:=fun o=>o.mapDict fun es=>es.modify j fun e=>{e with val:=v}))
  refine ⟨_,_,ep,Heap.get?_update_self _ ho (Obj.isFreed_of_dict (Obj.data_mapDict hd _)),hc.mapDict _,Obj.data_mapDict hd _,?_,?_,?_,?_⟩
  ·rw [← i3 he.once hj,← he.es]
   simp
  ·intro x hx
   obtain ⟨y,hy,rfl⟩:=List.mem_map.mp hx
   have:=(GR.keep kp y.1).1 _ (he.is y hy)
   split<;>exact this
  ·intro x hx
   obtain ⟨y,hy,rfl⟩:=List.mem_map.mp hx
   have:=he.deep y hy
   split<;>exact this
  ·rw [uX];exact he.once
end
end L2
namespace L2
open PySem PySem.Spec PyProof.Rows
section
variable {prog:Program} {w:World} {A:Around} {E:Value→Shared→Prop} {s:Shared} {d:Addr} {xs:List j3} {k:GK} {key v:Value}
theorem xQ {Q:Value→Shared→Prop} (hu:A.units+9<cLine) (hkey:(GR s.heap k).1 key) (hk8:gd k≤8) (hm:DictG w s.heap d xs) (hv:vK xs k=some v) (q:∀n,Q v {s with toks:=n}) :
  wpAny (model prog w) A (getItem (.ref d) key) Q E s:=by
 have T:=hm.typeIs
 unfold getItem
 refine wpAny_holding (wpAny_bind (wpAny_sequenceKey T (by decide) (wpAny_bind (wpAny_callSpecial?_slot (name:=Str.ofString "__getitem__") T slot_dict_getitem (wpAny_call_entry slot_dict_getitem T entry_dict_getitem ?_ (args_dict_getitem _ _))))))
 show wpAny _ A.in1 (dictGet d key >>= _) _ E s
 refine wpAny_bind (fS (by simp only [Around.in1_units];omega) hkey hk8 hm fun n=>?_)
 rw [hv]
 exact wpAny_pure ⟨v,rfl,wpAny_pure (q n)⟩
theorem CM {Q:Value→Shared→Prop} (hu:A.units+9<cLine) (hkey:(GR s.heap k).1 key) (hk8:gd k≤8) (hd:(d == sysModules)=false) (hm:DictG w s.heap d xs) (q:∀n,Q (.bool (vK xs k).isSome) {s with toks:=n}) :
  wpAny (model prog w) A (compareOp .In key (.ref d)) Q E s:=by
 have T:=hm.typeIs
 show wpAny _ A (do return .bool (← contains (.ref d) key)) Q E s
 refine wpAny_bind ?_
 unfold contains
 refine wpAny_holding (wpAny_bind (wpAny_specialOf T slot_dict_contains.lookup ?_))
 show wpAny _ A (if (some (Value.builtin "dict.__contains__") == some Value.none)=true then _ else _) _ E s
 rw [if_neg (by rw [beq_builtin_none];decide)]
 refine wpAny_bind (wpAny_callSpecialUnlessNone?_slot (name:=Str.ofString "__contains__") T slot_dict_contains (wpAny_call_entry slot_dict_contains T entry_dict_contains ?_ (args_dict_contains _ _)))
 show wpAny _ A.in1 (dictGet d key >>= _) _ E s
 refine wpAny_bind (fS (by simp only [Around.in1_units];omega) hkey hk8 hm fun n=>?_)
 have q':=q n
 cases hg:vK xs k with
 |some u =>
  rw [hg] at q'
  show wpAny _ A.in1 (ret (.bool true)) _ E _
  exact wpAny_pure ⟨_,rfl,wpAny_truthy_bool (wpAny_pure q')⟩
 |none =>
  rw [hg] at q'
  show wpAny _ A.in1 (Builtin.Dict.pendingKey? d key >>= _) _ E _
  exact wpAny_bind (wpAny_pendingKey_other hd (wpAny_pure ⟨_,rfl,wpAny_truthy_bool (wpAny_pure q')⟩))
theorem uU {Q:Unit→Shared→Prop} (hu:A.units+9<cLine) (hkey:(GR s.heap k).1 key) (hk8:gd k≤8) (hm:DictG w s.heap d xs) (hsz:xs.length≤sizeLine)
  (q:∀n h',DictG w h' d (yE xs k key v)→Heap.SameBut d s.heap h'→Q () {s with heap:=h',toks:=n}):wpAny (model prog w) A (setItem (.ref d) key v) Q E s:=by
 have T:=hm.typeIs
 unfold setItem
 refine wpAny_holding (wpAny_bind (wpAny_sequenceKey T (by decide) (wpAny_bind (wpAny_callSpecial?_slot (name:=Str.ofString "__setitem__") T slot_dict_setitem (wpAny_call_entry slot_dict_setitem T entry_dict_setitem ?_ (args_dict_setitem _ _ _))))))
 show wpAny _ A.in1 (Builtin.Dict.notOrdered "__setitem__" _ >>= _) _ E s
 refine wpAny_bind (wpAny_notOrdered_dict T ?_)
 show wpAny _ A.in1 (dictSet d key v >>= _) _ E s
 exact wpAny_bind (fQ (by simp only [Around.in1_units];omega) hkey hk8 hm hsz fun n h' m sb=>wpAny_pure ⟨.none,rfl,wpAny_pure (q n h' m sb)⟩)
end
end L2
namespace L2
open PySem PySem.Spec PyProof.Rows
def GV (H:Hp):GK→(V→Prop)×(List V→Prop)
 |.i n=>(fun v=>v=.int n,fun _=>False)
 |.s x=>(fun v=>v=.str x,fun _=>False)
 |.nil=>(fun v=>∃a,v=.ref a∧H a=some (.tup []),fun l=>l=[])
 |.cons x y=>(fun v=>∃a l,v=.ref a∧H a=some (.tup l)∧∃u us,l=u::us∧(GV H x).1 u∧(GV H y).2 us,fun l=>∃u us,l=u::us∧(GV H x).1 u∧(GV H y).2 us)
theorem GV.keep {H H':Hp} (hk:∀a l,H a=some (.tup l)→H' a=some (.tup l)):∀k,(∀v,(GV H k).1 v→(GV H' k).1 v)∧(∀l,(GV H k).2 l→(GV H' k).2 l)
 |.i _=>⟨fun _ p=>p,fun _ p=>p⟩
 |.s _=>⟨fun _ p=>p,fun _ p=>p⟩
 |.nil=>⟨fun _ p=>by obtain ⟨a,e,q⟩:=p;exact ⟨a,e,hk _ _ q⟩,fun _ p=>p⟩
 |.cons x y=>by
  have c:∀l,(∃u us,l=u::us∧(GV H x).1 u∧(GV H y).2 us)→∃u us,l=u::us∧(GV H' x).1 u∧(GV H' y).2 us :=
   fun l ⟨u,us,e,p,q⟩=>⟨u,us,e,(GV.keep hk x).1 _ p,(GV.keep hk y).2 _ q⟩
  exact ⟨fun _ p=>by obtain ⟨a,l,e,q,r⟩:=p;exact ⟨a,l,e,hk _ _ q,c l r⟩,c⟩
section
variable {P:Program} {w:World} {H:Hp} {h:Heap}
theorem GV.rel (hok:HOk P w H h):∀k,(∀v u,(GV H k).1 v→RelV v u→(GR h k).1 u)∧(∀l us,(GV H k).2 l→Vals l us→(GR h k).2 us)
 |.i _=>⟨fun v u p r=>by cases p;exact r,fun _ _ p=>p.elim⟩
 |.s _=>⟨fun v u p r=>by cases p;exact r,fun _ _ p=>p.elim⟩
 |.nil=>by
  refine ⟨fun v u p r=>?_,fun l us p r=>by cases p;cases r;exact rfl⟩
  obtain ⟨a,rfl,q⟩:=p
  cases r
  obtain ⟨_,its,r2,o,ho,hc,n,hd⟩:=hok a _ q
  cases r2
  exact ⟨a,o,_,n,rfl,ho,hc,hd,rfl⟩
 |.cons x y=>by
  have c:∀l us,(∃u vs,l=u::vs∧(GV H x).1 u∧(GV H y).2 vs)→Vals l us→∃u vs,us=u::vs∧(GR h x).1 u∧(GR h y).2 vs:=by
   rintro l us ⟨u,vs,rfl,p1,p2⟩ r
   cases r with
   |cons r1 r2=>exact ⟨_,_,rfl,(GV.rel hok x).1 _ _ p1 r1,(GV.rel hok y).2 _ _ p2 r2⟩
  refine ⟨fun v u p r=>?_,c⟩
  obtain ⟨a,l,rfl,q,p'⟩:=p
  cases r
  obtain ⟨_,its,r2,o,ho,hc,n,hd⟩:=hok a _ q
  exact ⟨a,o,_,n,rfl,ho,hc,hd,c l its p' r2⟩
end
abbrev jS:=GK×V×V
def RelG (p:jS) (q:j3):Prop:=p.1=q.1∧RelV p.2.1 q.2.1∧RelV p.2.2 q.2.2
def GO (w:World) (d:Addr) (kvs:List jS):HO:=.ext fun h=>kvs.length≤sizeLine∧(d == sysModules)=false∧∃xs:List j3,Paired RelG kvs xs∧∃o es ep,h.get? d=some o∧o.ExactDict∧o.data=.dict es ep∧es.toList=xs.map (yO w)
structure GOk (H:Hp) (kvs:List jS):Prop where
 key:∀p∈kvs,(GV H p.1).1 p.2.1
 deep:∀p∈kvs,gd p.1≤8
 once:(kvs.map (·.1)).Nodup
def jU (kvs:List jS) (k:GK):Option V:=(kvs.find? fun x=>decide (x.1=k)).map (·.2.2)
def qJ (kvs:List jS) (k:GK) (y v:V):List jS:=if (kvs.any fun x=>decide (x.1=k)) then kvs.map (fun x=>if x.1=k then (x.1,x.2.1,v) else x) else kvs++[(k,y,v)]
theorem RelG.keys:∀{kvs:List jS} {xs:List j3},Paired RelG kvs xs→kvs.map (·.1)=xs.map (·.1)
 |_,_,.nil=>rfl
 |_,_,.cons r t=>by rw [List.map_cons,List.map_cons,r.1,RelG.keys t]
theorem RelG.mem {q:j3}:∀{kvs:List jS} {xs:List j3},Paired RelG kvs xs→q∈xs→∃p∈kvs,RelG p q
 |_,_,.nil,h=>nomatch h
 |_,_,.cons r t,h=>by
  rcases List.mem_cons.mp h with rfl|h
  ·exact ⟨_,List.mem_cons_self,r⟩
  ·obtain ⟨p,hp,rp⟩:=RelG.mem t h
   exact ⟨p,List.mem_cons_of_mem _ hp,rp⟩
theorem RelG.get {k:GK} {v:V}:∀{kvs:List jS} {xs:List j3},Paired RelG kvs xs→jU kvs k=some v→∃u,vK xs k=some u∧RelV v u
 |_,_,.nil,e=>by cases e
 |p::kvs,q::xs,.cons r t,e=>by
  by_cases h:p.1=k
  ·have h':q.1=k:=r.1▸h
   simp only [jU,List.find?_cons,h,decide_true,Option.map_some,Option.some.injEq] at e
   exact ⟨q.2.2,by simp [vK,h'],e▸r.2.2⟩
  ·have h':¬q.1=k:=r.1▸h
   simp only [jU,List.find?_cons,h,decide_false] at e
   obtain ⟨u,e1,e2⟩:=RelG.get t e
   exact ⟨u,by simpa [vK,List.find?_cons,h'] using e1,e2⟩
theorem RelG.none {k:GK}:∀{kvs:List jS} {xs:List j3},Paired RelG kvs xs→(vK xs k).isSome=(jU kvs k).isSome
 |_,_,.nil=>rfl
 |p::kvs,q::xs,.cons r t=>by
  have ih:=RelG.none (k:=k) t
  by_cases h:p.1=k
  ·have h':q.1=k:=r.1▸h
   simp [vK,jU,h,h']
  ·have h':¬q.1=k:=r.1▸h
   simpa [vK,jU,List.find?_cons,h,h'] using ih
theorem RelG.any {k:GK}:∀{kvs:List jS} {xs:List j3},Paired RelG kvs xs→(xs.any fun x=>decide (x.1=k))=(kvs.any fun x=>decide (x.1=k))
 |_,_,.nil=>rfl
 |_,_,.cons r t=>by rw [List.any_cons,List.any_cons,RelG.any t,r.1]
theorem RelG.put {k:GK} {v:V} {u:Value} (rv:RelV v u):∀{kvs:List jS} {xs:List j3},Paired RelG kvs xs→
  Paired RelG (kvs.map (fun x=>if x.1=k then (x.1,x.2.1,v) else x)) (xs.map (fun x=>if x.1=k then (x.1,x.2.1,u) else x))
 |_,_,.nil=>.nil
 |p::kvs,q::xs,.cons r t=>by
  refine .cons ?_ (RelG.put rv t)
  by_cases h:p.1=k
  ·have h':q.1=k:=r.1▸h
   dsimp only;rw [if_pos h,if_pos h'];exact ⟨r.1,r.2.1,rv⟩
  ·have h':¬q.1=k:=r.1▸h
   dsimp only;rw [if_neg h,if_neg h'];exact r
theorem RelG.app:∀{kvs kvs':List jS} {xs xs':List j3},Paired RelG kvs xs→Paired RelG kvs' xs'→Paired RelG (kvs++kvs') (xs++xs')
 |_,_,_,_,.nil,t=>t
 |_,_,_,_,.cons r t,t'=>.cons r (RelG.app t t')
theorem RelG.set {k:GK} {y v:V} {key u:Value} (ry:RelV y key) (rv:RelV v u) {kvs:List jS} {xs:List j3} (r:Paired RelG kvs xs):Paired RelG (qJ kvs k y v) (yE xs k key u):=by
 unfold qJ yE
 rw [RelG.any r]
 split
 ·exact RelG.put rv r
 ·exact RelG.app r (.cons ⟨rfl,ry,rv⟩ .nil)
theorem Z3 (kvs:List jS) (k:GK) (y v:V):(qJ kvs k y v).length≤kvs.length+1:=by
 unfold qJ
 split
 ·rw [List.length_map];omega
 ·rw [List.length_append];exact Nat.le_refl _
section
variable {X:Cx} {pins:List (Addr×Obj)} {σ:St} {H:Hp} {s:Shared} {d:Addr} {k:GK} {y v:V} {u r:Value} {A:Around} {E:Value→Shared→Prop} {kvs:List jS}
theorem Inv.gdict (I:Inv X pins σ H s) (e:Rd H d (GO X.w d kvs)) (g:GOk H kvs):kvs.length≤sizeLine∧(d == sysModules)=false∧∃xs,Paired RelG kvs xs∧DictG X.w s.heap d xs:=by
 obtain ⟨⟨hl,hm,xs,rel,o,es,ep,ho,hc,hd,he⟩,_,_⟩:=e.ok I.hok
 refine ⟨hl,hm,xs,rel,o,es,ep,ho,hc,hd,he,?_,?_,by rw [← RelG.keys rel];exact g.once⟩
 ·intro q hq
  obtain ⟨p,hp,rp⟩:=RelG.mem rel hq
  exact rp.1▸(GV.rel I.hok p.1).1 _ _ (g.key p hp) rp.2.1
 ·intro q hq
  obtain ⟨p,hp,rp⟩:=RelG.mem rel hq
  exact rp.1▸g.deep p hp
theorem CO {Q:Value→Shared→Prop} (hu:A.units+9<cLine) (I:Inv X pins σ H s) (e:Rd H d (GO X.w d kvs)) (g:GOk H kvs) (hy:(GV H k).1 y) (h8:gd k≤8) (hv:jU kvs k=some v) (ry:RelV y u)
  (h:∀w' s',Inv X pins σ H s'→RelV v w'→Q w' s'):wpAny (model X.prog X.w) A (getItem (.ref d) u) Q E s:=by
 obtain ⟨_,_,xs,rel,dd⟩:=I.gdict e g
 obtain ⟨w',hw,rw'⟩:=RelG.get rel hv
 exact y0 (xQ hu ((GV.rel I.hok k).1 y u hy ry) h8 dd hw fun n hle=>h w' _ (I.tok n (Nat.lt_of_lt_of_le I.tk hle)) rw')
theorem EU {Q:Value→Shared→Prop} (hu:A.units+9<cLine) (I:Inv X pins σ H s) (e:Rd H d (GO X.w d kvs)) (g:GOk H kvs) (hy:(GV H k).1 y) (h8:gd k≤8) (ry:RelV y u)
  (h:∀s',Inv X pins σ H s'→Q (.bool (jU kvs k).isSome) s'):wpAny (model X.prog X.w) A (compareOp .In u (.ref d)) Q E s:=by
 obtain ⟨_,hm,xs,rel,dd⟩:=I.gdict e g
 exact y0 (CM hu ((GV.rel I.hok k).1 y u hy ry) h8 hm dd fun n hle=>by rw [RelG.none rel];exact h _ (I.tok n (Nat.lt_of_lt_of_le I.tk hle)))
theorem BC {Q:Unit→Shared→Prop} (hu:A.units+9<cLine) (I:Inv X pins σ H s) (e:H d=some (GO X.w d kvs)) (g:GOk H kvs) (hy:(GV H k).1 y) (h8:gd k≤8) (hl:kvs.length<sizeLine) (ry:RelV y u) (rv:RelV v r)
  (h:∀s',Inv X pins σ (jC H d (GO X.w d (qJ kvs k y v))) s'→Q () s'):wpAny (model X.prog X.w) A (setItem (.ref d) u r) Q E s:=by
 obtain ⟨_,hm,xs,rel,dd⟩:=I.gdict (.of e) g
 refine y0 (uU hu ((GV.rel I.hok k).1 y u hy ry) h8 dd (by rw [← Paired.length rel];omega) fun n h' dd' sb hle=>h _ ?_)
 obtain ⟨o,es,ep,ho,hc,hd,he,_⟩:=dd'
 refine oG (ht:=Nat.lt_of_lt_of_le I.tk hle) I (by rw [e];exact True.intro) sb ⟨o,ho⟩ ⟨⟨by have:=Z3 kvs k y v;omega,hm,_,RelG.set ry rv rel,o,es,ep,ho,hc,hd,he⟩,⟨o,ho⟩,?_⟩
 rintro h1 h2 ⟨a1,a2,xs',a3,o',es',ep',a4,a5⟩ kp
 exact ⟨a1,a2,xs',a3,o',es',ep',kp _ a4,a5⟩
end
end L2
namespace L2
open PySem PySem.Spec PyProof.Rows
theorem GOk.keep {H H':Hp} {kvs:List jS} (g:GOk H kvs) (hk:∀a l,H a=some (.tup l)→H' a=some (.tup l)):GOk H' kvs:=⟨fun p hp=>(GV.keep hk p.1).1 _ (g.key p hp),g.deep,g.once⟩
theorem GOk.nil {H:Hp}:GOk H []:=⟨fun _ h=>(nomatch h),fun _ h=>(nomatch h),List.nodup_nil⟩
theorem GOk.set {H:Hp} {kvs:List jS} {k:GK} {y v:V} (g:GOk H kvs) (hy:(GV H k).1 y) (h8:gd k≤8):GOk H (qJ kvs k y v):=by
 unfold qJ
 by_cases ha:(kvs.any fun x=>decide (x.1=k))=true
 ·rw [if_pos ha]
  refine ⟨fun p hp=>?_,fun p hp=>?_,?_⟩
  ·obtain ⟨q,hq,rfl⟩:=List.mem_map.mp hp
   have:=g.key q hq
   split<;>exact this
  ·obtain ⟨q,hq,rfl⟩:=List.mem_map.mp hp
   have:=g.deep q hq
   split<;>exact this
  ·rw [List.map_map,show ((fun x:jS=>x.1)∘fun x=>if x.1=k then (x.1,x.2.1,v) else x)=(·.1) from funext fun x=>by show (if x.1=k then (x.1,x.2.1,v) else x).1=x.1;split<;>rfl]
   exact g.once
 ·rw [if_neg ha]
  refine ⟨fun p hp=>?_,fun p hp=>?_,?_⟩
  ·rcases List.mem_append.mp hp with hp|hp
   ·exact g.key p hp
   ·cases List.mem_singleton.mp hp;exact hy
  ·rcases List.mem_append.mp hp with hp|hp
   ·exact g.deep p hp
   ·cases List.mem_singleton.mp hp;exact h8
  ·rw [List.map_append,List.nodup_append]
   refine ⟨g.once,by simp,fun a h1 b h2 e=>ha ?_⟩
   cases List.mem_singleton.mp h2
   obtain ⟨q,hq,rfl⟩:=List.mem_map.mp h1
   rw [List.any_eq_true]
   exact ⟨q,hq,decide_eq_true e⟩
theorem J5 {kvs:List jS} {k k':GK} {y v:V}:jU (qJ kvs k y v) k'=if k'=k then some v else jU kvs k':=by
 unfold qJ
 by_cases ha:(kvs.any fun x=>decide (x.1=k))=true
 ·rw [if_pos ha]
  induction kvs with
  |nil=>cases ha
  |cons p t ih =>
   by_cases hp:p.1=k
   ·by_cases hk:k'=k
    ·subst hk;simp [jU,hp]
    ·have ne:¬p.1=k':=fun e=>hk (e▸hp)
     have ne2:¬k=k':=fun e=>hk e.symm
     rw [if_neg hk]
     have tl:∀l:List jS,jU (l.map fun x=>if x.1=k then (x.1,x.2.1,v) else x) k'=jU l k':=by
      intro l
      induction l with
      |nil=>rfl
      |cons q l ihl =>
       rw [List.map_cons]
       by_cases hq:q.1=k
       ·have n3:¬q.1=k':=fun e=>ne2 (hq▸e)
        rw [if_pos hq]
        unfold jU at ihl ⊢
        rw [List.find?_cons_of_neg (by simpa using n3),List.find?_cons_of_neg (by simpa using n3)]
        exact ihl
       ·rw [if_neg hq]
        unfold jU at ihl ⊢
        by_cases hq':q.1=k'
        ·rw [List.find?_cons_of_pos (by simpa using hq'),List.find?_cons_of_pos (by simpa using hq')]
        ·rw [List.find?_cons_of_neg (by simpa using hq'),List.find?_cons_of_neg (by simpa using hq')]
         exact ihl
     exact tl (p::t)
   ·have ha':(t.any fun x=>decide (x.1=k))=true:=by simpa [hp] using ha
    have:=ih ha'
    unfold jU at this ⊢
    by_cases hq:p.1=k'
    ·have:¬k'=k:=fun e=>hp (hq.trans e)
     simp [List.find?_cons,hp,hq,this]
    ·simpa [List.find?_cons,hp,hq] using this
 ·rw [if_neg ha]
  unfold jU
  rw [List.find?_append]
  by_cases hk:k'=k
  ·subst hk
   have:kvs.find? (fun x=>decide (x.1=k'))=none:=by
    rw [List.find?_eq_none]
    intro x hx e
    exact ha (List.any_eq_true.mpr ⟨x,hx,e⟩)
   simp [this]
  ·have n2:¬k=k':=fun e=>hk e.symm
   rw [if_neg hk]
   cases hf:kvs.find? (fun x=>decide (x.1=k'))<;>simp [n2]
def pC (w:World) (td ty:TE):TE:=fun σ H Q=>td σ H fun x H1=>ty σ H1 fun y H2=>∃(d:Addr) (kvs:List jS) (k:GK) (v:V),x=.ref d∧Rd H2 d (GO w d kvs)∧GOk H2 kvs∧(GV H2 k).1 y∧gd k≤8∧jU kvs k=some v∧Q v H2
def D1 (w:World) (ty td:TE):TE:=fun σ H Q=>ty σ H fun y H1=>td σ H1 fun x H2=>∃(d:Addr) (kvs:List jS) (k:GK),x=.ref d∧Rd H2 d (GO w d kvs)∧GOk H2 kvs∧(GV H2 k).1 y∧gd k≤8∧Q (.bl (jU kvs k).isSome) H2
def DD (w:World) (td ty tv:TE):TS:=fun D σ H=>tv σ H fun v H1=>td σ H1 fun x H2=>ty σ H2 fun y H3=>∃(d:Addr) (kvs:List jS) (k:GK),x=.ref d∧H3 d=some (GO w d kvs)∧GOk H3 kvs∧(GV H3 k).1 y∧gd k≤8∧kvs.length<sizeLine∧D.nx σ (jC H3 d (GO w d (qJ kvs k y v)))
def C6 (w:World):TE:=fun _ H Q=>∀p,H p=none→Q (.ref p) (jC H p (GO w p []))
section
variable {X:Cx} {o i e value:Expr} {pos pos':Pos} {td ty tv:TE}
theorem vV (hu:X.A.units+9<cLine) (ho:PE X o td) (hi:PE X i ty) (hs:gQ i):PE X (.Subscript o i pos) (pC X.w td ty):=by
 intro pins s σ H Q I h
 refine x6 PySem.F.slot_dict_getitem.lookup hs (jM (ho pins s σ H _ I h) fun u s1 ⟨x,H1,I1,rx,q1⟩=>jM (hi pins s1 σ H1 _ I1 q1) fun iv s2 ⟨y,H2,I2,ry,d,kvs,k,v,ex,hd,g,hy,h8,hv,q2⟩=>?_)
 subst ex
 obtain rfl:u=Value.ref d:=rx
 obtain ⟨_,_,xs,_,dd⟩:=I2.gdict hd g
 exact ⟨dd.typeIs,CO hu I2 hd g hy h8 hv ry fun w' s3 I3 rw'=>⟨v,H2,I3,rw',q2⟩⟩
theorem B2 (hu:X.A.units+9<cLine) (hi:PE X i ty) (ho:PE X o td):PC X .In i o (D1 X.w ty td):=by
 intro pins s σ H Q I h
 refine jM (hi pins s σ H _ I h) fun iv s1 ⟨y,H1,I1,ry,q1⟩=>jM (ho pins s1 σ H1 _ I1 q1) fun u s2 ⟨x,H2,I2,rx,d,kvs,k,ex,hd,g,hy,h8,q2⟩=>?_
 subst ex
 obtain rfl:u=Value.ref d:=rx
 exact EU hu I2 hd g hy h8 ry fun s3 I3=>⟨.bl (jU kvs k).isSome,H2,I3,rfl,q2⟩
theorem J6 (hu:X.A.units+9<cLine) (ho:PE X o td) (hi:PE X i ty) (hv:PE X value tv) (hs:swapsWith value (some (.Subscript o i pos')) pos.line X.env=pure false) :
  PS X (.Assign [.Subscript o i pos'] value pos) (DD X.w td ty tv):=by
 intro pins s σ H D I h
 refine wpAny_Assign_Subscript (jM (hv pins s σ H _ I h) fun r s1 ⟨v,H1,I1,rv,q1⟩=>jM (ho pins s1 σ H1 _ I1 q1) fun u s2 ⟨x,H2,I2,rx,q2⟩=>jM (hi pins s2 σ H2 _ I2 q2) fun iv s3 ⟨y,H3,I3,ry,d,kvs,k,ex,hd,g,hy,h8,hl,q3⟩=>?_) hs
 subst ex
 obtain rfl:u=Value.ref d:=rx
 exact BC hu I3 hd g hy h8 hl ry rv fun s4 I4=>⟨σ,_,I4,q3⟩
theorem Z8:PE X (.Dict [] [] pos) (C6 X.w):=fun pins s σ H Q I h =>
 wpAny_Dict_empty ⟨.ref s.heap.objs.size,_,I.laid (a:=s.heap.objs.size) (o:=GO X.w s.heap.objs.size []) (t':=s.toks) (fun _ _ q=>Heap.get?_push_of_some _ q) (Nat.le_refl _)
  ⟨⟨Nat.zero_le _,beq_eq_false_iff_ne.mpr (Ne.symm (Nat.ne_of_lt I.big)),[],.nil,_,#[],0,Heap.get?_push_size _ rfl,⟨rfl,rfl,rfl⟩,rfl,rfl⟩,⟨_,Heap.get?_push_size _ rfl⟩,
   fun h1 h2 ⟨a1,a2,xs',a3,o',es',ep',a4,a5⟩ kp=>⟨a1,a2,xs',a3,o',es',ep',kp _ a4,a5⟩⟩,rfl,h _ (I.hok.fresh (Nat.le_refl _))⟩
theorem AD {s:Shared} {A:Around} {x y:GK} {v u:Value} (p:(GR s.heap x).1 v) (q:(GR s.heap y).1 u) (hu:A.units+gd x<cLine):SeqAt.RcAt A s v u (decide (x=y)):=by
 have tt:zD x=true→zD y=true→SeqAt.RcAt A s v u (decide (x=y)):=fun hx hy=>by
  obtain ⟨a,o,its,n,rfl,ho,hc,hd,hl⟩:=(GR.tup hx).1 p
  obtain ⟨a',o',its',n',rfl,ho',hc',hd',hl'⟩:=(GR.tup hy).1 q
  obtain ⟨e,he,hr⟩:=(QA x y).2 A.in1 _ _ hl hl' (by simp only [Around.in1_units];omega)
  have r:=SeqAt.RcAt.tuples (A:=A) (s:=s) (e:=e) (items:=its) (items2:=its') ⟨o,ho,hc,n,hd⟩ ⟨o',ho',hc',n',hd'⟩ (by omega) (fun j h1 h2=>by have:=he j (by simpa using h1) (by simpa using h2);rwa [Array.getElem_toList,Array.getElem_toList] at this)
  rw [Array.length_toList,Array.length_toList] at hr
  rw [hr] at r
  exact r
 have ti:zD x=true→∀n t,u=.int n t→SeqAt.RcAt A s v u false:=fun hx n t e=>by
  obtain ⟨a,o,its,m,rfl,ho,hc,hd,_⟩:=(GR.tup hx).1 p
  subst e
  exact SeqAt.RcAt.tuple_int _ _ ⟨o,ho,hc,_,hd⟩ (by omega)
 have ts:zD x=true→∀n t,u=.str n t→SeqAt.RcAt A s v u false:=fun hx n t e=>by
  obtain ⟨a,o,its,m,rfl,ho,hc,hd,_⟩:=(GR.tup hx).1 p
  subst e
  exact SeqAt.RcAt.tuple_str _ _ ⟨o,ho,hc,_,hd⟩ (by omega)
 have it:zD y=true→∀n t,v=.int n t→SeqAt.RcAt A s v u false:=fun hy n t e=>by
  obtain ⟨a,o,its,m,rfl,ho,hc,hd,_⟩:=(GR.tup hy).1 q
  subst e
  exact SeqAt.RcAt.int_tuple _ _ ⟨o,ho,hc,_,hd⟩ (by omega)
 have st:zD y=true→∀n t,v=.str n t→SeqAt.RcAt A s v u false:=fun hy n t e=>by
  obtain ⟨a,o,its,m,rfl,ho,hc,hd,_⟩:=(GR.tup hy).1 q
  subst e
  exact SeqAt.RcAt.str_tuple _ _ ⟨o,ho,hc,_,hd⟩ (by omega)
 cases x with
 |i n =>
  obtain ⟨t,rfl⟩:=p
  cases y with
  |i m=>obtain ⟨t',rfl⟩:=q;rw [show decide (GK.i n=GK.i m)=(n == m) by by_cases e:n=m<;>simp [e]];exact SeqAt.RcAt.int_int n t m t'
  |s z=>obtain ⟨t',rfl⟩:=q;exact SeqAt.RcAt.int_str _ _ _ _
  |nil=>exact it rfl n t rfl
  |cons a b=>exact it rfl n t rfl
 |s n =>
  obtain ⟨t,rfl⟩:=p
  cases y with
  |i m=>obtain ⟨t',rfl⟩:=q;exact SeqAt.RcAt.str_int _ _ _ _
  |s z=>obtain ⟨t',rfl⟩:=q;rw [show decide (GK.s n=GK.s z)=(n == z) by by_cases e:n=z<;>simp [e]];exact SeqAt.RcAt.str_str n t z t'
  |nil=>exact st rfl n t rfl
  |cons a b=>exact st rfl n t rfl
 |nil =>
  cases y with
  |i m=>obtain ⟨t',e⟩:=q;exact ti rfl m t' e
  |s z=>obtain ⟨t',e⟩:=q;exact ts rfl z t' e
  |nil=>exact tt rfl rfl
  |cons a b=>exact tt rfl rfl
 |cons a b =>
  cases y with
  |i m=>obtain ⟨t',e⟩:=q;exact ti rfl m t' e
  |s z=>obtain ⟨t',e⟩:=q;exact ts rfl z t' e
  |nil=>exact tt rfl rfl
  |cons a b=>exact tt rfl rfl
def EN:R2:=fun x y H Q=>∃k k',(GV H k).1 x∧(GV H k').1 y∧gd k≤8∧Q (.bl (decide (k=k'))) H
theorem gA (hu:X.A.units+9<cLine):OpR X (compareOp .Eq) EN:=by
 intro pins s σ H x y v u Q I rx ry h
 obtain ⟨k,k',hx,hy,h8,q⟩:=h
 exact AD ((GV.rel I.hok k).1 x v hx rx) ((GV.rel I.hok k').1 y u hy ry) (by omega) X.prog X.w X.xe _ ⟨.bl _,H,I,rfl,q⟩
end
end L2
namespace L2
open PySem PySem.Spec PyProof.Rows
section
variable {X:Cx} {pins:List (Addr×Obj)} {σ:List (Option V)} {H:Hp} {s:Shared}
def FnO (f:Addr) (o:Obj):HO:=.ext fun h=>h.get? f=some o
theorem Inv.fnMade {P:Addr} {ps more:Array Value} {h':Heap} {o:Obj} {t':Nat} (I:Inv X pins σ H s) (hP:H P=some (.tbl ps)) (hx:Heap.ExtBut P s.heap h') (hsz:s.heap.objs.size≤h'.objs.size) (hP':h'.get? P=some {cls:=.none,data:=.fields (ps++more)}) (hfr:o.isFreed=false) (htk:0<t':=by first|exact Nat.succ_pos _|exact Inv.tk (by assumption)|(dsimp only;exact Inv.tk (by assumption))) :
  Inv X pins σ (jC (jC H P (.tbl (ps++more))) h'.objs.size (FnO h'.objs.size o)) {s with heap:=h'.push o,toks:=t'}:=by
 have hPs:ObjOk X.prog X.w H s.heap P (.tbl ps):=I.hok P _ hP
 have key:∀b u,b≠P→s.heap.get? b=some u→(h'.push o).get? b=some u:=fun b u hb e=>Heap.get?_push_of_some _ (hx b u hb e)
 have hlt:∀b,b<s.heap.objs.size→b≠h'.objs.size:=fun b e=>Nat.ne_of_lt (Nat.lt_of_lt_of_le e hsz)
 have hf:∀b u,s.heap.get? b=some u→b≠h'.objs.size:=fun b u e=>hlt b (Heap.lt_size e)
 have ht:∀b u,H b=some u→b≠h'.objs.size:=fun b u e=>hlt b (I.hok b u e).lt
 have hfP:P≠h'.objs.size:=ht P _ hP
 have hnP:∀b,H b=none→b≠P:=fun b n z=>by rw [z,hP] at n;cases n
 have hoP:∀b u,H b=some u→u≠.tbl ps→b≠P:=fun b u e n z=>by rw [z,hP] at e;cases e;exact n rfl
 refine I.un (ht:=htk) ⟨fun b ob e n _ _=>key b ob (hnP b n) e,fun b ob e n _ _=>⟨ob.slots,key b ob (hnP b n) e⟩,fun b ob e n _=>?_,fun b ob e _=>?_,fun b xs e=>?_,fun b ob u e=>?_,fun b qs e=>?_⟩ fun b u e=>?_
 ·rw [jH (hf b ob e),jH (hnP b n)];exact n
 ·by_cases z:b=P
  ·subst z;exact ⟨_,Heap.get?_push_of_some _ hP'⟩
  ·exact ⟨ob,key b ob z e⟩
 ·rw [jH (ht b _ e),jH (hoP b _ e (fun z=>nomatch z))];exact e
 ·rw [jH (ht b _ e),jH (hoP b _ e (fun z=>nomatch z))];exact e
 ·by_cases z:b=P
  ·subst z
   rw [hP] at e;cases e
   exact ⟨more,by rw [jH hfP,jG]⟩
  ·exact ⟨#[],by rw [jH (ht b _ e),jH z,e];simp⟩
 ·by_cases z:b=h'.objs.size
  ·subst z
   rw [jG] at e;cases e
   exact ⟨Heap.get?_push_size _ hfr,⟨_,Heap.get?_push_size _ hfr⟩,fun h1 h2 q k=>k _ q⟩
  rw [jH z] at e
  by_cases zP:b=P
  ·subst zP
   rw [jG] at e;cases e
   exact Heap.get?_push_of_some _ hP'
  rw [jH zP] at e
  refine (I.hok b u e).stay (fun c v hc r=>key c v ?_ r) (fun c r=>?_) fun c xs r=>?_
  ·rcases hc with rfl|hc
   ·exact zP
   ·exact hoP c _ hc (fun z=>nomatch z)
  ·rw [jH (ht c _ r),jH (hoP c _ r (fun z=>nomatch z))];exact r
  ·rw [jH (ht c _ r),jH (hoP c _ r (fun z=>nomatch z))];exact r
end
end L2
namespace L2
open PySem PySem.Spec PyProof.Rows
def qP (H:Hp) (cs:List Addr):Hp:=fun b=>if b∈cs then none else H b
def qK (H' H:Hp) (cs:List Addr):Hp:=fun b=>if b∈cs then H b else H' b
theorem cV {H:Hp} {cs:List Addr} {b:Addr} (h:b∈cs):qP H cs b=none:=if_pos h
theorem qY {H:Hp} {cs:List Addr} {b:Addr} (h:b∉cs):qP H cs b=H b:=if_neg h
theorem Z9 {H H':Hp} {cs:List Addr} {b:Addr} (h:b∈cs):qK H' H cs b=H b:=if_pos h
theorem vB {H H':Hp} {cs:List Addr} {b:Addr} (h:b∉cs):qK H' H cs b=H' b:=if_neg h
section
variable {P:Program} {w:World} {H H' HC:Hp} {h h':Heap} {cs fs:List Addr}
theorem FnO.ok {c:Addr} {o:Obj} (e:h.get? c=some o):ObjOk P w H h c (FnO c o):=⟨e,⟨o,e⟩,fun _ _ q k=>k _ q⟩
theorem FnO.get {c:Addr} {o:Obj} (x:HOk P w H h) (e:H c=some (FnO c o)):h.get? c=some o:=(x c _ e).1
def bG (H:Hp) (cs:List Addr):Prop:=∀c∈cs,∃o,H c=some (FnO c o)
theorem HOk.hide (x:HOk P w H h) (hc:bG H cs):HOk P w (qP H cs) h:=fun b u e=>by
 by_cases hb:b∈cs
 ·rw [cV hb] at e;cases e
 ·rw [qY hb] at e
  refine (x b u e).stay (fun _ _ _ q=>q) (fun c q=>?_) fun c xs q=>?_
  ·rw [qY];exact q
   intro hin;obtain ⟨o,e2⟩:=hc c hin;rw [q] at e2;cases e2
  ·rw [qY];exact q
   intro hin;obtain ⟨o,e2⟩:=hc c hin;rw [q] at e2;cases e2
theorem HOk.unhide (x:HOk P w H' h) (hn:∀c∈cs,H' c=none) (hc:∀c∈cs,∃o,H c=some (FnO c o)∧h.get? c=some o):HOk P w (qK H' H cs) h:=fun b u e=>by
 by_cases hb:b∈cs
 ·rw [Z9 hb] at e
  obtain ⟨o,e2,g⟩:=hc b hb
  rw [e2] at e;cases e
  exact FnO.ok g
 ·rw [vB hb] at e
  refine (x b u e).stay (fun _ _ _ q=>q) (fun c q=>?_) fun c xs q=>?_
  ·rw [vB];exact q
   intro hin;rw [hn c hin] at q;cases q
  ·rw [vB];exact q
   intro hin;rw [hn c hin] at q;cases q
theorem Un.unhide (u:Un fs [] (qP H cs) H' h h') (hc:bG H cs):Un fs [] H (qK H' H cs) h h':=by
 have no:∀b,H b=none→b∉cs:=fun b n hin=>by obtain ⟨o,e⟩:=hc b hin;rw [n] at e;cases e
 have nt:∀b v,H b=some v→(∀o,v≠FnO b o)→b∉cs:=fun b v e n hin=>by obtain ⟨o,e2⟩:=hc b hin;rw [e] at e2;cases e2;exact n o rfl
 refine ⟨fun b o e n=>u.keep b o e (by rw [qY (no b n)];exact n),fun b o e n=>u.slot b o e (by rw [qY (no b n)];exact n),fun b o e n hx=>?_,fun b o e hx=>u.there b o e hx,fun b xs e=>?_,fun b o v e=>?_,fun b ps e=>?_⟩
 ·rw [vB (no b n)];exact u.free b o e (by rw [qY (no b n)];exact n) hx
 ·have:=nt b _ e (fun _ z=>nomatch z)
  rw [vB this];exact u.tups b xs (by rw [qY this];exact e)
 ·have:=nt b _ e (fun _ z=>nomatch z)
  rw [vB this];exact u.frzs b o v (by rw [qY this];exact e)
 ·have:=nt b _ e (fun _ z=>nomatch z)
  rw [vB this];exact u.tbls b ps (by rw [qY this];exact e)
theorem Un.hide (u:Un fs [] (qK H HC cs) H' h h') (hn:∀c∈cs,H c=none) (hc:∀c∈cs,∃o,HC c=some (FnO c o)∧h.get? c=some o) (he:∀c∈cs,H' c=HC c) (hf:∀c∈cs,c∉fs) (x:HOk P w H' h'):Un fs [] H (qP H' cs) h h':=by
 have nt:∀b v,H b=some v→b∉cs:=fun b v e hin=>by rw [hn b hin] at e;cases e
 refine ⟨fun b o e n h1 h2=>?_,fun b o e n h1 h2=>?_,fun b o e n hx=>?_,fun b o e hx=>u.there b o e hx,fun b xs e=>?_,fun b o v e=>?_,fun b ps e=>?_⟩
 ·by_cases hb:b∈cs
  ·obtain ⟨o',e1,e2⟩:=hc b hb
   rw [e] at e2;cases e2
   exact FnO.get x ((he b hb).trans e1)
  ·exact u.keep b o e (by rw [vB hb];exact n) h1 h2
 ·exact u.slot b o e (by rw [vB fun hb=>hf b hb h1];exact n) h1 h2
 ·by_cases hb:b∈cs
  ·exact cV hb
  ·rw [qY hb];exact u.free b o e (by rw [vB hb];exact n) hx
 ·have:=nt b _ e
  rw [qY this];exact u.tups b xs (by rw [vB this];exact e)
 ·have:=nt b _ e
  rw [qY this];exact u.frzs b o v (by rw [vB this];exact e)
 ·have:=nt b _ e
  rw [qY this];exact u.tbls b ps (by rw [vB this];exact e)
end
structure CloScope (N ps fr:List Str) (sc:Scope):Prop where
 kind:sc.kind=.function
 co:sc.isCoroutine=false
 gen:sc.isGenerator=false
 nd:N.Nodup
 pre:N.take (ps++fr).length=ps++fr
 par:∀x∈ps,sc.names.lookup x=some .local
 fre:∀x∈fr,sc.names.lookup x=some .free
 onl:∀x,sc.names.lookup x=some .free→x∈fr
 noc:∀y∈sc.names,y.2≠.cell
def ZQ (CX:qV) (P:Program) (w:World) (K:PySem.W.Frag) (mg:Str→Option Value) (base:Heap) (N:List Str) (qual:Str) (scope:Scope) (f:Addr) (cd:Value) (cl:List (Str×Addr)) (A:Around) (outer:List Env) (s:Shared) (H:Hp) (E:XK):Cx where
 prog:=P
 w:=w
 K:=K
 mg:=mg
 base:=base
 A:=A.deeper (PySem.W.envX qual scope s.heap.objs.size f cd cl)
 N:=N
 s₀:=s
 H₀:=qP H (cl.map (·.2))
 env:=PySem.W.envX qual scope s.heap.objs.size f cd cl
 outer:=outer
 stack:=PySem.W.envX qual scope s.heap.objs.size f cd cl::outer
 ex:=[]
 calm:=true
 fn:=fun _=>false
 pn:=[]
 xe:=fun e s'=>wpAny (model P w) (A.deeper (PySem.W.envX qual scope s.heap.objs.size f cd cl)) (leaving (PySem.W.envX qual scope s.heap.objs.size f cd cl) e) (fun _ s''=>CX outer H s E e s'') (fun e' s''=>CX outer H s E e' s'') s'
end L2
namespace L2
open PySem PySem.Spec PyProof.Rows
structure CloAt (H:Hp) (f:Addr) (qual:Str) (params:Arguments) (body:List Stmt) (scope:Scope) (cl:List (Str×Addr)) (fvs:List V) (cdv:Value) (fd:FuncData):Prop where
 fn:∃fo name doc pm an ct,H f=some (FnO f fo)∧fo.data=.func fd∧fd=PySem.W.fnX name qual params body scope cl .none .none doc pm an cdv ct
 code:∃c oc vs t,cdv=.ref c∧H c=some (FnO c oc)∧oc.data=.fields vs∧vs[1]?=some (.str qual t)
 once:(cl.map (·.2)).Nodup
 len:fvs.length=cl.length
 cell:∀(i:Nat) (x:Str) (c:Addr) (v:V),cl[i]?=some (x,c)→fvs[i]?=some v→∃o u,H c=some (FnO c o)∧o.data=.cell (some u)∧RelV v u
theorem CloAt.cells {H:Hp} {f:Addr} {qual:Str} {params:Arguments} {body:List Stmt} {scope:Scope} {cl:List (Str×Addr)} {fvs:List V} {cdv:Value} {fd:FuncData} (C:CloAt H f qual params body scope cl fvs cdv fd):bG H (cl.map (·.2)):=fun c hc=>by
 obtain ⟨⟨x,c'⟩,hm,rfl⟩:=List.mem_map.mp hc
 obtain ⟨i,hi⟩:=List.mem_iff_getElem?.mp hm
 have hlt:i<fvs.length:=by rw [C.len];exact (List.getElem?_eq_some_iff.mp hi).1
 obtain ⟨o,u,e,_⟩:=C.cell i x c' _ hi (List.getElem?_eq_getElem hlt)
 exact ⟨o,e⟩
theorem iB {β:Type} {n:Str} {c:β}:∀{cs:List (Str×β)},(cs.map (·.1)).Nodup→(n,c)∈cs→cs.lookup n=some c
 |[],_,hm=>nomatch hm
 | (m,d)::cs,hn,hm=>by
  rw [List.map_cons,List.nodup_cons] at hn
  rw [List.lookup_cons]
  rcases List.mem_cons.mp hm with e|hm
  ·cases e;rw [beq_self_eq_true]
  ·have ne:(n == m)=false:=beq_eq_false_iff_ne.mpr fun e=>hn.1 (e▸List.mem_map.mpr ⟨_,hm,rfl⟩)
   rw [ne]
   exact iB hn.2 hm
theorem xJ {cl:List (Str×Addr)} (hn:(cl.map (·.2)).Nodup) {x y:Str} {c:Addr} (h1:cl.lookup x=some c) (h2:cl.lookup y=some c):x=y:=by
 obtain ⟨i,hi⟩:=List.mem_iff_getElem?.mp (PySem.mem_of_lookup h1)
 obtain ⟨j,hj⟩:=List.mem_iff_getElem?.mp (PySem.mem_of_lookup h2)
 have a:(cl.map (·.2))[i]?=some c:=by rw [List.getElem?_map,hi];rfl
 have b:(cl.map (·.2))[j]?=some c:=by rw [List.getElem?_map,hj];rfl
 obtain rfl:=(List.getElem?_inj (List.getElem?_eq_some_iff.mp a).1 hn).mp (a.trans b.symm)
 rw [hi] at hj
 cases hj
 rfl
section
variable {CX:qV} {P:Program} {w:World} {K:PySem.W.Frag} {mg:Str→Option Value} {base:Heap} {N ps fr:List Str} {qual:Str} {params:Arguments} {body:List Stmt} {scope:Scope} {f:Addr} {cdv:Value} {fd:FuncData} {cl:List (Str×Addr)} {A:Around} {outer:List Env} {s:Shared} {H:Hp} {E:XK} {Q:VK} {us:List Value} {vs fvs:List V} {k:Nat} {args:Args}
theorem AX {h1:Heap} {tk:Nat} (S:CloScope N ps fr scope) (hd:A.handled=none) (e0:Env0 P w K mg base A outer s H) (hl:vs.length=ps.length) (r:Vals vs us) (C:CloAt H f qual params body scope cl fvs cdv fd) (hcl:cl.map (·.1)=fr)
  (hns:h1.Ns s.heap.objs.size fun x=>(ps.zip us).reverse.lookup x) (hk:∀b o,s.heap.get? b=some o→h1.get? b=some o) (ht:0<tk) :
  Inv (ZQ CX P w K mg base N qual scope f cdv cl A outer s H E) [] (qU N (vs++fvs)) (qP H (cl.map (·.2))) {s with heap:=h1,toks:=tk}:=by
 have hlen:cl.length=fr.length:=by rw [← hcl,List.length_map]
 have hpl:ps.length+fr.length≤N.length:=by have:=congrArg List.length S.pre;rw [List.length_take,List.length_append] at this;omega
 have hfl:fvs.length=fr.length:=C.len.trans hlen
 have ndF:(ps++fr).Nodup:=by rw [← S.pre];exact S.nd.sublist (List.take_sublist _ _)
 have ndP:ps.Nodup:=(List.nodup_append.mp ndF).1
 have ndC:(cl.map (·.1)).Nodup:=by rw [hcl];exact (List.nodup_append.mp ndF).2.1
 have del0:∀b,H b=none→qP H (cl.map (·.2)) b=none:=fun b n=>by unfold qP;split;rfl;exact n
 have noA:∀b:Addr,b∉(ZQ CX P w K mg base N qual scope f cdv cl A outer s H E).ex:=fun b z=>absurd (show b∈([]:List Addr) from z) (by simp)
 have cellOf:∀x c,cl.lookup x=some c→∃o,H c=some (FnO c o)∧∃u,o.data=.cell (some u):=fun x c h=>by
  obtain ⟨i,hi⟩:=List.mem_iff_getElem?.mp (PySem.mem_of_lookup h)
  have hlt:i<fvs.length:=by rw [C.len];exact (List.getElem?_eq_some_iff.mp hi).1
  obtain ⟨o,u,e,e2,_⟩:=C.cell i x c _ hi (List.getElem?_eq_getElem hlt)
  exact ⟨o,e,u,e2⟩
 refine ⟨⟨e0.mod,S.kind,rfl,rfl,Nat.le_refl _,fun y z c h1 h2=>xJ C.once h1 h2,fun y hy=>?_,fun y c q=>(nomatch q),fun _=>hd,Around.frames_deeper e0.frames,.inr ⟨rfl,rfl⟩,fun b z=>absurd z (noA b),fun b o e=>⟨(e0.bs b o e).1,del0 b (e0.bs b o e).2⟩,e0.bsz,fun b _ _=>noA b,fun b z=>absurd z (noA b),e0.funs,fun b hb=>del0 b (e0.frf b hb)⟩,
  rfl,⟨e0.bare.b,ht⟩,Un.kept hk,⟨_,hns,fun i y v h1 h2 h3=>?_⟩,fun y c h=>?_,del0 _ (e0.hok.fresh (Nat.le_refl _)),fun y c h=>cV (List.mem_map.mpr ⟨_,PySem.mem_of_lookup h,rfl⟩),fun p hp=>absurd (show p∈([]:List (Addr×Obj)) from hp) (by simp),(e0.hok.hide C.cells).kept hk,?_⟩
 ·have hy:scope.names.lookup y=some .cell∨scope.names.lookup y=some .free:=hy
  rcases hy with hy|hy
  ·exact absurd rfl (S.noc _ (PySem.mem_of_lookup hy))
  ·have:=S.onl y hy
   rw [← hcl] at this
   obtain ⟨⟨x,c⟩,hm,rfl⟩:=List.mem_map.mp this
   exact ⟨c,lookup_of_mem_nodup ndC hm⟩
 ·have hi:i<(vs++fvs).length:=by
   unfold qU at h2
   by_cases hi:i<(vs++fvs).length
   ·exact hi
   ·rw [List.getElem?_append_right (by simpa using hi),List.getElem?_replicate] at h2
    split at h2<;>cases h2
  have ha:(vs++fvs)[i]?=some v:=by
   unfold qU at h2
   rw [List.getElem?_append_left (by simpa using hi),List.getElem?_map] at h2
   cases e:(vs++fvs)[i]? with
   |none=>rw [e] at h2;cases h2
   |some a=>rw [e] at h2;cases h2;rfl
  have hp:(ps++fr)[i]?=some y:=by
   rw [← S.pre,List.getElem?_take_of_lt (by rw [List.length_append] at hi ⊢;omega)];exact h1
  by_cases hv:i<ps.length
  ·rw [List.getElem?_append_left hv] at hp
   rw [List.getElem?_append_left (by omega)] at ha
   obtain ⟨u,hu,rv⟩:=r.get ha
   refine ⟨u,rv,.inl ⟨S.par y (List.mem_of_getElem? hp),?_⟩⟩
   refine iB ?_ (List.mem_reverse.mpr ?_)
   ·rw [List.map_reverse]
    refine List.pairwise_reverse.mpr (List.Pairwise.imp (fun h=>Ne.symm h) ?_)
    rw [List.map_fst_zip (by rw [← r.length,hl];exact Nat.le_refl _)]
    exact ndP
   ·refine List.mem_iff_getElem?.mpr ⟨i,?_⟩
    rw [List.getElem?_zip_eq_some]
    exact ⟨hp,hu⟩
  ·rw [List.getElem?_append_right (by omega)] at hp
   rw [List.getElem?_append_right (by omega),hl] at ha
   rw [← hcl,List.getElem?_map] at hp
   obtain ⟨⟨x,c⟩,hc,rfl⟩:=Option.map_eq_some_iff.mp hp
   obtain ⟨o,u,e,e2,rv⟩:=C.cell _ x c v hc ha
   refine ⟨u,rv,.inr ⟨.inr (S.fre x ?_),c,lookup_of_mem_nodup ndC (List.mem_of_getElem? hc),o,hk _ _ (FnO.get e0.hok e),e2⟩⟩
   rw [← hcl]
   exact List.mem_map.mpr ⟨_,List.mem_of_getElem? hc,rfl⟩
 ·obtain ⟨o,e,u,e2⟩:=cellOf y c h
  exact ⟨some u,o,hk _ _ (FnO.get e0.hok e),e2⟩
 ·unfold qU
  show _=N.length
  rw [List.length_append,List.length_map,List.length_replicate,List.length_append]
  omega
theorem BG (S:CloScope N ps fr scope) (hr:Room (k+1) A) (e0:Env0 P w K mg base A outer s H) (hl:vs.length=ps.length) (r:Vals vs us) (C:CloAt H f qual params body scope cl fvs cdv fd) (hcl:cl.map (·.1)=fr) (hb:BindsTo s fd args (ps.zip us))
  (hbody:Room k (A.deeper (PySem.W.envX qual scope s.heap.objs.size f cdv cl))→
   ∃t,PSs (ZQ CX P w K mg base N qual scope f cdv cl A outer s H E) body t∧t {nx:=fun _ H'=>(∀c∈cl.map (·.2),H' c=none)→Q .non (qK H' H (cl.map (·.2))),rt:=fun v H'=>(∀c∈cl.map (·.2),H' c=none)→Q v (qK H' H (cl.map (·.2)))} (qU N (vs++fvs)) (qP H (cl.map (·.2)))) :
  codeAny (model P w) A (.call (.ref f) args) (CR CX outer P w H s Q E) s:=by
 obtain ⟨fo,name,doc,pm,an,ct,hf,hd,rfl⟩:=C.fn
 have hcode:s.heap.CodeRec cdv qual:=by
  obtain ⟨c,oc,vs',t,e,e1,e2,e3⟩:=C.code
  exact ⟨c,oc,vs',t,e,FnO.get e0.hok e1,e2,e3⟩
 have lim:s.heap.NoLimit:=e0.mod.nolimit.keeps fun b o e=>(e0.bs b o e).1
 refine codeAny_call_def hr.depth (FnO.get e0.hok hf) hd lim hcode rfl hb S.noc (fun x hx=>S.par x.1 (List.of_mem_zip hx).1) (fun h1 hns hk=>?_) S.co S.gen S.kind
 obtain ⟨t,ht,hq⟩:=hbody (hr.deeper _)
 have I:Inv (ZQ CX P w K mg base N qual scope f cdv cl A outer s H E) [] (qU N (vs++fvs)) (qP H (cl.map (·.2))) {s with heap:=h1,toks:=s.toks+(ps.zip us).length}:=AX S hr.hd e0 hl r C hcl hns hk (by have:=e0.bare.t;omega)
 refine wpAny_mono (ht [] _ _ _ _ I hq) (fun fl s' hs=>?_) fun e s' hs=>hs
 have fin:∀{σ':St} {H':Hp} {v:V} {u:Value},Inv (ZQ CX P w K mg base N qual scope f cdv cl A outer s H E) [] σ' H' s'→RelV v u→((∀c∈cl.map (·.2),H' c=none)→Q v (qK H' H (cl.map (·.2))))→CE outer P w H s Q u s':=fun {σ' H' v u} J rv q=>by
  have hn:∀c∈cl.map (·.2),H' c=none:=fun c hc=>by
   obtain ⟨⟨x,c'⟩,hm,rfl⟩:=List.mem_map.mp hc
   have ndC:(cl.map (·.1)).Nodup:=by
    have ndF:(ps++fr).Nodup:=by rw [← S.pre];exact S.nd.sublist (List.take_sublist _ _)
    rw [hcl];exact (List.nodup_append.mp ndF).2.1
   exact J.freeC x c' (lookup_of_mem_nodup ndC hm)
  refine ⟨v,_,J.os,J.bare,Un.unhide J.base C.cells,HOk.unhide J.hok hn fun c hc=>?_,rv,q hn⟩
  ·obtain ⟨o,e⟩:=C.cells c hc
   refine ⟨o,e,J.base.keep c o (FnO.get e0.hok e) (cV hc) (fun hin=>?_) (by intro z;cases z)⟩
   have:=e0.frf c hin
   rw [e] at this;cases this
 cases fl with
 |ret u =>
  obtain ⟨v,σ',H',J,rv,q⟩:=hs
  exact fin J rv q
 |next =>
  obtain ⟨σ',H',J,q⟩:=hs
  exact fin (v:=V.non) (u:=Value.none) J rfl q
 |brk =>
  obtain ⟨_,_,_,q⟩:=hs
  exact False.elim q
 |cont =>
  obtain ⟨_,_,_,q⟩:=hs
  exact False.elim q
end
end L2
namespace L2
open PySem PySem.Spec PyProof.Rows
structure FnV (P:Program) (w:World) (K:PySem.W.Frag) (mg:Str→Option Value) (base:Heap) (CX:qV) (k:Nat) (sp:Addr→Sp):Prop where
 fn:∀f vs H Q E,sp f vs H Q E→∃fo fd,H f=some (FnO f fo)∧fo.data=.func fd
 run:∀(A:Around) (outer:List Env) (s:Shared) (H:Hp) (f:Addr) (us:List Value) (vs:List V) (Q:VK) (E:XK),Room k A→Env0 P w K mg base A outer s H→Vals vs us→sp f vs H Q E→
  codeAny (model P w) A (.call (.ref f) ⟨us,[]⟩) (CR CX outer P w H s Q E) s
def kS (qual:Str) (params:Arguments) (body:List Stmt) (scope:Scope) (ps fr:List Str) (sp:List Addr→List V→Sp) (f:Addr):Sp:=fun vs H Q E=>vs.length=ps.length∧
 ∃cl fvs cdv fd,CloAt H f qual params body scope cl fvs cdv fd∧cl.map (·.1)=fr∧sp (cl.map (·.2)) fvs vs H Q E
theorem o6 {CX:qV} {P:Program} {w:World} {K:PySem.W.Frag} {mg:Str→Option Value} {base:Heap} {N ps fr:List Str} {qual:Str} {params:Arguments} {body:List Stmt} {scope:Scope} {k:Nat} {sp:List Addr→List V→Sp} (S:CloScope N ps fr scope)
  (hb:∀(name:Str) (cl:List (Str×Addr)) (doc pm:Value) (an:Option Addr) (cdv ct:Value) (us:List Value),us.length=ps.length→bindArgs (PySem.W.fnX name qual params body scope cl .none .none doc pm an cdv ct) ⟨us,[]⟩=pure (ps.zip us))
  (hbody:∀(A:Around) (outer:List Env) (s:Shared) (H:Hp) (f:Addr) (cdv:Value) (cl:List (Str×Addr)) (fvs vs:List V) (Q:VK) (E:XK),cl.map (·.1)=fr→Room k (A.deeper (PySem.W.envX qual scope s.heap.objs.size f cdv cl))→bG H (cl.map (·.2))→sp (cl.map (·.2)) fvs vs H Q E→
   ∃t,PSs (ZQ CX P w K mg base N qual scope f cdv cl A outer s H E) body t∧t {nx:=fun _ H'=>(∀c∈cl.map (·.2),H' c=none)→Q .non (qK H' H (cl.map (·.2))),rt:=fun v H'=>(∀c∈cl.map (·.2),H' c=none)→Q v (qK H' H (cl.map (·.2)))} (qU N (vs++fvs)) (qP H (cl.map (·.2)))) :
  FnV P w K mg base CX (k+1) (kS qual params body scope ps fr sp):=by
 refine ⟨fun f vs H Q E h=>?_,fun A outer s H f us vs Q E hr e0 r h=>?_⟩
 ·obtain ⟨_,cl,fvs,cdv,fd,C,_⟩:=h
  obtain ⟨fo,_,_,_,_,_,h1,h2,_⟩:=C.fn
  exact ⟨fo,fd,h1,h2⟩
 ·obtain ⟨hl,cl,fvs,cdv,fd,C,hcl,hs⟩:=h
  obtain ⟨fo,name,doc,pm,an,ct,_,_,hfd⟩:=C.fn
  refine BG S hr e0 hl r C hcl (.of_eq ?_) fun hr'=>hbody A outer s H f cdv cl fvs vs Q E hcl hr' C.cells hs
  rw [hfd]
  exact hb name cl doc pm an cdv ct us (r.length▸hl)
theorem tE {M:Model} {A:Around} {E:Value→Shared→Prop} {s:Shared} {env:Env} {pos:Pos} {f:Addr} {e:Expr} {rest:List Expr} {Q:Value→Shared→Prop}
  (h:wpAny M A (spliced (backTo pos (starEach (e::rest) env))) (fun vs s1=>∃fo fd,s1.heap.get? f=some fo∧fo.data=.func fd∧wpAny M A (call (.ref f) vs) Q E s1) E s)
  (he:starEach (e::rest) env=(false,eval e env)::starEach rest env) (hpl:(backTo pos (starEach rest env)).any (·.1)=false):wpAny M A (callWith pos (.ref f) [] (backTo pos (starEach (e::rest) env)) []) Q E s:=by
 rw [he] at h ⊢
 refine PySem.W.callWith_of (P:=fun g=>∃fo fd,g.get? f=some fo∧fo.data=.func fd) (by show ((false||(backTo pos (starEach rest env)).any (·.1))||false)=false;rw [hpl];rfl) (fun g hg=>?_) (PySem.Calls.evalArgs_plain (wpAny_mono h (fun vs s1 h1=>?_) fun _ _ y=>y))
 ·obtain ⟨⟨cls,dict,data,slots⟩,fd,ho,hd⟩:=hg
  cases hd
  exact ⟨.frame,.inl rfl,(PySem.W.Looks.ld (part:=none) ho).andThen .now⟩
 ·obtain ⟨fo,fd,ho,hd,q⟩:=h1
  exact ⟨⟨fo,fd,ho,hd⟩,q⟩
section
variable {X:Cx} {CX:qV} {k:Nat} {sp:Addr→Sp} {E:XK} {x:Str} {p pos:Pos} {e:Expr} {es:List Expr} {t:TA} {i:Nat}
def BS (i:Nat) (sp:Addr→Sp) (E:XK) (t:TA):TE:=fun σ H Q=>∃f,σ[i]?=some (some (.ref f))∧t σ H fun vs H1=>sp f vs H1 Q E
theorem cH (F:FnV X.prog X.w X.K X.mg X.base CX k sp) (hr:Room k X.A) (hx:dJ CX X E) (hN:X.N[i]?=some x) (hv:zE X.env.scope x) (ha:PA X (e::es) t) (hd:(x == ("__debug__":Str))=false:=by decide) (hcd:(x == ("__classdict__":Str))=false:=by decide)
  (he:starEach (e::es) X.env=(false,eval e X.env)::starEach es X.env:=by rfl) (hpl:(backTo pos (starEach es X.env)).any (·.1)=false:=by rfl):PE X (.Call (.Name x p) (e::es) [] pos) (BS i sp E t):=by
 intro pins s σ H Q I h
 obtain ⟨f,e1,h⟩:=h
 refine wpAny_Call_Name_kw (jM (oY hN hv hd hcd pins s σ H (fun v H'=>v=V.ref f∧t σ H' fun vs H1=>sp f vs H1 Q E) I ⟨.ref f,e1,rfl,h⟩) fun u s1 ⟨x',H1,I1,rx,ex,q1⟩=>?_)
 subst ex
 obtain rfl:u=Value.ref f:=rx
 refine tE (jM (ha pos pins s1 σ H1 _ I1 q1) fun us s2 ⟨vs,H2,I2,r,q2⟩=>?_) he hpl
 obtain ⟨fo,fd,g1,g2⟩:=F.fn _ _ _ _ _ q2
 refine ⟨fo,fd,FnO.get I2.hok g1,g2,wpAny_call (codeAny_mono (F.run X.A X.stack s2 H2 f us vs Q E hr I2.env0 r q2) fun r s' hq=>?_)⟩
 cases r with
 |error e=>exact hx pins σ H2 s2 e s' I2 hq
 |ok fl =>
  cases fl with
  |ret u=>exact I2.after hq
  |next=>exact False.elim hq
  |brk=>exact False.elim hq
  |cont=>exact False.elim hq
end
end L2
namespace L2
open PySem PySem.Spec PyProof.Rows
def BT (cs:List (Nat×Addr)) (sp:Sp) (dvs:List V) (t:TA):TE:=fun σ H Q=>t σ H fun vs H1=>(∀p∈cs,∃v,σ[p.1]?=some (some v))∧
 ∀HC:Hp,(∀p∈cs,∃v o u,σ[p.1]?=some (some v)∧HC p.2=some (FnO p.2 o)∧o.data=.cell (some u)∧RelV v u)→(∀p∈cs,H1 p.2=none)→
  sp (vs++dvs) (qK H1 HC (cs.map (·.2))) (fun v H'=>(∀p∈cs,H' p.2=HC p.2)∧Q v (qP H' (cs.map (·.2)))) E0
section
variable {X:Cx} {k k':Nat} {f:Addr} {fd:FuncData} {ps:List Str} {sp:Sp} {dvs:List V} {ds:List Value} {x:Str} {p pos:Pos} {e:Expr} {es:List Expr} {t:TA} {cs:List (Nat×Addr)}
def cZ (X:Cx) (cs:List (Nat×Addr)):Prop:=∀q∈cs,∃y,X.N[q.1]?=some y∧X.env.scope.names.lookup y=some .cell∧X.env.cells.lookup y=some q.2∧X.fn y=true
theorem B3 {pins:List (Addr×Obj)} {σ:St} {H:Hp} {s:Shared} (hcs:cZ X cs) (I:Inv X pins σ H s) (hv:∀q∈cs,∃v,σ[q.1]?=some (some v)) :
  ∃HC:Hp,(∀q∈cs,∃v o u,σ[q.1]?=some (some v)∧HC q.2=some (FnO q.2 o)∧o.data=.cell (some u)∧RelV v u)∧(∀q∈cs,H q.2=none)∧Env0 X.prog X.w X.K X.mg X.base X.A X.stack s (qK H HC (cs.map (·.2)))∧
   ∀(f:Addr) (us:List Value) (Q:VK),codeAny (model X.prog X.w) X.A (.call (.ref f) ⟨us,[]⟩) (CR kC X.stack X.prog X.w (qK H HC (cs.map (·.2))) s (fun v H'=>(∀q∈cs,H' q.2=HC q.2)∧Q v (qP H' (cs.map (·.2)))) E0) s→wpAny (model X.prog X.w) X.A (call (.ref f) us) (EP X pins σ Q) X.xe s:=by
 let HC:Hp:=fun b=>(s.heap.get? b).map fun o=>FnO b o
 have hn:∀q∈cs,H q.2=none:=fun q hq=>by
  obtain ⟨y,_,_,e3,_⟩:=hcs q hq
  exact I.freeC y q.2 e3
 have hc:∀q∈cs,∃v o u,σ[q.1]?=some (some v)∧HC q.2=some (FnO q.2 o)∧s.heap.get? q.2=some o∧o.data=.cell (some u)∧RelV v u:=fun q hq=>by
  obtain ⟨y,e1,e2,e3,_⟩:=hcs q hq
  obtain ⟨v,ev⟩:=hv q hq
  obtain ⟨m,_,hl⟩:=I.loc
  obtain ⟨u,ru,lk⟩:=hl q.1 y v e1 ev (.inr (.inl e2))
  rcases lk with ⟨hk,_⟩|⟨_,c,hc,o,ho,hd⟩
  ·have hk':X.env.scope.names.lookup y=some .local:=hk
   rw [e2] at hk';cases hk'
  ·rw [e3] at hc;cases hc
   exact ⟨v,o,u,ev,by show (s.heap.get? q.2).map _=_;rw [ho];rfl,ho,hd,ru⟩
 have hin:∀c∈cs.map (·.2),∃q∈cs,q.2=c:=fun c hm=>by
  obtain ⟨q,hq,e⟩:=List.mem_map.mp hm
  exact ⟨q,hq,e⟩
 have hn':∀c∈cs.map (·.2),H c=none:=fun c hm=>by obtain ⟨q,hq,rfl⟩:=hin c hm;exact hn q hq
 have hc':∀c∈cs.map (·.2),∃o,HC c=some (FnO c o)∧s.heap.get? c=some o:=fun c hm=>by
  obtain ⟨q,hq,rfl⟩:=hin c hm
  obtain ⟨_,o,_,_,e1,e2,_⟩:=hc q hq
  exact ⟨o,e1,e2⟩
 have hab:∀c∈cs.map (·.2),X.s₀.heap.objs.size≤c:=fun c hm=>by
  obtain ⟨q,hq,rfl⟩:=hin c hm
  obtain ⟨y,_,_,e3,e4⟩:=hcs q hq
  exact I.ok.cab y q.2 e4 e3
 have hfs:∀c∈cs.map (·.2),c∉yF X.stack:=fun c hm hf=>by
  have hcl:c≠X.env.locals:=by
   obtain ⟨q,hq,rfl⟩:=hin c hm
   obtain ⟨y,_,_,e3,_⟩:=hcs q hq
   exact I.cne y q.2 e3
  rcases List.mem_cons.mp (I.stkSub c hf) with z|z
  ·exact hcl z
  ·have lt:c<X.s₀.heap.objs.size:=by obtain ⟨_,o,ho,_⟩:=I.ok.funs.mem z;exact Heap.lt_size ho
   have:=hab c hm
   exact absurd (Nat.lt_of_lt_of_le lt this) (Nat.lt_irrefl _)
 have e0:=I.env0
 have e1:Env0 X.prog X.w X.K X.mg X.base X.A X.stack s (qK H HC (cs.map (·.2))):=by
  refine ⟨e0.frames,e0.mod,fun b o eb=>⟨(e0.bs b o eb).1,?_⟩,e0.bsz,e0.funs,fun b hb'=>?_,HOk.unhide e0.hok hn' hc',e0.bare⟩
  ·rw [vB fun hm=>?_];exact (e0.bs b o eb).2
   have h1:b<X.base.objs.size:=Heap.lt_size eb
   have h2:=I.ok.bsz
   have h3:=hab b hm
   exact absurd (Nat.lt_of_lt_of_le h1 (Nat.le_trans h2 h3)) (Nat.lt_irrefl _)
  ·rw [vB fun hm=>hfs b hm hb'];exact e0.frf b hb'
 refine ⟨HC,fun q hq=>by obtain ⟨v,o,u,a,b,_,d,g⟩:=hc q hq;exact ⟨v,o,u,a,b,d,g⟩,hn,e1,fun f us Q h=>?_⟩
 refine wpAny_call (codeAny_mono h fun rr s' hq=>?_)
 cases rr with
 |error e=>exact hq.elim
 |ok fl =>
  cases fl with
  |ret u =>
   obtain ⟨v,H',os,bare,un,hok,rv,he,q⟩:=hq
   have he':∀c∈cs.map (·.2),H' c=HC c:=fun c hm=>by obtain ⟨q,hq,rfl⟩:=hin c hm;exact he q hq
   exact I.after ⟨v,_,os,bare,Un.hide un hn' hc' he' hfs hok,HOk.hide hok (fun c hm=>by obtain ⟨o,e2,_⟩:=hc' c hm;exact ⟨o,(he' c hm).trans e2⟩),rv,q⟩
  |next=>exact False.elim hq
  |brk=>exact False.elim hq
  |cont=>exact False.elim hq
theorem AC {pins:List (Addr×Obj)} {σ:St} {H:Hp} {s:Shared} {Q:VK} {us:List Value} {vs:List V} (F:FnOk X.prog X.w X.K X.mg X.base kC k f fd ps sp) (hr:Room k X.A) (hb:Binds X.K fd ps ds) (hd:Vals dvs ds) (hcs:cZ X cs)
  (I:Inv X pins σ H s) (r:Vals vs us) (hv:∀q∈cs,∃v,σ[q.1]?=some (some v))
  (h:∀HC:Hp,(∀q∈cs,∃v o u,σ[q.1]?=some (some v)∧HC q.2=some (FnO q.2 o)∧o.data=.cell (some u)∧RelV v u)→(∀q∈cs,H q.2=none)→
   sp (vs++dvs) (qK H HC (cs.map (·.2))) (fun v H'=>(∀q∈cs,H' q.2=HC q.2)∧Q v (qP H' (cs.map (·.2)))) E0):wpAny (model X.prog X.w) X.A (call (.ref f) us) (EP X pins σ Q) X.xe s:=by
 obtain ⟨HC,h1,h2,e1,fin⟩:=B3 hcs I hv
 have r2:Vals (vs++dvs) (us++ds):=r.append hd
 have hs:=h HC h1 h2
 have hl:(us++ds).length=ps.length:=by rw [← r2.length];exact F.len _ _ _ _ hs
 exact fin f us Q (F.run X.A X.stack s _ ⟨us,[]⟩ (us++ds) (vs++dvs) _ E0 hr e1 (hb s us I.kIn hl) r2 hs)
theorem mE (F:Def X.prog X.w X.K X.mg X.base k x ps dvs sp) (hr:Room k' X.A) (hg:Gl X x) (hcs:cZ X cs) (ha:PA X (e::es) t)
  (hk:k≤k':=by decide) (hdb:(x == ("__debug__":Str))=false:=by decide) (he:starEach (e::es) X.env=(false,eval e X.env)::starEach es X.env:=by rfl) (hpl:(backTo pos (starEach es X.env)).any (·.1)=false:=by rfl) :
  PE X (.Call (.Name x p) (e::es) [] pos) (BT cs sp dvs t):=by
 obtain ⟨f,fd,ds,G,m,kp,hv,b⟩:=F.ex
 intro pins s σ H Q I h
 refine wpAny_Call_Name_kw (nQ I hg m ?_ hdb)
 refine PySem.W.callWith_K (h₀:=X.base) I.ok.mod.kin kp (jM (ha pos pins s σ H _ I h) fun us s1 ⟨vs,H1,I1,r,q1,q2⟩=>⟨I1.kIn,?_⟩) he hpl
 exact AC G (hr.mono hk) b hv hcs I1 r q1 q2
end
section
variable {X:Cx} {pins:List (Addr×Obj)} {σ:List (Option V)} {H:Hp} {s:Shared}
theorem Inv.fnMade2 {P c:Addr} {ps more:Array Value} {h':Heap} {o oc:Obj} {t':Nat} (I:Inv X pins σ H s) (hP:H P=some (.tbl ps)) (hx:Heap.ExtBut P s.heap h') (hsz:s.heap.objs.size≤h'.objs.size) (hP':h'.get? P=some {cls:=.none,data:=.fields (ps++more)}) (hfr:o.isFreed=false)
  (hc1:s.heap.objs.size≤c) (hc2:h'.get? c=some oc) (htk:0<t':=by first|exact Nat.succ_pos _|exact Inv.tk (by assumption)|(dsimp only;exact Inv.tk (by assumption))) :
  Inv X pins σ (jC (jC (jC H P (.tbl (ps++more))) h'.objs.size (FnO h'.objs.size o)) c (FnO c oc)) {s with heap:=h'.push o,toks:=t'}:=by
 have J:=I.fnMade (o:=o) (t':=t') (htk:=htk) hP hx hsz hP' hfr
 have hcP:c≠P:=fun z=>by have:=(I.hok P _ hP).lt;exact absurd (Nat.lt_of_lt_of_le (z▸this) hc1) (Nat.lt_irrefl _)
 have hcf:c≠h'.objs.size:=fun z=>absurd (Heap.lt_size hc2) (by rw [z];exact Nat.lt_irrefl _)
 have hg:(h'.push o).get? c=some oc:=Heap.get?_push_of_some _ hc2
 have hHc:jC (jC H P (.tbl (ps++more))) h'.objs.size (FnO h'.objs.size o) c=none:=by
  rw [jH hcf,jH hcP];exact I.hok.fresh hc1
 have hns:∀b u,s.heap.get? b=some u→b≠c:=fun b u e z=>absurd (Nat.lt_of_lt_of_le (z▸Heap.lt_size e) hc1) (Nat.lt_irrefl _)
 have hks:∀b u,X.s₀.heap.get? b=some u→b≠c:=fun b u e z=>by
  have h1:=Heap.lt_size e
  have h2:=I.sz
  exact absurd (Nat.lt_of_lt_of_le (Nat.lt_of_lt_of_le (z▸h1) h2) hc1) (Nat.lt_irrefl _)
 refine ⟨J.ok,J.os,J.bare,?_,J.loc,J.cell,?_,fun y d e=>?_,fun p hp=>?_,fun b u e=>?_,J.len⟩
 ·obtain ⟨k1,k2,k3,k4,k5,k6,k7⟩:=J.base
  have ne:∀b v,H b=some v→b≠c:=fun b v e z=>absurd (Nat.lt_of_lt_of_le (z▸(I.hok b v e).lt) hc1) (Nat.lt_irrefl _)
  refine ⟨k1,k2,fun b ob e n hx'=>?_,k4,fun b xs e=>?_,fun b ob u e=>?_,fun b qs e=>?_⟩
  ·rw [jH (hks b ob e)];exact k3 b ob e n hx'
  ·rw [jH (ne b _ (I.base.tups b xs e))];exact k5 b xs e
  ·rw [jH (ne b _ (I.base.frzs b ob u e))];exact k6 b ob u e
  ·obtain ⟨more',e'⟩:=I.base.tbls b qs e
   rw [jH (ne b _ e')];exact k7 b qs e
 ·rw [jH fun z=>?_];exact J.free
  have:=I.lt
  exact absurd (Nat.lt_of_lt_of_le (z▸this) hc1) (Nat.lt_irrefl _)
 ·rw [jH fun z=>?_];exact J.freeC y d e
  obtain ⟨v,o',ho',_⟩:=I.cell y d e
  exact hns d o' ho' z
 ·obtain ⟨a1,a2,a3,a4,a5⟩:=J.pin p hp
  refine ⟨a1,?_,a3,a4,a5⟩
  rw [jH fun z=>?_];exact a2
  exact hns p.1 _ (I.pin p hp).1 z
 ·by_cases z:b=c
  ·subst z;rw [jG] at e;cases e;exact FnO.ok hg
  ·rw [jH z] at e
   refine (J.hok b u e).stay (fun _ _ _ q=>q) (fun d q=>?_) fun d xs q=>?_
   ·rw [jH fun z=>?_];exact q
    rw [z,hHc] at q;cases q
   ·rw [jH fun z=>?_];exact q
    rw [z,hHc] at q;cases q
def C8 (i:Nat) (P:Addr) (pos:Pos) (qual:Str) (mk:Addr→Value→Value→Obj):TS:=fun D σ H=>∃ps,H P=some (.tbl ps)∧TriplesOk ps.toList∧codeAmong pos ps.toList=none∧
 ∀(f c':Addr) (ctv doc:Value) (oc:Obj),f≠P→c'≠P→c'≠f→H f=none→H c'=none→(∃vs t,oc.data=.fields vs∧vs[1]?=some (.str qual t))→
  D.nx (σ.set i (some (.ref f))) (jC (jC (jC H P (.tbl (ps++#[rawInt pos.line,rawInt pos.col,.ref c']))) f (FnO f (mk c' ctv doc))) c' (FnO c' oc))
theorem nH {i:Nat} {x qual:Str} {params:Arguments} {body:List Stmt} {scope:Scope} {pos:Pos} {c P:Addr} {clos:List (Str×Addr)} (hN:X.N.Nodup) (hi:X.N[i]?=some x) (hx:QG X.env.scope x)
  (hf:X.fn x=true∨X.env.scope.names.lookup x=some .local) (hd:defaultsOf params X.env=([],[])) (ha:annTrees params none X.env=[]) (hcl:closureFor scope X.env=pure clos) (hge:X.env.globals=mainGlobals)
  (hcode:X.env.code=.ref c) (hC:PySem.W.CodeHd X.base c P) (hgP:mainGlobals≠P) (hb:X.base.BuiltinsAt X.mg P) (hq:qualnameIn X.env x x=qual) :
  PS X (.FunctionDef x params body [] none [] scope none x pos) (C8 i P pos qual fun c' ctv doc=>PySem.W.fnMade x qual params body scope clos doc ((X.mg "__name__").getD .none) c' ctv):=by
 intro pins s σ H D I h
 obtain ⟨ps,hP,ht,hnf,q⟩:=h
 have hPs:s.heap.get? P=some (PySem.W.tabObj ps):=I.hok P _ hP
 rw [exec_def,hd,ha,hq]
 refine wpAny_bind (wpAny_standAt (wpAny_bind (wpAny_holding ?_)))
 refine wpAny_bind (wpAny_pure ?_)
 refine wpAny_bind (wpAny_holding (wpAny_pure ?_))
 refine wpAny_holding ?_
 refine wpAny_bind (wpAny_pure ?_)
 refine y0 (PySem.W.makeFunction_K (mg:=X.mg) hcl hge (I.mod.glob.keeps I.bk) hcode (hC.keeps I.bk) hPs ht hnf hgP (hb.keeps I.bk) fun c' ctv doc h' tk hx' hge' hlt hrec htb hle=>?_)
 have hsz:s.heap.objs.size≤h'.objs.size:=Nat.le_trans hge' (Nat.le_of_lt hlt)
 obtain ⟨c'',oc,fs,t,e,hoc,hoc2⟩:=hrec
 cases e
 refine wpAny_bind (wpAny_standAt (wpAny_bind (wpAny_bindName ?_)))
 have J:=I.fnMade2 (o:=PySem.W.fnMade x qual params body scope clos doc ((X.mg "__name__").getD .none) c' ctv) (t':=tk) (htk:=Nat.lt_of_lt_of_le I.tk hle) hP hx' hsz htb rfl hge' hoc
 have hPl:=Heap.lt_size hPs
 refine cD J hN hi hx (v:=.ref h'.objs.size) rfl (fun s2 I2=>wpAny_pure ?_) hf
 exact ⟨_,_,I2,q _ c' ctv doc oc (fun z=>Nat.lt_irrefl _ (z▸Nat.lt_of_lt_of_le hPl hsz)) (fun z=>Nat.lt_irrefl _ (Nat.lt_of_lt_of_le (z▸hPl) hge')) (Nat.ne_of_lt hlt) (I.hok.fresh hsz) (I.hok.fresh hge') ⟨fs,t,hoc2⟩⟩
end
end L2
namespace L2
open PySem PySem.Spec PyProof.Rows
def pI (s:Stmt) (j:Nat):Stmt:=(jR s).getD j (.Pass ⟨0,0,0,0⟩)
theorem o0 {sc:Scope} {fr:List Str} (h:∀y∈sc.names,y.2=.free→y.1∈fr):∀x,sc.names.lookup x=some .free→x∈fr:=fun x e=>h _ (PySem.mem_of_lookup e) rfl
theorem qT {A:Around} {k:Nat} (hr:Room k A):A.units+9<cLine:=by have:=hr.units;omega
theorem qR {A:Around} {k:Nat} (hr:Room k A):A.units+10<cLine:=by have:=hr.units;omega
theorem cP {H:Hp} {cs:List Addr} (hc:bG H cs):∀a l,H a=some (.tup l)→qP H cs a=some (.tup l):=fun a l e=>by
 rw [qY];exact e
 intro hin;obtain ⟨o,e2⟩:=hc a hin;rw [e] at e2;cases e2
theorem oJ {H:Hp} {cs:List Addr}:qK (qP H cs) H cs=H:=by
 funext b
 by_cases hb:b∈cs
 ·rw [Z9 hb]
 ·rw [vB hb,qY hb]
theorem o9 {X:Cx} {i j:Nat} {c d:Addr} (h:∃y,X.N[i]?=some y∧X.env.scope.names.lookup y=some .cell∧X.env.cells.lookup y=some c∧X.fn y=true) (h2:∃y,X.N[j]?=some y∧X.env.scope.names.lookup y=some .cell∧X.env.cells.lookup y=some d∧X.fn y=true):cZ X [(i,c),(j,d)]:=fun q hq=>by
 rcases List.mem_cons.mp hq with rfl|hq
 ·exact h
 ·cases List.mem_singleton.mp hq;exact h2
section
variable {P:Program} {w:World} {K:PySem.W.Frag} {mg:Str→Option Value} {base:Heap}
end
end L2
namespace L2
open PySem PySem.Spec PyProof.Rows
def PSs0 (X:Cx) (st:List Stmt) (t:TS):Prop :=
 ∀(pins:List (Addr×Obj)) (s:Shared) (σ:St) (H:Hp) (D:Ends),Inv X pins σ H {s with toks:=s.toks+1}→t D σ H→wpAny (model X.prog X.w) X.A (execs st X.env) (SP X pins D) X.xe s
def EA (i:Nat) (n:Int) (tb:TE) (u:TS):TS:=fun D σ H=>tb σ H fun y H1=>∃m,y=.int m∧u D (σ.set i (some (.int (n+m)))) H1
section
variable {X:Cx} {b:Expr} {tb:TE} {u:TS} {rest:List Stmt} {x:Str} {i:Nat} {n:Int} {j:Nat} {p pb pos pos':Pos}
theorem ES (i:Nat) (hN:X.N.Nodup) (hb:PE X b tb) (h2:PSs X rest u) (hi:X.N[i]?=some x:=by rfl) (hx:QG X.env.scope x:=by first|exact .inl rfl|exact .inr rfl) (hs:swapsWith (.BinOp (.Constant (.int n) j p) .Add b pb) (some (.Name x pos')) pos.line X.env=pure false:=by rfl) (hf:X.fn x=true∨X.env.scope.names.lookup x=some .local:=by first|exact .inl rfl|exact .inr rfl|assumption) :
  PSs0 X (.Assign [.Name x pos'] (.BinOp (.Constant (.int n) j p) .Add b pb) pos::rest) (EA i n tb u):=by
 intro pins s σ H D I h
 refine wpAny_execs_cons (wpAny_Assign_Name (wpAny_BinOp (wpAny_Constant_int (jM (hb pins _ σ H _ I h) fun v s1 ⟨y,H1,I1,r1,m,e,q1⟩=>?_))) hs)
 subst e
 obtain ⟨t,rfl⟩:=r1
 refine add_int (cD (I1.tok _) hN hi hx (v:=.int (n+m)) ⟨⟨_,I1.tk⟩,rfl⟩ (fun s2 I2=>?_) hf)
 exact h2 pins s2 _ H1 D I2 q1
end
structure FnOkL (P:Program) (w:World) (K:PySem.W.Frag) (mg:Str→Option Value) (base:Heap) (CX:qV) (k:Nat) (f:Addr) (fd:FuncData) (ps:List Str) (sp:Sp):Prop where
 len:∀vs H Q E,sp vs H Q E→vs.length=ps.length
 run:∀(A:Around) (outer:List Env) (s:Shared) (H:Hp) (args:Args) (us:List Value) (vs:List V) (Q:VK) (E:XK),Room k A→Env0 P w K mg base A outer {s with toks:=s.toks+1} H→BindsTo s fd args (ps.zip us)→Vals vs us→sp vs H Q E→
  codeAny (model P w) A (.call (.ref f) args) (CR CX outer P w H s Q E) s
theorem CP {CX:qV} {P:Program} {w:World} {K:PySem.W.Frag} {mg:Str→Option Value} {base:Heap} {k:Nat} {f:Addr} {name qual:Str} {params:Arguments} {body:List Stmt} {scope:Scope} {dV kV doc pm cdv ct oc:Value} {an od:Option Addr}
  {osl:Array (Option Value)} {N ps:List Str} {sp:Sp} (lk:K.lookup f=some ⟨oc,od,.func (PySem.W.fnOf name qual params body scope dV kV doc pm an cdv ct),osl⟩) (hcd:PySem.W.codeIn K cdv qual=true) (S:FnScope N ps scope)
  (len:∀vs H Q E,sp vs H Q E→vs.length=ps.length)
  (hbody:∀(A:Around) (outer:List Env) (s:Shared) (H:Hp) (vs:List V) (Q:VK) (E:XK),Room k (A.deeper (envOfC qual scope s.heap.objs.size f cdv))→sp vs H Q E→
   ∃t,PSs0 (zC CX P w K mg base N qual scope f cdv A outer s H E) body t∧t {nx:=fun _ H'=>Q .non H',rt:=Q} (qU N vs) H) :
  FnOkL P w K mg base CX (k+1) f (PySem.W.fnOf name qual params body scope dV kV doc pm an cdv ct) ps sp:=by
 refine ⟨len,fun A outer s H args us vs Q E hr e0 hb r hsp=>?_⟩
 have hl:=len _ _ _ _ hsp
 have KX:K.In s.heap:=e0.mod.kin.keeps fun b o e=>(e0.bs b o e).1
 have lim:s.heap.NoLimit:=e0.mod.nolimit.keeps fun b o e=>(e0.bs b o e).1
 have hkind:∀y∈ps.zip us,scope.names.lookup y.1=some .local∨(scope.names.lookup y.1=some .cell∧((cellsFrom (s.heap.objs.size+1) scope.names []).lookup y.1).isSome=true):=fun ⟨n,v⟩ hy=>by
  rcases S.par n (List.of_mem_zip hy).1 with q|q
  ·exact .inl q
  ·exact .inr ⟨q,PySem.W.cellsFrom_some _ _ _ (.inl q)⟩
 refine codeAny_call_function hr.depth (KX _ _ lk) rfl S.co S.gen rfl (PySem.W.codeRec_of KX hcd) (hb _ _ _ _ ?_)
 refine wpAny_newFunctionEnv_cells S.kind hkind fun env he s1 x=>?_
 subst he
 refine ⟨lim.keeps x.toInCall.keep,codeAny_func ?_⟩
 obtain ⟨t,ht,hq⟩:=hbody A outer s H vs Q E (hr.deeper _) hsp
 have I:Inv (zC CX P w K mg base N qual scope f cdv A outer s H E) [] (qU N vs) H {s1 with toks:=s1.toks+1}:=i8 (t0:=s.toks+1) S hr.hd e0 hl r (x.tok _) (Nat.succ_pos _)
 refine wpAny_mono (ht [] s1 (qU N vs) H _ I hq) (fun fl s' hs=>?_) fun e s' hs=>hs
 have fin:∀{σ':St} {H':Hp} {v:V} {u:Value},Inv (zC CX P w K mg base N qual scope f cdv A outer s H E) [] σ' H' s'→RelV v u→Q v H'→CE outer P w H s Q u s' :=
  fun {σ' H' v u} J rv q=>⟨v,H',J.os,J.bare,J.base,J.hok,rv,q⟩
 cases fl with
 |ret u =>
  obtain ⟨v,σ',H',J,rv,q⟩:=hs
  exact fin J rv q
 |next =>
  obtain ⟨σ',H',J,q⟩:=hs
  exact fin (v:=V.non) (u:=Value.none) J rfl q
 |brk =>
  obtain ⟨_,_,_,q⟩:=hs
  exact False.elim q
 |cont =>
  obtain ⟨_,_,_,q⟩:=hs
  exact False.elim q
section
variable {P:Program} {w:World} {K:PySem.W.Frag} {mg:Str→Option Value} {base:Heap}
theorem Fun.okCL {x qual:Str} {st:Stmt} {f cL:Addr} {fd:FuncData} {N ps:List Str} {k:Nat} {sp:Sp} (F:Fun K x qual st f fd) (hcL:fd.code=.ref cL) (S:FnScope N ps (jF st)) (len:∀vs H Q E,sp vs H Q E→vs.length=ps.length)
  (hbody:∀(A:Around) (outer:List Env) (s:Shared) (H:Hp) (vs:List V) (Q:VK) (E:XK),Room k (A.deeper (envOfC qual (jF st) s.heap.objs.size f (.ref cL)))→sp vs H Q E→
   ∃t,PSs0 (zC kC P w K mg base N qual (jF st) f (.ref cL) A outer s H E) (jR st) t∧t {nx:=fun _ H'=>Q .non H',rt:=Q} (qU N vs) H):FnOkL P w K mg base kC (k+1) f fd ps sp:=by
 obtain ⟨oc,od,kV,doc,pm,an,cdv,ct,osl,rfl,lk,hcd⟩:=F.ex
 obtain rfl:cdv=.ref cL:=hcL
 refine CP lk hcd S len fun A outer s H vs Q E hr hsp=>?_
 obtain ⟨t,h,q⟩:=hbody A outer s H vs Q E hr hsp
 exact ⟨t,h,q⟩
end
def gG (T:Addr) (H:Hp):Prop:=H T=some (.tbl #[])∧∀b,b≠T→H b=none∨∃o xs,H b=some (.frz o (.lst xs))
theorem wI {prog:Program} {w:World} {K:PySem.W.Frag} {mg mb:Str→Option Value} {CX:qV} {k:Nat} {fa a c T:Addr} {fd:FuncData} {x:Str} {sp:Sp} {s₁:Shared} {vs:List Value} {ns:List Int}
  (KX:K.In s₁.heap) (hns:s₁.heap.Ns mainGlobals mg) (hb:s₁.heap.Ns builtinsNs mb) (hbb:∀x:Str,x≠"__name__"→mb x=bootBuiltins x) (hlim:s₁.heap.NoLimit) (hg:s₁.gens = #[])
  (ha:s₁.heap.get? a=some {cls:=.type "list",data:=.seq vs.toArray}) (hi:IntsAre vs ns) (hl:ns.length≤sizeLine) (hr:Room k callerA)
  (hC:PySem.W.CodeHd s₁.heap c T) (hT:s₁.heap.TableAt c T #[]) (hKT:PySem.W.noTabs K=true) (hB:s₁.heap.BuiltinsAt mg T)
  (F:∀base:Heap,K.In base→base.Ns mainGlobals mg→PySem.W.CodeHd base c T→base.BuiltinsAt mg T→mainGlobals≠T→FnOkL prog w K mg base CX k fa fd [x] sp) (hbind:∀(s:Shared) (u:Value),BindsTo s fd ⟨[u],[]⟩ [(x,u)])
  (hsp:∀(xs:List V) (H:Hp),Paired v8 xs ns→gG T H→SqL K H a xs→sp [.ref a] H (fun v _=>v=.bl true) fun _ _ _=>False)
  (hCX:∀H e s',CX [] H s₁ (fun _ _ _=>False) e s'→False) :
  codeAny (model prog w) callerA (.call (.ref fa) ⟨[.ref a],[]⟩) (fun r s'=>r=.ok (.ret (.bool true))∧OldK s₁.heap s'.heap∧s'.os=s₁.os∧AllBare s'.gens) s₁:=by
 obtain ⟨xs0,rv,hxs⟩:=iL hi
 have lenV:=hi.length
 have hTo:=hT.2
 have hKT':K.lookup T=none:=by
  cases q:K.lookup T with
  |none=>rfl
  |some o =>
   have e:=KX T o q
   rw [hTo] at e;cases e
   have z:=List.all_eq_true.mp hKT _ (PySem.W.mem_of_lookupK q)
   exact absurd (show false=true from z) Bool.false_ne_true
 have haT:a≠T:=fun z=>by rw [z,hTo] at ha;cases ha
 have hgT:mainGlobals≠T:=fun z=>by
  obtain ⟨o,es,ep,e,d,_⟩:=hns
  rw [z,hTo] at e;cases e;cases d
 have core:∀H:Hp,gG T H→SqL K H a xs0→HOk prog w H s₁.heap→(∀b,H b≠none→b=a∨b=T)→(H a≠none→K.lookup a=none)→
   codeAny (model prog w) callerA (.call (.ref fa) ⟨[.ref a],[]⟩) (fun r s'=>r=.ok (.ret (.bool true))∧OldK s₁.heap s'.heap∧s'.os=s₁.os∧AllBare s'.gens) s₁:=by
  intro H hO hS hok hA hK
  have free:∀{b:Addr} {o:Obj},s₁.heap.get? b=some o→o≠{cls:=.type "list",data:=.seq vs.toArray}→o≠{cls:=.none,data:=.fields #[]}→H b=none:=fun {b o} e n1 n2=>by
   cases q:H b with
   |none=>rfl
   |some u =>
    rcases hA b (by rw [q];simp) with z|z
    ·subst z;rw [ha] at e;cases e;exact absurd rfl n1
    ·subst z;rw [hTo] at e;cases e;exact absurd rfl n2
  have nsK:∀{b:Addr} {m:Str→Option Value},s₁.heap.Ns b m→(zM s₁.heap H).Ns b m:=fun {b m} ⟨o,es,ep,e,d,r⟩=>⟨o,es,ep,cK e (free e (fun z=>by subst z;cases d) fun z=>by subst z;cases d),d,r⟩
  have hKb:K.In (zM s₁.heap H):=fun b o e=>cK (KX b o e) (by
   cases q:H b with
   |none=>rfl
   |some u =>
    rcases hA b (by rw [q];simp) with z|z
    ·subst z;rw [hK (by rw [q];simp)] at e;cases e
    ·subst z;rw [hKT'] at e;cases e)
  have hCb:PySem.W.CodeHd (zM s₁.heap H) c T:=by
   obtain ⟨o,fs,file,tf,flags,tg,inF,text,tt,e1,e2,rest⟩:=hC
   exact ⟨o,fs,file,tf,flags,tg,inF,text,tt,cK e1 (free e1 (fun z=>by subst z;injection e2 with z;exact absurd z (by decide)) fun z=>by subst z;cases e2),e2,rest⟩
  have hBb:(zM s₁.heap H).BuiltinsAt mg T:=by
   obtain ⟨bm,o,b1,b2,b3,b4,e1,e2,e3,e4⟩:=hB
   exact ⟨bm,o,b1,b2,b3,b4,cK e1 (free e1 (fun z=>by subst z;injection e2 with z;exact absurd z (by decide)) fun z=>by subst z;cases e2),e2,e3,e4⟩
  have hM:Mod K mg (zM s₁.heap H):=⟨hKb,nsK hns,⟨mb,nsK hb,hbb⟩,let ⟨mc,h1,h2⟩:=hlim;⟨mc,nsK h1,h2⟩⟩
  have e0:Env0 prog w K mg (zM s₁.heap H) callerA [] {s₁ with toks:=s₁.toks+1} H:=⟨rfl,hM,fun b o e=>AR e,Nat.le_of_eq (wP _ _),trivial,fun b hb=>absurd (show b∈([]:List Addr) from hb) (by simp),hok,⟨.of_eq hg,Nat.succ_pos _⟩⟩
  refine codeAny_mono ((F _ hKb (nsK hns) hCb hBb hgT).run callerA [] s₁ H ⟨[.ref a],[]⟩ [.ref a] [.ref a] _ _ hr e0 (hbind s₁ (.ref a)) (.cons rfl .nil) (hsp xs0 H hxs hO hS)) fun r s' h=>?_
  cases r with
  |error e=>exact (hCX H e s' h).elim
  |ok fl =>
   cases fl with
   |next=>exact False.elim h
   |brk=>exact False.elim h
   |cont=>exact False.elim h
   |ret u =>
    obtain ⟨v,H',os,bare,un,hok',r',q⟩:=h
    obtain rfl:v=.bl true:=q
    obtain rfl:u=Value.bool true:=r'
    have nofs:∀b:Addr,b∉yF ([]:List Env):=fun b z=>absurd (show b∈([]:List Addr) from z) (by simp)
    refine ⟨rfl,⟨fun b o e=>?_,fun b o e=>un.there b o e (by simp)⟩,os,bare.b⟩
    by_cases z:b=T
    ·subst z
     rw [hTo] at e;cases e
     obtain ⟨more,e2⟩:=un.tbls b #[] hO.1
     exact .inr (.inl ⟨hT.isCodeTable,rfl,#[],more,rfl,hok' b _ e2⟩)
    ·refine .inl ?_
     rcases hO.2 b z with q|⟨ob,xs,q⟩
     ·exact un.keep b o e q (nofs b) (by simp)
     ·have z2:=un.frzs b ob _ q
      obtain ⟨e1,_⟩:=hok b _ q
      obtain ⟨e2,_⟩:=hok' b _ z2
      rw [e] at e1;cases e1
      exact e2
 cases hk:K.lookup a with
 |some o =>
  have e:=KX a o hk
  rw [ha] at e
  cases e
  refine core (fun b=>if b=T then some (.tbl #[]) else none) ⟨if_pos rfl,fun b n=>.inl (if_neg n)⟩ (.inr ⟨_,vs.toArray,_,hk,rfl,rfl,rfl,by rw [List.size_toArray,lenV];exact hl,by simpa using rv⟩) (fun b u z=>?_) (fun b z=>?_) fun z=>absurd (if_neg haT) z
  ·by_cases hb:b=T
   ·have z':=(if_pos hb).symm.trans z
    cases z';subst hb;exact hTo
   ·have z':=(if_neg hb).symm.trans z
    cases z'
  ·by_cases hb:b=T
   ·exact .inr hb
   ·exact absurd (if_neg hb) z
 |none =>
  refine core (fun b=>if b=T then some (.tbl #[]) else if b=a then some (.frz {cls:=.type "list",data:=.seq vs.toArray} (.lst xs0)) else none) ⟨if_pos rfl,fun b n=>?_⟩ (.inl (.inr ⟨{cls:=.type "list",data:=.seq vs.toArray},(if_neg haT).trans (if_pos rfl)⟩)) (fun b u z=>?_) (fun b z=>?_) fun _=>hk
  ·by_cases hb:b=a
   ·exact .inr ⟨_,_,(if_neg n).trans (if_pos hb)⟩
   ·exact .inl ((if_neg n).trans (if_neg hb))
  ·by_cases hb:b=T
   ·have z':=(if_pos hb).symm.trans z
    cases z';subst hb;exact hTo
   ·have z1:=(if_neg hb).symm.trans z
    by_cases hb':b=a
    ·have z':=(if_pos hb').symm.trans z1
     cases z'
     subst hb'
     exact ⟨ha,by rw [show xs0.length=ns.length from rv.length.trans lenV];exact hl,vs,_,rv,ha⟩
    ·have z':=(if_neg hb').symm.trans z1
     cases z'
  ·by_cases hb:b=T
   ·exact .inr hb
   ·by_cases hb':b=a
    ·exact .inl hb'
    ·exact absurd ((if_neg hb).trans (if_neg hb')) z
theorem walk_ofT {l:PySem.W.OpenLaw} {n k:Nat} {q:Program} {loose:List Str} {XP:(Str→Option Value)→Heap→Prop} {YP:World→Heap→Prop} {d:DefRec} {K:Params→PySem.W.Frag} {CX:World→qV} {sp:World→Addr→Sp} {x:Str} {c T:Addr}
  (hn:l.most=some n) (hn2:n≤sizeLine) (hdf:d.params.defaults=[]) (hr:Room k callerA) (hrec:(recsOf q).find? (fun e=>e.name == d.name)=some d) (htab:∀P:Params,PySem.W.tabIn (K P) d.name=some (c,T)) (hno:∀P:Params,PySem.W.noTabs (K P)=true)
  (hY:∀(w:World) (h:Heap),YP w h→(K w.params).In h)
  (F:∀(w:World) (mg:Str→Option Value) (fa:Addr) (h:Heap),(K w.params).In h→h.Ns mainGlobals mg→mg d.name=some (.ref fa)→
   ∃fd:FuncData,(∀(s:Shared) (u:Value),BindsTo s fd ⟨[u],[]⟩ [(x,u)])∧
    ∀base:Heap,(K w.params).In base→base.Ns mainGlobals mg→PySem.W.CodeHd base c T→base.BuiltinsAt mg T→mainGlobals≠T→FnOkL l.prog w (K w.params) mg base (CX w) k fa fd [x] (sp w T))
  (hsp:∀(w:World) (H:Hp) (a:Addr) (ns:List Int) (xs:List V),Paired v8 xs ns→ns.length≤n→gG T H→SqL (K w.params) H a xs→sp w T [.ref a] H (fun v _=>v=.bl true) fun _ _ _=>False)
  (hCX:∀(w:World) (H:Hp) (s:Shared) (e:Value) (s':Shared),CX w [] H s (fun _ _ _=>False) e s'→False) :
  PySem.W.WalkO q loose XP YP l.row.toRowW d [] (fun f vs=>PySem.call f vs):=by
 refine Att.attach_call hn hdf fun w s₀ s₁ mg mb fa o pm cd doc a vs ns G Y ho hd hcd hmg hobj hints hlen hg=>?_
 have KX:=hY w _ Y
 obtain ⟨fd,hb,hF⟩:=F w mg fa _ KX G.T.g hmg
 obtain ⟨hC,hTo⟩:=PySem.W.tab_of G.T KX hrec (htab w.params)
 have hT:s₁.heap.TableAt c T #[]:=by
  obtain ⟨o,fs,file,tf,flags,tg,inF,text,tt,e1,e2,e3,e4,_⟩:=hC
  exact ⟨⟨o,fs,e1,e2,e3,e4⟩,hTo⟩
 have hB:s₁.heap.BuiltinsAt mg T:=by
  obtain ⟨bm,ob,b1,b2,b3,b4,b5,b6⟩:=G.T.bmain
  refine ⟨bm,ob,b1,b2,fun z=>?_,fun z=>?_,b3,b4,b5,b6⟩
  ·obtain ⟨o,es,ep,e,hd,_⟩:=G.T.g
   rw [z,e] at b3;cases b3;rw [hd] at b6;cases b6
  ·rw [z,hTo] at b3;cases b3;cases b4
 exact wI KX G.T.g G.T.b G.T.builtins G.T.nolimit hg hobj hints (Nat.le_trans hlen hn2) hr hC hT (hno w.params) hB hF hb (fun xs H hx hO hS=>hsp w H a ns xs hx hlen hO hS) fun H e s'=>hCX w H s₁ e s'
end L2
namespace L2
open PySem PySem.Spec PyProof.Rows
section
variable {prog:Program} {w:World} {A:Around} {E:Value→Shared→Prop} {s:Shared} {d:Addr} {xs:List j3} {k:GK} {key v:Value}
theorem wF {Q:Value→Shared→Prop} (hu:A.units+9<cLine) (hkey:(GR s.heap k).1 key) (hk8:gd k≤8) (hd:(d == sysModules)=false) (hm:DictG w s.heap d xs) (q:∀n,Q (.bool (!(vK xs k).isSome)) {s with toks:=n}) :
  wpAny (model prog w) A (compareOp .NotIn key (.ref d)) Q E s:=by
 have T:=hm.typeIs
 show wpAny _ A (do return .bool (!(← contains (.ref d) key))) Q E s
 refine wpAny_bind ?_
 unfold contains
 refine wpAny_holding (wpAny_bind (wpAny_specialOf T slot_dict_contains.lookup ?_))
 show wpAny _ A (if (some (Value.builtin "dict.__contains__") == some Value.none)=true then _ else _) _ E s
 rw [if_neg (by rw [beq_builtin_none];decide)]
 refine wpAny_bind (wpAny_callSpecialUnlessNone?_slot (name:=Str.ofString "__contains__") T slot_dict_contains (wpAny_call_entry slot_dict_contains T entry_dict_contains ?_ (args_dict_contains _ _)))
 show wpAny _ A.in1 (dictGet d key >>= _) _ E s
 refine wpAny_bind (fS (by simp only [Around.in1_units];omega) hkey hk8 hm fun n=>?_)
 have q':=q n
 cases hg:vK xs k with
 |some u =>
  rw [hg] at q'
  show wpAny _ A.in1 (ret (.bool true)) _ E _
  exact wpAny_pure ⟨_,rfl,wpAny_truthy_bool (wpAny_pure q')⟩
 |none =>
  rw [hg] at q'
  show wpAny _ A.in1 (Builtin.Dict.pendingKey? d key >>= _) _ E _
  exact wpAny_bind (wpAny_pendingKey_other hd (wpAny_pure ⟨_,rfl,wpAny_truthy_bool (wpAny_pure q')⟩))
end
section
variable {X:Cx} {pins:List (Addr×Obj)} {σ:St} {H:Hp} {s:Shared} {d:Addr} {k:GK} {y v:V} {u r:Value} {A:Around} {E:Value→Shared→Prop} {kvs:List jS}
theorem DP {Q:Unit→Shared→Prop} (hu:A.units+8<cLine) (I:Inv X pins σ H s) (e:H d=some (GO X.w d kvs)) (g:GOk H kvs) (hy:(GV H k).1 y) (h8:gd k≤8) (hl:kvs.length<sizeLine) (ry:RelV y u) (rv:RelV v r)
  (h:∀s',Inv X pins σ (jC H d (GO X.w d (qJ kvs k y v))) s'→Q () s'):wpAny (model X.prog X.w) A (dictSet d u r) Q E s:=by
 obtain ⟨_,hm,xs,rel,dd⟩:=I.gdict (.of e) g
 refine y0 (fQ hu ((GV.rel I.hok k).1 y u hy ry) h8 dd (by rw [← Paired.length rel];omega) fun n h' dd' sb hle=>h _ ?_)
 obtain ⟨o,es,ep,ho,hc,hd,he,_⟩:=dd'
 refine oG (ht:=Nat.lt_of_lt_of_le I.tk hle) I (by rw [e];exact True.intro) sb ⟨o,ho⟩ ⟨⟨by have:=Z3 kvs k y v;omega,hm,_,RelG.set ry rv rel,o,es,ep,ho,hc,hd,he⟩,⟨o,ho⟩,?_⟩
 rintro h1 h2 ⟨a1,a2,xs',a3,o',es',ep',a4,a5⟩ kp
 exact ⟨a1,a2,xs',a3,o',es',ep',kp _ a4,a5⟩
end
def mZ (w:World) (ty td:TE):TE:=fun σ H Q=>ty σ H fun y H1=>td σ H1 fun x H2=>∃(d:Addr) (kvs:List jS) (k:GK),x=.ref d∧Rd H2 d (GO w d kvs)∧GOk H2 kvs∧(GV H2 k).1 y∧gd k≤8∧Q (.bl (!(jU kvs k).isSome)) H2
def BQ (w:World) (tk tv:TE):TE:=fun σ H Q=>∀p,H p=none→tk σ (jC H p (GO w p [])) fun y H1=>tv σ H1 fun v H2=>H2 p=some (GO w p [])∧∃k,(GV H2 k).1 y∧gd k≤8∧Q (.ref p) (jC H2 p (GO w p [(k,y,v)]))
section
variable {X:Cx} {o i e value:Expr} {pos pos':Pos} {td ty tv:TE}
theorem wD (hu:X.A.units+9<cLine) (hi:PE X i ty) (ho:PE X o td):PC X .NotIn i o (mZ X.w ty td):=by
 intro pins s σ H Q I h
 refine jM (hi pins s σ H _ I h) fun iv s1 ⟨y,H1,I1,ry,q1⟩=>jM (ho pins s1 σ H1 _ I1 q1) fun u s2 ⟨x,H2,I2,rx,d,kvs,k,ex,hd,g,hy,h8,q2⟩=>?_
 subst ex
 obtain rfl:u=Value.ref d:=rx
 obtain ⟨_,hm,xs,rel,dd⟩:=I2.gdict hd g
 exact y0 (wF hu ((GV.rel I2.hok k).1 y iv hy ry) h8 hm dd fun n hle=>⟨.bl (!(jU kvs k).isSome),H2,I2.tok n (Nat.lt_of_lt_of_le I2.tk hle),by rw [RelG.none rel];rfl,q2⟩)
theorem mD {a b:Expr} {tk tv:TE} (hu:X.A.units+9<cLine) (hk:PE X a tk) (hv:PE X b tv):PE X (.Dict [some a] [b] pos) (BQ X.w tk tv):=by
 intro pins s σ H Q I h
 have hn:=I.hok.fresh (Nat.le_refl s.heap.objs.size)
 have I1:=I.laid (a:=s.heap.objs.size) (o:=GO X.w s.heap.objs.size []) (h':=s.heap.push {cls:=.type "dict",data:=.dict #[]}) (t':=s.toks) (fun _ _ q=>Heap.get?_push_of_some _ q) (Nat.le_refl _)
  ⟨⟨Nat.zero_le _,beq_eq_false_iff_ne.mpr (Ne.symm (Nat.ne_of_lt I.big)),[],.nil,_,#[],0,Heap.get?_push_size _ rfl,⟨rfl,rfl,rfl⟩,rfl,rfl⟩,⟨_,Heap.get?_push_size _ rfl⟩,
   fun h1 h2 ⟨a1,a2,xs',a3,o',es',ep',a4,a5⟩ kp=>⟨a1,a2,xs',a3,o',es',ep',kp _ a4,a5⟩⟩
 refine wpAny_Dict_any rfl rfl (List.cons_ne_nil _ _) (show 1≤15 by decide) (jM (xD (pos:=pos) hk hv AI pins _ σ _ (fun ps H2=>match ps with|[(y,v)]=>H2 s.heap.objs.size=some (GO X.w s.heap.objs.size [])∧∃k,(GV H2 k).1 y∧gd k≤8∧Q (.ref s.heap.objs.size) (jC H2 s.heap.objs.size (GO X.w s.heap.objs.size [(k,y,v)]))|_=>False) I1 ?_) fun ws s2 ⟨ps,H2,I2,rel,hq⟩=>?_)
 ·have h1:=h _ hn
  exact h1
 cases rel with
 |nil=>exact (show False from hq).elim
 |@cons x b xs bs r rel =>
  cases rel with
  |cons r2 rel2=>exact (show False from hq).elim
  |nil =>
   obtain ⟨y,v⟩:=x
   obtain ⟨e,k,hy,h8,q2⟩:=hq
   show wpAny _ _ (storeAll s.heap.objs.size [b]) _ _ _
   unfold storeAll
   simp only [List.forIn_cons,List.forIn_nil]
   refine wpAny_bind (wpAny_bind (DP (by omega) I2 e GOk.nil hy h8 (by rw [sizeLine_eq];decide) r.1 r.2 fun s3 I3=>wpAny_pure ?_))
   exact wpAny_pure ⟨.ref s.heap.objs.size,_,I3,rfl,q2⟩
end
section
variable {X:Cx} {o i:Expr} {pos:Pos} {td ty:TE}
theorem eN (w:World) (hu:X.A.units+9<cLine) (hi:PE X i ty) (ho:PE X o td) (hw:X.w=w:=by rfl):PC X .NotIn i o (mZ w ty td):=by subst hw;exact wD hu hi ho
theorem fH (w:World) (hu:X.A.units+9<cLine) (ho:PE X o td) (hi:PE X i ty) (hs:gQ i) (hw:X.w=w:=by rfl):PE X (.Subscript o i pos) (pC w td ty):=by subst hw;exact vV hu ho hi hs
end
def dQ (K:PySem.W.Frag) (neg:Bool):R2:=fun x y H Q=>∃(p:Addr) (xs:List V) (k:GK) (ks:List GK),y=.ref p∧SqL K H p xs∧(GV H k).1 x∧gd k≤8∧(xs.length=ks.length∧∀(i:Nat) z,xs[i]?=some z→∃k',ks[i]?=some k'∧(GV H k').1 z∧gd k'≤8)∧Q (.bl (if neg then !decide (k∈ks) else decide (k∈ks))) H
section
variable {X:Cx} {pins:List (Addr×Obj)} {σ:St} {H:Hp} {s:Shared}
open Classical in
theorem mW {k:GK} {xs:List V} {ks:List GK} {its:List Value} (I:Inv X pins σ H s) (r:Vals xs its) (hk:xs.length=ks.length∧∀(i:Nat) z,xs[i]?=some z→∃k',ks[i]?=some k'∧(GV H k').1 z∧gd k'≤8) :
  its.any (fun y=>decide ((GR s.heap k).1 y))=decide (k∈ks):=by
 have hl:=r.length
 rw [Bool.eq_iff_iff]
 simp only [List.any_eq_true,decide_eq_true_eq]
 constructor
 ·rintro ⟨w,hw,he⟩
  obtain ⟨i,hi⟩:=List.mem_iff_getElem?.mp hw
  have hlt:i<xs.length:=by rw [hl];exact (List.getElem?_eq_some_iff.mp hi).1
  obtain ⟨k',e1,e2,_⟩:=hk.2 i _ (List.getElem?_eq_getElem hlt)
  obtain ⟨u,hu,rv⟩:=r.get (List.getElem?_eq_getElem hlt)
  rw [hi] at hu;cases hu
  rw [← (GR.inj k' k).1 w ((GV.rel I.hok k').1 _ _ e2 rv) he]
  exact List.mem_of_getElem? e1
 ·intro hm
  obtain ⟨i,hi⟩:=List.mem_iff_getElem?.mp hm
  have hlt:i<xs.length:=by rw [hk.1];exact (List.getElem?_eq_some_iff.mp hi).1
  obtain ⟨k',e1,e2,_⟩:=hk.2 i _ (List.getElem?_eq_getElem hlt)
  rw [hi] at e1;cases e1
  obtain ⟨u,hu,rv⟩:=r.get (List.getElem?_eq_getElem hlt)
  exact ⟨u,List.mem_of_getElem? hu,(GV.rel I.hok k).1 _ _ e2 rv⟩
open Classical in
theorem oB {k:GK} {x:V} {v:Value} {xs:List V} {ks:List GK} {its:List Value} {A:Around} (hu:A.units+9<cLine) (I:Inv X pins σ H s) (r:Vals xs its) (hx:(GV H k).1 x) (rx:RelV x v) (hk:xs.length=ks.length∧∀(i:Nat) z,xs[i]?=some z→∃k',ks[i]?=some k'∧(GV H k').1 z∧gd k'≤8) :
  ∀y,y∈its.toArray→SeqAt.EqAt A s y v (decide ((GR s.heap k).1 y)):=by
 intro y hy
 have hl:=r.length
 obtain ⟨i,hi⟩:=List.mem_iff_getElem?.mp (by simpa using hy:y∈its)
 have hlt:i<xs.length:=by rw [hl];exact (List.getElem?_eq_some_iff.mp hi).1
 obtain ⟨k',e1,e2,e3⟩:=hk.2 i _ (List.getElem?_eq_getElem hlt)
 obtain ⟨u,hu',rv⟩:=r.get (List.getElem?_eq_getElem hlt)
 rw [hi] at hu';cases hu'
 have g1:=(GV.rel I.hok k').1 _ _ e2 rv
 have g2:=(GV.rel I.hok k).1 _ _ hx rx
 have:=(QA k' k).1 A _ _ g1 g2 (by omega)
 have e:decide ((GR s.heap k).1 y)=decide (k'=k):=by
  by_cases h:k'=k
  ·subst h;simp [g1]
  ·have:¬(GR s.heap k).1 y:=fun z=>h ((GR.inj k' k).1 y g1 z)
   simp [h,this]
 rw [e]
 exact this
open Classical in
theorem CB (hu:X.A.units+10<cLine):OpR X (compareOp .In) (dQ X.K false):=by
 intro pins s σ H x y v u Q I rx ry h
 obtain ⟨p,xs,k,ks,rfl,hq,hx,h8,hk,q⟩:=h
 cases ry
 obtain ⟨its,r,pl,hz⟩:=I.list hq
 refine SeqAt.in_listAt (fun y=>decide ((GR s.heap k).1 y)) pl.isList (oB (by simp only [Around.in1_units];omega) I r hx rx hk) ⟨.bl _,H,I,rfl,?_⟩
 rw [show its.toArray.any (fun y=>decide ((GR s.heap k).1 y))=its.any (fun y=>decide ((GR s.heap k).1 y)) by simp,mW I r hk]
 exact q
open Classical in
theorem Z0 (hu:X.A.units+10<cLine):OpR X (compareOp .NotIn) (dQ X.K true):=by
 intro pins s σ H x y v u Q I rx ry h
 obtain ⟨p,xs,k,ks,rfl,hq,hx,h8,hk,q⟩:=h
 cases ry
 obtain ⟨its,r,pl,hz⟩:=I.list hq
 refine SeqAt.notIn_listAt (fun y=>decide ((GR s.heap k).1 y)) pl.isList (oB (by simp only [Around.in1_units];omega) I r hx rx hk) ⟨.bl _,H,I,rfl,?_⟩
 rw [show its.toArray.any (fun y=>decide ((GR s.heap k).1 y))=its.any (fun y=>decide ((GR s.heap k).1 y)) by simp,mW I r hk]
 exact q
theorem AN (K:PySem.W.Frag) (hu:X.A.units+10<cLine) (hK:X.K=K:=by rfl):OpR X (compareOp .In) (dQ K false):=by subst hK;exact CB hu
theorem t7 (K:PySem.W.Frag) (hu:X.A.units+10<cLine) (hK:X.K=K:=by rfl):OpR X (compareOp .NotIn) (dQ K true):=by subst hK;exact Z0 hu
end
end L2
namespace L2
open PySem PySem.Spec PyProof.Rows
section
variable {prog:Program} {w:World} {A:Around} {s:Shared} {E:Value→Shared→Prop}
end
section
variable {X:Cx}
end
section
variable {X:Cx}
end
end L2
namespace L2
open PySem PySem.Spec PyProof.Rows
section
variable {prog:Program} {w:World} {A:Around} {E:Value→Shared→Prop} {s:Shared} {d it:Addr} {xs:List j3} {o:Obj} {es:Array DictEntry} {i ep:Nat}
theorem gB {Q:Value→Shared→Prop} (hd:(d == sysModules)=false) (ho:s.heap.get? d=some o) (hc:o.ExactDict) (hdat:o.data=.dict es ep)
  (hQ:Q (.ref s.heap.objs.size) {s with heap:=s.heap.push {cls:=.type "dict_keyiterator",data:=.fields #[.ref d,.int 0 0,.int es.size 0,.int ep 0]}}):wpAny (model prog w) A (pyIter (.ref d)) Q E s:=by
 have T:s.TypeIs (.ref d) "dict":=⟨o,ho,hc.1⟩
 refine wpAny_pyIter_slot T PySem.F.slot_dict_iter (wpAny_call_entry PySem.F.slot_dict_iter T PySem.F.entry_dict_iter ?_ (PySem.F.args_dict_iter_1 _))
 unfold Builtin.«dict.__iter__»
 refine wpAny_bind ?_;unfold Builtin.Dict.dictSlotNone;refine wpAny_bind (wpAny_notOrdered_dict T ?_)
 show wpAny _ _ (pure (Value.ref d)) _ _ s;refine wpAny_pure ?_
 show wpAny _ _ (Builtin.Dict.showsAll d >>= _) _ _ s;unfold Builtin.Dict.showsAll;rw [if_neg (by rw [hd];exact Bool.false_ne_true)]
 refine wpAny_bind (wpAny_pure (wpAny_bind (wpAny_dictEntries ho hdat (wpAny_bind (wpAny_dictEpoch ho hdat ?_)))))
 refine wpAny_bind (wpAny_newObj_type (wpAny_pure ⟨_,rfl,"dict_keyiterator",_,⟨_,Heap.get?_push_size _ rfl,rfl⟩,PySem.F.slot_dict_keyiterator_next.lookup,?_⟩))
 simpa [rawInt] using hQ
theorem o4 {Q:Option Value→Shared→Prop} (hit:s.heap.IsKeyIter it d i es.size ep) (hod:s.heap.get? d=some o) (hdd:o.data=.dict es ep) (hi:i<es.size)
  (hQ:∀h',h'.IsKeyIter it d (i+1) es.size ep→Heap.SameBut it s.heap h'→Q (some es[i].key) {s with heap:=h'}):wpAny (model prog w) A (pyNext (.ref it)) Q E s:=by
 obtain ⟨oi,ho,hc,hd⟩:=id hit
 unfold pyNext
 refine wpAny_bind (wpAny_attempt (wpAny_callSpecial?_slot (name:=Str.ofString "__next__") hit.typeIs PySem.F.slot_dict_keyiterator_next (wpAny_call_entry PySem.F.slot_dict_keyiterator_next hit.typeIs PySem.F.entry_dict_keyiterator_next ?_ (PySem.F.args_dict_keyiterator_next_1 _))))
 refine wpAny_bind (wpAny_pure (wpAny_bind (wpAny_bind ?_)))
 first|refine wpAny_bind (wpAny_typeNameOfWhole_keyiter hit.typeIs (wpAny_pure (wpAny_bind (wpAny_fieldsOf ho hd ?_))))|refine wpAny_bind (wpAny_typeNameOf_keyiter hit.typeIs (wpAny_pure (wpAny_bind (wpAny_fieldsOf ho hd ?_))))
 simp only [show Builtin.Dict_items.ownsTuple "dict_keyiterator"=false by decide,Bool.false_eq_true,if_false]
 show wpAny _ _ (if (Value.ref d == Value.none)=true then _ else _) _ _ s
 rw [if_neg (show ¬((Value.ref d == Value.none)=true) from Bool.false_ne_true)]
 refine wpAny_bind (wpAny_pure (wpAny_bind (wpAny_dictEntries hod hdd ?_)));rw [if_neg (by simp)]
 refine wpAny_bind (wpAny_pure (wpAny_bind (wpAny_dictEpoch hod hdd ?_)));rw [if_neg (by simp)];refine wpAny_pure ?_
 simp only [show ¬((i:Int)<0) from by omega,if_false,Int.toNat_natCast,Array.getElem?_eq_getElem hi]
 refine wpAny_bind ?_
 first|refine wpAny_bind (wpAny_typeNameOfWhole_keyiter hit.typeIs (wpAny_pure (wpAny_bind (wpAny_isOneOf_keyiter hit.typeIs ?_))))|refine wpAny_bind (wpAny_typeNameOf_keyiter hit.typeIs (wpAny_pure (wpAny_bind (wpAny_isOneOf_keyiter hit.typeIs ?_))))
 show wpAny _ _ (setField (.ref it) 1 (rawInt ((i:Int)+1)) >>= _) _ _ s
 refine wpAny_bind (wpAny_setField ho hd (by simp) ?_)
 have hit':(s.heap.update it (Obj.mapFields (·.setIfInBounds 1 (rawInt ((i:Int)+1))))).IsKeyIter it d (i+1) es.size ep:=⟨_,Heap.get?_update_self _ ho (Obj.isFreed_of_fields (Obj.data_mapFields hd _)),(Obj.cls_mapFields ..).trans hc,by rw [Obj.data_mapFields hd];simp [rawInt]⟩
 refine wpAny_bind (wpAny_holding (wpAny_bind (wpAny_isOneOf_keyiter (s:={s with heap:=s.heap.update it (Obj.mapFields (·.setIfInBounds 1 (rawInt ((i:Int)+1))))}) hit'.typeIs ?_)))
 show wpAny _ _ (pure es[i].key) _ _ _
 exact wpAny_pure (wpAny_pure ⟨_,rfl,wpAny_pure (hQ _ hit' (Heap.SameBut.update ..))⟩)
theorem iG {Q:Option Value→Shared→Prop} (hh:A.handled=none) (hit:s.heap.IsKeyIter it d i es.size ep) (hod:s.heap.get? d=some o) (hdd:o.data=.dict es ep) (hi:es.size≤i)
  (hQ:∀h',Heap.ExtBut it s.heap h'→Q none {s with heap:=h'}):wpAny (model prog w) A (pyNext (.ref it)) Q E s:=by
 obtain ⟨oi,ho,hc,hd⟩:=id hit
 unfold pyNext
 refine wpAny_bind (wpAny_attempt (wpAny_callSpecial?_slot (name:=Str.ofString "__next__") hit.typeIs PySem.F.slot_dict_keyiterator_next (wpAny_call_entry PySem.F.slot_dict_keyiterator_next hit.typeIs PySem.F.entry_dict_keyiterator_next ?_ (PySem.F.args_dict_keyiterator_next_1 _))))
 refine wpAny_bind (wpAny_pure (wpAny_bind (wpAny_bind ?_)))
 first|refine wpAny_bind (wpAny_typeNameOfWhole_keyiter hit.typeIs (wpAny_pure (wpAny_bind (wpAny_fieldsOf ho hd ?_))))|refine wpAny_bind (wpAny_typeNameOf_keyiter hit.typeIs (wpAny_pure (wpAny_bind (wpAny_fieldsOf ho hd ?_))))
 simp only [show Builtin.Dict_items.ownsTuple "dict_keyiterator"=false by decide,Bool.false_eq_true,if_false]
 show wpAny _ _ (if (Value.ref d == Value.none)=true then _ else _) _ _ s
 rw [if_neg (show ¬((Value.ref d == Value.none)=true) from Bool.false_ne_true)]
 refine wpAny_bind (wpAny_pure (wpAny_bind (wpAny_dictEntries hod hdd ?_)));rw [if_neg (by simp)]
 refine wpAny_bind (wpAny_pure (wpAny_bind (wpAny_dictEpoch hod hdd ?_)));rw [if_neg (by simp)];refine wpAny_pure ?_
 simp only [show ¬((i:Int)<0) from by omega,if_false,Int.toNat_natCast,Array.getElem?_eq_none hi]
 refine wpAny_bind ?_
 first|refine wpAny_bind (wpAny_typeNameOfWhole_keyiter hit.typeIs (wpAny_pure ?_))|refine wpAny_bind (wpAny_typeNameOf_keyiter hit.typeIs (wpAny_pure ?_))
 show wpAny _ _ (setField (.ref it) 0 .none >>= _) _ _ s
 refine wpAny_bind (wpAny_setField ho hd (by simp) ?_)
 show wpAny _ _ (newExc (.type "StopIteration") [] >>= _) _ _ _
 refine wpAny_bind ?_
 simp only [newExc,newTuple]
 refine wpAny_bind (wpAny_newObj_type (wpAny_bind (m:=firstArgMember _ _) (wpAny_of_eq (a:=Value.none) (by first|rfl|(simp only [firstArgMember];rfl)) ?_)) (by size_fits))
 refine wpAny_newObj_type ?_ (by size_fits)
 simp only [raiseNew]
 refine wpAny_bind (wpAny_handled ?_)
 rw [show A.in1.handled=none from hh]
 refine wpAny_bind (wpAny_pure (wpAny_throw ?_));refine wpAny_bind (wpAny_isInstance (T:="StopIteration") (b:=true) ⟨_,Heap.get?_push_size _ rfl,rfl⟩ isSubtype_stop ?_)
 exact wpAny_pure (hQ _ ((((Heap.SameBut.update ..).extBut).push _).push _))
end
theorem iE {α β:Type} {R:α→β→Prop}:∀{l:List α} {m:List β},Paired R l m→∀{i:Nat} {a:α},l[i]?=some a→∃b,m[i]?=some b∧R a b
 |_,_,.nil,i,a,h=>by cases h
 |_,_,.cons r t,0,a,h=>by cases h;exact ⟨_,rfl,r⟩
 |_,_,.cons r t,i+1,a,h=>iE t h
def QI (w:World) (d:Addr) (o:Obj) (kvs:List jS):It :=
 ⟨fun i H=>H d=some (.frz o (GO w d kvs))∧i<kvs.length,fun i H x H'=>H'=H∧∃p,kvs[i]?=some p∧x=p.2.1,fun i H=>H d=some (.frz o (GO w d kvs))∧kvs.length≤i⟩
theorem oN {P:Program} {w:World} {K:PySem.W.Frag} {tg:Expr} {o:Obj} {es:Array DictEntry} {ep:Nat} {kvs:List jS} (d it:Addr) (hdd:o.data=.dict es ep) (hz:es.size=kvs.length):Turn P w K tg (QI w d o kvs) [it] it (fun i h=>h.IsKeyIter it d i es.size ep) where
 mem:=by simp
 obj:=fun i h st b hb=>by
  have e:b=it:=by simpa using hb
  subst e
  obtain ⟨o,e,c,d⟩:=st
  exact ⟨o,e,fun v z=>by rw [d] at z;cases z⟩
 keep:=fun i h h' ⟨o,ho,r⟩ k=>⟨o,k it (by simp) o ho,r⟩
 item:=by
  intro X hP hw hK hc i pins s σ H E I hf st hg
  subst hP hw hK
  obtain ⟨hH,hi⟩:=hg
  obtain ⟨ho,⟨_,hm,xs,rel,o',es',ep',ho',hx,hd',he⟩,_⟩:=I.hok d _ hH
  rw [ho] at ho';cases ho'
  rw [hdd] at hd';cases hd'
  obtain ⟨f0,f1,f2,f3,f4,f5⟩:=hf it (by simp)
  have hi':i<es.size:=by rw [hz];exact hi
  refine o4 st ho hdd hi' fun h' st' sb=>?_
  have I1:Inv X pins σ H {s with heap:=h'}:=I.turned (t':=s.toks) (fun b o hb e=>(sb.2 b hb).trans e) f0 f1 f3 f4 f5
  obtain ⟨o,e,c,dd⟩:=id st'
  have hk:kvs[i]?=some kvs[i]:=List.getElem?_eq_getElem hi
  refine ⟨_,rfl,gD (s:={s with heap:=h'}) e c dd (by decide) ⟨kvs[i].2.1,H,I1,?_,⟨rfl,_,hk,rfl⟩,st',fun b hb=>(hf b hb).1⟩⟩
  obtain ⟨q,hq,r⟩:=iE rel hk
  have:es.toList[i]?=some (yO X.w q):=by rw [he,List.getElem?_map,hq];rfl
  rw [Array.getElem?_toList,Array.getElem?_eq_getElem hi'] at this
  rw [Option.some.inj this]
  exact r.2.1
 done:=by
  intro X hP hw hK hc i pins s σ H E I hf st hg
  subst hP hw hK
  obtain ⟨hH,hi⟩:=hg
  obtain ⟨ho,_⟩:=I.hok d _ hH
  obtain ⟨f0,f1,f2,f3,f4,f5⟩:=hf it (by simp)
  exact iG (I.ok.hd hc) st ho hdd (by rw [hz];exact hi) fun h' eb=>⟨rfl,I.turned (t':=s.toks) (fun b o hb e=>eb b o hb e) f0 f1 f3 f4 f5⟩
 self:=fun _ _ _ _ _ st h=>wpAny_pyIter_keyiter st h
section
variable {X:Cx} {tg:Expr}
def CN (w:World) (td:TE):TI:=fun σ H R=>td σ H fun x H1=>∃d kvs,x=.ref d∧H1 d=some (GO w d kvs)∧∀o,R (QI w d o kvs) (jC H1 d (.frz o (GO w d kvs)))
theorem xF {l:Expr} {td:TE} (hl:PE X l td):PI X tg l (CN X.w td):=by
 intro pins s σ H R I h
 refine jM (hl pins s σ H _ I h) fun v s1 ⟨x,H1,I1,r1,q1⟩=>?_
 obtain ⟨d,kvs,e,hd,q⟩:=q1
 subst e
 cases r1
 obtain ⟨⟨hn,hm,xs,rel,o,es,ep,ho,hc,hdd,he⟩,ex,st⟩:=I1.hok d _ hd
 have hz:es.size=kvs.length:=by rw [← Array.length_toList,he,List.length_map];exact (Paired.length rel).symm
 have I2:Inv X pins σ (jC H1 d (.frz o (GO X.w d kvs))) {s1 with heap:=s1.heap,toks:=s1.toks}:=I1.write (x:=d) (e:=d) (by rw [hd];exact True.intro) (.inl rfl) (fun b u _ e=>e) ⟨o,ho⟩ ⟨ho,⟨hn,hm,xs,rel,o,es,ep,ho,hc,hdd,he⟩,ex,st⟩
 refine gB hm ho hc hdd ?_
 refine ⟨s1.heap.objs.size,[s1.heap.objs.size],_,_,_,rfl,I2.kept (t':=s1.toks) fun b o e=>Heap.get?_push_of_some _ e,oN d _ hdd hz,⟨_,Heap.get?_push_size _ rfl,rfl,rfl⟩,fun b hb=>?_,q o⟩
 have e:b=s1.heap.objs.size:=by simpa using hb
 subst e
 exact I2.fpOk (Nat.le_refl _) (I2.hok.fresh (Nat.le_refl _))
def AZ (w:World) (td:TE):TI:=fun σ H R=>td σ H fun x H1=>∃d o kvs,x=.ref d∧H1 d=some (.frz o (GO w d kvs))∧R (QI w d o kvs) H1
theorem i0 {l:Expr} {td:TE} (hl:PE X l td):PI X tg l (AZ X.w td):=by
 intro pins s σ H R I h
 refine jM (hl pins s σ H _ I h) fun v s1 ⟨x,H1,I1,r1,q1⟩=>?_
 obtain ⟨d,o,kvs,e,hd,q⟩:=q1
 subst e
 cases r1
 obtain ⟨ho,⟨hn,hm,xs,rel,o',es,ep,ho',hc,hdd,he⟩,ex,st⟩:=I1.hok d _ hd
 rw [ho] at ho';cases ho'
 have hz:es.size=kvs.length:=by rw [← Array.length_toList,he,List.length_map];exact (Paired.length rel).symm
 refine gB hm ho hc hdd ?_
 refine ⟨s1.heap.objs.size,[s1.heap.objs.size],_,_,_,rfl,I1.kept (t':=s1.toks) fun b o e=>Heap.get?_push_of_some _ e,oN d _ hdd hz,⟨_,Heap.get?_push_size _ rfl,rfl,rfl⟩,fun b hb=>?_,q⟩
 have e:b=s1.heap.objs.size:=by simpa using hb
 subst e
 exact I1.fpOk (Nat.le_refl _) (I1.hok.fresh (Nat.le_refl _))
theorem oH {w:World} {d D:Addr} {o:Obj} {kvs:List jS} {tc:TT} {te:TE} {caps:St} {H:Hp} {Q:Hp→Prop} (R:Nat→List V→Hp→Prop) (hD:H D=none) (hS:H d=some (.frz o (GO w d kvs))) (h0:R 0 [] (jC H D (.lst [])))
  (hs:∀(i:Nat) (p:jS) ys Hi,kvs[i]?=some p→i<kvs.length→ys.length≤i→Same H Hi→Hi D=some (.lst ys)→R i ys Hi→tc (some p.2.1::caps) Hi fun b H4=>if b=true then te (some p.2.1::caps) H4 fun v H5=>∃zs,H5 D=some (.lst zs)∧zs.length<sizeLine∧zK H D caps R (i+1) (some p.2.1::caps) (jC H5 D (.lst (zs++[v])))
   else zK H D caps R (i+1) (some p.2.1::caps) H4)
  (hd:∀ys Hf,Same H Hf→Hf D=some (.lst ys)→ys.length≤kvs.length→R kvs.length ys Hf→Q Hf):QB D (QI w d o kvs) (ZP 0) tc te (none::caps) H Q:=by
 refine ⟨fun i m σ Hi=>m=kvs.length - i∧i≤kvs.length∧zK H D caps R i σ Hi,⟨kvs.length,by simp,Nat.zero_le _,[],none,rfl,qI hD (Same.refl H),jG,Nat.le_refl _,h0⟩,?_⟩
 rintro i m σ Hi ⟨rfl,hi,ys,c,rfl,s,hY,hl,r⟩
 by_cases hlt:i<kvs.length
 ·refine .inr ⟨⟨s _ _ hS,hlt⟩,zK H D caps R (i+1),fun σ' H' p'=>⟨kvs.length - (i+1),by omega,rfl,hlt,p'⟩,fun x H' y=>?_⟩
  obtain ⟨rfl,p,hp,rfl⟩:=y
  exact hs i p ys _ hp hlt hl s hY r
 ·obtain rfl:i=kvs.length:=by omega
  exact .inl ⟨⟨s _ _ hS,Nat.le_refl _⟩,hd ys Hi s hY hl r⟩
end
end L2
namespace L2
open PySem PySem.Spec PyProof.Rows
theorem BA {A:Around} {k:Nat} (hr:Room k A):A.units+15<cLine:=by have:=hr.units;omega
def SEq (K:PySem.W.Frag) (H:Hp):Nat→V→V→Prop
 |0,x,y=>∃k,(GV H k).1 x∧(GV H k).1 y∧gd k≤9
 |n+1,x,y=>(∃k,(GV H k).1 x∧(GV H k).1 y∧gd k≤9)∨∃(a b:Addr) (xs ys:List V),x=.ref a∧y=.ref b∧a≠b∧SqL K H a xs∧SqL K H b ys∧xs.length=ys.length∧∀j,j<xs.length→SEq K H n (xs.getD j .non) (ys.getD j .non)
section
variable {X:Cx} {pins:List (Addr×Obj)} {σ:St} {H:Hp} {s:Shared}
theorem nB {A:Around} {x y:V} {u v:Value} (I:Inv X pins σ H s) (h:∃k,(GV H k).1 x∧(GV H k).1 y∧gd k≤9) (rx:RelV x u) (ry:RelV y v) (hu:A.units+10<cLine):SeqAt.EqAt A s u v true:=by
 obtain ⟨k,h1,h2,h9⟩:=h
 have:=(QA k k).1 A u v ((GV.rel I.hok k).1 _ _ h1 rx) ((GV.rel I.hok k).1 _ _ h2 ry) (by omega)
 rwa [decide_eq_true rfl] at this
theorem fN (n:Nat):(List.range n).all (fun _=>true)=true:=by simp
theorem SEq.at (I:Inv X pins σ H s):∀(n:Nat) (A:Around) (x y:V) (u v:Value),SEq X.K H n x y→RelV x u→RelV y v→A.units+10+n<cLine→SeqAt.EqAt A s u v true
 |0,A,x,y,u,v,h,rx,ry,hu=>nB I h rx ry (by omega)
 |n+1,A,x,y,u,v,h,rx,ry,hu=>by
  rcases h with h|⟨a,b,xs,ys,rfl,rfl,ne,ha,hb,hl,he⟩
  ·exact nB I h rx ry (by omega)
  ·cases rx;cases ry
   obtain ⟨its,r,pl,hz⟩:=I.list ha
   obtain ⟨its2,r2,pl2,hz2⟩:=I.list hb
   have l1:=r.length
   have l2:=r2.length
   have h:=SeqAt.RcAt.lists (A:=A) (e:=fun _=>true) pl.isList pl2.isList (by rw [List.size_toArray,List.size_toArray,← l1,← l2,hl]) (by omega) (fun j h1 h2=>SEq.at I n A.in1 _ _ _ _ (he j (by rw [l1];simpa using h1)) (vQ r h1) (vQ r2 h2) (by simp only [Around.in1_units];omega))
   rw [fN] at h
   exact SeqAt.EqAt.of_refs ne h
end
end L2
namespace L2
open PySem
def kQ {α:Type} (f:α→α):Nat→α→α
 |0,a=>a
 |n+1,a=>kQ f n (f a)
theorem ZA {α:Type} (f:α→α):∀(n:Nat) (a:α),kQ f (n+1) a=f (kQ f n a)
 |0,_=>rfl
 |n+1,a=>by show kQ f (n+1) (f a)=_;rw [ZA f n (f a)];rfl
theorem J8 {α:Type} (f:α→α):∀(m n:Nat) (a:α),kQ f (m+n) a=kQ f n (kQ f m a)
 |0,n,a=>by rw [Nat.zero_add];rfl
 |m+1,n,a=>by rw [show m+1+n=(m+n)+1 by omega];exact J8 f m n (f a)
def ZL (t:SetTable) (i q:Nat) (d:Option Nat):SetTable.Probe:={j:=i,more:=SetTable.runEnd t.mask i - i,i:=i,perturb:=q,dummy:=d}
theorem mX {t:SetTable} {p:SetTable.Probe} (h:0<p.more):t.advance p={p with j:=p.j+1,more:=p.more - 1}:=by
 unfold SetTable.advance;rw [if_pos h]
theorem fO {t:SetTable} {p:SetTable.Probe} (h:p.more=0):t.advance p=ZL t (SetTable.leap t.mask p.i p.perturb).1 (SetTable.leap t.mask p.i p.perturb).2 p.dummy:=by
 unfold SetTable.advance;rw [if_neg (by omega)];rfl
theorem cX {t:SetTable}:∀(k:Nat) (p:SetTable.Probe),k≤p.more→kQ t.advance k p={p with j:=p.j+k,more:=p.more - k}
 |0,p,_=>rfl
 |k+1,p,h=>by
  show kQ t.advance k (t.advance p)=_
  rw [mX (by omega),cX k _ (by show k≤p.more - 1;omega)]
  simp only [SetTable.Probe.mk.injEq,true_and,and_true]
  constructor<;>omega
theorem BU (mask i:Nat):SetTable.runEnd mask i - i≤9:=by unfold SetTable.runEnd;split<;>omega
def vJ (mask:Nat):Nat→Nat→Nat→Nat×Nat
 |0,i,q=>(i,q)
 |m+1,i,q=>vJ mask m (SetTable.leap mask i q).1 (SetTable.leap mask i q).2
theorem iH {t:SetTable} {d:Option Nat}:∀(m i q:Nat),∃n,n≤10*m∧kQ t.advance n (ZL t i q d)=ZL t (vJ t.mask m i q).1 (vJ t.mask m i q).2 d
 |0,i,q=>⟨0,Nat.le_refl _,rfl⟩
 |m+1,i,q=>by
  obtain ⟨n,hn,e⟩:=iH (t:=t) (d:=d) m (SetTable.leap t.mask i q).1 (SetTable.leap t.mask i q).2
  have hr:=BU t.mask i
  refine ⟨(SetTable.runEnd t.mask i - i)+1+n,by omega,?_⟩
  rw [J8,ZA,cX (SetTable.runEnd t.mask i - i) (ZL t i q d) (Nat.le_refl _),fO (by show SetTable.runEnd t.mask i - i - (SetTable.runEnd t.mask i - i)=0;omega)]
  exact e
theorem eW (mask:Nat):∀(m i q:Nat),(vJ mask m i q).2=q / 32 ^ m
 |0,i,q=>by simp [vJ]
 |m+1,i,q=>by
  show (vJ mask m _ (q / 32)).2=_
  rw [eW mask m,Nat.div_div_eq_div_mul,Nat.pow_succ,Nat.mul_comm]
def zO (mask i:Nat):Nat:=(i*5+1)%(mask+1)
theorem eV (mask:Nat):∀(m i:Nat),vJ mask m i 0=(kQ (zO mask) m i,0)
 |0,_=>rfl
 |m+1,i=>by
  show vJ mask m _ (0 / 32)=_
  rw [show 0 / 32=0 from rfl,eV mask m]
  show _=(kQ (zO mask) m (zO mask i),0)
  unfold SetTable.leap zO
  simp
theorem Z1 (mask:Nat):∀(m n i q:Nat),vJ mask (m+n) i q=vJ mask n (vJ mask m i q).1 (vJ mask m i q).2
 |0,n,i,q=>by rw [Nat.zero_add];rfl
 |m+1,n,i,q=>by rw [show m+1+n=(m+n)+1 by omega];exact Z1 mask m n _ _
def zX (mask:Nat):Nat→Nat→List Nat
 |0,_=>[]
 |n+1,i=>i::zX mask n (zO mask i)
theorem nK (mask:Nat):∀(n i k:Nat),k<n→(zX mask n i)[k]?=some (kQ (zO mask) k i)
 |0,_,_,h=>absurd h (Nat.not_lt_zero _)
 |n+1,i,0,_=>rfl
 |n+1,i,k+1,h=>by show (zX mask n (zO mask i))[k]?=_;rw [nK mask n _ k (by omega)];rfl
def zH (mask:Nat):Prop:=mask=7∨mask=31∨mask=127
theorem AL {mask:Nat} (h:zH mask):(∀j,j≤mask→j∈zX mask (mask+1) 0)∧kQ (zO mask) (mask+1) 0=0:=by
 rcases h with rfl|rfl|rfl
 ·exact ⟨fun j hj=>(show ∀j,j<8→j∈zX 7 8 0 by decide +kernel) j (by omega),by decide +kernel⟩
 ·exact ⟨fun j hj=>(show ∀j,j<32→j∈zX 31 32 0 by decide +kernel) j (by omega),by decide +kernel⟩
 ·exact ⟨fun j hj=>(show ∀j,j<128→j∈zX 127 128 0 by decide +kernel) j (by omega),by decide +kernel⟩
theorem nR {mask i j:Nat} (h:zH mask) (hi:i≤mask) (hj:j≤mask):∃k,k≤mask∧kQ (zO mask) k i=j:=by
 obtain ⟨h1,h2⟩:=AL h
 have at_:∀x,x≤mask→∃a,a≤mask∧kQ (zO mask) a 0=x:=fun x hx=>by
  obtain ⟨a,ha⟩:=List.mem_iff_getElem?.mp (h1 x hx)
  have hlt:a<mask+1:=by
   by_cases hl:a<mask+1
   ·exact hl
   ·have hlen:∀n i,(zX mask n i).length=n:=fun n=>by
     induction n with
     |zero=>intro i;rfl
     |succ n ih=>intro i;show (zX mask n _).length+1=_;rw [ih]
    rw [List.getElem?_eq_none (by rw [hlen];omega)] at ha;cases ha
  rw [nK mask _ _ _ hlt] at ha
  exact ⟨a,by omega,Option.some.inj ha⟩
 obtain ⟨a,ha,rfl⟩:=at_ i hi
 obtain ⟨b,hb,rfl⟩:=at_ j hj
 by_cases hab:a≤b
 ·exact ⟨b - a,by omega,by rw [← J8];congr 1;omega⟩
 ·refine ⟨mask+1+b - a,by omega,?_⟩
  rw [← J8,show a+(mask+1+b - a)=(mask+1)+b by omega,J8,h2]
theorem iX {t:SetTable} (h:zH t.mask) (hs:Int) {j:Nat} (hj:j≤t.mask):∃n,n<10*SetTable.turns t.mask∧(kQ t.advance n (t.probeStart hs)).j=j:=by
 have hb:SetTable.bits hs<2 ^ 64:=by
  unfold SetTable.bits
  have:=Int.emod_lt_of_pos hs (show (0:Int)<2 ^ 64 by decide)
  have:=Int.emod_nonneg hs (show (2 ^ 64:Int)≠0 by decide)
  omega
 have e0:t.probeStart hs=ZL t (SetTable.bits hs%(t.mask+1)) (SetTable.bits hs) none:=rfl
 have hp:(vJ t.mask 13 (SetTable.bits hs%(t.mask+1)) (SetTable.bits hs)).2=0:=by
  rw [eW]
  exact Nat.div_eq_of_lt (Nat.lt_trans hb (by decide))
 have hi:(vJ t.mask 13 (SetTable.bits hs%(t.mask+1)) (SetTable.bits hs)).1≤t.mask:=by
  rw [show (13:Nat)=12+1 from rfl,Z1]
  show (SetTable.leap _ _ _).1≤_
  unfold SetTable.leap
  exact Nat.lt_succ_iff.mp (Nat.mod_lt _ (Nat.succ_pos _))
 obtain ⟨k,hk,ek⟩:=nR h hi hj
 obtain ⟨n,hn,en⟩:=iH (t:=t) (d:=none) (13+k) (SetTable.bits hs%(t.mask+1)) (SetTable.bits hs)
 refine ⟨n,by unfold SetTable.turns;omega,?_⟩
 rw [e0,en,Z1,hp,eV]
 exact ek
end L2
namespace L2
open PySem
def Up (xs:Array Nat):Prop:=∀(a b x y:Nat),a<b→xs[a]?=some x→xs[b]?=some y→x<y
theorem fM {xs:Array Nat} {j:Nat} (up:Up xs):∀(fuel lo hi:Nat),hi - lo≤fuel→lo≤hi→hi≤xs.size→(∀(a x:Nat),a<lo→xs[a]?=some x→x<j)→(∀(a x:Nat),hi≤a→xs[a]?=some x→j≤x)→
  (∀(a x:Nat),a<SetTable.below.go xs j fuel lo hi→xs[a]?=some x→x<j)∧(∀(a x:Nat),SetTable.below.go xs j fuel lo hi≤a→xs[a]?=some x→j≤x)∧SetTable.below.go xs j fuel lo hi≤xs.size
 |0,lo,hi,hf,hl,hh,h1,h2=>by
  obtain rfl:lo=hi:=by omega
  exact ⟨h1,h2,hh⟩
 |fuel+1,lo,hi,hf,hl,hh,h1,h2=>by
  unfold SetTable.below.go
  by_cases hlt:lo<hi
  ·rw [if_pos hlt]
   have hm:(lo+hi) / 2<xs.size:=by omega
   have e:xs[(lo+hi) / 2]?=some xs[(lo+hi) / 2]:=Array.getElem?_eq_getElem hm
   have eD:xs.getD ((lo+hi) / 2) j=xs[(lo+hi) / 2]:=by rw [Array.getD_eq_getD_getElem?,e];rfl
   dsimp only
   rw [eD]
   by_cases hc:xs[(lo+hi) / 2]<j
   ·rw [if_pos hc]
    refine fM up fuel _ _ (by omega) (by omega) hh (fun a x ha hx=>?_) h2
    by_cases ha2:a=(lo+hi) / 2
    ·subst ha2;rw [e] at hx;cases hx;exact hc
    ·exact Nat.lt_trans (up a ((lo+hi) / 2) x _ (by omega) hx e) hc
   ·rw [if_neg hc]
    refine fM up fuel _ _ (by omega) (by omega) (by omega) h1 (fun a x ha hx=>?_)
    by_cases ha2:a=(lo+hi) / 2
    ·subst ha2;rw [e] at hx;cases hx;omega
    ·have:=up ((lo+hi) / 2) a _ x (by omega) e hx;omega
  ·rw [if_neg hlt]
   obtain rfl:lo=hi:=by omega
   exact ⟨h1,h2,hh⟩
theorem mV {xs:Array Nat} (up:Up xs) (j:Nat):(∀(a x:Nat),a<SetTable.below xs j→xs[a]?=some x→x<j)∧(∀(a x:Nat),SetTable.below xs j≤a→xs[a]?=some x→j≤x)∧SetTable.below xs j≤xs.size :=
 fM up xs.size 0 xs.size (by omega) (Nat.zero_le _) (Nat.le_refl _) (fun a x h=>absurd h (Nat.not_lt_zero a)) (fun a x h hx=>by rw [Array.getElem?_eq_none h] at hx;cases hx)
theorem xW {xs:Array Nat} (up:Up xs) {i j:Nat} (h:xs[i]?=some j):SetTable.below xs j=i:=by
 obtain ⟨h1,h2,h3⟩:=mV up j
 rcases Nat.lt_trichotomy (SetTable.below xs j) i with hlt|he|hgt
 ·have hs:SetTable.below xs j<xs.size:=Nat.lt_trans hlt (by have:=(Array.getElem?_eq_some_iff.mp h).1;exact this)
  have e:xs[SetTable.below xs j]?=some xs[SetTable.below xs j]:=Array.getElem?_eq_getElem hs
  have a1:=h2 _ _ (Nat.le_refl _) e
  have a2:=up _ _ _ _ hlt e h
  omega
 ·exact he
 ·exact absurd (h1 i j hgt h) (Nat.lt_irrefl _)
theorem iS {t:SetTable} (up:Up t.place) {i j:Nat} (h:t.place[i]?=some j):t.slot j=.live i:=by
 unfold SetTable.slot
 rw [xW up h]
 simp [h]
theorem tY {t:SetTable} (hd:t.dummies = #[]) {j:Nat} (h:∀i:Nat,t.place[i]?≠some j):t.slot j=.empty:=by
 unfold SetTable.slot
 have h0:(t.place[SetTable.below t.place j]? == some j)=false:=by
  rw [beq_eq_false_iff_ne];exact h _
 have h1:SetTable.has t.dummies j=false:=by
  rw [hd];unfold SetTable.has;simp
 simp only [h0,h1,Bool.false_eq_true,if_false]
def jO (t:SetTable) (h:Int) (n:Nat):Nat:=(kQ t.advance n (t.probeStart h)).j
theorem wW {t:SetTable} {p:SetTable.Probe}:(t.advance p).dummy=p.dummy:=by
 unfold SetTable.advance;split<;>rfl
theorem i7 {t:SetTable}:∀(n:Nat) (p:SetTable.Probe),(kQ t.advance n p).dummy=p.dummy
 |0,_=>rfl
 |n+1,p=>by show (kQ t.advance n (t.advance p)).dummy=_;rw [i7 n,wW]
def qO (t:SetTable) (j:Nat):Prop:=∃i:Nat,t.place[i]?=some j
theorem pK {t:SetTable} (hd:t.dummies = #[]) (up:Up t.place) (hashAt:Nat→Int) (h:Int):∀(fuel n:Nat),(∃m,n≤m∧m<n+fuel∧¬qO t (jO t h m))→
  ∃m met,n≤m∧SetTable.probe.go t hashAt h fuel (kQ t.advance n (t.probeStart h))=some met∧(∀a,n≤a→a<m→∃i:Nat,t.place[i]?=some (jO t h a)∧hashAt i≠h)∧
   ((¬qO t (jO t h m)∧met=.empty (jO t h m) none)∨∃i:Nat,t.place[i]?=some (jO t h m)∧hashAt i=h∧met=.candidate (jO t h m) i (kQ t.advance (m+1) (t.probeStart h)))
 |0,n,⟨m,h1,h2,_⟩=>absurd h2 (by omega)
 |fuel+1,n,⟨m,h1,h2,h3⟩=>by
  unfold SetTable.probe.go
  by_cases ht:qO t (jO t h n)
  ·obtain ⟨i,hi⟩:=ht
   have hs:t.slot (kQ t.advance n (t.probeStart h)).j=.live i:=iS up hi
   rw [hs]
   dsimp only
   by_cases hh:hashAt i=h
   ·rw [if_pos (by rw [hh];exact beq_self_eq_true h)]
    exact ⟨n,_,Nat.le_refl _,rfl,fun a h1 h2=>absurd h2 (by omega),.inr ⟨i,hi,hh,by rw [ZA];rfl⟩⟩
   ·rw [if_neg (by rw [beq_iff_eq];exact hh),← ZA t.advance n (t.probeStart h)]
    have hmn:m≠n:=fun z=>h3 (by rw [z];exact ⟨i,hi⟩)
    obtain ⟨m',met,a1,a2,a3,a4⟩:=pK hd up hashAt h fuel (n+1) ⟨m,by omega,by omega,h3⟩
    refine ⟨m',met,by omega,a2,fun a b1 b2=>?_,a4⟩
    by_cases e:a=n
    ·subst e;exact ⟨i,hi,hh⟩
    ·exact a3 a (by omega) b2
  ·have hs:t.slot (kQ t.advance n (t.probeStart h)).j=.empty:=tY hd fun i hi=>ht ⟨i,hi⟩
   rw [hs]
   exact ⟨n,_,Nat.le_refl _,rfl,fun a h1 h2=>absurd h2 (by omega),.inl ⟨ht,by rw [i7];rfl⟩⟩
theorem nZ {t:SetTable} (up:Up t.place) (hz:t.place.size≤t.mask):∃j,j≤t.mask∧¬qO t j:=by
 by_cases h:∃j,j≤t.mask∧¬qO t j
 ·exact h
 ·exfalso
  have all:∀j,j≤t.mask→∃i:Nat,t.place[i]?=some j:=fun j hj=>by
   by_cases hx:qO t j
   ·exact hx
   ·exact absurd ⟨j,hj,hx⟩ h
  have hle:∀n,n≤t.mask+1→n≤t.place.size:=fun n hn=>by
   have key:∀j,j<n→∃i:Nat,t.place[i]?=some j∧j≤i:=fun j=>by
    induction j with
    |zero=>intro hj;obtain ⟨i,hi⟩:=all 0 (by omega);exact ⟨i,hi,Nat.zero_le _⟩
    |succ j ih =>
     intro hj
     obtain ⟨i,hi,hji⟩:=ih (by omega)
     obtain ⟨i2,hi2⟩:=all (j+1) (by omega)
     refine ⟨i2,hi2,?_⟩
     rcases Nat.lt_trichotomy i i2 with a|a|a
     ·omega
     ·subst a;rw [hi] at hi2;cases hi2
     ·have:=up _ _ _ _ a hi2 hi;omega
   cases n with
   |zero=>exact Nat.zero_le _
   |succ n =>
    obtain ⟨i,hi,hni⟩:=key n (Nat.lt_succ_self n)
    have:=(Array.getElem?_eq_some_iff.mp hi).1
    omega
  have:=hle (t.mask+1) (Nat.le_refl _)
  omega
end L2
namespace L2
open PySem
structure TOk (t:SetTable) (es:Array (Int×Value)):Prop where
 good:zH t.mask
 dum:t.dummies = #[]
 up:Up t.place
 lim:∀(i j:Nat),t.place[i]?=some j→j≤t.mask
 size:t.place.size=es.size
 room:t.place.size≤t.mask
 reach:∀(i s:Nat) (h:Int) (x:Value),t.place[i]?=some s→es[i]?=some (h,x)→∃n,jO t h n=s∧∀m,m<n→qO t (jO t h m)
theorem uP (f m:Nat) (b:Bool):TOk (SetTable.fresh f m b) #[] :=
 ⟨.inl rfl,rfl,fun a b x y _ h=>by simp [SetTable.fresh] at h,fun i j h=>by simp [SetTable.fresh] at h,rfl,Nat.zero_le _,fun i s h x e=>by simp [SetTable.fresh] at e⟩
theorem ZB {α:Type} {xs:Array α} {p:Nat} {v:α} (hp:p≤xs.size) (i:Nat):(SetTable.insertAt xs p v)[i]?=if i<p then xs[i]? else if i=p then some v else xs[i - 1]?:=by
 unfold SetTable.insertAt
 have hs:(xs.extract 0 p).size=p:=by rw [Array.size_extract];omega
 by_cases h1:i<p
 ·rw [if_pos h1,Array.getElem?_append_left (by rw [Array.size_push,hs];omega),Array.getElem?_push,if_neg (by rw [hs];omega),Array.getElem?_extract]
  rw [if_pos (by omega)];simp
 ·rw [if_neg h1]
  by_cases h2:i=p
  ·subst h2
   rw [if_pos rfl,Array.getElem?_append_left (by rw [Array.size_push,hs];omega),Array.getElem?_push,if_pos hs.symm]
  ·rw [if_neg h2,Array.getElem?_append_right (by rw [Array.size_push,hs];omega),Array.size_push,hs,Array.getElem?_extract]
   by_cases h3:i - 1<xs.size
   ·rw [if_pos (by omega)];congr 1;omega
   ·rw [if_neg (by omega),Array.getElem?_eq_none (by omega)]
theorem eX {α:Type} {xs:Array α} {p:Nat} {v:α} (hp:p≤xs.size):(SetTable.insertAt xs p v).size=xs.size+1:=by
 unfold SetTable.insertAt
 rw [Array.size_append,Array.size_push,Array.size_extract,Array.size_extract];omega
theorem eS {t:SetTable} (hd:t.dummies = #[]) (j:Nat):(t.put j).1={t with place:=SetTable.insertAt t.place (SetTable.below t.place j) j}∧(t.put j).2=SetTable.below t.place j:=by
 refine ⟨?_,rfl⟩
 unfold SetTable.put
 have h1:SetTable.has t.dummies j=false:=by
  rw [hd];unfold SetTable.has;simp
 simp only [h1,Bool.false_eq_true,if_false]
theorem uR {t:SetTable} {p j:Nat} (hp:p≤t.place.size) {a:Nat} (h:qO t a):qO {t with place:=SetTable.insertAt t.place p j} a:=by
 obtain ⟨i,hi⟩:=h
 by_cases hip:i<p
 ·exact ⟨i,by show (SetTable.insertAt t.place p j)[i]?=_;rw [ZB hp,if_pos hip];exact hi⟩
 ·exact ⟨i+1,by show (SetTable.insertAt t.place p j)[i+1]?=_;rw [ZB hp,if_neg (by omega),if_neg (by omega)];exact hi⟩
theorem mY {t:SetTable} {es:Array (Int×Value)} {h:Int} {x:Value} {n:Nat} (k:TOk t es) (hf:¬qO t (jO t h n)) (hb:∀m,m<n→qO t (jO t h m)) (hl:jO t h n≤t.mask) (hz:t.place.size+1≤t.mask) :
  TOk (t.put (jO t h n)).1 (SetTable.insertAt es (t.put (jO t h n)).2 (h,x)):=by
 obtain ⟨e1,e2⟩:=eS k.dum (jO t h n)
 rw [e1,e2]
 generalize hj:jO t h n=j at hf hl
 obtain ⟨b1,b2,b3⟩:=mV k.up j
 have b3':SetTable.below t.place j≤es.size:=by rw [← k.size];exact b3
 have lt1:∀(a y:Nat),a<SetTable.below t.place j→t.place[a]?=some y→y<j:=b1
 have gt1:∀(a y:Nat),SetTable.below t.place j≤a→t.place[a]?=some y→j<y:=fun a y ha hy=>Nat.lt_of_le_of_ne (b2 a y ha hy) (fun z=>hf ⟨a,by rw [hy,z]⟩)
 have tk:=fun {a:Nat} (q:qO t a)=>uR (j:=j) b3 q
 refine ⟨k.good,k.dum,fun a b y z hab hy hz'=>?_,fun i y hi=>?_,?_,?_,fun i s h' x' hs he=>?_⟩
 ·replace hy:(SetTable.insertAt t.place (SetTable.below t.place j) j)[a]?=some y:=hy
  replace hz':(SetTable.insertAt t.place (SetTable.below t.place j) j)[b]?=some z:=hz'
  rw [ZB b3] at hy hz'
  by_cases c1:a<SetTable.below t.place j
  ·rw [if_pos c1] at hy
   by_cases c2:b<SetTable.below t.place j
   ·rw [if_pos c2] at hz';exact k.up _ _ _ _ hab hy hz'
   ·rw [if_neg c2] at hz'
    by_cases c3:b=SetTable.below t.place j
    ·rw [if_pos c3] at hz';cases hz';exact lt1 a y c1 hy
    ·rw [if_neg c3] at hz';exact k.up _ _ _ _ (by omega) hy hz'
  ·rw [if_neg c1] at hy
   rw [if_neg (by omega),if_neg (by omega)] at hz'
   by_cases c3:a=SetTable.below t.place j
   ·rw [if_pos c3] at hy;cases hy;exact gt1 (b - 1) z (by omega) hz'
   ·rw [if_neg c3] at hy;exact k.up _ _ _ _ (by omega) hy hz'
 ·replace hi:(SetTable.insertAt t.place (SetTable.below t.place j) j)[i]?=some y:=hi
  rw [ZB b3] at hi
  split at hi
  ·exact k.lim _ _ hi
  ·split at hi
   ·cases hi;exact hl
   ·exact k.lim _ _ hi
 ·show (SetTable.insertAt t.place _ j).size=_
  rw [eX b3,eX b3',k.size]
 ·show (SetTable.insertAt t.place _ j).size≤t.mask
  rw [eX b3];exact hz
 ·replace hs:(SetTable.insertAt t.place (SetTable.below t.place j) j)[i]?=some s:=hs
  rw [ZB b3] at hs
  rw [ZB b3'] at he
  have old:∀i:Nat,t.place[i]?=some s→es[i]?=some (h',x')→∃n,jO t h' n=s∧∀m,m<n→qO {t with place:=SetTable.insertAt t.place (SetTable.below t.place j) j} (jO t h' m):=fun i a b=>by
   obtain ⟨n,q1,q2⟩:=k.reach i s h' x' a b
   exact ⟨n,q1,fun m hm=>tk (q2 m hm)⟩
  by_cases c1:i<SetTable.below t.place j
  ·rw [if_pos c1] at hs he;exact old i hs he
  ·rw [if_neg c1] at hs he
   by_cases c2:i=SetTable.below t.place j
   ·rw [if_pos c2] at hs he
    cases hs
    cases he
    exact ⟨n,hj,fun m hm=>tk (hb m hm)⟩
   ·rw [if_neg c2] at hs he;exact old (i - 1) hs he
theorem mC {t:SetTable} {es:Array (Int×Value)} (k:TOk t es) (hashAt:Nat→Int) (h:Int) (n:Nat) (hb:∀a,a<n→qO t (jO t h a)):∃m met,n≤m∧SetTable.probe t hashAt h (kQ t.advance n (t.probeStart h))=some met∧(∀a,n≤a→a<m→∃i:Nat,t.place[i]?=some (jO t h a)∧hashAt i≠h)∧
   ((¬qO t (jO t h m)∧met=.empty (jO t h m) none)∨∃i:Nat,t.place[i]?=some (jO t h m)∧hashAt i=h∧met=.candidate (jO t h m) i (kQ t.advance (m+1) (t.probeStart h))):=by
 obtain ⟨j,hj,hfree⟩:=nZ k.up k.room
 obtain ⟨m,hm,ej⟩:=iX k.good h hj
 have hmn:n≤m:=by
  by_cases c:n≤m
  ·exact c
  ·exact absurd (by have:=hb m (by omega);unfold jO at this;rw [ej] at this;exact this) hfree
 exact pK k.dum k.up hashAt h _ n ⟨m,hmn,by omega,by unfold jO;rw [ej];exact hfree⟩
theorem fX {t:SetTable} (h:Int):∀n,jO t h n≤t.mask:=by
 have key:∀(n:Nat),(kQ t.advance n (t.probeStart h)).j+(kQ t.advance n (t.probeStart h)).more≤t.mask:=fun n=>by
  induction n with
  |zero =>
   show SetTable.bits h%(t.mask+1)+(SetTable.runEnd t.mask (SetTable.bits h%(t.mask+1)) - SetTable.bits h%(t.mask+1))≤t.mask
   have:SetTable.bits h%(t.mask+1)<t.mask+1:=Nat.mod_lt _ (Nat.succ_pos _)
   unfold SetTable.runEnd
   split<;>omega
  |succ n ih =>
   rw [ZA]
   by_cases hm:0<(kQ t.advance n (t.probeStart h)).more
   ·rw [mX hm];show _+1+(_ - 1)≤_;omega
   ·rw [fO (by omega)]
    show (SetTable.leap _ _ _).1+(SetTable.runEnd _ (SetTable.leap _ _ _).1 - (SetTable.leap _ _ _).1)≤_
    have:(SetTable.leap t.mask (kQ t.advance n (t.probeStart h)).i (kQ t.advance n (t.probeStart h)).perturb).1<t.mask+1:=by unfold SetTable.leap;exact Nat.mod_lt _ (Nat.succ_pos _)
    unfold SetTable.runEnd
    split<;>omega
 intro n
 have:=key n
 unfold jO
 omega
end L2
namespace L2
open PySem
def tm (mask:Nat):SetTable:={SetTable.fresh 0 0 false with mask:=mask}
theorem cB {t t':SetTable} (h:t.mask=t'.mask) (hs:Int) (n:Nat):jO t hs n=jO t' hs n:=by
 have ea:t.advance=t'.advance:=by
  funext p
  unfold SetTable.advance
  rw [h]
 have ep:t.probeStart hs=t'.probeStart hs:=by unfold SetTable.probeStart;rw [h]
 unfold jO
 rw [ea,ep]
def vU (owner:Array (Option Nat)) (j:Nat):Prop:=∃k:Nat,owner[j]?=some (some k)
theorem w9 {owner:Array (Option Nat)} {i len:Nat} (hl:i+len≤owner.size):(∃k,(List.range len).find? (fun k=>(owner.getD (i+k) (some 0)).isNone)=some k∧k<len∧¬vU owner (i+k)∧∀a,a<k→vU owner (i+a))∨((List.range len).find? (fun k=>(owner.getD (i+k) (some 0)).isNone)=none∧∀a,a<len→vU owner (i+a)):=by
 have gd:∀a,a<len→(((owner.getD (i+a) (some 0)).isNone=true)↔¬vU owner (i+a)):=fun a ha=>by
  have e:owner[i+a]?=some owner[i+a]:=Array.getElem?_eq_getElem (by omega)
  rw [Array.getD_eq_getD_getElem?,e]
  show (owner[i+a].isNone=true)↔_
  constructor
  ·rintro h ⟨k,hk⟩
   rw [e] at hk
   rw [Option.some.inj hk] at h
   cases h
  ·intro h
   cases hx:owner[i+a] with
   |none=>rfl
   |some k=>exact absurd ⟨k,by rw [e,hx]⟩ h
 cases hf:(List.range len).find? (fun k=>(owner.getD (i+k) (some 0)).isNone) with
 |none =>
  refine .inr ⟨rfl,fun a ha=>?_⟩
  have:=List.find?_eq_none.mp hf a (List.mem_range.mpr ha)
  by_cases c:vU owner (i+a)
  ·exact c
  ·exact absurd ((gd a ha).mpr c) this
 |some k =>
  rw [List.find?_eq_some_iff_getElem] at hf
  obtain ⟨h1,idx,hlt,h2,h3⟩:=hf
  rw [List.length_range] at hlt
  rw [List.getElem_range] at h2
  subst h2
  refine .inl ⟨idx,rfl,hlt,(gd idx hlt).mp h1,fun a ha=>?_⟩
  have:=h3 a ha
  rw [List.getElem_range] at this
  by_cases c:vU owner (i+a)
  ·exact c
  ·have h5:=(gd a (by omega)).mpr c
   rw [h5] at this
   cases this
theorem AB {mask i:Nat} (h:i≤mask):SetTable.runEnd mask i≤mask∧i≤SetTable.runEnd mask i:=by unfold SetTable.runEnd;split<;>omega
theorem n4 {mask:Nat} {owner:Array (Option Nat)} {hs:Int} (hz:owner.size=mask+1):∀(fuel n i q:Nat),kQ (tm mask).advance n ((tm mask).probeStart hs)=ZL (tm mask) i q none→i≤mask→(∀a,a<n→vU owner (jO (tm mask) hs a))→
  (∃m,m<fuel∧¬vU owner (vJ mask m i q).1)→∃j n',SetTable.layClean.free mask owner fuel i q=some j∧jO (tm mask) hs n'=j∧¬vU owner j∧∀a,a<n'→vU owner (jO (tm mask) hs a)
 |0,_,_,_,_,_,_,⟨m,hm,_⟩=>absurd hm (Nat.not_lt_zero m)
 |fuel+1,n,i,q,hp,hi,hb,⟨m,hm,hf⟩=>by
  obtain ⟨r1,r2⟩:=AB hi
  have inrun:∀k,k≤SetTable.runEnd mask i - i→jO (tm mask) hs (n+k)=i+k:=fun k hk=>by
   unfold jO
   rw [J8,hp,cX k _ hk]
   rfl
  unfold SetTable.layClean.free
  rcases w9 (owner:=owner) (i:=i) (len:=SetTable.runEnd mask i+1 - i) (by omega) with ⟨k,e,hk,hno,hbe⟩|⟨e,hall⟩
  ·rw [e]
   refine ⟨i+k,n+k,rfl,inrun k (by omega),hno,fun a ha=>?_⟩
   by_cases c:a<n
   ·exact hb a c
   ·have:=inrun (a - n) (by omega)
    rw [show n+(a - n)=a by omega] at this
    rw [this]
    exact hbe _ (by omega)
  ·rw [e]
   dsimp only
   have hm0:m≠0:=fun z=>by
    subst z
    exact hf (by have:=hall 0 (by omega);rw [Nat.add_zero] at this;exact this)
   obtain ⟨m',rfl⟩:∃m',m=m'+1:=⟨m - 1,by omega⟩
   refine n4 hz fuel (n+(SetTable.runEnd mask i - i+1)) _ _ ?_ ?_ (fun a ha=>?_) ⟨m',by omega,hf⟩
   ·rw [J8,hp,ZA,cX (SetTable.runEnd mask i - i) _ (Nat.le_refl _),fO (by show SetTable.runEnd mask i - i - (SetTable.runEnd mask i - i)=0;omega)]
    rfl
   ·unfold SetTable.leap;exact Nat.lt_succ_iff.mp (Nat.mod_lt _ (Nat.succ_pos _))
   ·by_cases c:a<n
    ·exact hb a c
    ·have:=inrun (a - n) (by omega)
     rw [show n+(a - n)=a by omega] at this
     rw [this]
     exact hall _ (by omega)
structure LC (mask:Nat) (hs:List Int) (owner:Array (Option Nat)):Prop where
 size:owner.size=mask+1
 lt:∀(j k:Nat),owner[j]?=some (some k)→k<hs.length
 has:∀k,k<hs.length→∃j:Nat,owner[j]?=some (some k)
 one:∀(j j' k:Nat),owner[j]?=some (some k)→owner[j']?=some (some k)→j=j'
 reach:∀(j k:Nat) (h:Int),owner[j]?=some (some k)→hs[k]?=some h→∃n,jO (tm mask) h n=j∧∀m,m<n→vU owner (jO (tm mask) h m)
theorem LC.free {mask:Nat} {hs:List Int} {owner:Array (Option Nat)} (c:LC mask hs owner) (hl:hs.length≤mask):∃j,j≤mask∧¬vU owner j:=by
 by_cases h:∃j,j≤mask∧¬vU owner j
 ·exact h
 ·exfalso
  have all:∀j,j<mask+1→∃k:Nat,owner[j]?=some (some k):=fun j hj=>by
   by_cases hx:vU owner j
   ·exact hx
   ·exact absurd ⟨j,by omega,hx⟩ h
  have key:∀n,n≤mask+1→∃l:List Nat,l.length=n∧l.Nodup∧∀k∈l,∃j:Nat,j<n∧owner[j]?=some (some k):=fun n=>by
   induction n with
   |zero=>intro _;exact ⟨[],rfl,List.nodup_nil,fun k hk=>by cases hk⟩
   |succ n ih =>
    intro hn
    obtain ⟨l,h1,h2,h3⟩:=ih (by omega)
    obtain ⟨k,hk⟩:=all n (by omega)
    refine ⟨k::l,by rw [List.length_cons,h1],List.nodup_cons.mpr ⟨fun hm=>?_,h2⟩,fun k' hk'=>?_⟩
    ·obtain ⟨j,hj,e⟩:=h3 k hm
     have:=c.one j n k e hk
     omega
    ·rcases List.mem_cons.mp hk' with rfl|hk'
     ·exact ⟨n,Nat.lt_succ_self n,hk⟩
     ·obtain ⟨j,hj,e⟩:=h3 k' hk';exact ⟨j,by omega,e⟩
  obtain ⟨l,h1,h2,h3⟩:=key (mask+1) (Nat.le_refl _)
  have hsub:∀k∈l,k∈List.range hs.length:=fun k hk=>by
   obtain ⟨j,_,e⟩:=h3 k hk
   exact List.mem_range.mpr (c.lt j k e)
  have hle:∀(l m:List Nat),l.Nodup→(∀x∈l,x∈m)→l.length≤m.length:=fun l=>by
   induction l with
   |nil=>intro m _ _;exact Nat.zero_le _
   |cons a l ih =>
    intro m hn hs
    rw [List.nodup_cons] at hn
    have h1:=hs a List.mem_cons_self
    have:=ih (m.erase a) hn.2 (fun x hx=>(List.mem_erase_of_ne (fun e:x=a=>hn.1 (by rw [← e];exact hx))).mpr (hs x (List.mem_cons_of_mem _ hx)))
    rw [List.length_erase_of_mem h1] at this
    have:0<m.length:=List.length_pos_of_mem h1
    rw [List.length_cons];omega
  have:=hle l _ h2 hsub
  rw [h1,List.length_range] at this
  omega
theorem LC.step {mask:Nat} {hs:List Int} {owner:Array (Option Nat)} {h:Int} (g:zH mask) (c:LC mask hs owner) (hl:hs.length≤mask):∃j,SetTable.layClean.free mask owner (SetTable.turns mask) (SetTable.bits h%(mask+1)) (SetTable.bits h)=some j∧LC mask (hs++[h]) (owner.setIfInBounds j (some hs.length)):=by
 obtain ⟨f,hf,hno⟩:=c.free hl
 have hb:SetTable.bits h<2 ^ 64:=by
  unfold SetTable.bits
  have:=Int.emod_lt_of_pos h (show (0:Int)<2 ^ 64 by decide)
  have:=Int.emod_nonneg h (show (2 ^ 64:Int)≠0 by decide)
  omega
 have hp:(vJ mask 13 (SetTable.bits h%(mask+1)) (SetTable.bits h)).2=0:=by
  rw [eW]
  exact Nat.div_eq_of_lt (Nat.lt_trans hb (by decide))
 have hi:(vJ mask 13 (SetTable.bits h%(mask+1)) (SetTable.bits h)).1≤mask:=by
  rw [show (13:Nat)=12+1 from rfl,Z1]
  show (SetTable.leap _ _ _).1≤_
  unfold SetTable.leap
  exact Nat.lt_succ_iff.mp (Nat.mod_lt _ (Nat.succ_pos _))
 obtain ⟨k,hk,ek⟩:=nR g hi hf
 obtain ⟨j,n,e1,e2,e3,e4⟩:=n4 (hs:=h) c.size (SetTable.turns mask) 0 (SetTable.bits h%(mask+1)) (SetTable.bits h) rfl (Nat.lt_succ_iff.mp (Nat.mod_lt _ (Nat.succ_pos _))) (fun a ha=>absurd ha (Nat.not_lt_zero a)) ⟨13+k,by unfold SetTable.turns;omega,by rw [Z1,hp,eV,ek];exact hno⟩
 have hjl:j<owner.size:=by rw [c.size,← e2];exact Nat.lt_succ_of_le (fX (t:=tm mask) h n)
 have get:∀a:Nat,(owner.setIfInBounds j (some hs.length))[a]?=if j=a then some (some hs.length) else owner[a]?:=fun a=>by
  rw [Array.getElem?_setIfInBounds]
  by_cases hja:j=a
  ·rw [if_pos hja,if_pos hja,if_pos hjl]
  ·rw [if_neg hja,if_neg hja]
 have keep:∀a,vU owner a→vU (owner.setIfInBounds j (some hs.length)) a:=fun a ⟨k,hk⟩=>⟨k,by rw [get,if_neg (fun z=>e3 (by rw [z];exact ⟨k,hk⟩))];exact hk⟩
 refine ⟨j,e1,by rw [Array.size_setIfInBounds];exact c.size,fun a k ha=>?_,fun k hk=>?_,fun a b k ha hb=>?_,fun a k h' ha hh=>?_⟩
 ·rw [get] at ha
  rw [List.length_append,List.length_singleton]
  split at ha
  ·cases ha;omega
  ·have:=c.lt a k ha;omega
 ·rw [List.length_append,List.length_singleton] at hk
  by_cases e:k=hs.length
  ·exact ⟨j,by rw [get,if_pos rfl,e]⟩
  ·obtain ⟨a,ha⟩:=c.has k (by omega)
   exact ⟨a,by rw [get,if_neg (fun z=>e3 (by rw [z];exact ⟨k,ha⟩))];exact ha⟩
 ·rw [get] at ha hb
  split at ha<;>split at hb
  ·rename_i x y;omega
  ·cases ha;exact absurd (c.lt b _ hb) (Nat.lt_irrefl _)
  ·cases hb;exact absurd (c.lt a _ ha) (Nat.lt_irrefl _)
  ·exact c.one a b k ha hb
 ·rw [get] at ha
  split at ha
  ·rename_i hja
   cases ha
   rw [List.getElem?_append_right (Nat.le_refl _),Nat.sub_self] at hh
   cases hh
   exact ⟨n,by rw [e2,hja],fun m hm=>keep _ (e4 m hm)⟩
  ·have hk:=c.lt a k ha
   rw [List.getElem?_append_left hk] at hh
   obtain ⟨n',q1,q2⟩:=c.reach a k h' ha hh
   exact ⟨n',q1,fun m hm=>keep _ (q2 m hm)⟩
theorem CG {mask:Nat} (g:zH mask) (hashes:Array Int) (hl:hashes.size≤mask):∃owner,SetTable.layClean mask hashes=some owner∧LC mask hashes.toList owner:=by
 have key:∀(l pre:List Int) (owner:Array (Option Nat)),LC mask pre owner→(pre++l).length≤mask→∃owner',l.foldl (fun (acc:Option (Array (Option Nat)×Nat)) h=>do
   let (owner,k) ← acc
   let j ← SetTable.layClean.free mask owner (SetTable.turns mask) (SetTable.bits h%(mask+1)) (SetTable.bits h)
   pure (owner.setIfInBounds j (some k),k+1)) (some (owner,pre.length))=some (owner',(pre++l).length)∧LC mask (pre++l) owner':=fun l=>by
  induction l with
  |nil=>intro pre owner c _;exact ⟨owner,by rw [List.append_nil];rfl,by rw [List.append_nil];exact c⟩
  |cons h l ih =>
   intro pre owner c hl
   obtain ⟨j,e,c'⟩:=LC.step (h:=h) g c (by rw [List.length_append] at hl;omega)
   obtain ⟨o',q1,q2⟩:=ih (pre++[h]) _ c' (by rw [List.append_assoc];exact hl)
   rw [List.append_assoc] at q1 q2
   refine ⟨o',?_,q2⟩
   rw [List.foldl_cons]
   have:(do
    let (owner,k) ← (some (owner,pre.length):Option (Array (Option Nat)×Nat))
    let j ← SetTable.layClean.free mask owner (SetTable.turns mask) (SetTable.bits h%(mask+1)) (SetTable.bits h)
    pure (owner.setIfInBounds j (some k),k+1))=some (owner.setIfInBounds j (some pre.length),(pre++[h]).length):=by
    show (SetTable.layClean.free mask owner _ _ _).bind _=_
    rw [e,List.length_append]
    rfl
   rw [this]
   exact q1
 have c0:LC mask [] (Array.replicate (mask+1) none):=by
  have no:∀(j k:Nat),(Array.replicate (mask+1) (none:Option Nat))[j]?≠some (some k):=fun j k h=>by
   rw [Array.getElem?_replicate] at h
   split at h<;>cases h
  exact ⟨by simp,fun j k h=>absurd h (no j k),fun k hk=>absurd hk (Nat.not_lt_zero k),fun j j' k h=>absurd h (no j k),fun j k h e=>absurd e (no j k)⟩
 obtain ⟨o,q1,q2⟩:=key hashes.toList [] _ c0 (by rw [List.nil_append,Array.length_toList];exact hl)
 rw [List.nil_append] at q1 q2
 refine ⟨o,?_,q2⟩
 unfold SetTable.layClean
 rw [← Array.foldl_toList]
 show Option.map _ (hashes.toList.foldl _ (some (_,([]:List Int).length)))=_
 rw [q1]
 rfl
end L2
namespace L2
open PySem
theorem lC {α β:Type} {f:α→Option β} {g:α→β}:∀(l:List α),(∀x∈l,f x=some (g x))→l.filterMap f=l.map g
 |[],_=>rfl
 |a::l,h=>by rw [List.filterMap_cons,h a List.mem_cons_self,List.map_cons,lC l fun x hx=>h x (List.mem_cons_of_mem _ hx)]
def vC (mask:Nat) (owner:Array (Option Nat)):List (Nat×Nat):=(List.range (mask+1)).filterMap fun j=>(owner.getD j none).map (j,·)
theorem xN {mask:Nat} {owner:Array (Option Nat)} (hz:owner.size=mask+1) {j k:Nat}:(j,k)∈vC mask owner↔owner[j]?=some (some k):=by
 unfold vC
 rw [List.mem_filterMap]
 constructor
 ·rintro ⟨j',hj,e⟩
  rw [List.mem_range] at hj
  rw [Array.getD_eq_getD_getElem?,Array.getElem?_eq_getElem (by omega)] at e
  obtain ⟨k',e1,e2⟩:=Option.map_eq_some_iff.mp e
  cases e2
  rw [Array.getElem?_eq_getElem (by omega)]
  exact congrArg some e1
 ·intro e
  have hl:=(Array.getElem?_eq_some_iff.mp e).1
  refine ⟨j,List.mem_range.mpr (by omega),?_⟩
  rw [Array.getD_eq_getD_getElem?,e]
  rfl
theorem nO (mask:Nat) (owner:Array (Option Nat)):(vC mask owner).Pairwise fun a b=>a.1<b.1:=by
 unfold vC
 rw [List.pairwise_filterMap]
 refine List.Pairwise.imp (fun {a b} hab x hx y hy=>?_) List.pairwise_lt_range
 obtain ⟨k,_,rfl⟩:=Option.map_eq_some_iff.mp hx
 obtain ⟨k',_,rfl⟩:=Option.map_eq_some_iff.mp hy
 exact hab
theorem BZ {α:Type} {R:α→α→Prop} {l:List α} (h:l.Pairwise R) {a b:Nat} {x y:α} (hab:a<b) (hx:l[a]?=some x) (hy:l[b]?=some y):R x y:=by
 obtain ⟨ha,ea⟩:=List.getElem?_eq_some_iff.mp hx
 obtain ⟨hb,eb⟩:=List.getElem?_eq_some_iff.mp hy
 rw [← ea,← eb]
 exact (List.pairwise_iff_getElem.mp h) a b ha hb hab
theorem nT {mask finger moves:Nat} {led plain:Bool} {es:Array (Int×Value)} (g:zH mask) (hl:es.size≤mask):∃t order,SetTable.laid mask finger moves led plain (es.map (·.1))=some (t,order)∧t.mask=mask∧t.led=led∧t.plain=plain∧TOk t (order.filterMap (es[·]?))∧order.toList.Perm (List.range es.size)∧(order.filterMap (es[·]?)).toList.Perm es.toList:=by
 obtain ⟨owner,e,c⟩:=CG g (es.map (·.1)) (by rw [Array.size_map];exact hl)
 have hn:(es.map (·.1)).toList.length=es.size:=by rw [Array.length_toList,Array.size_map]
 refine ⟨{mask:=mask,place:=((vC mask owner).map (·.1)).toArray,dummies := #[],finger:=finger,led:=led,moves:=moves,plain:=plain},((vC mask owner).map (·.2)).toArray,?_,rfl,rfl,rfl,?_⟩
 ·unfold SetTable.laid
  rw [e]
  rfl
 have lm:=fun {j k:Nat}=>xN (j:=j) (k:=k) c.size
 have perm:((vC mask owner).map (·.2)).Perm (List.range es.size):=by
  refine (List.perm_ext_iff_of_nodup ?_ List.nodup_range).mpr fun k=>?_
  ·rw [List.nodup_iff_pairwise_ne,List.pairwise_map]
   refine List.Pairwise.imp_of_mem (fun {a b} ha hb hab hk=>?_) (nO mask owner)
   have h1:=lm.mp (show (a.1,a.2)∈_ from ha)
   have h2:=lm.mp (show (b.1,b.2)∈_ from hb)
   rw [hk] at h1
   have:=c.one _ _ _ h1 h2
   omega
  ·rw [List.mem_range,List.mem_map]
   constructor
   ·rintro ⟨⟨j,k'⟩,hm,rfl⟩
    have:=c.lt _ _ (lm.mp hm)
    rw [hn] at this;exact this
   ·intro hk
    obtain ⟨j,hj⟩:=c.has k (by rw [hn];exact hk)
    exact ⟨(j,k),lm.mpr hj,rfl⟩
 have lt:∀k∈(vC mask owner).map (·.2),k<es.size:=fun k hk=>List.mem_range.mp (perm.mem_iff.mp hk)
 have esL:(((vC mask owner).map (·.2)).toArray.filterMap (es[·]?)).toList=(vC mask owner).map fun p=>es[p.2]?.getD (0,.none):=by
  rw [Array.toList_filterMap]
  show ((vC mask owner).map (·.2)).filterMap _=_
  rw [lC (g:=fun k=>es[k]?.getD (0,.none)) _ fun k hk=>?_,List.map_map]
  ·rfl
  ·rw [Array.getElem?_eq_getElem (lt k hk)];rfl
 have len:(vC mask owner).length=es.size:=by have:=perm.length_eq;rwa [List.length_map,List.length_range] at this
 have pl:∀i j:Nat,((vC mask owner).map (·.1)).toArray[i]?=some j→∃k,(vC mask owner)[i]?=some (j,k):=fun i j h=>by
  rw [List.getElem?_toArray,List.getElem?_map] at h
  obtain ⟨⟨j',k⟩,h1,rfl⟩:=Option.map_eq_some_iff.mp h
  exact ⟨k,h1⟩
 refine ⟨⟨g,rfl,fun a b x y hab hx hy=>?_,fun i j h=>?_,?_,?_,fun i s h x hs he=>?_⟩,perm,?_⟩
 ·obtain ⟨k,hk⟩:=pl a x hx
  obtain ⟨k',hk'⟩:=pl b y hy
  exact BZ (nO mask owner) hab hk hk'
 ·obtain ⟨k,hk⟩:=pl i j h
  have:=(Array.getElem?_eq_some_iff.mp (lm.mp (List.mem_of_getElem? hk))).1
  rw [c.size] at this
  show j≤mask
  omega
 ·show (((vC mask owner).map (·.1)).toArray).size=_
  rw [← Array.length_toList (xs:=Array.filterMap _ _),esL,List.size_toArray,List.length_map,List.length_map]
 ·show (((vC mask owner).map (·.1)).toArray).size≤mask
  rw [List.size_toArray,List.length_map,len];exact hl
 ·obtain ⟨k,hk⟩:=pl i s hs
  have he':(((vC mask owner).map (·.2)).toArray.filterMap (es[·]?)).toList[i]?=some (h,x):=by rw [Array.getElem?_toList];exact he
  rw [esL,List.getElem?_map,hk] at he'
  have hown:=lm.mp (List.mem_of_getElem? hk)
  have hkl:k<es.size:=by have:=c.lt _ _ hown;rwa [hn] at this
  have hes:es[k]?=some (h,x):=by
   have h5:es[k]?.getD (0,Value.none)=(h,x):=Option.some.inj he'
   rw [Array.getElem?_eq_getElem hkl] at h5 ⊢
   exact congrArg some h5
  have hh:(es.map (·.1)).toList[k]?=some h:=by
   rw [Array.getElem?_toList,Array.getElem?_map,hes];rfl
  obtain ⟨n,q1,q2⟩:=c.reach s k h hown hh
  refine ⟨n,(cB rfl h n).trans q1,fun m hm=>?_⟩
  obtain ⟨k',hk'⟩:=q2 m hm
  obtain ⟨i',hi'⟩:=List.mem_iff_getElem?.mp (lm.mpr hk')
  refine ⟨i',Eq.trans ?_ (congrArg some (cB (t:=tm mask) rfl h m))⟩
  exact (by show ((vC mask owner).map (·.1)).toArray[i']?=_;rw [List.getElem?_toArray,List.getElem?_map,hi'];rfl)
 ·rw [esL]
  have:es.toList=(List.range es.size).map fun k=>es[k]?.getD (0,.none):=by
   refine List.ext_getElem? fun i=>?_
   rw [List.getElem?_map]
   by_cases hi:i<es.size
   ·rw [List.getElem?_range hi,Array.getElem?_toList,Array.getElem?_eq_getElem hi]
    show some es[i]=some (es[i]?.getD (0,.none))
    rw [Array.getElem?_eq_getElem hi]
    rfl
   ·rw [List.getElem?_eq_none (by rw [Array.length_toList];omega),List.getElem?_eq_none (by rw [List.length_range];omega)]
    rfl
  rw [this]
  have h2:=perm.map fun k=>es[k]?.getD ((0:Int),Value.none)
  rw [List.map_map] at h2
  exact h2
end L2
namespace L2
open PySem PySem.Spec PyProof.Rows
section
variable {prog:Program} {w:World} {E:Value→Shared→Prop} {s:Shared}
abbrev z3 (prog:Program) (w:World) (E:Value→Shared→Prop) (s:Shared) (m:Nat) (v:Value):Prop :=
 ∀(A:Around) (Q:Bool→Shared→Prop),Q false s→wpAny (model prog w) A (ofAClassStatement m v) Q E s
theorem oI {v:Value} {P:List Value→Prop} {m:Nat} (x:TupOf s.heap v P) (hp:∀l,P l→∀y∈l,z3 prog w E s m y):z3 prog w E s (m+1) v:=by
 intro A Q q
 have hT:=x.typeIs
 obtain ⟨a,o,its,n,rfl,ho,hc,hd,hl⟩:=x
 unfold ofAClassStatement
 refine wpAny_bind (wpAny_typeOf hT ?_)
 dsimp only
 rw [if_pos (show ("tuple" == "tuple")=true by decide)]
 refine wpAny_bind (wpAny_pure ?_)
 rw [if_neg (by decide)]
 refine wpAny_bind (wpAny_seqItems ho hd ?_)
 show wpAny _ A (forIn its _ _ >>= _) _ E s
 refine wpAny_bind ?_
 rw [← Array.forIn_toList]
 refine wpAny_forIn_list _ (fun left r s1=>r.1=none∧s1=s∧∀y∈left,z3 prog w E s m y) _ ?_ ?_ _ _ ⟨rfl,rfl,hp _ hl⟩
 ·rintro y left r s1 ⟨hr,rfl,hall⟩
  refine wpAny_bind (hall y List.mem_cons_self A _ ?_)
  rw [if_neg (by decide)]
  exact wpAny_pure ⟨rfl,rfl,fun z hz=>hall z (List.mem_cons_of_mem y hz)⟩
 ·rintro ⟨r1,r2⟩ s1 ⟨hr,rfl,_⟩
  cases hr
  exact wpAny_pure q
theorem BF (m:Nat) (n:Int) (t:Tok):z3 prog w E s m (.int n t):=fun A Q q=>by
 cases m<;>(unfold ofAClassStatement;exact wpAny_pure q)
theorem BE (m:Nat) (z:Str) (t:Tok):z3 prog w E s m (.str z t):=fun A Q q=>by
 cases m<;>(unfold ofAClassStatement;exact wpAny_pure q)
theorem cW:∀(k:GK) (m:Nat),gd k≤m→(∀v,(GR s.heap k).1 v→z3 prog w E s m v)∧(∀l,(GR s.heap k).2 l→∀y∈l,z3 prog w E s (m - 1) y)
 |.i n,m,_=>⟨fun v p=>by obtain ⟨t,rfl⟩:=p;exact BF m n t,fun _ p=>p.elim⟩
 |.s n,m,_=>⟨fun v p=>by obtain ⟨t,rfl⟩:=p;exact BE m n t,fun _ p=>p.elim⟩
 |.nil,m,hm=>by
  have lp:∀l,(GR s.heap .nil).2 l→∀y∈l,z3 prog w E s (m - 1) y:=fun l p y hy=>by cases p;cases hy
  refine ⟨fun v p=>?_,lp⟩
  obtain ⟨m',rfl⟩:∃m',m=m'+1:=⟨m - 1,by simp only [gd] at hm;omega⟩
  exact oI ((GR.tup rfl).1 p) lp
 |.cons x y,m,hm=>by
  have hm':=hm
  simp only [gd] at hm'
  have lp:∀l,(GR s.heap (.cons x y)).2 l→∀z∈l,z3 prog w E s (m - 1) z:=by
   rintro l ⟨u,us,rfl,p1,p2⟩ z hz
   rcases List.mem_cons.mp hz with rfl|hz
   ·exact (cW x (m - 1) (by omega)).1 _ p1
   ·exact (cW y m (by omega)).2 us p2 z hz
  refine ⟨fun v p=>?_,lp⟩
  obtain ⟨m',rfl⟩:∃m',m=m'+1:=⟨m - 1,by omega⟩
  exact oI ((GR.tup rfl).1 p) lp
abbrev QJ (prog:Program) (w:World) (E:Value→Shared→Prop) (s:Shared) (m:Nat) (v:Value):Prop :=
 ∀(A:Around) (Q:Bool→Shared→Prop),(∀b,Q b s)→wpAny (model prog w) A (hashByValue m v) Q E s
theorem o5 {v:Value} {P:List Value→Prop} {m:Nat} (x:TupOf s.heap v P) (hp:∀l,P l→∀y∈l,QJ prog w E s m y):QJ prog w E s (m+1) v:=by
 intro A Q q
 have hT:=x.typeIs
 obtain ⟨a,o,its,n,rfl,ho,hc,hd,hl⟩:=x
 unfold hashByValue
 refine wpAny_bind (wpAny_specialOf hT F.slot_tuple_hash.lookup ?_)
 refine wpAny_bind (wpAny_seqItems ho hd ?_)
 show wpAny _ A (forIn its _ _ >>= _) _ E s
 refine wpAny_bind ?_
 rw [← Array.forIn_toList]
 refine wpAny_forIn_list _ (fun left r s1=>s1=s∧(∀b,r.1=some b→True)∧∀y∈left,QJ prog w E s m y) _ ?_ ?_ _ _ ⟨rfl,fun _ _=>trivial,hp _ hl⟩
 ·rintro y left r s1 ⟨rfl,_,hall⟩
  refine wpAny_bind (hall y List.mem_cons_self A _ fun b=>?_)
  cases b with
  |true=>rw [if_neg (by decide)];exact wpAny_pure ⟨rfl,fun _ _=>trivial,fun z hz=>hall z (List.mem_cons_of_mem y hz)⟩
  |false=>rw [if_pos (by decide)];exact wpAny_pure (wpAny_pure (q false))
 ·rintro ⟨r1,r2⟩ s1 ⟨rfl,_,_⟩
  cases r1 with
  |none=>exact wpAny_pure (q true)
  |some b=>exact wpAny_pure (q b)
theorem dH:∀(k:GK) (m:Nat),(∀v,(GR s.heap k).1 v→QJ prog w E s m v)∧(∀l,(GR s.heap k).2 l→∀y∈l,QJ prog w E s (m - 1) y)
 |.i n,m=>⟨fun v p A Q q=>by obtain ⟨t,rfl⟩:=p;cases m<;>(unfold hashByValue;exact wpAny_pure (q _)),fun _ p=>p.elim⟩
 |.s n,m=>⟨fun v p A Q q=>by obtain ⟨t,rfl⟩:=p;cases m<;>(unfold hashByValue;exact wpAny_pure (q _)),fun _ p=>p.elim⟩
 |.nil,m=>by
  have lp:∀l,(GR s.heap .nil).2 l→∀y∈l,QJ prog w E s (m - 1) y:=fun l p y hy=>by cases p;cases hy
  refine ⟨fun v p=>?_,lp⟩
  cases m with
  |zero =>
   intro A Q q
   obtain ⟨a,_,_,_,rfl,_⟩:=(GR.tup rfl).1 p
   unfold hashByValue
   exact wpAny_pure (q _)
  |succ m=>exact o5 ((GR.tup rfl).1 p) lp
 |.cons x y,m=>by
  have lp:∀l,(GR s.heap (.cons x y)).2 l→∀z∈l,QJ prog w E s (m - 1) z:=by
   rintro l ⟨u,us,rfl,p1,p2⟩ z hz
   rcases List.mem_cons.mp hz with rfl|hz
   ·exact (dH x (m - 1)).1 _ p1
   ·exact (dH y m).2 us p2 z hz
  refine ⟨fun v p=>?_,lp⟩
  cases m with
  |zero =>
   intro A Q q
   obtain ⟨a,_,_,_,rfl,_⟩:=(GR.tup rfl).1 p
   unfold hashByValue
   exact wpAny_pure (q _)
  |succ m=>exact o5 ((GR.tup rfl).1 p) lp
theorem AA {A:Around} {k:GK} {x:Value} {st:List Value} {Q:Bool→Shared→Prop} (hx:(GR s.heap k).1 x) (h8:gd k≤8) (hst:∀y∈st,∃k',(GR s.heap k').1 y∧gd k'≤8) (q:Q false s):wpAny (model prog w) A (searchCouldBeSeen x st) Q E s:=by
  unfold searchCouldBeSeen
  refine wpAny_bind ?_
  refine wpAny_forIn_list _ (fun left r s1=>r.1=none∧s1=s∧∀y∈left,∃k',(GR s.heap k').1 y∧gd k'≤8) _ ?_ ?_ _ _ ⟨rfl,rfl,hst⟩
  · rintro y left r s1 ⟨hr,rfl,hall⟩
    obtain ⟨k',hy,hy8⟩:=hall y List.mem_cons_self
    have rest:=fun z hz=>hall z (List.mem_cons_of_mem y hz)
    dsimp only
    split<;>split
    all_goals first
      |exact wpAny_pure ⟨rfl,rfl,rest⟩
      | (refine wpAny_bind ((Q4 k 8 h8).1 _ hx A _ ?_)
         rw [if_neg (by decide)]
         refine wpAny_bind ((Q4 k' 8 hy8).1 _ hy A _ ?_)
         rw [if_neg (by decide)]
         refine wpAny_bind ((cW k 8 h8).1 _ hx A _ ?_)
         rw [if_neg (by decide)]
         refine wpAny_bind ((cW k' 8 hy8).1 _ hy A _ ?_)
         rw [if_neg (by decide)]
         exact wpAny_pure ⟨rfl,rfl,rest⟩)
  · rintro ⟨r1,r2⟩ s1 ⟨hr,rfl,_⟩
    cases hr
    exact wpAny_pure q
end
structure EntG (w:World) (h:Heap) (es:Array (Int×Value)) (S:List GK):Prop where
 once:S.Nodup
 size:es.size=S.length
 is:∀e∈es.toList,∃k∈S,(GR h k).1 e.2∧e.1=(gh w k).1∧gd k≤8
 has:∀k∈S,∃e∈es.toList,(GR h k).1 e.2
theorem JC {t:SetTable} {es:Array (Int×Value)} (k:TOk t es):t.fits es.size=true:=by
 unfold SetTable.fits SetTable.fill
 rw [k.dum,k.size]
 have:=k.room
 rw [k.size] at this
 simp [this]
theorem x3 {t:SetTable} {es:Array (Int×Value)} (k:TOk t es):t.gaveWay=false:=by
 unfold SetTable.gaveWay
 rcases k.good with h|h|h<;>(rw [h];decide)
end L2
namespace L2
open PySem PySem.Spec PyProof.Rows
section
variable {prog:Program} {w:World} {A:Around} {E:Value→Shared→Prop} {s:Shared}
theorem iU {k:GK} {y:Value} {Q:Bool→Shared→Prop} (hy:(GR s.heap k).1 y) (q:Q true s):wpAny (model prog w) A (isSame y y) Q E s:=by
 have z0:∀t:JM,(t.1 == 0)=false:=fun t=>beq_eq_false_iff_ne.mpr (Nat.ne_of_gt t.2)
 cases k with
 |i n =>
  obtain ⟨t,rfl⟩:=hy
  unfold isSame
  dsimp only
  by_cases hs:(n == n&&smallInt n)=true
  ·rw [if_pos hs]
   show wpAny _ _ (if (t.1 == 0||t.1 == 0)=true then _ else _) _ _ _
   rw [z0 t,if_neg (by decide)]
   exact wpAny_bind (wpAny_rule (wpAny_pure q))
  ·rw [if_neg hs]
   show wpAny _ _ (if (t.1 == 0||t.1 == 0)=true then _ else _) _ _ _
   rw [z0 t,if_neg (by decide),if_pos (beq_self_eq_true _)]
   exact wpAny_pure q
 |s z =>
  obtain ⟨t,rfl⟩:=hy
  unfold isSame
  dsimp only
  show wpAny _ _ (if (t.1 == 0||t.1 == 0)=true then _ else _) _ _ _
  rw [z0 t,if_neg (by decide),if_pos (beq_self_eq_true _)]
  exact wpAny_pure q
 |nil=>obtain ⟨a,_,_,_,rfl,_⟩:=(GR.tup rfl).1 hy;exact wpAny_isSame_ref_self q
 |cons x y=>obtain ⟨a,_,_,_,rfl,_⟩:=(GR.tup rfl).1 hy;exact wpAny_isSame_ref_self q
end
structure SetX (w:World) (h:Heap) (a:Addr) (o:Obj) (es:Array (Int×Value)) (ep:Nat) (t:SetTable) (S:List GK):Prop where
 ob:h.get? a=some o
 ex:o.ExactSet
 da:o.data=.set es ep t
 tb:TOk t es
 en:EntG w h es S
 ld:t.led = !(w.params.followText "set-order")
section
variable {prog:Program} {w:World} {A:Around} {E:Value→Shared→Prop} {s:Shared} {a:Addr} {o:Obj} {es:Array (Int×Value)} {ep:Nat} {t:SetTable} {S:List GK}
theorem SetX.state {Q:(Array (Int×Value)×Nat×SetTable)→Shared→Prop} (g:SetX w s.heap a o es ep t S) (q:Q (es,ep,t) s):wpAny (model prog w) A (setState a) Q E s :=
 wpAny_setState_of g.ob g.da (JC g.tb) q
theorem EntG.at {h:Heap} (x:EntG w h es S) {i:Nat} {hh:Int} {y:Value} (hi:es[i]?=some (hh,y)):∃k∈S,(GR h k).1 y∧hh=(gh w k).1∧gd k≤8:=by
 have hm:(hh,y)∈es.toList:=Array.mem_toList_iff.mpr (Array.mem_of_getElem? hi)
 obtain ⟨k,hk,h1,h2,h3⟩:=x.is _ hm
 exact ⟨k,hk,h1,h2,h3⟩
def NotMet (h:Heap) (t:SetTable) (es:Array (Int×Value)) (hs:Int) (k:GK) (n:Nat):Prop :=
 ∀b,b<n→∃(i:Nat) (hh:Int) (y:Value),t.place[i]?=some (jO t hs b)∧es[i]?=some (hh,y)∧¬(GR h k).1 y
theorem NotMet.taken {h:Heap} {hs:Int} {k:GK} {n:Nat} (m:NotMet h t es hs k n):∀b,b<n→qO t (jO t hs b):=fun b hb=>let ⟨i,_,_,hi,_⟩:=m b hb;⟨i,hi⟩
theorem BM {xs:Array Nat} (up:Up xs) {i j x:Nat} (hi:xs[i]?=some x) (hj:xs[j]?=some x):i=j:=by
 rcases Nat.lt_trichotomy i j with c|c|c
 ·exact absurd (up i j x x c hi hj) (Nat.lt_irrefl _)
 ·exact c
 ·exact absurd (up j i x x c hj hi) (Nat.lt_irrefl _)
theorem NotMet.out {h:Heap} {k:GK} {n:Nat} (tb:TOk t es) (en:EntG w h es S) (m:NotMet h t es (gh w k).1 k n) (hf:¬qO t (jO t (gh w k).1 n)):k∉S:=fun hk=>by
 obtain ⟨e,he,hy⟩:=en.has k hk
 obtain ⟨i,hi⟩:=List.mem_iff_getElem?.mp he
 rw [Array.getElem?_toList] at hi
 obtain ⟨hh,y⟩:=e
 obtain ⟨k',_,h1,h2,_⟩:=en.at hi
 have hkk:k'=k:=(GR.inj k' k).1 y h1 hy
 subst hkk
 have hlt:i<t.place.size:=by rw [tb.size];exact (Array.getElem?_eq_some_iff.mp hi).1
 obtain ⟨pl,hpl⟩:∃pl,t.place[i]?=some pl:=⟨_,Array.getElem?_eq_getElem hlt⟩
 obtain ⟨n',e1,e2⟩:=tb.reach i pl hh y hpl hi
 rw [h2] at e1 e2
 have hn:n'<n:=by
  rcases Nat.lt_trichotomy n' n with c|c|c
  ·exact c
  ·exact absurd ⟨i,by rw [hpl,← e1,c]⟩ hf
  ·exact absurd (e2 n c) hf
 obtain ⟨j,hh',y',hj,hj2,hno⟩:=m n' hn
 have hij:j=i:=BM tb.up hj (by rw [hpl,e1])
 subst hij
 rw [hi] at hj2
 cases hj2
 exact hno hy
def pZ (t:SetTable) (S:List GK) (hs:Int) (k:GK):SetFound→Prop
 |.there _=>k∈S
 |.free j d=>k∉S∧d=false∧∃n,j=jO t hs n∧¬qO t (jO t hs n)∧∀m,m<n→qO t (jO t hs m)
theorem tJ (g:SetX w s.heap a o es ep t S) {k:GK} {x:Value} {ad:Bool} {Q:SetFound→Shared→Prop} (hu:A.units+8<cLine) (hx:(GR s.heap k).1 x) (h8:gd k≤8) (q:∀r,pZ t S (gh w k).1 k r→(ad=false→∀i,r=.there i→i.isSome=true)→Q r s) :
  ∀(fuel n:Nat) (st:Option SetTable.Probe),st.getD (t.probeStart (gh w k).1)=kQ t.advance n (t.probeStart (gh w k).1)→NotMet s.heap t es (gh w k).1 k n→10*SetTable.turns t.mask<fuel+n→wpAny (model prog w) A (setSearchFrom a x (gh w k).1 ad fuel st) Q E s:=by
 intro fuel
 induction fuel with
 |zero =>
  intro n st hst hm hf
  obtain ⟨j,hj,hfree⟩:=nZ g.tb.up g.tb.room
  obtain ⟨m,hm1,ej⟩:=iX g.tb.good (gh w k).1 hj
  exact absurd (by have:=hm.taken m (by omega);unfold jO at this;rw [ej] at this;exact this) hfree
 |succ fuel ih =>
  intro n st hst hm hf
  unfold setSearchFrom
  refine wpAny_bind (g.state ?_)
  dsimp only
  rw [x3 g.tb,if_neg (by decide)]
  obtain ⟨m,met,hnm,hpr,hway,hend⟩:=mC g.tb (fun i=>(es[i]?.map (·.1)).getD 0) (gh w k).1 n hm.taken
  rw [hst]
  erw [hpr]
  dsimp only
  have notk:∀b,n≤b→b<m→∃(i:Nat) (hh:Int) (y:Value),t.place[i]?=some (jO t (gh w k).1 b)∧es[i]?=some (hh,y)∧¬(GR s.heap k).1 y:=fun b h1 h2=>by
   obtain ⟨i,hi,hno⟩:=hway b h1 h2
   have hlt:i<es.size:=by rw [← g.tb.size];exact (Array.getElem?_eq_some_iff.mp hi).1
   obtain ⟨e,he⟩:∃e,es[i]?=some e:=⟨_,Array.getElem?_eq_getElem hlt⟩
   obtain ⟨hh,y⟩:=e
   refine ⟨i,hh,y,hi,he,fun hy=>?_⟩
   obtain ⟨k',_,h3,h4,_⟩:=g.en.at he
   have:=(GR.inj k' k).1 y h3 hy
   subst this
   rw [he] at hno
   exact hno h4
  have hm':NotMet s.heap t es (gh w k).1 k m:=fun b hb=>if c:b<n then hm b c else notk b (by omega) hb
  rcases hend with ⟨hfr,rfl⟩|⟨i,hi,hhi,rfl⟩
  ·dsimp only
   exact wpAny_pure (q _ ⟨hm'.out g.tb g.en hfr,rfl,m,rfl,hfr,hm'.taken⟩ fun _ _ z=>by cases z)
  ·dsimp only
   have hlt:i<es.size:=by rw [← g.tb.size];exact (Array.getElem?_eq_some_iff.mp hi).1
   obtain ⟨e,he⟩:∃e,es[i]?=some e:=⟨_,Array.getElem?_eq_getElem hlt⟩
   obtain ⟨hh,y⟩:=e
   obtain ⟨k',hk',hy,hhk,hd8⟩:=g.en.at he
   by_cases hl:(!t.led)=true
   rw [if_pos hl]
   refine wpAny_bind (AA hx h8 ?hs ?hc)
   case hs =>
    intro y hy
    obtain ⟨e,he,rfl⟩:=List.mem_map.mp hy
    obtain ⟨he,_⟩:=Array.mem_filter.mp (Array.mem_toList_iff.mp he)
    obtain ⟨k2,_,h1,_,h2⟩:=g.en.is e (Array.mem_toList_iff.mpr he)
    exact ⟨k2,h1,h2⟩
   rw [if_neg (by decide)]
   rotate_left
   rw [if_neg hl]
   all_goals
    rw [he]
    dsimp only
    refine wpAny_bind (wpAny_holding ((QA k' k).1 A _ x hy hx (by omega) prog w E _ ?_))
    refine wpAny_bind (g.state ?_)
    dsimp only
    have hsm:t.sameMemory t.moves t.mask=some true:=by unfold SetTable.sameMemory;rw [if_pos (beq_self_eq_true _)]
    rw [hsm]
    dsimp only
    rw [if_pos rfl,iS g.tb.up hi]
    dsimp only
    rw [he]
    dsimp only
    by_cases hkk:k'=k
    ·subst hkk
     rw [decide_eq_true rfl]
     cases ad with
     |true=>rw [if_pos (by decide)];exact wpAny_pure (q _ hk' fun z=>by cases z)
     |false =>
      rw [if_neg (by decide)]
      refine wpAny_bind (iU hy ?_)
      rw [if_pos rfl]
      refine wpAny_bind (wpAny_pure ?_)
      dsimp only
      rw [if_pos rfl]
      exact wpAny_pure (q _ hk' fun _ j z=>by cases z;rfl)
    ·rw [decide_eq_false hkk,Bool.and_false,if_neg (by decide)]
     refine wpAny_bind (iU hy ?_)
     rw [if_pos rfl]
     refine wpAny_bind (wpAny_pure ?_)
     dsimp only
     rw [if_neg (by decide)]
     refine ih (m+1) _ rfl (fun b hb=>?_) (by omega)
     by_cases c:b<m
     ·exact hm' b c
     ·have:b=m:=by omega
      subst this
      exact ⟨i,hh,_,hi,he,fun hyk=>hkk ((GR.inj k' k).1 _ hy hyk)⟩
theorem iT (g:SetX w s.heap a o es ep t S) {k:GK} {x:Value} {ad:Bool} {Q:SetFound→Shared→Prop} (hu:A.units+8<cLine) (hx:(GR s.heap k).1 x) (h8:gd k≤8) (q:∀r,pZ t S (gh w k).1 k r→(ad=false→∀i,r=.there i→i.isSome=true)→Q r s) :
  wpAny (model prog w) A (setSearch a x (gh w k).1 ad) Q E s:=by
 unfold setSearch
 refine tJ g hu hx h8 q 100000 0 none rfl (fun b hb=>absurd hb (Nat.not_lt_zero _)) ?_
 rcases g.tb.good with h|h|h<;>(rw [h];decide)
def bC:GK→Option kU
 |.i n=>some (.inl n)
 |.s z=>some (.inr z)
 |_=>none
theorem uQ {a b:GK} {kk:kU} (h1:bC a=some kk) (h2:bC b=some kk):a=b:=by
 cases a<;>cases b<;>first|(cases h1;done)|(cases h2;done)|(cases h1;cases h2;rfl)|(cases h1;cases h2)
theorem dG {h:Heap} {k:GK} {kk:kU} (e:bC k=some kk) {v:Value} (hv:(GR h k).1 v):(JH prog w).is kk v=true:=by
 cases k with
 |i n=>obtain ⟨t,rfl⟩:=hv;cases e;exact wM n t.1
 |s z=>obtain ⟨t,rfl⟩:=hv;cases e;exact wL z t.1
 |nil=>cases e
 |cons x y=>cases e
theorem mI {k:GK} {kk:kU} (e:bC k=some kk):(gh w k).1=(JH prog w).hash kk:=by
 cases k<;>cases e<;>rfl
theorem fI {h:Heap} {k:GK} {v:Value} (hv:(GR h k).1 v) (hs:v.scannable=true):∃kk,bC k=some kk:=by
 cases k with
 |i n=>exact ⟨_,rfl⟩
 |s z=>exact ⟨_,rfl⟩
 |nil=>obtain ⟨b,_,_,_,rfl,_⟩:=(GR.tup rfl).1 hv;cases hs
 |cons x y=>obtain ⟨b,_,_,_,rfl,_⟩:=(GR.tup rfl).1 hv;cases hs
theorem oU (g:SetX w s.heap a o es ep t S) {k:GK} {x:Value} {ad:Bool} {Q:ScanMet→Shared→Prop} (hb:byScan x es=true) (hx:(GR s.heap k).1 x) (q1:k∈S→∀i,Q (.found i) s) (q2:k∉S→Q .absent s) :
  wpAny (model prog w) A (setScan a x (gh w k).1 ad es) Q E s:=by
 unfold byScan at hb
 simp only [Bool.and_eq_true,decide_eq_true_eq] at hb
 obtain ⟨⟨hxs,_⟩,hall⟩:=hb
 have hall':∀e∈es.toList,e.2.scannable=true:=by
  rw [← Array.all_toList] at hall
  exact fun e he=>List.all_eq_true.mp hall e he
 obtain ⟨kk,hkk⟩:=fI hx hxs
 have hel:ElemsOf (JH prog w) es.toList:=fun e he=>by
  obtain ⟨k',_,h1,h2,_⟩:=g.en.is e he
  obtain ⟨kk',e'⟩:=fI h1 (hall' e he)
  exact ⟨⟨kk',dG e' h1,by rw [h2];exact mI e'⟩,hall' e he⟩
 rw [mI (prog:=prog) hkk]
 refine wpAny_setScan_of (dG hkk hx) g.ob g.da (JC g.tb) hel ?_
 cases hf:es.toList.findIdx? (fun e=>(JH prog w).is kk e.2) with
 |none =>
  refine q2 fun hk=>?_
  obtain ⟨e,he,h1⟩:=g.en.has k hk
  have:=List.findIdx?_eq_none_iff.mp hf e he
  rw [dG hkk h1] at this
  cases this
 |some j =>
  refine q1 ?_ _
  obtain ⟨hj,hp,_⟩:=List.findIdx?_eq_some_iff_getElem.mp hf
  have hm:es.toList[j]∈es.toList:=List.getElem_mem hj
  obtain ⟨k',hk',h1,_⟩:=g.en.is _ hm
  obtain ⟨kk',e'⟩:=fI h1 (hall' _ hm)
  have:=(JH prog w).inj _ _ _ hp (dG e' h1)
  rw [uQ hkk (this▸e')]
  exact hk'
theorem CQ (g:SetX w s.heap a o es ep t S) {k:GK} {x:Value} {Q:Option Nat→Shared→Prop} (hu:A.units+8<cLine) (hx:(GR s.heap k).1 x) (h8:gd k≤8) (q:∀r:Option Nat,r.isSome=decide (k∈S)→Q r s) :
  wpAny (model prog w) A (setFind a x (gh w k).1) Q E s:=by
 unfold setFind setFindIn
 refine wpAny_bind (g.state ?_)
 dsimp only
 by_cases hb:byScan x es=true
 ·rw [if_pos hb]
  refine wpAny_bind (wpAny_rule ?_)
  refine wpAny_bind (oU g hb hx (fun hk i=>?_) fun hk=>?_)
  ·exact wpAny_pure (q _ (by rw [decide_eq_true hk];rfl))
  ·exact wpAny_pure (q _ (by rw [decide_eq_false hk];rfl))
 rw [if_neg hb]
 refine wpAny_bind (iT g hu hx h8 fun r hr hi=>?_)
 cases r with
 |there i=>exact wpAny_pure (q _ (by rw [hi rfl i rfl,decide_eq_true (show k∈S from hr)]))
 |free j d=>exact wpAny_pure (q _ (by rw [decide_eq_false (show k∉S from hr.1)];rfl))
end
end L2
namespace L2
open PySem PySem.Spec PyProof.Rows
section
variable {prog:Program} {w:World} {A:Around} {E:Value→Shared→Prop} {s:Shared} {a:Addr} {o:Obj} {es:Array (Int×Value)} {ep:Nat} {t:SetTable} {S:List GK}
theorem EntG.keep {h h':Heap} (hk:∀a o its n,h.get? a=some o→o.data=.seq its n→h'.get? a=some o) (x:EntG w h es S):EntG w h' es S :=
 ⟨x.once,x.size,fun e he=>let ⟨k,hk',h1,h2,h3⟩:=x.is e he;⟨k,hk',(GR.keep hk k).1 _ h1,h2,h3⟩,fun k hk'=>let ⟨e,he,h1⟩:=x.has k hk';⟨e,he,(GR.keep hk k).1 _ h1⟩⟩
theorem EntG.perm {h:Heap} {es':Array (Int×Value)} (p:es'.toList.Perm es.toList) (x:EntG w h es S):EntG w h es' S :=
 ⟨x.once,by rw [← Array.length_toList,p.length_eq,Array.length_toList];exact x.size,fun e he=>x.is e (p.mem_iff.mp he),fun k hk=>let ⟨e,he,h1⟩:=x.has k hk;⟨e,p.mem_iff.mpr he,h1⟩⟩
theorem EntG.push {h:Heap} {es':Array (Int×Value)} {k:GK} {v:Value} (p:es'.toList.Perm (es.push ((gh w k).1,v)).toList) (x:EntG w h es S) (hk:k∉S) (hv:(GR h k).1 v) (h8:gd k≤8):EntG w h es' (S++[k]):=by
 refine EntG.perm p ⟨?_,by rw [Array.size_push,x.size,List.length_append];rfl,fun e he=>?_,fun k' hk'=>?_⟩
 ·rw [List.nodup_append]
  exact ⟨x.once,by simp,fun a ha b hb e=>hk (by rw [List.mem_singleton] at hb;rw [← hb,← e];exact ha)⟩
 ·rw [Array.toList_push,List.mem_append] at he
  rcases he with he|he
  ·obtain ⟨k',h1,h2⟩:=x.is e he
   exact ⟨k',List.mem_append_left _ h1,h2⟩
  ·rw [List.mem_singleton.mp he]
   exact ⟨k,List.mem_append_right _ (List.mem_singleton.mpr rfl),hv,rfl,h8⟩
 ·rw [Array.toList_push]
  rcases List.mem_append.mp hk' with h1|h1
  ·obtain ⟨e,he,h2⟩:=x.has k' h1
   exact ⟨e,List.mem_append_left _ he,h2⟩
  ·rw [List.mem_singleton.mp h1]
   exact ⟨_,List.mem_append_right _ (List.mem_singleton.mpr rfl),hv⟩
theorem uN (g:SetX w s.heap a o es ep t S) (f:Obj→Obj):∀b ob its n,s.heap.get? b=some ob→ob.data=.seq its n→(s.heap.update a f).get? b=some ob:=fun b ob its n hb hd=>by
 by_cases c:b=a
 ·subst c
  rw [g.ob] at hb
  cases hb
  rw [g.da] at hd
  cases hd
 ·exact ((Heap.SameBut.update s.heap a f).2 b c).trans hb
theorem cQ (g:SetX w s.heap a o es ep t S) {es':Array (Int×Value)} {t':SetTable} {S':List GK} {Q:Unit→Shared→Prop} (tb:TOk t' es') (en:EntG w s.heap es' S') (ld:t'.led=t.led) (hz:es'.size≤sizeLine)
  (q:SetX w (s.heap.update a (Obj.putSet es' t')) a {o with data:=.set es' (ep+1) t'} es' (ep+1) t' S'→Q () {s with heap:=s.heap.update a (Obj.putSet es' t')}) :
  wpAny (model prog w) A (storeSet a es' t') Q E s:=by
 refine wpAny_storeSet_of g.ob g.da (q ?_) hz
 have hg:(s.heap.update a (Obj.putSet es' t')).get? a=some {o with data:=.set es' (ep+1) t'}:=by
  have:=Heap.get?_update_self (Obj.putSet es' t') g.ob (by rw [putSet_of es' t' g.da];rfl)
  rw [putSet_of es' t' g.da] at this;exact this
 exact ⟨hg,g.ex,rfl,tb,en.keep (uN g _),ld.trans g.ld⟩
def yD (t:SetTable) (es:Array (Int×Value)):Prop:=es.size*5<t.mask*3
def qC (S:List GK) (k:GK):List GK:=if k∈S then S else S++[k]
theorem cC {t:SetTable} (k:TOk t es):t.fill=es.size:=by unfold SetTable.fill;rw [k.dum,k.size];rfl
theorem nE (g:SetX w s.heap a o es ep t S) {wanted mask:Nat} {Q:Unit→Shared→Prop} (hw:SetTable.sizeAbove wanted=mask+1) (gm:zH mask) (hl:es.size≤mask)
  (q:∀(h':Heap) (o':Obj) (es':Array (Int×Value)) (ep':Nat) (t':SetTable),SetX w h' a o' es' ep' t' S→t'.mask=mask→es'.toList.Perm es.toList→Heap.SameBut a s.heap h'→Q () {s with heap:=h'}) :
  wpAny (model prog w) A (setRelay a wanted) Q E s:=by
 unfold setRelay
 refine wpAny_bind (g.state ?_)
 dsimp only
 rw [hw]
 have hs:mask+1≤sizeLine:=by rw [sizeLine_eq];rcases gm with h|h|h<;>(rw [h];decide)
 rw [if_neg (by omega)]
 obtain ⟨t',order,e1,e2,e3,e4,tb,hp,pm⟩:=nT (finger:=t.finger) (moves:=t.movedTo mask) (led:=t.led) (plain:=t.plain) (es:=es) gm hl
 have er:t.relaid (es.map (·.1)) wanted=some (t',order):=by unfold SetTable.relaid;rw [hw];exact e1
 rw [er]
 have hz:(order.filterMap (es[·]?)).size=es.size:=by rw [← Array.length_toList,pm.length_eq,Array.length_toList]
 refine wpAny_bind ?_
 show wpAny _ A (if ((order.filterMap (es[·]?)).size != es.size)=true then _ else _) _ E s
 rw [if_neg (by rw [hz];simp)]
 refine wpAny_pure ?_
 exact cQ g tb (g.en.perm pm) e3 (by rw [hz];omega) fun g'=>q _ _ _ _ _ g' e2 pm (Heap.SameBut.update ..)
theorem iM (b:Bool) (k:TOk t es):TOk {t with plain:=b} es :=
 ⟨k.good,k.dum,k.up,k.lim,k.size,k.room,fun i p h x h1 h2=>let ⟨n,e1,e2⟩:=k.reach i p h x h1 h2;⟨n,(cB (t':=t) rfl h n).trans e1,fun m hm=>let ⟨j,hj⟩:=e2 m hm;⟨j,by rw [cB (t:={t with plain:=b}) (t':=t) rfl h m];exact hj⟩⟩⟩
theorem uZ (k:TOk t es) {wanted mask:Nat} (hw:SetTable.sizeAbove wanted=mask+1) (gm:zH mask) (hl:es.size≤mask):∃es' t',relayAll t es wanted=(es',t',false)∧TOk t' es'∧t'.mask=mask∧t'.led=t.led∧es'.toList.Perm es.toList:=by
 obtain ⟨t',order,e1,e2,e3,e4,tb,hp,pm⟩:=nT (finger:=t.finger) (moves:=t.movedTo mask) (led:=t.led) (plain:=t.plain) (es:=es) gm hl
 have er:t.relaid (es.map (·.1)) wanted=some (t',order):=by unfold SetTable.relaid;rw [hw];exact e1
 refine ⟨_,t',?_,tb,e2,e3,pm⟩
 unfold relayAll
 rw [er]
 dsimp only
 rw [if_pos]
 rw [JC tb,Bool.and_true]
 exact List.isPerm_iff.mpr hp
theorem AV {h:Int} {x:Value} (k:TOk t es) (nf:yD t es):∃n,¬qO t (jO t h n)∧(∀m,m<n→qO t (jO t h m))∧TOk (t.put (jO t h n)).1 (SetTable.insertAt es (t.put (jO t h n)).2 (h,x))∧layNew t es h x=(SetTable.insertAt es (t.put (jO t h n)).2 (h,x),(t.put (jO t h n)).1,false,false):=by
 obtain ⟨m,met,_,hpr,hway,hend⟩:=mC k (fun _=>h+1) h 0 fun a ha=>absurd ha (Nat.not_lt_zero _)
 have hpr:SetTable.probe t (fun _=>h+1) h (t.probeStart h)=some met:=hpr
 have hbe:∀a,a<m→qO t (jO t h a):=fun a ha=>let ⟨i,hi,_⟩:=hway a (Nat.zero_le _) ha;⟨i,hi⟩
 rcases hend with ⟨hfr,rfl⟩|⟨i,_,hi,_⟩
 ·have hsz:t.place.size+1≤t.mask:=by
   have:=nf
   unfold yD at this
   rw [← k.size] at this
   rcases k.good with h|h|h<;>(rw [h] at this ⊢;omega)
  have tb:=mY (x:=x) k hfr hbe (fX _ m) hsz
  refine ⟨m,hfr,hbe,tb,?_⟩
  unfold layNew SetTable.freeSlot
  rw [hpr]
  dsimp only [Option.getD,Option.isSome]
  unfold SetTable.orStandIn
  rw [JC tb]
  rfl
 ·exact absurd hi (by omega)
theorem DS (g:SetX w s.heap a o es ep t S) (nf:yD t es) (h70:S.length<70) {k:GK} {x:Value} {Q:Bool→Shared→Prop} (hu:A.units+8<cLine) (hx:(GR s.heap k).1 x) (h8:gd k≤8)
    (q:∀(b:Bool) (h':Heap) (o':Obj) (es':Array (Int×Value)) (ep':Nat) (t':SetTable),SetX w h' a o' es' ep' t' (qC S k)→yD t' es'→(∀hx,EntG w hx es S→(GR hx k).1 x→EntG w hx es' (qC S k))→Heap.SameBut a s.heap h'→Q b {s with heap:=h'}) :
    wpAny (model prog w) A (setAddHashed a x (gh w k).1) Q E s:=by
  unfold setAddHashed setAddHashedIn
  refine wpAny_holding ?_
  refine wpAny_bind (g.state ?_)
  dsimp only
  have h70':es.size<70:=by rw [g.en.size];exact h70
  by_cases hsc:byScan x es=true
  · rw [if_pos hsc]
    unfold setAddByScan
    refine wpAny_bind ?_
    refine wpAny_bind (wpAny_rule ?_)
    refine wpAny_bind (oU g hsc hx (fun hk i=>?_) fun hk=>?_)
    · dsimp only
      refine wpAny_pure (wpAny_pure ?_)
      have:=q false s.heap o es ep t (by unfold qC;rw [if_pos hk];exact g) nf (fun hx e _=>by unfold qC;rw [if_pos hk];exact e) (Heap.SameBut.refl ..)
      exact this
    · dsimp only
      obtain ⟨n,hfr,hbe,tb,hlay⟩:=AV (h:=(gh w k).1) (x:=x) g.tb nf
      have hp:(SetTable.insertAt es (t.put (jO t (gh w k).1 n)).2 ((gh w k).1,x)).toList.Perm (es.push ((gh w k).1,x)).toList:=SetTable.insertAt_perm _ _ _
      obtain ⟨e1,e2⟩:=eS g.tb.dum (jO t (gh w k).1 n)
      have hmask:(t.put (jO t (gh w k).1 n)).1.mask=t.mask:=by rw [e1]
      have hled:(t.put (jO t (gh w k).1 n)).1.led=t.led:=by rw [e1]
      have hz:(SetTable.insertAt es (t.put (jO t (gh w k).1 n)).2 ((gh w k).1,x)).size=es.size+1:=by rw [← Array.length_toList,hp.length_eq,Array.length_toList,Array.size_push]
      have haS:qC S k=S++[k]:=by unfold qC;rw [if_neg hk]
      rw [hlay]
      dsimp only
      generalize (t.put (jO t (gh w k).1 n)).1=t1 at tb hmask hled ⊢
      generalize SetTable.insertAt es (t.put (jO t (gh w k).1 n)).2 ((gh w k).1,x)=es1 at tb hp hz ⊢
      show wpAny _ _ ((pure ():Sem Unit) >>= _) _ _ _
      refine wpAny_bind (wpAny_pure ?_)
      have cont:∀t2:SetTable,TOk t2 es1→t2.mask=t.mask→t2.led=t.led→wpAny (model prog w) A (storeSet a es1 t2 >>= fun _=>if (!false&&t2.tooFull)=true then ((match (relayAll t2 es1 (SetTable.grown es1.size)).2.2 with|true=>rule "set.scan.the-table-gave-way"|false=>pure ()) >>= fun _=>storeSet a (relayAll t2 es1 (SetTable.grown es1.size)).1 (relayAll t2 es1 (SetTable.grown es1.size)).2.1 >>= fun _=>pure (some true)) else pure (some true)) (fun r s'=>wpAny (model prog w) A (match r with|some added=>pure added|none=>setAddHashedIn a x (gh w k).1 99999) Q E s') E s:=fun t2 tb' hm hld=>by
        refine wpAny_bind (cQ g tb' (g.en.push hp hk hx h8) hld (by rw [hz,sizeLine_eq];omega) fun g'=>?_)
        have sb:Heap.SameBut a s.heap (s.heap.update a (Obj.putSet es1 t2)):=Heap.SameBut.update ..
        by_cases hf:t2.tooFull=true
        · rw [if_pos (by rw [hf];rfl)]
          have hff:(es.size+1)*5≥t.mask*3:=by
            unfold SetTable.tooFull at hf
            rw [cC tb',hz,hm] at hf
            exact of_decide_eq_true hf
          have hno:=nf
          unfold yD at hno
          have fin:∀mask:Nat,SetTable.sizeAbove (SetTable.grown es1.size)=mask+1→zH mask→es1.size≤mask→(es.size+1)*5<mask*3→wpAny (model prog w) A ((match (relayAll t2 es1 (SetTable.grown es1.size)).2.2 with|true=>rule "set.scan.the-table-gave-way"|false=>pure ()) >>= fun _=>storeSet a (relayAll t2 es1 (SetTable.grown es1.size)).1 (relayAll t2 es1 (SetTable.grown es1.size)).2.1 >>= fun _=>pure (some true)) (fun r s'=>wpAny (model prog w) A (match r with|some added=>pure added|none=>setAddHashedIn a x (gh w k).1 99999) Q E s') E {s with heap:=s.heap.update a (Obj.putSet es1 t2)}:=fun mask h1 h2 h3 h4=>by
            obtain ⟨es2,t3,er,tb3,hm3,hl3,pm⟩:=uZ tb' h1 h2 h3
            rw [er]
            dsimp only
            have hz2:es2.size=es1.size:=by rw [← Array.length_toList,pm.length_eq,Array.length_toList]
            refine wpAny_bind (wpAny_pure ?_)
            refine wpAny_bind (cQ g' tb3 (g'.en.perm pm) hl3 (by rw [hz2,hz,sizeLine_eq];omega) fun g''=>wpAny_pure (wpAny_pure ?_))
            exact q true _ _ _ _ _ (by rw [haS];exact g'') (by unfold yD;rw [hm3,hz2,hz];omega) (fun hx e1 e2=>by rw [haS];exact (e1.push hp hk e2 h8).perm pm) (sb.trans (Heap.SameBut.update ..))
          rcases g.tb.good with h|h|h
          · rw [h] at hff hno
            have e5:es.size=4:=by omega
            exact fin 31 (by rw [hz,e5];decide) (.inr (.inl rfl)) (by rw [hz];omega) (by omega)
          · rw [h] at hff hno
            have e5:es.size=18:=by omega
            exact fin 127 (by rw [hz,e5];decide) (.inr (.inr rfl)) (by rw [hz];omega) (by omega)
          · rw [h] at hff
            omega
        · rw [if_neg (by simp [hf])]
          refine wpAny_pure (wpAny_pure (q true _ _ _ _ _ (by rw [haS];exact g') ?_ (fun hx e1 e2=>by rw [haS];exact e1.push hp hk e2 h8) sb))
          unfold yD
          have:¬(t2.fill*5≥t2.mask*3):=fun z=>hf (by unfold SetTable.tooFull;exact decide_eq_true z)
          rw [cC tb'] at this
          omega
      by_cases hpl:t1.plain=true
      · rw [if_pos hpl]
        refine wpAny_bind ((dH k 8).1 x hx A _ fun b=>?_)
        cases b with
        |true=>exact cont t1 tb hmask hled
        |false=>exact cont {t1 with plain:=false} (iM false tb) hmask hled
      · rw [if_neg hpl]
        exact wpAny_bind (wpAny_pure (cont t1 tb hmask hled))
  rw [if_neg hsc]
  refine wpAny_bind (iT g hu hx h8 fun r hr _=>?_)
  cases r with
  |there i =>
    dsimp only
    refine wpAny_pure ?_
    have:=q false s.heap o es ep t (by unfold qC;rw [if_pos (show k∈S from hr)];exact g) nf (fun hx e _=>by unfold qC;rw [if_pos (show k∈S from hr)];exact e) (Heap.SameBut.refl ..)
    exact this
  |free j d =>
    obtain ⟨hk,rfl,n,rfl,hfr,hbe⟩:=hr
    dsimp only
    refine wpAny_bind (g.state ?_)
    dsimp only
    have hsz:t.place.size+1≤t.mask:=by
      have:=nf
      unfold yD at this
      rw [← g.tb.size] at this
      rcases g.tb.good with h|h|h<;>(rw [h] at this ⊢;omega)
    have tb:=mY (x:=x) g.tb hfr hbe (fX _ n) hsz
    obtain ⟨e1,e2⟩:=eS g.tb.dum (jO t (gh w k).1 n)
    have hp:(SetTable.insertAt es (t.put (jO t (gh w k).1 n)).2 ((gh w k).1,x)).toList.Perm (es.push ((gh w k).1,x)).toList:=SetTable.insertAt_perm _ _ _
    have hz:(SetTable.insertAt es (t.put (jO t (gh w k).1 n)).2 ((gh w k).1,x)).size=es.size+1:=by rw [← Array.length_toList,hp.length_eq,Array.length_toList,Array.size_push]
    have hmask:(t.put (jO t (gh w k).1 n)).1.mask=t.mask:=by rw [e1]
    have es70:es.size+1≤70:=by rw [g.en.size];omega
    have cont:∀t':SetTable,TOk t' (SetTable.insertAt es (t.put (jO t (gh w k).1 n)).2 ((gh w k).1,x))→t'.mask=t.mask→t'.led=t.led→wpAny (model prog w) A (storeSet a (SetTable.insertAt es (t.put (jO t (gh w k).1 n)).2 ((gh w k).1,x)) t' >>= fun _=>if (!false&&t'.tooFull)=true then (setRelay a (SetTable.grown (es.size+1)) >>= fun _=>pure true) else pure true) Q E s:=fun t' tb' hm hld=>by
      refine wpAny_bind (cQ g tb' (g.en.push hp hk hx h8) hld (by rw [hz,sizeLine_eq];omega) fun g'=>?_)
      have haS:qC S k=S++[k]:=by unfold qC;rw [if_neg hk]
      have sb:Heap.SameBut a s.heap (s.heap.update a (Obj.putSet (SetTable.insertAt es (t.put (jO t (gh w k).1 n)).2 ((gh w k).1,x)) t')):=Heap.SameBut.update ..
      by_cases hf:t'.tooFull=true
      · rw [if_pos (by rw [hf];rfl)]
        have hff:(es.size+1)*5≥t.mask*3:=by
          unfold SetTable.tooFull at hf
          rw [cC tb',hz,hm] at hf
          exact of_decide_eq_true hf
        have hno:=nf
        unfold yD at hno
        rcases g.tb.good with h|h|h
        · rw [h] at hff hno
          have e5:es.size=4:=by omega
          refine wpAny_bind (nE (mask:=31) g' (by rw [e5];decide) (.inr (.inl rfl)) (by rw [hz];omega) fun h' o' es' ep' t'' g'' hmm hpm hsb=>wpAny_pure ?_)
          have hss:es'.size=(SetTable.insertAt es (t.put (jO t (gh w k).1 n)).2 ((gh w k).1,x)).size:=by rw [← Array.length_toList,hpm.length_eq,Array.length_toList]
          exact q true h' o' es' ep' t'' (by rw [haS];exact g'') (by unfold yD;rw [hmm,hss,hz];omega) (fun hx e1 e2=>by rw [haS];exact (e1.push hp hk e2 h8).perm hpm) (sb.trans hsb)
        · rw [h] at hff hno
          have e5:es.size=18:=by omega
          refine wpAny_bind (nE (mask:=127) g' (by rw [e5];decide) (.inr (.inr rfl)) (by rw [hz];omega) fun h' o' es' ep' t'' g'' hmm hpm hsb=>wpAny_pure ?_)
          have hss:es'.size=(SetTable.insertAt es (t.put (jO t (gh w k).1 n)).2 ((gh w k).1,x)).size:=by rw [← Array.length_toList,hpm.length_eq,Array.length_toList]
          exact q true h' o' es' ep' t'' (by rw [haS];exact g'') (by unfold yD;rw [hmm,hss,hz];omega) (fun hx e1 e2=>by rw [haS];exact (e1.push hp hk e2 h8).perm hpm) (sb.trans hsb)
        · rw [h] at hff
          omega
      · rw [if_neg (by simp [hf])]
        refine wpAny_pure (q true _ _ _ _ _ (by rw [haS];exact g') ?_ (fun hx e1 e2=>by rw [haS];exact e1.push hp hk e2 h8) sb)
        unfold yD
        have:¬(t'.fill*5≥t'.mask*3):=fun z=>hf (by unfold SetTable.tooFull;exact decide_eq_true z)
        rw [cC tb'] at this
        omega
    have hled:(t.put (jO t (gh w k).1 n)).1.led=t.led:=by rw [e1]
    by_cases hpl:(t.put (jO t (gh w k).1 n)).1.plain=true
    · rw [if_pos hpl]
      refine wpAny_bind ((dH k 8).1 x hx A _ fun b=>?_)
      cases b with
      |true=>exact cont _ tb hmask hled
      |false=>exact cont _ (iM false tb) hmask hled
    · rw [if_neg hpl]
      exact wpAny_bind (wpAny_pure (cont _ tb hmask hled))
end
end L2
namespace L2
open PySem PySem.Spec PyProof.Rows
def jX (ks:List GK):List GK:=ks.foldl qC []
theorem i4 (ks:List GK) (k:GK):jX (ks++[k])=qC (jX ks) k:=by unfold jX;rw [List.foldl_append];rfl
theorem xY {S:List GK} {k x:GK}:x∈qC S k↔x∈S∨x=k:=by
 unfold qC
 split
 ·rename_i h
  exact ⟨.inl,fun z=>z.elim id fun e=>e▸h⟩
 ·rw [List.mem_append,List.mem_singleton]
theorem mL {x:GK}:∀(ks S:List GK),x∈ks.foldl qC S↔x∈S∨x∈ks
 |[],S=>by simp
 |k::ks,S=>by
  rw [List.foldl_cons,mL ks,xY,List.mem_cons,or_assoc]
theorem metG_mem {ks:List GK} {x:GK}:x∈jX ks↔x∈ks:=by unfold jX;rw [mL];simp
theorem mM:∀(ks S:List GK),(ks.foldl qC S).length≤S.length+ks.length
 |[],S=>Nat.le_refl _
 |k::ks,S=>by
  rw [List.foldl_cons]
  refine Nat.le_trans (mM ks _) ?_
  have:(qC S k).length≤S.length+1:=by unfold qC;split<;>simp
  rw [List.length_cons]
  omega
theorem xM (ks:List GK):(jX ks).length≤ks.length:=by have:=mM ks [];unfold jX;rw [List.length_nil] at this;omega
def SetIn (w:World) (h0 h:Heap) (D:Addr) (S:List GK):Prop:=∃o es ep t,h.get? D=some o∧o.ExactSet∧o.data=.set es ep t∧TOk t es∧EntG w h0 es S∧t.led = !(w.params.followText "set-order")∧yD t es
def zL (h h':Heap):Prop:=∀b o its n,h.get? b=some o→o.data=.seq its n→h'.get? b=some o
theorem SetIn.g {w:World} {h0 h:Heap} {D:Addr} {S:List GK} (k:zL h0 h) (x:SetIn w h0 h D S):∃o es ep t,SetX w h D o es ep t S∧yD t es∧EntG w h0 es S :=
 let ⟨o,es,ep,t,h1,h2,h3,h4,h5,h8,h7⟩:=x;⟨o,es,ep,t,⟨h1,h2,h3,h4,h5.keep k,h8⟩,h7,h5⟩
section
variable {prog:Program} {w:World} {E:Value→Shared→Prop}
abbrev b0 (prog:Program) (w:World) (E:Value→Shared→Prop) (k:GK):Prop :=
 ∀(l:List Value) (A:Around) (s:Shared) (b:Array Int) (Q:Array Int→Shared→Prop),(GR s.heap k).2 l→A.units+gd k≤cLine→(∀n b',s.toks≤n→b'.toList=b.toList++(gh w k).2→Q b' {s with toks:=n})→
  wpAny (model prog w) A (forIn l b fun x r=>do let h ← pyHash x;pure (ForInStep.yield (r.push h))) Q E s
theorem lA {k:GK} (ht:zD k=true) (hs:(gh w k).1=reduceHash (Builtin.Tuple.tupleHashOf (gh w k).2))
  (lp:b0 prog w E k)
  {v:Value} {A:Around} {s:Shared} {Q:Int→Shared→Prop} (hv:(GR s.heap k).1 v) (hu:A.units+gd k<cLine) (hq:∀n,s.toks≤n→Q (gh w k).1 {s with toks:=n}):wpAny (model prog w) A (pyHash v) Q E s:=by
 have hv':=(GR.tup ht).1 hv
 have hT:=hv'.typeIs
 obtain ⟨a,o,its,n,rfl,ho,hc,hd,hl⟩:=hv'
 refine PySem.W.pyHash_slot (T:="tuple") hT F.slot_tuple_hash F.entry_tuple_hash (F.args_tuple_hash_1 _) (beq_builtin_none _) (.inr (by omega)) ?_
 show wpAny _ A.in1 (Builtin.Tuple.tupleItemsOf _ >>= _) _ E s
 refine wpAny_bind (wpAny_tupleItemsOf ho hd (wpAny_bind ?_))
 rw [← Array.forIn_toList]
 refine lp its.toList _ s #[] _ hl (by simp only [Around.in1_units];omega) fun m b' hm hb=>?_
 have e:b'.toList=(gh w k).2:=by rw [hb];rfl
 show wpAny _ _ (retInt (Builtin.Tuple.tupleHashOf b'.toList)) _ _ _
 rw [e]
 exact wpAny_bind (wpAny_mkInt (wpAny_pure ⟨_,_,rfl,hs▸hq _ (Nat.le_succ_of_le hm)⟩))
theorem eY:∀k:GK,(∀(v:Value) (A:Around) (s:Shared) (Q:Int→Shared→Prop),(GR s.heap k).1 v→A.units+gd k<cLine→(∀n,s.toks≤n→Q (gh w k).1 {s with toks:=n})→wpAny (model prog w) A (pyHash v) Q E s)∧b0 prog w E k
 |.i n=>⟨fun v A s Q p _ q=>by obtain ⟨t,rfl⟩:=p;exact wpAny_pyHash_int (q _ (Nat.le_succ _)),fun _ _ _ _ _ p=>p.elim⟩
 |.s z=>⟨fun v A s Q p _ q=>by obtain ⟨t,rfl⟩:=p;exact wpAny_pyHash_str (q _ (Nat.le_succ _)),fun _ _ _ _ _ p=>p.elim⟩
 |.nil=>by
  have lp:b0 prog w E .nil:=fun l A s b Q p _ q=>by
   cases p
   exact wpAny_pure (q s.toks b (Nat.le_refl _) (by simp [gh]))
  exact ⟨fun v A s Q p hu q=>lA rfl (by simp only [gh]) lp p hu q,lp⟩
 |.cons x y=>by
  have lp:b0 prog w E (.cons x y):=fun l A s b Q p hu q=>by
   obtain ⟨u,us,rfl,p1,p2⟩:=p
   simp only [gd] at hu
   rw [List.forIn_cons]
   refine wpAny_bind (wpAny_bind ((eY x).1 u A s _ p1 (by omega) fun m hm=>wpAny_pure ?_))
   exact (eY y).2 us A _ _ Q p2 (by omega) fun m' b' hm' hb=>q m' b' (Nat.le_trans hm hm') (by simp [hb,gh])
  exact ⟨fun v A s Q p hu q=>lA rfl (by simp only [gh]) lp p hu q,lp⟩
end
section
variable {prog:Program} {w:World} {A:Around} {s:Shared} {E:Value→Shared→Prop}
theorem uW {R:Result→Shared→Prop} {J:Addr} {fp wr:List Addr} {G:Array GenState→Array GenState→Prop} {ks:List GK} {Pv:Nat→Value→Prop} {St:Nat→Shared→Prop} (W:WalksS prog w A.in1 J fp wr G ks.length Pv St) (D:Addr) (nf:D∉fp)
  {h0:Heap} (hw0:∀b∈D::wr,h0.get? b=none) (hv:∀i v,Pv i v→∃k:GK,ks[i]?=some k∧(GR h0 k).1 v) (hk:∀k∈ks,gd k≤8) (hb:ks.length≤70) (hu:A.units+20<cLine) :
  ∀(m i:Nat) (s:Shared),ks.length - i=m→i≤ks.length→St i s→zL h0 s.heap→SetIn w h0 s.heap D (jX (ks.take i))→
   (∀s',Moved (D::wr) G s s'→SetIn w h0 s'.heap D (jX ks)→R (.ok (.ret .none)) s')→
   codeAny (model prog w) A (.builtin "set.update.loop" ⟨[.ref D,.ref J],[]⟩) R s:=by
 have nw:D∉wr:=fun e=>nf (W.sub _ e)
 have sub:∀b∈wr,b∈D::wr:=fun b e=>List.mem_cons_of_mem _ e
 have kq:∀{s s':Shared},Moved wr G s s'→zL h0 s.heap→zL h0 s'.heap:=fun hm k b o its n ho hd=>hm.heap b _ (fun e=>by rw [hw0 b (sub b e)] at ho;cases ho) (k b o its n ho hd)
 have hold:∀{s s':Shared} {S:List GK},Moved wr G s s'→SetIn w h0 s.heap D S→SetIn w h0 s'.heap D S:=fun hm ⟨o,es,ep,t,ho,rest⟩=>⟨o,es,ep,t,hm.heap D _ nw ho,rest⟩
 intro m
 induction m with
 |zero =>
  intro i s hm hi hst hq hS q
  obtain rfl:i=ks.length:=by omega
  rw [List.take_length] at hS
  refine codeAny_builtin F.entry_set_update_loop ?_
  rw [Around.under_plainId F.plain_set_update_loop _]
  show wpAny _ _ (pyNext (.ref J) >>= _) _ _ s
  refine wpAny_bind (W.done s _ _ hst fun s' hm=>wpAny_pure (q s' (hm.mono sub) (hold hm hS)))
 |succ m ih =>
  intro i s hm hi hst hq hS q
  have lt:i<ks.length:=by omega
  refine codeAny_builtin F.entry_set_update_loop ?_
  rw [Around.under_plainId F.plain_set_update_loop _]
  show wpAny _ _ (pyNext (.ref J) >>= _) _ _ s
  refine wpAny_bind (W.item i s _ _ lt hst fun v s' hP hst' hm'=>?_)
  obtain ⟨k,hki,hv0⟩:=hv i v hP
  have h8:=hk k (List.mem_of_getElem? hki)
  have hq':=kq hm' hq
  have hvs:=(GR.keep hq' k).1 v hv0
  obtain ⟨o,es,ep,t,g,hnf,hen⟩:=(hold hm' hS).g hq'
  have hlen:(jX (ks.take i)).length≤i:=Nat.le_trans (xM _) (List.length_take_le ..)
  have hnext:jX (ks.take (i+1))=qC (jX (ks.take i)) k:=by rw [List.take_add_one,hki];exact i4 _ _
  show wpAny _ _ (holding [v] (setAdd D v) >>= _) _ _ s'
  refine wpAny_bind (wpAny_holding ?_)
  unfold setAdd
  refine wpAny_holding (wpAny_bind ((eY k).1 v _ s' _ hvs (by simp only [Around.in1_units];omega) fun tk htk2=>?_))
  refine DS (s:={s' with toks:=tk}) g hnf (by omega) (by simp only [Around.in1_units];omega) hvs h8 fun b h' o' es' ep' t' g' nf' he' hsb=>?_
  have hSn:SetIn w h0 h' D (jX (ks.take (i+1))):=by
   rw [hnext]
   exact ⟨o',es',ep',t',g'.ob,g'.ex,g'.da,g'.tb,he' h0 hen hv0,g'.ld,nf'⟩
  have hq2:zL h0 h':=fun c ob its n hc hd=>by
   have hne:c≠D:=fun z=>by rw [z,hw0 D List.mem_cons_self] at hc;cases hc
   rw [hsb.2 c hne]
   exact hq' c ob its n hc hd
  refine wpAny_pure ⟨plainId_quiet F.plain_set_update_loop _,ih (i+1) _ (by omega) lt (W.frame _ s' _ _ hst' ?_ fun b hb o e=>?_) hq2 hSn fun s2 hm2 hS2=>?_⟩
  ·exact htk2
  ·rw [hsb.2 b (fun x:b=D=>nf (by rw [← x];exact hb))];exact e
  ·refine q s2 (Moved.trans W.gtrans ((hm'.mono sub).then_heap ?_ fun b o hb e=>?_) hm2) hS2
   ·exact htk2
   ·rw [hsb.2 b (fun x:b=D=>hb (by rw [x];exact List.mem_cons_self))];exact e
theorem tH (a:Value) {Q₁:Value→Shared→Prop}
  (h:Q₁ (.ref s.heap.objs.size) {s with heap:=s.heap.push {cls:=.type "set",dict:=none,data:=.set #[] 0 (.fresh 0 0 (!(w.params.followText "set-order")))}}) :
  codeAny (model prog w) A (.call (.builtin "set.__new__") ⟨[.type "set",a],[]⟩) (wants Q₁ E) s:=by
 refine codeAny_of_tree ?_
 show wpAny _ A.in1 (do checkBuiltinCall "set.__new__" ⟨[.type "set",a],[]⟩;again (.builtin "set.__new__" ⟨[.type "set",a],[]⟩)) _ _ s
 refine wpAny_bind (wpAny_of_eq (F.newCall_set_1 a) (wpAny_pure ⟨plainId_quiet F.plain_set_new _,codeAny_builtin F.entry_set_new ?_⟩))
 rw [Around.under_plainId F.plain_set_new _]
 unfold Builtin.«set.__new__» Builtin.Frozenset.newClass
 have hsub:=sub_set_self
 obtain ⟨hp,g,d,tk,os⟩:=s
 dsimp only
 wp_walk
 refine wpAny_askSetting (wpAny_pure ?_)
 dsimp only
 simp only [newObj]
 refine wpAny_bind (wpAny_alloc (wpAny_pure ?_))
 exact wpAny_pure h
set_option maxHeartbeats 3200000 in
theorem uG {Q:Value→Shared→Prop} {l:Addr} {us:Array Value} {ks:List GK} (hh:A.handled=none) (hl:s.heap.IsList l us) (hn:us.size=ks.length) (hv:∀(i:Nat) (v:Value),us[i]?=some v→∃k:GK,ks[i]?=some k∧(GR s.heap k).1 v) (hk:∀k∈ks,gd k≤8) (hb:ks.length≤70) (hu:A.units+40<cLine)
  (q:∀(h':Heap) (tk:Nat),SetIn w s.heap h' s.heap.objs.size (jX ks)→(∀b o,s.heap.get? b=some o→h'.get? b=some o)→Q (.ref s.heap.objs.size) {s with heap:=h',toks:=tk}) :
  wpAny (model prog w) A (call (.type "set") [.ref l]) Q E s:=by
 obtain ⟨c,tl,mr⟩:=F.called_set.mro
 have made:=F.called_set.made
 have subt:=F.called_set.sub
 refine wpAny_call (codeAny_of_tree (show wpAny _ _ (callAny (.type "set") _) _ _ _ from wpAny_pure ⟨Code.quiet_builtin _ (by decide +kernel),codeAny_builtin F.entry_type_call ?_⟩))
 rw [Around.under_plain (weight_type_call_type "set" [.ref l] []) rfl]
 have u1:=F.called_set.notType
 have u2:=F.called_set.canCreate
 have u3:=F.typeCall_set_1 (.ref l)
 repeat (any_goals (first|assumption|wp_step))
 refine codeAny_mono (tH (.ref l) (E:=E) (Q₁:=fun x s₁=>∃b:Bool,b=(!(w.params.followText "set-order"))∧x=.ref s.heap.objs.size∧s₁={s with heap:=s.heap.push {cls:=.type "set",dict:=none,data:=.set #[] 0 (.fresh 0 0 b)}}) ⟨_,rfl,rfl,rfl⟩) fun r s₁ hr=>?_
 match r,hr with
 |.error e,hr=>exact hr
 |.ok (.ret x),hr =>
  obtain ⟨b,hbl,rfl,rfl⟩:=hr
  have g1:(s.heap.push {cls:=.type "set",dict:=none,data:=.set #[] 0 (.fresh 0 0 b)}).get? s.heap.objs.size=some {cls:=.type "set",dict:=none,data:=.set #[] 0 (.fresh 0 0 b)}:=Heap.get?_push_size _ rfl
  have ty:Shared.TypeIs {s with heap:=s.heap.push {cls:=.type "set",dict:=none,data:=.set #[] 0 (.fresh 0 0 b)}} (.ref s.heap.objs.size) "set":=⟨_,g1,rfl⟩
  have u4:=F.called_set.init.lookup
  have u5:=F.called_set.init.bind (.ref s.heap.objs.size)
  repeat (any_goals (first|assumption|wp_step))
  refine codeAny_mono (codeAny_call_builtin (R:=wants (fun r s₂=>r=.none∧∃h' tk,s₂={s with heap:=h',toks:=tk}∧SetIn w s.heap h' s.heap.objs.size (jX ks)∧(∀b o,s.heap.get? b=some o→h'.get? b=some o)) E) F.called_set.init.plain F.entry_set_init (check_set_init_1 ty ?_)) fun r₂ s₂ hr₂=>?_
  ·obtain ⟨⟨k1,k2,k3,k4⟩,eo,ec,nl,ed⟩:=hl
   simp only at ec ed
   subst ec;subst ed
   have eo':(s.heap.push {cls:=.type "set",dict:=none,data:=.set #[] 0 (.fresh 0 0 b)}).get? l=some {cls:=.type "list",dict:=k2,data:=.seq us nl,slots:=k4}:=Heap.get?_push_of_some _ eo
   have u6:=F.sub_list_set
   have u7:=F.sub_list_frozenset
   have u8:(Value.type "list" == Value.type "dict")=false:=by decide
   have l1:(s.heap.push {cls:=.type "set",dict:=none,data:=.set #[] 0 (.fresh 0 0 b)}).IsList l us:=⟨_,eo',rfl,nl,rfl⟩
   have ll:l<s.heap.objs.size:=Heap.lt_size eo
   unfold Builtin.«set.__init__» noKeywords Builtin.Frozenset.updateFrom
   generalize hPI:pyIter=PI
   wp_walk
   subst hPI
   refine wpAny_pyIter_list l1 (wpAny_bind (wpAny_runValue ?_))
   have hnI:l≠(s.heap.push {cls:=.type "set",dict:=none,data:=.set #[] 0 (.fresh 0 0 b)}).objs.size:=by rw [Heap.size_push];exact Nat.ne_of_lt (Nat.lt_succ_of_lt ll)
   have nf:s.heap.objs.size∉[(s.heap.push {cls:=.type "set",dict:=none,data:=.set #[] 0 (.fresh 0 0 b)}).objs.size,l]:=by
    rw [Heap.size_push,List.mem_cons,List.mem_singleton,not_or];exact ⟨Nat.ne_of_lt (Nat.lt_succ_self _),Nat.ne_of_gt ll⟩
   refine uW (ks:=ks) (h0:=s.heap) (hn▸(Walks.list (by simp [hh]) _ l hnI us).toS) s.heap.objs.size nf ?hw (fun i v e=>hv i v e) hk hb ?hu _ 0 _ rfl (Nat.zero_le _) ⟨⟨_,Heap.get?_push_size _ rfl,rfl,rfl⟩,l1.push _⟩ ?hQ ?hS ?hR
   case hw =>
    intro c hc
    refine Heap.get?_none_of_le ?_
    rw [Heap.size_push,List.mem_cons,List.mem_singleton] at hc
    rcases hc with rfl|rfl
    ·exact Nat.le_refl _
    ·exact Nat.le_succ _
   case hu=>simp only [Around.in1_units];omega
   case hQ=>exact fun c o its n e _=>Heap.get?_push_of_some _ (Heap.get?_push_of_some _ e)
   case hS=>exact ⟨_,#[],0,_,Heap.get?_push_of_some _ g1,⟨rfl,rfl,rfl⟩,rfl,uP _ _ _,⟨List.nodup_nil,rfl,(fun e he=>by simp at he),(fun k hk=>by cases hk)⟩,hbl,(by show 0*5<7*3;decide)⟩
   case hR =>
    intro s' hm hS'
    obtain ⟨h',g',d',tk',os'⟩:=s'
    obtain rfl:g'=s.gens:=hm.gens
    obtain rfl:d'=s.drawn:=hm.drawn
    obtain rfl:os'=s.os:=hm.os
    refine wpAny_pure (show wpAny _ _ (ret Value.none) _ _ _ from wpAny_pure ⟨rfl,h',tk',rfl,hS',fun b o e=>?_⟩)
    have lb:=Heap.lt_size e
    refine hm.heap b o ?_ (Heap.get?_push_of_some _ (Heap.get?_push_of_some _ e))
    rw [List.mem_cons,List.mem_singleton,not_or,Heap.size_push]
    exact ⟨Nat.ne_of_lt lb,Nat.ne_of_lt (Nat.lt_succ_of_lt lb)⟩
  ·match r₂,hr₂ with
   |.error e,hr₂=>exact hr₂
   |.ok (.ret x),hr₂ =>
    obtain ⟨rfl,h',tk,rfl,hS',kp⟩:=hr₂
    repeat (any_goals (first|assumption|wp_step))
    exact q _ _ hS' kp
end
theorem eP {α:Type}:∀(l:List α) (n:Nat) (h:n<l.length),(l[n]::l.eraseIdx n).Perm l
 |[],_,h=>absurd h (Nat.not_lt_zero _)
 |a::l,0,_=>List.Perm.refl _
 |a::l,n+1,h=>by
  have h':n<l.length:=Nat.lt_of_succ_lt_succ h
  show ((l[n]'h')::a::l.eraseIdx n).Perm (a::l)
  exact (List.Perm.swap _ _ _).trans ((eP l n h').cons a)
theorem wA {α:Type} (next:Nat→Nat) (xs:Array α):(pickOrder next xs).toList.Perm xs.toList:=by
 have key:∀(fuel k:Nat) (left:List α) (out:Array α),left.length=fuel→(pickOrder.go next fuel k left out).toList.Perm (out.toList++left):=by
  intro fuel
  induction fuel with
  |zero =>
   intro k left out h
   have:left=[]:=List.eq_nil_of_length_eq_zero h
   subst this
   unfold pickOrder.go
   simp
  |succ fuel ih =>
   intro k left out h
   have hlt:next k%left.length<left.length:=Nat.mod_lt _ (by omega)
   unfold pickOrder.go
   rw [List.getElem?_eq_getElem hlt]
   dsimp only
   refine (ih (k+1) _ _ (by rw [List.length_eraseIdx,if_pos hlt];omega)).trans ?_
   rw [Array.toList_push,List.append_assoc]
   exact List.Perm.append_left _ (eP _ _ hlt)
 have:=key xs.size 0 xs.toList #[] (by simp)
 unfold pickOrder
 simpa using this
section
variable {prog:Program} {w:World} {A:Around} {s:Shared} {E:Value→Shared→Prop} {a b:Addr} {o o':Obj} {es es':Array (Int×Value)} {ep ep':Nat} {t t':SetTable} {S S':List GK}
theorem xV {src:Source} {n:Nat} {Q:Nat→Shared→Prop} (hn:n≠0) (q:Q (w.draws src (s.drawn.get src)%n) {s with drawn:=s.drawn.bump src}):wpAny (model prog w) A (choose src n) Q E s:=fun Γ p _=>by
 unfold choose
 rw [Sem.wp_choose]
 exact ⟨hn,q⟩
theorem BD (n:Nat):∀(xs:List (Int×Value)) {Q:List (Int×Value)→Shared→Prop} {s:Shared},xs.length=n→(∀l,l.Perm xs→∀d,Q l {s with drawn:=d})→wpAny (model prog w) A (drawOrder n xs) Q E s:=by
 induction n with
 |zero =>
  intro xs Q s h q
  obtain rfl:xs=[]:=List.eq_nil_of_length_eq_zero h
  have:=q [] (List.Perm.refl _) s.drawn
  unfold drawOrder;exact wpAny_pure this
 |succ n ih =>
  intro xs Q s h q
  cases xs with
  |nil=>cases h
  |cons x xs =>
   have hlt:w.draws .order (s.drawn.get .order)%(x::xs).length<(x::xs).length:=Nat.mod_lt _ (by simp)
   unfold drawOrder
   refine wpAny_bind (xV (by simp) ?_)
   generalize hj:w.draws .order (s.drawn.get .order)%(x::xs).length=j at hlt ⊢
   rw [List.getElem?_eq_getElem hlt]
   dsimp only
   refine wpAny_bind (ih _ (by rw [List.length_eraseIdx,if_pos hlt];simp only [List.length_cons] at h ⊢;omega) fun l hl d=>?_)
   exact wpAny_pure (q _ ((hl.cons _).trans (eP _ _ hlt)) d)
theorem BL {Q:Array (Int×Value)→Shared→Prop} (g:SetX w s.heap a o es ep t S) (q:∀l:Array (Int×Value),l.toList.Perm es.toList→∀d,Q l {s with drawn:=d}):wpAny (model prog w) A (setWalk a) Q E s:=by
 unfold setWalk setsByText
 refine wpAny_bind (g.state ?_)
 dsimp only
 refine wpAny_bind (wpAny_bind (wpAny_askSetting (wpAny_pure ?_)))
 cases hb:(model prog w).w.params.followText "set-order" with
 |true =>
  rw [if_pos rfl]
  exact wpAny_bind (wpAny_askSetting (wpAny_pure (q _ (wA _ _) s.drawn)))
 |false =>
  rw [if_neg (by decide)]
  have hl:t.led=true:=by rw [g.ld];show (!(model prog w).w.params.followText "set-order")=true;rw [hb];rfl
  show wpAny _ A (if (!t.plain&&es.size>1)=true then _ else _) _ E s
  by_cases hd:(!t.plain&&es.size>1)=true
  ·rw [if_pos hd]
   exact wpAny_bind (BD es.size es.toList (by rw [Array.length_toList]) fun l hl d=>wpAny_pure (q l.toArray (by rw [List.toList_toArray];exact hl) d))
  rw [if_neg hd]
  show wpAny _ A ((if (!t.led&&es.size>1)=true then _ else _) >>= _) _ E s
  rw [hl,if_neg (by simp)]
  exact wpAny_bind (wpAny_pure (wpAny_pure (q es (List.Perm.refl _) s.drawn)))
theorem dB {Q:Nat→Shared→Prop} (g:SetX w s.heap a o es ep t S) (q:Q S.length s):wpAny (model prog w) A (Builtin.Frozenset.sizeOf a) Q E s:=by
 unfold Builtin.Frozenset.sizeOf
 refine wpAny_bind (wpAny_setEntries_of g.ob g.da (JC g.tb) (wpAny_pure ?_))
 rw [g.en.size]
 exact q
theorem oC {Q:Nat→Shared→Prop} (g:SetX w s.heap a o es ep t S) (q:Q ep s):wpAny (model prog w) A (setEpoch a) Q E s:=wpAny_setEpoch_of g.ob g.da (JC g.tb) q
theorem AH {c:GK} {v:Value} {Q:Bool→Shared→Prop} (hv:(GR s.heap c).1 v) (q:∀b,Q b s):wpAny (model prog w) A (Builtin.Frozenset.quietEq v) Q E s:=by
 have tup:∀{P:List Value→Prop},TupOf s.heap v P→wpAny (model prog w) A (Builtin.Frozenset.quietEq v) Q E s:=fun {P} x=>by
  have hT:=x.typeIs
  obtain ⟨c,oc,its,n,rfl,_⟩:=x
  unfold Builtin.Frozenset.quietEq
  dsimp only
  refine wpAny_bind (wpAny_specialOf hT F.slot_tuple_eq.lookup ?_)
  exact wpAny_pure (q _)
 cases c with
 |i n=>obtain ⟨t,rfl⟩:=hv;unfold Builtin.Frozenset.quietEq;exact wpAny_pure (q _)
 |s z=>obtain ⟨t,rfl⟩:=hv;unfold Builtin.Frozenset.quietEq;exact wpAny_pure (q _)
 |nil=>exact tup ((GR.tup rfl).1 hv)
 |cons x y=>exact tup ((GR.tup rfl).1 hv)
theorem wY {Q:List (Int×Value)→Shared→Prop} (g:SetX w s.heap a o es ep t S) (g':SetX w s.heap b o' es' ep' t' S') (q:∀l:List (Int×Value),l.Perm es.toList→∀d,Q l {s with drawn:=d}):wpAny (model prog w) A (Builtin.Frozenset.walkUnseen a b) Q E s:=by
 unfold Builtin.Frozenset.walkUnseen
 refine wpAny_bind (wpAny_setEntries_of g.ob g.da (JC g.tb) ?_)
 refine wpAny_bind (wpAny_setEntries_of g'.ob g'.da (JC g'.tb) ?_)
 have tup:∀e∈es.toList++es'.toList,∃c,(GR s.heap c).1 e.2:=fun e he=>by
  rcases List.mem_append.mp he with he|he
  ·obtain ⟨k,hk,h1,_⟩:=g.en.is e he
   exact ⟨k,h1⟩
  ·obtain ⟨k,hk,h1,_⟩:=g'.en.is e he
   exact ⟨k,h1⟩
 refine wpAny_bind ?_
 refine wpAny_forIn_list _ (fun left r s1=>s1=s∧r.1=none∧∀e∈left,∃c,(GR s.heap c).1 e.2) _ ?_ ?_ _ _ ⟨rfl,rfl,tup⟩
 ·rintro ⟨hh,y⟩ left r s1 ⟨rfl,hr,hall⟩
  obtain ⟨P,hP⟩:=hall _ List.mem_cons_self
  refine wpAny_bind (AH hP fun b=>?_)
  cases b with
  |true=>rw [if_neg (by decide)];exact wpAny_pure ⟨rfl,rfl,fun e he=>hall e (List.mem_cons_of_mem _ he)⟩
  |false =>
  rw [if_pos (by decide)]
  refine wpAny_bind ?_
  unfold Builtin.Frozenset.walk
  refine wpAny_bind (BL g fun l hl d=>?_)
  exact wpAny_pure (wpAny_pure (wpAny_pure (q _ hl d)))
 ·rintro ⟨r1,r2⟩ s1 ⟨rfl,hr,_⟩
  cases hr
  exact wpAny_pure (q _ (List.Perm.refl _) s1.drawn)
theorem w5 {Q:Bool→Shared→Prop} {nm:String} (g:SetX w s.heap a o es ep t S) (g':SetX w s.heap b o' es' ep' t' S') (hu:A.units+8<cLine) (hle:S.length≤S'.length) (q:∀d,Q (S.all fun k=>decide (k∈S')) {s with drawn:=d}):wpAny (model prog w) A (Builtin.Frozenset.subsetOf nm a b) Q E s:=by
 unfold Builtin.Frozenset.subsetOf
 refine wpAny_bind (dB g (wpAny_bind (dB g' ?_)))
 rw [if_neg (by omega)]
 refine wpAny_bind (oC g ?_)
 refine wpAny_bind (wY g g' fun l hl d=>?_)
 have q:=q d
 refine wpAny_bind ?_
 refine wpAny_forIn_list _ (fun left r s1=>s1={s with drawn:=d}∧r.1=none∧(∀e∈left,e∈es.toList)∧∀k∈S,k∈S'∨∃e∈left,(GR s.heap k).1 e.2) _ ?_ ?_ _ _ ⟨rfl,rfl,fun e he=>hl.mem_iff.mp he,fun k hk=>.inr (let ⟨e,he,h1⟩:=g.en.has k hk;⟨e,hl.mem_iff.mpr he,h1⟩)⟩
 ·rintro ⟨hh,y⟩ left r s1 ⟨rfl,hr,hall,hin⟩
  obtain ⟨k,hk,h1,h2,h3⟩:=g.en.is _ (hall _ List.mem_cons_self)
  dsimp only at h1 h2 ⊢
  subst h2
  refine wpAny_bind (wpAny_holding (CQ (s:={s with drawn:=d}) g' hu h1 h3 fun r hr=>?_))
  by_cases c:k∈S'
  ·rw [decide_eq_true c] at hr
   rw [if_neg (by cases r<;>simp_all)]
   unfold Builtin.Frozenset.unchanged
   refine wpAny_bind (wpAny_bind (oC (s:={s with drawn:=d}) g ?_))
   rw [if_neg (by simp)]
   refine wpAny_pure (wpAny_pure ⟨rfl,rfl,fun e he=>hall e (List.mem_cons_of_mem _ he),fun k' hk'=>?_⟩)
   rcases hin k' hk' with h|⟨e,he,h4⟩
   ·exact .inl h
   ·rcases List.mem_cons.mp he with rfl|he
    ·exact .inl ((GR.inj k k').1 y h1 h4▸c)
    ·exact .inr ⟨e,he,h4⟩
  ·rw [decide_eq_false c] at hr
   rw [if_pos (by cases r<;>simp_all)]
   refine wpAny_pure (wpAny_pure ?_)
   have:(S.all fun k=>decide (k∈S'))=false:=by
    rw [Bool.eq_false_iff]
    intro z
    exact c (of_decide_eq_true (List.all_eq_true.mp z k hk))
   rw [← this]
   exact q
 ·rintro ⟨r1,r2⟩ s1 ⟨rfl,hr,_,hin⟩
  cases hr
  refine wpAny_pure ?_
  have:(S.all fun k=>decide (k∈S'))=true:=List.all_eq_true.mpr fun k hk=>decide_eq_true ((hin k hk).elim id fun ⟨e,he,_⟩=>by cases he)
  rw [← this]
  exact q
end
theorem tK:entryFor table "set.__eq__"=some Builtin.«frozenset.__eq__» :=
 entryFor_alias (id':="frozenset.__eq__") (by kernel_rfl) rfl (by decide +kernel) (by kernel_rfl)
theorem sV:isSubtype (.type "set") (.type "frozenset")=pure false:=by rw [isSubtype_type];kernel_rfl
section
variable {prog:Program} {w:World} {A:Around} {s:Shared} {E:Value→Shared→Prop} {a b:Addr} {o o':Obj} {es es':Array (Int×Value)} {ep ep':Nat} {t t':SetTable} {S S':List GK}
theorem SetX.typeIs (g:SetX w s.heap a o es ep t S):s.TypeIs (.ref a) "set":=⟨o,g.ob,g.ex.1⟩
def zB (S S':List GK):Bool:=decide (S.length=S'.length)&&S.all fun k=>decide (k∈S')
theorem BX {Q:Value→Shared→Prop} (g:SetX w s.heap a o es ep t S) (g':SetX w s.heap b o' es' ep' t' S') (hu:A.units+20<cLine) (q:∀d,Q (.bool (zB S S')) {s with drawn:=d}):wpAny (model prog w) A (richCompare .Eq (.ref a) (.ref b)) Q E s:=by
  refine wpAny_richCompare_same_room g.typeIs g'.typeIs F.slot_set_eq (wpAny_call_entry F.slot_set_eq g.typeIs tK ?_ (F.args_set_eq_2 _ _)) (by omega)
  show wpAny _ _ (Builtin.Frozenset.slot1 "__eq__" ⟨[.ref a,.ref b],[]⟩ >>= _) _ _ s
  refine wpAny_bind ?_
  unfold Builtin.Frozenset.slot1 slotArgs
  simp only [List.isEmpty_nil,Bool.not_true,Bool.false_eq_true,↓reduceIte,bind_assoc,List.length_nil,bne_self_eq_false,List.length_singleton,List.length_cons]
  refine wpAny_bind (wpAny_pure (wpAny_pure ?_))
  dsimp only
  unfold Builtin.Frozenset.isAnySet
  refine wpAny_bind (wpAny_bind (wpAny_isInstance g'.typeIs sub_set_self ?_))
  refine wpAny_pure ?_
  rw [if_neg (by decide)]
  unfold Builtin.Frozenset.addrOf
  refine wpAny_bind (wpAny_pure (wpAny_bind (wpAny_pure ?_)))
  refine wpAny_bind (dB g (wpAny_bind (dB g' ?_)))
  by_cases hl:S.length=S'.length
  · rw [if_neg (by simp [hl])]
    refine wpAny_bind (wpAny_bind (wpAny_bind (wpAny_isInstance g.typeIs sV ?_)))
    refine wpAny_pure ?_
    rw [if_neg (by decide)]
    refine w5 g g' (by simp only [Around.in1_units];omega) (Nat.le_of_eq hl) fun d=>?_
    have:zB S S'=(S.all fun k=>decide (k∈S')):=by unfold zB;rw [decide_eq_true hl,Bool.true_and]
    rw [← this]
    exact wpAny_pure ⟨_,rfl,(fun z=>by cases z),q d⟩
  · rw [if_pos (by simp [hl])]
    refine wpAny_bind (wpAny_pure ?_)
    have:zB S S'=false:=by unfold zB;rw [decide_eq_false hl];rfl
    rw [this] at q
    exact wpAny_pure ⟨_,rfl,(fun z=>by cases z),q s.drawn⟩
end
section
variable {X:Cx} {pins:List (Addr×Obj)} {σ:St} {H:Hp} {s:Shared}
theorem Inv.drawn (I:Inv X pins σ H s) (d:Drawn):Inv X pins σ H {s with drawn:=d}:=⟨I.ok,I.os,⟨I.bare.b,I.bare.t⟩,I.base,I.loc,I.cell,I.free,I.freeC,I.pin,I.hok,I.len⟩
theorem wX {i:Nat} {x:Str} {pos:Pos} {v:V} {Q:Value→Shared→Prop} {E:Value→Shared→Prop} (hN:X.N[i]?=some x) (hv:zE X.env.scope x) (hd:(x == ("__debug__":Str))=false) (hcd:(x == ("__classdict__":Str))=false) (I:Inv X pins σ H s) (e:σ[i]?=some (some v)) (q:∀u,RelV v u→Q u s) :
  wpAny (model X.prog X.w) X.A (eval (.Name x pos) X.env) Q E s:=by
 obtain ⟨m,hn,hl⟩:=I.loc
 obtain ⟨u,r,l⟩:=hl i x v hN e hv
 rcases l with ⟨hk,hm⟩|⟨hk,c,hc,hcell⟩
 ·exact wpAny_Name (wpAny_loadName_local I.ok.kind hk hn hm (q u r)) hd
 ·rcases hk with hk|hk
  ·exact wpAny_Name (wpAny_loadName_cell I.ok.kind hk hc hcell (q u r)) hd
  ·exact wpAny_Name (wpAny_loadName_free I.ok.kind hk hc hcell (q u r) hcd) hd
def zZ (H:Hp) (xs:List V) (ks:List GK):Prop:=xs.length=ks.length∧xs.length≤70∧(∀k∈ks,gd k≤8)∧∀(j:Nat) (v:V) (k:GK),xs[j]?=some v→ks[j]?=some k→(GV H k).1 v
theorem nA {i:Nat} {x:Str} {p p1 pos:Pos} {l:Addr} {xs:List V} {ks:List GK} {Q:Value→Shared→Prop} (hc:X.calm=true) (hu:X.A.units+60<cLine) (hg:Gl X "set") (hm:X.mg "set"=none) (hN:X.N[i]?=some x) (hv:zE X.env.scope x) (hd:(x == ("__debug__":Str))=false) (hcd:(x == ("__classdict__":Str))=false)
  (I:Inv X pins σ H s) (e:σ[i]?=some (some (.ref l))) (hq:SqL X.K H l xs) (hk:zZ H xs ks) (q:∀(h':Heap) (tk:Nat),SetIn X.w s.heap h' s.heap.objs.size (jX ks)→(∀b o,s.heap.get? b=some o→h'.get? b=some o)→0<tk→Q (.ref s.heap.objs.size) {s with heap:=h',toks:=tk}) :
  wpAny (model X.prog X.w) X.A (eval (.Call (.Name "set" p) [.Name x p1] [] pos) X.env) Q X.xe s:=by
 have hs:starEach [.Name x p1] X.env=[(false,eval (.Name x p1) X.env)]:=rfl
 refine y0 ?_
 refine Call_ (JI I hg hm boot_set (PyProof.Rows.callWith_type1 ?_ hs rfl))
 rw [hs]
 show wpAny _ _ (spliced [(false,eval (.Name x p1) X.env)]) _ _ s
 refine Calls.spliced_cons (wX hN hv hd hcd I e fun u r1=>?_)
 refine Calls.spliced_nil ?_
 cases r1
 obtain ⟨its,rv,pl,_⟩:=I.list hq
 have hlen:=rv.length
 refine uG (us:=its.toArray) (ks:=ks) (I.ok.hd hc) pl.isList (by rw [List.size_toArray,← hk.1];exact hlen.symm) (fun i v hv=>?_) hk.2.2.1 (by rw [← hk.1];exact hk.2.1) (by omega) fun h' tk a1 a2 hle=>q h' tk a1 a2 (Nat.lt_of_lt_of_le I.tk hle)
 have hv':its[i]?=some v:=by simpa using hv
 have hi:i<xs.length:=by rw [hlen];exact (List.getElem?_eq_some_iff.mp hv').1
 have hx':xs[i]?=some xs[i]:=List.getElem?_eq_getElem hi
 have hk':ks[i]?=some (ks[i]'(by rw [← hk.1];exact hi)):=List.getElem?_eq_getElem _
 obtain ⟨u,hu,ru⟩:=rv.get (i:=i) hx'
 obtain rfl:u=v:=Option.some.inj (hu.symm.trans hv')
 exact ⟨_,hk',(GV.rel I.hok _).1 _ _ (hk.2.2.2 i _ _ hx' hk') ru⟩
def oO (K:PySem.W.Frag) (i j:Nat):TE:=fun σ H Q=>∃(la lb:Addr) (xs ys:List V) (ks ks':List GK),σ[i]?=some (some (.ref la))∧σ[j]?=some (some (.ref lb))∧SqL K H la xs∧SqL K H lb ys∧zZ H xs ks∧zZ H ys ks'∧Q (.bl (zB (jX ks) (jX ks'))) H
theorem xG {i j:Nat} {x y:Str} {p p1 pos q q1 pos' pos2:Pos} (hc:X.calm=true) (hu:X.A.units+60<cLine) (hg:Gl X "set") (hm:X.mg "set"=none) (hN:X.N[i]?=some x) (hv:zE X.env.scope x) (hN2:X.N[j]?=some y) (hv2:zE X.env.scope y)
  (hd:(x == ("__debug__":Str))=false:=by decide) (hcd:(x == ("__classdict__":Str))=false:=by decide) (hd2:(y == ("__debug__":Str))=false:=by decide) (hcd2:(y == ("__classdict__":Str))=false:=by decide) :
  PE X (.Compare (.Call (.Name "set" p) [.Name x p1] [] pos) [.Eq] [.Call (.Name "set" q) [.Name y q1] [] pos'] pos2) (oO X.K i j):=by
 intro pins s σ H Q I h
 obtain ⟨la,lb,xs,ys,ks,ks',e1,e2,h1,h2,k1,k2,hq⟩:=h
 refine wpAny_Compare1 ?_ (jW _)
 refine nA hc hu hg hm hN hv hd hcd I e1 h1 k1 fun ha tk hS kp htk=>?_
 have I1:Inv X pins σ H {s with heap:=ha,toks:=tk}:=I.kept (t':=tk) (ht:=htk) kp
 refine nA (s:={s with heap:=ha,toks:=tk}) hc hu hg hm hN2 hv2 hd2 hcd2 I1 e2 h2 k2 fun hb tk2 hS2 kp2 htk2=>?_
 have I2:Inv X pins σ H {s with heap:=hb,toks:=tk2}:=I1.kept (t':=tk2) (ht:=htk2) kp2
 obtain ⟨o,es,ep,t,a1,a2,a3,a4,a5,a7,a9⟩:=hS
 have g1:SetX X.w hb s.heap.objs.size o es ep t (jX ks):=⟨kp2 _ _ a1,a2,a3,a4,a5.keep fun b o its n e _=>kp2 _ _ (kp _ _ e),a7⟩
 obtain ⟨o',es',ep',t',g2,_,_⟩:=hS2.g fun b o its n e _=>kp2 _ _ e
 exact BX (s:={s with heap:=hb,toks:=tk2}) g1 g2 (by omega) fun d=>⟨.bl _,H,I2.drawn d,rfl,hq⟩
end
theorem pJ {A:PySem.Around} {k:Nat} (hr:Room k A):A.units+60<PySem.cLine:=by have:=hr.units;omega
end L2
namespace L2
open PySem PySem.Spec PyProof.Rows
section
variable {X:Cx}
def EI (K:PySem.W.Frag):R2:=fun x y H Q=>∃(a b:Addr) (xs:List V),x=.ref a∧y=.ref b∧SqL K H a xs∧SqL K H b []∧Q (.bl (!xs.isEmpty)) H
theorem CA (hu:X.A.units<cLine):OpR X (compareOp .NotEq) (EI X.K):=by
 intro pins s σ H x y v u Q I rx ry h
 obtain ⟨a,b,xs,rfl,rfl,ha,hb,q⟩:=h
 cases rx
 cases ry
 obtain ⟨its,r,pl,hz⟩:=I.list ha
 obtain ⟨its2,r2,pl2,hz2⟩:=I.list hb
 have hl:=r.length
 have hl2:=r2.length
 cases xs with
 |nil =>
  have h:=SeqAt.RcNeAt.lists (A:=X.A) (e:=fun _=>true) pl.isList pl2.isList (by rw [List.size_toArray,List.size_toArray,← hl,← hl2]) hu (fun j h1 h2=>absurd h1 (by rw [List.size_toArray,← hl];exact Nat.not_lt_zero _))
  rw [fN] at h
  exact h X.prog X.w X.xe _ ⟨.bl false,H,I,rfl,q⟩
 |cons z zs=>exact SeqAt.RcNeAt.lists_lengths (A:=X.A) pl.isList pl2.isList (by rw [List.size_toArray,List.size_toArray,← hl,← hl2];rfl) hu X.prog X.w X.xe _ ⟨.bl true,H,I,rfl,q⟩
def dS (H:Hp) (xs:List V) (ks:List GK):Prop:=xs.length=ks.length∧∀(j:Nat) (v:V) (k:GK),xs[j]?=some v→ks[j]?=some k→(GV H k).1 v∧gd k≤8
def DG (K:PySem.W.Frag):R2:=fun x y H Q=>∃(a b:Addr) (xs ys:List V) (ks ks':List GK),x=.ref a∧y=.ref b∧SqL K H a xs∧SqL K H b ys∧dS H xs ks∧dS H ys ks'∧Q (.bl (decide (ks≠ks'))) H
theorem nM (hu:X.A.units+10<cLine):OpR X (compareOp .NotEq) (DG X.K):=by
  intro pins s σ H x y v u Q I rx ry h
  obtain ⟨a,b,xs,ys,ks,ks',rfl,rfl,ha,hb,hk,hk',q⟩:=h
  cases rx
  cases ry
  obtain ⟨its,r,pl,hz⟩:=I.list ha
  obtain ⟨its2,r2,pl2,hz2⟩:=I.list hb
  have hl:=r.length
  have hl2:=r2.length
  by_cases hlen:ks.length=ks'.length
  · have hsz:its.toArray.size=its2.toArray.size:=by rw [List.size_toArray,List.size_toArray,← hl,← hl2,hk.1,hk'.1,hlen]
    have h:=SeqAt.RcNeAt.lists (A:=X.A) (s:=s) (e:=fun j=>decide (ks[j]?=ks'[j]?)) pl.isList pl2.isList hsz (by omega) (fun j h1 h2=>by
      have i1:j<xs.length:=by rw [hl];simpa using h1
      have i2:j<ys.length:=by rw [hl2];simpa using h2
      have k1:ks[j]?=some (ks[j]'(by rw [← hk.1];exact i1)):=List.getElem?_eq_getElem _
      have k2:ks'[j]?=some (ks'[j]'(by rw [← hk'.1];exact i2)):=List.getElem?_eq_getElem _
      have v1:=vQ r h1
      have v2:=vQ r2 h2
      have x1:xs[j]?=some (xs.getD j .non):=by rw [List.getElem?_eq_getElem i1,List.getD_eq_getElem?_getD,List.getElem?_eq_getElem i1];rfl
      have x2:ys[j]?=some (ys.getD j .non):=by rw [List.getElem?_eq_getElem i2,List.getD_eq_getElem?_getD,List.getElem?_eq_getElem i2];rfl
      have g1:=hk.2 j _ _ x1 k1
      have g2:=hk'.2 j _ _ x2 k2
      rw [k1,k2]
      have:=(QA (ks[j]'(by rw [← hk.1];exact i1)) (ks'[j]'(by rw [← hk'.1];exact i2))).1 X.A.in1 _ _ ((GV.rel I.hok _).1 _ _ g1.1 v1) ((GV.rel I.hok _).1 _ _ g2.1 v2) (by simp only [Around.in1_units];omega)
      simpa using this)
    have e:(!(List.range its.toArray.size).all fun j=>decide (ks[j]?=ks'[j]?))=decide (ks≠ks'):=by
      rw [List.size_toArray,← hl,hk.1]
      by_cases c:ks=ks'
      · subst c;simp
      · rw [decide_eq_true c]
        cases hA:(List.range ks.length).all fun j=>decide (ks[j]?=ks'[j]?) with
        |false=>rfl
        |true =>
          refine absurd (List.ext_getElem? fun j=>?_) c
          by_cases hj:j<ks.length
          · exact of_decide_eq_true (List.all_eq_true.mp hA j (List.mem_range.mpr hj))
          · rw [List.getElem?_eq_none (by omega),List.getElem?_eq_none (by omega)]
    rw [e] at h
    exact h X.prog X.w X.xe _ ⟨.bl _,H,I,rfl,q⟩
  · have e:decide (ks≠ks')=true:=decide_eq_true fun z=>hlen (by rw [z])
    rw [e] at q
    exact SeqAt.RcNeAt.lists_lengths (A:=X.A) pl.isList pl2.isList (by rw [List.size_toArray,List.size_toArray,← hl,← hl2,hk.1,hk'.1];simp [hlen]) (by omega) X.prog X.w X.xe _ ⟨.bl true,H,I,rfl,q⟩
theorem FA (i j:Nat) {x y:Str} {p p1 pos q q1 pos' pos2:Pos} (hu:X.A.units+60<cLine) (hm:X.mg "set"=none) (hc:X.calm=true:=by rfl) (hg:Gl X "set":=by rfl) (hN:X.N[i]?=some x:=by rfl) (hv:zE X.env.scope x:=by first|exact Or.inl rfl|exact Or.inr (Or.inl rfl)|exact Or.inr (Or.inr rfl)) (hN2:X.N[j]?=some y:=by rfl) (hv2:zE X.env.scope y:=by first|exact Or.inl rfl|exact Or.inr (Or.inl rfl)|exact Or.inr (Or.inr rfl))
  (hd:(x == ("__debug__":Str))=false:=by decide) (hcd:(x == ("__classdict__":Str))=false:=by decide) (hd2:(y == ("__debug__":Str))=false:=by decide) (hcd2:(y == ("__classdict__":Str))=false:=by decide) :
  PE X (.Compare (.Call (.Name "set" p) [.Name x p1] [] pos) [.Eq] [.Call (.Name "set" q) [.Name y q1] [] pos'] pos2) (oO X.K i j):=xG hc hu hg hm hN hv hN2 hv2 hd hcd hd2 hcd2
end
end L2
namespace L2
open PySem PySem.Spec PyProof.Rows
def ZM (xs:List V) (lo hi st:Option Int):List V:=(sliceRange (sliceBounds lo hi st xs.length).1 (sliceBounds lo hi st xs.length).2.1 (sliceBounds lo hi st xs.length).2.2).filterMap (xs[·]?)
theorem uL {xs:List V} {us:List Value} (r:Vals xs us) (js:List Nat):Vals (js.filterMap (xs[·]?)) (js.filterMap (us[·]?)):=by
 induction js with
 |nil=>exact .nil
 |cons j js ih =>
  cases hx:xs[j]? with
  |some x =>
   obtain ⟨u,hu,ru⟩:=r.get hx
   rw [List.filterMap_cons_some hx,List.filterMap_cons_some hu]
   exact .cons ru ih
  |none =>
   have hu:us[j]?=none:=by rw [List.getElem?_eq_none_iff] at hx ⊢;rw [← r.length];exact hx
   rw [List.filterMap_cons_none hx,List.filterMap_cons_none hu]
   exact ih
section
variable {X:Cx} {e se:Expr} {te:TE} {lo hi:Option Expr} {tl th tk:TO} {pos p2:Pos}
def EH (K:PySem.W.Frag) (x:V) (l u k:Option Int) (H:Hp) (Q:VK):Prop:=∃a xs,x=.ref a∧SqL K H a xs∧k≠some 0∧∀p,H p=none→Q (.ref p) (jC H p (.lst (ZM xs l u k)))
def pQ (K:PySem.W.Frag) (te:TE) (tl th tk:TO):TE:=fun σ H Q=>te σ H fun x H1=>tl σ H1 fun l H2=>th σ H2 fun u H3=>tk σ H3 fun k H4=>EH K x l u k H4 Q
theorem wC (he:PE X e te) (hl:PO X lo tl) (hu:PO X hi th) (hk:PO X (some se) tk):PE X (.Subscript e (.Slice lo hi (some se) p2) pos) (pQ X.K te tl th tk):=by
 intro pins s σ H Q I h
 refine Subscript_ (jM (he pins s σ H _ I h) fun v s1 ⟨x,H1,I1,r1,q1⟩=>?_)
 refine wpAny_Slice (jM (hl pins s1 σ H1 _ I1 q1) fun vl s2 ⟨l,H2,I2,pl,q2⟩=>jM (hu pins s2 σ H2 _ I2 q2) fun vu s3 ⟨u,H3,I3,pu,q3⟩=>jM (hk pins s3 σ H3 _ I3 q3) fun vk s4 ⟨k,H4,I4,pk,q4⟩=>?_)
 obtain ⟨a,xs,rfl,hx,h0,q⟩:=q4
 cases r1
 have I5:Inv X pins σ H4 {s4 with heap:=s4.heap.push {cls:=.type "slice",data:=.fields #[vl,vu,vk]}}:=I4.kept (t':=s4.toks) fun b ob q=>Heap.get?_push_of_some _ q
 obtain ⟨its,r,ht,hz⟩:=I5.list hx
 have hlen:=r.length
 show wpAny (model X.prog X.w) X.A (subscriptTail e (.Slice lo hi (some se) p2) (.ref a) (.ref s4.heap.objs.size)) (EP X pins σ Q) X.xe {s4 with heap:=s4.heap.push {cls:=.type "slice",data:=.fields #[vl,vu,vk]}}
 refine tail_any (ops:=[.ref a,.ref s4.heap.objs.size]) ht.isList.typeIs slot_list_getitem.lookup (wpAny_getItem_list_slice ht.isList (Heap.IsSliceOf.new ..) pl pu pk h0 ?_ (by rw [List.size_toArray];omega)) (by with_unfolding_all rfl)
 have hp:Vals (ZM xs l u k) (slicePick its.toArray l u k).toList:=by
  have e:(slicePick its.toArray l u k).toList=(sliceRange (sliceBounds l u k xs.length).1 (sliceBounds l u k xs.length).2.1 (sliceBounds l u k xs.length).2.2).filterMap (its[·]?):=by simp [slicePick,hlen]
  rw [e]
  exact uL r _
 have hs:=slicePick_size_le its.toArray l u k
 refine ⟨.ref _,_,I5.laid (t':=s4.toks) (o:=.lst (ZM xs l u k)) (fun b ob q=>Heap.get?_push_of_some _ q) (Nat.le_refl _) ?_,rfl,q _ (I5.hok.fresh (Nat.le_refl _))⟩
 refine ⟨?_,_,0,hp,Heap.get?_push_size _ rfl⟩
 rw [hp.length,Array.length_toList]
 rw [show its.toArray.size=its.length from List.size_toArray] at hs
 omega
end
end L2
namespace L2
open PySem PySem.Spec PyProof.Rows
section
variable {X:Cx}
def AE:V→List V→Hp→VK→Prop:=fun x vs H Q=>∃(l:Addr) (xs:List V) (k:Nat) (y:V),x=.ref l∧vs=[.int (k:Int),y]∧H l=some (.lst xs)∧k≤xs.length∧xs.length≤1000∧Q .non (jC H l (.lst (xs.take k++y::xs.drop k)))
theorem eT:bM X "list.insert" AE:=by
 intro pins s σ H x vs v us Q I rx rv h
 obtain ⟨l,xs,k,y,rfl,rfl,hH,h1,h2,q⟩:=h
 cases rx
 obtain ⟨u1,u2,rfl,⟨t,rfl⟩,ru⟩:=pB rv
 obtain ⟨z,its,n,r,hl,e⟩:=I.lstM hH
 have hs:xs.length<sizeLine:=vG h2
 have hf:¬(!Builtin.List.listFitsIndex (k:Int))=true:=by
  have e:Builtin.List.listFitsIndex (k:Int)=true:=by
   show (decide (-(2 ^ 63:Int)≤(k:Int))&&decide ((k:Int)<2 ^ 63))=true
   rw [decide_eq_true (by omega),decide_eq_true (by omega)]
   rfl
  rw [e]
  decide
 have hsz:its.toArray.size≤sizeLine:=by rw [List.size_toArray];omega
 generalize hx:(k:Int)=x at hf ⊢
 refine call_meets F.slot_list_insert ⟨_,e,rfl⟩ F.entry_list_insert (F.args_list_insert_3 _ _ _) (PySem.AutoSeq1.list_insert_list_int_val_1 l its.toArray n x t u2 hf hsz) ⟨e,?_⟩
 refine ⟨.non,_,I.lset (its':=its.take k++u2::its.drop k) hH e ?_ ((Vals.take k r).append (.cons ru (Vals.drop k r))) ?_,rfl,q⟩
 ·show (its.toArray.extract 0 (if x<0 then (x+(its.toArray.size:Int)).toNat else min x.toNat its.toArray.size)).push u2++its.toArray.extract (if x<0 then (x+(its.toArray.size:Int)).toNat else min x.toNat its.toArray.size)=_
  have ek:(if x<0 then (x+(its.toArray.size:Int)).toNat else min x.toNat its.toArray.size)=k:=by
   rw [if_neg (by omega),List.size_toArray]
   omega
  rw [ek]
  exact PySem.W.kl_ins_eq its k u2
 ·rw [List.length_append,List.length_cons,List.length_take,List.length_drop]
  omega
end
end L2
namespace L2
open PySem PySem.Spec PyProof.Rows
def gS (C:Int→Int→Prop) (g:Int→Int→V):R2:=fun x y H Q=>∃i j,v8 x i∧y=.int j∧C i j∧Q (g i j) H
section
variable {X:Cx}
theorem AW {x:V} {i:Int} {v:Value} (h:v8 x i) (r:RelV x v):∃t,v=.int i t:=by
 cases x with
 |int j=>obtain rfl:j=i:=h;obtain ⟨t,rfl⟩:=r;exact ⟨_,rfl⟩
 |raw j=>obtain rfl:j=i:=h;cases r;exact ⟨_,rfl⟩
 |_=>exact h.elim
theorem pU {f:Value→Value→Sem Value} {C:Int→Int→Prop} {g:Int→Int→Int}
  (rule:∀(i j:Int) (t u:Tok) (s:Shared) (Q:Value→Shared→Prop) (E:Value→Shared→Prop),C i j→Q (.int (g i j) s.toks) {s with toks:=s.toks+1}→wpAny (model X.prog X.w) X.A (f (.int i t) (.int j u)) Q E s) :
  OpR X f (gS C fun i j=>.int (g i j)):=by
 intro pins s σ H x y v u Q I rx ry h
 obtain ⟨i,j,hx,rfl,hc,q⟩:=h
 obtain ⟨t,rfl⟩:=AW hx rx
 obtain ⟨t',rfl⟩:=ry
 exact rule i j t t' s _ _ hc ⟨.int (g i j),H,I.tok _,⟨⟨_,I.tk⟩,rfl⟩,q⟩
theorem JE:OpR X (binaryOp .FloorDiv) (gS p0 fun i j=>.int (i / j)):=pU fun i j _ _ _ _ _ hc q=>by
 have h1:(0:Int)<j:=hc.1
 have h2:j<1073741824:=hc.2
 exact floordiv_int (by omega) (by rw [Int.fdiv_eq_ediv_of_nonneg i (by omega)];exact q) (.inl (PyProof.noPylong_small (by omega)))
theorem ZE:OpR X (binaryOp .Mod) (gS (fun _ j=>0<j) fun i j=>.int (i%j)):=pU fun i j _ _ _ _ _ hc q=>by
 have h1:(0:Int)<j:=hc
 exact mod_int' (by omega) (by rw [Int.fmod_eq_emod_of_nonneg i (by omega)];exact q)
theorem eB {X:Cx} (K:PySem.W.Frag) (h:X.K=K:=by rfl):CallR X (.type "list") (fun xs H Q=>∃p ys,xs=[.ref p]∧(SqL K H p ys∨SqT K H p ys)∧∀l,H l=none→Q (.ref l) (jC H l (.lst ys))):=by subst h;exact eH
end
section
variable {X:Cx}
end
theorem nW {xs:List V} {ns:List Int} (h:Paired v8 xs ns) {i:Nat} {x:V} (hx:xs[i]?=some x):∃n,ns[i]?=some n∧v8 x n:=by
 induction h generalizing i with
 |nil=>cases hx
 |cons r t ih =>
  cases i with
  |zero=>cases hx;exact ⟨_,rfl,r⟩
  |succ i=>exact ih hx
theorem nX {xs:List V} {ns:List Int} (h:Paired v8 xs ns) {lo hi:Option Int} {i:Nat} {x:V} (hx:(kP xs lo hi)[i]?=some x):∃n,v8 x n:=by
 unfold kP at hx
 have hm:=List.mem_of_mem_drop (List.mem_of_mem_take (List.mem_of_getElem? hx))
 obtain ⟨j,hj⟩:=List.mem_iff_getElem?.mp hm
 obtain ⟨n,_,e⟩:=nW h hj
 exact ⟨n,e⟩
theorem Z5 (xs:List V) (lo hi:Option Int):(kP xs lo hi).length≤xs.length:=by
 unfold kP
 rw [List.length_take,List.length_drop]
 omega
theorem gC {A:Around} {k:Nat} (hr:Room k A):A.units+15<cLine:=by have:=hr.units;omega
theorem t6 {X:Cx} {e se:Expr} {te:TE} {lo hi:Option Expr} {tl th tk:TO} {pos p2:Pos} (K:PySem.W.Frag) (he:PE X e te) (hl:PO X lo tl) (hu:PO X hi th) (hk:PO X (some se) tk) (h:X.K=K:=by rfl):PE X (.Subscript e (.Slice lo hi (some se) p2) pos) (pQ K te tl th tk):=by subst h;exact wC he hl hu hk
theorem PSs0.nox {X:Cx} {st:List Stmt} {t:TS} (h:PSs0 X.nox st t):PSs0 X st t:=fun pins s σ H D I hw =>
 wpAny_mono (h pins s σ H D (I.wish _) hw) (fun _ _ q=>q.unwish) fun _ _ z=>False.elim z
section
variable {P:Program} {w:World} {K:PySem.W.Frag} {mg:Str→Option Value} {base:Heap}
theorem Fun.okCLn {x qual:Str} {st:Stmt} {f cL:Addr} {fd:FuncData} {N ps:List Str} {k:Nat} {sp:Sp} (F:Fun K x qual st f fd) (hcL:fd.code=.ref cL) (S:FnScope N ps (jF st)) (len:∀vs H Q E,sp vs H Q E→vs.length=ps.length)
  (hbody:∀(A:Around) (outer:List Env) (s:Shared) (H:Hp) (vs:List V) (Q:VK) (E:XK),Room k (A.deeper (envOfC qual (jF st) s.heap.objs.size f (.ref cL)))→sp vs H Q E→
   ∃t,PSs0 (zC kC P w K mg base N qual (jF st) f (.ref cL) A outer s H E).nox (jR st) t∧t {nx:=fun _ H'=>Q .non H',rt:=Q} (qU N vs) H):FnOkL P w K mg base kC (k+1) f fd ps sp :=
 F.okCL hcL S len fun A outer s H vs Q E hr hsp=>let ⟨t,h,q⟩:=hbody A outer s H vs Q E hr hsp;⟨t,h.nox,q⟩
end
end L2
namespace L2
open PySem PySem.Spec PyProof.Rows
theorem xO:typeLookup (.type "dict") "__len__"=pure (some (.builtin "dict.__len__")):=by rw [typeLookup_type,builtinLookup_eq_fast];kernel_rfl
section
variable {prog:Program} {w:World} {A:Around} {s:Shared} {E:Value→Shared→Prop} {d:Addr} {o:Obj} {es:Array DictEntry} {ep:Nat}
theorem x0 (hh:A.handled=none) (I d:Addr) (hne:d≠I) (hdat:o.data=.dict es ep) :
  Walks prog w A I [I,d] [I] es.size (fun i v=>∃e,es[i]?=some e∧v=e.key) (fun i h=>h.IsKeyIter I d i es.size ep∧h.get? d=some o) where
 sub:=fun b hb=>by simp at hb;simp [hb]
 frame:=fun _ _ _ st hk=>⟨st.1.at fun o e=>hk I (by simp) o e,hk d (by simp) _ st.2⟩
 item:=fun i s Q E hi st hQ=>by
  refine o4 st.1 st.2 hdat hi fun h' hit' hs'=>?_
  exact hQ _ h' s.toks ⟨_,Array.getElem?_eq_getElem hi,rfl⟩ ⟨hit',hs'.extBut d _ hne st.2⟩ fun b o hb e=>hs'.extBut b o (fun h=>hb (by simp [h])) e
 done:=fun s Q E st hQ=>iG hh st.1 st.2 hdat (Nat.le_refl _) fun h' he'=>hQ h' s.toks fun b o hb e=>he' b o (fun h=>hb (by simp [h])) e
 self:=fun _ _ _ _ st hQ=>wpAny_pyIter_keyiter st.1 hQ
theorem xR {R:Result→Shared→Prop} (hh:A.handled=none) {S:Addr} (hSd:S≠d) (hn:es.size≤sizeLine) (res:Value) (c₀:Nat) (hsm:(d == sysModules)=false) (ho:s.heap.get? d=some o) (hc:o.ExactDict) (hdat:o.data=.dict es ep)
  (hS:s.heap.get? S=some {cls:=.type "list",data:=.seq #[] c₀})
  (q:∀s' acc' c',Moved [S,s.heap.objs.size] (fun a b=>b=a) s s'→s'.heap.get? S=some {cls:=.type "list",dict:=none,data:=.seq acc' c',slots := #[]}→ItemsOf (fun i v=>∃e,es[i]?=some e∧v=e.key) acc' es.size→R (.ok (.ret res)) s') :
  wpAny (model prog w) A.in1 (Builtin.List.listExtendWith (.ref S) (.ref d) res)
   (fun fin s'=>match fin with|.done f=>R (.ok f) s'|.again c'=>c'.quiet=true∧codeAny (model prog w) A c' R s') (fun e s'=>R (.error e) s') s:=by
 have hT:s.TypeIs (.ref d) "dict":=⟨o,ho,hc.1⟩
 have lS:=Heap.lt_size hS
 have ld:=Heap.lt_size ho
 have h1:Builtin.List.listSameRef (.ref S) (.ref d)=false:=by simp [Builtin.List.listSameRef,hSd]
 unfold Builtin.List.listExtendWith
 refine wpAny_bind (wpAny_typeOf hT ?_)
 rw [if_neg (by rw [h1];decide)]
 refine wpAny_bind (gB hsm ho hc hdat ?_)
 have k1:∀b u,s.heap.get? b=some u→(s.heap.push {cls:=.type "dict_keyiterator",data:=.fields #[.ref d,.int 0 0,.int es.size 0,.int ep 0]}).get? b=some u:=fun b u e=>Heap.get?_push_of_some _ e
 have hT1:Shared.TypeIs {s with heap:=s.heap.push {cls:=.type "dict_keyiterator",data:=.fields #[.ref d,.int 0 0,.int es.size 0,.int ep 0]}} (.ref d) "dict":=⟨o,k1 _ _ ho,hc.1⟩
 refine wpAny_bind (wpAny_holding ?_)
 unfold Builtin.List.listLengthHint
 refine wpAny_bind (wpAny_specialOf hT1 xO ?_)
 (generalize hid:("dict.__len__":String)=id0;(fail_if_success (clear hid id0));wp_delta;rw [show splitId id0=some ("dict","__len__") from by subst hid;decide +kernel];subst hid)
 refine wpAny_bind (wpAny_isInstance (b:=true) hT1 (by rw [isSubtype_type];kernel_rfl) ?_)
 rw [if_neg (by decide)]
 dsimp only
 rw [if_pos (by decide +kernel)]
 refine wpAny_bind (wpAny_typeOf hT1 ?_)
 dsimp only
 refine wpAny_pure ?_
 rw [if_pos (by decide +kernel)]
 refine wpAny_bind (wpAny_rule ?_)
 unfold Builtin.List.listTouch
 refine wpAny_bind (wpAny_bind ?_)
 show wpAny _ _ (updateSeq S (fun x=>x.push Value.none)) _ _ _
 have g1:=k1 _ _ hS
 refine wpAny_updateSeq g1 rfl ?_
 show wpAny _ _ (updateSeq S (fun x=>x.pop)) _ _ _
 have g2:=Heap.get?_update_self (Obj.mapSeq fun x:Array Value=>x.push Value.none) g1 rfl
 refine wpAny_updateSeq g2 rfl ?_
 have g3:=Heap.get?_update_self (Obj.mapSeq fun x:Array Value=>x.pop) g2 rfl
 have k3:∀b u,b≠S→s.heap.get? b=some u→(((s.heap.push {cls:=.type "dict_keyiterator",data:=.fields #[.ref d,.int 0 0,.int es.size 0,.int ep 0]}).update S (Obj.mapSeq fun x:Array Value=>x.push Value.none)).update S (Obj.mapSeq fun x:Array Value=>x.pop)).get? b=some u:=fun b u hb e=>((Heap.SameBut.update _ S _).2 b hb).trans (((Heap.SameBut.update _ S _).2 b hb).trans (k1 b u e))
 have ki:(((s.heap.push {cls:=.type "dict_keyiterator",data:=.fields #[.ref d,.int 0 0,.int es.size 0,.int ep 0]}).update S (Obj.mapSeq fun x:Array Value=>x.push Value.none)).update S (Obj.mapSeq fun x:Array Value=>x.pop)).get? s.heap.objs.size=some {cls:=.type "dict_keyiterator",data:=.fields #[.ref d,.int 0 0,.int es.size 0,.int ep 0]}:=((Heap.SameBut.update _ S _).2 _ (Nat.ne_of_gt lS)).trans (((Heap.SameBut.update _ S _).2 _ (Nat.ne_of_gt lS)).trans (Heap.get?_push_size _ rfl))
 have W:=(x0 (prog:=prog) (w:=w) (A:=A.in1) (by simp [hh]) s.heap.objs.size d (Nat.ne_of_lt ld) hdat).toS
 refine wpAny_pure ⟨plainId_quiet F.plain_extend_loop _,codeAny_extend_loopS W hn S ?hf res es.size 0 _ #[] _ rfl (Nat.zero_le _) ⟨⟨_,ki,rfl,rfl⟩,k3 _ _ (Ne.symm hSd) ho⟩ g3 (ItemsOf.nil _) fun s' acc' c' hm hS' hacc=>q s' acc' c' ?hm hS' hacc⟩
 case hf=>rw [List.mem_cons,List.mem_singleton,not_or];exact ⟨Nat.ne_of_lt lS,hSd⟩
 case hm=>exact ⟨fun b u hb e=>hm.heap b u hb (k3 b u (fun z=>hb (by rw [z];simp)) e),hm.gens,hm.drawn,hm.os,hm.toks⟩
theorem tP {Q:Value→Shared→Prop} (hh:A.handled=none) (hn:es.size≤sizeLine) (hsm:(d == sysModules)=false) (ho:s.heap.get? d=some o) (hc:o.ExactDict) (hdat:o.data=.dict es ep)
  (q:∀s' acc' c',Moved [] (fun a b=>b=a) s s'→s'.heap.get? s.heap.objs.size=some {cls:=.type "list",dict:=none,data:=.seq acc' c',slots := #[]}→ItemsOf (fun i v=>∃e,es[i]?=some e∧v=e.key) acc' es.size→Q (.ref s.heap.objs.size) s') :
  wpAny (model prog w) A (call (.type "list") [.ref d]) Q E s:=by
 have ld:=Heap.lt_size ho
 refine callType_codes (Q₁:=fun obj s₁=>obj=.ref s.heap.objs.size∧s₁={s with heap:=s.heap.push {cls:=.type "list",data:=.seq #[]}}) F.called_list (F.typeCall_list_1 _) F.entry_list_init (code_list_new _ ⟨rfl,rfl⟩) fun obj s₁ e₁=>?_
 obtain ⟨rfl,rfl⟩:=e₁
 have g1:(s.heap.push {cls:=.type "list",data:=.seq #[]}).get? s.heap.objs.size=some {cls:=.type "list",data:=.seq #[]}:=Heap.get?_push_size _ rfl
 have kp0:∀d o,s.heap.get? d=some o→(s.heap.push {cls:=.type "list",data:=.seq #[]}).get? d=some o:=fun d o e=>Heap.get?_push_of_some _ e
 refine ⟨⟨_,g1,rfl⟩,F.args_list_init_2 _ _,?_⟩
 show wpAny _ _ (do let old ← Builtin.List.listItems (.ref s.heap.objs.size);Builtin.List.listUpdate (.ref s.heap.objs.size) (fun _ => #[]);letGo old.toList.reverse;Builtin.List.listExtendWith (.ref s.heap.objs.size) (.ref d) .none) _ _ _
 refine wpAny_bind ?_
 unfold Builtin.List.listItems
 refine wpAny_bind (wpAny_seqItems g1 rfl (wpAny_pure ?_))
 show wpAny _ _ (updateSeq s.heap.objs.size (fun _ => #[]) >>= fun _=>letGo (#[]:Array Value).toList.reverse >>= fun _=>Builtin.List.listExtendWith (.ref s.heap.objs.size) (.ref d) .none) _ _ _
 refine wpAny_bind (wpAny_updateSeq g1 rfl ?_)
 have g2:=Heap.get?_update_self (Obj.mapSeq (fun _=>(#[]:Array Value))) g1 rfl
 have kq:∀d o,d≠s.heap.objs.size→s.heap.get? d=some o→((s.heap.push {cls:=.type "list",data:=.seq #[]}).update s.heap.objs.size (Obj.mapSeq (fun _=>(#[]:Array Value)))).get? d=some o:=fun d o hd e=>(Heap.get?_update_other _ _ (Ne.symm hd)).trans (kp0 d o e)
 refine wpAny_bind (wpAny_letGo ?_)
 refine xR (A:=A.in1) (by simp [hh]) (Nat.ne_of_gt ld) hn .none _ hsm (kq _ _ (Nat.ne_of_lt ld) ho) hc hdat g2 fun s' acc' c' hm hS' hp=>⟨rfl,q s' acc' c' ⟨fun b u hb e=>?_,hm.gens,hm.drawn,hm.os,hm.toks⟩ hS' hp⟩
 have lb:=Heap.lt_size e
 refine hm.heap b u (fun hb=>?_) (kq b u (Nat.ne_of_lt lb) e)
 rw [List.mem_cons,List.mem_singleton] at hb
 rcases hb with h|h
 ·exact absurd h (Nat.ne_of_lt lb)
 ·have hz:((s.heap.push {cls:=.type "list",data:=.seq #[]}).update s.heap.objs.size (Obj.mapSeq (fun _=>(#[]:Array Value)))).objs.size=s.heap.objs.size+1:=by
   rw [(Heap.SameBut.update _ _ _).1,Heap.size_push]
  rw [h] at lb
  exact absurd lb (Nat.not_lt.mpr (by rw [hz];exact Nat.le_succ _))
def BP (w:World) (td:TE):TE:=fun σ H Q=>td σ H fun x H1=>∃(d:Addr) (kvs:List jS),x=.ref d∧H1 d=some (GO w d kvs)∧∀l,H1 l=none→Q (.ref l) (jC H1 l (.lst (kvs.map (·.2.1))))
end
section
variable {X:Cx}
theorem xH {a:Expr} {td:TE} {p pos:Pos} (hc:X.calm=true) (hgl:Gl X "list") (hml:X.mg "list"=none) (ha:PE X a td) (hs:starEach [a] X.env=[(false,eval a X.env)]:=by rfl) :
  PE X (.Call (.Name "list" p) [a] [] pos) (BP X.w td):=by
 intro pins s σ H Q I h
 refine Call_ (JI I hgl hml PyProof.Rows.boot_list (PyProof.Rows.callWith_type1 ?_ hs rfl))
 rw [hs]
 show wpAny _ _ (spliced [(false,eval a X.env)]) _ _ s
 refine Calls.spliced_cons (jM (ha pins s σ H _ I h) fun u s1 ⟨x,H1,I1,r1,q1⟩=>?_)
 refine Calls.spliced_nil ?_
 obtain ⟨d,kvs,rfl,hd,q⟩:=q1
 cases r1
 obtain ⟨⟨hn,hm,xs,rel,o,es,ep,ho,hx,hdd,he⟩,ex,st⟩:=I1.hok d _ hd
 have hz:es.size=kvs.length:=by rw [← Array.length_toList,he,List.length_map];exact (Paired.length rel).symm
 refine tP (I.ok.hd hc) (by rw [hz];exact hn) hm ho hx hdd fun s' acc c hmv hS hit=>?_
 have e8:s'={s1 with heap:=s'.heap,toks:=s'.toks}:=by
  have y1:=hmv.gens
  have y2:=hmv.drawn
  have y3:=hmv.os
  cases s'
  cases s1
  simp only at y1 y2 y3
  subst y1 y2 y3
  rfl
 have kp:∀b u,s1.heap.get? b=some u→s'.heap.get? b=some u:=fun b u e=>hmv.heap b u (fun z=>by cases z) e
 rw [e8]
 refine ⟨.ref _,_,I1.laid (ht:=Nat.lt_of_lt_of_le I1.tk hmv.toks) (o:=.lst (kvs.map (·.2.1))) kp (Nat.le_refl _) ⟨by rw [List.length_map];exact hn,acc.toList,c,?_,hS⟩,rfl,q _ (I1.hok.fresh (Nat.le_refl _))⟩
 have key:∀{ks:List jS} {ys:List j3},Paired RelG ks ys→Vals (ks.map (·.2.1)) (ys.map (·.2.1)):=fun r=>by
  induction r with
  |nil=>exact .nil
  |cons r _ ih=>exact .cons r.2.1 ih
 have ea:acc.toList=xs.map (·.2.1):=by
  refine List.ext_getElem? fun j=>?_
  have hsz:=hit.1
  by_cases hj:j<es.size
  ·have hja:j<acc.size:=by rw [hsz];exact hj
   obtain ⟨e,e1,e2⟩:=hit.2 j _ (Array.getElem?_eq_getElem hja)
   rw [Array.getElem?_toList,Array.getElem?_eq_getElem hja,e2,List.getElem?_map]
   have e3:es.toList[j]?=some e:=by rw [Array.getElem?_toList];exact e1
   rw [he,List.getElem?_map] at e3
   obtain ⟨y,hy,rfl⟩:=Option.map_eq_some_iff.mp e3
   rw [hy]
   rfl
  ·rw [List.getElem?_eq_none (by rw [Array.length_toList,hsz];omega),List.getElem?_eq_none (by rw [List.length_map,← Paired.length rel,← hz];omega)]
 rw [ea]
 exact key rel
theorem sW (bs:List Bool):(List.range bs.length).any (fun i=>bs.getD i true)=bs.any id:=by
 rw [Bool.eq_iff_iff,List.any_eq_true,List.any_eq_true]
 constructor
 ·rintro ⟨i,hi,e⟩
  have hi':i<bs.length:=by simpa using hi
  rw [List.getD_eq_getElem?_getD,List.getElem?_eq_getElem hi'] at e
  exact ⟨_,List.getElem_mem hi',e⟩
 ·rintro ⟨x,hx,e⟩
  obtain ⟨i,hi,e2⟩:=List.mem_iff_getElem.mp hx
  refine ⟨i,by simpa using hi,?_⟩
  rw [List.getD_eq_getElem?_getD,List.getElem?_eq_getElem hi,e2]
  exact e
end
def EF (a b:Addr→Sp):Addr→Sp:=fun f vs H Q E=>a f vs H Q E∨b f vs H Q E
theorem FnV.or {P:Program} {w:World} {K:PySem.W.Frag} {mg:Str→Option Value} {base:Heap} {CX:qV} {k j m:Nat} {a b:Addr→Sp} (h1:k≤m) (h2:j≤m) (F:FnV P w K mg base CX k a) (G:FnV P w K mg base CX j b):FnV P w K mg base CX m (EF a b) :=
 ⟨fun f vs H Q E h=>h.elim (F.fn f vs H Q E) (G.fn f vs H Q E),fun A outer s H f us vs Q E hr he hv h=>h.elim (F.run A outer s H f us vs Q E (hr.mono h1) he hv) (G.run A outer s H f us vs Q E (hr.mono h2) he hv)⟩
end L2
namespace L2
open PySem PySem.Spec PyProof.Rows
theorem lE:entryFor table "dict.update.loop"=some Builtin.«dict.update.loop»:=entryFor_of_tree (by kernel_rfl)
theorem bY:plainId "dict.update.loop"=true:=by decide +kernel
def yM (xs:List j3) (p:j3):List j3:=yE xs p.1 p.2.1 p.2.2
def DictIn (w:World) (h0 h:Heap) (D:Addr) (xs:List j3):Prop:=∃o es ep,h.get? D=some o∧o.ExactDict∧o.data=.dict es ep∧KEnt w h0 es xs
theorem DictIn.g {w:World} {h0 h:Heap} {D:Addr} {xs:List j3} (k:zL h0 h) (x:DictIn w h0 h D xs):DictG w h D xs :=
 let ⟨o,es,ep,h1,h2,h3,h4⟩:=x;⟨o,es,ep,h1,h2,h3,⟨h4.es,fun x hx=>(GR.keep k x.1).1 _ (h4.is x hx),h4.deep,h4.once⟩⟩
theorem x8 {xs:List j3} {k:GK} {key v:Value} {x:j3} (h:x∈yE xs k key v):(∃y∈xs,x.1=y.1∧x.2.1=y.2.1)∨(x.1=k∧x.2.1=key):=by
 unfold yE at h
 split at h
 ·obtain ⟨y,hy,rfl⟩:=List.mem_map.mp h
  refine .inl ⟨y,hy,?_⟩
  split<;>exact ⟨rfl,rfl⟩
 ·rcases List.mem_append.mp h with h|h
  ·exact .inl ⟨x,h,rfl,rfl⟩
  ·cases List.mem_singleton.mp h;exact .inr ⟨rfl,rfl⟩
theorem w8 (xs:List j3) (k:GK) (key v:Value):(yE xs k key v).length≤xs.length+1:=by unfold yE;split<;>simp
theorem eG:∀(ps xs:List j3),(ps.foldl yM xs).length≤xs.length+ps.length
 |[],xs=>Nat.le_refl _
 |p::ps,xs=>by
  rw [List.foldl_cons]
  have h1:=eG ps (yM xs p)
  have h2:(yM xs p).length≤xs.length+1:=w8 _ _ _ _
  rw [List.length_cons]
  omega
section
variable {prog:Program} {w:World} {A:Around} {s:Shared} {E:Value→Shared→Prop}
theorem uE {R:Result→Shared→Prop} {J:Addr} {fp wr:List Addr} {G:Array GenState→Array GenState→Prop} {ps:List j3} {Pv:Nat→Value→Prop} {St:Nat→Shared→Prop} (W:WalksS prog w A.in1 J fp wr G ps.length Pv St) (D:Addr) (nf:D∉fp)
  {h0:Heap} (hw0:∀b∈D::wr,h0.get? b=none) (hv:∀i v,Pv i v→∃p:j3,ps[i]?=some p∧TupOf h0 v (fun l=>l=[p.2.1,p.2.2])∧(GR h0 p.1).1 p.2.1∧gd p.1≤8) (hb:ps.length≤3000) (hu:A.units+20<cLine) :
  ∀(m i:Nat) (s:Shared) (c:Int) (tc:Tok),ps.length - i=m→i≤ps.length→St i s→zL h0 s.heap→DictIn w h0 s.heap D ((ps.take i).foldl yM [])→
   (∀s',Moved (D::wr) G s s'→DictIn w h0 s'.heap D (ps.foldl yM [])→R (.ok (.ret .none)) s')→
   codeAny (model prog w) A (.builtin "dict.update.loop" ⟨[.ref D,.ref J,.int c tc,.none],[]⟩) R s:=by
 have nw:D∉wr:=fun e=>nf (W.sub _ e)
 have sub:∀b∈wr,b∈D::wr:=fun b e=>List.mem_cons_of_mem _ e
 have kq:∀{s s':Shared},Moved wr G s s'→zL h0 s.heap→zL h0 s'.heap:=fun hm k b o its n ho hd=>hm.heap b _ (fun e=>by rw [hw0 b (sub b e)] at ho;cases ho) (k b o its n ho hd)
 have hold:∀{s s':Shared} {S:List j3},Moved wr G s s'→DictIn w h0 s.heap D S→DictIn w h0 s'.heap D S:=fun hm ⟨o,es,ep,ho,rest⟩=>⟨o,es,ep,hm.heap D _ nw ho,rest⟩
 intro m
 induction m with
 |zero =>
  intro i s c tc hm hi hst hq hS q
  obtain rfl:i=ps.length:=by omega
  rw [List.take_length] at hS
  refine codeAny_builtin lE ?_
  rw [Around.under_plainId bY _]
  show wpAny _ _ (pyNext (.ref J) >>= _) _ _ s
  refine wpAny_bind (W.done s _ _ hst fun s' hm=>?_)
  show wpAny _ _ (Builtin.Dict.addKeywords D [] >>= _) _ _ s'
  exact wpAny_bind (wpAny_pure (wpAny_pure (q s' (hm.mono sub) (hold hm hS))))
 |succ m ih =>
  intro i s c tc hm hi hst hq hS q
  have lt:i<ps.length:=by omega
  refine codeAny_builtin lE ?_
  rw [Around.under_plainId bY _]
  show wpAny _ _ (pyNext (.ref J) >>= _) _ _ s
  refine wpAny_bind (W.item i s _ _ lt hst fun v s' hP hst' hm'=>?_)
  obtain ⟨p,hpi,hT0,hk0,h8⟩:=hv i v hP
  have hq':=kq hm' hq
  have hS':=hold hm' hS
  have hTs:=hT0.mono (h':=s'.heap) hq' (fun l e=>e)
  have hTy:=hTs.typeIs
  obtain ⟨a,o,its,n,rfl,ho,hc,hd,hl⟩:=hTs
  have hks:=(GR.keep hq' p.1).1 _ hk0
  have hlen:((ps.take i).foldl yM []).length≤i:=by
   have:=eG (ps.take i) []
   rw [List.length_nil,List.length_take] at this
   omega
  have hnext:(ps.take (i+1)).foldl yM []=yM ((ps.take i).foldl yM []) p:=by rw [List.take_add_one,hpi,List.foldl_append];rfl
  dsimp only
  refine wpAny_bind (wpAny_holding ?_)
  refine wpAny_bind (wpAny_tryCatch ?_)
  unfold Builtin.Dict.pairItems
  refine wpAny_bind (wpAny_typeOf hTy ?_)
  rw [if_pos (by decide)]
  refine wpAny_bind (wpAny_seqItems ho hd (wpAny_pure ?_))
  show wpAny _ _ (match its.toList with|[k,v]=>_|l=>_) _ _ s'
  rw [hl]
  dsimp only
  refine wpAny_holding ?_
  refine wpAny_with_toks (Nat.le_refl s'.toks) (fQ (by simp only [Around.in1_units];omega) hks h8 (hS'.g hq') (by rw [sizeLine_eq];omega) fun tk h' hD hsb htk=>?_)
  have hSn:DictIn w h0 h' D ((ps.take (i+1)).foldl yM []):=by
   rw [hnext]
   obtain ⟨o2,es2,ep2,b1,b2,b3,b4⟩:=hD
   obtain ⟨o3,es3,ep3,c1,c2,c3,c4⟩:=hS'
   refine ⟨o2,es2,ep2,b1,b2,b3,⟨b4.es,fun x hx=>?_,b4.deep,b4.once⟩⟩
   rcases x8 hx with ⟨y,hy,e1,e2⟩|⟨e1,e2⟩
   ·rw [e1,e2];exact c4.is y hy
   ·rw [e1,e2];exact hk0
  have hq2:zL h0 h':=fun c ob its n hc hd=>by
   have hne:c≠D:=fun z=>by rw [z,hw0 D List.mem_cons_self] at hc;cases hc
   rw [hsb.2 c hne]
   exact hq' c ob its n hc hd
  refine wpAny_pure ⟨plainId_quiet bY _,ih (i+1) _ _ _ (by omega) lt (W.frame _ s' _ _ hst' htk fun b hb o e=>?_) hq2 hSn fun s2 hm2 hS2=>?_⟩
  ·rw [hsb.2 b (fun x:b=D=>nf (by rw [← x];exact hb))];exact e
  ·refine q s2 (Moved.trans W.gtrans ((hm'.mono sub).then_heap htk fun b o hb e=>?_) hm2) hS2
   rw [hsb.2 b (fun x:b=D=>hb (by rw [x];exact List.mem_cons_self))];exact e
end
end L2
namespace L2
open PySem PySem.Spec PyProof.Rows
theorem sZ:typeLookup (.type "list") "keys"=pure none:=am_miss_of_fast (by kernel_rfl)
theorem sY {prog:Program} {w:World} {A:Around} {E:Value→Shared→Prop} {s:Shared} {a:Addr} {xs:Array Value} {Q:Option Value→Shared→Prop}
  (hx:PlainL s.heap a xs) (hA:A.handled=none)
  (h:∀h' tk,(∀b ob,s.heap.get? b=some ob→h'.get? b=some ob)→Q none {s with heap:=h',toks:=tk}) :
  wpAny (model prog w) A (getAttr? (.ref a) "keys") Q E s:=by
 obtain ⟨o,k,hx,hc,hd,hdat⟩:=hx
 obtain ⟨c,dct,dat,sl⟩:=o
 simp only at hc hdat hd
 subst hc hdat hd
 obtain ⟨hp,g,d,tk,os⟩:=s
 have hT:∀tk',(⟨hp,g,d,tk',os⟩:Shared).TypeIs (.ref a) "list":=fun _=>⟨_,hx,rfl⟩
 have f1:=sub_AttributeError
 have f3:=F.slot_list_getattribute.lookup
 have f4:=F.slot_list_getattribute.bind (.ref a)
 have f5:=am_list_getattr_none
 unfold getAttr? getAttrBy? getAttrBy
 repeat (any_goals (first|assumption|exact hT _|((with_reducible show wpAny _ _ (call (Value.builtin "list.__getattribute__") _ _) _ _ _);refine call_meets F.slot_list_getattribute (hT _) am_entry_list_getattribute (F.args_list_getattribute_2 _ _) (meets_getattribute_miss_list a xs k sl "keys" _ sZ (by decide +kernel)) ⟨hx,hA,fun h' tk' e hx'=>?_⟩)|wp_step))
 obtain ⟨t',u',he⟩:=hx'.there
 show wpAny _ _ (getattributeRaised _ _ _ _ _ _ _) _ _ _
 unfold getattributeRaised
 repeat (any_goals (first|assumption|wp_step))
 exact h _ _ hx'.keeps
section
variable {prog:Program} {w:World} {A:Around} {s:Shared} {E:Value→Shared→Prop}
theorem tQ {Q:Value→Shared→Prop} {l:Addr} {us:Array Value} {ps:List j3} (hh:A.handled=none) (hl:PlainL s.heap l us) (hn:us.size=ps.length) (hv:∀(i:Nat) (v:Value),us[i]?=some v→∃p:j3,ps[i]?=some p∧TupOf s.heap v (fun l=>l=[p.2.1,p.2.2])∧(GR s.heap p.1).1 p.2.1∧gd p.1≤8) (hb:ps.length≤3000) (hu:A.units+40<cLine)
  (q:∀(h':Heap) (tk:Nat),DictIn w s.heap h' s.heap.objs.size (ps.foldl yM [])→(∀b o,s.heap.get? b=some o→h'.get? b=some o)→Q (.ref s.heap.objs.size) {s with heap:=h',toks:=tk}) :
  wpAny (model prog w) A (call (.type "dict") [.ref l]) Q E s:=by
 refine callType_codes (Q₁:=fun obj s₁=>obj=.ref s.heap.objs.size∧s₁={s with heap:=s.heap.push {cls:=.type "dict",data:=.dict #[]}}) F.kt_called_dict (F.kt_typeCall_dict_1 _) F.entry_dict_init (kt_code_dict_new _ ⟨rfl,rfl⟩) ?_
 rintro obj s₁ ⟨rfl,rfl⟩
 have g1:(s.heap.push {cls:=.type "dict",data:=.dict #[]}).get? s.heap.objs.size=some {cls:=.type "dict",data:=.dict #[]}:=Heap.get?_push_size _ rfl
 have ty:Shared.TypeIs {s with heap:=s.heap.push {cls:=.type "dict",data:=.dict #[]}} (.ref s.heap.objs.size) "dict":=⟨_,g1,rfl⟩
 have l0:=hl
 obtain ⟨ol,nl,eo,ec,edd,ed⟩:=id hl
 have ll:l<s.heap.objs.size:=Heap.lt_size eo
 have l1:PlainL (s.heap.push {cls:=.type "dict",data:=.dict #[]}) l us:=⟨ol,nl,Heap.get?_push_of_some _ eo,ec,edd,ed⟩
 have tl:Shared.TypeIs {s with heap:=s.heap.push {cls:=.type "dict",data:=.dict #[]}} (.ref l) "list":=⟨ol,Heap.get?_push_of_some _ eo,ec⟩
 refine ⟨ty,F.args_dict_init_2 _ _,?_⟩
 unfold Builtin.«dict.__init__»
 refine wpAny_bind ?_
 unfold Builtin.Dict.selfAndRest
 refine wpAny_bind (wpAny_notOrdered_dict ty ?_)
 show wpAny _ _ (pure (s.heap.objs.size,[Value.ref l])) _ _ _
 refine wpAny_pure ?_
 show wpAny _ _ (Builtin.Dict.updateFrom "dict.__init__" s.heap.objs.size (.ref l) [] .none) _ _ _
 unfold Builtin.Dict.updateFrom
 refine wpAny_bind (wpAny_typeOf tl ?_)
 rw [if_pos (by decide)]
 refine wpAny_bind (sY l1 (by simp [hh]) fun h1 t1 k1=>?_)
 rw [if_pos (by decide)]
 have l2:PlainL h1 l us:=⟨ol,nl,k1 _ _ (Heap.get?_push_of_some _ eo),ec,edd,ed⟩
 have g2:=k1 _ _ g1
 have lD:s.heap.objs.size<h1.objs.size:=Heap.lt_size g2
 refine wpAny_bind (wpAny_rule ?_)
 refine wpAny_bind ?_
 refine wpAny_pyIter_list l2.isList ?_
 have hnI:l≠h1.objs.size:=fun z=>Nat.lt_irrefl _ (Nat.lt_trans lD (z▸ll))
 have nf:s.heap.objs.size∉[h1.objs.size,l]:=by
  rw [List.mem_cons,List.mem_singleton,not_or];exact ⟨Nat.ne_of_lt lD,Nat.ne_of_gt ll⟩
 refine wpAny_pure ⟨plainId_quiet bY _,?_⟩
 refine uE (A:=A.in1) (ps:=ps) (h0:=s.heap) (hn▸(Walks.list (by simp [hh]) _ l hnI us).toS) s.heap.objs.size nf ?hw (fun i v e=>hv i v e) hb ?hu _ 0 _ _ _ rfl (Nat.zero_le _) ⟨⟨_,Heap.get?_push_size _ rfl,rfl,rfl⟩,l2.isList.push _⟩ ?hQ ?hS ?hR
 case hw =>
  intro c hc
  refine Heap.get?_none_of_le ?_
  rw [List.mem_cons,List.mem_singleton] at hc
  rcases hc with rfl|rfl
  ·exact Nat.le_refl _
  ·exact Nat.le_of_lt lD
 case hu=>simp only [Around.in1_units];omega
 case hQ=>exact fun c o its n e _=>Heap.get?_push_of_some _ (k1 _ _ (Heap.get?_push_of_some _ e))
 case hS=>exact ⟨_,#[],0,Heap.get?_push_of_some _ g2,⟨rfl,rfl,rfl⟩,rfl,⟨rfl,(fun x hx=>by cases hx),(fun x hx=>by cases hx),List.nodup_nil⟩⟩
 case hR =>
  intro s' hm hS'
  obtain ⟨h',g',d',tk',os'⟩:=s'
  obtain rfl:g'=s.gens:=hm.gens
  obtain rfl:d'=s.drawn:=hm.drawn
  obtain rfl:os'=s.os:=hm.os
  refine ⟨rfl,q h' tk' hS' fun b o e=>?_⟩
  have lb:=Heap.lt_size e
  refine hm.heap b o ?_ (Heap.get?_push_of_some _ (k1 _ _ (Heap.get?_push_of_some _ e)))
  rw [List.mem_cons,List.mem_singleton,not_or]
  exact ⟨Nat.ne_of_lt lb,Nat.ne_of_lt (Nat.lt_trans lb lD)⟩
end
theorem keys_setW (kvs:List jS) (k:GK) (y v:V):(qJ kvs k y v).map (·.1)=qC (kvs.map (·.1)) k:=by
 unfold qJ qC
 by_cases h:k∈kvs.map (·.1)
 ·obtain ⟨p,hp,e⟩:=List.mem_map.mp h
  rw [if_pos h,if_pos (List.any_eq_true.mpr ⟨p,hp,decide_eq_true e⟩),List.map_map]
  refine List.map_congr_left fun x _=>?_
  show (if x.1=k then (x.1,x.2.1,v) else x).1=x.1
  split<;>rfl
 ·rw [if_neg h,if_neg (fun z=>by obtain ⟨p,hp,e⟩:=List.any_eq_true.mp z;exact h (List.mem_map.mpr ⟨p,hp,of_decide_eq_true e⟩)),List.map_append]
  rfl
def PairsK (H:Hp) (xs:List V) (ks:List GK):Prop:=xs.length=ks.length∧∀(j:Nat) (v:V),xs[j]?=some v→∃(t:Addr) (y b:V) (k:GK),v=.ref t∧ks[j]?=some k∧H t=some (.tup [y,b])∧(GV H k).1 y∧gd k≤8
def QD (xs:List jS) (p:jS):List jS:=qJ xs p.1 p.2.1 p.2.2
theorem mF {P:Program} {w:World} {H:Hp} {h:Heap} (hok:HOk P w H h):∀(xs:List V) (its:List Value) (ks:List GK),Vals xs its→PairsK H xs ks→∃(ps:List jS) (qs:List j3),ps.map (·.1)=ks∧Paired RelG ps qs∧(∀p∈ps,(GV H p.1).1 p.2.1∧gd p.1≤8)∧qs.length=its.length∧∀(i:Nat) (v:Value),its[i]?=some v→∃p:j3,qs[i]?=some p∧TupOf h v (fun l=>l=[p.2.1,p.2.2])∧(GR h p.1).1 p.2.1∧gd p.1≤8
 |_,_,[],.nil,_=>⟨[],[],rfl,.nil,(fun p hp=>by cases hp),rfl,fun i v e=>by cases e⟩
 |_,_,_::_,.nil,hp=>by have:=hp.1;cases this
 |_,_,[],.cons _ _,hp=>by have:=hp.1;cases this
 |x::xs,u::us,k::ks,.cons r rs,hp=>by
  obtain ⟨ps,qs,a1,a2,a3,a4,a5⟩:=mF hok xs us ks rs ⟨by have:=hp.1;simpa using this,fun j v e=>hp.2 (j+1) v e⟩
  obtain ⟨t,y,b,k',rfl,hk,ht,hy,h8⟩:=hp.2 0 x rfl
  cases hk
  cases r
  obtain ⟨_,its,r2,o,ho,hc,n,hd⟩:=hok t _ ht
  cases r2 with
  |@cons _ z _ zs rz rz2 =>
   cases rz2 with
   |@cons _ c _ cs rc rc2 =>
    cases rc2
    refine ⟨(k,y,b)::ps,(k,z,c)::qs,by rw [List.map_cons,a1],.cons ⟨rfl,rz,rc⟩ a2,?_,by rw [List.length_cons,List.length_cons,a4],?_⟩
    ·intro p hp'
     rcases List.mem_cons.mp hp' with rfl|hp'
     ·exact ⟨hy,h8⟩
     ·exact a3 p hp'
    ·intro i v e
     cases i with
     |zero=>cases e;exact ⟨_,rfl,⟨t,o,_,n,rfl,ho,hc,hd,rfl⟩,(GV.rel hok k).1 _ _ hy rz,h8⟩
     |succ i=>exact a5 i v e
theorem lZ:∀{ps kvs:List jS} {qs xs:List j3},Paired RelG ps qs→Paired RelG kvs xs→Paired RelG (ps.foldl QD kvs) (qs.foldl yM xs)
 |_,_,_,_,.nil,r=>r
 |_,kvs,_,xs,.cons (a:=p) (b:=q) ⟨e,ry,rv⟩ t,r=>by
  rw [List.foldl_cons,List.foldl_cons]
  exact lZ t (show Paired RelG (qJ kvs p.1 p.2.1 p.2.2) (yE xs q.1 q.2.1 q.2.2) from by rw [e];exact RelG.set ry rv r)
theorem nG {H:Hp}:∀{ps kvs:List jS},(∀p∈ps,(GV H p.1).1 p.2.1∧gd p.1≤8)→GOk H kvs→GOk H (ps.foldl QD kvs)
 |[],_,_,g=>g
 |p::ps,kvs,h,g=>by
  rw [List.foldl_cons]
  exact nG (fun q hq=>h q (List.mem_cons_of_mem _ hq)) (GOk.set g (h p List.mem_cons_self).1 (h p List.mem_cons_self).2)
theorem iW:∀(ps kvs:List jS),(ps.foldl QD kvs).map (·.1)=(ps.map (·.1)).foldl qC (kvs.map (·.1))
 |[],_=>rfl
 |p::ps,kvs=>by rw [List.foldl_cons,iW ps,List.map_cons,List.foldl_cons];unfold QD;rw [keys_setW]
def BR (K:PySem.W.Frag) (w:World) (td:TE):TE:=fun σ H Q=>td σ H fun x H1=>∃(l:Addr) (xs:List V) (ks:List GK),x=.ref l∧SqL K H1 l xs∧PairsK H1 xs ks∧ks.length≤3000∧∀d kvs,H1 d=none→GOk H1 kvs→kvs.map (·.1)=jX ks→Q (.ref d) (jC H1 d (GO w d kvs))
section
variable {X:Cx}
theorem xI {a:Expr} {td:TE} {p pos:Pos} (hc:X.calm=true) (hu:X.A.units+60<cLine) (hgl:Gl X "dict") (hml:X.mg "dict"=none) (ha:PE X a td) (hs:starEach [a] X.env=[(false,eval a X.env)]:=by rfl) :
  PE X (.Call (.Name "dict" p) [a] [] pos) (BR X.K X.w td):=by
 intro pins s σ H Q I h
 refine Call_ (JI I hgl hml PyProof.Rows.boot_dict (PyProof.Rows.callWith_type1 ?_ hs rfl))
 rw [hs]
 show wpAny _ _ (spliced [(false,eval a X.env)]) _ _ s
 refine Calls.spliced_cons (jM (ha pins s σ H _ I h) fun u s1 ⟨x,H1,I1,r1,q1⟩=>?_)
 refine Calls.spliced_nil ?_
 obtain ⟨l,xs,ks,rfl,hq,hp,h1000,q⟩:=q1
 cases r1
 obtain ⟨its,rv,pl,hz⟩:=I1.list hq
 obtain ⟨ps,qs,a1,a2,a3,a4,a5⟩:=mF I1.hok xs its ks rv hp
 have hlen:ps.length=ks.length:=by rw [← a1,List.length_map]
 have hlq:qs.length=ks.length:=by rw [← hlen];exact (Paired.length a2).symm
 have hsz:=s1.heap.objs.size
 refine y0 (tQ (us:=its.toArray) (ps:=qs) (I.ok.hd hc) pl (by rw [List.size_toArray,a4]) (fun i v e=>a5 i v (by simpa using e)) (by omega) (by omega) fun h' tk hD kp hlt=>?_)
 obtain ⟨o,es,ep,ho,hx,hdd,he⟩:=hD
 have hrel:Paired RelG (ps.foldl QD []) (qs.foldl yM []):=lZ a2 .nil
 have hle:(ps.foldl QD []).length≤sizeLine:=by
  have h1:=eG qs []
  rw [← Paired.length hrel,List.length_nil] at h1
  rw [sizeLine_eq];omega
 refine ⟨.ref s1.heap.objs.size,_,I1.laid (ht:=Nat.lt_of_lt_of_le I1.tk hlt) (a:=s1.heap.objs.size) (o:=GO X.w s1.heap.objs.size (ps.foldl QD [])) (t':=tk) kp (Nat.le_refl _)
  ⟨⟨hle,beq_eq_false_iff_ne.mpr (Ne.symm (Nat.ne_of_lt I1.big)),_,hrel,o,es,ep,ho,hx,hdd,he.es⟩,⟨o,ho⟩,
   fun h1 h2 ⟨b1,b2,xs',b3,o',es',ep',b4,b5⟩ kp'=>⟨b1,b2,xs',b3,o',es',ep',kp' _ b4,b5⟩⟩,rfl,
  q _ _ (I1.hok.fresh (Nat.le_refl _)) (nG a3 GOk.nil) (by rw [iW,a1];rfl)⟩
end
end L2
namespace L2
open PySem PySem.Spec PyProof.Rows
theorem tV {bs:List Bool} {its:List Value} (rv:Vals (bs.map V.bl) its) {i:Nat} {v:Value} (h:its.toArray[i]?=some v):v=Value.bool (bs.getD i true):=by
 have h':its[i]?=some v:=by simpa using h
 have hi:i<its.length:=(List.getElem?_eq_some_iff.mp h').1
 have hn:i<bs.length:=by have:=rv.length;rw [List.length_map] at this;omega
 obtain ⟨u,e,q⟩:=rv.get (x:=V.bl (bs.getD i true)) (i:=i) (by rw [List.getElem?_map,List.getElem?_eq_getElem hn,List.getD_eq_getElem?_getD,List.getElem?_eq_getElem hn];rfl)
 rw [h'] at e
 cases e
 exact q
section
variable {X:Cx}
theorem wU (hc:X.calm=true):CallR X (.builtin "any") (fun xs H Q=>∃(p:Addr) (bs:List Bool),xs=[.ref p]∧SqL X.K H p (bs.map V.bl)∧Q (.bl (bs.any id)) H):=by
 intro pins s σ H xs us Q I r h
 obtain ⟨p,bs,rfl,hq,q⟩:=h
 obtain ⟨u,rfl,rx⟩:=dL r
 cases rx
 obtain ⟨its,rv,pl,hz⟩:=I.list hq
 have hlen:=rv.length
 rw [List.length_map] at hlen
 have hp:p<s.heap.objs.size:=by obtain ⟨o,n,e,_⟩:=pl;exact Heap.lt_size e
 refine y0 (call_any_walk (wpAny_pyIter_list pl.isList ?_))
 refine ⟨s.heap.objs.size,_,_,_,_,_,fun i=>bs.getD i true,rfl,Walks.list (A:=X.A.in1) (I.ok.hd hc) s.heap.objs.size p (Nat.ne_of_lt hp) its.toArray,⟨⟨_,Heap.get?_push_size _ rfl,rfl,rfl⟩,pl.isList.at fun o e=>Heap.get?_push_of_some _ e⟩,fun i v s' Q' E' h hQ=>?_,fun h' tk hk hlt=>?_⟩
 ·rw [tV rv h]
  exact wpAny_truthy_bool hQ
 ·rw [List.size_toArray,← hlen,sW]
  refine ⟨.bl (bs.any id),H,I.kept (t':=tk) (ht:=Nat.lt_of_lt_of_le I.tk hlt) fun b o e=>hk b o (fun hb=>?_) (Heap.get?_push_of_some _ e),rfl,q⟩
  have e':b=s.heap.objs.size:=by simpa using hb
  exact absurd (Heap.lt_size e) (by rw [e'];exact Nat.lt_irrefl _)
end
end L2
namespace L2
open PySem PySem.Spec PyProof.Rows
def AEq (K:PySem.W.Frag) (H:Hp):Nat→V→V→Prop
 |0,x,y=>x=y∧(vY x=true∨∃c,x=.ref c)
 |n+1,x,y=>(x=y∧(vY x=true∨∃c,x=.ref c))∨∃(a b:Addr) (xs ys:List V),x=.ref a∧y=.ref b∧a≠b∧((SqL K H a xs∧SqL K H b ys)∨(SqT K H a xs∧SqT K H b ys))∧xs.length=ys.length∧∀j,j<xs.length→AEq K H n (xs.getD j .non) (ys.getD j .non)
section
variable {X:Cx} {pins:List (Addr×Obj)} {σ:St} {H:Hp} {s:Shared}
theorem pA {A:Around} {x y:V} {u v:Value} (h:x=y∧(vY x=true∨∃c,x=.ref c)) (rx:RelV x u) (ry:RelV y v):SeqAt.EqAt A s u v true:=by
 obtain ⟨rfl,f|⟨c,rfl⟩⟩:=h
 ·have:=dI (A:=A) (s:=s) rx ry f f
  rwa [xS f] at this
 ·cases rx;cases ry;exact SeqAt.EqAt.same _
theorem fA (n:Nat):(List.range n).all (fun _=>true)=true:=by simp
theorem AEq.at (I:Inv X pins σ H s):∀(n:Nat) (A:Around) (x y:V) (u v:Value),AEq X.K H n x y→RelV x u→RelV y v→A.units+n<cLine→SeqAt.EqAt A s u v true
 |0,A,x,y,u,v,h,rx,ry,hu=>pA h rx ry
 |n+1,A,x,y,u,v,h,rx,ry,hu=>by
  rcases h with h|⟨a,b,xs,ys,rfl,rfl,ne,⟨ha,hb⟩|⟨ha,hb⟩,hl,he⟩
  ·exact pA h rx ry
  ·cases rx;cases ry
   obtain ⟨its,r,pl,hz⟩:=I.list ha
   obtain ⟨its2,r2,pl2,hz2⟩:=I.list hb
   have l1:=r.length
   have l2:=r2.length
   have h:=SeqAt.RcAt.lists (A:=A) (e:=fun _=>true) pl.isList pl2.isList (by rw [List.size_toArray,List.size_toArray,← l1,← l2,hl]) (by omega) (fun j h1 h2=>AEq.at I n A.in1 _ _ _ _ (he j (by rw [l1];simpa using h1)) (vQ r h1) (vQ r2 h2) (by simp only [Around.in1_units];omega))
   rw [fA] at h
   exact SeqAt.EqAt.of_refs ne h
  ·cases rx;cases ry
   obtain ⟨its,r,pl,hz⟩:=I.tuple ha
   obtain ⟨its2,r2,pl2,hz2⟩:=I.tuple hb
   have l1:=r.length
   have l2:=r2.length
   have h:=SeqAt.RcAt.tuples (A:=A) (e:=fun _=>true) pl pl2 (by omega) (fun j h1 h2=>AEq.at I n A.in1 _ _ _ _ (he j (by rw [l1];simpa using h1)) (vQ r h1) (vQ r2 h2) (by simp only [Around.in1_units];omega))
   rw [fA,List.size_toArray,List.size_toArray,← l1,← l2,hl,beq_self_eq_true,Bool.and_true] at h
   exact SeqAt.EqAt.of_refs ne h
end
def EQ (K:PySem.W.Frag) (n:Nat):R2:=fun x y H Q=>∃(a b:Addr) (xs ys:List V),x=.ref a∧y=.ref b∧SqL K H a xs∧SqL K H b ys∧xs.length=ys.length∧(∀j,j<xs.length→AEq K H n (xs.getD j .non) (ys.getD j .non))∧Q (.bl true) H
theorem AO {X:Cx} (n:Nat) (hu:X.A.units+12+n<cLine):OpR X (compareOp .Eq) (EQ X.K n):=by
 intro pins s σ H x y v u Q I rx ry h
 obtain ⟨a,b,xs,ys,rfl,rfl,ha,hb,hl,he,q⟩:=h
 cases rx
 cases ry
 obtain ⟨its,r,pl,hz⟩:=I.list ha
 obtain ⟨its2,r2,pl2,hz2⟩:=I.list hb
 have l1:=r.length
 have l2:=r2.length
 have h:=SeqAt.RcAt.lists (A:=X.A) (e:=fun _=>true) pl.isList pl2.isList (by rw [List.size_toArray,List.size_toArray,← l1,← l2,hl]) (by omega) (fun j h1 h2=>AEq.at I n X.A.in1 _ _ _ _ (he j (by rw [l1];simpa using h1)) (vQ r h1) (vQ r2 h2) (by simp only [Around.in1_units];omega))
 rw [fA] at h
 exact h X.prog X.w X.xe _ ⟨.bl true,H,I,rfl,q⟩
end L2
namespace L2
open PySem PySem.Spec PyProof.Rows
section
variable {X:Cx}
def EO (K:PySem.W.Frag):R2:=fun x y H Q=>∃(a b:Addr) (xs:List V),x=.ref a∧y=.ref b∧SqL K H a xs∧SqL K H b []∧Q (.bl xs.isEmpty) H
theorem CC (hu:X.A.units<cLine):OpR X (compareOp .Eq) (EO X.K):=by
 intro pins s σ H x y v u Q I rx ry h
 obtain ⟨a,b,xs,rfl,rfl,ha,hb,q⟩:=h
 cases rx
 cases ry
 obtain ⟨its,r,pl,hz⟩:=I.list ha
 obtain ⟨its2,r2,pl2,hz2⟩:=I.list hb
 have hl:=r.length
 have hl2:=r2.length
 cases xs with
 |nil =>
  have h:=SeqAt.RcAt.lists (A:=X.A) (e:=fun _=>true) pl.isList pl2.isList (by rw [List.size_toArray,List.size_toArray,← hl,← hl2]) hu (fun j h1 h2=>absurd h1 (by rw [List.size_toArray,← hl];exact Nat.not_lt_zero _))
  rw [fN] at h
  exact h X.prog X.w X.xe _ ⟨.bl true,H,I,rfl,q⟩
 |cons z zs=>exact SeqAt.RcAt.lists_lengths (A:=X.A) pl.isList pl2.isList (by rw [List.size_toArray,List.size_toArray,← hl,← hl2];rfl) hu X.prog X.w X.xe _ ⟨.bl false,H,I,rfl,q⟩
end
end L2
namespace L2
open PySem PySem.Spec PyProof.Rows
def EJ (K:PySem.W.Frag) (n:Nat):R2:=fun x y H Q=>∃(a b:Addr) (xs ys:List V),x=.ref a∧y=.ref b∧SqL K H a xs∧SqL K H b ys∧xs.length=ys.length∧(∀j,j<xs.length→AEq K H n (xs.getD j .non) (ys.getD j .non))∧Q (.bl false) H
theorem nN {X:Cx} (n:Nat) (hu:X.A.units+12+n<cLine):OpR X (compareOp .NotEq) (EJ X.K n):=by
  intro pins s σ H x y v u Q I rx ry h
  obtain ⟨a,b,xs,ys,rfl,rfl,ha,hb,hlen,he,q⟩:=h
  cases rx
  cases ry
  obtain ⟨its,r,pl,hz⟩:=I.list ha
  obtain ⟨its2,r2,pl2,hz2⟩:=I.list hb
  have hl:=r.length
  have hl2:=r2.length
  refine SeqAt.RcNeAt.lists (e:=fun _=>true) pl.isList pl2.isList (by rw [List.size_toArray,List.size_toArray,← hl,← hl2,hlen]) (by omega) (fun j h1 h2=>?_) X.prog X.w X.xe _ ⟨.bl _,H,I,rfl,?_⟩
  · exact AEq.at I n X.A.in1 _ _ _ _ (he j (by rw [hl];simpa using h1)) (vQ r h1) (vQ r2 h2) (by simp only [Around.in1_units];omega)
  · have e:(!(List.range its.toArray.size).all fun _=>true)=false:=by simp
    rw [e]
    exact q
end L2
namespace My
open PySem L2
def top (i:Nat):Stmt:=PySem.Challenge.pw_lockhouse_k53_papers_show.main.body.getD i (.Pass ⟨0,0,0,0⟩)
abbrev jY:Stmt:=pI (top 27) 6
abbrev j6:Stmt:=pI (top 27) 7
abbrev J0:Stmt:=top 1
abbrev QX:Stmt:=top 3
abbrev QY:Stmt:=top 4
abbrev JY:Stmt:=top 2
abbrev Q0:Stmt:=top 8
abbrev JZ:Stmt:=top 7
abbrev z5:Stmt:=top 5
abbrev QZ:Stmt:=top 6
abbrev QM:Stmt:=top 10
abbrev QQ:Stmt:=top 11
abbrev QN:Stmt:=top 12
abbrev QP:Stmt:=top 13
abbrev QV:Stmt:=top 14
abbrev QR:Stmt:=top 15
abbrev QL:Stmt:=top 16
abbrev JW:Stmt:=top 17
abbrev z4:Stmt:=top 18
abbrev QT:Stmt:=top 19
abbrev QO:Stmt:=top 20
abbrev JX:Stmt:=top 23
abbrev QW:Stmt:=top 24
abbrev QS:Stmt:=top 25
abbrev zS:Stmt:=top 21
abbrev QU:Stmt:=top 22
abbrev JV:Stmt:=top 26
abbrev v9:Stmt:=top 27
theorem DC {K:W.Frag} {H H':Hp} {a:Addr} {xs:List V} (e:Same H H') (h:SqT K H a xs):SqT K H' a xs:=by
 rcases h with (h|⟨o,h⟩)|h
 ·exact .inl (.inl (e _ _ h))
 ·exact .inl (.inr ⟨o,e _ _ h⟩)
 ·exact .inr h
theorem jP {H:Hp} {p:Addr} (h:H p=none) (o:HO):Same H (jC H p o):=fun b u q=>by rw [jH (yZ q h)];exact q
theorem kT {n:Nat} (h:n≤1000):n≤sizeLine:=Nat.le_of_lt (vG h)
def Ints (K:W.Frag) (H:Hp) (a:Addr) (ws:List Int):Prop:=SqL K H a (ws.map V.int)∨SqT K H a (ws.map V.int)
theorem Ints.same {K:W.Frag} {H H':Hp} {a:Addr} {ws:List Int} (e:Same H H') (h:Ints K H a ws):Ints K H' a ws:=by
 rcases h with h|h
 ·exact .inl (e.seq h)
 ·exact .inr (DC e h)
theorem ZG {n s:Nat} (h:s<n):yQ n (s:Int)=some s:=by
 unfold yQ
 rw [if_pos (by omega),if_pos (by omega)]
 simp
theorem zW {n:Nat} (h:n≤4000):n<sizeLine:=by rw [sizeLine_eq];omega
abbrev jK:=List (GK×List (GK×GK))
def jN (T:jK) (k:GK):Option (List (GK×GK)):=(T.find? fun p=>decide (p.1=k)).map (·.2)
def PairsAt (H:Hp) (xs:List V) (ps:List (GK×GK)):Prop:=xs.length=ps.length∧∀(i:Nat) (x:V),xs[i]?=some x→∃(p:GK×GK) (a:Addr) (b c:V),ps[i]?=some p∧x=.ref a∧H a=some (.tup [b,c])∧(GV H p.1).1 b∧(GV H p.2).1 c∧gd p.1≤8∧gd p.2≤8
theorem jQ {H H':Hp} {k:GK} {v:V} (s:Same H H') (h:(GV H k).1 v):(GV H' k).1 v:=(GV.keep (fun a l e=>s _ _ e) k).1 v h
theorem qL {H H':Hp} {kvs:List jS} (s:Same H H') (h:GOk H kvs):GOk H' kvs:=h.keep fun a l e=>s _ _ e
theorem PairsAt.same {H H':Hp} {xs:List V} {ps:List (GK×GK)} (s:Same H H') (h:PairsAt H xs ps):PairsAt H' xs ps:=⟨h.1,fun i x e=>by
 obtain ⟨p,a,b,c,e1,e2,e3,e4,e5,e6⟩:=h.2 i x e
 exact ⟨p,a,b,c,e1,e2,s _ _ e3,jQ s e4,jQ s e5,e6⟩⟩
structure TabAt (w:World) (H:Hp) (d:Addr) (T:jK) (ls:List Addr):Prop where
 ex:∃kvs,H d=some (GO w d kvs)∧GOk H kvs∧((∀k k' l,jU kvs k=some (.ref l)→jU kvs k'=some (.ref l)→k=k')∧(∀k l,jU kvs k=some (.ref l)→l∈ls)∧kvs.length≤ls.length∧∀k,(jU kvs k).isSome=true→(jN T k).isSome=true)∧∀k ps,jN T k=some ps→∃l xs,jU kvs k=some (.ref l)∧H l=some (.lst xs)∧PairsAt H xs ps
 few:∀k ps,jN T k=some ps→ps.length≤900
 shut:∀k ps p,jN T k=some ps→p∈ps→(jN T p.2).isSome=true
 deep:∀k ps,jN T k=some ps→gd k≤8
theorem TabAt.same {w:World} {H H':Hp} {d:Addr} {T:jK} {ls:List Addr} (s:Same H H') (h:TabAt w H d T ls):TabAt w H' d T ls:=by
 obtain ⟨⟨kvs,e1,e2,ap,e3⟩,e4,e5,e6⟩:=h
 refine ⟨⟨kvs,s _ _ e1,qL s e2,ap,fun k ps hk=>?_⟩,e4,e5,e6⟩
 obtain ⟨l,xs,f1,f2,f3⟩:=e3 k ps hk
 exact ⟨l,xs,f1,s _ _ f2,f3.same s⟩
structure MarkAt (w:World) (H:Hp) (d:Addr) (T:jK) (M:GK→Bool):Prop where
 ex:∃kvs,H d=some (GO w d kvs)∧GOk H kvs∧∀k,(jN T k).isSome=true→jU kvs k=some (.bl (M k))
theorem MarkAt.same {w:World} {H H':Hp} {d:Addr} {T:jK} {M:GK→Bool} (s:Same H H') (h:MarkAt w H d T M):MarkAt w H' d T M:=by
 obtain ⟨kvs,e1,e2,e3⟩:=h.ex
 exact ⟨kvs,s _ _ e1,qL s e2,e3⟩
theorem xU {H H':Hp} {f:Addr} {qual:Str} {params:Arguments} {body:List Stmt} {scope:Scope} {cl:List (Str×Addr)} {fvs:List V} {cdv:Value} {fd:FuncData} (s:Same H H') (C:CloAt H f qual params body scope cl fvs cdv fd):CloAt H' f qual params body scope cl fvs cdv fd:=by
 obtain ⟨⟨fo,name,doc,pm,an,ct,a1,a2⟩,⟨c,oc,vs,t,b1,b2,b3⟩,c1,c2,c3⟩:=C
 refine ⟨⟨fo,name,doc,pm,an,ct,s _ _ a1,a2⟩,⟨c,oc,vs,t,b1,s _ _ b2,b3⟩,c1,c2,fun i x c v h1 h2=>?_⟩
 obtain ⟨o,u,d1,d2⟩:=c3 i x c v h1 h2
 exact ⟨o,u,s _ _ d1,d2⟩
theorem nF {H H':Hp} {a:Addr} {u:HO} (s:Same H H') (h:Rd H a u):Rd H' a u:=by
 rcases h with h|⟨o,h⟩
 ·exact .inl (s _ _ h)
 ·exact .inr ⟨o,s _ _ h⟩
structure TabR (w:World) (H:Hp) (d:Addr) (T:jK) (ls:List Addr):Prop where
 ex:∃kvs,Rd H d (GO w d kvs)∧GOk H kvs∧((∀k k' l,jU kvs k=some (.ref l)→jU kvs k'=some (.ref l)→k=k')∧(∀k l,jU kvs k=some (.ref l)→l∈ls)∧kvs.length≤ls.length∧∀k,(jU kvs k).isSome=true→(jN T k).isSome=true)∧∀k ps,jN T k=some ps→∃l xs,jU kvs k=some (.ref l)∧H l=some (.lst xs)∧PairsAt H xs ps
 few:∀k ps,jN T k=some ps→ps.length≤900
 shut:∀k ps p,jN T k=some ps→p∈ps→(jN T p.2).isSome=true
 deep:∀k ps,jN T k=some ps→gd k≤8
theorem TabR.same {w:World} {H H':Hp} {d:Addr} {T:jK} {ls:List Addr} (s:Same H H') (h:TabR w H d T ls):TabR w H' d T ls:=by
 obtain ⟨⟨kvs,e1,e2,ap,e3⟩,e4,e5,e6⟩:=h
 refine ⟨⟨kvs,nF s e1,qL s e2,ap,fun k ps hk=>?_⟩,e4,e5,e6⟩
 obtain ⟨l,xs,f1,f2,f3⟩:=e3 k ps hk
 exact ⟨l,xs,f1,s _ _ f2,f3.same s⟩
theorem TabAt.rd {w:World} {H:Hp} {d:Addr} {T:jK} {ls:List Addr} (h:TabAt w H d T ls):TabR w H d T ls:=by
 obtain ⟨⟨kvs,e1,e2,ap,e3⟩,e4,e5,e6⟩:=h
 exact ⟨⟨kvs,.of e1,e2,ap,e3⟩,e4,e5,e6⟩
theorem BW {H:Hp} {cs:List Addr} {d:Addr} {u:HO} (hd:d∉cs) (h:Rd H d u):Rd (qP H cs) d u:=by
 rcases h with h|⟨o,h⟩
 ·exact .inl (by rw [qY hd];exact h)
 ·exact .inr ⟨o,by rw [qY hd];exact h⟩
def vH (w:World):List Addr→List V→Sp:=fun cs fvs vs H Q _=>∃(y:V) (d:Addr) (T:jK) (ls:List Addr) (k:GK) (ps:List (GK×GK)),fvs=[.ref d]∧vs=[y]∧d∉cs∧TabR w H d T ls∧(GV H k).1 y∧jN T k=some ps∧
 ∀p xs,H p=some (.lst xs)→PairsAt H xs ps→Q (.ref p) H
def yA (w:World):List Addr→List V→Sp:=fun cs fvs vs H Q _=>∃(y:V) (d:Addr) (T:jK) (M:GK→Bool) (k:GK),fvs=[.ref d]∧vs=[y]∧d∉cs∧MarkAt w H d T M∧(GV H k).1 y∧gd k≤8∧(jN T k).isSome=true∧Q (.bl (M k)) H
def fW (H:Hp) (D:Addr) (caps:St) (R:Nat→List V→Hp→Prop) (i:Nat) (σ:St) (Hi:Hp):Prop:=∃ys c1 c2,σ=c1::c2::caps∧Same H Hi∧Hi D=some (.lst ys)∧ys.length≤i∧R i ys Hi
theorem uF {K:W.Frag} {a D:Addr} {xs:List V} {tc:TT} {te:TE} {caps:St} {H:Hp} {Q:Hp→Prop} (R:Nat→List V→Hp→Prop) (hD:H D=none) (hS:SqL K H a xs) (h0:R 0 [] (jC H D (.lst [])))
  (hp:∀(i:Nat) x,xs[i]?=some x→∃t b c,x=.ref t∧H t=some (.tup [b,c]))
  (hs:∀i t b c ys Hi,xs[i]?=some (.ref t)→H t=some (.tup [b,c])→i<xs.length→ys.length≤i→Same H Hi→Hi D=some (.lst ys)→R i ys Hi→tc (some b::some c::caps) Hi fun z H4=>if z=true then te (some b::some c::caps) H4 fun v H5=>∃zs,H5 D=some (.lst zs)∧zs.length<sizeLine∧fW H D caps R (i+1) (some b::some c::caps) (jC H5 D (.lst (zs++[v])))
   else fW H D caps R (i+1) (some b::some c::caps) H4)
  (hd:∀ys Hf,Same H Hf→Hf D=some (.lst ys)→ys.length≤xs.length→R xs.length ys Hf→Q Hf):QB D (JS K a) (gL K 2 (gE (ZP 0) (gE (ZP 1) pW))) tc te (none::none::caps) H Q:=by
 refine iD (xs:=xs) (fW H D caps R) ⟨[],none,none,rfl,qI hD (Same.refl H),jG,Nat.le_refl _,h0⟩ (fun i σ Hi _ ⟨_,_,_,_,s,_⟩=>s.seq hS) ?_ ?_
 ·rintro i x σ Hi hx ⟨ys,c1,c2,rfl,s,hY,hl,r⟩
  obtain ⟨t,b,c,rfl,et⟩:=hp i x hx
  exact ⟨t,[b,c],rfl,.inl (.inl (s _ _ et)),rfl,_,_,rfl,_,_,rfl,rfl,hs i t b c ys Hi hx et (List.getElem?_eq_some_iff.mp hx).1 hl s hY r⟩
 ·rintro σ Hf ⟨ys,c1,c2,rfl,s,hY,hl,r⟩
  exact hd ys Hf s hY hl r
def behind (T:jK) (k de:GK):List GK:=(((jN T k).getD []).filter fun p=>decide (p.1=de)).map (·.2)
def qM (T:jK):GK→List GK→Option GK
 |k,[]=>some k
 |k,de::r=>match behind T k de with
  |[]=>none
  |k'::_=>qM T k' r
def FD (T:jK) (M:GK→Bool) (k:GK) (r:List GK):Bool:=match qM T k r with
 |none=>false
 |some k'=>M k'
def KeysAt (H:Hp) (xs:List V) (ks:List GK):Prop:=xs.length=ks.length∧∀(i:Nat) x,xs[i]?=some x→∃k,ks[i]?=some k∧(GV H k).1 x∧gd k≤8
theorem KeysAt.same {H H':Hp} {xs:List V} {ks:List GK} (s:Same H H') (h:KeysAt H xs ks):KeysAt H' xs ks:=⟨h.1,fun i x e=>by
 obtain ⟨k,e1,e2,e3⟩:=h.2 i x e
 exact ⟨k,e1,jQ s e2,e3⟩⟩
theorem KeysAt.snoc {H H':Hp} {xs:List V} {ks:List GK} {v:V} {k:GK} (h:KeysAt H xs ks) (hk:∀a l,H a=some (.tup l)→H' a=some (.tup l)) (hv:(GV H k).1 v) (h8:gd k≤8):KeysAt H' (xs++[v]) (ks++[k]):=by
 refine ⟨by rw [List.length_append,List.length_append,h.1];rfl,fun i x e=>?_⟩
 by_cases hi:i<xs.length
 ·rw [List.getElem?_append_left hi] at e
  obtain ⟨k',e1,e2,e3⟩:=h.2 i x e
  exact ⟨k',by rw [List.getElem?_append_left (by rw [← h.1];exact hi)];exact e1,(GV.keep hk k').1 _ e2,e3⟩
 ·rw [List.getElem?_append_right (by omega)] at e
  obtain ⟨h1,h2⟩:=List.getElem?_eq_some_iff.mp e
  have hz:i - xs.length=0:=by rw [List.length_singleton] at h1;omega
  rw [List.getElem?_append_right (by rw [← h.1];omega),← h.1,hz]
  rw [hz] at e
  cases e
  exact ⟨k,rfl,(GV.keep hk k).1 _ hv,h8⟩
theorem fC (T:jK):∀(a b:List GK) (k:GK),qM T k (a++b)=(qM T k a).bind fun k'=>qM T k' b
 |[],b,k=>rfl
 |de::a,b,k=>by
  rw [List.cons_append,qM,qM]
  cases behind T k de with
  |nil=>rfl
  |cons k' r=>exact fC T a b k'
theorem uI {T:jK} {k ki de:GK} {ks:List GK} {i:Nat} (hw:qM T k (ks.take i)=some ki) (hd:ks[i]?=some de) (hb:behind T ki de=[]):qM T k ks=none:=by
 obtain ⟨hlt,he⟩:=List.getElem?_eq_some_iff.mp hd
 have e:ks=ks.take i++de::ks.drop (i+1):=by rw [← he,← List.drop_eq_getElem_cons hlt,List.take_append_drop]
 rw [e,fC,hw]
 show qM T ki (de::_)=none
 rw [qM,hb]
theorem uJ {T:jK} {k ki de k':GK} {ks r:List GK} {i:Nat} (hw:qM T k (ks.take i)=some ki) (hd:ks[i]?=some de) (hb:behind T ki de=k'::r):qM T k (ks.take (i+1))=some k':=by
 rw [List.take_add_one,hd,fC,hw]
 show qM T ki [de]=some k'
 rw [qM,hb]
 rfl
def kM (m v:Nat):GK :=
 if m=0 then .i v
 else if m=1 then .i (((v:Int) - 5)*10 ^ 30+v)
 else if m=2 then .s (yX ⟨#[("abc":Str).cps.getD (v%3) 0]⟩ (1+v / 3))
 else if m=3 then .cons (.i ((v / 5:Nat):Int)) (.cons (.cons (.i ((v%5:Nat):Int)) (.cons (.s "x") .nil)) .nil)
 else if v%3=0 then .i v
 else if v%3=1 then .s ("s"++Str.ofString (toString (v:Int)))
 else .cons (.i v) (.cons (.s "") .nil)
theorem DK:∀v:Nat,v<25→(v:Int).natAbs.log2<1920:=by decide +kernel
theorem DL:∀v:Nat,v<25→("s":Str).length+(Str.ofString (toString (v:Int))).length≤1000:=by decide +kernel
theorem CU {v:Nat} (h:v≤24):CMul ((v:Int) - 5) (10 ^ (30:Int).toNat):=.inl ⟨by omega,by omega⟩
theorem CW (v:Nat):v7 ("abc":Str).cps.toList ((v:Int)%3)=some (("abc":Str).cps.getD (v%3) 0):=by
 have e:((v:Int)%3)=((v%3:Nat):Int):=by omega
 rw [e]
 have h:v%3<3:=Nat.mod_lt _ (by decide)
 generalize v%3=n at h
 match n,h with
 |0,_=>decide +kernel
 |1,_=>decide +kernel
 |2,_=>decide +kernel
def Z6:Sp:=fun vs H Q _=>∃m v:Nat,vs=[.int m,.int v]∧m≤4∧v≤24∧∀y H',Same H H'→(GV H' (kM m v)).1 y→gd (kM m v)≤8→Q y H'
theorem ZW (m v:Nat):gd (kM m v)≤8:=by
 unfold kM
 repeat' split
 all_goals (simp only [gd];omega)
def kindD (m j:Nat):Nat:=if m=4 then j%3 else m%3
def yL (m j:Nat):GK:=if kindD m j=0 then .i j else if kindD m j=1 then .s ("d"++Str.ofString (toString (j:Int))) else .cons (.s "go") (.cons (.i j) .nil)
theorem iK (m j:Nat):gd (yL m j)≤8:=by
 unfold yL
 repeat' split
 all_goals (simp only [gd];omega)
theorem CD:∀v:Nat,v<201→(v:Int).natAbs.log2<1920:=by decide +kernel
theorem CF:∀v:Nat,v<201→("d":Str).length+(Str.ofString (toString (v:Int))).length≤1000:=by decide +kernel
def fY:Sp:=fun vs H Q _=>∃m j:Nat,vs=[.int m,.int j]∧m≤4∧j≤200∧∀y H',Same H H'→(GV H' (yL m j)).1 y→Q y H'
def JK (T:jK) (k:GK) (p:GK×GK):jK:=T.map fun q=>if q.1=k then (q.1,q.2++[p]) else q
theorem Q9 {T:jK} {k k':GK} {p:GK×GK}:jN (JK T k p) k'=(jN T k').map fun ps=>if k'=k then ps++[p] else ps:=by
 unfold jN JK
 induction T with
 |nil=>rfl
 |cons q T ih =>
  rw [List.map_cons]
  by_cases h:q.1=k'
  ·have h':(if q.1=k then (q.1,q.2++[p]) else q).1=k':=by split<;>exact h
   rw [List.find?_cons_of_pos (by simpa using h'),List.find?_cons_of_pos (by simpa using h)]
   subst h
   by_cases hk:q.1=k
   ·simp [hk]
   ·simp [hk]
  ·have h':¬(if q.1=k then (q.1,q.2++[p]) else q).1=k':=by split<;>exact h
   rw [List.find?_cons_of_neg (by simpa using h'),List.find?_cons_of_neg (by simpa using h)]
   exact ih
def pN (ls:List Addr) (H H':Hp):Prop:=(∀a o,a∉ls→H a=some o→H' a=some o)∧∀l xs,H l=some (.lst xs)→∃ys,H' l=some (.lst ys)
theorem z9 {H H':Hp} {xs:List V} {ps:List (GK×GK)} (hk:∀a l,H a=some (.tup l)→H' a=some (.tup l)) (h:PairsAt H xs ps):PairsAt H' xs ps:=⟨h.1,fun i x e=>by
 obtain ⟨p,a,b,c,e1,e2,e3,e4,e5,e6⟩:=h.2 i x e
 exact ⟨p,a,b,c,e1,e2,hk _ _ e3,(GV.keep hk _).1 _ e4,(GV.keep hk _).1 _ e5,e6⟩⟩
theorem eO {H:Hp} {xs:List V} {ps:List (GK×GK)} {p:GK×GK} {t:Addr} {b c:V} (h:PairsAt H xs ps) (ht:H t=some (.tup [b,c])) (h1:(GV H p.1).1 b) (h2:(GV H p.2).1 c) (g1:gd p.1≤8) (g2:gd p.2≤8):PairsAt H (xs++[.ref t]) (ps++[p]):=by
 refine ⟨by rw [List.length_append,List.length_append,h.1];rfl,fun i x e=>?_⟩
 by_cases hi:i<xs.length
 ·rw [List.getElem?_append_left hi] at e
  obtain ⟨q,a,b',c',e1,e2⟩:=h.2 i x e
  exact ⟨q,a,b',c',by rw [List.getElem?_append_left (by rw [← h.1];exact hi)];exact e1,e2⟩
 ·rw [List.getElem?_append_right (by omega)] at e
  have hz:i - xs.length=0:=by have:=(List.getElem?_eq_some_iff.mp e).1;rw [List.length_singleton] at this;omega
  rw [hz] at e
  cases e
  exact ⟨p,t,b,c,by rw [List.getElem?_append_right (by rw [← h.1];omega),← h.1,hz];rfl,rfl,ht,h1,h2,g1,g2⟩
theorem wZ {w:World} {H H':Hp} {d l t:Addr} {T:jK} {kvs:List jS} {k:GK} {p:GK×GK} {ps:List (GK×GK)} {xs:List V} {b c:V} {ls:List Addr} (hT:TabAt w H d T ls) (e1:H d=some (GO w d kvs)) (g:GOk H kvs) (ap:(∀k k' l,jU kvs k=some (.ref l)→jU kvs k'=some (.ref l)→k=k')∧(∀k l,jU kvs k=some (.ref l)→l∈ls)∧kvs.length≤ls.length∧∀k,(jU kvs k).isSome=true→(jN T k).isSome=true)
  (e3:∀k ps,jN T k=some ps→∃l xs,jU kvs k=some (.ref l)∧H l=some (.lst xs)∧PairsAt H xs ps) (hps:jN T k=some ps) (f1:jU kvs k=some (.ref l)) (f2:H l=some (.lst xs)) (f3:PairsAt H xs ps) (h190:ps.length≤190) (hsh:(jN T p.2).isSome=true)
  (kp:∀a o,a≠l→H a=some o→H' a=some o) (hl:H' l=some (.lst (xs++[.ref t]))) (ht:H' t=some (.tup [b,c])) (h1:(GV H' p.1).1 b) (h2:(GV H' p.2).1 c) (g1:gd p.1≤8) (g2:gd p.2≤8):TabAt w H' d (JK T k p) ls:=by
 have hk:∀a l,H a=some (.tup l)→H' a=some (.tup l):=fun a z e=>kp a _ (fun y=>by subst y;rw [f2] at e;cases e) e
 have hsome:∀k',(jN (JK T k p) k').isSome=(jN T k').isSome:=fun k'=>by rw [Q9,Option.isSome_map]
 refine ⟨⟨kvs,kp d _ (fun y=>by subst y;rw [f2] at e1;cases e1) e1,g.keep hk,⟨ap.1,ap.2.1,ap.2.2.1,fun k h=>by rw [Q9,Option.isSome_map];exact ap.2.2.2 k h⟩,fun k' ps' h=>?_⟩,fun k' ps' h=>?_,fun k' ps' q h hq=>?_,fun k' ps' h=>?_⟩
 all_goals
  rw [Q9] at h
  obtain ⟨ps0,h0,rfl⟩:=Option.map_eq_some_iff.mp h
 ·obtain ⟨l',xs',f1',f2',f3'⟩:=e3 k' ps0 h0
  by_cases hkk:k'=k
  ·subst hkk
   rw [hps] at h0;cases h0
   rw [f1] at f1';cases f1'
   rw [if_pos rfl]
   exact ⟨l,_,f1,hl,eO (z9 hk f3) ht h1 h2 g1 g2⟩
  ·rw [if_neg hkk]
   exact ⟨l',xs',f1',kp l' _ (fun y=>by subst y;exact hkk (ap.1 _ _ _ f1' f1)) f2',z9 hk f3'⟩
 ·have:=hT.few k' ps0 h0
  by_cases hkk:k'=k
  ·subst hkk
   rw [hps] at h0;cases h0
   rw [if_pos rfl,List.length_append,List.length_singleton];omega
  ·rw [if_neg hkk];exact this
 ·rw [hsome]
  by_cases hkk:k'=k
  ·subst hkk
   rw [if_pos rfl] at hq
   rcases List.mem_append.mp hq with hq|hq
   ·exact hT.shut _ ps0 q h0 hq
   ·cases List.mem_singleton.mp hq;exact hsh
  ·rw [if_neg hkk] at hq
   exact hT.shut _ ps0 q h0 hq
 ·exact hT.deep k' ps0 h0
def lP (w:World):Sp:=fun vs H Q _=>∃(d:Addr) (m v u:Nat) (T:jK) (ls:List Addr) (ps:List (GK×GK)),vs=[.ref d,.int m,.int v,.int u]∧m≤4∧v≤24∧u≤24∧TabAt w H d T ls∧jN T (kM m v)=some ps∧(jN T (kM m u)).isSome=true∧ps.length≤190∧
 ∀H',TabAt w H' d (JK T (kM m v) (yL m ps.length,kM m u)) ls→pN ls H H'→Q .non H'
def bH (T:jK) (k:GK):jK:=(T.filter fun q => !decide (q.1=k))++[(k,[])]
theorem ZD {T:jK} {k k':GK}:jN (bH T k) k'=if k'=k then some [] else jN T k':=by
 unfold jN bH
 rw [List.find?_append,List.find?_filter]
 by_cases h:k'=k
 ·subst h
  have:T.find? (fun a=>decide ((!decide (a.1=k'))=true∧decide (a.1=k')=true))=none:=by
   rw [List.find?_eq_none]
   intro x _
   by_cases hx:x.1=k'<;>simp [hx]
  rw [this,if_pos rfl]
  simp
 ·have e:(fun a:GK×List (GK×GK)=>decide ((!decide (a.1=k))=true∧decide (a.1=k')=true))=fun a=>decide (a.1=k'):=by
   funext a
   by_cases hx:a.1=k'
   ·have:¬a.1=k:=fun z=>h (hx▸z)
    simp [hx,h]
   ·simp [hx]
  have n:¬k=k':=fun z=>h z.symm
  rw [e,if_neg h]
  cases T.find? (fun a=>decide (a.1=k'))<;>simp [n]
theorem x4 {w:World} {H H':Hp} {d l:Addr} {T:jK} {kvs:List jS} {k:GK} {y:V} {ls:List Addr} (hT:TabAt w H d T ls) (g:GOk H kvs) (ap:(∀k k' l,jU kvs k=some (.ref l)→jU kvs k'=some (.ref l)→k=k')∧(∀k l,jU kvs k=some (.ref l)→l∈ls)∧kvs.length≤ls.length∧∀k,(jU kvs k).isSome=true→(jN T k).isSome=true)
  (e3:∀k ps,jN T k=some ps→∃l xs,jU kvs k=some (.ref l)∧H l=some (.lst xs)∧PairsAt H xs ps) (hd:∀xs,H d≠some (.lst xs)) (hdt:∀xs,H d≠some (.tup xs)) (hnew:∀k',jU kvs k'≠some (.ref l)) (hy:(GV H k).1 y) (h8:gd k≤8)
  (kp:∀a o,a≠d→H a=some o→H' a=some o) (hl:H' l=some (.lst [])) (hd':H' d=some (GO w d (qJ kvs k y (.ref l)))):TabAt w H' d (bH T k) (l::ls):=by
 have hk:∀a z,H a=some (.tup z)→H' a=some (.tup z):=fun a z e=>kp a _ (fun y=>by subst y;exact hdt _ e) e
 have hso:∀k',(jN T k').isSome=true→(jN (bH T k) k').isSome=true:=fun k' h=>by rw [ZD];split;rfl;exact h
 refine ⟨⟨_,hd',(g.set hy h8).keep hk,⟨fun k1 k2 l' a b=>?_,fun k1 l' a=>?_,by have h1:=Z3 kvs k y (.ref l);have h2:=ap.2.2.1;rw [List.length_cons];omega,fun k1 h=>by rw [J5] at h;rw [ZD];by_cases e:k1=k;rw [if_pos e];rfl;rw [if_neg e] at h ⊢;exact ap.2.2.2 k1 h⟩,fun k' ps' h=>?_⟩,fun k' ps' h=>?_,fun k' ps' q h hq=>?_,fun k' ps' h=>?_⟩
 ·rw [J5] at a b
  by_cases h1:k1=k<;>by_cases h2:k2=k
  ·rw [h1,h2]
  ·rw [if_pos h1] at a;rw [if_neg h2] at b;cases a;exact absurd b (hnew k2)
  ·rw [if_neg h1] at a;rw [if_pos h2] at b;cases b;exact absurd a (hnew k1)
  ·rw [if_neg h1] at a;rw [if_neg h2] at b;exact ap.1 _ _ _ a b
 ·rw [J5] at a
  by_cases h1:k1=k
  ·rw [if_pos h1] at a;cases a;exact List.mem_cons_self
  ·rw [if_neg h1] at a;exact List.mem_cons_of_mem _ (ap.2.1 _ _ a)
 all_goals rw [ZD] at h
 ·by_cases h1:k'=k
  ·rw [if_pos h1] at h;cases h
   exact ⟨l,[],by rw [J5,if_pos h1],hl,rfl,fun i x e=>by cases e⟩
  ·rw [if_neg h1] at h
   obtain ⟨l',xs',f1,f2,f3⟩:=e3 k' ps' h
   exact ⟨l',xs',by rw [J5,if_neg h1];exact f1,kp l' _ (fun z=>by subst z;exact hd _ f2) f2,z9 hk f3⟩
 ·by_cases h1:k'=k
  ·rw [if_pos h1] at h;cases h;exact Nat.zero_le _
  ·rw [if_neg h1] at h;exact hT.few k' ps' h
 ·by_cases h1:k'=k
  ·rw [if_pos h1] at h;cases h;cases hq
  ·rw [if_neg h1] at h;exact hso _ (hT.shut k' ps' q h hq)
 ·by_cases h1:k'=k
  ·rw [h1];exact h8
  ·rw [if_neg h1] at h;exact hT.deep k' ps' h
structure TabOk (m n c:Nat) (T:jK):Prop where
 dom:∀v,v<n→(jN T (kM m v)).isSome=true
 row:∀k ps,jN T k=some ps→ps.length≤c∧∀(i:Nat) p,ps[i]?=some p→p.1=yL m i
 cod:∀k ps,jN T k=some ps→∃v,v<n∧k=kM m v
theorem tX {m n c v u:Nat} {T:jK} {ps:List (GK×GK)} (h:TabOk m n c T) (hps:jN T (kM m v)=some ps):TabOk m n (c+1) (JK T (kM m v) (yL m ps.length,kM m u)):=by
 refine ⟨fun v' hv=>by rw [Q9,Option.isSome_map];exact h.dom v' hv,fun k ps' hk=>?_,fun k ps' hk=>by rw [Q9] at hk;obtain ⟨ps0,h0,_⟩:=Option.map_eq_some_iff.mp hk;exact h.cod k ps0 h0⟩
 rw [Q9] at hk
 obtain ⟨ps0,h0,rfl⟩:=Option.map_eq_some_iff.mp hk
 obtain ⟨a,b⟩:=h.row k ps0 h0
 by_cases hkk:k=kM m v
 ·subst hkk
  rw [hps] at h0;cases h0
  rw [if_pos rfl]
  refine ⟨by rw [List.length_append,List.length_singleton];omega,fun i p e=>?_⟩
  by_cases hi:i<ps.length
  ·rw [List.getElem?_append_left hi] at e;exact b i p e
  ·rw [List.getElem?_append_right (by omega)] at e
   have hz:i - ps.length=0:=by have:=(List.getElem?_eq_some_iff.mp e).1;rw [List.length_singleton] at this;omega
   rw [hz] at e;cases e
   rw [show i=ps.length by omega]
 ·rw [if_neg hkk];exact ⟨by omega,b⟩
def m4 (w:World) (K:W.Frag):Sp:=fun vs H Q _=>∃(a:Addr) (sx:List V) (ns:List Int) (m n:Nat),vs=[.ref a,.int m,.int n]∧SqL K H a sx∧Paired v8 sx ns∧ns.length≤63∧m≤4∧1≤n∧n≤24∧
 ∀d T ls H',TabAt w H' d T ls→TabOk m n 100 T→Same H H'→(∀l∈ls,H l=none)→H d=none→Q (.ref d) H'
structure TabIn (w:World) (H Hi:Hp) (d:Addr) (m n c:Nat) (T:jK) (ls:List Addr):Prop where
 tab:TabAt w Hi d T ls
 ok:TabOk m n c T
 sm:Same H Hi
 new:∀l∈ls,H l=none
 dn:H d=none
 trk:∀l∈ls,∃xs,Hi l=some (.lst xs)
theorem TabIn.join {w:World} {H Hi H':Hp} {d:Addr} {m n c v u:Nat} {T:jK} {ls:List Addr} {ps:List (GK×GK)} (h:TabIn w H Hi d m n c T ls) (hps:jN T (kM m v)=some ps) (hT:TabAt w H' d (JK T (kM m v) (yL m ps.length,kM m u)) ls) (hk:pN ls Hi H') :
  TabIn w H H' d m n (c+1) (JK T (kM m v) (yL m ps.length,kM m u)) ls :=
 ⟨hT,tX h.ok hps,fun a o e=>hk.1 a o (fun hin=>by rw [h.new a hin] at e;cases e) (h.sm _ _ e),h.new,h.dn,fun l hl=>let ⟨xs,e⟩:=h.trk l hl;hk.2 l xs e⟩
theorem TabIn.same {w:World} {H Hi Hj:Hp} {d:Addr} {m n c:Nat} {T:jK} {ls:List Addr} (h:TabIn w H Hi d m n c T ls) (s:Same Hi Hj):TabIn w H Hj d m n c T ls:=⟨h.tab.same s,h.ok,h.sm.trans s,h.new,h.dn,fun l hl=>let ⟨xs,e⟩:=h.trk l hl;⟨xs,s _ _ e⟩⟩
theorem TabIn.mono {w:World} {H Hi:Hp} {d:Addr} {m n c c':Nat} {T:jK} {ls:List Addr} (h:TabIn w H Hi d m n c T ls) (hc:c≤c'):TabIn w H Hi d m n c' T ls :=
 ⟨h.tab,⟨h.ok.dom,fun k ps hk=>⟨Nat.le_trans (h.ok.row k ps hk).1 hc,(h.ok.row k ps hk).2⟩,h.ok.cod⟩,h.sm,h.new,h.dn,h.trk⟩
theorem uS {w:World} {H:Hp} {d:Addr} (h:H d=some (GO w d [])):TabAt w H d [] [] :=
 ⟨⟨[],h,GOk.nil,⟨fun _ _ _ e=>absurd e (by simp [jU]),fun _ _ e=>absurd e (by simp [jU]),Nat.le_refl _,fun _ e=>absurd e (by simp [jU])⟩,fun _ _ e=>absurd e (by simp [jN])⟩,fun _ _ e=>absurd e (by simp [jN]),fun _ _ _ e=>absurd e (by simp [jN]),fun _ _ e=>absurd e (by simp [jN])⟩
structure MarkIn (w:World) (H Hi:Hp) (d:Addr) (m i:Nat) (M:GK→Bool):Prop where
 ex:∃kvs,Hi d=some (GO w d kvs)∧GOk Hi kvs∧kvs.length≤i∧∀v,v<i→jU kvs (kM m v)=some (.bl (M (kM m v)))
 sm:Same H Hi
 dn:H d=none
def m6 (w:World):Sp:=fun vs H Q _=>∃(cv:V) (c:Int) (m n:Nat),vs=[cv,.int m,.int n]∧v8 cv c∧m≤4∧1≤n∧n≤24∧∀d M H',MarkIn w H H' d m n M→Q (.ref d) H'
theorem eU {w:World} {H Hi H1:Hp} {d:Addr} {m i:Nat} {M:GK→Bool} {y:V} (hI:MarkIn w H Hi d m i M) (s1:Same Hi H1) (hy:(GV H1 (kM m i)).1 y) (b:Bool) :
  ∃kvs,H1 d=some (GO w d kvs)∧GOk H1 kvs∧kvs.length≤i∧MarkIn w H (jC H1 d (GO w d (qJ kvs (kM m i) y (.bl b)))) d m (i+1) (fun k=>if k=kM m i then b else M k):=by
 obtain ⟨kvs,e1,g,hl,hg⟩:=hI.ex
 have g1:=qL s1 g
 refine ⟨kvs,s1 _ _ e1,g1,hl,⟨_,jG,(g1.set hy (ZW m i)).keep fun a l e=>?_,?_,fun v hv=>?_⟩,qI hI.dn (hI.sm.trans s1),hI.dn⟩
 ·rw [jH fun z=>by subst z;rw [s1 _ _ e1] at e;cases e];exact e
 ·have:=Z3 kvs (kM m i) y (.bl b);omega
 ·rw [J5]
  by_cases h:kM m v=kM m i
  ·rw [if_pos h,if_pos h]
  ·rw [if_neg h,if_neg h]
   exact hg v (by have:v≠i:=fun z=>h (by rw [z]);omega)
theorem vZ {a b:Int} (h:0<b):∃k:Nat,a%b=(k:Int)∧(k:Int)<b:=by
 have h1:=Int.emod_nonneg a (by omega:b≠0)
 have h2:=Int.emod_lt_of_pos a h
 exact ⟨(a%b).toNat,by omega,by omega⟩
def FB (s:Str):Nat:=(s.cps.toList.drop 1).foldl (fun a c=>a*10+(c - 48)) 0
theorem pF:∀v:Nat,v<201→FB ("d"++Str.ofString (toString (v:Int)))=v:=by decide +kernel
theorem wR {m i j:Nat} (hi:i<201) (hj:j<201) (h:yL m i=yL m j):i=j:=by
 have H:∀x,yL m x=if kindD m x=0 then .i x else if kindD m x=1 then .s ("d"++Str.ofString (toString (x:Int))) else .cons (.s "go") (.cons (.i x) .nil):=fun _=>rfl
 by_cases a:kindD m i=0<;>by_cases b:kindD m j=0
 ·rw [H i,if_pos a,H j,if_pos b] at h;injection h with h;omega
 ·rw [H i,if_pos a,H j,if_neg b] at h
  by_cases b':kindD m j=1
  ·rw [if_pos b'] at h;cases h
  ·rw [if_neg b'] at h;cases h
 ·rw [H i,if_neg a,H j,if_pos b] at h
  by_cases a':kindD m i=1
  ·rw [if_pos a'] at h;cases h
  ·rw [if_neg a'] at h;cases h
 rw [H i,if_neg a,H j,if_neg b] at h
 by_cases a':kindD m i=1<;>by_cases b':kindD m j=1
 ·rw [if_pos a',if_pos b'] at h;injection h with h;rw [← pF i hi,h,pF j hj]
 ·rw [if_pos a',if_neg b'] at h;cases h
 ·rw [if_neg a',if_pos b'] at h;cases h
 ·rw [if_neg a',if_neg b'] at h;injection h with _ h;injection h with h _;injection h with h;omega
theorem mP {m:Nat} {de:GK}:∀(ps:List (GK×GK)) (o:Nat),ps.length+o≤200→(∀(i:Nat) p,ps[i]?=some p→p.1=yL m (o+i))→(ps.filter fun z=>decide (z.1=de)).length≤1
 |[],_,_,_=>Nat.zero_le _
 |p::ps,o,hl,h=>by
  rw [List.length_cons] at hl
  have ih:=mP (m:=m) (de:=de) ps (o+1) (by omega) (fun i q e=>by rw [h (i+1) q (by rw [List.getElem?_cons_succ];exact e)];congr 1;omega)
  rw [List.filter_cons]
  split
  ·rename_i hp
   have h0:=h 0 p rfl
   have hn:ps.filter (fun z=>decide (z.1=de))=[]:=by
    rw [List.filter_eq_nil_iff]
    intro q hq hd
    obtain ⟨i,hi⟩:=List.mem_iff_getElem?.mp hq
    have h1:=h (i+1) q (by rw [List.getElem?_cons_succ];exact hi)
    have hlt:=(List.getElem?_eq_some_iff.mp hi).1
    have e1:p.1=de:=of_decide_eq_true hp
    have e2:q.1=de:=of_decide_eq_true hd
    have:=wR (m:=m) (i:=o+0) (j:=o+(i+1)) (by omega) (by omega) (by rw [← h0,← h1,e1,e2])
    omega
   rw [hn];exact Nat.le_refl _
  ·exact ih
def fD (w:World) (K:W.Frag):Sp:=fun vs H Q _=>∃(d rl:Addr) (y:V) (T:jK) (ls:List Addr) (m n:Nat) (k:GK) (row:List V) (ks:List GK),vs=[.ref d,y,.ref rl]∧TabR w H d T ls∧TabOk m n 100 T∧(GV H k).1 y∧(jN T k).isSome=true∧H rl=some (.lst row)∧KeysAt H row ks∧
 (qM T k ks=none→∀H',Same H H'→Q .non H')∧∀k' y' p H',qM T k ks=some k'→(jN T k').isSome=true→(GV H' k').1 y'→H' p=some (.lst [y'])→Same H H'→Q (.ref p) H'
def Clo1 (H:Hp) (f:Addr) (st:Stmt) (qual:Str) (x:Str) (d:Addr):Prop:=∃c cdv fd,c≠d∧CloAt H f qual (jT st) (jR st) (jF st) [(x,c)] [.ref d] cdv fd
theorem Clo1.same {H H':Hp} {f:Addr} {st:Stmt} {qual x:Str} {d:Addr} (s:Same H H') (h:Clo1 H f st qual x d):Clo1 H' f st qual x d:=let ⟨c,cdv,fd,n,C⟩:=h;⟨c,cdv,fd,n,xU s C⟩
theorem gK {α:Type} {P:α→Prop} {a b:α} (h1:P a) (h2:P b):∀q∈[a,b],P q:=fun q hq=>by
 rcases List.mem_cons.mp hq with rfl|hq
 ·exact h1
 ·cases List.mem_singleton.mp hq;exact h2
def JL (tL:Addr) (H H':Hp):Prop:=∀a o,a≠tL→H a=some o→H' a=some o
theorem y6 {H H':Hp} {tL a:Addr} {tp:Array Value} {o:HO} (k:JL tL H H') (ht:H tL=some (.tbl tp)) (e:H a=some o) (hn:o≠.tbl tp):H' a=some o:=k a o (fun z=>hn (by subst z;rw [ht] at e;cases e;rfl)) e
theorem fK {H H':Hp} {tL:Addr} {tp:Array Value} (k:JL tL H H') (ht:H tL=some (.tbl tp)):∀a l,H a=some (.tup l)→H' a=some (.tup l):=fun a l e=>y6 k ht e (fun z=>by cases z)
theorem AT {w:World} {H0 H:Hp} {d:Addr} {m n c:Nat} {T:jK} {M:GK→Bool} (hI:MarkIn w H0 H d m n M) (hO:TabOk m n c T):MarkAt w H d T M:=by
 obtain ⟨kvs,e1,g,_,hg⟩:=hI.ex
 refine ⟨kvs,e1,g,fun k hk=>?_⟩
 obtain ⟨ps,hps⟩:=Option.isSome_iff_exists.mp hk
 obtain ⟨v,hv,rfl⟩:=hO.cod k ps hps
 exact hg v hv
theorem MarkAt.keepT {w:World} {H H':Hp} {tL d:Addr} {tp:Array Value} {T:jK} {M:GK→Bool} (k:JL tL H H') (ht:H tL=some (.tbl tp)) (h:MarkAt w H d T M):MarkAt w H' d T M:=by
 obtain ⟨kvs,e1,e2,e3⟩:=h.ex
 exact ⟨kvs,y6 k ht e1 (fun z=>by cases z),e2.keep (fK k ht),e3⟩
theorem KeysAt.keep {H H':Hp} {xs:List V} {ks:List GK} (tk:∀a l,H a=some (.tup l)→H' a=some (.tup l)) (h:KeysAt H xs ks):KeysAt H' xs ks:=⟨h.1,fun i x e=>by
 obtain ⟨k,e1,e2,e3⟩:=h.2 i x e
 exact ⟨k,e1,(GV.keep tk k).1 _ e2,e3⟩⟩
theorem KeysAt.take {H:Hp} {xs:List V} {ks:List GK} (h:KeysAt H xs ks) (j:Nat):KeysAt H (xs.take j) (ks.take j):=⟨by rw [List.length_take,List.length_take,h.1],fun i x e=>by
  have hi:i<j:=by have:=(List.getElem?_eq_some_iff.mp e).1;rw [List.length_take] at this;omega
  rw [List.getElem?_take_of_lt hi] at e ⊢
  exact h.2 i x e⟩
def FnIs (H:Hp) (f:Addr) (st:Stmt) (qual x:Str) (c:Addr):Prop:=∃(fo:Obj) (name:Str) (doc pm:Value) (an:Option Addr) (ct:Value) (c':Addr) (oc:Obj),H f=some (FnO f fo)∧fo.data=.func (W.fnX name qual (jT st) (jR st) (jF st) [(x,c)] .none .none doc pm an (.ref c') ct)∧H c'=some (FnO c' oc)∧∃vs t,oc.data=.fields vs∧vs[1]?=some (.str qual t)
theorem FnIs.same {H H':Hp} {f c:Addr} {st:Stmt} {qual x:Str} (s:Same H H') (h:FnIs H f st qual x c):FnIs H' f st qual x c:=by
 obtain ⟨fo,name,doc,pm,an,ct,c',oc,e1,e2,e3,e4⟩:=h
 exact ⟨fo,name,doc,pm,an,ct,c',oc,s _ _ e1,e2,s _ _ e3,e4⟩
theorem FnIs.keepT {H H':Hp} {f c tL:Addr} {tp:Array Value} {st:Stmt} {qual x:Str} (k:JL tL H H') (ht:H tL=some (.tbl tp)) (h:FnIs H f st qual x c):FnIs H' f st qual x c:=by
 obtain ⟨fo,name,doc,pm,an,ct,c',oc,e1,e2,e3,e4⟩:=h
 exact ⟨fo,name,doc,pm,an,ct,c',oc,y6 k ht e1 (fun z=>by cases z),e2,y6 k ht e3 (fun z=>by cases z),e4⟩
theorem FnIs.clo {H HC:Hp} {cs:List Addr} {f c d:Addr} {st:Stmt} {qual x:Str} {o:Obj} {u:Value} (h:FnIs H f st qual x c) (hn:∀c∈cs,H c=none) (hc:c∈cs) (e1:HC c=some (FnO c o)) (e2:o.data=.cell (some u)) (rv:RelV (.ref d) u) (hd:H d≠none):Clo1 (qK H HC cs) f st qual x d:=by
 obtain ⟨fo,name,doc,pm,an,ct,c',oc,f1,f2,f3,vs,t,f4,f5⟩:=h
 have out:∀b v,H b=some v→qK H HC cs b=some v:=fun b v e=>by rw [vB fun z=>by rw [hn b z] at e;cases e];exact e
 refine ⟨c,.ref c',_,fun z=>hd (z▸hn c hc),⟨fo,name,doc,pm,an,ct,out _ _ f1,f2,rfl⟩,⟨c',oc,vs,t,rfl,out _ _ f3,f4,f5⟩,by simp,rfl,fun i y c2 v h1 h2=>?_⟩
 match i,h1,h2 with
 |0,h1,h2=>cases h1;cases h2;exact ⟨o,u,by rw [Z9 hc];exact e1,e2,rv⟩
 |i+1,h1,_=>cases h1
theorem i9 {H HC:Hp} {cs:List Addr} (hn:∀c∈cs,H c=none):Same H (qK H HC cs):=fun b v e=>by rw [vB fun z=>by rw [hn b z] at e;cases e];exact e
theorem wV {H H' HC:Hp} {cs:List Addr} (hn:∀c∈cs,H c=none) (s:Same (qK H HC cs) H'):Same H (qP H' cs):=fun b v e=>by
 rw [qY fun z=>by rw [hn b z] at e;cases e]
 exact s _ _ (i9 hn _ _ e)
theorem wS {xs:List V} {c:Nat} (h:c≤xs.length):kP xs none (some (c:Int))=xs.take c:=by
 unfold kP
 rw [HT.sIx_none,HT.sIx_nat,Nat.min_eq_left h,List.drop_zero,Nat.sub_zero]
def C0 (H:Hp) (T:jK) (k:GK) (ks:List GK) (v:V):Prop:=(qM T k ks=none∧v=.non)∨∃k' y' p,qM T k ks=some k'∧(jN T k').isSome=true∧(GV H k').1 y'∧H p=some (.lst [y'])∧v=.ref p
theorem fT {H:Hp} {P f c:Addr} {o2 o3:HO} {tp:Array Value} (n1:f≠P) (n2:c≠P):jC (jC (jC H P (.tbl tp)) f o2) c o3 P=some (.tbl tp):=by rw [jH n2.symm,jH n1.symm,jG]
theorem fL {H:Hp} {P f c:Addr} {o1 o2 o3:HO} (h1:H f=none) (h2:H c=none):JL P H (jC (jC (jC H P o1) f o2) c o3):=fun a o n e=>by
 rw [jH (yZ e h2),jH (yZ e h1),jH n];exact e
def vS (T:jK) (k:GK):List (GK×GK):=(jN T k).getD []
def vL (met acc:List GK) (p:GK×GK):List GK:=if p.2∈met++acc then acc else acc++[p.2]
def vD (met acc:List GK) (ps:List (GK×GK)):List GK:=ps.foldl (vL met) acc
def kH (T:jK) (met acc lay:List GK):List GK:=lay.foldl (fun a k=>vD met a (vS T k)) acc
theorem iC {met acc:List GK} {ps:List (GK×GK)} {p:GK×GK}:vD met acc (ps++[p])=vL met (vD met acc ps) p:=by
 unfold vD;rw [List.foldl_append];rfl
theorem tN {T:jK} {met acc lay:List GK} {k:GK}:kH T met acc (lay++[k])=vD met (kH T met acc lay) (vS T k):=by
 unfold kH;rw [List.foldl_append];rfl
theorem tR {met acc:List GK} {p:GK×GK}:vL met (acc.filter fun k => !decide (k∈met)) p=(vL [] acc p).filter fun k => !decide (k∈met):=by
 unfold vL
 by_cases h1:p.2∈met
 ·rw [if_pos (List.mem_append_left _ h1)]
  by_cases h2:p.2∈acc
  ·rw [if_pos (by simpa using h2)]
  ·rw [if_neg (by simpa using h2),List.filter_append,List.filter_cons,if_neg (by simpa using h1)];simp
 ·by_cases h2:p.2∈acc
  ·rw [if_pos (List.mem_append_right _ (List.mem_filter.mpr ⟨h2,by simpa using h1⟩)),if_pos (by simpa using h2)]
  ·rw [if_neg (by simp [h1,h2]),if_neg (by simpa using h2),List.filter_append,List.filter_cons,if_pos (by simpa using h1)];simp
theorem gZ {met:List GK}:∀(ps:List (GK×GK)) (acc:List GK),vD met (acc.filter fun k => !decide (k∈met)) ps=(vD [] acc ps).filter fun k => !decide (k∈met)
 |[],acc=>rfl
 |p::ps,acc=>by
  show vD met (vL met (acc.filter fun k => !decide (k∈met)) p) ps=(vD [] (vL [] acc p) ps).filter _
  rw [tR]
  exact gZ ps _
theorem g6 {T:jK} {met:List GK}:∀(lay acc:List GK),kH T met (acc.filter fun k => !decide (k∈met)) lay=(kH T [] acc lay).filter fun k => !decide (k∈met)
 |[],acc=>rfl
 |k::lay,acc=>by
  show kH T met (vD met (acc.filter fun k => !decide (k∈met)) (vS T k)) lay=(kH T [] (vD [] acc (vS T k)) lay).filter _
  rw [gZ]
  exact g6 lay _
def kB (T:jK) (k0:GK):Nat→List (List GK)
 |0=>[[k0]]
 |i+1=>kB T k0 i++[kH T (kB T k0 i).flatten [] ((kB T k0 i).getLast?.getD [])]
def kN (T:jK) (k0:GK) (i:Nat):List GK:=(kB T k0 i).getLast?.getD []
def vF (T:jK) (k0:GK) (i:Nat):List GK:=kH T (kB T k0 i).flatten [] (kN T k0 i)
def dN (T:jK) (M:GK→Bool) (k0:GK) (i:Nat):Prop:=(kN T k0 i).any M=true∨vF T k0 i=[]
theorem Q3 {T:jK} {k0:GK} {i:Nat}:kB T k0 (i+1)=kB T k0 i++[vF T k0 i]:=rfl
theorem uC {T:jK} {k0:GK} {i:Nat}:kN T k0 (i+1)=vF T k0 i:=by
 unfold kN;rw [Q3];simp
theorem J4 {T:jK} {k0:GK}:∀i,(kB T k0 i).length=i+1
 |0=>rfl
 |i+1=>by rw [Q3,List.length_append,J4 i];rfl
theorem Q7 {T:jK} {k0:GK} {i:Nat}:(kB T k0 (i+1)).flatten=(kB T k0 i).flatten++vF T k0 i:=by
 rw [Q3,List.flatten_append];simp
theorem Q8 {T:jK} {k0:GK} (i:Nat):(kB T k0 i)[i]?=some (kN T k0 i):=by
 unfold kN
 have hl:=J4 (T:=T) (k0:=k0) i
 rw [List.getLast?_eq_getElem?,hl,Nat.add_sub_cancel,List.getElem?_eq_getElem (by omega)];rfl
theorem xZ {met acc:List GK} {p:GK×GK} {x:GK} (h:x∈vL met acc p):x∈acc∨x=p.2:=by
 unfold vL at h
 split at h
 ·exact .inl h
 ·rcases List.mem_append.mp h with h|h
  ·exact .inl h
  ·exact .inr (List.mem_singleton.mp h)
theorem iJ {met:List GK} {x:GK}:∀(ps:List (GK×GK)) (acc:List GK),x∈vD met acc ps→x∈acc∨∃p∈ps,x=p.2
 |[],acc,h=>.inl h
 |p::ps,acc,h=>by
  rcases iJ ps _ (show x∈vD met (vL met acc p) ps from h) with h|⟨q,hq,e⟩
  ·rcases xZ h with h|h
   ·exact .inl h
   ·exact .inr ⟨p,List.mem_cons_self,h⟩
  ·exact .inr ⟨q,List.mem_cons_of_mem _ hq,e⟩
theorem ZX {T:jK} {met:List GK} {x:GK}:∀(lay acc:List GK),x∈kH T met acc lay→x∈acc∨∃k∈lay,∃p∈vS T k,x=p.2
 |[],acc,h=>.inl h
 |k::lay,acc,h=>by
  rcases ZX lay _ (show x∈kH T met (vD met acc (vS T k)) lay from h) with h|⟨q,hq,e⟩
  ·rcases iJ _ _ h with h|⟨p,hp,e⟩
   ·exact .inl h
   ·exact .inr ⟨k,List.mem_cons_self,p,hp,e⟩
  ·exact .inr ⟨q,List.mem_cons_of_mem _ hq,e⟩
def gP (T:jK):Prop:=∀k ps p,jN T k=some ps→p∈ps→(jN T p.2).isSome=true
theorem fB {T:jK} (h:gP T) {k:GK} {p:GK×GK} (hp:p∈vS T k):(jN T p.2).isSome=true:=by
 unfold vS at hp
 cases e:jN T k with
 |none=>rw [e] at hp;cases hp
 |some ps=>rw [e] at hp;exact h k ps p e hp
theorem eZ {T:jK} (h:gP T) {met lay:List GK} {x:GK} (hx:x∈kH T met [] lay):(jN T x).isSome=true:=by
 rcases ZX lay [] hx with hx|⟨k,_,p,hp,rfl⟩
 ·cases hx
 ·exact fB h hp
theorem ZC {T:jK} (h:gP T) {k0:GK} (h0:(jN T k0).isSome=true):∀(i:Nat) (x:GK),x∈(kB T k0 i).flatten→(jN T x).isSome=true
 |0,x,hx=>by
  have:x=k0:=by simpa [kB] using hx
  rw [this];exact h0
 |i+1,x,hx=>by
  rw [Q7] at hx
  rcases List.mem_append.mp hx with hx|hx
  ·exact ZC h h0 i x hx
  ·exact eZ h hx
theorem cJ {T:jK} {k0 x:GK} {i:Nat} (hx:x∈kN T k0 i):x∈(kB T k0 i).flatten :=
 List.mem_flatten.mpr ⟨_,List.mem_of_getElem? (Q8 i),hx⟩
theorem JF {α:Type} [DecidableEq α]:∀{l m:List α},l.Nodup→(∀x∈l,x∈m)→l.length≤m.length
 |[],_,_,_=>Nat.zero_le _
 |a::l,m,hn,hs=>by
  rw [List.nodup_cons] at hn
  have h1:=hs a List.mem_cons_self
  have ih:=JF (l:=l) (m:=m.erase a) hn.2 (fun x hx=>(List.mem_erase_of_ne (fun e:x=a=>hn.1 (by rw [← e];exact hx))).mpr (hs x (List.mem_cons_of_mem _ hx)))
  rw [List.length_erase_of_mem h1] at ih
  have:0<m.length:=List.length_pos_of_mem h1
  rw [List.length_cons];omega
theorem JA {m n c:Nat} {T:jK} (hO:TabOk m n c T) {l:List GK} (hn:l.Nodup) (hd:∀x∈l,(jN T x).isSome=true):l.length≤n:=by
 have:=JF (m:=(List.range n).map (kM m)) hn fun x hx=>by
  obtain ⟨ps,hps⟩:=Option.isSome_iff_exists.mp (hd x hx)
  obtain ⟨v,hv,rfl⟩:=hO.cod x ps hps
  exact List.mem_map.mpr ⟨v,List.mem_range.mpr hv,rfl⟩
 rwa [List.length_map,List.length_range] at this
theorem uH {met acc:List GK} {p:GK×GK} (h:(met++acc).Nodup):(met++vL met acc p).Nodup:=by
 unfold vL
 split
 ·exact h
 ·rename_i hp
  rw [← List.append_assoc,List.nodup_append]
  exact ⟨h,by simp,fun a ha b hb e=>by cases List.mem_singleton.mp hb;subst e;exact hp ha⟩
theorem g9 {met:List GK}:∀(ps:List (GK×GK)) (acc:List GK),(met++acc).Nodup→(met++vD met acc ps).Nodup
 |[],_,h=>h
 |p::ps,acc,h=>g9 ps _ (uH h)
theorem bT {T:jK} {met:List GK}:∀(lay acc:List GK),(met++acc).Nodup→(met++kH T met acc lay).Nodup
 |[],_,h=>h
 |k::lay,acc,h=>bT lay _ (g9 _ _ h)
theorem ZY {T:jK} {k0:GK}:∀i,(kB T k0 i).flatten.Nodup
 |0=>by simp [kB]
 |i+1=>by
  rw [Q7]
  exact bT _ [] (by rw [List.append_nil];exact ZY i)
theorem Q5 {kvs:List jS} {k:GK}:(jU kvs k).isSome=decide (k∈kvs.map (·.1)):=by
 unfold jU
 rw [Option.isSome_map,Bool.eq_iff_iff]
 simp only [List.find?_isSome,decide_eq_true_eq,List.mem_map]
theorem w6 {kvs:List jS} {k:GK} {y v:V} (h:k∉kvs.map (·.1)):qJ kvs k y v=kvs++[(k,y,v)]:=by
 unfold qJ
 rw [if_neg]
 rw [List.any_eq_true]
 rintro ⟨x,hx,e⟩
 exact h (List.mem_map.mpr ⟨x,hx,of_decide_eq_true e⟩)
theorem nY {kvs:List jS} (hn:(kvs.map (·.1)).Nodup) {i:Nat} {p:jS} (h:kvs[i]?=some p):jU kvs p.1=some p.2.2:=by
 unfold jU
 have:kvs.find? (fun x=>decide (x.1=p.1))=some p:=by
  induction kvs generalizing i with
  |nil=>cases h
  |cons q t ih =>
   rw [List.map_cons,List.nodup_cons] at hn
   cases i with
   |zero=>cases h;simp
   |succ i =>
    have h':t[i]?=some p:=h
    have hne:¬q.1=p.1:=fun e=>hn.1 (e▸List.mem_map.mpr ⟨p,List.mem_of_getElem? h',rfl⟩)
    rw [List.find?_cons_of_neg (by simpa using hne)]
    exact ih hn.2 h'
 rw [this];rfl
def CameV (H:Hp) (T:jK) (met:List GK) (i:Nat) (p:jS):Prop:=p.2.2=.non∨∃(t:Addr) (yp dv:V) (kp de:GK) (j:Nat),p.2.2=.ref t∧H t=some (.tup [yp,dv])∧(GV H kp).1 yp∧gd kp≤8∧(GV H de).1 dv∧gd de≤8∧j<i∧met[j]?=some kp∧(de,p.1)∈vS T kp
structure CameAt (w:World) (H:Hp) (d:Addr) (T:jK) (met:List GK):Prop where
 ex:∃kvs,H d=some (GO w d kvs)∧GOk H kvs∧kvs.map (·.1)=met∧∀(i:Nat) p,kvs[i]?=some p→CameV H T met i p
def gH (b:Addr) (H H':Hp):Prop:=∀a o,a≠b→H a=some o→H' a=some o
theorem CameV.keep {H H':Hp} {T:jK} {met met':List GK} {i:Nat} {p:jS} (h:CameV H T met i p) (hk:∀a l,H a=some (.tup l)→H' a=some (.tup l)) (hm:∀(j:Nat) x,met[j]?=some x→met'[j]?=some x):CameV H' T met' i p:=by
 rcases h with h|⟨t,yp,dv,kp,de,j,e1,e2,e3,e4,e5,e6,e7,e8,e9⟩
 ·exact .inl h
 ·exact .inr ⟨t,yp,dv,kp,de,j,e1,hk _ _ e2,(GV.keep hk kp).1 _ e3,e4,(GV.keep hk de).1 _ e5,e6,e7,hm _ _ e8,e9⟩
theorem CameAt.same {w:World} {H H':Hp} {d:Addr} {T:jK} {met:List GK} (s:Same H H') (h:CameAt w H d T met):CameAt w H' d T met:=by
 obtain ⟨kvs,e1,g,e2,e3⟩:=h.ex
 exact ⟨kvs,s _ _ e1,qL s g,e2,fun i p hp=>(e3 i p hp).keep (fun a l e=>s _ _ e) fun _ _ e=>e⟩
theorem BB {α:Type} {l m:List α} {j:Nat} {x:α} (h:l[j]?=some x):(l++m)[j]?=some x:=by rw [List.getElem?_append_left (List.getElem?_eq_some_iff.mp h).1];exact h
theorem atI_last {xs:List V} {v:V} {n:Nat} (hn:xs.length=n+1) (h:xs[n]?=some v):v7 xs (-1)=some v:=by
 have e:yQ xs.length (-1)=some n:=by
  unfold yQ
  rw [if_neg (by decide),if_pos (by omega)]
  congr 1
  omega
 unfold v7
 rw [e]
 exact h
structure LayersAt (H:Hp) (lr:Addr) (L:List (List GK)):Prop where
 ex:∃xs,H lr=some (.lst xs)∧xs.length=L.length∧∀(j:Nat) x,xs[j]?=some x→∃a ys lay,x=.ref a∧a≠lr∧L[j]?=some lay∧H a=some (.lst ys)∧KeysAt H ys lay
theorem LayersAt.same {H H':Hp} {lr:Addr} {L:List (List GK)} (s:Same H H') (h:LayersAt H lr L):LayersAt H' lr L:=by
 obtain ⟨xs,e1,e2,e3⟩:=h.ex
 refine ⟨xs,s _ _ e1,e2,fun j x hx=>?_⟩
 obtain ⟨a,ys,lay,f1,f2,f3,f4,f5⟩:=e3 j x hx
 exact ⟨a,ys,lay,f1,f2,f3,s _ _ f4,f5.same s⟩
theorem LayersAt.keepB {w:World} {H H':Hp} {lr dc:Addr} {kvs:List jS} {L:List (List GK)} (s:gH dc H H') (hd:H dc=some (GO w dc kvs)) (h:LayersAt H lr L):LayersAt H' lr L:=by
 have any:∀a o,H a=some o→o≠GO w dc kvs→H' a=some o:=fun a o e n=>s a o (fun z=>n (by rw [z,hd] at e;cases e;rfl)) e
 obtain ⟨xs,e1,e2,e3⟩:=h.ex
 refine ⟨xs,any _ _ e1 (fun z=>by cases z),e2,fun j x hx=>?_⟩
 obtain ⟨a,ys,lay,f1,f2,f3,f4,f5⟩:=e3 j x hx
 exact ⟨a,ys,lay,f1,f2,f3,any _ _ f4 (fun z=>by cases z),f5.keep fun a l e=>any _ _ e (fun z=>by cases z)⟩
theorem LayersAt.put {H:Hp} {lr r:Addr} {L:List (List GK)} {xs ys:List V} {lay:List GK} (h:LayersAt H lr L) (e:H lr=some (.lst xs)) (hr:H r=some (.lst ys)) (hk:KeysAt H ys lay) (n:r≠lr):LayersAt (jC H lr (.lst (xs++[.ref r]))) lr (L++[lay]):=by
 obtain ⟨xs',e1,e2,e3⟩:=h.ex
 rw [e] at e1;cases e1
 have tk:∀a l,H a=some (.tup l)→jC H lr (.lst (xs++[.ref r])) a=some (.tup l):=fun a l e'=>by rw [jH (fun z=>by rw [z,e] at e';cases e')];exact e'
 refine ⟨_,jG,by rw [List.length_append,List.length_append,e2];rfl,fun j x hx=>?_⟩
 by_cases hj:j<xs.length
 ·rw [List.getElem?_append_left hj] at hx
  obtain ⟨a,zs,l2,f1,f2,f3,f4,f5⟩:=e3 j x hx
  exact ⟨a,zs,l2,f1,f2,BB f3,by rw [jH f2];exact f4,f5.keep tk⟩
 ·rw [List.getElem?_append_right (by omega)] at hx
  have hz:j - xs.length=0:=by have:=(List.getElem?_eq_some_iff.mp hx).1;rw [List.length_singleton] at this;omega
  rw [hz] at hx
  cases hx
  exact ⟨r,ys,lay,rfl,n,by rw [List.getElem?_append_right (by omega),← e2,hz];rfl,by rw [jH n];exact hr,hk.keep tk⟩
theorem LayersAt.last {H:Hp} {lr:Addr} {T:jK} {k0:GK} {i:Nat} (h:LayersAt H lr (kB T k0 i)):∃xs a ys,H lr=some (.lst xs)∧v7 xs (-1)=some (.ref a)∧a≠lr∧H a=some (.lst ys)∧KeysAt H ys (kN T k0 i)∧xs.length=i+1:=by
 obtain ⟨xs,e1,e2,e3⟩:=h.ex
 rw [J4] at e2
 have hx:xs[i]?=some (xs[i]'(by omega)):=List.getElem?_eq_getElem (by omega)
 obtain ⟨a,ys,lay,f1,f2,f3,f4,f5⟩:=e3 i _ hx
 rw [Q8] at f3;cases f3
 exact ⟨xs,a,ys,e1,atI_last e2 (by rw [hx,f1]),f2,f4,f5,e2⟩
theorem uB {H:Hp} {lr l1:Addr} {k:GK} {y:V} (e:H lr=some (.lst [.ref l1])) (e1:H l1=some (.lst [y])) (n:l1≠lr) (hy:(GV H k).1 y) (h8:gd k≤8):LayersAt H lr [[k]]:=by
 refine ⟨_,e,rfl,fun j x hx=>?_⟩
 cases j with
 |zero =>
  cases hx
  refine ⟨l1,[y],[k],rfl,n,rfl,e1,rfl,fun i z hz=>?_⟩
  cases i with
  |zero=>cases hz;exact ⟨k,rfl,hy,h8⟩
  |succ i=>cases hz
 |succ j=>cases hx
theorem lW {T:jK} {M:GK→Bool} {k0:GK}:∀i,(∀j,j<i→¬dN T M k0 j)→i+1≤(kB T k0 i).flatten.length
 |0,_=>by simp [kB]
 |i+1,h=>by
  have ih:=lW i (fun j hj=>h j (by omega))
  rw [Q7,List.length_append]
  have:0<(vF T k0 i).length:=List.length_pos_iff.mpr fun z=>h i (by omega) (.inr z)
  omega
def fP (K:W.Frag):Sp:=fun vs H Q _=>∃(a:Addr) (sx:List V) (ns:List Int) (k:Nat),vs=[.ref a,.int k]∧SqL K H a sx∧Paired v8 sx ns∧∀v,v8 v (ns.getD k 0)→Q v H
structure ReachIn (H Hi:Hp) (r:Addr) (T:jK) (acc:List GK):Prop where
 sm:Same H Hi
 rn:H r=none
 row:∃ys,Hi r=some (.lst ys)∧KeysAt Hi ys acc
 nd:acc.Nodup
 dom:∀x∈acc,(jN T x).isSome=true
theorem ReachIn.put {H Hj:Hp} {r:Addr} {T:jK} {acc:List GK} {ys:List V} {k:GK} {c:V} (h:ReachIn H Hj r T acc) (er:Hj r=some (.lst ys)) (hks:KeysAt Hj ys acc) (hn:k∉acc) (hc:(GV Hj k).1 c) (hc8:gd k≤8) (hd:(jN T k).isSome=true):ReachIn H (jC Hj r (.lst (ys++[c]))) r T (acc++[k]):=by
 have tk:∀a l,Hj a=some (.tup l)→jC Hj r (.lst (ys++[c])) a=some (.tup l):=fun a l e=>by rw [jH (fun z=>by rw [z,er] at e;cases e)];exact e
 refine ⟨qI h.rn h.sm,h.rn,⟨_,jG,hks.snoc tk hc hc8⟩,?_,fun y hy=>?_⟩
 ·rw [List.nodup_append]
  exact ⟨h.nd,by simp,fun a ha b hb e=>by cases List.mem_singleton.mp hb;subst e;exact hn ha⟩
 ·rcases List.mem_append.mp hy with hy|hy
  ·exact h.dom y hy
  ·rw [List.mem_singleton.mp hy];exact hd
def Z2 (w:World):Sp:=fun vs H Q _=>∃(l dT:Addr) (T:jK) (ls:List Addr) (m n c:Nat) (xs:List V) (lay:List GK),vs=[.ref l,.ref dT]∧TabR w H dT T ls∧TabOk m n c T∧n≤1000∧H l=some (.lst xs)∧KeysAt H xs lay∧(∀k∈lay,(jN T k).isSome=true)∧
 ∀r ys H',Same H H'→H r=none→H' r=some (.lst ys)→KeysAt H' ys (kH T [] [] lay)→Q (.ref r) H'
structure MetAt (w:World) (H:Hp) (d:Addr) (met:List GK):Prop where
 ex:∃kvs,H d=some (GO w d kvs)∧GOk H kvs∧kvs.map (·.1)=met
theorem MetAt.same {w:World} {H H':Hp} {d:Addr} {met:List GK} (s:Same H H') (h:MetAt w H d met):MetAt w H' d met:=by
 obtain ⟨kvs,e1,g,e2⟩:=h.ex
 exact ⟨kvs,s _ _ e1,qL s g,e2⟩
theorem AS {w:World} {H:Hp} {d:Addr} {k:GK} {y v:V} (e:H d=some (GO w d [(k,y,v)])) (hy:(GV H k).1 y) (h8:gd k≤8):MetAt w H d [k]:=by
 refine ⟨_,e,⟨fun p hp=>?_,fun p hp=>?_,by simp⟩,rfl⟩
 ·cases List.mem_singleton.mp hp;exact hy
 ·cases List.mem_singleton.mp hp;exact h8
theorem MetAt.put {w:World} {H:Hp} {d:Addr} {met:List GK} {kvs:List jS} {k:GK} {y v:V} (e1:H d=some (GO w d kvs)) (g:GOk H kvs) (e2:kvs.map (·.1)=met) (hk:k∉met) (hy:(GV H k).1 y) (h8:gd k≤8):MetAt w (jC H d (GO w d (qJ kvs k y v))) d (met++[k]):=by
 have tk:∀a l,H a=some (.tup l)→jC H d (GO w d (qJ kvs k y v)) a=some (.tup l):=fun a l e=>by rw [jH (fun z=>by rw [z,e1] at e;cases e)];exact e
 refine ⟨_,jG,(g.set hy h8).keep tk,?_⟩
 rw [w6 (by rw [e2];exact hk),List.map_append,e2];rfl
theorem MetAt.keep {w:World} {H:Hp} {d lr:Addr} {met:List GK} {xs:List V} {o:HO} (h:MetAt w H d met) (e:H lr=some (.lst xs)):MetAt w (jC H lr o) d met:=by
 obtain ⟨kvs,e1,g,e2⟩:=h.ex
 have tk:∀a l,H a=some (.tup l)→jC H lr o a=some (.tup l):=fun a l e'=>by rw [jH (fun z=>by rw [z,e] at e';cases e')];exact e'
 exact ⟨kvs,by rw [jH (fun z=>by rw [z,e] at e1;cases e1)];exact e1,g.keep tk,e2⟩
def iR (w:World):Sp:=fun vs H Q _=>∃(y:V) (dT dM:Addr) (T:jK) (ls:List Addr) (M:GK→Bool) (m n c:Nat) (k0:GK),vs=[y,.ref dT,.ref dM]∧TabR w H dT T ls∧TabOk m n c T∧n≤1000∧MarkAt w H dM T M∧(GV H k0).1 y∧(jN T k0).isSome=true∧
 ∀N lr H',(∀j,j<N→¬dN T M k0 j)→dN T M k0 N→Same H H'→LayersAt H' lr (kB T k0 N)→Q (.ref lr) H'
def rC (w:World) (H:Hp) (y:V) (dT dM lr dm:Addr) (T:jK) (M:GK→Bool) (k0:GK) (m:Nat) (σ:St) (Hi:Hp):Prop:=∃i c5 c6,σ=[some y,some (.ref dT),some (.ref dM),some (.ref lr),some (.ref dm),c5,c6]∧m+(kB T k0 i).flatten.length=1000∧(∀j,j<i→¬dN T M k0 j)∧Same H Hi∧MetAt w Hi dm (kB T k0 i).flatten∧LayersAt Hi lr (kB T k0 i)
abbrev Gr:=(GK→List (GK×GK))×(GK→Prop)
def kR (T:jK):Gr:=(fun k=>vS T k,fun k=>(jN T k).isSome=true)
def QE (spA:Addr→Sp) (H0:Hp) (f:Addr) (T:Gr):Prop:=∀(H:Hp) (y:V) (k:GK) (Q:VK) (E:XK),Same H0 H→T.2 k→(GV H k).1 y→(∀(r:Addr) (zs:List V) (H':Hp),Same H H'→H' r=some (.lst zs)→PairsAt H' zs (T.1 k)→Q (.ref r) H')→spA f [y] H Q E
def ZR (T:Gr):Prop:=∀k p,T.2 k→p∈T.1 k→T.2 p.2
def bN (T:Gr):Prop:=∀S:List GK,S.Nodup→(∀k∈S,T.2 k)→S.length≤70
theorem vW {H H':Hp} {a:Addr} (s:Same H H') (h:H' a=none):H a=none:=by
 cases e:H a with
 |none=>rfl
 |some o=>rw [s _ _ e] at h;cases h
theorem keys_setW (kvs:List jS) (k:GK) (y v:V):(qJ kvs k y v).map (·.1)=qC (kvs.map (·.1)) k:=by
 unfold qJ qC
 by_cases h:k∈kvs.map (·.1)
 ·obtain ⟨p,hp,e⟩:=List.mem_map.mp h
  rw [if_pos h,if_pos (List.any_eq_true.mpr ⟨p,hp,decide_eq_true e⟩),List.map_map]
  refine List.map_congr_left fun x _=>?_
  show (if x.1=k then (x.1,x.2.1,v) else x).1=x.1
  split<;>rfl
 ·rw [if_neg h,if_neg (fun z=>by obtain ⟨p,hp,e⟩:=List.any_eq_true.mp z;exact h (List.mem_map.mpr ⟨p,hp,of_decide_eq_true e⟩)),List.map_append]
  rfl
def vX (ks fs:List GK):Bool := !ks.isEmpty&&(decide (ks.length=fs.length)&&zB (jX ks) (jX fs))
theorem i6 {H H':Hp} {xs:List V} {ks:List GK} (s:Same H H') (h:zZ H xs ks):zZ H' xs ks:=⟨h.1,h.2.1,h.2.2.1,fun j v k a b=>jQ s (h.2.2.2 j v k a b)⟩
def m7:Sp:=fun vs H Q _=>∃(a b:Addr) (xs ys:List V) (ks fs:List GK),vs=[.ref a,.ref b]∧H a=some (.lst xs)∧H b=some (.lst ys)∧zZ H xs ks∧zZ H ys fs∧∀H',Same H H'→Q (.bl (vX ks fs)) H'
def qH (T:Gr) (ks:List GK):List GK:=ks.flatMap fun k=>(T.1 k).map (·.2)
structure BehIn (w:World) (H Hi:Hp) (dc:Addr) (S:List GK):Prop where
 keep:Same H Hi
 new:H dc=none
 ex:∃kvs,Hi dc=some (GO w dc kvs)∧GOk Hi kvs∧kvs.map (·.1)=S
def CY (T:Gr) (ks:List GK):Prop:=∀k∈ks,T.2 k
def fF (w:World) (spA:Addr→Sp):Sp:=fun vs H Q _=>∃(l fa:Addr) (T:Gr) (xs:List V) (ks:List GK),vs=[.ref l,.ref fa]∧QE spA H fa T∧H l=some (.lst xs)∧KeysAt H xs ks∧(∀k∈ks,T.2 k)∧ZR T∧bN T∧CY T ks∧
 ∀r ys H',Same H H'→H r=none→H' r=some (.lst ys)→KeysAt H' ys (jX (qH T ks))→Q (.ref r) H'
theorem Z4 {H:Hp} {xs ys:List V} {ks fs:List GK} (h1:KeysAt H xs ks) (h2:KeysAt H ys fs):KeysAt H (xs++ys) (ks++fs):=by
 refine ⟨by rw [List.length_append,List.length_append,h1.1,h2.1],fun i v hv=>?_⟩
 by_cases c:i<xs.length
 ·rw [List.getElem?_append_left c] at hv
  obtain ⟨k,hk,h⟩:=h1.2 i v hv
  exact ⟨k,by rw [List.getElem?_append_left (by rw [← h1.1];exact c)];exact hk,h⟩
 ·rw [List.getElem?_append_right (by omega)] at hv
  obtain ⟨k,hk,h⟩:=h2.2 _ v hv
  exact ⟨k,by rw [List.getElem?_append_right (by rw [← h1.1];omega),← h1.1];exact hk,h⟩
theorem fR {H:Hp} {xs:List V} {ks:List GK} (h:KeysAt H xs ks):dS H xs ks:=⟨h.1,fun j v k a b=>by
 obtain ⟨k',e,g,d⟩:=h.2 j v a
 obtain rfl:k'=k:=Option.some.inj (e.symm.trans b)
 exact ⟨g,d⟩⟩
theorem mJ {H:Hp} {v:V} {k:GK} (h:(GV H k).1 v) (h8:gd k≤8):dS H [v] [k]:=⟨rfl,fun j v' k' a b=>by
 cases j with
 |zero=>cases a;cases b;exact ⟨h,h8⟩
 |succ j=>cases a⟩
theorem nU {H:Hp} {xs:List V} {ks:List GK} (h:KeysAt H xs ks) (ht:∀k∈ks,gd k≤8) (h70:ks.length≤70):zZ H xs ks:=⟨h.1,by rw [h.1];exact h70,ht,fun j v k a b=>((fR h).2 j v k a b).1⟩
theorem yS (ks:List GK):(jX ks).Nodup:=by
 have key:∀(ks S:List GK),S.Nodup→(ks.foldl qC S).Nodup:=by
  intro ks
  induction ks with
  |nil=>exact fun S h=>h
  |cons k ks ih =>
   intro S h
   refine ih _ ?_
   unfold qC
   split
   ·exact h
   ·rename_i hk
    rw [List.nodup_append]
    exact ⟨h,by simp,fun a ha b hb e=>hk (by rw [List.mem_singleton] at hb;rw [← hb,← e];exact ha)⟩
 exact key ks [] List.nodup_nil
theorem t8 {ks:List GK} {j:Nat} {k:GK} (h:ks.Nodup) (hk:ks[j]?=some k):k∉ks.take j:=fun z=>by
 obtain ⟨i,hi⟩:=List.mem_iff_getElem?.mp z
 have hij:i<j:=by have:=(List.getElem?_eq_some_iff.mp hi).1;rw [List.length_take] at this;omega
 rw [List.getElem?_take_of_lt hij] at hi
 have:=(List.getElem?_inj (List.getElem?_eq_some_iff.mp hi).1 h).mp (hi.trans hk.symm)
 omega
noncomputable def qZ (T:Gr) (P prev:List GK):List GK:=(jX (qH T prev)).filter fun k=>decide (k∉P)
noncomputable def zY (T:Gr):List GK→List GK→List (List GK)→Bool
 |_,_,[]=>true
 |P,prev,l::r=>vX l (qZ T P prev)&&zY T (P++qZ T P prev) l r
noncomputable def JN (T:Gr) (k0:GK):List (List GK)→Bool
 |[]=>false
 |l::r=>decide (l=[k0])&&zY T [k0] l r
def eE (w:World) (spA:Addr→Sp):Sp:=fun vs H Q _=>∃(y:V) (fa ll:Addr) (T:Gr) (k0:GK) (LL:List (List GK)),vs=[y,.ref fa,.ref ll]∧(GV H k0).1 y∧T.2 k0∧QE spA H fa T∧ZR T∧bN T∧(∀k,T.2 k→gd k≤8)∧LayersAt H ll LL∧(∀k∈LL.flatten,T.2 k)∧LL.length≤50∧(∀lay∈LL,lay.length≤70)∧
 ∀H',Same H H'→Q (.bl (JN T k0 LL)) H'
theorem lG {H Hi H5:Hp} {D:Addr} {caps:St} {R:Nat→List V→Hp→Prop} {i:Nat} {ys:List V} {c:Option V} {v:V} (hD:H D=none) (s:Same H Hi) (hY:Hi D=some (.lst ys)) (hl:ys.length≤i) (hi:i≤1000000) (s5:Same Hi H5)
  (r:R (i+1) (ys++[v]) (jC H5 D (.lst (ys++[v])))):∃zs,H5 D=some (.lst zs)∧zs.length<sizeLine∧zK H D caps R (i+1) (c::caps) (jC H5 D (.lst (zs++[v]))):=by
 refine ⟨ys,s5 _ _ hY,by rw [sizeLine_eq];omega,ys++[v],c,rfl,qI hD (s.trans s5),jG,?_,r⟩
 rw [List.length_append,List.length_singleton];omega
def ZS (spE:Addr→Sp) (H0:Hp) (f:Addr) (T:Gr) (M:GK→Bool):Prop:=∀(H:Hp) (y:V) (k:GK) (Q:VK) (E:XK),Same H0 H→T.2 k→(GV H k).1 y→(∀H',Same H H'→Q (.bl (M k)) H')→spE f [y] H Q E
def zV (T:Gr) (k de:GK):List GK:=((T.1 k).filter fun p=>decide (p.1=de)).map (·.2)
def vE (T:Gr):GK→List GK→Option GK
 |k,[]=>some k
 |k,de::r=>match zV T k de with
  |[]=>none
  |k'::_=>vE T k' r
def JJ (T:Gr) (M:GK→Bool) (k:GK) (r:List GK):Bool:=match vE T k r with
 |none=>false
 |some k'=>M k'
theorem eQ (T:Gr):∀(a b:List GK) (k:GK),vE T k (a++b)=(vE T k a).bind fun k'=>vE T k' b
 |[],b,k=>rfl
 |de::a,b,k=>by
  rw [List.cons_append,vE,vE]
  cases zV T k de with
  |nil=>rfl
  |cons k' r=>exact eQ T a b k'
theorem tT {T:Gr} {k ki de:GK} {ks:List GK} {i:Nat} (hw:vE T k (ks.take i)=some ki) (hd:ks[i]?=some de) (hb:zV T ki de=[]):vE T k ks=none:=by
 obtain ⟨hlt,he⟩:=List.getElem?_eq_some_iff.mp hd
 have e:ks=ks.take i++de::ks.drop (i+1):=by rw [← he,← List.drop_eq_getElem_cons hlt,List.take_append_drop]
 rw [e,eQ,hw]
 show vE T ki (de::_)=none
 rw [vE,hb]
theorem tU {T:Gr} {k ki de k':GK} {ks r:List GK} {i:Nat} (hw:vE T k (ks.take i)=some ki) (hd:ks[i]?=some de) (hb:zV T ki de=k'::r):vE T k (ks.take (i+1))=some k':=by
 rw [List.take_add_one,hd,eQ,hw]
 show vE T ki [de]=some k'
 rw [vE,hb]
 rfl
def lQ (spA spE:Addr→Sp) (K:W.Frag):Sp:=fun vs H Q _=>∃(y:V) (fa fe rl:Addr) (T:Gr) (M:GK→Bool) (k:GK) (row:List V) (ks:List GK),vs=[y,.ref fa,.ref fe,.ref rl]∧
 QE spA H fa T∧ZS spE H fe T M∧ZR T∧(∀k,(T.1 k).length≤900)∧(GV H k).1 y∧T.2 k∧H rl=some (.lst row)∧KeysAt H row ks∧row.length≤900∧∀H',Same H H'→Q (.bl (JJ T M k ks)) H'
def fE:Sp:=fun vs H Q _=>∃(ll:Addr) (LL:List (List GK)),vs=[.ref ll]∧LayersAt H ll LL∧LL.flatten.length≤3000∧
 ∀r ys H',Same H H'→H r=none→H' r=some (.lst ys)→KeysAt H' ys LL.flatten→Q (.ref r) H'
def eJ (spE:Addr→Sp):Sp:=fun vs H Q _=>∃(ll fe:Addr) (LL:List (List GK)) (T:Gr) (M:GK→Bool),vs=[.ref ll,.ref fe]∧LayersAt H ll LL∧ZS spE H fe T M∧(∀k∈LL.flatten,T.2 k)∧LL.flatten.length≤3000∧∀H',Same H H'→Q (.bl (!LL.flatten.any M)) H'
theorem CT {A B:Type}:∀{a:List A} {b:List B},a.length=b.length→a.isEmpty=b.isEmpty
 |[],[],_=>rfl
 |_::_,_::_,_=>rfl
theorem PairsK.snoc {H H':Hp} {xs:List V} {ks:List GK} {t:Addr} {y b:V} {k:GK} (h:PairsK H xs ks) (hk:∀a l,H a=some (.tup l)→H' a=some (.tup l)) (ht:H' t=some (.tup [y,b])) (hv:(GV H k).1 y) (h8:gd k≤8):PairsK H' (xs++[.ref t]) (ks++[k]):=by
 refine ⟨by rw [List.length_append,List.length_append,h.1];rfl,fun i x e=>?_⟩
 by_cases hi:i<xs.length
 ·rw [List.getElem?_append_left hi] at e
  obtain ⟨t',y',b',k',e1,e2,e3,e4,e5⟩:=h.2 i x e
  exact ⟨t',y',b',k',e1,by rw [List.getElem?_append_left (by rw [← h.1];exact hi)];exact e2,hk _ _ e3,(GV.keep hk k').1 _ e4,e5⟩
 ·rw [List.getElem?_append_right (by omega)] at e
  obtain ⟨h1,h2⟩:=List.getElem?_eq_some_iff.mp e
  have hz:i - xs.length=0:=by rw [List.length_singleton] at h1;omega
  rw [hz] at e
  cases e
  exact ⟨t,y,b,k,rfl,by rw [List.getElem?_append_right (by rw [← h.1];omega),← h.1,hz];rfl,ht,(GV.keep hk k).1 _ hv,h8⟩
noncomputable def y7 (T:Gr) (k0:GK) (M:GK→Bool) (LL:List (List GK)):Bool:=JN T k0 LL&&((jX (qH T (LL.getLast?.getD []))).filter (fun k=>decide (k∉jX LL.flatten))).isEmpty && !LL.flatten.any M
def lR (w:World) (spA spE:Addr→Sp):Sp:=fun vs H Q _=>∃(y:V) (fa fe ll:Addr) (T:Gr) (k0:GK) (M:GK→Bool) (LL:List (List GK)),vs=[y,.ref fa,.ref fe,.ref ll]∧(GV H k0).1 y∧T.2 k0∧QE spA H fa T∧ZR T∧bN T∧ZS spE H fe T M∧(∀k,T.2 k→gd k≤8)∧LayersAt H ll LL∧(∀k∈LL.flatten,T.2 k)∧LL.length≤50∧LL.flatten.length≤3000∧(∀lay∈LL,lay.length≤70)∧
 ∀H',Same H H'→Q (.bl (y7 T k0 M LL)) H'
noncomputable def yJ (T:Gr) (k0:GK) (M:GK→Bool) (LL:List (List GK)) (ks:List GK):Bool:=JN T k0 LL&&JJ T M k0 ks&&decide (ks.length+1=LL.length) && !LL.dropLast.flatten.any M
def m8 (w:World) (spA spE:Addr→Sp):Sp:=fun vs H Q _=>∃(y:V) (fa fe rl ll:Addr) (T:Gr) (k0:GK) (M:GK→Bool) (LL:List (List GK)) (row:List V) (ks:List GK),vs=[y,.ref fa,.ref fe,.ref rl,.ref ll]∧(GV H k0).1 y∧T.2 k0∧QE spA H fa T∧ZR T∧bN T∧(∀k,(T.1 k).length≤900)∧ZS spE H fe T M∧(∀k,T.2 k→gd k≤8)∧LayersAt H ll LL∧(∀k∈LL.flatten,T.2 k)∧LL.length≤50∧LL.flatten.length≤3000∧(∀lay∈LL,lay.length≤70)∧
 H rl=some (.lst row)∧KeysAt H row ks∧row.length≤900∧∀H',Same H H'→Q (.bl (yJ T k0 M LL ks)) H'
theorem mQ {xs:List V}:kP xs none (some (-1))=xs.take (xs.length - 1):=by
 unfold kP
 rw [HT.sIx_none,List.drop_zero,Nat.sub_zero]
 congr 1
 show (if (-1:Int)<0 then (-1+(xs.length:Int)).toNat else min (-1:Int).toNat xs.length)=xs.length - 1
 rw [if_pos (by decide)]
 omega
theorem tD (L f:Addr) (cd:Value):closureFor (jF jY) (PyProof.Rows.envOfC "law" (jF v9) L f cd)=pure [(("_law_table_here":Str),L+2)]:=rfl
theorem s0 (L f:Addr) (cd:Value):closureFor (jF j6) (PyProof.Rows.envOfC "law" (jF v9) L f cd)=pure [(("_law_marks_here":Str),L+1)]:=rfl
structure Txt (K:W.Frag) (mg:Str→Option Value) : Prop where
 z_list:mg "list"=none
 z_set:mg "set"=none
 z_len:mg "len"=none
 z_range:mg "range"=none
 z_any:mg "any"=none
 z_dict:mg "dict"=none
 z_str:mg "str"=none
 z_isinstance:mg "isinstance"=none
 z_bool:mg "bool"=none
set_option maxHeartbeats 4000000
section
variable {P:Program} {w:World} {K:W.Frag} {mg:Str→Option Value} {base:Heap}
theorem sL:CloScope ["_law_state","_law_table_here"] ["_law_state"] ["_law_table_here"] (jF jY):=⟨rfl,rfl,rfl,by decide +kernel,rfl,by decide +kernel,by decide +kernel,o0 (by decide +kernel),by decide +kernel⟩
theorem rD (T:Txt K mg) : FnV P w K mg base kC 3 (kS "law.<locals>._law_ahead" (jT jY) (jR jY) (jF jY) ["_law_state"] ["_law_table_here"] (vH w)):=by
 refine o6 sL (fun _ _ _ _ _ _ _ us hl=>match us,hl with|[_],_=>rfl) fun A outer s H f cdv cl fvs vs Q E hcl hr hc h=>?_
 obtain ⟨y,d,T0,ls,k,ps,rfl,rfl,hd,hT,hy,hk,q⟩:=h
 have hu:_<cLine:=hr.units0
 have hu1:=qB hr
 have hu9:=qT hr
 have hu10:=qR hr
 refine ⟨_,(@jI _ _ _ (@j0 _ _ _ _ (vV hu9 (pv 1) (pv 0) (fun _ _=>rfl)))),?_⟩
 obtain ⟨kvs,e1,g,_,e3⟩:=hT.ex
 obtain ⟨l,xs,f1,f2,f3⟩:=e3 k ps hk
 refine (jA rfl (jA rfl (⟨d,kvs,k,jA rfl (⟨BW hd e1,g.keep (cP hc),(GV.keep (cP hc) k).1 _ hy,hT.deep k ps hk,f1,fun _=>?_⟩)⟩)))
 rw [oJ]
 exact q l xs f2 f3
theorem sM:CloScope ["_law_state","_law_marks_here"] ["_law_state"] ["_law_marks_here"] (jF j6):=⟨rfl,rfl,rfl,by decide +kernel,rfl,by decide +kernel,by decide +kernel,o0 (by decide +kernel),by decide +kernel⟩
theorem rE (T:Txt K mg) : FnV P w K mg base kC 3 (kS "law.<locals>._law_ended" (jT j6) (jR j6) (jF j6) ["_law_state"] ["_law_marks_here"] (yA w)):=by
 refine o6 sM (fun _ _ _ _ _ _ _ us hl=>match us,hl with|[_],_=>rfl) fun A outer s H f cdv cl fvs vs Q E hcl hr hc h=>?_
 obtain ⟨y,d,T0,M,k,rfl,rfl,hd,hM,hy,h8,hk,q⟩:=h
 have hu:_<cLine:=hr.units0
 have hu1:=qB hr
 have hu9:=qT hr
 have hu10:=qR hr
 refine ⟨_,(@jI _ _ _ (@j0 _ _ _ _ (vV hu9 (pv 1) (pv 0) (fun _ _=>rfl)))),?_⟩
 obtain ⟨kvs,e1,g,e3⟩:=hM.ex
 refine (jA rfl (jA rfl (⟨d,kvs,k,jA rfl (⟨.of (by rw [qY hd];exact e1),g.keep (cP hc),(GV.keep (cP hc) k).1 _ hy,h8,e3 k hk,fun _=>?_⟩)⟩)))
 rw [oJ]
 exact q
theorem ZV:FnScope ["first","ahead","ended","row","state","deed","behind"] ["first","ahead","ended","row"] (jF J0):=⟨rfl,rfl,rfl,by decide +kernel,rfl,by decide +kernel,by decide +kernel⟩
theorem sD {f:Addr} {fd:FuncData} (F:Fun K "row_holds" "row_holds" J0 f fd) (T:Txt K mg) (V__law_ahead:FnV P w K mg base kC 3 (kS "law.<locals>._law_ahead" (jT jY) (jR jY) (jF jY) ["_law_state"] ["_law_table_here"] (vH w))) (V__law_ended:FnV P w K mg base kC 3 (kS "law.<locals>._law_ended" (jT j6) (jR j6) (jF j6) ["_law_state"] ["_law_marks_here"] (yA w))):FnOk P w K mg base kC 6 f fd ["first","ahead","ended","row"] (lQ (kS "law.<locals>._law_ahead" (jT jY) (jR jY) (jF jY) ["_law_state"] ["_law_table_here"] (vH w)) (kS "law.<locals>._law_ended" (jT j6) (jR j6) (jF j6) ["_law_state"] ["_law_marks_here"] (yA w)) K):=by
 refine F.ok ZV (fun vs H Q E h=>?_) (fun cdv A outer s H vs Q E hr h=>?_)
 ·obtain ⟨y,fa,fe,rl,T0,M,k,row,ks,rfl,hA,hE,hsh,hfew,hy,hk,hrl,hks,h900,q⟩:=h
  rfl
 obtain ⟨y,fa,fe,rl,T0,M,k,row,ks,rfl,hA,hE,hsh,hfew,hy,hk,hrl,hks,h900,q⟩:=h
 have hu:_<cLine:=hr.units0
 have hu1:=qB hr
 have hu9:=qT hr
 have hu10:=qR hr
 refine ⟨_,(@jJ _ _ _ _ _ (jV (i:=4) ZV.nd rfl (by first|exact Or.inl rfl|exact Or.inr rfl) (pv 0))
   (@jJ _ _ _ _ _ (qE PassesOwn.never rfl (kO (pv 3)) (kD (i:=5) ZV.nd rfl (by first|exact Or.inl rfl|exact Or.inr rfl))
    (@jJ _ _ _ _ _ (yR (i:=6) ["told","come_to","deed"] (vA 2 [5]) ZV.nd rfl (by first|exact Or.inl rfl|exact Or.inr rfl) rfl (vN (jF J0) rfl rfl (by decide +kernel) (by decide +kernel) (by decide +kernel)) (vO 2 [5] rfl rfl (by decide +kernel)) (kO (cH (i:=1) V__law_ahead (hr.mono (by decide)) bE rfl (by first|exact .inl rfl|exact .inr rfl|exact .inr (.inl rfl)|exact .inr (.inr rfl)) (jB (pv 4) jD))) (fun _ _ _ _ _=>(AJ (n:=2) K rfl (cG (kD (i:=0) (show List.Nodup (["told","come_to","deed"]:List Str) from by decide +kernel) rfl (by first|exact Or.inl rfl|exact Or.inr rfl)) (cG (kD (i:=1) (show List.Nodup (["told","come_to","deed"]:List Str) from by decide +kernel) rfl (by first|exact Or.inl rfl|exact Or.inr rfl)) nI)))) (fun _ _ _ _ _=>(zU (j5 (gA hu9) (pv 0) (pv 2) (jW _)))) (fun _ _ _ _ _=>(pv 1)))
   (@jJ _ _ _ _ _ (j8 (zJ (mB (pv 6) (fun _=>rfl))) (@jI _ _ _ (@j0 _ _ _ _ kY)) j7)
   (@jI _ _ _ (jV (i:=4) ZV.nd rfl (by first|exact Or.inl rfl|exact Or.inr rfl) (j4 kG (pv 6) jE (fun _ _=>rfl)))))))
   (@jI _ _ _ (@j0 _ _ _ _ (cH (i:=2) V__law_ended (hr.mono (by decide)) bE rfl (by first|exact .inl rfl|exact .inr rfl|exact .inr (.inl rfl)|exact .inr (.inr rfl)) (jB (pv 4) jD)))))),?_⟩
 refine (jA rfl (jA rfl (⟨rl,rfl,⟨_,SqL.of hrl⟩,?_⟩)))
 refine qX (K:=K) (xs:=row) (fun i σ Hi=>∃yi ki c5 c6,σ=[some y,some (.ref fa),some (.ref fe),some (.ref rl),some yi,c5,c6]∧Same H Hi∧(GV Hi ki).1 yi∧T0.2 ki∧vE T0 k (ks.take i)=some ki) ⟨y,k,none,none,rfl,Same.refl _,hy,hk,rfl⟩ (fun i σ Hi _ ⟨_,_,_,_,_,s,_⟩=>SqL.of (s _ _ hrl)) ?_ ?_
 ·rintro i x σ Hi hx ⟨yi,ki,c5,c6,rfl,s,hyi,hki,hw⟩
  obtain ⟨de,hde,hxk,hx8⟩:=hks.2 i x hx
  refine ⟨fa,rfl,jA rfl (hA _ _ ki _ _ s hki hyi fun p xs HP sp hpl hP1=>⟨p,rfl,⟨_,SqL.of hpl⟩,fun bt hbt=>?_⟩)⟩
  have few:=hfew ki
  have hxl:=hP1.1
  refine uF (K:=K) (a:=p) (xs:=xs) (caps:=[some x]) (fun j ys Hj=>KeysAt Hj ys ((((T0.1 ki).take j).filter fun z=>decide (z.1=de)).map (·.2))) hbt (SqL.of hpl) ⟨rfl,fun i x e=>by cases e⟩ (fun j z hz=>?_) ?_ ?_
  ·obtain ⟨pr,a,b,c,_,e2,e3,_⟩:=hP1.2 j z hz
   exact ⟨a,b,c,e2,e3⟩
  ·rintro j t b c ys Hj hz et hj hle sm hY hR
   obtain ⟨pr,a,b',c',e1,e2,e3,e4,e5,e6,e7⟩:=hP1.2 j _ hz
   cases e2
   rw [et] at e3;cases e3
   refine (jA rfl (jA rfl (⟨pr.1,de,jQ sm e4,jQ ((s.trans sp).trans sm) hxk,e6,jA rfl (?_)⟩)))
   have ht:((T0.1 ki).take (j+1))=(T0.1 ki).take j++[pr]:=by rw [List.take_add_one,e1];rfl
   by_cases hd:pr.1=de
   ·rw [decide_eq_true hd]
    refine j9 (jA rfl (⟨_,hY,vG (by omega),ys++[c],_,jA rfl (⟨qI hbt sm,jG,by rw [List.length_append,List.length_singleton];omega,?_⟩)⟩))
    show KeysAt _ _ ((((T0.1 ki).take (j+1)).filter fun z=>decide (z.1=de)).map (·.2))
    rw [ht,List.filter_append,List.map_append,List.filter_cons,if_pos (decide_eq_true hd)]
    exact hR.snoc (k:=pr.2) (fun a l e=>by rw [jH fun z=>by subst z;rw [hY] at e;cases e];exact e) (jQ sm e5) e7
   ·rw [decide_eq_false hd]
    refine kE ⟨ys,_,jA rfl (⟨sm,hY,by omega,?_⟩)⟩
    show KeysAt _ _ ((((T0.1 ki).take (j+1)).filter fun z=>decide (z.1=de)).map (·.2))
    rw [ht,List.filter_append,List.map_append,List.filter_cons,if_neg (by simpa using hd)]
    simpa using hR
  rintro ys Hg sg hbtg hleg hR
  have hb:((((T0.1 ki).take xs.length).filter fun z=>decide (z.1=de)).map (·.2))=zV T0 ki de:=by
   rw [hP1.1,List.take_length];rfl
  rw [hb] at hR
  have sF:=(s.trans sp).trans sg
  refine (jA rfl (?_))
  cases hbh:zV T0 ki de with
  |nil =>
   rw [hbh] at hR
   obtain rfl:ys=[]:=List.eq_nil_of_length_eq_zero hR.1
   refine ⟨false,.inl ⟨_,SqL.of hbtg,rfl⟩,j9 ?_⟩
   have:=q Hg sF
   rw [JJ,tT hw hde hbh] at this
   exact this
  |cons k' r =>
   rw [hbh] at hR
   cases ys with
   |nil=>exact absurd hR.1 (by simp)
   |cons y' ys' =>
    obtain ⟨k2,e1,e2,e3⟩:=hR.2 0 y' rfl
    cases e1
    refine ⟨true,.inl ⟨_,SqL.of hbtg,rfl⟩,kE (jA rfl (⟨bt,_,0,y',rfl,rfl,SqL.of hbtg,kK (j:=0) rfl,y',k',_,jA rfl (⟨sF,e2,?_,tU hw hde hbh⟩)⟩))⟩
    have hin:k'∈zV T0 ki de:=by rw [hbh];exact List.mem_cons_self
    unfold zV at hin
    obtain ⟨pr,hm,rfl⟩:=List.mem_map.mp hin
    exact hsh ki pr hki (List.mem_filter.mp hm).1
 ·rintro σ Hf ⟨yi,ki,c5,c6,rfl,s,hyi,hki,hw⟩
  rw [hks.1,List.take_length] at hw
  refine ⟨fe,rfl,jA rfl (hE _ _ ki _ _ s hki hyi fun He se=>?_)⟩
  have:=q He (s.trans se)
  rw [JJ,hw] at this
  exact this
theorem ZT:FnScope ["layer","ahead","behind","state","deed","come_to"] ["layer","ahead"] (jF QX):=⟨rfl,rfl,rfl,by decide +kernel,rfl,by decide +kernel,by decide +kernel⟩
theorem rY {f:Addr} {fd:FuncData} (F:Fun K "come_to_from" "come_to_from" QX f fd) (T:Txt K mg) (V__law_ahead:FnV P w K mg base kC 3 (kS "law.<locals>._law_ahead" (jT jY) (jR jY) (jF jY) ["_law_state"] ["_law_table_here"] (vH w))):FnOk P w K mg base kC 5 f fd ["layer","ahead"] (fF w (kS "law.<locals>._law_ahead" (jT jY) (jR jY) (jF jY) ["_law_state"] ["_law_table_here"] (vH w))):=by
 refine F.ok ZT (fun vs H Q E h=>?_) (fun cdv A outer s H vs Q E hr h=>?_)
 ·obtain ⟨l,fa,T0,xs,ks,rfl,hA,hl,hks,hdom,hshut,hfew,_,q⟩:=h
  rfl
 obtain ⟨l,fa,T0,xs,ks,rfl,hA,hl,hks,hdom,hshut,hfew,_,q⟩:=h
 have hu:_<cLine:=hr.units0
 have hu1:=qB hr
 have hu9:=qT hr
 have hu10:=qR hr
 refine ⟨_,(@jJ _ _ _ _ _ (jV (i:=2) ZT.nd rfl (by first|exact Or.inl rfl|exact Or.inr rfl) Z8)
   (@jJ _ _ _ _ _ (qE PassesOwn.never rfl (kO (pv 0)) (kD (i:=3) ZT.nd rfl (by first|exact Or.inl rfl|exact Or.inr rfl))
    (@jI _ _ _ (qE PassesOwn.never rfl (kO (cH (i:=1) V__law_ahead (hr.mono (by decide)) bE rfl (by first|exact .inl rfl|exact .inr rfl|exact .inr (.inl rfl)|exact .inr (.inr rfl)) (jB (pv 3) jD))) (oW rfl (cG (kD (i:=4) ZT.nd rfl (by first|exact Or.inl rfl|exact Or.inr rfl)) (cG (kD (i:=5) ZT.nd rfl (by first|exact Or.inl rfl|exact Or.inr rfl)) nI)))
    (@jI _ _ _ (J6 hu9 (pv 2) (pv 5) kY rfl)))))
   (@jI _ _ _ (@j0 _ _ _ _ (xH rfl (by rfl) T.z_list (pv 2)))))),?_⟩
 refine fun dc hdc=>?_
 have u0:=jP hdc (GO w dc [])
 refine (jA rfl (⟨l,rfl,⟨_,SqL.of (u0 _ _ hl)⟩,?_⟩))
 refine qX (K:=K) (xs:=xs) (fun i σ Hi=>∃c3 c4 c5,σ=[some (.ref l),some (.ref fa),some (.ref dc),c3,c4,c5]∧BehIn w H Hi dc (jX (qH T0 (ks.take i)))) ⟨none,none,none,rfl,⟨u0,hdc,[],jG,⟨(fun p hp=>by cases hp),(fun p hp=>by cases hp),List.nodup_nil⟩,rfl⟩⟩ (fun i σ Hi _ ⟨_,_,_,_,hI⟩=>SqL.of (hI.keep l _ hl)) ?_ ?_
 ·rintro i x σ Hi hx ⟨c3,c4,c5,rfl,hI⟩
  obtain ⟨k,hk,hyk,h8⟩:=hks.2 i x hx
  have hps:=hdom k (List.mem_of_getElem? hk)
  refine ⟨fa,rfl,jA rfl (hA _ _ k _ _ hI.keep hps (jQ hI.keep hyk) fun p zs HP up hpl hPP=>⟨p,rfl,⟨_,SqL.of hpl⟩,?_⟩)⟩
  obtain ⟨kvsI,d1,gI,eI⟩:=hI.ex
  have pne:p≠dc:=fun z=>by rw [z,up _ _ d1] at hpl;cases hpl
  refine qX (K:=K) (a:=p) (xs:=zs) (fun j σ Hj=>∃c4 c5,σ=[some (.ref l),some (.ref fa),some (.ref dc),some x,c4,c5]∧BehIn w H Hj dc (jX (qH T0 (ks.take i)++((T0.1 k).take j).map (·.2)))∧(∀a o,a≠dc→HP a=some o→Hj a=some o)) ⟨c4,c5,rfl,⟨hI.keep.trans up,hI.new,kvsI,up _ _ d1,qL up gI,by rw [eI];simp⟩,fun _ _ _ e=>e⟩ (fun j σ Hj _ ⟨_,_,_,_,kp⟩=>SqL.of (kp p _ pne hpl)) ?_ ?_
  ·rintro j z σ Hj hz ⟨c4,c5,rfl,hJ,kp⟩
   obtain ⟨pr,t,b,c,p1,rfl,p3,p4,p5,p6,p7⟩:=hPP.2 j z hz
   have tkJ:∀a z,HP a=some (.tup z)→Hj a=some (.tup z):=fun a z e=>kp a _ (fun y=>by rw [y,up _ _ d1] at e;cases e) e
   obtain ⟨kvs,e1,g,e2⟩:=hJ.ex
   have ht:((T0.1 k).take (j+1)).map (·.2)=((T0.1 k).take j).map (·.2)++[pr.2]:=by rw [List.take_add_one,p1,List.map_append];rfl
   have hlen:kvs.length≤900:=by
    have h1:=hfew (kvs.map (·.1)) (by rw [e2];exact yS _) (fun x hx=>by
     rw [e2] at hx
     have hx:=metG_mem.mp hx
     rcases List.mem_append.mp hx with hx|hx
     ·obtain ⟨k1,hk1,h2⟩:=List.mem_flatMap.mp hx
      obtain ⟨p,hp,rfl⟩:=List.mem_map.mp h2
      exact hshut k1 p (hdom k1 (List.mem_of_mem_take hk1)) hp
     ·obtain ⟨p,hp,rfl⟩:=List.mem_map.mp hx
      exact hshut k p hps (List.mem_of_mem_take hp))
    rw [List.length_map] at h1
    omega
   refine ⟨t,[b,c],rfl,.inl (.inl (tkJ _ _ p3)),rfl,_,jA rfl (⟨_,_,rfl,rfl,jA rfl (jA rfl ((yG dc kvs pr.2 (an7 rfl e1 g ((GV.keep tkJ _).1 _ p5) p7 (zW (by omega)) (?_)))))⟩)⟩
   have k9:∀a o,a≠dc→Hj a=some o→jC Hj dc (GO w dc (qJ kvs pr.2 c (.bl true))) a=some o:=fun a o n e=>by rw [jH n];exact e
   refine ⟨_,jA rfl (⟨⟨fun a o e=>k9 a o (yZ e hJ.new) (hJ.keep a o e),hJ.new,_,jG,?_,?_⟩,fun a o n e=>k9 a o n (kp a o n e)⟩)⟩
   ·exact (GOk.set g ((GV.keep tkJ _).1 _ p5) p7).keep fun a l e=>k9 a _ (fun y=>by rw [y,e1] at e;cases e) e
   ·rw [keys_setW,e2,ht,← List.append_assoc,i4]
  rintro σ Hj ⟨c4,c5,rfl,hJ,kp⟩
  rw [hPP.1,List.take_length] at hJ
  refine ⟨_,_,jA rfl (?_)⟩
  have hs:qH T0 (ks.take (i+1))=qH T0 (ks.take i)++(T0.1 k).map (·.2):=by unfold qH;rw [List.take_add_one,hk,List.flatMap_append];simp
  rw [hs]
  exact hJ
 rintro σ Hi ⟨c3,c4,c5,rfl,hI⟩
 rw [hks.1,List.take_length] at hI
 obtain ⟨kvs,e1,g,e2⟩:=hI.ex
 refine (jA rfl (⟨dc,kvs,rfl,e1,fun r hr=>?_⟩))
 have u:=jP hr (.lst (kvs.map (·.2.1)))
 refine q r _ _ (hI.keep.trans u) (vW hI.keep hr) jG ⟨by rw [← e2,List.length_map,List.length_map],fun i v hv=>?_⟩
 rw [List.getElem?_map] at hv
 obtain ⟨p,hp,rfl⟩:=Option.map_eq_some_iff.mp hv
 have hpm:=List.mem_of_getElem? hp
 exact ⟨p.1,by rw [← e2,List.getElem?_map,hp];rfl,jQ u (g.key p hpm),g.deep p hpm⟩
theorem sR:FnScope ["layer","fresh"] ["layer","fresh"] (jF QY):=⟨rfl,rfl,rfl,by decide +kernel,rfl,by decide +kernel,by decide +kernel⟩
theorem rZ {f:Addr} {fd:FuncData} (F:Fun K "is_layer_of" "is_layer_of" QY f fd) (T:Txt K mg) : FnOk P w K mg base kC 1 f fd ["layer","fresh"] (m7):=by
  refine F.ok sR (fun vs H Q E h=>?_) (fun cdv A outer s H vs Q E hr h=>?_)
  · obtain ⟨a,b,xs,ys,ks,fs,rfl,ha,hb,hk,hf,q⟩:=h
    rfl
  obtain ⟨a,b,xs,ys,ks,fs,rfl,ha,hb,hk,hf,q⟩:=h
  have hu:_<cLine:=hr.units0
  have hu1:=qB hr
  refine ⟨_,(@jI _ _ _ (@j0 _ _ _ _ (y9 (yB (CA hu) (pv 0) (kZ jD) (jW _)) (y9 (yB kJ (kW qA (by rfl) T.z_len PySem.boot_len (jB (pv 0) jD)) (kW qA (by rfl) T.z_len PySem.boot_len (jB (pv 1) jD)) (jW _)) (y8 (FA 0 1 (pJ hr) T.z_set)))))),?_⟩
  refine (jA rfl (⟨Nat.zero_le _,fun c hc=>?_⟩))
  have u:=jP hc (.lst [])
  refine ⟨a,c,xs,rfl,rfl,SqL.of (u _ _ ha),SqL.of jG,?_⟩
  have hl:=hk.1
  have hl2:=hf.1
  cases xs with
  |nil =>
    have e:vX ks fs=false:=by
      cases ks with
      |nil=>rfl
      |cons k r=>cases hl
    rw [e] at q
    exact (jA rfl (kE (q _ u)))
  |cons v vs =>
    refine (jA rfl (j9 (jA rfl (⟨a,jA rfl (⟨.inl (SqL.of (u _ _ ha)),jA rfl (⟨b,jA rfl (⟨.inl (SqL.of (u _ _ hb)),?_⟩)⟩)⟩)⟩))))
    refine ⟨rfl,jA rfl (?_)⟩
    have e0:ks.isEmpty=false:=by
      cases ks with
      |nil=>cases hl
      |cons k r=>rfl
    by_cases c1:ks.length=fs.length
    · have e1:(v::vs).length=ys.length:=by rw [hl,hl2,c1]
      have e:vX ks fs=zB (jX ks) (jX fs):=by unfold vX;rw [e0,decide_eq_true c1];rfl
      rw [if_pos (by rw [e1];simp)]
      rw [e] at q
      exact ⟨a,b,_,_,ks,fs,rfl,rfl,SqL.of (u _ _ ha),SqL.of (u _ _ hb),i6 u hk,i6 u hf,q _ u⟩
    · have e1:(v::vs).length≠ys.length:=fun z=>c1 (by rw [← hl,← hl2,z])
      have e:vX ks fs=false:=by unfold vX;rw [e0,decide_eq_false c1];rfl
      rw [e] at q
      rw [if_neg (fun z=>e1 (by have:=V.int.inj (of_decide_eq_true z);omega))]
      exact q _ u
theorem ZU:FnScope ["first","ahead","layers","placed","k","fresh","state"] ["first","ahead","layers"] (jF JY):=⟨rfl,rfl,rfl,by decide +kernel,rfl,by decide +kernel,by decide +kernel⟩
theorem r9 {f:Addr} {fd:FuncData} (F:Fun K "layers_hold" "layers_hold" JY f fd) (T:Txt K mg) (D_come_to_from:Def P w K mg base 5 "come_to_from" ["layer","ahead"] [] (fF w (kS "law.<locals>._law_ahead" (jT jY) (jR jY) (jF jY) ["_law_state"] ["_law_table_here"] (vH w)))) (D_is_layer_of:Def P w K mg base 1 "is_layer_of" ["layer","fresh"] [] (m7)):FnOk P w K mg base kC 7 f fd ["first","ahead","layers"] (eE w (kS "law.<locals>._law_ahead" (jT jY) (jR jY) (jF jY) ["_law_state"] ["_law_table_here"] (vH w))):=by
 refine F.ok ZU (fun vs H Q E h=>?_) (fun cdv A outer s H vs Q E hr h=>?_)
 ·obtain ⟨y,fa,ll,T0,k0,LL,rfl,hy,hk0,hA,hsh,hfew,hty,hL,hdom,h100,h70,q⟩:=h
  rfl
 obtain ⟨y,fa,ll,T0,k0,LL,rfl,hy,hk0,hA,hsh,hfew,hty,hL,hdom,h100,h70,q⟩:=h
 have hu:_<cLine:=hr.units0
 have hu1:=qB hr
 have hu9:=qT hr
 have hu10:=qR hr
 refine ⟨_,(@jJ _ _ _ _ _ (j8 (PW.pt (bD (zJ (mB (pv 2) (fun _=>rfl))) (dC (j5 (nM hu10) (j4 kG (pv 2) jE (fun _ _=>rfl)) (kZ (jB (pv 0) jD)) (jW _))))) (@jI _ _ _ (@j0 _ _ _ _ kY)) j7)
   (@jJ _ _ _ _ _ (jV (i:=3) ZU.nd rfl (by first|exact Or.inl rfl|exact Or.inr rfl) (mD hu9 (pv 0) kY))
   (@jJ _ _ _ _ _ (qE PassesOwn.never rfl (wB (by rfl) T.z_range (jB jE (jB (kW qA (by rfl) T.z_len PySem.boot_len (jB (pv 2) jD)) jD))) (kD (i:=4) ZU.nd rfl (by first|exact Or.inl rfl|exact Or.inr rfl))
    (@jJ _ _ _ _ _ (yR (i:=5) ["state","placed"] (vA 1 [3]) ZU.nd rfl (by first|exact Or.inl rfl|exact Or.inr rfl) rfl (vN (jF JY) rfl rfl (by decide +kernel) (by decide +kernel) (by decide +kernel)) (vO 1 [3] rfl rfl (by decide +kernel)) (kO (kA D_come_to_from hr rfl (jB (j4 kG (pv 2) (@jL _ _ _ _ _ _ _ _ zA (pv 4) jE) (fun _ _=>rfl)) (jB (pv 1) jD)))) (fun _ _ _ _ _=>(kD (i:=0) (show List.Nodup (["state","placed"]:List Str) from by decide +kernel) rfl (by first|exact Or.inl rfl|exact Or.inr rfl))) (fun _ _ _ _ _=>(zU (dD (eN w hu9 (pv 0) (pv 1))))) (fun _ _ _ _ _=>(pv 0)))
   (@jJ _ _ _ _ _ (j8 (zJ (yU (kA D_is_layer_of hr rfl (jB (j4 kG (pv 2) (pv 4) (fun _ _=>rfl)) (jB (pv 5) jD))))) (@jI _ _ _ (@j0 _ _ _ _ kY)) j7)
   (@jI _ _ _ (qE PassesOwn.never rfl (kO (pv 5)) (kD (i:=6) ZU.nd rfl (by first|exact Or.inl rfl|exact Or.inr rfl))
    (@jI _ _ _ (J6 hu9 (pv 3) (pv 6) kY rfl)))))))
   (@jI _ _ _ (@j0 _ _ _ _ kY))))),?_⟩
 obtain ⟨xs,f1,f2,f3⟩:=hL.ex
 cases LL with
 |nil =>
  have hx:xs=[]:=List.eq_nil_of_length_eq_zero f2
  subst hx
  exact (jA rfl (⟨false,.inl ⟨[],SqL.of f1,rfl⟩,j9 (j9 (q _ (Same.refl _)))⟩))
 |cons l r =>
  cases xs with
  |nil=>cases f2
  |cons v vs =>
   obtain ⟨a0,ys0,lay0,rfl,hn0,hl0,ha0,hk0'⟩:=f3 0 v rfl
   cases hl0
   refine (jA rfl (⟨true,.inl ⟨_,SqL.of f1,rfl⟩,kE (jA rfl (yP (SqL.of f1) (kK (j:=0) rfl) ((jA rfl (⟨kT (by show 1≤1000;decide),fun b hb=>?_⟩)))))⟩))
   have u:=jP hb (.lst [y])
   refine ⟨a0,b,ys0,[y],l,[k0],rfl,rfl,SqL.of (u _ _ ha0),SqL.of jG,fR (hk0'.same u),mJ (jQ u hy) (hty k0 hk0),jA rfl (?_)⟩
   by_cases hl:l=[k0]
   case neg =>
    have e:JN T0 k0 (l::r)=false:=by show (decide (l=[k0])&&_)=false;rw [decide_eq_false hl];rfl
    rw [e] at q
    rw [decide_eq_true hl]
    exact j9 (q _ u)
   have e:JN T0 k0 (l::r)=zY T0 [k0] l r:=by show (decide (l=[k0])&&_)=_;rw [decide_eq_true hl];rfl
   rw [e] at q
   rw [decide_eq_false (fun z=>z hl)]
   refine kE fun dc hdc=>(jA rfl (⟨jG,k0,jQ (u.trans (jP hdc _)) hy,(hty k0 hk0),?_⟩))
   have hdn:H dc=none:=vW u hdc
   have s2:=qI (o:=GO w dc [(k0,y,.bl true)]) hdn (qI (o:=GO w dc []) hdn u)
   have d2:jC (jC (jC H b (.lst [y])) dc (GO w dc [])) dc (GO w dc [(k0,y,.bl true)]) dc=some (GO w dc [(k0,y,.bl true)]):=jG
   have hvs:vs.length=r.length:=by simpa using f2
   have hr100:r.length≤50:=by have:=h100;rw [List.length_cons] at this;omega
   refine (jA rfl (⟨ll,jA rfl (⟨.inl (SqL.of (s2 _ _ f1)),1,jA rfl (⟨⟨by decide,by decide,by omega,?hb⟩,?_⟩)⟩)⟩))
   case hb=>rw [List.length_cons];omega
   have hn:((((V.ref a0::vs).length:Nat):Int) - 1).toNat=r.length:=by rw [List.length_cons];omega
   rw [hn]
   refine Q6 (lo:=1) (n:=r.length) (fun i σ Hi=>∃(c4 c5 c6:Option V) (kvs:List jS) (lay:List GK),σ=[some y,some (.ref fa),some (.ref ll),some (.ref dc),c4,c5,c6]∧Same H Hi∧Hi dc=some (GO w dc kvs)∧GOk Hi kvs∧(l::r)[i]?=some lay∧kvs.length≤1+70*i∧zY T0 [k0] l r=zY T0 (kvs.map (·.1)) lay ((l::r).drop (i+1))) ⟨none,none,none,[(k0,y,.bl true)],l,rfl,s2,d2,?_,rfl,by simp,rfl⟩ ?_ ?_
   ·refine ⟨fun p hp=>?_,fun p hp=>?_,by simp⟩
    ·rw [List.mem_singleton.mp hp];exact jQ s2 hy
    ·rw [List.mem_singleton.mp hp];exact (hty k0 hk0)
   ·rintro i σ Hi hi ⟨c4,c5,c6,kvs,lay,rfl,s,hd,g,hlay,hlen,e5⟩
    obtain ⟨v1,hv1⟩:∃v1,(V.ref a0::vs)[i]?=some v1:=⟨_,List.getElem?_eq_getElem (by rw [List.length_cons];omega)⟩
    obtain ⟨a1,ys1,lay1,rfl,hn1,hl1,ha1,hk1⟩:=f3 i v1 hv1
    obtain rfl:lay1=lay:=Option.some.inj (hl1.symm.trans hlay)
    have hmem:=List.mem_of_getElem? hlay
    have h7:=h70 _ hmem
    have hd1:∀k∈lay1,T0.2 k:=fun k hk=>hdom k (List.mem_flatten.mpr ⟨_,hmem,hk⟩)
    refine (jA rfl (jA rfl (jZ (⟨ll,_,_,.ref a1,rfl,rfl,SqL.of (s _ _ f1),(by rw [show ((1:Int)+(i:Int) - 1)=(i:Int) by omega];exact kK hv1),jA rfl ((JO a1 fa T0 ys1 lay1 (an9 rfl (fun H' y k Q E s'=>hA H' y k Q E (s.trans s')) (s _ _ ha1) (hk1.same s) hd1 hsh hfew hd1 (fun r1 ys2 H2 sc hr1n hr1 hks2=>⟨r1,rfl,⟨_,SqL.of hr1⟩,fun bt hbt=>?_⟩))))⟩))))
    have hd2:=sc _ _ hd
    have g2:=qL sc g
    refine yH (K:=K) (a:=r1) (xs:=ys2) (caps:=[some (.ref dc)]) (fun j ws Hk=>KeysAt Hk ws (((jX (qH T0 lay1)).take j).filter fun k=>decide (k∉kvs.map (·.1)))) hbt (SqL.of hr1) ⟨rfl,fun i x e=>by cases e⟩ ?_ ?_
    ·rintro j v ws Hk hv hj hle sm hY hR
     obtain ⟨k,hk,hg,h8⟩:=hks2.2 j v hv
     have hmt:(jX (qH T0 lay1)).length≤70:=hfew _ (yS _) fun x hx=>by
      obtain ⟨k1,hk1',h2⟩:=List.mem_flatMap.mp (metG_mem.mp hx)
      obtain ⟨p,hp,rfl⟩:=List.mem_map.mp h2
      exact hsh k1 p (hd1 k1 hk1') hp
     have hz2:=hks2.1
     have ht:(jX (qH T0 lay1)).take (j+1)=(jX (qH T0 lay1)).take j++[k]:=by rw [List.take_add_one,hk];rfl
     refine (jA rfl (jA rfl ((yG dc kvs k (an6 rfl (.of (sm _ _ hd2)) (qL sm g2) (jQ sm hg) h8 (jA rfl (?_)))))))
     rw [Q5]
     by_cases c:k∈kvs.map (·.1)
     ·rw [decide_eq_true c]
      refine kE (JB sm hY hle (Same.refl _) ?_)
      rw [ht,List.filter_append]
      simpa [c] using hR
     ·rw [decide_eq_false c]
      refine j9 (jA rfl (?_))
      show ∃zs,_∧_
      refine yI (R:=fun j ws Hk=>KeysAt Hk ws (((jX (qH T0 lay1)).take j).filter fun k=>decide (k∉kvs.map (·.1)))) hbt sm hY hle (by omega) (Same.refl _) ?_
      show KeysAt _ _ (((jX (qH T0 lay1)).take (j+1)).filter _)
      rw [ht,List.filter_append]
      have e8:[k].filter (fun k=>decide (k∉kvs.map (·.1)))=[k]:=by simp [c]
      rw [e8]
      exact hR.snoc (fun a l e=>by rw [jH fun z=>by rw [z,hY] at e;cases e];exact e) (jQ sm hg) h8
    rintro ws Hg sg hbg hleg hR
    rw [hks2.1,List.take_length] at hR
    have sHg:=s.trans (sc.trans sg)
    have hlay2:∃lay2,(l::r)[i+1]?=some lay2:=⟨_,List.getElem?_eq_getElem (by rw [List.length_cons];omega)⟩
    obtain ⟨lay2,hlay2⟩:=hlay2
    obtain ⟨v2,hv2⟩:∃v2,(V.ref a0::vs)[i+1]?=some v2:=⟨_,List.getElem?_eq_getElem (by rw [List.length_cons];omega)⟩
    obtain ⟨a2,ys3,lay3,rfl,hn2,hl2,ha2,hk2⟩:=f3 (i+1) v2 hv2
    obtain rfl:lay3=lay2:=Option.some.inj (hl2.symm.trans hlay2)
    have hmem2:=List.mem_of_getElem? hlay2
    have hfrT:∀k∈qZ T0 (kvs.map (·.1)) lay1,T0.2 k:=fun k hk=>by
     have h1:=metG_mem.mp (List.mem_filter.mp hk).1
     obtain ⟨k1,hk1',h2⟩:=List.mem_flatMap.mp h1
     obtain ⟨p,hp,rfl⟩:=List.mem_map.mp h2
     exact hsh k1 p (hd1 k1 hk1') hp
    have hfr70:(qZ T0 (kvs.map (·.1)) lay1).length≤70:=hfew _ ((yS _).filter _) hfrT
    have kF:zZ Hg ws (qZ T0 (kvs.map (·.1)) lay1):=nU hR (fun k hk=>hty k (hfrT k hk)) hfr70
    have kL:=nU (hk2.same sHg) (fun k hk=>hty k (hdom k (List.mem_flatten.mpr ⟨_,hmem2,hk⟩))) (h70 _ hmem2)
    have e9:(l::r).drop (i+1)=lay3::(l::r).drop (i+2):=by
     obtain ⟨h1,h2⟩:=List.getElem?_eq_some_iff.mp hlay2
     rw [List.drop_eq_getElem_cons h1,h2]
    rw [e9] at e5
    refine (jA rfl (jA rfl (⟨ll,_,_,.ref a2,rfl,rfl,SqL.of (sHg _ _ f1),(by rw [show ((1:Int)+(i:Int))=((i+1:Nat):Int) by omega];exact kK hv2),jA rfl (⟨a2,bt,ys3,ws,lay3,jA rfl (⟨sHg _ _ ha2,hbg,kL,kF,fun H3 s3=>?_⟩)⟩)⟩)))
    cases hI:vX lay3 (qZ T0 (kvs.map (·.1)) lay1) with
    |false =>
     have e10:zY T0 [k0] l r=false:=by rw [e5];show (vX _ _&&_)=false;rw [hI];rfl
     rw [e10] at q
     exact (jA rfl (j9 (q _ (sHg.trans s3))))
    |true =>
     have hnd:bt≠dc:=fun z=>by rw [z] at hbt;rw [hd2] at hbt;cases hbt
     have hfn:(qZ T0 (kvs.map (·.1)) lay1).Nodup:=(yS _).filter _
     have hd3:=s3 _ _ (sg _ _ hd2)
     refine (jA rfl (kE (jA rfl (⟨bt,rfl,⟨_,SqL.of (s3 _ _ hbg)⟩,?_⟩))))
     refine qX (K:=K) (a:=bt) (xs:=ws) (fun j σ Hj=>∃(c6:Option V) (kvs':List jS),σ=[some y,some (.ref fa),some (.ref ll),some (.ref dc),some (.int (1+(i:Int))),some (.ref bt),c6]∧(∀a o,a≠dc→H3 a=some o→Hj a=some o)∧Hj dc=some (GO w dc kvs')∧GOk Hj kvs'∧kvs'.map (·.1)=kvs.map (·.1)++(qZ T0 (kvs.map (·.1)) lay1).take j) ⟨c6,kvs,rfl,fun _ _ _ e=>e,hd3,qL s3 (qL sg g2),by simp⟩ (fun j σ Hj _ ⟨_,_,_,kp,_⟩=>SqL.of (kp bt _ hnd (s3 _ _ hbg))) ?_ ?_
     ·rintro j v σ Hj hv ⟨c6,kvs',rfl,kp,d',g',e'⟩
      obtain ⟨k,hk,hg,h8⟩:=hR.2 j v hv
      have tkJ:∀a z,H3 a=some (.tup z)→Hj a=some (.tup z):=fun a z e=>kp a _ (fun y=>by rw [y,hd3] at e;cases e) e
      have hkj:(qZ T0 (kvs.map (·.1)) lay1)[j]?=some k:=hk
      have hlen':kvs'.length≤4000:=by
       have:=congrArg List.length e'
       rw [List.length_map,List.length_append,List.length_map,List.length_take] at this
       omega
      refine (jA rfl (jA rfl ((yG dc kvs' k (an7 rfl d' g' ((GV.keep tkJ _).1 _ (jQ s3 hg)) h8 (zW hlen') (?_))))))
      refine ⟨_,jA rfl (⟨fun a o n e=>by rw [jH n];exact kp a o n e,jG,?_,?_⟩)⟩
      ·exact (GOk.set g' ((GV.keep tkJ _).1 _ (jQ s3 hg)) h8).keep fun a l e=>by rw [jH fun y=>by rw [y,d'] at e;cases e];exact e
      ·rw [keys_setW,e']
       unfold qC
       rw [if_neg ?_,List.take_add_one,hkj,List.append_assoc]
       ·rfl
       ·intro z
        rcases List.mem_append.mp z with z|z
        ·exact (of_decide_eq_true (List.mem_filter.mp (List.mem_of_getElem? hkj)).2) z
        ·exact t8 hfn hkj z
     rintro σ Hj ⟨c6,kvs',rfl,kp,d',g',e'⟩
     rw [hR.1,show (List.filter (fun k=>decide (k∉kvs.map (·.1))) (jX (qH T0 lay1))).length=(qZ T0 (kvs.map (·.1)) lay1).length from rfl,List.take_length] at e'
     refine (JO _ _ _ kvs' lay3 (an7 rfl (fun a o e=>?_) d' g' hlay2 (?_) (?_)))
     ·refine kp a o (fun y=>?_) (s3 _ _ (sHg _ _ e))
      rw [y,hdn] at e;cases e
     ·have:=congrArg List.length e'
      rw [List.length_map,List.length_append,List.length_map] at this
      omega
     ·rw [e5,e']
      show (vX _ _&&_)=_
      rw [hI]
      rfl
   ·rintro σ Hi ⟨c4,c5,c6,kvs,lay,rfl,s,hd,g,hlay,hlen,e5⟩
    have e6:(l::r).drop (r.length+1)=[]:=by simp
    rw [e6] at e5
    rw [e5] at q
    exact q _ s
theorem d9:FnScope ["layers","states","layer"] ["layers"] (jF Q0):=⟨rfl,rfl,rfl,by decide +kernel,rfl,by decide +kernel,by decide +kernel⟩
theorem sK {f:Addr} {fd:FuncData} (F:Fun K "states_of" "states_of" Q0 f fd) (T:Txt K mg) : FnOk P w K mg base kC 1 f fd ["layers"] (fE):=by
 refine F.ok d9 (fun vs H Q E h=>?_) (fun cdv A outer s H vs Q E hr h=>?_)
 ·obtain ⟨ll,LL,rfl,hL,h900,q⟩:=h
  rfl
 obtain ⟨ll,LL,rfl,hL,h900,q⟩:=h
 have hu:_<cLine:=hr.units0
 have hu1:=qB hr
 refine ⟨_,(@jJ _ _ _ _ _ (jV (i:=1) d9.nd rfl (by first|exact Or.inl rfl|exact Or.inr rfl) (kZ jD))
   (@jJ _ _ _ _ _ (qE PassesOwn.never rfl (kO (pv 0)) (kD (i:=2) d9.nd rfl (by first|exact Or.inl rfl|exact Or.inr rfl))
    (@jI _ _ _ (qW (vI PySem.F.plainAttrs_list PySem.F.slot_list_extend PySem.F.type_list_extend wG (pv 1) (jB (pv 2) jD)))))
   (@jI _ _ _ (@j0 _ _ _ _ (pv 1))))),?_⟩
 refine ⟨Nat.zero_le _,fun r hr=>?_⟩
 have u0:=jP hr (.lst [])
 obtain ⟨xs,f1,f2,f3⟩:=hL.ex
 refine (jA rfl (⟨ll,rfl,⟨_,SqL.of (u0 _ _ f1)⟩,qX (K:=K) (a:=ll) (xs:=xs) (fun i σ Hi=>∃(c2:Option V) (ys:List V),σ=[some (.ref ll),some (.ref r),c2]∧Same H Hi∧Hi r=some (.lst ys)∧KeysAt Hi ys (LL.take i).flatten) ⟨none,[],rfl,u0,jG,rfl,fun i x e=>by cases e⟩ (fun i σ Hi _ ⟨_,_,_,s,_,_⟩=>SqL.of (s _ _ f1)) ?_ ?_⟩))
 ·rintro i x σ Hi hx ⟨c2,ys,rfl,s,hr1,hk⟩
  obtain ⟨a,zs,lay,rfl,hne,hlay,ha,hka⟩:=f3 i x hx
  have hik:i<LL.length:=(List.getElem?_eq_some_iff.mp hlay).1
  have e1:(LL.take (i+1)).flatten=(LL.take i).flatten++lay:=by rw [List.take_add_one,hlay,List.flatten_append];simp
  have hle:((LL.take i).flatten++lay).length≤LL.flatten.length:=by
   rw [← e1]
   conv=>rhs;rw [← List.take_append_drop (i+1) LL]
   rw [List.flatten_append,List.length_append]
   omega
  rw [List.length_append] at hle
  have hz:=hk.1
  have hz2:=hka.1
  have tk:∀c l,Hi c=some (.tup l)→jC Hi r (.lst (ys++zs)) c=some (.tup l):=fun c l e=>by rw [jH fun z=>by rw [z,hr1] at e;cases e];exact e
  refine (jA rfl (⟨.inl ⟨rfl,_,SqL.of hr1⟩,jA rfl (⟨r,a,ys,zs,rfl,rfl,hr1,s _ _ ha,Nat.le_of_lt (zW (by omega)),?_⟩)⟩))
  refine ⟨_,jA rfl (⟨qI hr s,jG,?_⟩)⟩
  rw [e1]
  exact Z4 (hk.keep tk) ((hka.same s).keep tk)
 rintro σ Hi ⟨c2,ys,rfl,s,hr1,hk⟩
 rw [f2,List.take_length] at hk
 exact (jA rfl (q r ys Hi s hr hr1 hk))
theorem sS:FnScope ["layers","ended"] ["layers","ended"] (jF JZ):=⟨rfl,rfl,rfl,by decide +kernel,rfl,by decide +kernel,by decide +kernel⟩
theorem sC {f:Addr} {fd:FuncData} (F:Fun K "none_ended" "none_ended" JZ f fd) (T:Txt K mg) (D_states_of:Def P w K mg base 1 "states_of" ["layers"] [] (fE)) (V__law_ended:FnV P w K mg base kC 3 (kS "law.<locals>._law_ended" (jT j6) (jR j6) (jF j6) ["_law_state"] ["_law_marks_here"] (yA w))):FnOk P w K mg base kC 6 f fd ["layers","ended"] (eJ (kS "law.<locals>._law_ended" (jT j6) (jR j6) (jF j6) ["_law_state"] ["_law_marks_here"] (yA w))):=by
 refine F.ok sS (fun vs H Q E h=>?_) (fun cdv A outer s H vs Q E hr h=>?_)
 ·obtain ⟨ll,fe,LL,T0,M,rfl,hL,hE,hdom,h900,q⟩:=h
  rfl
 obtain ⟨ll,fe,LL,T0,M,rfl,hL,hE,hdom,h900,q⟩:=h
 have hu:_<cLine:=hr.units0
 have hu1:=qB hr
 refine ⟨_,(@jI _ _ _ (@j0 _ _ _ _ (B0 (kW (wU rfl) (by rfl) T.z_any PyProof.Rows.boot_any (jB (cR ["state","ended"] (vA 1 [1]) rfl (vN (jF JZ) rfl rfl (by decide +kernel) (by decide +kernel) (by decide +kernel)) (vO 1 [1] rfl rfl (by decide +kernel)) (kO (kA D_states_of hr rfl (jB (pv 0) jD))) (fun _ _ _ _ _=>(kD (i:=0) (show List.Nodup (["state","ended"]:List Str) from by decide +kernel) rfl (by first|exact Or.inl rfl|exact Or.inr rfl))) (fun _ _ _ _ _=>JU) (fun _ _ _ _ _=>(cH (i:=1) V__law_ended (hr.mono (by decide)) bE rfl (by first|exact .inl rfl|exact .inr rfl|exact .inr (.inl rfl)|exact .inr (.inr rfl)) (jB (pv 0) jD)))) jD))))),?_⟩
 refine (jA rfl (⟨ll,LL,rfl,hL,h900,fun r ys H1 s1 hr0 hr1 hk=>⟨r,rfl,⟨_,SqL.of hr1⟩,fun bt hbt=>?_⟩⟩))
 refine yH (K:=K) (a:=r) (xs:=ys) (caps:=[some (.ref fe)]) (fun j ws Hk=>ws=(LL.flatten.take j).map fun k=>V.bl (M k)) hbt (SqL.of hr1) rfl ?_ ?_
 ·rintro j v ws Hk hv hj hle sm hY hR
  obtain ⟨k,hk1,hk2,hk8⟩:=hk.2 j v hv
  refine J9 (j9 ?_)
  refine ⟨fe,rfl,jA rfl (hE _ _ k _ _ (s1.trans sm) (hdom k (List.mem_of_getElem? hk1)) (jQ sm hk2) fun H5 s5=>?_)⟩
  refine lG (R:=fun j ws Hk=>ws=(LL.flatten.take j).map fun k=>V.bl (M k)) hbt sm hY hle (by have:=hk.1;omega) s5 ?_
  show ws++[V.bl (M k)]=_
  rw [hR,List.take_add_one,hk1,List.map_append]
  rfl
 ·rintro ws Hg sg hbg hleg hR
  have hR2:ws=(LL.flatten.map M).map V.bl:=by rw [hR,hk.1,List.take_length,List.map_map];rfl
  refine ⟨bt,LL.flatten.map M,rfl,SqL.of (by rw [hbg,hR2]),?_⟩
  have e:(LL.flatten.map M).any id=LL.flatten.any M:=by rw [List.any_map];rfl
  rw [e]
  exact (jA rfl (q _ (s1.trans sg)))
theorem d8:FnScope ["first","ahead","ended","layers","placed","leads_out"] ["first","ahead","ended","layers"] (jF z5):=⟨rfl,rfl,rfl,by decide +kernel,rfl,by decide +kernel,by decide +kernel⟩
theorem sE {f:Addr} {fd:FuncData} (F:Fun K "shows_closed" "shows_closed" z5 f fd) (T:Txt K mg) (D_layers_hold:Def P w K mg base 7 "layers_hold" ["first","ahead","layers"] [] (eE w (kS "law.<locals>._law_ahead" (jT jY) (jR jY) (jF jY) ["_law_state"] ["_law_table_here"] (vH w)))) (D_states_of:Def P w K mg base 1 "states_of" ["layers"] [] (fE)) (D_come_to_from:Def P w K mg base 5 "come_to_from" ["layer","ahead"] [] (fF w (kS "law.<locals>._law_ahead" (jT jY) (jR jY) (jF jY) ["_law_state"] ["_law_table_here"] (vH w)))) (D_none_ended:Def P w K mg base 6 "none_ended" ["layers","ended"] [] (eJ (kS "law.<locals>._law_ended" (jT j6) (jR j6) (jF j6) ["_law_state"] ["_law_marks_here"] (yA w)))):FnOk P w K mg base kC 9 f fd ["first","ahead","ended","layers"] (lR w (kS "law.<locals>._law_ahead" (jT jY) (jR jY) (jF jY) ["_law_state"] ["_law_table_here"] (vH w)) (kS "law.<locals>._law_ended" (jT j6) (jR j6) (jF j6) ["_law_state"] ["_law_marks_here"] (yA w))):=by
 refine F.ok d8 (fun vs H Q E h=>?_) (fun cdv A outer s H vs Q E hr h=>?_)
 ·obtain ⟨y,fa,fe,ll,T0,k0,M,LL,rfl,hy,hk0,hA,hsh,hfew,hE,hty,hL,hdom,h50,h900,h70,q⟩:=h
  rfl
 obtain ⟨y,fa,fe,ll,T0,k0,M,LL,rfl,hy,hk0,hA,hsh,hfew,hE,hty,hL,hdom,h50,h900,h70,q⟩:=h
 have hu:_<cLine:=hr.units0
 have hu1:=qB hr
 have hu9:=qT hr
 have hu10:=qR hr
 refine ⟨_,(@jJ _ _ _ _ _ (j8 (zJ (yU (kA D_layers_hold hr rfl (@jB _ _ _ _ _ (pv 0) (@jB _ _ _ _ _ (pv 1) (@jB _ _ _ _ _ (pv 3) jD (by rfl)) (by rfl)) (by rfl))))) (@jI _ _ _ (@j0 _ _ _ _ kY)) j7)
   (@jJ _ _ _ _ _ (jV (i:=4) d8.nd rfl (by first|exact Or.inl rfl|exact Or.inr rfl) (xI rfl (pJ hr) (by rfl) T.z_dict (cR ["state"] (vA 1 []) rfl (vN (jF z5) rfl rfl (by decide +kernel) (by decide +kernel) (by decide +kernel)) (vO 1 [] rfl rfl (by decide +kernel)) (kO (kA D_states_of hr rfl (jB (pv 3) jD))) (fun _ _ _ _ _=>(kD (i:=0) (show List.Nodup (["state"]:List Str) from by decide +kernel) rfl (by first|exact Or.inl rfl|exact Or.inr rfl))) (fun _ _ _ _ _=>JU) (fun _ _ _ _ _=>(ZH (jB (pv 0) (jB kY jD)))))))
   (@jJ _ _ _ _ _ (yR (i:=5) ["state","placed"] (vA 1 [4]) d8.nd rfl (by first|exact Or.inl rfl|exact Or.inr rfl) rfl (vN (jF z5) rfl rfl (by decide +kernel) (by decide +kernel) (by decide +kernel)) (vO 1 [4] rfl rfl (by decide +kernel)) (kO (kA D_come_to_from hr rfl (jB (j4 kG (pv 3) (yW yT jE) (fun _ _=>rfl)) (jB (pv 1) jD)))) (fun _ _ _ _ _=>(kD (i:=0) (show List.Nodup (["state","placed"]:List Str) from by decide +kernel) rfl (by first|exact Or.inl rfl|exact Or.inr rfl))) (fun _ _ _ _ _=>(zU (dD (eN w hu9 (pv 0) (pv 1))))) (fun _ _ _ _ _=>(pv 0)))
   (@jI _ _ _ (@j0 _ _ _ _ (y9 (yB (CC hu) (pv 5) (kZ jD) (jW _)) (y8 (kA D_none_ended hr rfl (jB (pv 3) (jB (pv 2) jD)))))))))),?_⟩
 obtain ⟨xs,f1,f2,f3⟩:=hL.ex
 refine (jA rfl (jA rfl (jA rfl ((gW y fa ll T0 k0 LL (an12 rfl hy hk0 hA hsh hfew hty hL hdom h50 h70 (fun H1 s1=>?_)))))))
 cases hI:JN T0 k0 LL with
 |false =>
  have e:y7 T0 k0 M LL=false:=by unfold y7;rw [hI];rfl
  rw [e] at q
  exact (jA rfl (j9 (q _ s1)))
 |true =>
  have e:y7 T0 k0 M LL=(((jX (qH T0 (LL.getLast?.getD []))).filter (fun k=>decide (k∉jX LL.flatten))).isEmpty && !LL.flatten.any M):=by unfold y7;rw [hI];rfl
  rw [e] at q
  have hL1:=hL.same s1
  refine (jA rfl (kE (jA rfl (⟨ll,LL,rfl,hL1,h900,fun r ys H2 s2 hr0 hr1 hk=>⟨r,rfl,⟨_,SqL.of hr1⟩,fun bt hbt=>?_⟩⟩))))
  refine yH (K:=K) (a:=r) (xs:=ys) (caps:=[]) (fun j ws Hk=>PairsK Hk ws (LL.flatten.take j)) hbt (SqL.of hr1) ⟨rfl,fun j v e=>by cases e⟩ ?_ ?_
  ·rintro j v ws Hk hv hj hle sm hY hR
   obtain ⟨k,hk1,hk2,hk8⟩:=hk.2 j v hv
   refine J9 (j9 (jA rfl (⟨kT (by show 2≤1000;decide),fun t ht=>?_⟩)))
   have ut:=jP ht (.tup [v,.bl true])
   have hz:=hk.1
   refine lG (R:=fun j ws Hk=>PairsK Hk ws (LL.flatten.take j)) hbt sm hY hle (by omega) ut ?_
   show PairsK _ _ (LL.flatten.take (j+1))
   rw [List.take_add_one,hk1]
   have hnb:t≠bt:=fun z=>by rw [z,hY] at ht;cases ht
   exact PairsK.snoc hR (fun a l e=>by rw [jH fun z=>by rw [z,hY] at e;cases e];exact ut _ _ e) (by rw [jH hnb];exact jG) (jQ sm hk2) hk8
  rintro ws Hg sg hbg hleg hR
  rw [hk.1,List.take_length] at hR
  refine ⟨bt,ws,jA rfl (⟨SqL.of hbg,hR,by omega,fun dc kvs hdc hgo hkeys=>?_⟩)⟩
  have s3:=((s1.trans s2).trans sg).trans (jP hdc (GO w dc kvs))
  cases hLL:LL with
  |nil=>rw [hLL] at hI;cases hI
  |cons l0 r0 =>
   rw [hLL] at f2
   have hn:xs.length=r0.length+1:=f2
   obtain ⟨v1,hv1⟩:∃v1,xs[r0.length]?=some v1:=⟨_,List.getElem?_eq_getElem (by omega)⟩
   obtain ⟨a1,ys1,lay1,rfl,hn1,hl1,ha1,hk1⟩:=f3 _ v1 hv1
   have hlast:LL.getLast?.getD []=lay1:=by
    rw [hLL,List.getLast?_eq_getElem?,List.length_cons,Nat.add_sub_cancel,← hLL,hl1];rfl
   rw [hlast] at q
   have hmem:=List.mem_of_getElem? hl1
   have h7:=h70 _ hmem
   have hd1:∀k∈lay1,T0.2 k:=fun k hk=>hdom k (List.mem_flatten.mpr ⟨_,hmem,hk⟩)
   refine (jA rfl (jA rfl (⟨ll,_,_,.ref a1,rfl,rfl,SqL.of (s3 _ _ f1),atI_last (n:=r0.length) hn hv1,jA rfl ((JO a1 fa T0 ys1 lay1 (an9 rfl (fun H' y k Q E s'=>hA H' y k Q E (s3.trans s')) (s3 _ _ ha1) (hk1.same s3) hd1 hsh hfew hd1 (fun r1 ys2 H4 s4 hr1n hr1 hks2=>⟨r1,rfl,⟨_,SqL.of hr1⟩,fun bo hbo=>?_⟩))))⟩)))
   have hd4:=s4 _ _ (jG (H:=Hg) (a:=dc) (o:=GO w dc kvs))
   have g4:=qL s4 (qL (jP hdc (GO w dc kvs)) hgo)
   refine yH (K:=K) (a:=r1) (xs:=ys2) (caps:=[some (.ref dc)]) (fun j ws Hk=>KeysAt Hk ws (((jX (qH T0 lay1)).take j).filter fun k=>decide (k∉jX LL.flatten))) hbo (SqL.of hr1) ⟨rfl,fun i x e=>by cases e⟩ ?_ ?_
   ·rintro j v ws Hk hv hj hle sm hY hR
    obtain ⟨k,hk,hg,h8⟩:=hks2.2 j v hv
    have hmt:(jX (qH T0 lay1)).length≤70:=hfew _ (yS _) fun x hx=>by
     obtain ⟨k1,hk1',h2⟩:=List.mem_flatMap.mp (metG_mem.mp hx)
     obtain ⟨p,hp,rfl⟩:=List.mem_map.mp h2
     exact hsh k1 p (hd1 k1 hk1') hp
    have hz2:=hks2.1
    have ht:(jX (qH T0 lay1)).take (j+1)=(jX (qH T0 lay1)).take j++[k]:=by rw [List.take_add_one,hk];rfl
    refine (jA rfl (jA rfl ((yG dc kvs k (an6 rfl (.of (sm _ _ hd4)) (qL sm g4) (jQ sm hg) h8 (jA rfl (?_)))))))
    rw [Q5,hkeys]
    by_cases c:k∈jX LL.flatten
    ·rw [decide_eq_true c]
     refine kE (JB sm hY hle (Same.refl _) ?_)
     rw [ht,List.filter_append]
     simpa [c] using hR
    ·rw [decide_eq_false c]
     refine j9 (jA rfl (yI (R:=fun j ws Hk=>KeysAt Hk ws (((jX (qH T0 lay1)).take j).filter fun k=>decide (k∉jX LL.flatten))) hbo sm hY hle (by omega) (Same.refl _) ?_))
     show KeysAt _ _ (((jX (qH T0 lay1)).take (j+1)).filter _)
     rw [ht,List.filter_append]
     have e8:[k].filter (fun k=>decide (k∉jX LL.flatten))=[k]:=by simp [c]
     rw [e8]
     exact hR.snoc (fun a l e=>by rw [jH fun z=>by rw [z,hY] at e;cases e];exact e) (jQ sm hg) h8
   rintro ws5 H5 s5 hb5 hle5 hR5
   rw [hks2.1,List.take_length] at hR5
   have sH5:=s3.trans (s4.trans s5)
   refine (jA rfl (⟨Nat.zero_le _,fun be hbe=>?_⟩))
   have ue:=jP hbe (.lst [])
   refine ⟨bo,be,ws5,rfl,rfl,SqL.of (ue _ _ hb5),SqL.of jG,?_⟩
   have hemp:ws5.isEmpty=((jX (qH T0 lay1)).filter (fun k=>decide (k∉jX LL.flatten))).isEmpty:=CT hR5.1
   rw [hemp]
   cases hb:((jX (qH T0 lay1)).filter (fun k=>decide (k∉jX LL.flatten))).isEmpty with
   |false =>
    rw [hb] at q
    exact (jA rfl (kE (q _ (sH5.trans ue))))
   |true =>
    rw [hb] at q
    have sf:=sH5.trans ue
    exact (jA rfl (j9 (jA rfl (jA rfl ((JO ll fe LL T0 M (an6 rfl (hL.same sf) (fun H' y k Q E s'=>hE H' y k Q E (sf.trans s')) hdom h900 (fun H6 s6=>q _ (sf.trans s6)))))))))
theorem sT:FnScope ["first","ahead","ended","row","layers"] ["first","ahead","ended","row","layers"] (jF QZ):=⟨rfl,rfl,rfl,by decide +kernel,rfl,by decide +kernel,by decide +kernel⟩
theorem sH {f:Addr} {fd:FuncData} (F:Fun K "shows_found" "shows_found" QZ f fd) (T:Txt K mg) (D_row_holds:Def P w K mg base 6 "row_holds" ["first","ahead","ended","row"] [] (lQ (kS "law.<locals>._law_ahead" (jT jY) (jR jY) (jF jY) ["_law_state"] ["_law_table_here"] (vH w)) (kS "law.<locals>._law_ended" (jT j6) (jR j6) (jF j6) ["_law_state"] ["_law_marks_here"] (yA w)) K)) (D_layers_hold:Def P w K mg base 7 "layers_hold" ["first","ahead","layers"] [] (eE w (kS "law.<locals>._law_ahead" (jT jY) (jR jY) (jF jY) ["_law_state"] ["_law_table_here"] (vH w)))) (D_none_ended:Def P w K mg base 6 "none_ended" ["layers","ended"] [] (eJ (kS "law.<locals>._law_ended" (jT j6) (jR j6) (jF j6) ["_law_state"] ["_law_marks_here"] (yA w)))):FnOk P w K mg base kC 9 f fd ["first","ahead","ended","row","layers"] (m8 w (kS "law.<locals>._law_ahead" (jT jY) (jR jY) (jF jY) ["_law_state"] ["_law_table_here"] (vH w)) (kS "law.<locals>._law_ended" (jT j6) (jR j6) (jF j6) ["_law_state"] ["_law_marks_here"] (yA w))):=by
  refine F.ok sT (fun vs H Q E h=>?_) (fun cdv A outer s H vs Q E hr h=>?_)
  · obtain ⟨y,fa,fe,rl,ll,T0,k0,M,LL,row,ks,rfl,hy,hk0,hA,hsh,hfew,hf900,hE,hty,hL,hdom,h50,h900,h70,hrl,hks,hr900,q⟩:=h
    rfl
  obtain ⟨y,fa,fe,rl,ll,T0,k0,M,LL,row,ks,rfl,hy,hk0,hA,hsh,hfew,hf900,hE,hty,hL,hdom,h50,h900,h70,hrl,hks,hr900,q⟩:=h
  have hu:_<cLine:=hr.units0
  have hu1:=qB hr
  refine ⟨_,(@jJ _ _ _ _ _ (j8 (PW.pt (bD (zJ (yU (kA D_layers_hold hr rfl (@jB _ _ _ _ _ (pv 0) (@jB _ _ _ _ _ (pv 1) (@jB _ _ _ _ _ (pv 4) jD (by rfl)) (by rfl)) (by rfl))))) (dC (zJ (yU (kA D_row_holds hr rfl (@jB _ _ _ _ _ (pv 0) (@jB _ _ _ _ _ (pv 1) (@jB _ _ _ _ _ (pv 2) (@jB _ _ _ _ _ (pv 3) jD (by rfl)) (by rfl)) (by rfl)) (by rfl)))))))) (@jI _ _ _ (@j0 _ _ _ _ kY)) j7)
      (@jI _ _ _ (@j0 _ _ _ _ (y9 (yB kJ (kW qA (by rfl) T.z_len PySem.boot_len (jB (pv 3) jD)) (@jL _ _ _ _ _ _ _ _ zA (kW qA (by rfl) T.z_len PySem.boot_len (jB (pv 4) jD)) jE) (jW _)) (y8 (kA D_none_ended hr rfl (jB (JD JG (pv 4) zI (zR (yW yT jE))) (jB (pv 2) jD)))))))),?_⟩
  refine (jA rfl (jA rfl (jA rfl ((gW y fa ll T0 k0 LL (an12 rfl hy hk0 hA hsh hfew hty hL hdom h50 h70 (fun H1 s1=>(jA rfl (?_)))))))))
  cases hI:JN T0 k0 LL with
  |false =>
    have e:yJ T0 k0 M LL ks=false:=by unfold yJ;rw [hI];rfl
    rw [e] at q
    exact j9 (j9 (q _ s1))
  |true =>
    refine kE (jA rfl (jA rfl (jA rfl (jA rfl ((rA y fa fe rl T0 M k0 row ks (an11 rfl (fun H' y k Q E s'=>hA H' y k Q E (s1.trans s')) (fun H' y k Q E s'=>hE H' y k Q E (s1.trans s')) hsh hf900 (jQ s1 hy) hk0 (s1 _ _ hrl) (hks.same s1) hr900 (fun H2 s2=>(jA rfl (?_))))))))))
    have s12:=s1.trans s2
    cases hH:JJ T0 M k0 ks with
    |false =>
      have e:yJ T0 k0 M LL ks=false:=by unfold yJ;rw [hI,hH];rfl
      rw [e] at q
      exact j9 (q _ s12)
    |true =>
      obtain ⟨xs,f1,f2,f3⟩:=hL.ex
      have e:yJ T0 k0 M LL ks=(decide (ks.length+1=LL.length) && !LL.dropLast.flatten.any M):=by unfold yJ;rw [hI,hH];rfl
      rw [e] at q
      have hrow:=hks.1
      refine kE (jA rfl (⟨rl,row,rfl,.inl (SqL.of (s12 _ _ hrl)),jA rfl (⟨ll,xs,rfl,.inl (SqL.of (s12 _ _ f1)),_,_,rfl,rfl,rfl,jA rfl (?_)⟩)⟩))
      by_cases hc:ks.length+1=LL.length
      · rw [decide_eq_true hc] at q
        rw [decide_eq_true (show V.int ((row.length:Nat):Int)=V.int (((xs.length:Nat):Int) - 1) from congrArg V.int (by omega))]
        refine j9 (jA rfl (jA rfl (jA rfl (⟨ll,xs,rfl,SqL.of (s12 _ _ f1),fun p hp=>?_⟩))))
        have sp:=s12.trans (jP hp (.lst (kP xs none (some (-1)))))
        have ecut:kP xs none (some (-1))=xs.dropLast:=by rw [mQ,List.dropLast_eq_take]
        have hL2:LayersAt (jC H2 p (.lst (kP xs none (some (-1))))) p LL.dropLast:=⟨_,jG,by rw [ecut,List.length_dropLast,List.length_dropLast,f2],fun j x hx=>by
          rw [ecut,List.getElem?_dropLast] at hx
          split at hx
          · rename_i hj
            obtain ⟨a,ys,lay,g1,g2,g3,g4,g5⟩:=f3 j x hx
            exact ⟨a,ys,lay,g1,(fun z=>by rw [z] at g4;rw [s12 _ _ g4] at hp;cases hp),by rw [List.getElem?_dropLast,if_pos (by omega)];exact g3,sp _ _ g4,g5.same sp⟩
          · cases hx⟩
        have hsub:∀k∈LL.dropLast.flatten,k∈LL.flatten:=fun k hk=>by
          obtain ⟨l,hl,hkl⟩:=List.mem_flatten.mp hk
          exact List.mem_flatten.mpr ⟨l,(List.dropLast_sublist LL).subset hl,hkl⟩
        have hle:LL.dropLast.flatten.length≤LL.flatten.length:=by
          rw [List.dropLast_eq_take]
          conv=>rhs;rw [← List.take_append_drop (LL.length - 1) LL]
          rw [List.flatten_append,List.length_append]
          omega
        exact (jA rfl ((JO p fe LL.dropLast T0 M (an6 rfl hL2 (fun H' y k Q E s'=>hE H' y k Q E (sp.trans s')) (fun k hk=>hdom k (hsub k hk)) (by omega) (fun H6 s6=>q _ (sp.trans s6))))))
      · rw [decide_eq_false hc] at q
        rw [decide_eq_false (fun z=>hc (by injection z with z;omega))]
        exact kE (q _ s12)
theorem sN:FnScope ["_law_script","_law_k"] ["_law_script","_law_k"] (jF QM):=⟨rfl,rfl,rfl,by decide +kernel,rfl,by decide +kernel,by decide +kernel⟩
theorem rG {f:Addr} {fd:FuncData} (F:Fun K "_law_cell_at" "_law_cell_at" QM f fd) (T:Txt K mg) : FnOk P w K mg base kC 1 f fd ["_law_script","_law_k"] (fP K):=by
 refine F.ok sN (fun vs H Q E h=>?_) (fun cdv A outer s H vs Q E hr h=>?_)
 ·obtain ⟨a,sx,ns,k,rfl,hS,hX,q⟩:=h
  rfl
 obtain ⟨a,sx,ns,k,rfl,hS,hX,q⟩:=h
 have hu:_<cLine:=hr.units0
 have hu1:=qB hr
 refine ⟨_,(@jJ _ _ _ _ _ (j8 (j5 DI (pv 1) (kW qA (by rfl) T.z_len PySem.boot_len (jB (pv 0) jD)) (jW _)) (@jI _ _ _ (@j0 _ _ _ _ (j4 kG (pv 0) (pv 1) (fun _ _=>rfl)))) j7)
   (@jI _ _ _ (@j0 _ _ _ _ jE))),?_⟩
 have hle:=Paired.length hX
 refine (jA rfl (jA rfl (⟨a,jA rfl (⟨.inl hS,_,_,rfl,rfl,jA rfl (?_)⟩)⟩)))
 refine kI (fun c=>?_) (fun c=>?_)
 ·have c':(k:Int)<((sx.length:Nat):Int):=of_decide_eq_true c
  have hk:k<sx.length:=by omega
  obtain ⟨n,hn,hv⟩:=nW hX (List.getElem?_eq_getElem hk)
  have e:ns.getD k 0=n:=by rw [List.getD_eq_getElem?_getD,hn];rfl
  rw [e] at q
  exact (jA rfl (jA rfl (⟨a,_,_,_,rfl,rfl,hS,kK (List.getElem?_eq_getElem hk),q _ hv⟩)))
 ·have c':¬(k:Int)<((sx.length:Nat):Int):=of_decide_eq_false (Bool.eq_false_iff.mpr c)
  have e:ns.getD k 0=0:=by rw [List.getD_eq_getElem?_getD,List.getElem?_eq_none (by omega)];rfl
  rw [e] at q
  exact q _ rfl
def CopyR (H Hk:Hp) (bt:Addr) (xs ws:List V) (LL:List (List GK)):Prop:=(∀(i:Nat) x,ws[i]?=some x→∃a b ys lay,x=.ref a∧a≠bt∧H a=none∧xs[i]?=some (.ref b)∧H b=some (.lst ys)∧LL[i]?=some lay∧KeysAt H ys lay∧Hk a=some (.lst ys))∧∀(i j:Nat) (a:Addr),ws[i]?=some (.ref a)→ws[j]?=some (.ref a)→i=j
theorem CopyR.put {H Hk:Hp} {bt a b:Addr} {xs ws ys:List V} {LL:List (List GK)} {lay:List GK} (h:CopyR H Hk bt xs ws LL) (hY:Hk bt=some (.lst ws)) (hx:xs[ws.length]?=some (.ref b)) (hb:H b=some (.lst ys)) (hl:LL[ws.length]?=some lay) (hk:KeysAt H ys lay) (sm:Same H Hk) (ha:Hk a=none):CopyR H (jC (jC Hk a (.lst ys)) bt (.lst (ws++[.ref a]))) bt xs (ws++[.ref a]) LL:=by
 have hne:a≠bt:=fun z=>by rw [z,hY] at ha;cases ha
 have get:∀(i:Nat) x,(ws++[V.ref a])[i]?=some x→(ws[i]?=some x)∨(i=ws.length∧x=.ref a):=fun i x e=>by
  by_cases c:i<ws.length
  ·rw [List.getElem?_append_left c] at e
   exact .inl e
  ·rw [List.getElem?_append_right (by omega)] at e
   obtain ⟨h1,h2⟩:=List.getElem?_eq_some_iff.mp e
   have hz:i - ws.length=0:=by rw [List.length_singleton] at h1;omega
   rw [hz] at e
   cases e
   exact .inr ⟨by omega,rfl⟩
 refine ⟨fun i x e=>?_,fun i j c e1 e2=>?_⟩
 ·rcases get i x e with e|⟨rfl,rfl⟩
  ·obtain ⟨a',b',ys',lay',p1,p2,p3,p4,p5,p6,p7,p8⟩:=h.1 i x e
   exact ⟨a',b',ys',lay',p1,p2,p3,p4,p5,p6,p7,by rw [jH p2,jH (fun z=>by rw [z,ha] at p8;cases p8)];exact p8⟩
  ·exact ⟨a,b,ys,lay,rfl,hne,vW sm ha,hx,hb,hl,hk,by rw [jH hne];exact jG⟩
 ·have old:∀i:Nat,ws[i]?=some (.ref a)→False:=fun i e=>by
   obtain ⟨a',_,ys',_,p1,_,_,_,_,_,_,p8⟩:=h.1 i _ e
   cases p1
   rw [ha] at p8
   cases p8
  rcases get i _ e1 with f1|⟨g1,z1⟩
  ·rcases get j _ e2 with f2|⟨g2,z2⟩
   ·exact h.2 i j c f1 f2
   ·rw [z2] at f1;exact (old _ f1).elim
  ·rcases get j _ e2 with f2|⟨g2,z2⟩
   ·rw [z1] at f2;exact (old _ f2).elim
   ·rw [g1,g2]
theorem CopyR.nil {H Hk:Hp} {bt:Addr} {xs:List V} {LL:List (List GK)}:CopyR H Hk bt xs [] LL:=⟨(fun i x e=>by cases e),(fun i j a e=>by cases e)⟩
theorem CopyR.lays {H Hc:Hp} {bt:Addr} {xs ws:List V} {LL:List (List GK)} (h:CopyR H Hc bt xs ws LL) (sc:Same H Hc) (hb:Hc bt=some (.lst ws)) (hl:ws.length=LL.length):LayersAt Hc bt LL:=⟨ws,hb,hl,fun j x e=>by
 obtain ⟨a,b,ys,lay,p1,p2,p3,p4,p5,p6,p7,p8⟩:=h.1 j x e
 exact ⟨a,ys,lay,p1,p2,p6,p8,p7.same sc⟩⟩
theorem KeysAt.erase {H:Hp} {xs:List V} {ks:List GK} (h:KeysAt H xs ks) (j:Nat):KeysAt H (xs.eraseIdx j) (ks.eraseIdx j):=⟨by rw [List.length_eraseIdx,List.length_eraseIdx,h.1],fun i x e=>by
  rw [List.getElem?_eraseIdx] at e
  rw [List.getElem?_eraseIdx]
  split at e
  · rename_i c;rw [if_pos c];exact h.2 _ x e
  · rename_i c;rw [if_neg c];exact h.2 _ x e⟩
theorem gT {x:GK}:∀(ps:List (GK×GK)) (acc:List GK),(x∈acc∨∃p∈ps,x=p.2)→x∈vD [] acc ps
 |[],acc,h=>h.elim id fun ⟨_,h,_⟩=>nomatch h
 |q::ps,acc,h=>by
  refine gT ps (vL [] acc q) ?_
  rcases h with h|⟨p,hp,rfl⟩
  ·left;unfold vL;split
   ·exact h
   ·exact List.mem_append_left _ h
  ·rcases List.mem_cons.mp hp with rfl|hp
   ·left;unfold vL;split
    ·rename_i h;simpa using h
    ·exact List.mem_append_right _ (List.mem_singleton.mpr rfl)
   ·exact .inr ⟨p,hp,rfl⟩
theorem gU {T:jK} {x:GK}:∀(lay acc:List GK),(x∈acc∨∃k∈lay,∃p∈vS T k,x=p.2)→x∈kH T [] acc lay
 |[],acc,h=>h.elim id fun ⟨_,h,_⟩=>nomatch h
 |k::lay,acc,h=>by
  refine gU lay (vD [] acc (vS T k)) ?_
  rcases h with h|⟨k',hk,p,hp,rfl⟩
  ·exact .inl (gT _ _ (.inl h))
  ·rcases List.mem_cons.mp hk with rfl|hk
   ·exact .inl (gT _ _ (.inr ⟨p,hp,rfl⟩))
   ·exact .inr ⟨k',hk,p,hp,rfl⟩
theorem suc_iff {T:jK} {lay:List GK} {x:GK}:x∈qH (kR T) lay↔x∈kH T [] [] lay:=by
 constructor
 ·intro h
  obtain ⟨k,hk,h2⟩:=List.mem_flatMap.mp h
  obtain ⟨p,hp,rfl⟩:=List.mem_map.mp h2
  exact gU _ _ (.inr ⟨k,hk,p,hp,rfl⟩)
 ·intro h
  rcases ZX lay [] h with h|⟨k,hk,p,hp,rfl⟩
  ·cases h
  ·exact List.mem_flatMap.mpr ⟨k,hk,List.mem_map.mpr ⟨p,hp,rfl⟩⟩
theorem g8:∀(f l:List GK),f.Nodup→(∀x∈f,x∈l)→l.length≤f.length→l.Nodup
 |[],l,_,_,h=>by
  obtain rfl:l=[]:=List.eq_nil_of_length_eq_zero (Nat.le_zero.mp h)
  exact List.nodup_nil
 |a::f,l,hf,hs,h=>by
  have ha:=hs a List.mem_cons_self
  have hc:=List.nodup_cons.mp hf
  have hl:(l.erase a).length=l.length - 1:=List.length_erase_of_mem ha
  have hp:0<l.length:=List.length_pos_of_mem ha
  rw [List.length_cons] at h
  have ih:=g8 f (l.erase a) hc.2 (fun x hx=>(List.mem_erase_of_ne (fun e:x=a=>hc.1 (e▸hx))).mpr (hs x (List.mem_cons_of_mem _ hx))) (by omega)
  have hn:a∉l.erase a:=fun z=>by
   have:=JF (l:=a::f) (m:=l.erase a) hf fun x hx=>by
    rcases List.mem_cons.mp hx with rfl|hx
    ·exact z
    ·exact (List.mem_erase_of_ne (fun e:x=a=>hc.1 (e▸hx))).mpr (hs x (List.mem_cons_of_mem _ hx))
   rw [List.length_cons] at this
   omega
  exact (List.perm_cons_erase ha).nodup_iff.mpr (List.nodup_cons.mpr ⟨hn,ih⟩)
theorem eR {A B:List GK} (ha:A.Nodup) (hb:B.Nodup):zB A B=true↔∀x,x∈A↔x∈B:=by
 unfold zB
 rw [Bool.and_eq_true,decide_eq_true_eq,List.all_eq_true]
 constructor
 ·rintro ⟨h1,h2⟩ x
  refine ⟨fun h=>of_decide_eq_true (h2 x h),fun h=>?_⟩
  by_cases c:x∈A
  ·exact c
  ·have:=JF (l:=x::A) (m:=B) (List.nodup_cons.mpr ⟨c,ha⟩) fun y hy=>by
    rcases List.mem_cons.mp hy with rfl|hy
    ·exact h
    ·exact of_decide_eq_true (h2 y hy)
   rw [List.length_cons] at this
   omega
 ·intro h
  exact ⟨Nat.le_antisymm (JF ha fun x hx=>(h x).mp hx) (JF hb fun x hx=>(h x).mpr hx),fun x hx=>decide_eq_true ((h x).mp hx)⟩
noncomputable def yN (T:jK) (P l l2:List GK):Bool:=(kH T [] [] l).all (fun s=>decide (s∈P)||decide (s∈l2))&&l2.all fun s=>decide (s∈kH T [] [] l)
noncomputable def yY (T:jK):List GK→List GK→List (List GK)→Bool
 |_,_,[]=>true
 |P,prev,l::r=>yN T P prev l&&yY T (P++l) l r
noncomputable def yK:List GK→List (List GK)→Bool
 |_,[]=>true
 |P,l::r=>(!l.isEmpty&&decide (P++l).Nodup)&&yK (P++l) r
noncomputable def ZO (T:jK) (k0:GK):List (List GK)→Bool
 |[]=>false
 |l::r=>decide (l=[k0])&&yK [] (l::r)&&yY T l l r
theorem wO {T:jK} {P N prev l:List GK} (hP:∀x,x∈P↔x∈N) (hN:N.Nodup):vX l (qZ (kR T) P prev)=(!l.isEmpty&&decide (N++l).Nodup&&yN T N prev l):=by
 have hf:(qZ (kR T) P prev).Nodup:=(yS _).filter _
 have hm:∀x,x∈qZ (kR T) P prev↔x∈kH T [] [] prev∧x∉N:=fun x=>by
  unfold qZ
  rw [List.mem_filter,metG_mem,decide_eq_true_eq,suc_iff,hP]
 have hl:∀x,x∈jX l↔x∈l:=fun x=>metG_mem
 rw [Bool.eq_iff_iff]
 unfold vX yN
 simp only [Bool.and_eq_true,Bool.not_eq_true',decide_eq_true_eq,List.all_eq_true,Bool.or_eq_true]
 constructor
 ·rintro ⟨h1,h2,h3⟩
  have h4:=(eR (yS l) (yS _)).mp h3
  have h5:∀x,x∈l↔x∈kH T [] [] prev∧x∉N:=fun x=>by rw [← hl,h4,metG_mem,hm]
  have hn:l.Nodup:=g8 _ l hf (fun x hx=>(h5 x).mpr ((hm x).mp hx)) (Nat.le_of_eq h2)
  refine ⟨⟨h1,?_⟩,fun s hs=>?_,fun s hs=>((h5 s).mp hs).1⟩
  ·rw [List.nodup_append]
   exact ⟨hN,hn,fun a ha b hb e=>((h5 b).mp hb).2 (e▸ha)⟩
  ·by_cases c:s∈N
   ·exact .inl c
   ·exact .inr ((h5 s).mpr ⟨hs,c⟩)
 ·rintro ⟨⟨h1,h2⟩,h3,h4⟩
  rw [List.nodup_append] at h2
  have h5:∀x,x∈l↔x∈kH T [] [] prev∧x∉N:=fun x=>⟨fun hx=>⟨h4 x hx,fun z=>h2.2.2 x z x hx rfl⟩,fun hx=>(h3 x hx.1).resolve_left hx.2⟩
  refine ⟨h1,Nat.le_antisymm (JF h2.2.1 fun x hx=>(hm x).mpr ((h5 x).mp hx)) (JF hf fun x hx=>(h5 x).mpr ((hm x).mp hx)),(eR (yS l) (yS _)).mpr fun x=>?_⟩
  rw [hl,h5,metG_mem,hm]
theorem nP {T:jK}:∀(r:List (List GK)) (P N prev:List GK),(∀x,x∈P↔x∈N)→N.Nodup→zY (kR T) P prev r=(yK N r&&yY T N prev r)
 |[],_,_,_,_,_=>rfl
 |l::r,P,N,prev,hP,hN=>by
  have e:=wO (T:=T) (prev:=prev) (l:=l) hP hN
  show (vX l (qZ (kR T) P prev)&&zY (kR T) (P++qZ (kR T) P prev) l r)=((!l.isEmpty&&decide (N++l).Nodup&&yK (N++l) r)&&(yN T N prev l&&yY T (N++l) l r))
  cases hI:vX l (qZ (kR T) P prev) with
  |false =>
   rw [hI] at e
   rw [Bool.false_and]
   cases h1:(!l.isEmpty&&decide (N++l).Nodup) with
   |false=>simp
   |true =>
    rw [h1,Bool.true_and] at e
    rw [← e]
    simp
  |true =>
   rw [hI] at e
   have e1:=e.symm
   rw [Bool.and_eq_true] at e1
   have hnd:(N++l).Nodup:=of_decide_eq_true (Bool.and_eq_true_iff.mp e1.1).2
   rw [e1.1,e1.2,Bool.true_and,Bool.true_and,Bool.true_and]
   have h3:zB (jX l) (jX (qZ (kR T) P prev))=true:=by
    unfold vX at hI
    exact (Bool.and_eq_true_iff.mp (Bool.and_eq_true_iff.mp hI).2).2
   have h4:=(eR (yS l) (yS _)).mp h3
   refine nP r _ _ l (fun x=>?_) hnd
   rw [List.mem_append,List.mem_append,hP,← metG_mem (ks:=qZ (kR T) P prev),← h4,metG_mem]
theorem dE {T:jK} {k0:GK} (LL:List (List GK)):JN (kR T) k0 LL=ZO T k0 LL:=by
 cases LL with
 |nil=>rfl
 |cons l r =>
  show (decide (l=[k0])&&zY (kR T) [k0] l r)=(decide (l=[k0])&&yK [] (l::r)&&yY T l l r)
  by_cases c:l=[k0]
  ·subst c
   rw [decide_eq_true rfl,Bool.true_and,Bool.true_and,nP r [k0] [k0] [k0] (fun _=>Iff.rfl) (by simp)]
   rfl
  ·rw [decide_eq_false c]
   simp
theorem KeysAt.drop {H:Hp} {xs:List V} {ks:List GK} (h:KeysAt H xs ks) (j:Nat):KeysAt H (xs.drop j) (ks.drop j):=⟨by rw [List.length_drop,List.length_drop,h.1],fun i x e=>by
  rw [List.getElem?_drop] at e ⊢
  exact h.2 _ x e⟩
theorem wK {H:Hp} {xs:List V} {ks:List GK} {v:V} {k:GK} (h:KeysAt H xs ks) (hv:(GV H k).1 v) (h8:gd k≤8):KeysAt H (v::xs) (k::ks):=⟨by rw [List.length_cons,List.length_cons,h.1],fun i x e=>by
  cases i with
  |zero=>cases e;exact ⟨k,rfl,hv,h8⟩
  |succ i=>exact h.2 i x e⟩
def InLo (H Hi:Hp) (r:Addr) (G:List GK) (x:V):Prop:=∃(a:Addr) (ys:List V) (ks:List GK),x=.ref a∧a≠r∧H a=none∧Hi a=some (.lst ys)∧KeysAt Hi ys ks∧ys.length≤60∧∀k∈ks,k∈G
structure Lo (H Hi:Hp) (r:Addr) (G:List GK) (xs:List V):Prop where
 sm:Same H Hi
 rn:H r=none
 row:Hi r=some (.lst xs)
 els:∀x∈xs,InLo H Hi r G x
 few:xs.length≤50
theorem J7 {Hi:Hp} {a:Addr} {ws:List V} (e:Hi a=some (.lst ws)) (o:HO):∀c l,Hi c=some (.tup l)→jC Hi a o c=some (.tup l):=fun c l h=>by
 rw [jH fun z=>by subst z;rw [e] at h;cases h];exact h
theorem InLo.put {H Hi:Hp} {r a:Addr} {G ks':List GK} {x:V} {ws zs:List V} (h:InLo H Hi r G x) (e:Hi a=some (.lst ws)) (hz:KeysAt Hi zs ks') (hl:zs.length≤60) (hG:∀k∈ks',k∈G):InLo H (jC Hi a (.lst zs)) r G x:=by
 obtain ⟨b,ys,ks,rfl,n,hb,e1,e2,e3,e4⟩:=h
 by_cases c:b=a
 ·subst c;exact ⟨b,zs,ks',rfl,n,hb,jG,hz.keep (J7 e _),hl,hG⟩
 ·exact ⟨b,ys,ks,rfl,n,hb,by rw [jH c];exact e1,e2.keep (J7 e _),e3,e4⟩
theorem InLo.new {H Hi:Hp} {r a:Addr} {G:List GK} {x:V} {o:HO} (h:InLo H Hi r G x) (hn:Hi a=none):InLo H (jC Hi a o) r G x:=by
 obtain ⟨b,ys,ks,rfl,n,hb,e1,e2,e3,e4⟩:=h
 have s:=jP hn o
 exact ⟨b,ys,ks,rfl,n,hb,s _ _ e1,e2.same s,e3,e4⟩
theorem InLo.out {H Hi:Hp} {r:Addr} {G:List GK} {x:V} {xs:List V} {o:HO} (h:InLo H Hi r G x) (e:Hi r=some (.lst xs)):InLo H (jC Hi r o) r G x:=by
 obtain ⟨b,ys,ks,rfl,n,hb,e1,e2,e3,e4⟩:=h
 exact ⟨b,ys,ks,rfl,n,hb,by rw [jH n];exact e1,e2.keep (J7 e _),e3,e4⟩
theorem Lo.put {H Hi:Hp} {r a:Addr} {G ks':List GK} {xs ws zs:List V} (h:Lo H Hi r G xs) (ha:H a=none) (hr:a≠r) (e:Hi a=some (.lst ws)) (hz:KeysAt Hi zs ks') (hl:zs.length≤60) (hG:∀k∈ks',k∈G):Lo H (jC Hi a (.lst zs)) r G xs :=
 ⟨qI ha h.sm,h.rn,by rw [jH hr.symm];exact h.row,fun x hx=>(h.els x hx).put e hz hl hG,h.few⟩
theorem Lo.new {H Hi:Hp} {r a:Addr} {G:List GK} {xs:List V} {o:HO} (h:Lo H Hi r G xs) (hn:Hi a=none):Lo H (jC Hi a o) r G xs :=
 ⟨h.sm.trans (jP hn o),h.rn,jP hn o _ _ h.row,fun x hx=>(h.els x hx).new hn,h.few⟩
theorem Lo.out {H Hi:Hp} {r:Addr} {G:List GK} {xs ys:List V} (h:Lo H Hi r G xs) (he:∀x∈ys,InLo H Hi r G x) (hl:ys.length≤50):Lo H (jC Hi r (.lst ys)) r G ys :=
 ⟨qI h.rn h.sm,h.rn,jG,fun x hx=>(he x hx).out h.row,hl⟩
theorem InLo.move {H Hi:Hp} {r p:Addr} {G:List GK} {x:V} {o:HO} (h:InLo H Hi r G x) (hp:Hi p=none):InLo H (jC Hi p o) p G x:=by
 obtain ⟨b,ys,ks,rfl,n,hb,e1,e2,e3,e4⟩:=h
 have s:=jP hp o
 exact ⟨b,ys,ks,rfl,fun z=>(by rw [z,hp] at e1;cases e1),hb,s _ _ e1,e2.same s,e3,e4⟩
theorem Lo.slice {H Hi:Hp} {r p:Addr} {G:List GK} {ys:List V} (s:Same H Hi) (he:∀x∈ys,InLo H Hi r G x) (hp:Hi p=none) (hl:ys.length≤50):Lo H (jC Hi p (.lst ys)) p G ys :=
 ⟨s.trans (jP hp _),vW s hp,jG,fun x hx=>(he x hx).move hp,hl⟩
theorem iY {R:V→List GK→Prop}:∀(xs:List V),(∀x∈xs,∃ks,R x ks)→∃SL:List (List GK),SL.length=xs.length∧(∀(j:Nat) x,xs[j]?=some x→∃l,SL[j]?=some l∧R x l)∧∀l∈SL,∃x,R x l
 |[],_=>⟨[],rfl,(fun j x e=>by cases e),(fun l h=>by cases h)⟩
 |x::xs,h=>by
  obtain ⟨SL,h1,h2,h3⟩:=iY xs fun y hy=>h y (List.mem_cons_of_mem _ hy)
  obtain ⟨l,hl⟩:=h x List.mem_cons_self
  refine ⟨l::SL,by rw [List.length_cons,List.length_cons,h1],fun j y e=>?_,fun l' hl'=>?_⟩
  ·cases j with
   |zero=>cases e;exact ⟨l,rfl,hl⟩
   |succ j=>exact h2 j y e
  ·rcases List.mem_cons.mp hl' with rfl|hl'
   ·exact ⟨x,hl⟩
   ·exact h3 l' hl'
theorem Lo.lays {H Hi:Hp} {r:Addr} {G:List GK} {xs:List V} (h:Lo H Hi r G xs):∃SL,LayersAt Hi r SL∧SL.length≤50∧∀l∈SL,l.length≤60∧∀k∈l,k∈G:=by
 obtain ⟨SL,h1,h2,h3⟩:=iY (R:=fun x l=>∃(a:Addr) (ys:List V),x=.ref a∧a≠r∧Hi a=some (.lst ys)∧KeysAt Hi ys l∧ys.length≤60∧∀k∈l,k∈G) xs fun x hx=>by
  obtain ⟨a,ys,ks,e,n,_,e1,e2,e3,e4⟩:=h.els x hx
  exact ⟨ks,a,ys,e,n,e1,e2,e3,e4⟩
 refine ⟨SL,⟨xs,h.row,h1.symm,fun j x e=>?_⟩,by rw [h1];exact h.few,fun l hl=>?_⟩
 ·obtain ⟨l,e1,a,ys,e2,n,e3,e4,_⟩:=h2 j x e
  exact ⟨a,ys,l,e2,n,e1,e3,e4⟩
 ·obtain ⟨x,a,ys,_,_,_,e4,e5,e6⟩:=h3 l hl
  exact ⟨by rw [← e4.1];exact e5,e6⟩
theorem CopyR.lo {H Hi:Hp} {r:Addr} {xs ws:List V} {LL:List (List GK)} {G:List GK} (h:CopyR H Hi r xs ws LL) (s:Same H Hi) (hr:H r=none) (hb:Hi r=some (.lst ws)) (hl:ws.length≤50) (h60:∀l∈LL,l.length≤60) (hG:∀k∈LL.flatten,k∈G):Lo H Hi r G ws :=
 ⟨s,hr,hb,fun x hx=>by
  obtain ⟨i,hi⟩:=List.mem_iff_getElem?.mp hx
  obtain ⟨a,b,ys,lay,rfl,p2,p3,p4,p5,p6,p7,p8⟩:=h.1 i x hi
  have hm:=List.mem_of_getElem? p6
  exact ⟨a,ys,lay,rfl,p2,p3,p8,p7.same s,by rw [p7.1];exact h60 _ hm,fun k hk=>hG k (List.mem_flatten.mpr ⟨_,hm,hk⟩)⟩,hl⟩
theorem fU {xs:List V} {lo hi:Option Int} {x:V} (h:x∈kP xs lo hi):x∈xs:=by
 unfold kP at h
 exact List.mem_of_mem_drop (List.mem_of_mem_take h)
theorem iZ {H:Hp} {ys:List V} {ks:List GK} (h:KeysAt H ys ks):∀(js:List Nat),∃ks',KeysAt H (js.filterMap (ys[·]?)) ks'∧∀k∈ks',k∈ks
 |[]=>⟨[],⟨rfl,fun i x e=>by cases e⟩,fun k hk=>by cases hk⟩
 |j::js=>by
  obtain ⟨ks',h1,h2⟩:=iZ h js
  cases hy:ys[j]? with
  |none=>rw [List.filterMap_cons_none hy];exact ⟨ks',h1,h2⟩
  |some y =>
   rw [List.filterMap_cons_some hy]
   obtain ⟨k,e1,e2,e3⟩:=h.2 j y hy
   refine ⟨k::ks',⟨by rw [List.length_cons,List.length_cons,h1.1],fun i x e=>?_⟩,fun k' hk'=>?_⟩
   ·cases i with
    |zero=>cases e;exact ⟨k,rfl,e2,e3⟩
    |succ i=>exact h1.2 i x e
   ·rcases List.mem_cons.mp hk' with rfl|hk'
    ·exact List.mem_of_getElem? e1
    ·exact h2 k' hk'
theorem o7 {α β:Type} {xs:List α} {ys:List β} (h:xs.length=ys.length):∀js:List Nat,(js.filterMap (xs[·]?)).length=(js.filterMap (ys[·]?)).length
 |[]=>rfl
 |j::js=>by
  have ih:=o7 h js
  by_cases c:j<xs.length
  ·rw [List.filterMap_cons_some (List.getElem?_eq_getElem c),List.filterMap_cons_some (List.getElem?_eq_getElem (h▸c)),List.length_cons,List.length_cons,ih]
  ·rw [List.filterMap_cons_none (List.getElem?_eq_none (by omega)),List.filterMap_cons_none (List.getElem?_eq_none (by omega)),ih]
theorem xE (xs:List V) (l u k:Option Int):(ZM xs l u k).length≤xs.length:=by
 have hz:(xs.map fun _=>Value.none).length=xs.length:=List.length_map ..
 have h:=slicePick_size_le (xs.map fun _=>Value.none).toArray l u k
 have e:(slicePick (xs.map fun _=>Value.none).toArray l u k).toList=(sliceRange (sliceBounds l u k xs.length).1 (sliceBounds l u k xs.length).2.1 (sliceBounds l u k xs.length).2.2).filterMap ((xs.map fun _=>Value.none)[·]?):=by simp [slicePick]
 rw [← Array.length_toList,e,List.size_toArray,hz] at h
 unfold ZM
 rw [o7 hz.symm]
 exact h
def dA (tL:Addr) (K:W.Frag):Sp:=fun vs H Q _=>∃(a:Addr) (sx:List V) (ns:List Int),vs=[.ref a]∧SqL K H a sx∧Paired v8 sx ns∧ns.length≤63∧H tL=some (.tbl #[])∧∀H',Q (.bl true) H'
def iP:Sp:=fun vs H Q _=>∃(ll:Addr) (c:Int) (y:V) (ko:GK) (LL:List (List GK)),vs=[.ref ll,.int c,y]∧LayersAt H ll LL∧1≤LL.length∧LL.length≤24∧(∀l∈LL,1≤l.length∧l.length≤24)∧(GV H ko).1 y∧gd ko≤8∧
 ∀r SL H',Same H H'→LayersAt H' r SL→SL.length≤50→(∀l∈SL,l.length≤60∧∀k∈l,k∈ko::LL.flatten)→Q (.ref r) H'
def zQ (H:Hp) (ll:Addr) (c:Int) (y:V) (M at_:Nat) (la:Addr) (j way:Nat) (xs:List V) (LL:List (List GK)) (G:List GK) (n:Nat) (σ:St) (Hi:Hp):Prop:=∃(r:Addr) (o:Option V),σ=[some (.ref ll),some (.int c),some y,some (.int M),some (.int at_),some (.ref la),some (.int j),some (.int way),some (.ref r),o]∧
 ((∃ws,CopyR H Hi r xs ws LL∧Same H Hi∧Hi r=some (.lst ws)∧ws.length=LL.length∧H r=none)∨(way≤n∧∃ws,Lo H Hi r G ws))
def oQ (w:World):Sp:=fun vs H Q _=>∃(ll:Addr) (LL:List (List GK)),vs=[.ref ll]∧LayersAt H ll LL∧LL.flatten.length≤3000∧∀H',Same H H'→Q (.bl (yK [] LL)) H'
def oR (w:World):Sp:=fun vs H Q _=>∃(y:V) (dT ll:Addr) (T:jK) (ls:List Addr) (m n c:Nat) (k0:GK) (LL:List (List GK)),vs=[y,.ref dT,.ref ll]∧TabR w H dT T ls∧TabOk m n c T∧n≤1000∧(GV H k0).1 y∧gd k0≤8∧LayersAt H ll LL∧(∀k∈LL.flatten,(jN T k).isSome=true)∧LL.length≤50∧LL.flatten.length≤3000∧
 ∀H',Same H H'→Q (.bl (ZO T k0 LL)) H'
theorem uV {K:W.Frag} {H H':Hp} {tL a:Addr} {tp:Array Value} {xs:List V} (k:JL tL H H') (ht:H tL=some (.tbl tp)) (h:SqL K H a xs):SqL K H' a xs:=by
 rcases h with (h|⟨o,h⟩)|h
 ·exact .inl (.inl (y6 k ht h (fun z=>by cases z)))
 ·exact .inl (.inr ⟨o,y6 k ht h (fun z=>by cases z)⟩)
 ·exact .inr h
theorem oA {m n c:Nat} {T:jK} (hO:TabOk m n c T) (h24:n≤24):bN (kR T):=fun S hn hd=>by
 have:=JA hO hn hd
 omega
theorem lU {w:World} {H:Hp} {d:Addr} {T:jK} {ls:List Addr} (h:TabR w H d T ls):ZR (kR T):=fun k p _ hp=>fB h.shut hp
theorem oS {T:jK} {k0:GK}:∀{N:Nat},(∀j,j<N→vF T k0 j≠[])→∀l∈kB T k0 N,l≠[]
 |0,_,l,hl=>by
  rw [List.mem_singleton.mp hl]
  exact List.cons_ne_nil _ _
 |N+1,h,l,hl=>by
  rw [Q3] at hl
  rcases List.mem_append.mp hl with hl|hl
  ·exact oS (fun j hj=>h j (by omega)) l hl
  ·rw [List.mem_singleton.mp hl];exact h N (by omega)
theorem n6:∀{LL:List (List GK)},(∀l∈LL,l≠[])→LL.length≤LL.flatten.length
 |[],_=>Nat.le_refl _
 |l::r,h=>by
  have h1:=n6 (LL:=r) fun l hl=>h l (List.mem_cons_of_mem _ hl)
  have h2:0<l.length:=List.length_pos_iff.mpr (h l List.mem_cons_self)
  rw [List.flatten_cons,List.length_append,List.length_cons]
  omega
theorem n5 {c:Nat}:∀{LL:List (List GK)},(∀l∈LL,l.length≤c)→LL.flatten.length≤LL.length*c
 |[],_=>Nat.zero_le _
 |l::r,h=>by
  have h1:=n5 (LL:=r) fun l hl=>h l (List.mem_cons_of_mem _ hl)
  have h2:=h l List.mem_cons_self
  rw [List.flatten_cons,List.length_append,List.length_cons,Nat.succ_mul]
  omega
theorem DQ {w:World} {d:Addr} {o:Obj} {kvs:List jS} {g:TG} {tb:TS} {D:Ends} {σ:St} {H:Hp} (Pv:Nat→St→Hp→Prop) (h0:Pv 0 σ H) (hl:∀i σ H,i≤kvs.length→Pv i σ H→H d=some (.frz o (GO w d kvs)))
  (hs:∀(i:Nat) (p:jS) σ H,kvs[i]?=some p→Pv i σ H→g p.2.1 σ H fun σ2 H2=>tb {D with nx:=Pv (i+1),ct:=Pv (i+1),bk:=D.nx} σ2 H2) (hd:∀σ H,Pv kvs.length σ H→D.nx σ H) :
  ∃W:Nat→Nat→St→Hp→Prop,(∃m,W 0 m σ H)∧∀i m σ H,W i m σ H→
   ((QI w d o kvs).stop i H∧D.nx σ H)∨((QI w d o kvs).go i H∧∃N:St→Hp→Prop,(∀σ' H',N σ' H'→∃m',m'<m∧W (i+1) m' σ' H')∧∀x H',(QI w d o kvs).yld i H x H'→g x σ H' fun σ2 H2=>tb {D with nx:=N,ct:=N,bk:=D.nx} σ2 H2):=by
 refine ⟨fun i m σ H=>m=kvs.length - i∧i≤kvs.length∧Pv i σ H,⟨kvs.length,by simp,Nat.zero_le _,h0⟩,?_⟩
 rintro i m σ H ⟨rfl,hi,p⟩
 have q:=hl i σ H hi p
 by_cases hlt:i<kvs.length
 ·refine .inr ⟨⟨q,hlt⟩,Pv (i+1),fun σ' H' p'=>⟨kvs.length - (i+1),by omega,rfl,hlt,p'⟩,fun x H' y=>?_⟩
  obtain ⟨rfl,e,he,rfl⟩:=y
  exact hs i e σ _ he p
 ·obtain rfl:i=kvs.length:=by omega
  exact .inl ⟨⟨q,Nat.le_refl _⟩,hd σ H p⟩
def iO (w:World):Sp:=fun vs H Q _=>∃(ll dM:Addr) (LL:List (List GK)) (T:jK) (M:GK→Bool),vs=[.ref ll,.ref dM]∧LayersAt H ll LL∧MarkAt w H dM T M∧(∀k∈LL.flatten,(jN T k).isSome=true)∧∀H',Same H H'→Q (.bl (!LL.flatten.any M)) H'
def lO (w:World):Sp:=fun vs H Q _=>∃(d:Addr) (o:Obj) (kvs:List jS) (T:jK),vs=[.ref d]∧H d=some (.frz o (GO w d kvs))∧GOk H kvs∧(∀k,(jN T k).isSome=true→∃p∈kvs,p.1=k)∧kvs.length≤999∧∀dM H',Same H H'→H dM=none→MarkAt w H' dM T (fun _=>false)→Q (.ref dM) H'
def m5 (w:World):Sp:=fun vs H Q _=>∃(ll dT dM:Addr) (md:V) (T:jK) (ls:List Addr) (M:GK→Bool) (m n c:Nat) (k0:GK) (N:Nat),vs=[.ref ll,.ref dT,.ref dM,md]∧TabR w H dT T ls∧TabOk m n c T∧n≤24∧MarkAt w H dM T M∧(jN T k0).isSome=true∧N≤23∧LayersAt H ll (kB T k0 N)∧
 ∀r xs ks H',Same H H'→H' r=some (.lst xs)→KeysAt H' xs ks→xs.length≤23→Q (.ref r) H'
theorem x9 {T:jK} {k0:GK} {N:Nat} (j:Nat) (h:j≤N):(kB T k0 N)[j]?=some (kN T k0 j):=by
 induction N with
 |zero =>
  obtain rfl:j=0:=by omega
  exact Q8 0
 |succ N ih =>
  by_cases c:j=N+1
  ·subst c;exact Q8 _
  ·rw [Q3,List.getElem?_append_left (by rw [J4];omega)]
   exact ih (by omega)
theorem xP {H:Hp} {xs:List V} {ks:List GK} (h:KeysAt H xs ks):KeysAt H xs.reverse ks.reverse:=by
 refine ⟨by rw [List.length_reverse,List.length_reverse,h.1],fun i x e=>?_⟩
 have hi:i<xs.length:=by have:=(List.getElem?_eq_some_iff.mp e).1;rwa [List.length_reverse] at this
 rw [List.getElem?_reverse hi] at e
 rw [List.getElem?_reverse (by rw [← h.1];exact hi),← h.1]
 exact h.2 _ x e
def iQ (w:World):Sp:=fun vs H Q _=>∃(rl:Addr) (c:Int) (dT:Addr) (y:V) (m:Nat) (T:jK) (ls:List Addr) (n:Nat) (k0:GK) (xs:List V) (ks:List GK),vs=[.ref rl,.int c,.ref dT,y,.int m]∧m≤4∧TabR w H dT T ls∧TabOk m n 100 T∧(GV H k0).1 y∧(jN T k0).isSome=true∧H rl=some (.lst xs)∧KeysAt H xs ks∧xs.length≤23∧
 ∀r us cs H',Same H H'→H' r=some (.lst us)→KeysAt H' us cs→us.length≤25→H r=none→Q (.ref r) H'
theorem wJ {H:Hp} {xs:List V} {ks:List GK} {v:V} {k:GK} (h:KeysAt H xs ks) (hv:(GV H k).1 v) (h8:gd k≤8):KeysAt H (xs.set 0 v) (ks.set 0 k):=by
 refine ⟨by rw [List.length_set,List.length_set,h.1],fun i x e=>?_⟩
 cases xs with
 |nil=>cases e
 |cons a r =>
  cases ks with
  |nil=>cases h.1
  |cons b t =>
   cases i with
   |zero=>cases e;exact ⟨k,rfl,hv,h8⟩
   |succ i=>exact h.2 (i+1) x e
theorem lN {T:jK} {k:GK} {r:List GK}:vE (kR T) k r=qM T k r:=by
 induction r generalizing k with
 |nil=>rfl
 |cons de r ih =>
  have e:zV (kR T) k de=behind T k de:=rfl
  rw [vE,qM,e]
  cases behind T k de with
  |nil=>rfl
  |cons a b=>exact ih
def m9 (w:World):Sp:=fun vs H Q _=>∃(y:V) (dT dM rl ll:Addr) (T:jK) (ls:List Addr) (M:GK→Bool) (m n:Nat) (k0:GK) (us:List V) (ks:List GK) (LL:List (List GK)),vs=[y,.ref dT,.ref dM,.ref rl,.ref ll]∧TabR w H dT T ls∧TabOk m n 100 T∧n≤1000∧MarkAt w H dM T M∧(GV H k0).1 y∧gd k0≤8∧(jN T k0).isSome=true∧H rl=some (.lst us)∧KeysAt H us ks∧us.length≤25∧LayersAt H ll LL∧(∀k∈LL.flatten,(jN T k).isSome=true)∧LL.length≤50∧LL.flatten.length≤3000∧
 ∀r H',Same H H'→H' r=some (.lst [.bl (y7 (kR T) k0 M LL),.bl (yJ (kR T) k0 M LL ks)])→Q (.ref r) H'
def CZ (bt:Addr) (HF Hj:Hp) (kvs:List jS) (ys:List V) (j:Nat):Prop:=ys.length=j∧∀(i:Nat) x,ys[i]?=some x→∃(p:jS) (e c l:Addr) (zs:List V),kvs[i]?=some p∧x=.ref e∧Hj e=some (.lst [p.2.1,.ref c])∧Hj c=some (.lst zs)∧jU kvs p.1=some (.ref l)∧HF l=some (.lst zs)∧HF c=none∧HF e=none∧e≠bt∧c≠bt
def C1 (bt:Addr) (HF Hj:Hp) (kvs:List jS) (ys:List V) (j:Nat):Prop:=ys.length=j∧∀(i:Nat) x,ys[i]?=some x→∃(p:jS) (e l:Addr),kvs[i]?=some p∧x=.ref e∧Hj e=some (.lst [p.2.1,.ref l])∧jU kvs p.1=some (.ref l)∧HF e=none∧e≠bt
theorem lT {α:Type} {ys:List α} {v x:α} {i:Nat} (h:(ys++[v])[i]?=some x):ys[i]?=some x∨(i=ys.length∧x=v):=by
 by_cases hi:i<ys.length
 ·rw [List.getElem?_append_left hi] at h;exact .inl h
 ·rw [List.getElem?_append_right (by omega)] at h
  have hz:i - ys.length=0:=by have:=(List.getElem?_eq_some_iff.mp h).1;rw [List.length_singleton] at this;omega
  rw [hz] at h
  cases h
  exact .inr ⟨by omega,rfl⟩
theorem fJ {H:Hp} {k:GK} {v:V} (h:(GV H k).1 v):vY v=true∨∃c,v=.ref c:=by
 cases k with
 |i n=>cases h;exact .inl rfl
 |s z=>cases h;exact .inl rfl
 |nil=>obtain ⟨a,e,_⟩:=h;exact .inr ⟨a,e⟩
 |cons b c=>obtain ⟨a,l,e,_⟩:=h;exact .inr ⟨a,e⟩
def pM (H:Hp) (kvs:List jS) (ys:List V):Prop:=ys.length=kvs.length∧∀(i:Nat) x,ys[i]?=some x→∃(p:jS) (e c l:Addr) (zs:List V),kvs[i]?=some p∧x=.ref e∧H e=some (.lst [p.2.1,.ref c])∧H c=some (.lst zs)∧jU kvs p.1=some (.ref l)∧H l=some (.lst zs)∧c≠l
theorem TabR.keepT {w:World} {H H':Hp} {tL d:Addr} {tp:Array Value} {T:jK} {ls:List Addr} (k:JL tL H H') (ht:H tL=some (.tbl tp)) (h:TabR w H d T ls):TabR w H' d T ls:=by
 have tk:=fK k ht
 obtain ⟨⟨kvs,e1,e2,ap,e3⟩,e4,e5,e6⟩:=h
 refine ⟨⟨kvs,?_,e2.keep tk,ap,fun k' ps hk=>?_⟩,e4,e5,e6⟩
 ·rcases e1 with e1|⟨o,e1⟩
  ·exact .inl (y6 k ht e1 (fun z=>by cases z))
  ·exact .inr ⟨o,y6 k ht e1 (fun z=>by cases z)⟩
 ·obtain ⟨l,xs,f1,f2,f3⟩:=e3 k' ps hk
  exact ⟨l,xs,f1,y6 k ht f2 (fun z=>by cases z),z9 tk f3⟩
structure Base53 (K:W.Frag) (w:World) (H:Hp) (dT dM bt a:Addr) (o:Obj) (kvs:List jS) (ys sx:List V) (T:jK) (ls:List Addr) (M:GK→Bool) (m n:Nat) (k:GK) (y:V):Prop where
 tab:TabR w H dT T ls
 tok:TabOk m n 100 T
 mrk:MarkAt w H dM T M
 key:(GV H k).1 y
 at_:(jN T k).isSome=true
 h8:gd k≤8
 frz:H dT=some (.frz o (GO w dT kvs))
 ok:GOk H kvs
 ap:(∀k k' l,jU kvs k=some (.ref l)→jU kvs k'=some (.ref l)→k=k')∧(∀k l,jU kvs k=some (.ref l)→l∈ls)∧kvs.length≤ls.length∧∀k,(jU kvs k).isSome=true→(jN T k).isSome=true
 rows:∀k ps,jN T k=some ps→∃l xs,jU kvs k=some (.ref l)∧H l=some (.lst xs)∧PairsAt H xs ps
 bt:H bt=some (.lst ys)
 kept:pM H kvs ys
 scr:SqL K H a sx
section
variable {K:W.Frag} {w:World} {H H':Hp} {dT dM bt a:Addr} {o:Obj} {kvs:List jS} {ys sx:List V} {T:jK} {ls:List Addr} {M:GK→Bool} {m n:Nat} {k:GK} {y:V}
theorem Base53.same (h:Base53 K w H dT dM bt a o kvs ys sx T ls M m n k y) (s:Same H H'):Base53 K w H' dT dM bt a o kvs ys sx T ls M m n k y :=
 ⟨h.tab.same s,h.tok,h.mrk.same s,jQ s h.key,h.at_,h.h8,s _ _ h.frz,qL s h.ok,h.ap,fun k ps e=>by
  obtain ⟨l,xs,f1,f2,f3⟩:=h.rows k ps e
  exact ⟨l,xs,f1,s _ _ f2,f3.same s⟩,s _ _ h.bt,⟨h.kept.1,fun i x e=>by
  obtain ⟨p,e',c,l,zs,q1,q2,q3,q4,q5,q6,q7⟩:=h.kept.2 i x e
  exact ⟨p,e',c,l,zs,q1,q2,s _ _ q3,s _ _ q4,q5,s _ _ q6,q7⟩⟩,s.seq h.scr⟩
theorem Base53.keepT {tL:Addr} {tp:Array Value} (h:Base53 K w H dT dM bt a o kvs ys sx T ls M m n k y) (s:JL tL H H') (ht:H tL=some (.tbl tp)):Base53 K w H' dT dM bt a o kvs ys sx T ls M m n k y:=by
  have tk:=fK s ht
  have kl:∀b xs,H b=some (.lst xs)→H' b=some (.lst xs):=fun b xs e=>y6 s ht e (fun z=>by cases z)
  exact ⟨h.tab.keepT s ht,h.tok,h.mrk.keepT s ht,(GV.keep tk _).1 _ h.key,h.at_,h.h8,y6 s ht h.frz (fun z=>by cases z),h.ok.keep tk,h.ap,fun k ps e=>by
    obtain ⟨l,xs,f1,f2,f3⟩:=h.rows k ps e
    exact ⟨l,xs,f1,kl _ _ f2,z9 tk f3⟩,kl _ _ h.bt,⟨h.kept.1,fun i x e=>by
    obtain ⟨p,e',c,l,zs,q1,q2,q3,q4,q5,q6,q7⟩:=h.kept.2 i x e
    exact ⟨p,e',c,l,zs,q1,q2,kl _ _ q3,kl _ _ q4,q5,kl _ _ q6,q7⟩⟩,uV s ht h.scr⟩
end
structure LayF (T:jK) (LL:List (List GK)):Prop where
 one:1≤LL.length
 le:LL.length≤24
 lay:∀l∈LL,1≤l.length∧l.length≤24
 dom:∀k∈LL.flatten,(jN T k).isSome=true
theorem CV {w:World} {H:Hp} {f dT:Addr} {T:jK} {ls:List Addr} (hA:Clo1 H f jY "law.<locals>._law_ahead" "_law_table_here" dT) (hT:TabR w H dT T ls) :
  QE (kS "law.<locals>._law_ahead" (jT jY) (jR jY) (jF jY) ["_law_state"] ["_law_table_here"] (vH w)) H f (kR T):=fun H' y k Q E s hk hy q=>by
 obtain ⟨ps,hps⟩:=Option.isSome_iff_exists.mp hk
 obtain ⟨c1,cdv,fd,hne,C⟩:=hA.same s
 have ea:(kR T).1 k=ps:=by show (jN T k).getD []=ps;rw [hps];rfl
 exact ⟨rfl,_,_,cdv,fd,C,rfl,y,dT,T,ls,k,ps,rfl,rfl,by intro hin;exact hne (List.mem_singleton.mp hin).symm,hT.same s,hy,hps,fun p xs hp hP=>q p xs _ (Same.refl _) hp (by rw [ea];exact hP)⟩
theorem CS {w:World} {H:Hp} {f dT dM:Addr} {T:jK} {ls:List Addr} {M:GK→Bool} (hE:Clo1 H f j6 "law.<locals>._law_ended" "_law_marks_here" dM) (hM:MarkAt w H dM T M) (hT:TabR w H dT T ls) :
  ZS (kS "law.<locals>._law_ended" (jT j6) (jR j6) (jF j6) ["_law_state"] ["_law_marks_here"] (yA w)) H f (kR T) M:=fun H' y k Q E s hk hy q=>by
 obtain ⟨ps,hps⟩:=Option.isSome_iff_exists.mp hk
 obtain ⟨c1,cdv,fd,hne,C⟩:=hE.same s
 exact ⟨rfl,_,_,cdv,fd,C,rfl,y,dM,T,M,k,rfl,rfl,by intro hin;exact hne (List.mem_singleton.mp hin).symm,hM.same s,hy,hT.deep k ps hps,hk,q _ (Same.refl _)⟩
theorem pL {w:World} {H HC:Hp} {fa fe cM cT dT dM:Addr} {T:jK} {ls:List Addr} {M:GK→Bool} {σ:St} (hT:TabR w H dT T ls) (hM:MarkAt w H dM T M)
  (hA:FnIs H fa jY "law.<locals>._law_ahead" "_law_table_here" cT) (hE:FnIs H fe j6 "law.<locals>._law_ended" "_law_marks_here" cM) (e5:σ[5]?=some (some (.ref dM))) (e4:σ[4]?=some (some (.ref dT)))
  (hHC:∀q∈[(5,cM),(4,cT)],∃v o u,σ[q.1]?=some (some v)∧HC q.2=some (FnO q.2 o)∧o.data=.cell (some u)∧RelV v u) (hn:∀q∈[(5,cM),(4,cT)],H q.2=none) :
  QE (kS "law.<locals>._law_ahead" (jT jY) (jR jY) (jF jY) ["_law_state"] ["_law_table_here"] (vH w)) (qK H HC ([(5,cM),(4,cT)].map (·.2))) fa (kR T)∧ZS (kS "law.<locals>._law_ended" (jT j6) (jR j6) (jF j6) ["_law_state"] ["_law_marks_here"] (yA w)) (qK H HC ([(5,cM),(4,cT)].map (·.2))) fe (kR T) M∧Same H (qK H HC ([(5,cM),(4,cT)].map (·.2)))∧
  ∀H',Same (qK H HC ([(5,cM),(4,cT)].map (·.2))) H'→(∀p∈[(5,cM),(4,cT)],H' p.2=HC p.2)∧Same H (qP H' ([(5,cM),(4,cT)].map (·.2))):=by
 have hn':∀c∈([(5,cM),(4,cT)]:List (Nat×Addr)).map (·.2),H c=none:=fun c hc=>by
  obtain ⟨q,hq,rfl⟩:=List.mem_map.mp hc
  exact hn q hq
 obtain ⟨vM,oM,uM,a1,a2,a3,a4⟩:=hHC (5,cM) (by simp)
 obtain ⟨vT,oT,uT,b1,b2,b3,b4⟩:=hHC (4,cT) (by simp)
 rw [e5] at a1;cases a1
 rw [e4] at b1;cases b1
 have s:=i9 (HC:=HC) hn'
 have dd:H dT≠none:=fun z=>by
  obtain ⟨_,e,_⟩:=hT.ex
  rcases e with e|⟨o,e⟩<;>(rw [z] at e;cases e)
 have dm:H dM≠none:=fun z=>by obtain ⟨_,e,_⟩:=hM.ex;rw [z] at e;cases e
 refine ⟨CV (hA.clo hn' (by simp) b2 b3 b4 dd) (hT.same s),CS (hE.clo hn' (by simp) a2 a3 a4 dm) (hM.same s) (hT.same s),s,fun H' s'=>⟨gK ?_ ?_,wV hn' s'⟩⟩
 ·have:=s' cM _ (by rw [Z9 (by simp)];exact a2)
  rw [this,a2]
 ·have:=s' cT _ (by rw [Z9 (by simp)];exact b2)
  rw [this,b2]
theorem sQ:FnScope ["_law_mode","_law_v"] ["_law_mode","_law_v"] (jF QQ):=⟨rfl,rfl,rfl,by decide +kernel,rfl,by decide +kernel,by decide +kernel⟩
theorem rM {f:Addr} {fd:FuncData} (F:Fun K "_law_label" "_law_label" QQ f fd) (T:Txt K mg) : FnOk P w K mg base kC 2 f fd ["_law_mode","_law_v"] (Z6):=by
 refine F.ok sQ (fun vs H Q E h=>?_) (fun cdv A outer s H vs Q E hr h=>?_)
 ·obtain ⟨m,v,rfl,hm,hv,q⟩:=h
  rfl
 obtain ⟨m,v,rfl,hm,hv,q⟩:=h
 have hu:_<cLine:=hr.units0
 have hu1:=qB hr
 refine ⟨_,(@jJ _ _ _ _ _ (j8 (j5 kJ (pv 0) jE (jW _)) (@jI _ _ _ (@j0 _ _ _ _ (pv 1))) j7)
   (@jJ _ _ _ _ _ (j8 (j5 kJ (pv 0) jE (jW _)) (@jI _ _ _ (@j0 _ _ _ _ (@jL _ _ _ _ _ _ _ _ vR (@jL _ _ _ _ _ _ _ _ oZ (@jL _ _ _ _ _ _ _ _ zA (pv 1) jE) (@jL _ _ _ _ _ _ _ _ B4 jE jE)) (pv 1)))) j7)
   (@jJ _ _ _ _ _ (j8 (j5 kJ (pv 0) jE (jW _)) (@jI _ _ _ (@j0 _ _ _ _ (@jL _ _ _ _ _ _ _ _ AM (j4 CL QK (@jL _ _ _ _ _ _ _ _ qF (pv 1) jE) (fun _ _=>rfl)) (@jL _ _ _ _ _ _ _ _ vR jE (@jL _ _ _ _ _ _ _ _ yC (pv 1) jE))))) j7)
   (@jJ _ _ _ _ _ (j8 (j5 kJ (pv 0) jE (jW _)) (@jI _ _ _ (@j0 _ _ _ _ (ZH (jB (@jL _ _ _ _ _ _ _ _ yC (pv 1) jE) (jB (ZH (jB (@jL _ _ _ _ _ _ _ _ qF (pv 1) jE) (jB QK jD))) jD))))) j7)
   (@jI _ _ _ (@j0 _ _ _ _ (j4 kG (kZ (@jB _ _ _ _ _ (pv 1) (@jB _ _ _ _ _ (@jL _ _ _ _ _ _ _ _ iF QK (JT lI (by rfl) T.z_str PyProof.Rows.boot_str (jB (pv 1) jD))) (@jB _ _ _ _ _ (ZH (jB (pv 1) (jB QK jD))) jD (by rfl)) (by rfl)) (by rfl))) (@jL _ _ _ _ _ _ _ _ qF (pv 1) jE) (fun _ _=>rfl)))))))),?_⟩
 have q':=fun y H' s g=>q y H' s g (ZW m v)
 refine ⟨_,rfl,rfl,jA rfl (kI (fun c=>?_) (fun c=>?_))⟩
 ·have c0:m=0:=by have e:=of_decide_eq_true c;injection e with e;omega
  subst c0
  exact (jA rfl (q' _ _ (Same.refl _) rfl))
 have h0:m≠0:=fun z=>c (by subst z;rfl)
 refine ⟨_,rfl,rfl,jA rfl (kI (fun c=>?_) (fun c=>?_))⟩
 ·have c0:m=1:=by have e:=of_decide_eq_true c;injection e with e;omega
  subst c0
  exact (jA rfl (jZ (jZ (⟨⟨by decide,by decide,by decide⟩,_,_,rfl,rfl,CU hv,jA rfl (jZ (q' _ _ (Same.refl _) rfl))⟩))))
 have h1:m≠1:=fun z=>c (by subst z;rfl)
 refine ⟨_,rfl,rfl,jA rfl (kI (fun c=>?_) (fun c=>?_))⟩
 ·have c0:m=2:=by have e:=of_decide_eq_true c;injection e with e;omega
  subst c0
  refine (jA rfl (jZ (⟨(show (0:Int)<3 by decide),("abc":Str),_,("abc":Str).cps.getD (v%3) 0,rfl,rfl,kT (by decide +kernel),CW v,jA rfl (jZ (⟨⟨by decide,by decide⟩,_,_,rfl,rfl,_,_,rfl,rfl,by omega,by omega,by show 1≤100;decide,?_⟩))⟩)))
  have e:((1:Int)+(v:Int) / 3).toNat=1+v / 3:=by omega
  rw [e]
  exact q' _ _ (Same.refl _) rfl
 have h2:m≠2:=fun z=>c (by subst z;rfl)
 refine ⟨_,rfl,rfl,jA rfl (kI (fun c=>?_) (fun c=>?_))⟩
 ·have c0:m=3:=by have e:=of_decide_eq_true c;injection e with e;omega
  subst c0
  refine (jA rfl (jZ (⟨⟨by decide,by decide⟩,jA rfl (jZ (⟨(show (0:Int)<5 by decide),kT (by show 2≤1000;decide),fun t1 ht1=>⟨kT (by show 2≤1000;decide),fun t2 ht2=>?_⟩⟩))⟩)))
  have u1:=jP ht1 (.tup [V.int ((v:Int)%5),.str "x"])
  have u2:=jP ht2 (.tup [V.int ((v:Int) / 5),.ref t1])
  refine q' _ _ (u1.trans u2) ⟨t2,jA rfl (⟨jG,_,jA rfl (⟨(congrArg V.int (by omega)),_,jA rfl (⟨⟨t1,jA rfl (⟨u2 _ _ jG,_,jA rfl (⟨(congrArg V.int (by omega)),_,_,rfl,rfl,rfl⟩)⟩)⟩,rfl⟩)⟩)⟩)⟩
 have h3:m≠3:=fun z=>c (by subst z;rfl)
 have e4:kM m v=if v%3=0 then .i v else if v%3=1 then .s ("s"++Str.ofString (toString (v:Int))) else .cons (.i v) (.cons (.s "") .nil):=by
  unfold kM
  rw [if_neg h0,if_neg h1,if_neg h2,if_neg h3]
 rw [e4] at q'
 refine (jA rfl (jA rfl (jA rfl (⟨DK v (by omega),_,_,rfl,rfl,kT (DL v (by omega)),jA rfl (⟨kT (by show 2≤1000;decide),fun t1 ht1=>⟨kT (by show 3≤1000;decide),fun l1 hl1=>?_⟩⟩)⟩))))
 have u1:=jP ht1 (.tup [V.int (v:Int),.str ""])
 have u2:=jP hl1 (.lst [V.int (v:Int),.str ("s"++Str.ofString (toString (v:Int))),.ref t1])
 have hlt:v%3<3:=Nat.mod_lt _ (by decide)
 have ei:(v:Int)%3=((v%3:Nat):Int):=by omega
 refine (jA rfl (jZ (⟨(show (0:Int)<3 by decide),l1,_,_,([V.int (v:Int),.str ("s"++Str.ofString (toString (v:Int))),.ref t1].getD (v%3) .non),rfl,rfl,SqL.of jG,?_,q' _ _ (u1.trans u2) ?_⟩)))
 ·rw [ei]
  refine kK ?_
  rw [List.getD_eq_getElem?_getD]
  generalize v%3=n at hlt
  match n,hlt with
  |0,_=>rfl
  |1,_=>rfl
  |2,_=>rfl
 ·generalize v%3=n at hlt
  match n,hlt with
  |0,_=>exact rfl
  |1,_=>exact rfl
  |2,_=>exact ⟨t1,jA rfl (⟨u2 _ _ jG,_,_,rfl,rfl,_,_,rfl,rfl,rfl⟩)⟩
theorem dX:FnScope ["_law_mode","_law_j","_law_kind"] ["_law_mode","_law_j"] (jF QN):=⟨rfl,rfl,rfl,by decide +kernel,rfl,by decide +kernel,by decide +kernel⟩
theorem rH {f:Addr} {fd:FuncData} (F:Fun K "_law_deed" "_law_deed" QN f fd) (T:Txt K mg) : FnOk P w K mg base kC 2 f fd ["_law_mode","_law_j"] (fY):=by
 refine F.ok dX (fun vs H Q E h=>?_) (fun cdv A outer s H vs Q E hr h=>?_)
 ·obtain ⟨m,j,rfl,hm,hj,q⟩:=h
  rfl
 obtain ⟨m,j,rfl,hm,hj,q⟩:=h
 have hu:_<cLine:=hr.units0
 have hu1:=qB hr
 refine ⟨_,(@jJ _ _ _ _ _ (jV (i:=2) dX.nd rfl (by first|exact Or.inl rfl|exact Or.inr rfl) (@jL _ _ _ _ _ _ _ _ qF (pv 0) jE))
   (qG (j8 (j5 kJ (pv 0) jE (jW _)) (@jI _ _ _ (jV (i:=2) dX.nd rfl (by first|exact Or.inl rfl|exact Or.inr rfl) (@jL _ _ _ _ _ _ _ _ qF (pv 1) jE))) j7)
   (@jI _ _ _ (@j0 _ _ _ _ (j4 kG (kZ (@jB _ _ _ _ _ (pv 1) (@jB _ _ _ _ _ (@jL _ _ _ _ _ _ _ _ iF QK (JT lI (by rfl) T.z_str PyProof.Rows.boot_str (jB (pv 1) jD))) (@jB _ _ _ _ _ (ZH (jB QK (jB (pv 1) jD))) jD (by rfl)) (by rfl)) (by rfl))) (pv 2) (fun _ _=>rfl)))))),?_⟩
 refine (jA rfl (jZ (⟨(show (0:Int)<3 by decide),?_⟩)))
 refine ⟨fun σ Hi=>σ=[some (.int m),some (.int j),some (.int (kindD m j))]∧Hi=H,?_,?_⟩
 ·refine ⟨_,rfl,rfl,jA rfl (kI (fun c=>?_) (fun c=>?_))⟩
  ·have c0:m=4:=by have e:=of_decide_eq_true c;injection e with e;omega
   subst c0
   refine (jA rfl (jZ (⟨(show (0:Int)<3 by decide),?_,rfl⟩)))
   rw [show ((kindD 4 j:Nat):Int)=(j:Int)%3 by rw [kindD,if_pos rfl];omega]
   rfl
  ·have h4:m≠4:=fun z=>c (by subst z;rfl)
   refine ⟨?_,rfl⟩
   rw [show ((kindD m j:Nat):Int)=(m:Int)%3 by rw [kindD,if_neg h4];omega]
   rfl
 rintro σ Hi ⟨rfl,rfl⟩
 have hk:kindD m j<3:=by unfold kindD;split<;>exact Nat.mod_lt _ (by decide)
 refine (jA rfl (jA rfl (jA rfl (⟨CD j (by omega),_,_,rfl,rfl,kT (CF j (by omega)),jA rfl (⟨kT (by show 2≤1000;decide),fun t1 ht1=>⟨kT (by show 3≤1000;decide),fun l1 hl1=>?_⟩⟩)⟩))))
 have u1:=jP ht1 (.tup [V.str "go",.int (j:Int)])
 have u2:=jP hl1 (.lst [V.int (j:Int),.str ("d"++Str.ofString (toString (j:Int))),.ref t1])
 refine (jA rfl (⟨l1,_,_,([V.int (j:Int),.str ("d"++Str.ofString (toString (j:Int))),.ref t1].getD (kindD m j) .non),rfl,rfl,SqL.of jG,kK ?_,q _ _ (u1.trans u2) ?_⟩))
 ·rw [List.getD_eq_getElem?_getD]
  generalize kindD m j=n at hk
  match n,hk with
  |0,_=>rfl
  |1,_=>rfl
  |2,_=>rfl
 ·unfold yL
  generalize kindD m j=n at hk
  match n,hk with
  |0,_=>exact rfl
  |1,_=>exact rfl
  |2,_=>exact ⟨t1,jA rfl (⟨u2 _ _ jG,_,_,rfl,rfl,_,_,rfl,rfl,rfl⟩)⟩
theorem sO:FnScope ["_law_table_here","_law_mode","_law_v","_law_w"] ["_law_table_here","_law_mode","_law_v","_law_w"] (jF QP):=⟨rfl,rfl,rfl,by decide +kernel,rfl,by decide +kernel,by decide +kernel⟩
theorem rL {f:Addr} {fd:FuncData} (F:Fun K "_law_joined" "_law_joined" QP f fd) (T:Txt K mg) (D__law_label:Def P w K mg base 2 "_law_label" ["_law_mode","_law_v"] [] (Z6)) (D__law_deed:Def P w K mg base 2 "_law_deed" ["_law_mode","_law_j"] [] (fY)):FnOk P w K mg base kC 4 f fd ["_law_table_here","_law_mode","_law_v","_law_w"] (lP w):=by
 refine F.ok sO (fun vs H Q E h=>?_) (fun cdv A outer s H vs Q E hr h=>?_)
 ·obtain ⟨d,m,v,u,T0,ls,ps,rfl,hm,hv,hw,hT,hps,hu0,h190,q⟩:=h
  rfl
 obtain ⟨d,m,v,u,T0,ls,ps,rfl,hm,hv,hw,hT,hps,hu0,h190,q⟩:=h
 have hu:_<cLine:=hr.units0
 have hu1:=qB hr
 have hu9:=qT hr
 have hu10:=qR hr
 refine ⟨_,(@jI _ _ _ (qW (vI PySem.F.plainAttrs_list PySem.F.slot_list_append PySem.F.type_list_append zG (vV hu9 (pv 0) (kA D__law_label hr rfl (jB (pv 1) (jB (pv 2) jD))) (fun _ _=>rfl)) (jB (ZH (jB (kA D__law_deed hr rfl (jB (pv 1) (jB (kW qA (by rfl) T.z_len PySem.boot_len (jB (vV hu9 (pv 0) (kA D__law_label hr rfl (jB (pv 1) (jB (pv 2) jD))) (fun _ _=>rfl)) jD)) jD))) (jB (kA D__law_label hr rfl (jB (pv 1) (jB (pv 3) jD))) jD))) jD)))),?_⟩
 obtain ⟨kvs,e1,g,ap,e3⟩:=hT.ex
 obtain ⟨l,xs,f1,f2,f3⟩:=e3 _ ps hps
 have hxl:=f3.1
 refine (jA rfl (jA rfl (jA rfl (⟨m,v,rfl,hm,hv,fun y1 H1 s1 hy1 _=>⟨d,kvs,_,jA rfl (⟨.of (s1 _ _ e1),qL s1 g,hy1,ZW m v,f1,.inl ⟨rfl,_,SqL.of (s1 _ _ f2)⟩,?_⟩)⟩⟩))))
 refine (jA rfl (jA rfl (jA rfl (jA rfl (⟨m,v,rfl,hm,hv,fun y2 H2 s2 hy2 _=>⟨d,kvs,_,jA rfl (⟨.of (s2 _ _ (s1 _ _ e1)),qL (s1.trans s2) g,hy2,ZW m v,f1,l,jA rfl (⟨.inl (SqL.of ((s1.trans s2) _ _ f2)),?_⟩)⟩)⟩⟩)))))
 refine ⟨m,xs.length,rfl,hm,by omega,fun y3 H3 s3 hy3=>(jA rfl (jA rfl (⟨m,u,rfl,hm,hw,fun y4 H4 s4 hy4 _=>⟨kT (by show 2≤1000;decide),fun t ht=>?_⟩⟩)))⟩
 have s14:=((s1.trans s2).trans s3).trans s4
 have ut:=jP ht (.tup [y3,y4])
 have hl5:=ut _ _ (s14 _ _ f2)
 refine ⟨l,_,_,rfl,rfl,hl5,vG (by omega),?_⟩
 have sA:=s14.trans ut
 have ntl:t≠l:=fun z=>by subst z;rw [s14 _ _ f2] at ht;cases ht
 have tk:∀a z,jC H4 t (.tup [y3,y4]) a=some (.tup z)→jC (jC H4 t (.tup [y3,y4])) l (.lst (xs++[.ref t])) a=some (.tup z):=fun a z e=>by
  rw [jH fun y=>by subst y;rw [hl5] at e;cases e];exact e
 have kp:∀a o,a≠l→H a=some o→jC (jC H4 t (.tup [y3,y4])) l (.lst (xs++[.ref t])) a=some o:=fun a o n e=>by rw [jH n];exact sA _ _ e
 refine q _ (wZ hT e1 g ap e3 hps f1 f2 f3 h190 hu0 kp jG (by rw [jH ntl,jG]) ?_ ?_ (iK _ _) (ZW _ _)) ⟨fun a o n e=>kp a o (fun y=>by subst y;exact n (ap.2.1 _ _ f1)) e,fun a zs e=>?_⟩
 ·rw [hxl] at hy3
  exact (GV.keep tk _).1 _ (jQ (s4.trans ut) hy3)
 ·exact (GV.keep tk _).1 _ (jQ ut hy4)
 ·by_cases z:a=l
  ·subst z;exact ⟨_,jG⟩
  ·exact ⟨zs,kp a _ z e⟩
theorem z8:FnScope ["_law_script","_law_mode","_law_many","_law_table_here","_law_v","_law_cell","_law_w"] ["_law_script","_law_mode","_law_many"] (jF QV):=⟨rfl,rfl,rfl,by decide +kernel,rfl,by decide +kernel,by decide +kernel⟩
theorem rV {f:Addr} {fd:FuncData} (F:Fun K "_law_table" "_law_table" QV f fd) (T:Txt K mg) (D__law_label:Def P w K mg base 2 "_law_label" ["_law_mode","_law_v"] [] (Z6)) (D__law_cell_at:Def P w K mg base 1 "_law_cell_at" ["_law_script","_law_k"] [] (fP K)) (D__law_joined:Def P w K mg base 4 "_law_joined" ["_law_table_here","_law_mode","_law_v","_law_w"] [] (lP w)):FnOk P w K mg base kC 6 f fd ["_law_script","_law_mode","_law_many"] (m4 w K):=by
 refine F.ok z8 (fun vs H Q E h=>?_) (fun cdv A outer s H vs Q E hr h=>?_)
 ·obtain ⟨a,sx,ns,m,n,rfl,hS,hX,h63,hm,hn1,hn,q⟩:=h
  rfl
 obtain ⟨a,sx,ns,m,n,rfl,hS,hX,h63,hm,hn1,hn,q⟩:=h
 have hu:_<cLine:=hr.units0
 have hu1:=qB hr
 have hu9:=qT hr
 have hu10:=qR hr
 refine ⟨_,(@jJ _ _ _ _ _ (jV (i:=3) z8.nd rfl (by first|exact Or.inl rfl|exact Or.inr rfl) Z8)
   (@jJ _ _ _ _ _ (qE PassesOwn.never rfl (ZZ (by rfl) T.z_range (jB (pv 2) jD)) (kD (i:=4) z8.nd rfl (by first|exact Or.inl rfl|exact Or.inr rfl))
    (@jI _ _ _ (J6 hu9 (pv 3) (kA D__law_label hr rfl (jB (pv 1) (jB (pv 4) jD))) (kZ jD) rfl)))
   (qG (j8 (j5 kJ (@jL _ _ _ _ _ _ _ _ qF (@jL _ _ _ _ _ _ _ _ JE (kA D__law_cell_at hr rfl (jB (pv 0) (jB jE jD))) jE) jE) jE (jW _)) (@jI _ _ _ (qE PassesOwn.never rfl (ZZ (by rfl) T.z_range (jB (@jL _ _ _ _ _ _ _ _ zA (pv 2) jE) jD)) (kD (i:=4) z8.nd rfl (by first|exact Or.inl rfl|exact Or.inr rfl))
    (@jI _ _ _ (qW (kA D__law_joined hr rfl (@jB _ _ _ _ _ (pv 3) (@jB _ _ _ _ _ (pv 1) (@jB _ _ _ _ _ (pv 4) (@jB _ _ _ _ _ (@jL _ _ _ _ _ _ _ _ vR (pv 4) jE) jD (by rfl)) (by rfl)) (by rfl)) (by rfl))))))) j7)
   (@jJ _ _ _ _ _ (qE PassesOwn.never rfl (kO (JD JG (pv 0) (zR jE) zI)) (kD (i:=5) z8.nd rfl (by first|exact Or.inl rfl|exact Or.inr rfl))
    (@jJ _ _ _ _ _ (jV (i:=4) z8.nd rfl (by first|exact Or.inl rfl|exact Or.inr rfl) (@jL _ _ _ _ _ _ _ _ ZE (pv 5) (pv 2)))
   (@jJ _ _ _ _ _ (jV (i:=6) z8.nd rfl (by first|exact Or.inl rfl|exact Or.inr rfl) (@jL _ _ _ _ _ _ _ _ qF (@jL _ _ _ _ _ _ _ _ JE (pv 5) (pv 2)) (pv 2)))
   (qG (j8 (j5 kJ (@jL _ _ _ _ _ _ _ _ qF (@jL _ _ _ _ _ _ _ _ yC (@jL _ _ _ _ _ _ _ _ JE (pv 5) (pv 2)) (pv 2)) jE) jE (jW _)) (@jI _ _ _ (jV (i:=6) z8.nd rfl (by first|exact Or.inl rfl|exact Or.inr rfl) (@jL _ _ _ _ _ _ _ _ qF (@jL _ _ _ _ _ _ _ _ vR (pv 4) jE) (pv 2)))) j7)
   (@jI _ _ _ (qW (kA D__law_joined hr rfl (@jB _ _ _ _ _ (pv 3) (@jB _ _ _ _ _ (pv 1) (@jB _ _ _ _ _ (pv 4) (@jB _ _ _ _ _ (pv 6) jD (by rfl)) (by rfl)) (by rfl)) (by rfl)))))))))
   (@jI _ _ _ (@j0 _ _ _ _ (pv 3))))))),?_⟩
 intro d hd0
 have u0:=jP hd0 (GO w d [])
 refine (jA rfl (jA rfl (⟨by omega,by omega,Q6 (n:=((n:Nat):Int).toNat) (fun i σ Hi=>∃T ls c4,σ=[some (.ref a),some (.int m),some (.int n),some (.ref d),c4,none,none]∧TabIn w H Hi d m i 0 T ls∧ls.length≤i) (yG ([]) ([]) none (an3 rfl ⟨uS jG,⟨fun v h=>absurd h (Nat.not_lt_zero v),fun _ _ e=>absurd e (by simp [jN]),fun _ _ e=>absurd e (by simp [jN])⟩,u0,fun l h=>(nomatch h),hd0,fun l h=>(nomatch h)⟩ (Nat.le_refl _))) ?_ ?_⟩)))
 ·rintro i σ Hi hi ⟨T,ls,c4,rfl,hI,hle⟩
  rw [Int.zero_add]
  obtain ⟨kvs,e1,g,ap,e3⟩:=hI.tab.ex
  refine ⟨Nat.zero_le _,fun l hl0=>?_⟩
  have u1:=jP hl0 (.lst [])
  refine (jA rfl (jA rfl (jA rfl (⟨m,i,rfl,hm,by omega,fun y H1 s1 hy h8=>?_⟩))))
  have s2:=u1.trans s1
  refine ⟨d,kvs,jA rfl (⟨s2 _ _ e1,qL s2 g,hy,h8,vG (by have:=ap.2.2.1;omega),?_⟩)⟩
  have hl1:=s1 _ _ (show jC Hi l (.lst []) l=some (.lst []) from jG)
  have hd1:=s2 _ _ e1
  have nld:l≠d:=fun z=>by subst z;rw [hl1] at hd1;cases hd1
  have hls:∀l'∈ls,l'≠l:=fun l' h z=>by subst z;obtain ⟨xs,e⟩:=hI.trk l' h;rw [hl0] at e;cases e
  refine ⟨bH T (kM m i),l::ls,jA rfl (⟨?_,by rw [List.length_cons];omega⟩)⟩
  ·refine ⟨x4 (hI.tab.same s2) (qL s2 g) ap (fun k ps h=>?_) (fun xs e=>by rw [hd1] at e;cases e) (fun xs e=>by rw [hd1] at e;cases e) (fun k' e=>hls l (ap.2.1 _ _ e) rfl) hy h8 (fun a o n e=>by rw [jH n];exact e) (by rw [jH nld];exact hl1) jG,⟨fun v hv=>?_,fun k ps h=>?_,fun k ps h=>?_⟩,qI hI.dn (hI.sm.trans s2),fun l' h=>?_,hI.dn,fun l' h=>?_⟩
   ·obtain ⟨l',xs,f1,f2,f3⟩:=e3 k ps h
    exact ⟨l',xs,f1,s2 _ _ f2,f3.same s2⟩
   ·rw [ZD]
    split
    ·rfl
    ·rename_i hne
     exact hI.ok.dom v (by have:v≠i:=fun z=>hne (by rw [z]);omega)
   ·rw [ZD] at h
    by_cases hk:k=kM m i
    ·rw [if_pos hk] at h;cases h;exact ⟨Nat.le_refl _,fun i p e=>by cases e⟩
    ·rw [if_neg hk] at h;exact hI.ok.row k ps h
   ·rw [ZD] at h
    by_cases hk:k=kM m i
    ·exact ⟨i,Nat.lt_succ_self i,hk⟩
    ·rw [if_neg hk] at h
     obtain ⟨v,hv,e⟩:=hI.ok.cod k ps h
     exact ⟨v,by omega,e⟩
   ·rcases List.mem_cons.mp h with rfl|h
    ·cases hz:H l' with
     |none=>rfl
     |some o=>have:=hI.sm _ _ hz;rw [hl0] at this;cases this
    ·exact hI.new l' h
   ·rcases List.mem_cons.mp h with rfl|h
    ·exact ⟨[],by rw [jH nld];exact hl1⟩
    ·obtain ⟨xs,e⟩:=hI.trk l' h
     exact ⟨xs,by rw [jH fun z=>by subst z;have:=s2 _ _ e;rw [hd1] at this;cases this];exact s2 _ _ e⟩
 rintro σ Hi ⟨T,ls,c4,rfl,hI,hle⟩
 rw [Int.toNat_natCast] at hI
 clear hle
 refine ⟨fun σ Hj=>∃T ls c4,σ=[some (.ref a),some (.int m),some (.int n),some (.ref d),c4,none,none]∧TabIn w H Hj d m n 24 T ls,?_,?_⟩
 ·refine (jA rfl ((v6 a sx ns 0 (an4 rfl (hI.sm.seq hS) hX (fun cv hcv=>⟨_,_,hcv,rfl,⟨by decide,by decide⟩,_,_,rfl,rfl,(show (0:Int)<3 by decide),rfl,jA rfl (kI (fun _=>?_) (fun _=>?_))⟩)))))
  ·refine (jA rfl (jZ ((jA rfl (⟨by omega,by omega,Q6 (n:=((n:Int) - 1).toNat) (fun i σ Hj=>∃T ls c4,σ=[some (.ref a),some (.int m),some (.int n),some (.ref d),c4,none,none]∧TabIn w H Hj d m n i T ls) ⟨T,ls,c4,rfl,hI⟩ ?_ ?_⟩)))))
   ·rintro i σ Hj hi ⟨T,ls,c4,rfl,hI⟩
    rw [Int.zero_add]
    have hi':i+1<n:=by omega
    obtain ⟨ps,hps⟩:=Option.isSome_iff_exists.mp (hI.ok.dom i (by omega))
    have h24:=(hI.ok.row _ ps hps).1
    refine (jA rfl (jA rfl (jA rfl (jA rfl (jZ (⟨d,m,i,i+1,T,ls,ps,rfl,hm,by omega,by omega,hI.tab,hps,hI.ok.dom (i+1) (by omega),by omega,fun H' hT hk=>⟨_,ls,jA rfl (hI.join hps hT hk)⟩⟩))))))
   ·rintro σ Hj ⟨T,ls,c4,rfl,hI⟩
    refine ⟨T,ls,c4,rfl,hI.mono (by omega)⟩
  ·exact ⟨T,ls,c4,rfl,hI.mono (by omega)⟩
 rintro σ Hj ⟨T,ls,c4,rfl,hI⟩
 have hcl:(kP sx (some 3) none).length≤63:=Nat.le_trans (Z5 sx _ _) (by rw [Paired.length hX];exact h63)
 have modN:∀z:Int,∃v:Nat,z%(n:Int)=v∧v<n:=fun z=>⟨(z%(n:Int)).toNat,by have:=Int.emod_nonneg z (show (n:Int)≠0 by omega);omega,by have:=Int.emod_nonneg z (show (n:Int)≠0 by omega);have:=Int.emod_lt_of_pos z (show (0:Int)<n by omega);omega⟩
 refine ⟨_,rfl,_,rfl,a,_,rfl,hI.sm.seq hS,fun p hp=>⟨p,rfl,⟨_,SqL.of jG⟩,qX (K:=K) (a:=p) (xs:=kP sx (some 3) none) (fun i σ Hk=>∃T ls c4 c5 c6,σ=[some (.ref a),some (.int m),some (.int n),some (.ref d),c4,c5,c6]∧TabIn w H Hk d m n (24+i) T ls∧Hk p=some (.lst (kP sx (some 3) none))∧p∉ls)
  ⟨T,v6 ls c4 none none (an4 rfl (hI.same (jP hp _)) jG (fun hin=>by obtain ⟨xs,e⟩:=hI.trk p hin;rw [hp] at e;cases e))⟩ (fun i σ Hk _ ⟨_,_,_,_,_,_,_,e,_⟩=>SqL.of e) ?_ ?_⟩⟩
 ·rintro i x σ Hk hx ⟨T,ls,c4,c5,c6,rfl,hI,hpk,hpl⟩
  have hi:=(List.getElem?_eq_some_iff.mp hx).1
  obtain ⟨z,hz⟩:=nX hX hx
  obtain ⟨v,ev,hv⟩:=modN z
  obtain ⟨u,eu,hu⟩:=modN (z / (n:Int))
  refine (jA rfl (jA rfl (⟨_,_,hz,rfl,(show (0:Int)<n by omega),?_⟩)))
  refine (jA rfl (jA rfl (⟨_,_,hz,rfl,⟨by omega,by omega⟩,jA rfl (jZ (⟨(show (0:Int)<n by omega),?_⟩))⟩)))
  refine ⟨fun σ Hl=>∃u:Nat,u<n∧σ=[some (.ref a),some (.int m),some (.int n),some (.ref d),some (.int v),some x,some (.int u)]∧Hl=Hk,?_,?_⟩
  ·refine (jA rfl (jA rfl (⟨_,_,hz,rfl,⟨by omega,by omega⟩,jA rfl (jZ (⟨⟨by omega,by omega⟩,_,_,rfl,rfl,(show (0:Int)<3 by decide),rfl,jA rfl (kI (fun _=>?_) (fun _=>?_))⟩))⟩)))
   ·obtain ⟨u',e',h'⟩:=modN (z%(n:Int)+1)
    exact (jA rfl (jZ ((jA rfl (jZ (⟨(show (0:Int)<n by omega),u',h',by rw [← ev,← e'];rfl,rfl⟩))))))
   ·exact ⟨u,hu,by rw [← ev,← eu];rfl,rfl⟩
  rintro σ Hl ⟨u,hu,rfl,rfl⟩
  obtain ⟨ps,hps⟩:=Option.isSome_iff_exists.mp (hI.ok.dom v hv)
  have hc:=(hI.ok.row _ ps hps).1
  refine (jA rfl (jA rfl (jA rfl (jA rfl (⟨d,m,v,u,T,ls,ps,rfl,hm,by omega,by omega,hI.tab,hps,hI.ok.dom u hu,by omega,fun H' hT hk=>⟨_,ls,_,_,jA rfl (⟨hI.join hps hT hk,hk.1 p _ hpl hpk,hpl⟩)⟩⟩)))))
 ·rintro σ Hk ⟨T,ls,c4,c5,c6,rfl,hI,hpk,hpl⟩
  exact (jA rfl (q d T ls Hk hI.tab (hI.mono (by omega)).ok hI.sm hI.new hI.dn))
theorem Q2:FnScope ["_law_cell","_law_mode","_law_many","_law_way","_law_rest","_law_marks_here","_law_v","_law_marked"] ["_law_cell","_law_mode","_law_many"] (jF QR):=⟨rfl,rfl,rfl,by decide +kernel,rfl,by decide +kernel,by decide +kernel⟩
theorem rO {f:Addr} {fd:FuncData} (F:Fun K "_law_marks" "_law_marks" QR f fd) (T:Txt K mg) (D__law_label:Def P w K mg base 2 "_law_label" ["_law_mode","_law_v"] [] (Z6)):FnOk P w K mg base kC 4 f fd ["_law_cell","_law_mode","_law_many"] (m6 w):=by
 refine F.ok Q2 (fun vs H Q E h=>?_) (fun cdv A outer s H vs Q E hr h=>?_)
 ·obtain ⟨cv,c,m,n,rfl,hcv,hm,hn1,hn,q⟩:=h
  rfl
 obtain ⟨cv,c,m,n,rfl,hcv,hm,hn1,hn,q⟩:=h
 have hu:_<cLine:=hr.units0
 have hu1:=qB hr
 have hu9:=qT hr
 have hu10:=qR hr
 refine ⟨_,(@jJ _ _ _ _ _ (jV (i:=3) Q2.nd rfl (by first|exact Or.inl rfl|exact Or.inr rfl) (@jL _ _ _ _ _ _ _ _ ZE (pv 0) jE))
   (@jJ _ _ _ _ _ (jV (i:=4) Q2.nd rfl (by first|exact Or.inl rfl|exact Or.inr rfl) (@jL _ _ _ _ _ _ _ _ JE (pv 0) jE))
   (@jJ _ _ _ _ _ (jV (i:=5) Q2.nd rfl (by first|exact Or.inl rfl|exact Or.inr rfl) Z8)
   (@jJ _ _ _ _ _ (qE PassesOwn.never rfl (ZZ (by rfl) T.z_range (jB (pv 2) jD)) (kD (i:=6) Q2.nd rfl (by first|exact Or.inl rfl|exact Or.inr rfl))
    (qG (jV (i:=7) Q2.nd rfl (by first|exact Or.inl rfl|exact Or.inr rfl) (pE (y9 (yB kJ (pv 3) jE (jW _)) (y8 (yB kJ (pv 6) (@jL _ _ _ _ _ _ _ _ qF (pv 4) (pv 2)) (jW _)))) (y8 (y9 (yB kJ (pv 3) jE (jW _)) (y8 (yB kJ (@jL _ _ _ _ _ _ _ _ qF (@jL _ _ _ _ _ _ _ _ vR (@jL _ _ _ _ _ _ _ _ vR (@jL _ _ _ _ _ _ _ _ oZ (pv 6) (pv 6)) (@jL _ _ _ _ _ _ _ _ yC (pv 6) jE)) (pv 4)) jE) jE (jW _)))))))
   (@jI _ _ _ (J6 hu9 (pv 5) (kA D__law_label hr rfl (jB (pv 1) (jB (pv 6) jD))) (pE (pv 7) (y8 (y9 (yB kJ (pv 3) jE (jW _)) (y8 (yB DJ (pv 6) (@jL _ _ _ _ _ _ _ _ zA (@jL _ _ _ _ _ _ _ _ zA (pv 2) jE) (@jL _ _ _ _ _ _ _ _ qF (pv 4) jE)) (jW _)))))) rfl))))
   (@jI _ _ _ (@j0 _ _ _ _ (pv 5))))))),?_⟩
 refine (jA rfl (⟨_,_,hcv,rfl,(show (0:Int)<4 by decide),jA rfl (⟨_,_,hcv,rfl,⟨by decide,by decide⟩,fun d hd0=>?_⟩)⟩))
 have u0:=jP hd0 (GO w d [])
 refine (jA rfl (jA rfl (⟨by omega,by omega,Q6 (n:=((n:Nat):Int).toNat) (fun i σ Hi=>∃M c6 c7,σ=[some cv,some (.int m),some (.int n),some (.int (c%4)),some (.int (c / 4)),some (.ref d),c6,c7]∧MarkIn w H Hi d m i M) ⟨fun _=>false,none,none,rfl,⟨⟨[],jG,GOk.nil,Nat.le_refl _,fun v h=>absurd h (Nat.not_lt_zero v)⟩,u0,hd0⟩⟩ ?_ ?_⟩)))
 ·rintro i σ Hi hi ⟨M,c6,c7,rfl,hI⟩
  rw [Int.zero_add]
  have hn0:(0:Int)<n:=by omega
  refine ⟨fun σ Hj=>∃b,σ=[some cv,some (.int m),some (.int n),some (.int (c%4)),some (.int (c / 4)),some (.ref d),some (.int i),some (.bl b)]∧Hj=Hi,?_,?_⟩
  ·refine ⟨_,rfl,rfl,jA rfl (kI (fun _=>?_) (fun _=>?_))⟩
   ·refine (jA rfl (jA rfl (jA rfl (jZ (⟨hn0,rfl,jA rfl (kI (fun _=>⟨true,rfl,rfl⟩) (fun _=>?_))⟩)))))
    exact ⟨_,rfl,rfl,jA rfl (kI (fun _=>(jA rfl (jA rfl (jZ (⟨.inl ⟨by omega,by omega⟩,jA rfl (jZ (⟨⟨by decide,by decide⟩,_,_,rfl,rfl,jA rfl (jZ (jZ (⟨(show (0:Int)<5 by decide),rfl,_,rfl,rfl⟩)))⟩))⟩))))) (fun _=>⟨false,rfl,rfl⟩))⟩
   ·refine (jA rfl (kE ?_))
    exact ⟨_,rfl,rfl,jA rfl (kI (fun _=>(jA rfl (jA rfl (jZ (⟨.inl ⟨by omega,by omega⟩,jA rfl (jZ (⟨⟨by decide,by decide⟩,_,_,rfl,rfl,jA rfl (jZ (jZ (⟨(show (0:Int)<5 by decide),rfl,_,rfl,rfl⟩)))⟩))⟩))))) (fun _=>⟨false,rfl,rfl⟩))⟩
  rintro σ Hj ⟨b,rfl,rfl⟩
  refine (jA rfl (jA rfl (kI (fun _=>?_) (fun _=>?_))))
  ·exact ⟨_,rfl,_,rfl,_,rfl,m,i,rfl,hm,by omega,fun y H1 s1 hy h8=>by
   obtain ⟨kvs,e1,g,hle,J⟩:=eU hI s1 hy true
   exact ⟨d,kvs,jA rfl (⟨e1,g,hy,h8,vG (by omega),_,_,jA rfl (J)⟩)⟩⟩
  refine ⟨_,rfl,rfl,jA rfl (kI (fun _=>?_) (fun _=>?_))⟩
  ·refine (jA rfl (jA rfl (jZ ((jA rfl (jZ (⟨(show (0:Int)<3 by decide),_,_,rfl,rfl,_,_,rfl,rfl,?_⟩)))))))
   exact ⟨_,rfl,_,rfl,_,rfl,m,i,rfl,hm,by omega,fun y H1 s1 hy h8=>by
   obtain ⟨kvs,e1,g,hle,J⟩:=eU hI s1 hy _
   exact ⟨d,kvs,jA rfl (⟨e1,g,hy,h8,vG (by omega),_,_,jA rfl (J)⟩)⟩⟩
  ·exact ⟨_,rfl,_,rfl,_,rfl,m,i,rfl,hm,by omega,fun y H1 s1 hy h8=>by
   obtain ⟨kvs,e1,g,hle,J⟩:=eU hI s1 hy false
   exact ⟨d,kvs,jA rfl (⟨e1,g,hy,h8,vG (by omega),_,_,jA rfl (J)⟩)⟩⟩
 rintro σ Hi ⟨M,c6,c7,rfl,hI⟩
 rw [Int.toNat_natCast] at hI
 exact (jA rfl (q d M Hi hI))
theorem bO:FnScope ["_law_layer","_law_table_here","_law_reached","_law_state","_law_pair"] ["_law_layer","_law_table_here"] (jF QL):=⟨rfl,rfl,rfl,by decide +kernel,rfl,by decide +kernel,by decide +kernel⟩
theorem rF {f:Addr} {fd:FuncData} (F:Fun K "_law_behind" "_law_behind" QL f fd) (T:Txt K mg) : FnOk P w K mg base kC 2 f fd ["_law_layer","_law_table_here"] (Z2 w):=by
 refine F.ok bO (fun vs H Q E h=>?_) (fun cdv A outer s H vs Q E hr h=>?_)
 ·obtain ⟨l,dT,T0,ls,m,n,c0,xs,lay,rfl,hT,hO,hn,hl,hks,hdom,q⟩:=h
  rfl
 obtain ⟨l,dT,T0,ls,m,n,c0,xs,lay,rfl,hT,hO,hn,hl,hks,hdom,q⟩:=h
 have hu:_<cLine:=hr.units0
 have hu1:=qB hr
 have hu9:=qT hr
 have hu10:=qR hr
 refine ⟨_,(@jJ _ _ _ _ _ (jV (i:=2) bO.nd rfl (by first|exact Or.inl rfl|exact Or.inr rfl) (kZ jD))
   (@jJ _ _ _ _ _ (qE PassesOwn.never rfl (kO (pv 0)) (kD (i:=3) bO.nd rfl (by first|exact Or.inl rfl|exact Or.inr rfl))
    (@jI _ _ _ (qE PassesOwn.never rfl (kO (vV hu9 (pv 1) (pv 3) (fun _ _=>rfl))) (kD (i:=4) bO.nd rfl (by first|exact Or.inl rfl|exact Or.inr rfl))
    (@jI _ _ _ (j8 (j5 (Z0 hu10) (j4 ZK (pv 4) jE (fun _ _=>rfl)) (pv 2) (by with_unfolding_all rfl)) (@jI _ _ _ (qW (vI PySem.F.plainAttrs_list PySem.F.slot_list_append PySem.F.type_list_append zG (pv 2) (jB (j4 ZK (pv 4) jE (fun _ _=>rfl)) jD)))) j7)))))
   (@jI _ _ _ (@j0 _ _ _ _ (pv 2))))),?_⟩
 refine ⟨Nat.zero_le _,fun r hr0=>?_⟩
 have u0:=jP hr0 (.lst [])
 refine (jA rfl (⟨l,rfl,⟨_,SqL.of (u0 _ _ hl)⟩,?_⟩))
 refine qX (K:=K) (xs:=xs) (fun i σ Hi=>∃acc c3 c4,σ=[some (.ref l),some (.ref dT),some (.ref r),c3,c4]∧ReachIn H Hi r T0 acc∧acc=kH T0 [] [] (lay.take i)) ⟨[],none,none,rfl,⟨u0,hr0,⟨[],jG,rfl,fun i x e=>by cases e⟩,List.nodup_nil,fun x hx=>by cases hx⟩,rfl⟩ (fun i σ Hi _ ⟨_,_,_,_,hI,_⟩=>SqL.of (hI.sm _ _ hl)) ?_ ?_
 ·rintro i x σ Hi hx ⟨acc,c3,c4,rfl,hI,hacc⟩
  obtain ⟨k,hk,hyk,h8⟩:=hks.2 i x hx
  obtain ⟨ps,hps⟩:=Option.isSome_iff_exists.mp (hdom k (List.mem_of_getElem? hk))
  obtain ⟨kvs,e1,g,ap,e3⟩:=hT.ex
  obtain ⟨l2,zs,f1,f2,f3⟩:=e3 k ps hps
  have hah:vS T0 k=ps:=by unfold vS;rw [hps];rfl
  refine (jA rfl (jA rfl (⟨dT,kvs,k,jA rfl (⟨nF hI.sm e1,qL hI.sm g,jQ hI.sm hyk,h8,f1,l2,rfl,⟨_,SqL.of (hI.sm _ _ f2)⟩,?_⟩)⟩)))
  refine qX (K:=K) (a:=l2) (xs:=zs) (fun j σ Hj=>∃acc' c4,σ=[some (.ref l),some (.ref dT),some (.ref r),some x,c4]∧ReachIn H Hj r T0 acc'∧acc'=vD [] acc (ps.take j)) ⟨acc,c4,rfl,hI,rfl⟩ (fun j σ Hj _ ⟨_,_,_,hJ,_⟩=>SqL.of (hJ.sm _ _ f2)) ?_ ?_
  ·rintro j z σ Hj hz ⟨acc',c4,rfl,hJ,hacc'⟩
   obtain ⟨pr,t,b,c,p1,rfl,p3,p4,p5,p6,p7⟩:=f3.2 j z hz
   have hin:pr∈vS T0 k:=by rw [hah];exact List.mem_of_getElem? p1
   have ht:(ps.take (j+1))=ps.take j++[pr]:=by rw [List.take_add_one,p1];rfl
   obtain ⟨ys,er,hky⟩:=hJ.row
   have p3':=hJ.sm _ _ p3
   have p5':=jQ hJ.sm p5
   refine (jA rfl (⟨t,_,_,c,rfl,rfl,SqT.of p3',rfl,jA rfl ((v6 r ys pr.2 acc' (an6 rfl (SqL.of er) p5' p7 hky (jA rfl (?_)))))⟩))
   by_cases hm:pr.2∈acc'
   ·rw [decide_eq_true hm]
    refine kE ⟨acc',jA rfl (⟨hJ,?_⟩)⟩
    rw [ht,iC,← hacc',vL,if_pos (by simpa using hm)]
   ·rw [decide_eq_false hm]
    have hlen:=JA hO hJ.nd hJ.dom
    refine j9 (jA rfl (⟨.inl ⟨rfl,_,SqL.of er⟩,jA rfl (⟨t,_,_,c,rfl,rfl,SqT.of p3',rfl,r,_,_,rfl,rfl,er,zW (by have:=hky.1;omega),?_⟩)⟩))
    refine ⟨acc'++[pr.2],jA rfl (⟨hJ.put er hky hm p5' p7 (fB hT.shut hin),?_⟩)⟩
    rw [ht,iC,← hacc',vL,if_neg (by simpa using hm)]
  ·rintro σ Hj ⟨acc',c4,rfl,hJ,hacc'⟩
   refine ⟨acc',_,jA rfl (⟨hJ,?_⟩)⟩
   rw [f3.1,List.take_length] at hacc'
   rw [hacc',List.take_add_one,hk]
   show _=kH T0 [] [] (lay.take i++[k])
   rw [tN,hah,← hacc]
 ·rintro σ Hf ⟨acc,c3,c4,rfl,hI,hacc⟩
  rw [hks.1,List.take_length] at hacc
  subst hacc
  obtain ⟨ys,er,hky⟩:=hI.row
  exact (jA rfl (q r ys Hf hI.sm hI.rn er hky))
theorem Q1:FnScope ["_law_first","_law_table_here","_law_marks_here","_law_layers_here","_law_met","_law_state","_law_following"] ["_law_first","_law_table_here","_law_marks_here"] (jF JW):=⟨rfl,rfl,rfl,by decide +kernel,rfl,by decide +kernel,by decide +kernel⟩
theorem rN {f:Addr} {fd:FuncData} (F:Fun K "_law_layers" "_law_layers" JW f fd) (T:Txt K mg) (D__law_behind:Def P w K mg base 2 "_law_behind" ["_law_layer","_law_table_here"] [] (Z2 w)):FnOk P w K mg base kC 4 f fd ["_law_first","_law_table_here","_law_marks_here"] (iR w):=by
 refine F.ok Q1 (fun vs H Q E h=>?_) (fun cdv A outer s H vs Q E hr h=>?_)
 ·obtain ⟨y,dT,dM,T0,ls,M,m0,n,c0,k0,rfl,hT,hO,hn,hM,hy,hk0,q⟩:=h
  rfl
 obtain ⟨y,dT,dM,T0,ls,M,m0,n,c0,k0,rfl,hT,hO,hn,hM,hy,hk0,q⟩:=h
 have hu:_<cLine:=hr.units0
 have hu1:=qB hr
 have hu9:=qT hr
 have hu10:=qR hr
 refine ⟨_,(@jJ _ _ _ _ _ (jV (i:=3) Q1.nd rfl (by first|exact Or.inl rfl|exact Or.inr rfl) (kZ (jB (kZ (jB (pv 0) jD)) jD)))
   (@jJ _ _ _ _ _ (jV (i:=4) Q1.nd rfl (by first|exact Or.inl rfl|exact Or.inr rfl) (mD hu9 (pv 0) kY))
   (@jI _ _ _ (xC PassesOwn.never (yU kY) (@jJ _ _ _ _ _ (qE PassesOwn.never rfl (kO (j4 kG (pv 3) (yW yT jE) (fun _ _=>rfl))) (kD (i:=5) Q1.nd rfl (by first|exact Or.inl rfl|exact Or.inr rfl))
    (@jI _ _ _ (j8 (yU (vV hu9 (pv 2) (pv 5) (fun _ _=>rfl))) (@jI _ _ _ (@j0 _ _ _ _ (pv 3))) j7)))
   (@jJ _ _ _ _ _ (yR (i:=6) ["_law_state","_law_met"] (vA 1 [4]) Q1.nd rfl (by first|exact Or.inl rfl|exact Or.inr rfl) rfl (vN (jF JW) rfl rfl (by decide +kernel) (by decide +kernel) (by decide +kernel)) (vO 1 [4] rfl rfl (by decide +kernel)) (kO (kA D__law_behind hr rfl (jB (j4 kG (pv 3) (yW yT jE) (fun _ _=>rfl)) (jB (pv 1) jD)))) (fun _ _ _ _ _=>(kD (i:=0) (show List.Nodup (["_law_state","_law_met"]:List Str) from by decide +kernel) rfl (by first|exact Or.inl rfl|exact Or.inr rfl))) (fun _ _ _ _ _=>(zU (dD (eN w hu9 (pv 0) (pv 1))))) (fun _ _ _ _ _=>(pv 0)))
   (@jJ _ _ _ _ _ (j8 (j5 kJ (kW qA (by rfl) T.z_len PySem.boot_len (jB (pv 6) jD)) jE (jW _)) (@jI _ _ _ (@j0 _ _ _ _ (pv 3))) j7)
   (@jJ _ _ _ _ _ (qE PassesOwn.never rfl (kO (pv 6)) (kD (i:=5) Q1.nd rfl (by first|exact Or.inl rfl|exact Or.inr rfl))
    (@jI _ _ _ (J6 hu9 (pv 4) (pv 5) kY rfl)))
   (@jI _ _ _ (qW (vI PySem.F.plainAttrs_list PySem.F.slot_list_append PySem.F.type_list_append zG (pv 3) (jB (pv 6) jD)))))))))))),?_⟩
 have h8:gd k0≤8:=by obtain ⟨ps,hps⟩:=Option.isSome_iff_exists.mp hk0;exact hT.deep k0 ps hps
 have dom:=fun i x (h:x∈(kB T0 k0 i).flatten)=>ZC hT.shut hk0 i x h
 have fit:∀i,(kB T0 k0 i).flatten.length≤1000:=fun i=>Nat.le_trans (JA hO (ZY i) (dom i)) hn
 refine (jA rfl (⟨kT (by show 1≤1000;decide),fun l1 hl1=>⟨kT (by show 1≤1000;decide),fun lr hlr=>?_⟩⟩))
 have u1:=jP hl1 (.lst [y])
 have u2:=jP hlr (.lst [.ref l1])
 have ne1:l1≠lr:=fun z=>by rw [← z,jG] at hlr;cases hlr
 refine fun dm hdm=>(jA rfl (⟨jG,k0,jQ ((u1.trans u2).trans (jP hdm _)) hy,h8,?_⟩))
 have u3:Same (jC (jC H l1 (.lst [y])) lr (.lst [.ref l1])) (jC (jC (jC (jC H l1 (.lst [y])) lr (.lst [.ref l1])) dm (GO w dm [])) dm (GO w dm [(k0,y,.bl true)])):=qI hdm (jP hdm _)
 have s3:=(u1.trans u2).trans u3
 have hn0:∀b,H b≠none→jC (jC H l1 (.lst [y])) lr (.lst [.ref l1]) b≠none:=fun b hb z=>by
  cases e:H b with
  |none=>exact hb e
  |some o=>have:=(u1.trans u2) _ _ e;rw [z] at this;cases this
 have hlr0:H lr=none:=by
  cases e:H lr with
  |none=>rfl
  |some o=>have:=u1 _ _ e;rw [hlr] at this;cases this
 have hdm0:H dm=none:=by
  cases e:H dm with
  |none=>rfl
  |some o=>exact absurd hdm (hn0 dm (by rw [e];simp))
 have hl0:(kB T0 k0 0).flatten.length=1:=rfl
 refine ⟨rC w H y dT dM lr dm T0 M k0,(v6 999 0 none none (an6 rfl (by rw [hl0]) (fun j hj=>absurd hj (Nat.not_lt_zero j)) s3 (AS jG (jQ s3 hy) h8) (uB (u3 _ _ jG) (u3 _ _ (u2 _ _ jG)) ne1 (jQ s3 hy) h8))),?_⟩
 rintro m σ Hi ⟨i,c5,c6,rfl,hm,hnst,s,hMt,hL⟩
 refine (jA rfl (j9 ⟨fun σ' H'=>∃m',m'<m∧rC w H y dT dM lr dm T0 M k0 m' σ' H',fun _ _ h=>h,?_⟩))
 obtain ⟨xs,la,ys,f1,f2,f3,f4,f5,f6⟩:=hL.last
 have hyl:ys.length≤1000:=by
  rw [f5.1]
  have:=fit i
  have h2:(kN T0 k0 i).length≤(kB T0 k0 i).flatten.length:=(List.sublist_flatten_of_mem (List.mem_of_getElem? (Q8 i))).length_le
  omega
 refine (jA rfl (jA rfl (⟨lr,xs,_,_,rfl,rfl,SqL.of f1,f2,la,rfl,⟨_,SqL.of f4⟩,?_⟩)))
 refine qX (K:=K) (a:=la) (xs:=ys) (fun j σ Hj=>∃c5,σ=[some y,some (.ref dT),some (.ref dM),some (.ref lr),some (.ref dm),c5,c6]∧Hj=Hi∧((kN T0 k0 i).take j).any M=false) ⟨c5,rfl,rfl,rfl⟩ (fun j σ Hj _ ⟨_,_,e,_⟩=>by subst e;exact SqL.of f4) ?_ ?_
 ·rintro j x σ Hj hx ⟨c5,rfl,rfl,hany⟩
  obtain ⟨kj,hkj,hgj,h8j⟩:=f5.2 j x hx
  have hdj:=dom i kj (cJ (List.mem_of_getElem? hkj))
  obtain ⟨kvsM,a1,a2,a3⟩:=(hM.same s).ex
  refine (jA rfl (jA rfl (⟨dM,kvsM,kj,jA rfl (⟨.of a1,a2,hgj,h8j,a3 kj hdj,jA rfl (?_)⟩)⟩)))
  cases hMk:M kj with
  |true=>exact j9 (jA rfl (q i lr Hj hnst (.inl (List.any_eq_true.mpr ⟨kj,List.mem_of_getElem? hkj,hMk⟩)) s hL))
  |false =>
   refine kE ⟨_,rfl,rfl,?_⟩
   rw [List.take_add_one,hkj,List.any_append,hany]
   simp [hMk]
 rintro σ Hj ⟨c5,rfl,rfl,hany⟩
 rw [f5.1,List.take_length] at hany
 refine (jA rfl (jA rfl (⟨lr,xs,_,_,rfl,rfl,SqL.of f1,f2,jA rfl (⟨la,dT,T0,ls,m0,n,c0,ys,kN T0 k0 i,rfl,hT.same s,hO,hn,f4,f5,fun k hk=>dom i k (cJ hk),fun rb zs H1 sB hrb0 hrb hkb=>⟨rb,rfl,⟨_,SqL.of hrb⟩,fun bt hbt=>?_⟩⟩)⟩)))
 have hfr:=g6 (T:=T0) (met:=(kB T0 k0 i).flatten) (kN T0 k0 i) []
 have hzl:zs.length≤1000:=by
  rw [hkb.1]
  refine Nat.le_trans (JA hO ?_ fun x hx=>eZ hT.shut hx) hn
  have:=bT (T:=T0) (met:=[]) (kN T0 k0 i) [] List.nodup_nil
  exact this
 refine yH (K:=K) (a:=rb) (xs:=zs) (caps:=[some (.ref dm)]) (fun j ws Hk=>KeysAt Hk ws (((kH T0 [] [] (kN T0 k0 i)).take j).filter fun k => !decide (k∈(kB T0 k0 i).flatten))) hbt (SqL.of hrb) ⟨rfl,fun i x e=>by cases e⟩ ?_ ?_
 ·rintro j x ws Hk hx hj hle sm hY hR
  obtain ⟨kj,hkj,hgj,h8j⟩:=hkb.2 j x hx
  obtain ⟨kvs,e1,g,e2⟩:=((hMt.same sB).same sm).ex
  refine (jA rfl (jA rfl ((yG dm kvs kj (an6 rfl (.of e1) g (jQ sm hgj) h8j (jA rfl (?_)))))))
  rw [Q5,e2]
  have ht:((kH T0 [] [] (kN T0 k0 i)).take (j+1))=(kH T0 [] [] (kN T0 k0 i)).take j++[kj]:=by rw [List.take_add_one,hkj];rfl
  by_cases hin:kj∈(kB T0 k0 i).flatten
  ·rw [decide_eq_true hin]
   refine kE (JB sm hY hle (Same.refl _) ?_)
   show KeysAt _ _ (((kH T0 [] [] (kN T0 k0 i)).take (j+1)).filter fun k => !decide (k∈(kB T0 k0 i).flatten))
   rw [ht,List.filter_append,List.filter_cons,if_neg (by simpa using hin)]
   simpa using hR
  ·rw [decide_eq_false hin]
   refine j9 (jA rfl (yI hbt sm hY hle (by omega) (Same.refl _) ?_))
   show KeysAt _ _ (((kH T0 [] [] (kN T0 k0 i)).take (j+1)).filter fun k => !decide (k∈(kB T0 k0 i).flatten))
   rw [ht,List.filter_append,List.filter_cons,if_pos (by simpa using hin)]
   exact hR.snoc (k:=kj) (fun a l e=>by rw [jH fun z=>by subst z;rw [hY] at e;cases e];exact e) (jQ sm hgj) h8j
 rintro ws Hg sg hbtg hleg hR
 rw [hkb.1,List.take_length,← hfr] at hR
 have hR':KeysAt Hg ws (vF T0 k0 i):=hR
 have sI:=sB.trans sg
 have sG:=s.trans sI
 refine (jA rfl (⟨bt,jA rfl (⟨.inl (SqL.of hbtg),rfl,jA rfl (kI (fun c=>?_) (fun c=>?_))⟩)⟩))
 ·have hz:ws.length=0:=by have e:=of_decide_eq_true c;injection e with e;omega
  have hnx:vF T0 k0 i=[]:=List.eq_nil_of_length_eq_zero (by rw [← hR'.1,hz])
  exact (jA rfl (q i lr Hg hnst (.inr hnx) sG (hL.same sI)))
 have hnx:vF T0 k0 i≠[]:=fun z=>c (by have h:=hR'.1;rw [z] at h;rw [h];rfl)
 have hnd:=ZY (T:=T0) (k0:=k0) (i+1)
 have hft:=fit (i+1)
 rw [Q7] at hnd hft
 have btn:H bt=none:=by
  cases e:H bt with
  |none=>rfl
  |some o=>have:=(s.trans sB) _ _ e;rw [hbt] at this;cases this
 have btd:bt≠dm:=fun z=>by
  obtain ⟨kvs,e1,_⟩:=(hMt.same sB).ex
  rw [← z,hbt] at e1;cases e1
 have lrd:lr≠dm:=fun z=>by
  obtain ⟨kvs,e1,_⟩:=hMt.ex
  rw [← z,f1] at e1;cases e1
 have btl:bt≠lr:=fun z=>by rw [z,sB _ _ f1] at hbt;cases hbt
 refine (jA rfl (⟨bt,rfl,⟨_,SqL.of hbtg⟩,qX (K:=K) (a:=bt) (xs:=ws) (fun j σ Hj=>∃c5,σ=[some y,some (.ref dT),some (.ref dM),some (.ref lr),some (.ref dm),c5,some (.ref bt)]∧gH dm Hg Hj∧MetAt w Hj dm ((kB T0 k0 i).flatten++(vF T0 k0 i).take j)) ⟨c5,rfl,fun _ _ _ e=>e,by rw [List.take_zero,List.append_nil];exact (hMt.same sI)⟩ (fun j σ Hj _ ⟨_,_,kp,_⟩=>SqL.of (kp bt _ btd hbtg)) ?_ ?_⟩))
 ·rintro j x σ Hj hx ⟨c5,rfl,kp,hMj⟩
  obtain ⟨kj,hkj,hgj,h8j⟩:=hR'.2 j x hx
  obtain ⟨kvs0,d1,_⟩:=(hMt.same sI).ex
  obtain ⟨kvs,e1,g,e2⟩:=hMj.ex
  have tk:∀a l,Hg a=some (.tup l)→Hj a=some (.tup l):=fun a l e=>kp a _ (fun z=>by rw [z,d1] at e;cases e) e
  have ht:((vF T0 k0 i).take (j+1))=(vF T0 k0 i).take j++[kj]:=by rw [List.take_add_one,hkj];rfl
  have hkl:kvs.length≤1000:=by
   have:kvs.length=((kB T0 k0 i).flatten++(vF T0 k0 i).take j).length:=by rw [← e2,List.length_map]
   rw [this,List.length_append,List.length_take]
   rw [List.length_append] at hft
   omega
  have hni:kj∉(kB T0 k0 i).flatten++(vF T0 k0 i).take j:=by
   have hs:((kB T0 k0 i).flatten++(vF T0 k0 i).take j++[kj]).Nodup:=by
    rw [List.append_assoc,← ht]
    exact hnd.sublist ((List.Sublist.refl _).append (List.take_sublist _ _))
   rw [List.nodup_append] at hs
   exact fun h=>hs.2.2 kj h kj (by simp) rfl
  refine (jA rfl (jA rfl ((yG dm kvs kj (an7 rfl e1 g ((GV.keep tk _).1 _ hgj) h8j (zW (by omega)) (?_))))))
  refine (jA rfl (⟨fun a o n e=>by rw [jH n];exact kp a o n e,?_⟩))
  rw [ht,← List.append_assoc]
  exact MetAt.put e1 g e2 hni ((GV.keep tk _).1 _ hgj) h8j
 rintro σ Hj ⟨c5,rfl,kp,hMj⟩
 rw [hR'.1,List.take_length] at hMj
 obtain ⟨kvs0,d1,_⟩:=(hMt.same sI).ex
 have hLj:=(hL.same sI).keepB kp d1
 have tk:∀a l,Hg a=some (.tup l)→Hj a=some (.tup l):=fun a l e=>kp a _ (fun z=>by rw [z,d1] at e;cases e) e
 have f1j:=kp lr _ lrd (sI _ _ f1)
 have sJ:Same H Hj:=fun a o e=>kp a o (yZ e hdm0) (sG _ _ e)
 have hlg:=lW (T:=T0) (M:=M) (k0:=k0) i hnst
 refine (jA rfl (⟨.inl ⟨rfl,_,SqL.of f1j⟩,jA rfl (⟨lr,_,_,rfl,rfl,f1j,zW (by have:=fit i;omega),?_⟩)⟩))
 have hpos:0<(vF T0 k0 i).length:=List.length_pos_iff.mpr hnx
 rw [List.length_append] at hft
 refine ⟨m - (vF T0 k0 i).length,by omega,i+1,_,jA rfl (⟨by rw [Q7,List.length_append];omega,fun j hj=>?_,qI hlr0 sJ,?_,?_⟩)⟩
 ·rcases Nat.lt_succ_iff_lt_or_eq.mp hj with h|h
  ·exact hnst j h
  ·subst h
   rintro (h|h)
   ·rw [hany] at h;cases h
   ·exact hnx h
 ·rw [Q7];exact hMj.keep f1j
 ·rw [Q3]
  exact hLj.put f1j (kp bt _ btd hbtg) (hR'.keep tk) btl
theorem zF:FnScope ["_law_layers_here","_law_cell","_law_other","_law_many","_law_at","_law_layer","_law_j","_law_way","_law_spoiled_here","_law_joined_here"] ["_law_layers_here","_law_cell","_law_other"] (jF z4):=⟨rfl,rfl,rfl,by decide +kernel,rfl,by decide +kernel,by decide +kernel⟩
theorem rS {f:Addr} {fd:FuncData} (F:Fun K "_law_spoiled" "_law_spoiled" z4 f fd) (T:Txt K mg) : FnOk P w K mg base kC 1 f fd ["_law_layers_here","_law_cell","_law_other"] (iP):=by
 refine F.ok zF (fun vs H Q E h=>?_) (fun cdv A outer s H vs Q E hr h=>?_)
 ·obtain ⟨ll,c,y,ko,LL,rfl,hL,hL1,hL24,h24,hy,h8,q⟩:=h
  rfl
 obtain ⟨ll,c,y,ko,LL,rfl,hL,hL1,hL24,h24,hy,h8,q⟩:=h
 have hu:_<cLine:=hr.units0
 have hu1:=qB hr
 refine ⟨_,(@jJ _ _ _ _ _ (jV (i:=3) zF.nd rfl (by first|exact Or.inl rfl|exact Or.inr rfl) (kW qA (by rfl) T.z_len PySem.boot_len (jB (pv 0) jD)))
   (@jJ _ _ _ _ _ (jV (i:=4) zF.nd rfl (by first|exact Or.inl rfl|exact Or.inr rfl) (@jL _ _ _ _ _ _ _ _ qF (@jL _ _ _ _ _ _ _ _ yC (pv 1) jE) (pv 3)))
   (@jJ _ _ _ _ _ (jV (i:=5) zF.nd rfl (by first|exact Or.inl rfl|exact Or.inr rfl) (j4 kG (pv 0) (pv 4) (fun _ _=>rfl)))
   (@jJ _ _ _ _ _ (jV (i:=6) zF.nd rfl (by first|exact Or.inl rfl|exact Or.inr rfl) (@jL _ _ _ _ _ _ _ _ qF (@jL _ _ _ _ _ _ _ _ yC (@jL _ _ _ _ _ _ _ _ yC (pv 1) jE) (pv 3)) (kW qA (by rfl) T.z_len PySem.boot_len (jB (pv 5) jD))))
   (@jJ _ _ _ _ _ (jV (i:=7) zF.nd rfl (by first|exact Or.inl rfl|exact Or.inr rfl) (@jL _ _ _ _ _ _ _ _ qF (pv 1) jE))
   (@jJ _ _ _ _ _ (yR (i:=8) ["_law_one"] (vA 1 []) zF.nd rfl (by first|exact Or.inl rfl|exact Or.inr rfl) rfl (vN (jF z4) rfl rfl (by decide +kernel) (by decide +kernel) (by decide +kernel)) (vO 1 [] rfl rfl (by decide +kernel)) (kO (pv 0)) (fun _ _ _ _ _=>(kD (i:=0) (show List.Nodup (["_law_one"]:List Str) from by decide +kernel) rfl (by first|exact Or.inl rfl|exact Or.inr rfl))) (fun _ _ _ _ _=>JU) (fun _ _ _ _ _=>(JT (eB K) (by rfl) T.z_list PyProof.Rows.boot_list (jB (pv 0) jD))))
   (qG (j8 (j5 kJ (pv 7) jE (jW _)) (@jI _ _ _ (@j0 _ _ _ _ (JD JG (pv 8) zI (zR (@jL _ _ _ _ _ _ _ _ qF (@jL _ _ _ _ _ _ _ _ yC (pv 1) jE) (@jL _ _ _ _ _ _ _ _ vR (pv 3) jE)))))) j7)
   (qG (j8 (j5 kJ (pv 7) jE (jW _)) (@jI _ _ _ (qW (vI PySem.F.plainAttrs_list PySem.F.slot_list_pop PySem.F.type_list_pop cI (j4 kG (pv 8) (pv 4) (fun _ _=>rfl)) (jB (pv 6) jD)))) j7)
   (qG (j8 (j5 kJ (pv 7) jE (jW _)) (@jI _ _ _ (qW (vI PySem.F.plainAttrs_list PySem.F.slot_list_append PySem.F.type_list_append zG (j4 kG (pv 8) (@jL _ _ _ _ _ _ _ _ qF (@jL _ _ _ _ _ _ _ _ yC (pv 1) jE) (pv 3)) (fun _ _=>rfl)) (jB (j4 kG (pv 5) (pv 6) (fun _ _=>rfl)) jD)))) j7)
   (qG (j8 (j5 kJ (pv 7) jE (jW _)) (@jJ _ _ _ _ _ (qW (vI PySem.F.plainAttrs_list PySem.F.slot_list_pop PySem.F.type_list_pop cI (j4 kG (pv 8) (pv 4) (fun _ _=>rfl)) (jB (pv 6) jD)))
   (@jJ _ _ _ _ _ (j8 (j5 kJ (@jL _ _ _ _ _ _ _ _ vR (pv 4) jE) (pv 3) (jW _)) (@jI _ _ _ (qW (vI PySem.F.plainAttrs_list PySem.F.slot_list_append PySem.F.type_list_append zG (pv 8) (jB (kZ jD) jD)))) j7)
   (@jI _ _ _ (qW (vI PySem.F.plainAttrs_list PySem.F.slot_list_append PySem.F.type_list_append zG (j4 kG (pv 8) (@jL _ _ _ _ _ _ _ _ vR (pv 4) jE) (fun _ _=>rfl)) (jB (j4 kG (pv 5) (pv 6) (fun _ _=>rfl)) jD)))))) j7)
   (qG (j8 (j5 kJ (pv 7) jE (jW _)) (@jI _ _ _ (qW (vI PySem.F.plainAttrs_list PySem.F.slot_list_insert PySem.F.type_list_insert eT (pv 8) (jB (@jL _ _ _ _ _ _ _ _ qF (@jL _ _ _ _ _ _ _ _ yC (pv 1) jE) (@jL _ _ _ _ _ _ _ _ vR (pv 3) jE)) (jB (kZ jD) jD))))) j7)
   (qG (j8 (j5 kJ (pv 7) jE (jW _)) (@jI _ _ _ (yR (i:=8) ["_law_one"] (vA 1 []) zF.nd rfl (by first|exact Or.inl rfl|exact Or.inr rfl) rfl (vN (jF z4) rfl rfl (by decide +kernel) (by decide +kernel) (by decide +kernel)) (vO 1 [] rfl rfl (by decide +kernel)) (kO (pv 8)) (fun _ _ _ _ _=>(kD (i:=0) (show List.Nodup (["_law_one"]:List Str) from by decide +kernel) rfl (by first|exact Or.inl rfl|exact Or.inr rfl))) (fun _ _ _ _ _=>JU) (fun _ _ _ _ _=>(t6 K (pv 0) zI zI (zR (yW yT jE)))))) j7)
   (qG (j8 (j5 kJ (pv 7) jE (jW _)) (@jJ _ _ _ _ _ (jV (i:=9) zF.nd rfl (by first|exact Or.inl rfl|exact Or.inr rfl) (@jL _ _ _ _ _ _ _ _ ZI (j4 kG (pv 8) (pv 4) (fun _ _=>rfl)) (j4 kG (pv 8) (@jL _ _ _ _ _ _ _ _ qF (@jL _ _ _ _ _ _ _ _ vR (pv 4) jE) (pv 3)) (fun _ _=>rfl))))
   (@jI _ _ _ (jV (i:=8) zF.nd rfl (by first|exact Or.inl rfl|exact Or.inr rfl) (@jL _ _ _ _ _ _ _ _ ZI (@jL _ _ _ _ _ _ _ _ ZI (JD JG (pv 8) zI (zR (pv 4))) (kZ (jB (pv 9) jD))) (JD JG (pv 8) (zR (@jL _ _ _ _ _ _ _ _ vR (pv 4) jE)) zI))))) j7)
   (qG (j8 (j5 kJ (pv 7) jE (jW _)) (@jI _ _ _ (qW (vI PySem.F.plainAttrs_list PySem.F.slot_list_insert PySem.F.type_list_insert eT (pv 8) (jB (@jL _ _ _ _ _ _ _ _ qF (@jL _ _ _ _ _ _ _ _ yC (pv 1) jE) (pv 3)) (jB (vI PySem.F.plainAttrs_list PySem.F.slot_list_pop PySem.F.type_list_pop cI (pv 8) (jB (pv 4) jD)) jD))))) j7)
   (qG (j8 (j5 kJ (pv 7) jE (jW _)) (@jI _ _ _ (qW (vI PySem.F.plainAttrs_list PySem.F.slot_list_insert PySem.F.type_list_insert eT (j4 kG (pv 8) (pv 4) (fun _ _=>rfl)) (jB (pv 6) (jB (pv 2) jD))))) j7)
   (qG (j8 (j5 kJ (pv 7) jE (jW _)) (@jI _ _ _ (oV (kZ (jB (pv 2) jD)) (oX (pv 8) jE lV))) j7)
   (@jI _ _ _ (@j0 _ _ _ _ (pv 8))))))))))))))))))),?_⟩
 have fin:∀{Hi:Hp} {r:Addr} {ws:List V},Lo H Hi r (ko::LL.flatten) ws→Q (.ref r) Hi:=fun h=>by
  obtain ⟨SL,e1,e2,e3⟩:=h.lays
  exact q _ SL _ h.sm e1 e2 e3
 have h60:∀l∈LL,l.length≤60:=fun l hl=>by have:=h24 l hl;omega
 have hG:∀k∈LL.flatten,k∈ko::LL.flatten:=fun k hk=>List.mem_cons_of_mem _ hk
 obtain ⟨xs,f1,f2,f3⟩:=hL.ex
 have hM:(0:Int)<(LL.length:Int):=by omega
 obtain ⟨at_,eat,hat⟩:=vZ (a:=c / 11) (b:=(LL.length:Int)) hM
 obtain ⟨v0,hv0⟩:∃v,xs[at_]?=some v:=⟨_,List.getElem?_eq_getElem (by omega)⟩
 obtain ⟨la,ys0,lay0,rfl,hn0,hlay0,ha0,hk0⟩:=f3 at_ v0 hv0
 have hl0:=h24 _ (List.mem_of_getElem? hlay0)
 have hy0:=hk0.1
 obtain ⟨j,ej,hj⟩:=vZ (a:=c / 11 / (LL.length:Int)) (b:=(ys0.length:Int)) (by omega)
 obtain ⟨way,ew,hw11⟩:=vZ (a:=c) (b:=11) (by decide)
 obtain ⟨vj,hvj⟩:∃v,ys0[j]?=some v:=⟨_,List.getElem?_eq_getElem (by omega)⟩
 obtain ⟨kj,hkj,hgj,h8j⟩:=hk0.2 j vj hvj
 have hkG:kj∈ko::LL.flatten:=List.mem_cons_of_mem _ (List.mem_flatten.mpr ⟨_,List.mem_of_getElem? hlay0,List.mem_of_getElem? hkj⟩)
 refine (jA rfl (⟨ll,xs,rfl,.inl (SqL.of f1),?_⟩))
 rw [f2]
 refine (jA rfl (jZ (⟨⟨by decide,by decide⟩,jA rfl (jZ (⟨hM,?_⟩))⟩)))
 dsimp only
 rw [eat]
 refine (jA rfl (jA rfl (yP (SqL.of f1) (kK hv0) (?_))))
 refine (jA rfl (jZ (⟨⟨by decide,by decide⟩,jA rfl (jZ (⟨⟨hM,by omega⟩,jA rfl (⟨la,ys0,rfl,.inl (SqL.of ha0),_,_,rfl,rfl,(show (0:Int)<_ by omega),?_⟩)⟩))⟩)))
 dsimp only
 rw [ej]
 refine (jA rfl (jZ (⟨(show (0:Int)<11 by decide),?_⟩)))
 dsimp only
 rw [ew]
 refine (jA rfl (⟨ll,rfl,⟨_,SqL.of f1⟩,fun bt hbt=>?_⟩))
 refine yH (K:=K) (a:=ll) (xs:=xs) (caps:=[]) (fun j ws Hk=>ws.length=j∧CopyR H Hk bt xs ws LL) hbt (SqL.of f1) ⟨rfl,CopyR.nil⟩ ?_ ?_
 ·rintro i v ws Hk hv hi hle sm hY ⟨hwl,hR⟩
  obtain ⟨a,ys,lay,rfl,hna,hlay,ha,hk⟩:=f3 i v hv
  refine J9 (j9 (jA rfl (⟨a,ys,rfl,.inl (SqL.of (sm _ _ ha)),fun l hl=>yI hbt sm hY hle (by omega) (jP hl _) ⟨by rw [List.length_append,hwl];rfl,hR.put hY (by rw [hwl];exact hv) ha (by rw [hwl];exact hlay) hk sm hl⟩⟩)))
 rintro ws Hc sc hbc hlec ⟨hwl,hR⟩
 have hwL:ws.length=LL.length:=by rw [hwl,f2]
 have hh:(∃ws,CopyR H Hc bt xs ws LL∧Same H Hc∧Hc bt=some (.lst ws)∧ws.length=LL.length∧H bt=none)∨(way≤0∧∃ws,Lo H Hc bt (ko::LL.flatten) ws):=.inl ⟨ws,hR,sc,hbc,hwL,hbt⟩
 clear hwL hwl hR hbc hlec sc
 generalize hHc:Hc=Hi at hh ⊢
 clear hHc
 revert hh
 generalize bt=r
 intro hh
 refine ⟨zQ H ll c y LL.length at_ la j way xs LL (ko::LL.flatten) 1,⟨_,rfl,rfl,jA rfl (kI (fun cw=>?_) (fun cw=>?_))⟩,?_⟩
 ·have hw:way=1:=by have e:=of_decide_eq_true cw;injection e with e;omega
  rcases hh with ⟨ws,hR,sc,hbc,hwL,hrn⟩|⟨h1,_⟩
  rotate_left
  ·omega
  have lo:Lo H Hi r (ko::LL.flatten) ws:=hR.lo sc hrn hbc (by omega) h60 hG
  obtain ⟨k,ek,hk⟩:=vZ (a:=c / 11) (b:=(LL.length:Int)+1) (by omega)
  refine (jA rfl (jA rfl (jZ (⟨⟨by decide,by decide⟩,jA rfl (jZ (jZ (⟨(show (0:Int)<_ by omega),jA rfl (⟨r,ws,rfl,SqL.of hbc,fun p hp=>fin (Lo.slice sc (fun x hx=>lo.els x (fU hx)) hp (Nat.le_trans (Z5 _ _ _) (by omega)))⟩)⟩)))⟩))))
 ·have hne:way≠1:=fun z=>cw (by rw [z];exact decide_eq_true rfl)
  exact ⟨r,none,rfl,hh.imp id fun ⟨h1,h2⟩=>⟨by omega,h2⟩⟩
 rintro σ Hi ⟨r,o,rfl,hh⟩
 refine ⟨zQ H ll c y LL.length at_ la j way xs LL (ko::LL.flatten) 2,⟨_,rfl,rfl,jA rfl (kI (fun cw=>?_) (fun cw=>?_))⟩,?_⟩
 ·have hw:way=2:=by have e:=of_decide_eq_true cw;injection e with e;omega
  rcases hh with ⟨ws,hR,sc,hbc,hwL,hrn⟩|⟨h1,_⟩
  rotate_left
  ·omega
  have lo:Lo H Hi r (ko::LL.flatten) ws:=hR.lo sc hrn hbc (by omega) h60 hG
  obtain ⟨v,hv⟩:∃v,ws[at_]?=some v:=⟨_,List.getElem?_eq_getElem (by omega)⟩
  obtain ⟨a,b,ys,lay,rfl,p2,p3,p4,p5,p6,p7,p8⟩:=hR.1 (at_) v hv
  have hl:=h24 _ (List.mem_of_getElem? p6)
  have hyl:=p7.1
  have hin:∀k∈lay,k∈ko::LL.flatten:=fun k hk=>List.mem_cons_of_mem _ (List.mem_flatten.mpr ⟨_,List.mem_of_getElem? p6,hk⟩)
  obtain ⟨yj,hyj⟩:∃v,ys[j]?=some v:=⟨_,List.getElem?_eq_getElem (by rw [p6] at hlay0;cases hlay0;omega)⟩
  refine (jA rfl (jA rfl (yP (SqL.of hbc) (kK hv) (⟨.inl ⟨rfl,_,SqL.of p8⟩,jA rfl (⟨a,ys,(j:Int),j,yj,rfl,rfl,p8,by omega,by omega,(ZF (ZG (List.getElem?_eq_some_iff.mp hyj).1)).1,hyj,r,o,rfl,.inr ⟨by omega,ws,lo.put p3 p2 p8 ((p7.erase j).same sc) (by rw [List.length_eraseIdx];split<;>omega) fun k hk=>hin k (List.mem_of_mem_eraseIdx hk)⟩⟩)⟩))))
 ·have hne:way≠2:=fun z=>cw (by rw [z];exact decide_eq_true rfl)
  exact ⟨r,o,rfl,hh.imp id fun ⟨h1,h2⟩=>⟨by omega,h2⟩⟩
 rintro σ Hi ⟨r,o,rfl,hh⟩
 refine ⟨zQ H ll c y LL.length at_ la j way xs LL (ko::LL.flatten) 3,⟨_,rfl,rfl,jA rfl (kI (fun cw=>?_) (fun cw=>?_))⟩,?_⟩
 ·have hw:way=3:=by have e:=of_decide_eq_true cw;injection e with e;omega
  rcases hh with ⟨ws,hR,sc,hbc,hwL,hrn⟩|⟨h1,_⟩
  rotate_left
  ·omega
  have lo:Lo H Hi r (ko::LL.flatten) ws:=hR.lo sc hrn hbc (by omega) h60 hG
  obtain ⟨i,ei,hi⟩:=vZ (a:=c / 77) (b:=(LL.length:Int)) hM
  obtain ⟨v,hv⟩:∃v,ws[i]?=some v:=⟨_,List.getElem?_eq_getElem (by omega)⟩
  obtain ⟨a,b,ys,lay,rfl,p2,p3,p4,p5,p6,p7,p8⟩:=hR.1 (i) v hv
  have hl:=h24 _ (List.mem_of_getElem? p6)
  have hyl:=p7.1
  have hin:∀k∈lay,k∈ko::LL.flatten:=fun k hk=>List.mem_cons_of_mem _ (List.mem_flatten.mpr ⟨_,List.mem_of_getElem? p6,hk⟩)
  refine (jA rfl (jA rfl (jZ (⟨⟨by decide,by decide⟩,jA rfl (jZ (⟨hM,?_⟩))⟩))))
  dsimp only
  rw [ei]
  refine (yP (SqL.of hbc) (kK hv) (⟨.inl ⟨rfl,_,SqL.of p8⟩,jA rfl (jA rfl (⟨la,_,_,vj,rfl,rfl,SqL.of (sc _ _ ha0),kK hvj,a,ys,vj,rfl,rfl,p8,vG (by omega),r,o,rfl,.inr ⟨by omega,ws,lo.put p3 p2 p8 ((p7.same sc).snoc (fun _ _ e=>e) (jQ sc hgj) h8j) (by rw [List.length_append,List.length_singleton];omega) fun k hk=>?_⟩⟩))⟩))
  rcases List.mem_append.mp hk with hk|hk
  ·exact hin k hk
  ·rw [List.mem_singleton.mp hk];exact hkG
 ·have hne:way≠3:=fun z=>cw (by rw [z];exact decide_eq_true rfl)
  exact ⟨r,o,rfl,hh.imp id fun ⟨h1,h2⟩=>⟨by omega,h2⟩⟩
 rintro σ Hi ⟨r,o,rfl,hh⟩
 refine ⟨zQ H ll c y LL.length at_ la j way xs LL (ko::LL.flatten) 4,⟨_,rfl,rfl,jA rfl (kI (fun cw=>?_) (fun cw=>?_))⟩,?_⟩
 ·have hw:way=4:=by have e:=of_decide_eq_true cw;injection e with e;omega
  rcases hh with ⟨ws,hR,sc,hbc,hwL,hrn⟩|⟨h1,_⟩
  rotate_left
  ·omega
  have lo:Lo H Hi r (ko::LL.flatten) ws:=hR.lo sc hrn hbc (by omega) h60 hG
  obtain ⟨v,hv⟩:∃v,ws[at_]?=some v:=⟨_,List.getElem?_eq_getElem (by omega)⟩
  obtain ⟨a,b,ys,lay,rfl,p2,p3,p4,p5,p6,p7,p8⟩:=hR.1 (at_) v hv
  have hl:=h24 _ (List.mem_of_getElem? p6)
  have hyl:=p7.1
  have hin:∀k∈lay,k∈ko::LL.flatten:=fun k hk=>List.mem_cons_of_mem _ (List.mem_flatten.mpr ⟨_,List.mem_of_getElem? p6,hk⟩)
  obtain ⟨yj,hyj⟩:∃v,ys[j]?=some v:=⟨_,List.getElem?_eq_getElem (by rw [p6] at hlay0;cases hlay0;omega)⟩
  have l1:=lo.put p3 p2 p8 ((p7.erase j).same sc) (by rw [List.length_eraseIdx];split<;>omega) fun k hk=>hin k (List.mem_of_mem_eraseIdx hk)
  have ha1:jC Hi a (.lst (ys.eraseIdx j)) la=some (.lst ys0):=l1.sm _ _ ha0
  refine (jA rfl (jA rfl (yP (SqL.of hbc) (kK hv) (⟨.inl ⟨rfl,_,SqL.of p8⟩,jA rfl (⟨a,ys,(j:Int),j,yj,rfl,rfl,p8,by omega,by omega,(ZF (ZG (List.getElem?_eq_some_iff.mp hyj).1)).1,hyj,?_⟩)⟩))))
  have end4:∀(H1:Hp) (w1:List V) (a2:Addr) (ys2:List V) (ks2:List GK),Lo H H1 r (ko::LL.flatten) w1→w1[at_+1]?=some (.ref a2)→H a2=none→a2≠r→H1 a2=some (.lst ys2)→KeysAt H1 ys2 ks2→ys2.length≤50→(∀k∈ks2,k∈ko::LL.flatten)→
    Lo H (jC H1 a2 (.lst (ys2++[vj]))) r (ko::LL.flatten) w1:=fun H1 w1 a2 ys2 ks2 l h1 h2 h3 h4 h5 h6 h7 =>
   l.put h2 h3 h4 (h5.snoc (fun _ _ e=>e) (jQ l.sm hgj) h8j) (by rw [List.length_append,List.length_singleton];omega) fun k hk=>by
    rcases List.mem_append.mp hk with hk|hk
    ·exact h7 k hk
    ·rw [List.mem_singleton.mp hk];exact hkG
  have ix:((at_:Int)+1)=((at_+1:Nat):Int):=by omega
  refine (jA rfl (jZ (⟨_,rfl,rfl,jA rfl (kI (fun ce=>?_) (fun ce=>?_))⟩)))
  ·have he:at_+1=LL.length:=by have e:=of_decide_eq_true ce;injection e with e;omega
   refine (jA rfl (⟨.inl ⟨rfl,_,SqL.of l1.row⟩,Nat.zero_le _,fun e he0=>?_⟩))
   have l2:=l1.new (o:=.lst []) he0
   have ner:e≠r:=fun z=>by rw [z,l1.row] at he0;cases he0
   have een:=vW l1.sm he0
   have l3:=l2.out (ys:=ws++[.ref e]) (fun x hx=>by
    rcases List.mem_append.mp hx with hx|hx
    ·exact l2.els x hx
    ·rw [List.mem_singleton.mp hx]
     exact (yG e ([]) ([]) (an7 rfl ner een jG ⟨rfl,fun i x e=>by cases e⟩ (Nat.zero_le _) (fun k hk=>by cases hk)))) (by rw [List.length_append,List.length_singleton];omega)
   refine ⟨r,_,_,rfl,rfl,l2.row,vG (by omega),?_⟩
   have hat2:(ws++[V.ref e])[at_+1]?=some (.ref e):=by rw [List.getElem?_append_right (by omega),show at_+1 - ws.length=0 by omega];rfl
   have hee:jC (jC (jC Hi a (.lst (ys.eraseIdx j))) e (.lst [])) r (.lst (ws++[.ref e])) e=some (.lst []):=by rw [jH ner];exact jG
   refine (jA rfl (jA rfl (jZ (⟨r,_,_,.ref e,rfl,rfl,SqL.of l3.row,(by rw [ix];exact kK hat2),Or.inl ⟨rfl,_,SqL.of hee⟩,jA rfl (jA rfl (⟨la,_,_,vj,rfl,rfl,SqL.of (l3.sm _ _ ha0),kK hvj,e,[],vj,rfl,rfl,hee,vG (by decide),r,o,rfl,.inr ⟨by omega,_,end4 _ _ e [] [] l3 hat2 een ner hee ⟨rfl,fun i x e=>by cases e⟩ (by decide) fun k hk=>by cases hk⟩⟩))⟩))))
  ·have he:at_+1≠LL.length:=fun z=>ce (by show decide (V.int ((at_:Int)+1)=V.int (LL.length:Int))=true;rw [ix,z];exact decide_eq_true rfl)
   obtain ⟨v2,hv2⟩:∃v,ws[at_+1]?=some v:=⟨_,List.getElem?_eq_getElem (by omega)⟩
   obtain ⟨a2,b2,ys2,lay2,rfl,p22,p32,p42,p52,p62,p72,p82⟩:=hR.1 (at_+1) v2 hv2
   have hl2:=h24 _ (List.mem_of_getElem? p62)
   have hyl2:=p72.1
   have hin2:∀k∈lay2,k∈ko::LL.flatten:=fun k hk=>List.mem_cons_of_mem _ (List.mem_flatten.mpr ⟨_,List.mem_of_getElem? p62,hk⟩)
   have n2:a2≠a:=fun z=>by
    subst z
    have:=hR.2 _ _ _ hv hv2
    omega
   have hee:jC Hi a (.lst (ys.eraseIdx j)) a2=some (.lst ys2):=by rw [jH n2];exact p82
   refine (jA rfl (jA rfl (jZ (⟨r,_,_,.ref a2,rfl,rfl,SqL.of l1.row,(by rw [ix];exact kK hv2),Or.inl ⟨rfl,_,SqL.of hee⟩,jA rfl (jA rfl (⟨la,_,_,vj,rfl,rfl,SqL.of ha1,kK hvj,a2,ys2,vj,rfl,rfl,hee,vG (by omega),r,o,rfl,.inr ⟨by omega,_,end4 _ _ a2 ys2 lay2 l1 hv2 p32 p22 hee (p72.same l1.sm) (by omega) hin2⟩⟩))⟩))))
 ·have hne:way≠4:=fun z=>cw (by rw [z];exact decide_eq_true rfl)
  exact ⟨r,o,rfl,hh.imp id fun ⟨h1,h2⟩=>⟨by omega,h2⟩⟩
 rintro σ Hi ⟨r,o,rfl,hh⟩
 refine ⟨zQ H ll c y LL.length at_ la j way xs LL (ko::LL.flatten) 5,⟨_,rfl,rfl,jA rfl (kI (fun cw=>?_) (fun cw=>?_))⟩,?_⟩
 ·have hw:way=5:=by have e:=of_decide_eq_true cw;injection e with e;omega
  rcases hh with ⟨ws,hR,sc,hbc,hwL,hrn⟩|⟨h1,_⟩
  rotate_left
  ·omega
  have lo:Lo H Hi r (ko::LL.flatten) ws:=hR.lo sc hrn hbc (by omega) h60 hG
  obtain ⟨k,ek,hk⟩:=vZ (a:=c / 11) (b:=(LL.length:Int)+1) (by omega)
  refine (jA rfl (⟨.inl ⟨rfl,_,SqL.of hbc⟩,jA rfl (jZ (⟨⟨by decide,by decide⟩,jA rfl (jZ (jZ (⟨(show (0:Int)<_ by omega),Nat.zero_le _,fun e he0=>?_⟩)))⟩))⟩))
  have l2:=lo.new (o:=.lst []) he0
  have ner:e≠r:=fun z=>by rw [z,lo.row] at he0;cases he0
  refine ⟨r,ws,k,.ref e,rfl,(congrArg (fun z=>[V.int z,V.ref e]) ek),l2.row,by omega,by omega,r,o,rfl,.inr ⟨by omega,_,l2.out (fun x hx=>?_) (by rw [List.length_append,List.length_cons,List.length_take,List.length_drop];omega)⟩⟩
  rcases List.mem_append.mp hx with hx|hx
  ·exact l2.els x (List.mem_of_mem_take hx)
  rcases List.mem_cons.mp hx with rfl|hx
  ·exact (yG e ([]) ([]) (an7 rfl ner (vW lo.sm he0) jG ⟨rfl,fun i x e=>by cases e⟩ (Nat.zero_le _) (fun k hk=>by cases hk)))
  ·exact l2.els x (List.mem_of_mem_drop hx)
 ·have hne:way≠5:=fun z=>cw (by rw [z];exact decide_eq_true rfl)
  exact ⟨r,o,rfl,hh.imp id fun ⟨h1,h2⟩=>⟨by omega,h2⟩⟩
 rintro σ Hi ⟨r,o,rfl,hh⟩
 refine ⟨zQ H ll c y LL.length at_ la j way xs LL (ko::LL.flatten) 6,⟨_,rfl,rfl,jA rfl (kI (fun cw=>?_) (fun cw=>?_))⟩,?_⟩
 ·have hw:way=6:=by have e:=of_decide_eq_true cw;injection e with e;omega
  rcases hh with ⟨ws,hR,sc,hbc,hwL,hrn⟩|⟨h1,_⟩
  rotate_left
  ·omega
  have lo:Lo H Hi r (ko::LL.flatten) ws:=hR.lo sc hrn hbc (by omega) h60 hG
  refine (jA rfl (⟨r,rfl,⟨_,SqL.of hbc⟩,fun b2 hb2=>?_⟩))
  refine yH (K:=K) (a:=r) (xs:=ws) (caps:=[]) (fun j us Hk=>∀x∈us,InLo H Hk b2 (ko::LL.flatten) x) hb2 (SqL.of hbc) (fun x hx=>by cases hx) ?_ ?_
  ·rintro i v us Hk hv hi hle sm hY hR2
   obtain ⟨a,b,ys,lay,rfl,p2,p3,p4,p5,p6,p7,p8⟩:=hR.1 i v hv
   have hl:=h24 _ (List.mem_of_getElem? p6)
   have hyl:=p7.1
   refine J9 (j9 (jA rfl (jA rfl (jA rfl (⟨a,ys,rfl,SqL.of (sm _ _ p8),by decide,fun l hl0=>?_⟩)))))
   obtain ⟨ks',g1,g2⟩:=iZ ((p7.same sc).same sm) (sliceRange (sliceBounds none none (some (-1)) ys.length).1 (sliceBounds none none (some (-1)) ys.length).2.1 (sliceBounds none none (some (-1)) ys.length).2.2)
   have sl:=jP hl0 (.lst (ZM ys none none (some (-1))))
   have nlb:l≠b2:=fun z=>by rw [z,hY] at hl0;cases hl0
   refine yI (R:=fun j us Hk=>∀x∈us,InLo H Hk b2 (ko::LL.flatten) x) hb2 sm hY hle (by omega) sl fun x hx=>?_
   have hY2:=sl _ _ hY
   rcases List.mem_append.mp hx with hx|hx
   ·exact ((hR2 x hx).new hl0).out hY2
   ·rw [List.mem_singleton.mp hx]
    refine InLo.out (yG l _ ks' (an7 rfl nlb (vW (sc.trans sm) hl0) jG (KeysAt.same sl g1) (Nat.le_trans (xE _ _ _ _) (by omega)) (fun k hk=>List.mem_cons_of_mem _ (List.mem_flatten.mpr ⟨_,List.mem_of_getElem? p6,g2 k hk⟩)))) hY2
  rintro us Hg sg hbg hleg hR2
  exact ⟨b2,o,rfl,.inr ⟨by omega,us,⟨sc.trans sg,vW sc hb2,hbg,hR2,by omega⟩⟩⟩
 ·have hne:way≠6:=fun z=>cw (by rw [z];exact decide_eq_true rfl)
  exact ⟨r,o,rfl,hh.imp id fun ⟨h1,h2⟩=>⟨by omega,h2⟩⟩
 rintro σ Hi ⟨r,o,rfl,hh⟩
 refine ⟨zQ H ll c y LL.length at_ la j way xs LL (ko::LL.flatten) 7,⟨_,rfl,rfl,jA rfl (kI (fun cw=>?_) (fun cw=>?_))⟩,?_⟩
 ·have hw:way=7:=by have e:=of_decide_eq_true cw;injection e with e;omega
  rcases hh with ⟨ws,hR,sc,hbc,hwL,hrn⟩|⟨h1,_⟩
  rotate_left
  ·omega
  have lo:Lo H Hi r (ko::LL.flatten) ws:=hR.lo sc hrn hbc (by omega) h60 hG
  obtain ⟨v,hv⟩:∃v,ws[at_]?=some v:=⟨_,List.getElem?_eq_getElem (by omega)⟩
  obtain ⟨a,b,ys,lay,rfl,p2,p3,p4,p5,p6,p7,p8⟩:=hR.1 (at_) v hv
  have hl:=h24 _ (List.mem_of_getElem? p6)
  have hyl:=p7.1
  have hin:∀k∈lay,k∈ko::LL.flatten:=fun k hk=>List.mem_cons_of_mem _ (List.mem_flatten.mpr ⟨_,List.mem_of_getElem? p6,hk⟩)
  obtain ⟨i,ei,hi⟩:=vZ (a:=(at_:Int)+1) (b:=(LL.length:Int)) hM
  obtain ⟨v2,hv2⟩:∃v,ws[i]?=some v:=⟨_,List.getElem?_eq_getElem (by omega)⟩
  obtain ⟨a2,b2,ys2,lay2,rfl,p22,p32,p42,p52,p62,p72,p82⟩:=hR.1 (i) v2 hv2
  have hl2:=h24 _ (List.mem_of_getElem? p62)
  have hyl2:=p72.1
  have hin2:∀k∈lay2,k∈ko::LL.flatten:=fun k hk=>List.mem_cons_of_mem _ (List.mem_flatten.mpr ⟨_,List.mem_of_getElem? p62,hk⟩)
  refine (jA rfl (jA rfl (yP (SqL.of hbc) (kK hv) ((jA rfl (jA rfl (jZ ((jA rfl (jZ (⟨hM,?_⟩)))))))))))
  dsimp only
  rw [ei]
  refine (yP (SqL.of hbc) (kK hv2) (⟨a,a2,ys,ys2,rfl,rfl,p8,p82,kT (by omega),fun p hp=>?_⟩))
  have sp:=jP hp (.lst (ys++ys2))
  have hbc1:=sp _ _ hbc
  refine (jA rfl (jA rfl (jA rfl (⟨r,ws,rfl,SqL.of hbc1,fun q1 hq1=>?_⟩))))
  have s1:=jP hq1 (.lst (kP ws none (some (at_:Int))))
  refine (jA rfl (⟨kT (by show 1≤1000;decide),fun q2 hq2=>?_⟩))
  have s2:=jP hq2 (.lst [.ref p])
  have hc1:=Z5 ws none (some (at_:Int))
  have hc2:=Z5 ws (some ((at_:Int)+2)) none
  refine ⟨q1,q2,_,_,rfl,rfl,s2 _ _ jG,jG,kT (by rw [List.length_singleton];omega),fun q3 hq3=>?_⟩
  have s3:=jP hq3 (.lst (kP ws none (some (at_:Int))++[.ref p]))
  have hbc4:=s3 _ _ (s2 _ _ (s1 _ _ hbc1))
  refine (jA rfl (jA rfl (jZ ((jA rfl (⟨r,ws,rfl,SqL.of hbc4,fun q4 hq4=>?_⟩))))))
  have s4:=jP hq4 (.lst (kP ws (some ((at_:Int)+2)) none))
  refine ⟨q3,q4,_,_,rfl,rfl,s4 _ _ jG,jG,kT (by rw [List.length_append,List.length_singleton];omega),fun q5 hq5=>?_⟩
  have s15:=((sp.trans s1).trans s2).trans (s3.trans s4)
  have sAll:=sc.trans s15
  refine ⟨q5,jA rfl (.inr ⟨by omega,_,Lo.slice (r:=r) sAll (fun x hx=>?_) hq5 (by rw [List.length_append,List.length_append,List.length_singleton,wS (by omega),List.length_take];omega)⟩)⟩
  have old:∀x∈ws,InLo H _ r (ko::LL.flatten) x:=fun x hx=>by
   obtain ⟨b',ys',ks',e0,e1,e2,e3,e4,e5,e6⟩:=lo.els x hx
   exact ⟨b',ys',ks',e0,e1,e2,s15 _ _ e3,e4.same s15,e5,e6⟩
  rcases List.mem_append.mp hx with hx|hx
  ·rcases List.mem_append.mp hx with hx|hx
   ·exact old x (fU hx)
   ·rw [List.mem_singleton.mp hx]
    refine ⟨p,ys++ys2,lay++lay2,rfl,(fun z=>by rw [z,hbc] at hp;cases hp),vW sc hp,((s1.trans s2).trans (s3.trans s4)) _ _ jG,(Z4 p7 p72).same sAll,by rw [List.length_append];omega,fun k hk=>(List.mem_append.mp hk).elim (hin k) (hin2 k)⟩
  ·exact old x (fU hx)
 ·have hne:way≠7:=fun z=>cw (by rw [z];exact decide_eq_true rfl)
  exact ⟨r,o,rfl,hh.imp id fun ⟨h1,h2⟩=>⟨by omega,h2⟩⟩
 rintro σ Hi ⟨r,o,rfl,hh⟩
 refine ⟨zQ H ll c y LL.length at_ la j way xs LL (ko::LL.flatten) 8,⟨_,rfl,rfl,jA rfl (kI (fun cw=>?_) (fun cw=>?_))⟩,?_⟩
 ·have hw:way=8:=by have e:=of_decide_eq_true cw;injection e with e;omega
  rcases hh with ⟨ws,hR,sc,hbc,hwL,hrn⟩|⟨h1,_⟩
  rotate_left
  ·omega
  have lo:Lo H Hi r (ko::LL.flatten) ws:=hR.lo sc hrn hbc (by omega) h60 hG
  obtain ⟨i,ei,hi⟩:=vZ (a:=c / 77) (b:=(LL.length:Int)) hM
  obtain ⟨v,hv⟩:∃v,ws[at_]?=some v:=⟨_,List.getElem?_eq_getElem (by omega)⟩
  have hel:(ws.eraseIdx at_).length=ws.length - 1:=by rw [List.length_eraseIdx,if_pos (by omega)]
  have l1:=lo.out (ys:=ws.eraseIdx at_) (fun x hx=>lo.els x (List.mem_of_mem_eraseIdx hx)) (by omega)
  refine (jA rfl (⟨.inl ⟨rfl,_,SqL.of hbc⟩,jA rfl (jZ (⟨⟨by decide,by decide⟩,jA rfl (jZ (⟨hM,jA rfl (⟨.inl ⟨rfl,_,SqL.of hbc⟩,jA rfl (⟨r,ws,(at_:Int),at_,v,rfl,rfl,hbc,by omega,by omega,(ZF (ZG (by omega))).1,hv,?_⟩)⟩)⟩))⟩))⟩))
  refine ⟨r,_,i,v,rfl,(congrArg (fun z=>[V.int z,v]) ei),l1.row,by omega,by omega,r,o,rfl,.inr ⟨by omega,_,l1.out (fun x hx=>?_) (by rw [List.length_append,List.length_cons,List.length_take,List.length_drop];omega)⟩⟩
  rcases List.mem_append.mp hx with hx|hx
  ·exact l1.els x (List.mem_of_mem_take hx)
  rcases List.mem_cons.mp hx with rfl|hx
  ·exact (lo.els _ (List.mem_of_getElem? hv)).out hbc
  ·exact l1.els x (List.mem_of_mem_drop hx)
 ·have hne:way≠8:=fun z=>cw (by rw [z];exact decide_eq_true rfl)
  exact ⟨r,o,rfl,hh.imp id fun ⟨h1,h2⟩=>⟨by omega,h2⟩⟩
 rintro σ Hi ⟨r,o,rfl,hh⟩
 refine ⟨zQ H ll c y LL.length at_ la j way xs LL (ko::LL.flatten) 9,⟨_,rfl,rfl,jA rfl (kI (fun cw=>?_) (fun cw=>?_))⟩,?_⟩
 ·have hw:way=9:=by have e:=of_decide_eq_true cw;injection e with e;omega
  rcases hh with ⟨ws,hR,sc,hbc,hwL,hrn⟩|⟨h1,_⟩
  rotate_left
  ·omega
  have lo:Lo H Hi r (ko::LL.flatten) ws:=hR.lo sc hrn hbc (by omega) h60 hG
  obtain ⟨v,hv⟩:∃v,ws[at_]?=some v:=⟨_,List.getElem?_eq_getElem (by omega)⟩
  obtain ⟨a,b,ys,lay,rfl,p2,p3,p4,p5,p6,p7,p8⟩:=hR.1 (at_) v hv
  have hl:=h24 _ (List.mem_of_getElem? p6)
  have hyl:=p7.1
  have hin:∀k∈lay,k∈ko::LL.flatten:=fun k hk=>List.mem_cons_of_mem _ (List.mem_flatten.mpr ⟨_,List.mem_of_getElem? p6,hk⟩)
  have hjl:j≤ys.length:=by rw [p6] at hlay0;cases hlay0;omega
  refine (jA rfl (jA rfl (yP (SqL.of hbc) (kK hv) (⟨.inl ⟨rfl,_,SqL.of p8⟩,jA rfl (jA rfl (⟨a,ys,j,y,rfl,rfl,p8,hjl,by omega,r,o,rfl,.inr ⟨by omega,ws,lo.put (ks':=lay.take j++ko::lay.drop j) p3 p2 p8 ?_ (by rw [List.length_append,List.length_cons,List.length_take,List.length_drop];omega) fun k hk=>?_⟩⟩))⟩))))
  ·have h1:=Z4 ((p7.same sc).take j) (wK ((p7.same sc).drop j) (jQ sc hy) h8)
   exact h1
  ·rcases List.mem_append.mp hk with hk|hk
   ·exact hin k (List.mem_of_mem_take hk)
   rcases List.mem_cons.mp hk with rfl|hk
   ·exact List.mem_cons_self
   ·exact hin k (List.mem_of_mem_drop hk)
 ·have hne:way≠9:=fun z=>cw (by rw [z];exact decide_eq_true rfl)
  exact ⟨r,o,rfl,hh.imp id fun ⟨h1,h2⟩=>⟨by omega,h2⟩⟩
 rintro σ Hi ⟨r,o,rfl,hh⟩
 refine ⟨zQ H ll c y LL.length at_ la j way xs LL (ko::LL.flatten) 10,⟨_,rfl,rfl,jA rfl (kI (fun cw=>?_) (fun cw=>?_))⟩,?_⟩
 ·have hw:way=10:=by have e:=of_decide_eq_true cw;injection e with e;omega
  rcases hh with ⟨ws,hR,sc,hbc,hwL,hrn⟩|⟨h1,_⟩
  rotate_left
  ·omega
  have lo:Lo H Hi r (ko::LL.flatten) ws:=hR.lo sc hrn hbc (by omega) h60 hG
  refine (jA rfl (⟨kT (by show 1≤1000;decide),fun p hp=>?_⟩))
  have l1:=lo.new (o:=.lst [y]) hp
  have npr:p≠r:=fun z=>by rw [z,lo.row] at hp;cases hp
  refine (jA rfl (⟨r,ws,_,0,rfl,rfl,l1.row,ZG (s:=0) (by omega),r,o,rfl,.inr ⟨by omega,_,l1.out (fun x hx=>?_) (by rw [List.length_set];omega)⟩⟩))
  rcases List.mem_or_eq_of_mem_set hx with hx|rfl
  ·exact l1.els x hx
  ·exact ⟨p,[y],[ko],rfl,npr,vW sc hp,jG,⟨rfl,fun i x e=>by
    cases i with
    |zero=>cases e;exact ⟨ko,rfl,jQ (sc.trans (jP hp _)) hy,h8⟩
    |succ i=>cases e⟩,(by show 1≤60;decide),fun k hk=>by rw [List.mem_singleton.mp hk];exact List.mem_cons_self⟩
 ·have hne:way≠10:=fun z=>cw (by rw [z];exact decide_eq_true rfl)
  exact ⟨r,o,rfl,hh.imp id fun ⟨h1,h2⟩=>⟨by omega,h2⟩⟩
 rintro σ Hi ⟨r,o,rfl,hh⟩
 rcases hh with ⟨ws,hR,sc,hbc,hwL,hrn⟩|⟨_,ws,lo⟩
 ·exact (jA rfl (fin (hR.lo sc hrn hbc (by omega) h60 hG)))
 ·exact (jA rfl (fin lo))
theorem bP:FnScope ["_law_layers_here","_law_met","_law_layer","_law_state"] ["_law_layers_here"] (jF QT):=⟨rfl,rfl,rfl,by decide +kernel,rfl,by decide +kernel,by decide +kernel⟩
theorem rQ {f:Addr} {fd:FuncData} (F:Fun K "_law_once" "_law_once" QT f fd) (T:Txt K mg) : FnOk P w K mg base kC 1 f fd ["_law_layers_here"] (oQ w):=by
  refine F.ok bP (fun vs H Q E h=>?_) (fun cdv A outer s H vs Q E hr h=>?_)
  · obtain ⟨ll,LL,rfl,hL,h3000,q⟩:=h
    rfl
  obtain ⟨ll,LL,rfl,hL,h3000,q⟩:=h
  have hu:_<cLine:=hr.units0
  have hu1:=qB hr
  have hu9:=qT hr
  have hu10:=qR hr
  refine ⟨_,(@jJ _ _ _ _ _ (jV (i:=1) bP.nd rfl (by first|exact Or.inl rfl|exact Or.inr rfl) Z8)
      (@jJ _ _ _ _ _ (qE PassesOwn.never rfl (kO (pv 0)) (kD (i:=2) bP.nd rfl (by first|exact Or.inl rfl|exact Or.inr rfl))
        (@jJ _ _ _ _ _ (qE PassesOwn.never rfl (kO (pv 2)) (kD (i:=3) bP.nd rfl (by first|exact Or.inl rfl|exact Or.inr rfl))
        (@jJ _ _ _ _ _ (j8 (dD (B2 hu9 (pv 3) (pv 1))) (@jI _ _ _ (@j0 _ _ _ _ kY)) j7)
      (@jI _ _ _ (J6 hu9 (pv 1) (pv 3) kY rfl))))
      (@jI _ _ _ (j8 (j5 kJ (kW qA (by rfl) T.z_len PySem.boot_len (jB (pv 2) jD)) jE (jW _)) (@jI _ _ _ (@j0 _ _ _ _ kY)) j7))))
      (@jI _ _ _ (@j0 _ _ _ _ kY)))),?_⟩
  obtain ⟨xs,f1,f2,f3⟩:=hL.ex
  have hcat:∀(i:Nat) lay,LL[i]?=some lay→(LL.take (i+1)).flatten=(LL.take i).flatten++lay:=fun i lay h=>by rw [List.take_add_one,h,List.flatten_append];simp
  have hdr:∀(i:Nat) lay,LL[i]?=some lay→LL.drop i=lay::LL.drop (i+1):=fun i lay h=>by
    obtain ⟨h1,h2⟩:=List.getElem?_eq_some_iff.mp h
    rw [List.drop_eq_getElem_cons h1,h2]
  have hle:∀(i:Nat) lay,LL[i]?=some lay→((LL.take i).flatten++lay).length≤LL.flatten.length:=fun i lay h=>by
    rw [← hcat i lay h]
    conv=>rhs;rw [← List.take_append_drop (i+1) LL]
    rw [List.flatten_append,List.length_append]
    omega
  refine fun dm hdm=>?_
  have u0:=jP hdm (GO w dm [])
  refine (jA rfl (⟨ll,rfl,⟨_,SqL.of (u0 _ _ f1)⟩,?_⟩))
  refine qX (K:=K) (a:=ll) (xs:=xs) (fun i σ Hi=>∃c2 c3,σ=[some (.ref ll),some (.ref dm),c2,c3]∧Same H Hi∧MetAt w Hi dm (LL.take i).flatten∧yK [] LL=yK (LL.take i).flatten (LL.drop i)) ⟨none,none,rfl,u0,⟨[],jG,GOk.nil,rfl⟩,rfl⟩ (fun i σ Hi _ ⟨_,_,_,s,_⟩=>SqL.of (s _ _ f1)) ?_ ?_
  · rintro i x σ Hi hx ⟨c2,c3,rfl,s,hM,hO⟩
    obtain ⟨a,ys,lay,rfl,hna,hlay,ha,hk⟩:=f3 i x hx
    rw [hdr i lay hlay] at hO
    have hle1:=hle i lay hlay
    refine (jA rfl (⟨a,rfl,⟨_,SqL.of (s _ _ ha)⟩,?_⟩))
    refine qX (K:=K) (a:=a) (xs:=ys) (fun j σ Hj=>∃c3,σ=[some (.ref ll),some (.ref dm),some (.ref a),c3]∧Same H Hj∧MetAt w Hj dm ((LL.take i).flatten++lay.take j)) ⟨c3,rfl,s,by rw [List.take_zero,List.append_nil];exact hM⟩ (fun j σ Hj _ ⟨_,_,s,_⟩=>SqL.of (s _ _ ha)) ?_ ?_
    · rintro j v σ Hj hv ⟨c3,rfl,sj,hMj⟩
      obtain ⟨k,hkj,hg,h8⟩:=hk.2 j v hv
      obtain ⟨kvs,e1,g,e2⟩:=hMj.ex
      have ht:lay.take (j+1)=lay.take j++[k]:=by rw [List.take_add_one,hkj];rfl
      have hlen:kvs.length≤3000:=by
        have h1:=congrArg List.length e2
        rw [List.length_map,List.length_append,List.length_take] at h1
        rw [List.length_append] at hle1
        omega
      refine (jA rfl (jA rfl ((yG dm kvs k (an6 rfl (.of e1) g (jQ sj hg) h8 (jA rfl (?_)))))))
      rw [Q5,e2]
      by_cases hin:k∈(LL.take i).flatten++lay.take j
      · rw [decide_eq_true hin]
        have hf:yK [] LL=false:=by
          rw [hO]
          show ((!lay.isEmpty&&decide ((LL.take i).flatten++lay).Nodup)&&_)=false
          rw [decide_eq_false fun z=>?_]
          · simp
          · have h2:(LL.take i).flatten++lay=((LL.take i).flatten++lay.take j)++lay.drop j:=by rw [List.append_assoc,List.take_append_drop]
            rw [h2,List.nodup_append] at z
            obtain ⟨p1,p2⟩:=List.getElem?_eq_some_iff.mp hkj
            exact z.2.2 k hin k (by rw [List.drop_eq_getElem_cons p1,p2];exact List.mem_cons_self) rfl
        rw [hf] at q
        exact j9 (q _ sj)
      · rw [decide_eq_false hin]
        refine kE (jA rfl (jA rfl ((yG dm kvs k (an7 rfl e1 g (jQ sj hg) h8 (zW (by omega)) (?_))))))
        refine (jA rfl (⟨qI hdm sj,?_⟩))
        rw [ht,← List.append_assoc]
        exact MetAt.put e1 g e2 hin (jQ sj hg) h8
    rintro σ Hj ⟨c3,rfl,sj,hMj⟩
    rw [hk.1,List.take_length] at hMj
    refine (jA rfl (⟨a,ys,rfl,.inl (SqL.of (sj _ _ ha)),rfl,jA rfl (kI (fun c=>?_) (fun c=>?_))⟩))
    · have hz:ys.length=0:=by have e:=of_decide_eq_true c;injection e with e;omega
      have hl0:lay=[]:=List.eq_nil_of_length_eq_zero (by rw [← hk.1,hz])
      have hf:yK [] LL=false:=by rw [hO,hl0];rfl
      rw [hf] at q
      exact q _ sj
    · have hz:lay≠[]:=fun z=>c (by have h:=hk.1;rw [z] at h;rw [h];rfl)
      obtain ⟨kvs,e1,g,e2⟩:=hMj.ex
      refine ⟨_,jA rfl (⟨sj,by rw [hcat i lay hlay];exact hMj,?_⟩)⟩
      rw [hO,hcat i lay hlay]
      show ((!lay.isEmpty&&decide ((LL.take i).flatten++lay).Nodup)&&_)=_
      rw [decide_eq_true (by rw [← e2];exact g.once)]
      cases lay with
      |nil=>exact absurd rfl hz
      |cons k0 r0=>rfl
  rintro σ Hf ⟨c2,c3,rfl,s,hM,hO⟩
  rw [f2,List.drop_length] at hO
  rw [hO] at q
  exact q _ s
theorem J3:FnScope ["_law_first","_law_table_here","_law_layers_here","_law_near","_law_k","_law_reached","_law_state"] ["_law_first","_law_table_here","_law_layers_here"] (jF QO):=⟨rfl,rfl,rfl,by decide +kernel,rfl,by decide +kernel,by decide +kernel⟩
theorem rK {f:Addr} {fd:FuncData} (F:Fun K "_law_hold" "_law_hold" QO f fd) (T:Txt K mg) (D__law_once:Def P w K mg base 1 "_law_once" ["_law_layers_here"] [] (oQ w)) (D__law_behind:Def P w K mg base 2 "_law_behind" ["_law_layer","_law_table_here"] [] (Z2 w)):FnOk P w K mg base kC 4 f fd ["_law_first","_law_table_here","_law_layers_here"] (oR w):=by
 refine F.ok J3 (fun vs H Q E h=>?_) (fun cdv A outer s H vs Q E hr h=>?_)
 ·obtain ⟨y,dT,ll,T0,ls,m,n,c0,k0,LL,rfl,hT,hTO,hn,hy,h8,hL,hdom,h50,h3000,q⟩:=h
  rfl
 obtain ⟨y,dT,ll,T0,ls,m,n,c0,k0,LL,rfl,hT,hTO,hn,hy,h8,hL,hdom,h50,h3000,q⟩:=h
 have hu:_<cLine:=hr.units0
 have hu1:=qB hr
 have hu9:=qT hr
 have hu10:=qR hr
 refine ⟨_,(@jJ _ _ _ _ _ (j8 (PW.pt (bD (j5 kJ (kW qA (by rfl) T.z_len PySem.boot_len (jB (pv 2) jD)) jE (jW _)) (bD (j5 (nM hu10) (j4 kG (pv 2) jE (fun _ _=>rfl)) (kZ (jB (pv 0) jD)) (jW _)) (dC (zJ (yU (kA D__law_once hr rfl (jB (pv 2) jD)))))))) (@jI _ _ _ (@j0 _ _ _ _ kY)) j7)
   (@jJ _ _ _ _ _ (jV (i:=3) J3.nd rfl (by first|exact Or.inl rfl|exact Or.inr rfl) (kZ jD))
   (@jJ _ _ _ _ _ (qE PassesOwn.never rfl (ZZ (by rfl) T.z_range (jB (@jL _ _ _ _ _ _ _ _ zA (kW qA (by rfl) T.z_len PySem.boot_len (jB (pv 2) jD)) jE) jD)) (kD (i:=4) J3.nd rfl (by first|exact Or.inl rfl|exact Or.inr rfl))
    (@jJ _ _ _ _ _ (jV (i:=3) J3.nd rfl (by first|exact Or.inl rfl|exact Or.inr rfl) (@jL _ _ _ _ _ _ _ _ ZI (pv 3) (j4 kG (pv 2) (pv 4) (fun _ _=>rfl))))
   (@jJ _ _ _ _ _ (jV (i:=5) J3.nd rfl (by first|exact Or.inl rfl|exact Or.inr rfl) (kA D__law_behind hr rfl (jB (j4 kG (pv 2) (pv 4) (fun _ _=>rfl)) (jB (pv 1) jD))))
   (@jJ _ _ _ _ _ (qE PassesOwn.never rfl (kO (pv 5)) (kD (i:=6) J3.nd rfl (by first|exact Or.inl rfl|exact Or.inr rfl))
    (@jI _ _ _ (j8 (PW.pt (bA (j5 (Z0 hu10) (pv 6) (pv 3) (by with_unfolding_all rfl)) (Z7 (j5 (Z0 hu10) (pv 6) (j4 kG (pv 2) (@jL _ _ _ _ _ _ _ _ vR (pv 4) jE) (fun _ _=>rfl)) (by with_unfolding_all rfl))))) (@jI _ _ _ (@j0 _ _ _ _ kY)) j7)))
   (@jI _ _ _ (qE PassesOwn.never rfl (kO (j4 kG (pv 2) (@jL _ _ _ _ _ _ _ _ vR (pv 4) jE) (fun _ _=>rfl))) (kD (i:=6) J3.nd rfl (by first|exact Or.inl rfl|exact Or.inr rfl))
    (@jI _ _ _ (j8 (j5 (Z0 hu10) (pv 6) (pv 5) (by with_unfolding_all rfl)) (@jI _ _ _ (@j0 _ _ _ _ kY)) j7))))))))
   (@jI _ _ _ (@j0 _ _ _ _ kY))))),?_⟩
 obtain ⟨xs,f1,f2,f3⟩:=hL.ex
 have hcat:∀(i:Nat) lay,LL[i]?=some lay→(LL.take (i+1)).flatten=(LL.take i).flatten++lay:=fun i lay h=>by rw [List.take_add_one,h,List.flatten_append];simp
 have hdr:∀(i:Nat) lay,LL[i]?=some lay→LL.drop i=lay::LL.drop (i+1):=fun i lay h=>by
  obtain ⟨h1,h2⟩:=List.getElem?_eq_some_iff.mp h
  rw [List.drop_eq_getElem_cons h1,h2]
 have hle:∀(i:Nat) lay,LL[i]?=some lay→((LL.take i).flatten++lay).length≤LL.flatten.length:=fun i lay h=>by
  rw [← hcat i lay h]
  conv=>rhs;rw [← List.take_append_drop (i+1) LL]
  rw [List.flatten_append,List.length_append]
  omega
 cases LL with
 |nil =>
  have hx:xs=[]:=List.eq_nil_of_length_eq_zero f2
  subst hx
  exact (jA rfl (⟨ll,jA rfl (⟨.inl (SqL.of f1),rfl,jA rfl (kI (fun _=>j9 (q _ (Same.refl _))) (fun c=>absurd (decide_eq_true rfl) c))⟩)⟩))
 |cons l r =>
  cases xs with
  |nil=>cases f2
  |cons v vs =>
   obtain ⟨a0,ys0,lay0,rfl,hn0,hl0,ha0,hk0'⟩:=f3 0 v rfl
   cases hl0
   refine (jA rfl (⟨ll,jA rfl (⟨.inl (SqL.of f1),rfl,jA rfl (kI (fun c=>?_) (fun _=>?_))⟩)⟩))
   ·have e:=of_decide_eq_true c
    injection e with e
    rw [List.length_cons] at e
    omega
   refine (jA rfl (yP (SqL.of f1) (kK (j:=0) rfl) ((jA rfl (⟨kT (by show 1≤1000;decide),fun b hb=>?_⟩)))))
   have u:=jP hb (.lst [y])
   refine ⟨a0,b,ys0,[y],l,[k0],rfl,rfl,SqL.of (u _ _ ha0),SqL.of jG,fR (hk0'.same u),mJ (jQ u hy) h8,jA rfl (?_)⟩
   by_cases hl:l=[k0]
   case neg =>
    have e:ZO T0 k0 (l::r)=false:=by show (decide (l=[k0])&&_&&_)=false;rw [decide_eq_false hl];rfl
    rw [e] at q
    rw [decide_eq_true hl]
    exact j9 (j9 (q _ u))
   rw [decide_eq_false (fun z=>z hl)]
   refine kE (jA rfl (⟨ll,l::r,rfl,hL.same u,h3000,fun H1 s1=>(jA rfl (?_))⟩))
   have su:=u.trans s1
   cases hO:yK [] (l::r) with
   |false =>
    have e:ZO T0 k0 (l::r)=false:=by show (decide (l=[k0])&&yK [] (l::r)&&_)=false;rw [hO];simp
    rw [e] at q
    exact j9 (q _ su)
   |true =>
   have e:ZO T0 k0 (l::r)=yY T0 l l r:=by show (decide (l=[k0])&&yK [] (l::r)&&yY T0 l l r)=_;rw [hO,decide_eq_true hl];rfl
   rw [e] at q
   refine kE ⟨Nat.zero_le _,fun nr hnr=>?_⟩
   have s2:=su.trans (jP hnr (.lst []))
   have hvs:vs.length=r.length:=by simpa using f2
   have hr50:r.length<50:=by have:=h50;rw [List.length_cons] at this;omega
   refine (jA rfl (⟨ll,jA rfl (⟨.inl (SqL.of (s2 _ _ f1)),_,_,rfl,rfl,jA rfl (⟨by rw [List.length_cons];omega,by rw [List.length_cons];omega,?_⟩)⟩)⟩))
   have hnn:((((V.ref a0::vs).length:Nat):Int) - 1).toNat=r.length:=by rw [List.length_cons];omega
   rw [hnn]
   refine Q6 (n:=r.length) (fun i σ Hi=>∃(nr:Addr) (ns:List V) (c4 c5 c6:Option V) (lay:List GK),σ=[some y,some (.ref dT),some (.ref ll),some (.ref nr),c4,c5,c6]∧Same H Hi∧Hi nr=some (.lst ns)∧KeysAt Hi ns ((l::r).take i).flatten∧(l::r)[i]?=some lay∧yY T0 l l r=yY T0 ((l::r).take (i+1)).flatten lay ((l::r).drop (i+1))) ⟨nr,[],none,none,none,l,rfl,s2,jG,⟨rfl,fun i x e=>by cases e⟩,rfl,by simp⟩ ?_ ?_
   ·rintro i σ Hi hi ⟨nr,ns,c4,c5,c6,lay,rfl,s,hnr1,hns,hlay,e5⟩
    rw [Int.zero_add]
    obtain ⟨v1,hv1⟩:∃v1,(V.ref a0::vs)[i]?=some v1:=⟨_,List.getElem?_eq_getElem (by rw [List.length_cons];omega)⟩
    obtain ⟨a1,ys1,lay1,rfl,hn1,hl1,ha1,hk1⟩:=f3 i v1 hv1
    obtain rfl:lay1=lay:=Option.some.inj (hl1.symm.trans hlay)
    have hle1:=hle i lay1 hlay
    obtain ⟨v2,hv2⟩:∃v2,(V.ref a0::vs)[i+1]?=some v2:=⟨_,List.getElem?_eq_getElem (by rw [List.length_cons];omega)⟩
    obtain ⟨a2,ys2,lay2,rfl,hn2,hl2,ha2,hk2⟩:=f3 (i+1) v2 hv2
    have hd1:∀k∈lay1,(jN T0 k).isSome=true:=fun k hk=>hdom k (List.mem_flatten.mpr ⟨_,List.mem_of_getElem? hlay,hk⟩)
    refine (jA rfl (jA rfl (jA rfl (yP (SqL.of (s _ _ f1)) (kK hv1) (⟨nr,a1,ns,ys1,rfl,rfl,hnr1,s _ _ ha1,Nat.le_of_lt (zW (by have h1:=hns.1;have h2:=hk1.1;rw [List.length_append] at hle1;omega)),fun p hp=>?_⟩)))))
    have s3:=s.trans (jP hp (.lst (ns++ys1)))
    have hnear:KeysAt (jC Hi p (.lst (ns++ys1))) (ns++ys1) ((l::r).take (i+1)).flatten:=by rw [hcat i lay1 hlay];exact (Z4 hns (hk1.same s)).same (jP hp _)
    refine (jA rfl (jA rfl (yP (SqL.of (s3 _ _ f1)) (kK hv1) ((jA rfl ((rA a1 dT T0 ls m n c0 ys1 lay1 (an8 rfl (hT.same s3) hTO hn (s3 _ _ ha1) (hk1.same s3) hd1 (fun rr zs H2 sr hrr0 hrr hkz=>?_)))))))))
    have s4:=s3.trans sr
    rw [hdr (i+1) lay2 hl2] at e5
    have hp2:H2 p=some (.lst (ns++ys1)):=sr _ _ jG
    refine (jA rfl (⟨rr,rfl,⟨_,SqL.of hrr⟩,?_⟩))
    refine qX (K:=K) (a:=rr) (xs:=zs) (fun j σ Hj=>∃c6,σ=[some y,some (.ref dT),some (.ref ll),some (.ref p),some (.int i),some (.ref rr),c6]∧Hj=H2∧∀k∈(kH T0 [] [] lay1).take j,k∈((l::r).take (i+1)).flatten∨k∈lay2) ⟨c6,rfl,rfl,fun k hk=>by cases hk⟩ (fun j σ Hj _ ⟨_,_,e,_⟩=>by subst e;exact SqL.of hrr) ?_ ?_
    ·rintro j z σ Hj hz ⟨c6,rfl,rfl,hall⟩
     obtain ⟨kj,hkj,hgj,h8j⟩:=hkz.2 j z hz
     have ht:(kH T0 [] [] lay1).take (j+1)=(kH T0 [] [] lay1).take j++[kj]:=by rw [List.take_add_one,hkj];rfl
     refine (jA rfl (jA rfl (⟨p,_,kj,jA rfl (⟨SqL.of hp2,hgj,h8j,hnear.same sr,jA rfl (?_)⟩)⟩)))
     by_cases m1:kj∈((l::r).take (i+1)).flatten
     ·rw [decide_eq_true m1]
      refine kE (kE ⟨_,rfl,rfl,fun k hk=>?_⟩)
      rw [ht] at hk
      rcases List.mem_append.mp hk with hk|hk
      ·exact hall k hk
      ·rw [List.mem_singleton.mp hk];exact .inl m1
     rw [decide_eq_false m1]
     refine j9 (jA rfl (jA rfl (jA rfl (jZ (yP (SqL.of (s4 _ _ f1)) (kK hv2) ((v6 a2 ys2 kj lay2 (an6 rfl (SqL.of (s4 _ _ ha2)) hgj h8j (hk2.same s4) (jA rfl (?_))))))))))
     by_cases m2:kj∈lay2
     ·rw [decide_eq_true m2]
      refine kE ⟨_,rfl,rfl,fun k hk=>?_⟩
      rw [ht] at hk
      rcases List.mem_append.mp hk with hk|hk
      ·exact hall k hk
      ·rw [List.mem_singleton.mp hk];exact .inr m2
     rw [decide_eq_false m2]
     have hf:yY T0 l l r=false:=by
      rw [e5]
      show (yN T0 _ lay1 lay2&&_)=false
      have:yN T0 ((l::r).take (i+1)).flatten lay1 lay2=false:=by
       unfold yN
       rw [Bool.and_eq_false_iff]
       left
       rw [List.all_eq_false]
       exact ⟨kj,List.mem_of_getElem? hkj,by rw [decide_eq_false m1,decide_eq_false m2];exact Bool.false_ne_true⟩
      rw [this];rfl
     rw [hf] at q
     exact j9 (q _ s4)
    rintro σ Hj ⟨c6,rfl,rfl,hall⟩
    rw [hkz.1,List.take_length] at hall
    refine (jA rfl (jA rfl (jZ (yP (SqL.of (s4 _ _ f1)) (kK hv2) (⟨a2,rfl,⟨_,SqL.of (s4 _ _ ha2)⟩,?_⟩)))))
    refine qX (K:=K) (a:=a2) (xs:=ys2) (fun j σ Hk=>∃c6,σ=[some y,some (.ref dT),some (.ref ll),some (.ref p),some (.int i),some (.ref rr),c6]∧Hk=Hj∧∀k∈lay2.take j,k∈kH T0 [] [] lay1) ⟨c6,rfl,rfl,fun k hk=>by cases hk⟩ (fun j σ Hk _ ⟨_,_,e,_⟩=>by subst e;exact SqL.of (s4 _ _ ha2)) ?_ ?_
    ·rintro j z σ Hk hz ⟨c6,rfl,rfl,hall2⟩
     obtain ⟨kj,hkj,hgj,h8j⟩:=hk2.2 j z hz
     have ht:lay2.take (j+1)=lay2.take j++[kj]:=by rw [List.take_add_one,hkj];rfl
     refine (jA rfl (jA rfl (⟨rr,zs,kj,jA rfl (⟨SqL.of hrr,jQ s4 hgj,h8j,hkz,jA rfl (?_)⟩)⟩)))
     by_cases m1:kj∈kH T0 [] [] lay1
     ·rw [decide_eq_true m1]
      refine kE ⟨_,rfl,rfl,fun k hk=>?_⟩
      rw [ht] at hk
      rcases List.mem_append.mp hk with hk|hk
      ·exact hall2 k hk
      ·rw [List.mem_singleton.mp hk];exact m1
     rw [decide_eq_false m1]
     have hf:yY T0 l l r=false:=by
      rw [e5]
      show (yN T0 _ lay1 lay2&&_)=false
      have:yN T0 ((l::r).take (i+1)).flatten lay1 lay2=false:=by
       unfold yN
       rw [Bool.and_eq_false_iff]
       right
       rw [List.all_eq_false]
       exact ⟨kj,List.mem_of_getElem? hkj,by rw [decide_eq_false m1];exact Bool.false_ne_true⟩
      rw [this];rfl
     rw [hf] at q
     exact j9 (q _ s4)
    rintro σ Hk ⟨c6,rfl,rfl,hall2⟩
    rw [hk2.1,List.take_length] at hall2
    refine (gW p _ _ _ _ lay2 (an6 rfl s4 hp2 (hnear.same sr) hl2 (?_)))
    rw [e5,hcat (i+1) lay2 hl2]
    show (yN T0 _ lay1 lay2&&yY T0 _ lay2 _)=_
    have:yN T0 ((l::r).take (i+1)).flatten lay1 lay2=true:=by
     unfold yN
     rw [Bool.and_eq_true,List.all_eq_true,List.all_eq_true]
     refine ⟨fun k hk=>?_,fun k hk=>decide_eq_true (hall2 k hk)⟩
     rw [Bool.or_eq_true,decide_eq_true_eq,decide_eq_true_eq]
     exact hall k hk
    rw [this];rfl
   ·rintro σ Hi ⟨nr,ns,c4,c5,c6,lay,rfl,s,hnr1,hns,hlay,e5⟩
    have e6:(l::r).drop (r.length+1)=[]:=by simp
    rw [e6] at e5
    rw [e5] at q
    exact q _ s
theorem bR:FnScope ["_law_table_here","_law_state","_law_row_here","_law_deed_here","_law_pairs"] ["_law_table_here","_law_state","_law_row_here"] (jF JX):=⟨rfl,rfl,rfl,by decide +kernel,rfl,by decide +kernel,by decide +kernel⟩
theorem rX {f:Addr} {fd:FuncData} (F:Fun K "_law_walked" "_law_walked" JX f fd) (T:Txt K mg) : FnOk P w K mg base kC 4 f fd ["_law_table_here","_law_state","_law_row_here"] (fD w K):=by
 refine F.ok bR (fun vs H Q E h=>?_) (fun cdv A outer s H vs Q E hr h=>?_)
 ·obtain ⟨d,rl,y,T0,ls,m,n,k,row,ks,rfl,hT,hO,hy,hk,hrl,hks,qN,qS⟩:=h
  rfl
 obtain ⟨d,rl,y,T0,ls,m,n,k,row,ks,rfl,hT,hO,hy,hk,hrl,hks,qN,qS⟩:=h
 have hu:_<cLine:=hr.units0
 have hu1:=qB hr
 have hu9:=qT hr
 have hu10:=qR hr
 refine ⟨_,(@jJ _ _ _ _ _ (qE PassesOwn.never rfl (kO (pv 2)) (kD (i:=3) bR.nd rfl (by first|exact Or.inl rfl|exact Or.inr rfl))
    (@jJ _ _ _ _ _ (yR (i:=4) ["_law_pair","_law_deed_here"] (vA 1 [3]) bR.nd rfl (by first|exact Or.inl rfl|exact Or.inr rfl) rfl (vN (jF JX) rfl rfl (by decide +kernel) (by decide +kernel) (by decide +kernel)) (vO 1 [3] rfl rfl (by decide +kernel)) (kO (vV hu9 (pv 0) (pv 1) (fun _ _=>rfl))) (fun _ _ _ _ _=>(kD (i:=0) (show List.Nodup (["_law_pair","_law_deed_here"]:List Str) from by decide +kernel) rfl (by first|exact Or.inl rfl|exact Or.inr rfl))) (fun _ _ _ _ _=>(zU (j5 (gA hu9) (j4 (nV K) (pv 0) jE (fun _ _=>rfl)) (pv 1) (jW _)))) (fun _ _ _ _ _=>(pv 0)))
   (@jJ _ _ _ _ _ (j8 (j5 DH (kW qA (by rfl) T.z_len PySem.boot_len (jB (pv 4) jD)) jE (jW _)) (@jI _ _ _ (@j0 _ _ _ _ fZ)) j7)
   (@jI _ _ _ (jV (i:=1) bR.nd rfl (by first|exact Or.inl rfl|exact Or.inr rfl) (j4 ZK (j4 kG (pv 4) jE (fun _ _=>rfl)) jE (fun _ _=>rfl)))))))
   (@jI _ _ _ (@j0 _ _ _ _ (kZ (jB (pv 1) jD))))),?_⟩
 refine (jA rfl (⟨rl,rfl,⟨_,SqL.of hrl⟩,?_⟩))
 refine qX (K:=K) (xs:=row) (fun i σ Hi=>∃yi ki c3 c4,σ=[some (.ref d),some yi,some (.ref rl),c3,c4]∧Same H Hi∧(GV Hi ki).1 yi∧(jN T0 ki).isSome=true∧qM T0 k (ks.take i)=some ki) ⟨y,k,none,none,rfl,Same.refl _,hy,hk,rfl⟩ (fun i σ Hi _ ⟨_,_,_,_,_,s,_⟩=>SqL.of (s _ _ hrl)) ?_ ?_
 ·rintro i x σ Hi hx ⟨yi,ki,c3,c4,rfl,s,hyi,hki,hw⟩
  obtain ⟨de,hde,hxk,hx8⟩:=hks.2 i x hx
  obtain ⟨ps,hps⟩:=Option.isSome_iff_exists.mp hki
  obtain ⟨kvs,e1,g,ap,e3⟩:=(hT.same s).ex
  obtain ⟨l,zs,f1,f2,f3⟩:=e3 ki ps hps
  have hrow:=hO.row ki ps hps
  have hzp:=f3.1
  have hr1:=hrow.1
  refine (jA rfl (jA rfl (⟨d,kvs,ki,jA rfl (⟨e1,g,hyi,hT.deep ki ps hps,f1,l,rfl,⟨_,SqL.of f2⟩,fun bt hbt=>?_⟩)⟩)))
  refine yH (K:=K) (a:=l) (xs:=zs) (caps:=[some x]) (fun j ys Hj=>PairsAt Hj ys ((ps.take j).filter fun z=>decide (z.1=de))) hbt (SqL.of f2) ⟨rfl,fun i x e=>by cases e⟩ ?_ ?_
  ·rintro j z ys Hj hz hj hle sm hY hR
   obtain ⟨pr,t,b,b',p1,rfl,p3,p4,p5,p6,p7⟩:=f3.2 j z hz
   have p3':=sm _ _ p3
   have ht:(ps.take (j+1))=ps.take j++[pr]:=by rw [List.take_add_one,p1];rfl
   refine (jA rfl (⟨t,_,_,b,rfl,rfl,SqT.of p3',rfl,jA rfl (⟨pr.1,de,jQ sm p4,jQ (s.trans sm) hxk,p6,jA rfl (?_)⟩)⟩))
   by_cases hd:pr.1=de
   ·rw [decide_eq_true hd]
    refine j9 (jA rfl (yI hbt sm hY hle (by omega) (Same.refl _) ?_))
    show PairsAt _ _ ((ps.take (j+1)).filter fun z=>decide (z.1=de))
    rw [ht,List.filter_append,List.filter_cons,if_pos (decide_eq_true hd)]
    have tk:∀a l,Hj a=some (.tup l)→jC Hj bt (.lst (ys++[.ref t])) a=some (.tup l):=fun a l e=>by rw [jH fun z=>by subst z;rw [hY] at e;cases e];exact e
    exact eO (z9 tk hR) (tk _ _ p3') ((GV.keep tk _).1 _ (jQ sm p4)) ((GV.keep tk _).1 _ (jQ sm p5)) p6 p7
   ·rw [decide_eq_false hd]
    refine kE (JB sm hY hle (Same.refl _) ?_)
    show PairsAt _ _ ((ps.take (j+1)).filter fun z=>decide (z.1=de))
    rw [ht,List.filter_append,List.filter_cons,if_neg (by simpa using hd)]
    simpa using hR
  rintro ys Hg sg hbtg hleg hR
  rw [f3.1,List.take_length] at hR
  have h1:=mP (m:=m) (de:=de) ps 0 (by omega) (fun i p e=>by rw [Nat.zero_add];exact hrow.2 i p e)
  have hb:behind T0 ki de=(ps.filter fun z=>decide (z.1=de)).map (·.2):=by rw [behind,hps];rfl
  have hin:∀p∈ps.filter (fun z=>decide (z.1=de)),p∈ps:=fun p hp=>(List.mem_filter.mp hp).1
  have sF:=s.trans sg
  refine (jA rfl (⟨bt,jA rfl (⟨.inl (SqL.of hbtg),rfl,jA rfl (?_)⟩)⟩))
  generalize ps.filter (fun z=>decide (z.1=de))=fs at hR h1 hb hin
  match fs,h1,hb,hin,hR with
  |[],_,hb,_,hR =>
   obtain rfl:ys=[]:=List.eq_nil_of_length_eq_zero hR.1
   exact j9 (qN (uI hw hde hb) Hg sF)
  |[pr],_,hb,hin,hR =>
   match ys,hR with
   |[],hR=>exact absurd hR.1 (by simp)
   |_::_::_,hR=>exact absurd hR.1 (by simp)
   |[z],hR =>
    obtain ⟨pr',t,b,b',p1,rfl,p3,p4,p5,p6,p7⟩:=hR.2 0 z rfl
    cases p1
    exact kE (jA rfl (⟨bt,_,0,.ref t,rfl,rfl,SqL.of hbtg,kK (j:=0) rfl,t,_,_,b',rfl,rfl,SqT.of p3,rfl,_,pr.2,_,jA rfl (⟨sF,p5,hT.shut ki ps pr hps (hin pr List.mem_cons_self),uJ hw hde hb⟩)⟩))
  |_::_::_,h1,_,_,_=>exact absurd h1 (by simp)
 ·rintro σ Hf ⟨yi,ki,c3,c4,rfl,s,hyi,hki,hw⟩
  rw [hks.1,List.take_length] at hw
  exact (jA rfl (⟨kT (by show 1≤1000;decide),fun p hp=>qS ki yi p _ hw hki (jQ (jP hp _) hyi) jG (s.trans (jP hp _))⟩))
theorem d0:FnScope ["_law_layers_here","_law_marks_here","_law_layer","_law_state"] ["_law_layers_here","_law_marks_here"] (jF QW):=⟨rfl,rfl,rfl,by decide +kernel,rfl,by decide +kernel,by decide +kernel⟩
theorem rW {f:Addr} {fd:FuncData} (F:Fun K "_law_unended" "_law_unended" QW f fd) (T:Txt K mg) : FnOk P w K mg base kC 1 f fd ["_law_layers_here","_law_marks_here"] (iO w):=by
 refine F.ok d0 (fun vs H Q E h=>?_) (fun cdv A outer s H vs Q E hr h=>?_)
 ·obtain ⟨ll,dM,LL,T0,M,rfl,hL,hM,hdom,q⟩:=h
  rfl
 obtain ⟨ll,dM,LL,T0,M,rfl,hL,hM,hdom,q⟩:=h
 have hu:_<cLine:=hr.units0
 have hu1:=qB hr
 have hu9:=qT hr
 have hu10:=qR hr
 refine ⟨_,(@jJ _ _ _ _ _ (qE PassesOwn.never rfl (kO (pv 0)) (kD (i:=2) d0.nd rfl (by first|exact Or.inl rfl|exact Or.inr rfl))
    (@jI _ _ _ (qE PassesOwn.never rfl (kO (pv 2)) (kD (i:=3) d0.nd rfl (by first|exact Or.inl rfl|exact Or.inr rfl))
    (@jI _ _ _ (j8 (yU (vV hu9 (pv 1) (pv 3) (fun _ _=>rfl))) (@jI _ _ _ (@j0 _ _ _ _ kY)) j7)))))
   (@jI _ _ _ (@j0 _ _ _ _ kY))),?_⟩
 obtain ⟨xs,f1,f2,f3⟩:=hL.ex
 refine (jA rfl (⟨ll,rfl,⟨_,SqL.of f1⟩,?_⟩))
 refine qX (K:=K) (a:=ll) (xs:=xs) (fun i σ Hi=>∃c2 c3,σ=[some (.ref ll),some (.ref dM),c2,c3]∧Same H Hi∧(LL.take i).flatten.any M=false) ⟨none,none,rfl,Same.refl _,rfl⟩ (fun i σ Hi _ ⟨_,_,_,s,_⟩=>SqL.of (s _ _ f1)) ?_ ?_
 ·rintro i x σ Hi hx ⟨c2,c3,rfl,s,hany⟩
  obtain ⟨a,ys,lay,rfl,hna,hlay,ha,hk⟩:=f3 i x hx
  refine (jA rfl (⟨a,rfl,⟨_,SqL.of (s _ _ ha)⟩,?_⟩))
  refine qX (K:=K) (a:=a) (xs:=ys) (fun j σ Hj=>∃c3,σ=[some (.ref ll),some (.ref dM),some (.ref a),c3]∧Same H Hj∧(lay.take j).any M=false) ⟨c3,rfl,s,rfl⟩ (fun j σ Hj _ ⟨_,_,s,_⟩=>SqL.of (s _ _ ha)) ?_ ?_
  ·rintro j v σ Hj hv ⟨c3,rfl,sj,hany2⟩
   obtain ⟨k,hk1,hg,h8⟩:=hk.2 j v hv
   have hmem:=List.mem_flatten.mpr ⟨lay,List.mem_of_getElem? hlay,List.mem_of_getElem? hk1⟩
   obtain ⟨kvs,e1,g,e3⟩:=(hM.same sj).ex
   refine (jA rfl (jA rfl (⟨dM,kvs,k,jA rfl (⟨.of e1,g,jQ sj hg,h8,e3 k (hdom k hmem),jA rfl (?_)⟩)⟩)))
   cases hMk:M k with
   |true =>
    have e:LL.flatten.any M=true:=List.any_eq_true.mpr ⟨k,hmem,hMk⟩
    rw [e] at q
    exact j9 (q _ sj)
   |false =>
    refine kE (jA rfl (⟨sj,?_⟩))
    rw [List.take_add_one,hk1,List.any_append,hany2]
    simp [hMk]
  rintro σ Hj ⟨c3,rfl,sj,hany2⟩
  rw [hk.1,List.take_length] at hany2
  refine ⟨_,jA rfl (⟨sj,?_⟩)⟩
  rw [List.take_add_one,hlay,List.flatten_append,List.any_append,hany]
  simpa using hany2
 rintro σ Hf ⟨c2,c3,rfl,s,hany⟩
 rw [f2,List.take_length] at hany
 rw [hany] at q
 exact q _ s
theorem dY:FnScope ["_law_table_here","_law_marks_here","_law_state"] ["_law_table_here"] (jF QS):=⟨rfl,rfl,rfl,by decide +kernel,rfl,by decide +kernel,by decide +kernel⟩
theorem rP {f:Addr} {fd:FuncData} (F:Fun K "_law_none" "_law_none" QS f fd) (T:Txt K mg) : FnOk P w K mg base kC 1 f fd ["_law_table_here"] (lO w):=by
 refine F.ok dY (fun vs H Q E h=>?_) (fun cdv A outer s H vs Q E hr h=>?_)
 ·obtain ⟨d,o,kvs,T0,rfl,hd,hg,hkT,h999,q⟩:=h
  rfl
 obtain ⟨d,o,kvs,T0,rfl,hd,hg,hkT,h999,q⟩:=h
 have hu:_<cLine:=hr.units0
 have hu1:=qB hr
 have hu9:=qT hr
 have hu10:=qR hr
 refine ⟨_,(@jJ _ _ _ _ _ (jV (i:=1) dY.nd rfl (by first|exact Or.inl rfl|exact Or.inr rfl) Z8)
   (@jJ _ _ _ _ _ (qE PassesOwn.never rfl (i0 (pv 0)) (kD (i:=2) dY.nd rfl (by first|exact Or.inl rfl|exact Or.inr rfl))
    (@jI _ _ _ (J6 hu9 (pv 1) (pv 2) kY rfl)))
   (@jI _ _ _ (@j0 _ _ _ _ (pv 1))))),?_⟩
 intro dm hdm
 have u0:=jP hdm (GO w dm [])
 refine (jA rfl ((yG d o kvs (an3 rfl (u0 _ _ hd) (?_)))))
 refine DQ (w:=w) (d:=d) (o:=o) (kvs:=kvs) (fun i σ Hi=>∃c2 ms,σ=[some (.ref d),some (.ref dm),c2]∧Same H Hi∧Hi dm=some (GO w dm ms)∧GOk Hi ms∧ms.length≤i∧∀(j:Nat) p,j<i→kvs[j]?=some p→jU ms p.1=some (.bl false)) ⟨none,[],rfl,u0,jG,GOk.nil,Nat.le_refl _,fun j p hj=>absurd hj (Nat.not_lt_zero j)⟩ (fun i σ Hi _ ⟨_,_,_,s,_⟩=>s _ _ hd) ?_ ?_
 ·rintro i p σ Hi hp ⟨c2,ms,rfl,s,hm,g,hl,hall⟩
  have hpm:=List.mem_of_getElem? hp
  have hlt:=(List.getElem?_eq_some_iff.mp hp).1
  refine (jA rfl (jA rfl ((yG dm ms p.1 (an7 rfl hm g (jQ s (hg.key p hpm)) (hg.deep p hpm) (vG (by omega)) (?_))))))
  refine ⟨_,jA rfl (⟨qI hdm s,jG,(g.set (jQ s (hg.key p hpm)) (hg.deep p hpm)).keep (fun a l e=>by rw [jH fun z=>by rw [z,hm] at e;cases e];exact e),by have:=Z3 ms p.1 p.2.1 (.bl false);omega,fun j p' hj hp'=>?_⟩)⟩
  rw [J5]
  by_cases c:p'.1=p.1
  ·rw [if_pos c]
  ·rw [if_neg c]
   refine hall j p' ?_ hp'
   have:j≠i:=fun z=>by rw [z,hp] at hp';cases hp';exact c rfl
   omega
 rintro σ Hf ⟨c2,ms,rfl,s,hm,g,hl,hall⟩
 refine (jA rfl (q dm Hf s hdm ⟨ms,hm,g,fun k hk=>?_⟩))
 obtain ⟨p,hp,rfl⟩:=hkT k hk
 obtain ⟨j,hj⟩:=List.mem_iff_getElem?.mp hp
 exact hall j p (List.getElem?_eq_some_iff.mp hj).1 hj
theorem z7:FnScope ["_law_layers_here","_law_table_here","_law_marks_here","_law_mode","_law_goals","_law_row_here","_law_goal","_law_k","_law_whence","_law_pairs"] ["_law_layers_here","_law_table_here","_law_marks_here","_law_mode"] (jF zS):=⟨rfl,rfl,rfl,by decide +kernel,rfl,by decide +kernel,by decide +kernel⟩
theorem rR {f:Addr} {fd:FuncData} (F:Fun K "_law_row" "_law_row" zS f fd) (T:Txt K mg) (D__law_behind:Def P w K mg base 2 "_law_behind" ["_law_layer","_law_table_here"] [] (Z2 w)):FnOk P w K mg base kC 4 f fd ["_law_layers_here","_law_table_here","_law_marks_here","_law_mode"] (m5 w):=by
 refine F.ok z7 (fun vs H Q E h=>?_) (fun cdv A outer s H vs Q E hr h=>?_)
 ·obtain ⟨ll,dT,dM,md,T0,ls,M,m,n,c0,k0,N,rfl,hT,hO,hn24,hM,hk0,hNle,hL,q⟩:=h
  rfl
 obtain ⟨ll,dT,dM,md,T0,ls,M,m,n,c0,k0,N,rfl,hT,hO,hn24,hM,hk0,hNle,hL,q⟩:=h
 have hu:_<cLine:=hr.units0
 have hu1:=qB hr
 have hu9:=qT hr
 have hu10:=qR hr
 refine ⟨_,(@jJ _ _ _ _ _ (yR (i:=4) ["_law_state","_law_marks_here"] (vA 1 [2]) z7.nd rfl (by first|exact Or.inl rfl|exact Or.inr rfl) rfl (vN (jF zS) rfl rfl (by decide +kernel) (by decide +kernel) (by decide +kernel)) (vO 1 [2] rfl rfl (by decide +kernel)) (kO (j4 kG (pv 0) (yW yT jE) (fun _ _=>rfl))) (fun _ _ _ _ _=>(kD (i:=0) (show List.Nodup (["_law_state","_law_marks_here"]:List Str) from by decide +kernel) rfl (by first|exact Or.inl rfl|exact Or.inr rfl))) (fun _ _ _ _ _=>(zU (yU (fH w hu9 (pv 1) (pv 0) (fun _ _=>rfl))))) (fun _ _ _ _ _=>(pv 0)))
   (@jJ _ _ _ _ _ (jV (i:=5) z7.nd rfl (by first|exact Or.inl rfl|exact Or.inr rfl) (kZ jD))
   (@jJ _ _ _ _ _ (j8 (j5 kJ (kW qA (by rfl) T.z_len PySem.boot_len (jB (pv 4) jD)) jE (jW _)) (@jI _ _ _ (@j0 _ _ _ _ (pv 5))) j7)
   (@jJ _ _ _ _ _ (jV (i:=6) z7.nd rfl (by first|exact Or.inl rfl|exact Or.inr rfl) (j4 kG (pv 4) jE (fun _ _=>rfl)))
   (@jJ _ _ _ _ _ (qE PassesOwn.never rfl (ZZ (by rfl) T.z_range (jB (@jL _ _ _ _ _ _ _ _ zA (kW qA (by rfl) T.z_len PySem.boot_len (jB (pv 0) jD)) jE) jD)) (kD (i:=7) z7.nd rfl (by first|exact Or.inl rfl|exact Or.inr rfl))
    (@jJ _ _ _ _ _ (yR (i:=8) ["_law_state","_law_goal","_law_table_here"] (vA 1 [6,1]) z7.nd rfl (by first|exact Or.inl rfl|exact Or.inr rfl) rfl (vN (jF zS) rfl rfl (by decide +kernel) (by decide +kernel) (by decide +kernel)) (vO 1 [6,1] rfl rfl (by decide +kernel)) (kO (j4 kG (pv 0) (@jL _ _ _ _ _ _ _ _ zA (@jL _ _ _ _ _ _ _ _ zA (kW qA (by rfl) T.z_len PySem.boot_len (jB (pv 0) jD)) jE) (pv 7)) (fun _ _=>rfl))) (fun _ _ _ _ _=>(kD (i:=0) (show List.Nodup (["_law_state","_law_goal","_law_table_here"]:List Str) from by decide +kernel) rfl (by first|exact Or.inl rfl|exact Or.inr rfl))) (fun _ _ _ _ _=>(zU (j5 (AN K hu10) (pv 1) (kA D__law_behind hr rfl (jB (kZ (jB (pv 0) jD)) (jB (pv 2) jD))) (by with_unfolding_all rfl)))) (fun _ _ _ _ _=>(pv 0)))
   (@jJ _ _ _ _ _ (yR (i:=9) ["_law_pair","_law_goal"] (vA 1 [6]) z7.nd rfl (by first|exact Or.inl rfl|exact Or.inr rfl) rfl (vN (jF zS) rfl rfl (by decide +kernel) (by decide +kernel) (by decide +kernel)) (vO 1 [6] rfl rfl (by decide +kernel)) (kO (vV hu9 (pv 1) (j4 kG (pv 8) (yW yT jE) (fun _ _=>rfl)) (fun _ _=>rfl))) (fun _ _ _ _ _=>(kD (i:=0) (show List.Nodup (["_law_pair","_law_goal"]:List Str) from by decide +kernel) rfl (by first|exact Or.inl rfl|exact Or.inr rfl))) (fun _ _ _ _ _=>(zU (j5 (gA hu9) (j4 (nV K) (pv 0) jE (fun _ _=>rfl)) (pv 1) (jW _)))) (fun _ _ _ _ _=>(pv 0)))
   (@jJ _ _ _ _ _ (qW (vI PySem.F.plainAttrs_list PySem.F.slot_list_append PySem.F.type_list_append zG (pv 5) (jB (j4 ZK (j4 kG (pv 9) (yW yT jE) (fun _ _=>rfl)) jE (fun _ _=>rfl)) jD)))
   (@jI _ _ _ (jV (i:=6) z7.nd rfl (by first|exact Or.inl rfl|exact Or.inr rfl) (j4 kG (pv 8) (yW yT jE) (fun _ _=>rfl))))))))
   (@jJ _ _ _ _ _ (qW (B1 PySem.F.plainAttrs_list PySem.F.slot_list_reverse PySem.F.type_list_reverse t9 (pv 5)))
   (@jI _ _ _ (@j0 _ _ _ _ (pv 5))))))))),?_⟩
 obtain ⟨xs,la,ys,f1,f2,f3,f4,f5,f6⟩:=hL.last
 have fit:∀i,(kN T0 k0 i).length≤24:=fun i=>by
  have h1:=JA hO (ZY (T:=T0) (k0:=k0) i) (ZC hT.shut hk0 i)
  have h2:(kN T0 k0 i).length≤(kB T0 k0 i).flatten.length:=(List.sublist_flatten_of_mem (List.mem_of_getElem? (Q8 i))).length_le
  omega
 have hN:N≤23:=hNle
 refine (jA rfl (jA rfl (⟨ll,xs,_,_,rfl,rfl,SqL.of f1,f2,la,rfl,⟨_,SqL.of f4⟩,fun bt hbt=>?_⟩)))
 refine yH (K:=K) (a:=la) (xs:=ys) (caps:=[some (.ref dM)]) (fun j ws Hk=>KeysAt Hk ws (((kN T0 k0 N).take j).filter M)) hbt (SqL.of f4) ⟨rfl,fun i x e=>by cases e⟩ ?_ ?_
 ·rintro j x ws Hk hx hj hle sm hY hR
  obtain ⟨kj,hkj,hgj,h8j⟩:=f5.2 j x hx
  have hdj:=ZC hT.shut hk0 N kj (cJ (List.mem_of_getElem? hkj))
  obtain ⟨kvsM,a1,a2,a3⟩:=(hM.same sm).ex
  have ht:((kN T0 k0 N).take (j+1))=(kN T0 k0 N).take j++[kj]:=by rw [List.take_add_one,hkj];rfl
  have hlen:=fit N
  have hyl:=f5.1
  refine (jA rfl (jA rfl (⟨dM,kvsM,kj,jA rfl (⟨.of a1,a2,jQ sm hgj,h8j,a3 kj hdj,jA rfl (?_)⟩)⟩)))
  cases hMk:M kj with
  |false =>
   refine kE (JB sm hY hle (Same.refl _) ?_)
   show KeysAt _ _ (((kN T0 k0 N).take (j+1)).filter M)
   rw [ht,List.filter_append,List.filter_cons,if_neg (by simp [hMk])]
   simpa using hR
  |true =>
   refine j9 (jA rfl (yI hbt sm hY hle (by omega) (Same.refl _) ?_))
   show KeysAt _ _ (((kN T0 k0 N).take (j+1)).filter M)
   rw [ht,List.filter_append,List.filter_cons,if_pos hMk]
   exact hR.snoc (k:=kj) (fun a l e=>by rw [jH fun z=>by subst z;rw [hY] at e;cases e];exact e) (jQ sm hgj) h8j
 rintro ws H1 s1 hb1 hle1 hR
 rw [f5.1,List.take_length] at hR
 refine ⟨Nat.zero_le _,fun rr hrr=>?_⟩
 have s2:=s1.trans (jP hrr (.lst []))
 have hb2:=jP hrr (.lst []) _ _ hb1
 refine (jA rfl (⟨bt,ws,rfl,.inl (SqL.of hb2),rfl,jA rfl (kI (fun c=>?_) (fun c=>?_))⟩))
 ·exact (jA rfl (q rr [] [] _ s2 jG ⟨rfl,fun i x e=>by cases e⟩ (Nat.zero_le _)))
 cases ws with
 |nil=>exact absurd (decide_eq_true rfl) c
 |cons w0 wr =>
 obtain ⟨g0,hg0,hgv0,hg08⟩:=hR.2 0 w0 rfl
 have hg0m:g0∈kN T0 k0 N:=(List.mem_filter.mp (List.mem_of_getElem? hg0)).1
 refine (jA rfl (⟨bt,_,0,w0,rfl,rfl,SqL.of hb2,kK (j:=0) rfl,?_⟩))
 refine (jA rfl (⟨ll,xs,rfl,.inl (SqL.of (s2 _ _ f1)),_,_,rfl,rfl,jA rfl (⟨by omega,by omega,?_⟩)⟩))
 rw [show (((xs.length:Nat):Int) - 1).toNat=N by omega]
 refine Q6 (n:=N) (fun i σ Hi=>∃(gv:V) (g:GK) (rs:List V) (ds:List GK) (c7 c8 c9:Option V),σ=[some (.ref ll),some (.ref dT),some (.ref dM),some md,some (.ref bt),some (.ref rr),some gv,c7,c8,c9]∧Same H Hi∧Hi rr=some (.lst rs)∧KeysAt Hi rs ds∧rs.length=i∧(GV Hi g).1 gv∧gd g≤8∧g∈kN T0 k0 (N - i)) ⟨w0,g0,[],[],none,none,none,rfl,s2,jG,⟨rfl,fun i x e=>by cases e⟩,rfl,jQ (jP hrr _) hgv0,hg08,hg0m⟩ ?_ ?_
 ·rintro i σ Hi hi ⟨gv,g,rs,ds,c7,c8,c9,rfl,s,hrs,hds,hrl,hgv,hg8,hgm⟩
  rw [Int.zero_add]
  obtain ⟨jj,hjj⟩:∃jj,N - i=jj+1:=⟨N - i - 1,by omega⟩
  rw [hjj] at hgm
  obtain ⟨xs',e1,e2,e3⟩:=hL.ex
  rw [f1] at e1;cases e1
  obtain ⟨v1,hv1⟩:∃v,xs[jj]?=some v:=⟨_,List.getElem?_eq_getElem (by omega)⟩
  obtain ⟨lb,zs,lay,rfl,hnb,hlb,hzb,hkb⟩:=e3 jj v1 hv1
  rw [x9 jj (by omega)] at hlb
  cases hlb
  have hlen:=fit jj
  have hzl:=hkb.1
  have hdl:∀k∈kN T0 k0 jj,(jN T0 k).isSome=true:=fun k hk=>ZC hT.shut hk0 jj k (cJ hk)
  refine (jA rfl (jA rfl (⟨ll,xs,rfl,.inl (SqL.of (s _ _ f1)),_,_,rfl,rfl,jA rfl (jZ (⟨ll,xs,_,.ref lb,rfl,rfl,SqL.of (s _ _ f1),(by rw [show (((xs.length:Nat):Int) - 2 - (i:Int))=((jj:Nat):Int) by omega];exact kK hv1),lb,rfl,⟨_,SqL.of (s _ _ hzb)⟩,fun bw hbw=>?_⟩))⟩)))
  refine yH (K:=K) (a:=lb) (xs:=zs) (caps:=[some gv,some (.ref dT)]) (fun j us Hk=>KeysAt Hk us (((kN T0 k0 jj).take j).filter fun z=>decide (g∈kH T0 [] [] [z]))) hbw (SqL.of (s _ _ hzb)) ⟨rfl,fun i x e=>by cases e⟩ ?_ ?_
  ·rintro j x us Hk hx hj hle sm hY hRw
   obtain ⟨kj,hkj,hgj,h8j⟩:=hkb.2 j x hx
   have sk:=s.trans sm
   have ht:((kN T0 k0 jj).take (j+1))=(kN T0 k0 jj).take j++[kj]:=by rw [List.take_add_one,hkj];rfl
   refine (jA rfl (jA rfl (⟨kT (by show 1≤1000;decide),fun p1 hp1=>?_⟩)))
   have u1:=jP hp1 (.lst [x])
   refine ⟨_,rfl,p1,dT,T0,ls,m,n,c0,[x],[kj],rfl,hT.same (sk.trans u1),hO,by omega,jG,(⟨rfl,fun i y e=>by
    cases i with
    |zero=>cases e;exact ⟨kj,rfl,jQ (sk.trans u1) hgj,h8j⟩
    |succ i=>cases e⟩),(fun k hk=>by rw [List.mem_singleton.mp hk];exact hdl kj (List.mem_of_getElem? hkj)),fun r2 y2 H3 s3 hr20 hr2 hk2=>?_⟩
   have u3:=u1.trans s3
   refine ⟨r2,y2,g,jA rfl (⟨SqL.of hr2,jQ (sm.trans u3) hgv,hg8,hk2,jA rfl (?_)⟩)⟩
   by_cases hin:g∈kH T0 [] [] [kj]
   ·rw [decide_eq_true hin]
    refine j9 (jA rfl (yI hbw sm hY hle (by omega) u3 ?_))
    show KeysAt _ _ (((kN T0 k0 jj).take (j+1)).filter _)
    rw [ht,List.filter_append,List.filter_cons,if_pos (decide_eq_true hin)]
    exact (hRw.same u3).snoc (k:=kj) (fun a l e=>by rw [jH fun z=>by subst z;rw [u3 _ _ hY] at e;cases e];exact e) (jQ (sk.trans u3) hgj) h8j
   ·rw [decide_eq_false hin]
    refine kE (JB sm hY hle u3 ?_)
    show KeysAt _ _ (((kN T0 k0 jj).take (j+1)).filter _)
    rw [ht,List.filter_append,List.filter_cons,if_neg (by simpa using hin)]
    simpa using hRw.same u3
  rintro us Hg sg hbg hleg hRw
  rw [hzl,List.take_length] at hRw
  have sG:=s.trans sg
  obtain ⟨kx,hkx,hgx⟩:∃kx∈kN T0 k0 jj,g∈kH T0 [] [] [kx]:=by
   rw [uC] at hgm
   rcases ZX _ [] hgm with h|⟨k,hk,p,hp,e⟩
   ·cases h
   ·exact ⟨k,hk,gU _ _ (.inr ⟨k,List.mem_singleton.mpr rfl,p,hp,e⟩)⟩
  have hpos:0<us.length:=by
   rw [hRw.1]
   exact List.length_pos_of_mem (List.mem_filter.mpr ⟨hkx,decide_eq_true hgx⟩)
  obtain ⟨nu,hnu⟩:∃nu,us.length=nu+1:=⟨us.length - 1,by omega⟩
  obtain ⟨wl,hwl⟩:∃wl,us[nu]?=some wl:=⟨_,List.getElem?_eq_getElem (by omega)⟩
  obtain ⟨kw,hkw,hgw,hw8⟩:=hRw.2 nu wl hwl
  have hwm:=List.mem_filter.mp (List.mem_of_getElem? hkw)
  obtain ⟨ps,hps⟩:=Option.isSome_iff_exists.mp (hdl kw hwm.1)
  obtain ⟨kvs,t1,t2,t3,t4⟩:=(hT.same sG).ex
  obtain ⟨l,qs,g1,g2,g3⟩:=t4 kw ps hps
  have hfew:=hT.few kw ps hps
  have hql:=g3.1
  refine (jA rfl (jA rfl (jA rfl (⟨bw,us,_,wl,rfl,rfl,SqL.of hbg,atI_last hnu hwl,dT,kvs,kw,jA rfl (⟨t1,t2,hgw,hw8,g1,l,rfl,⟨_,SqL.of g2⟩,fun bp hbp=>?_⟩)⟩))))
  refine yH (K:=K) (a:=l) (xs:=qs) (caps:=[some gv]) (fun j vs Hk=>PairsAt Hk vs ((ps.take j).filter fun z=>decide (z.2=g))) hbp (SqL.of g2) ⟨rfl,fun i x e=>by cases e⟩ ?_ ?_
  ·rintro j z vs Hk hz hj hle sm hY hRp
   obtain ⟨pr,t,b,b',p1,rfl,p3,p4,p5,p6,p7⟩:=g3.2 j z hz
   have p3':=sm _ _ p3
   have ht:(ps.take (j+1))=ps.take j++[pr]:=by rw [List.take_add_one,p1];rfl
   refine (jA rfl (⟨t,_,_,b',rfl,rfl,SqT.of p3',rfl,jA rfl (⟨pr.2,g,jQ sm p5,jQ (sg.trans sm) hgv,p7,jA rfl (?_)⟩)⟩))
   by_cases hd:pr.2=g
   ·rw [decide_eq_true hd]
    refine j9 (jA rfl (yI hbp sm hY hle (by omega) (Same.refl _) ?_))
    show PairsAt _ _ ((ps.take (j+1)).filter fun z=>decide (z.2=g))
    rw [ht,List.filter_append,List.filter_cons,if_pos (decide_eq_true hd)]
    have tk:∀a l,Hk a=some (.tup l)→jC Hk bp (.lst (vs++[.ref t])) a=some (.tup l):=fun a l e=>by rw [jH fun z=>by subst z;rw [hY] at e;cases e];exact e
    exact eO (z9 tk hRp) (tk _ _ p3') ((GV.keep tk _).1 _ (jQ sm p4)) ((GV.keep tk _).1 _ (jQ sm p5)) p6 p7
   ·rw [decide_eq_false hd]
    refine kE (JB sm hY hle (Same.refl _) ?_)
    show PairsAt _ _ ((ps.take (j+1)).filter fun z=>decide (z.2=g))
    rw [ht,List.filter_append,List.filter_cons,if_neg (by simpa using hd)]
    simpa using hRp
  rintro vs Hp2 sp2 hbp2 hlep hRp
  rw [hql,List.take_length] at hRp
  have sP:=sG.trans sp2
  have hrs2:=sp2 _ _ (sg _ _ hrs)
  obtain ⟨px,hpx,hpg⟩:∃p∈ps,p.2=g:=by
   have:=of_decide_eq_true hwm.2
   rcases ZX _ [] this with h|⟨k,hk,p,hp,e⟩
   ·cases h
   ·rw [List.mem_singleton.mp hk] at hp
    unfold vS at hp
    rw [hps] at hp
    exact ⟨p,hp,e.symm⟩
  have hvpos:0<vs.length:=by
   rw [hRp.1]
   exact List.length_pos_of_mem (List.mem_filter.mpr ⟨hpx,decide_eq_true hpg⟩)
  obtain ⟨nv,hnv⟩:∃nv,vs.length=nv+1:=⟨vs.length - 1,by omega⟩
  obtain ⟨vl,hvl⟩:∃vl,vs[nv]?=some vl:=⟨_,List.getElem?_eq_getElem (by omega)⟩
  obtain ⟨pr,t,b,b',p1,rfl,p3,p4,p5,p6,p7⟩:=hRp.2 nv vl hvl
  refine (jA rfl (⟨.inl ⟨rfl,_,SqL.of hrs2⟩,jA rfl (jA rfl (⟨bp,vs,_,.ref t,rfl,rfl,SqL.of hbp2,atI_last hnv hvl,t,_,_,b,rfl,rfl,SqT.of p3,rfl,rr,rs,b,rfl,rfl,hrs2,vG (by omega),?_⟩))⟩))
  have tk:∀a l,Hp2 a=some (.tup l)→jC Hp2 rr (.lst (rs++[b])) a=some (.tup l):=fun a l e=>by rw [jH fun z=>by subst z;rw [hrs2] at e;cases e];exact e
  have nbr:bw≠rr:=fun z=>by subst z;rw [hrs] at hbw;cases hbw
  have hbw2:jC Hp2 rr (.lst (rs++[b])) bw=some (.lst us):=by rw [jH nbr];exact sp2 _ _ hbg
  have hrn:H rr=none:=vW s1 hrr
  refine (jA rfl (jA rfl (⟨bw,us,_,wl,rfl,rfl,SqL.of hbw2,atI_last hnu hwl,?_⟩)))
  refine ⟨wl,kw,_,ds++[pr.1],_,_,jA rfl (⟨qI hrn sP,jG,((hds.same sg).same sp2).snoc (fun _ _ e=>tk _ _ e) p4 p6,by rw [List.length_append,hrl];rfl,(GV.keep tk _).1 _ (jQ sp2 hgw),hw8,?_⟩)⟩
  rw [show N - (i+1)=jj by omega]
  exact hwm.1
 rintro σ Hi ⟨gv,g,rs,ds,c7,c8,c9,rfl,s,hrs,hds,hrl,hgv,hg8,hgm⟩
 have hrn:H rr=none:=vW s1 hrr
 refine (jA rfl (⟨.inl ⟨rfl,_,SqL.of hrs⟩,rr,rs,rfl,rfl,hrs,?_⟩))
 refine (jA rfl (q rr rs.reverse ds.reverse _ (qI hrn s) jG ?_ (by rw [List.length_reverse];omega)))
 exact (xP hds).keep fun a l e=>by rw [jH fun z=>by subst z;rw [hrs] at e;cases e];exact e
theorem bQ:FnScope ["_law_row_here","_law_cell","_law_table_here","_law_first","_law_mode","_law_way","_law_come"] ["_law_row_here","_law_cell","_law_table_here","_law_first","_law_mode"] (jF QU):=⟨rfl,rfl,rfl,by decide +kernel,rfl,by decide +kernel,by decide +kernel⟩
theorem rT {f:Addr} {fd:FuncData} (F:Fun K "_law_spoiled_row" "_law_spoiled_row" QU f fd) (T:Txt K mg) (D__law_deed:Def P w K mg base 2 "_law_deed" ["_law_mode","_law_j"] [] (fY)) (D__law_walked:Def P w K mg base 4 "_law_walked" ["_law_table_here","_law_state","_law_row_here"] [] (fD w K)):FnOk P w K mg base kC 5 f fd ["_law_row_here","_law_cell","_law_table_here","_law_first","_law_mode"] (iQ w):=by
 refine F.ok bQ (fun vs H Q E h=>?_) (fun cdv A outer s H vs Q E hr h=>?_)
 ·obtain ⟨rl,c,dT,y,m,T0,ls,n,k0,xs,ks,rfl,hm,hT,hO,hy,hk0,hrl,hks,h23,q⟩:=h
  rfl
 obtain ⟨rl,c,dT,y,m,T0,ls,n,k0,xs,ks,rfl,hm,hT,hO,hy,hk0,hrl,hks,h23,q⟩:=h
 have hu:_<cLine:=hr.units0
 have hu1:=qB hr
 have hu9:=qT hr
 have hu10:=qR hr
 refine ⟨_,(@jJ _ _ _ _ _ (jV (i:=0) bQ.nd rfl (by first|exact Or.inl rfl|exact Or.inr rfl) (JT eH (by rfl) T.z_list PyProof.Rows.boot_list (jB (pv 0) jD)))
   (@jJ _ _ _ _ _ (jV (i:=5) bQ.nd rfl (by first|exact Or.inl rfl|exact Or.inr rfl) (@jL _ _ _ _ _ _ _ _ qF (pv 1) jE))
   (qG (j8 (PW.pt (bA (j5 kJ (pv 5) jE (jW _)) (Z7 (j5 dO (kW qA (by rfl) T.z_len PySem.boot_len (jB (pv 0) jD)) jE (jW _))))) (@jI _ _ _ (qW (vI PySem.F.plainAttrs_list PySem.F.slot_list_pop PySem.F.type_list_pop cI (pv 0) (jB (@jL _ _ _ _ _ _ _ _ qF (@jL _ _ _ _ _ _ _ _ yC (pv 1) jE) (kW qA (by rfl) T.z_len PySem.boot_len (jB (pv 0) jD))) jD)))) j7)
   (qG (j8 (PW.pt (bA (j5 kJ (pv 5) jE (jW _)) (Z7 (j5 dO (kW qA (by rfl) T.z_len PySem.boot_len (jB (pv 0) jD)) jE (jW _))))) (@jI _ _ _ (qW (vI PySem.F.plainAttrs_list PySem.F.slot_list_append PySem.F.type_list_append zG (pv 0) (jB (j4 kG (pv 0) (yW yT jE) (fun _ _=>rfl)) jD)))) j7)
   (qG (j8 (PW.pt (bA (j5 kJ (pv 5) jE (jW _)) (Z7 (j5 dO (kW qA (by rfl) T.z_len PySem.boot_len (jB (pv 0) jD)) jE (jW _))))) (@jI _ _ _ (oV (kA D__law_deed hr rfl (jB (pv 4) (jB (@jL _ _ _ _ _ _ _ _ qF (@jL _ _ _ _ _ _ _ _ yC (pv 1) jE) (@jL _ _ _ _ _ _ _ _ vR (kW qA (by rfl) T.z_len PySem.boot_len (jB (vV hu9 (pv 2) (pv 3) (fun _ _=>rfl)) jD)) jE)) jD))) (oX (pv 0) jE lV))) j7)
   (qG (j8 (j5 kJ (pv 5) jE (jW _)) (@jJ _ _ _ _ _ (jV (i:=6) bQ.nd rfl (by first|exact Or.inl rfl|exact Or.inr rfl) (kA D__law_walked hr rfl (@jB _ _ _ _ _ (pv 2) (@jB _ _ _ _ _ (pv 3) (@jB _ _ _ _ _ (pv 0) jD (by rfl)) (by rfl)) (by rfl))))
   (@jI _ _ _ (j8 (PW.pt (bA (j5 nL (pv 6) fZ (jW _)) (Z7 (j5 dO (kW qA (by rfl) T.z_len PySem.boot_len (jB (vV hu9 (pv 2) (j4 kG (pv 6) jE (fun _ _=>rfl)) (fun _ _=>rfl)) jD)) jE (jW _))))) (@jI _ _ _ (qW (vI PySem.F.plainAttrs_list PySem.F.slot_list_append PySem.F.type_list_append zG (pv 0) (jB (j4 ZK (j4 kG (vV hu9 (pv 2) (j4 kG (pv 6) jE (fun _ _=>rfl)) (fun _ _=>rfl)) (@jL _ _ _ _ _ _ _ _ qF (@jL _ _ _ _ _ _ _ _ yC (pv 1) jE) (kW qA (by rfl) T.z_len PySem.boot_len (jB (vV hu9 (pv 2) (j4 kG (pv 6) jE (fun _ _=>rfl)) (fun _ _=>rfl)) jD))) (fun _ _=>rfl)) jE (fun _ _=>rfl)) jD)))) j7))) j7)
   (@jI _ _ _ (@j0 _ _ _ _ (pv 0))))))))),?_⟩
 obtain ⟨ps0,hps0⟩:=Option.isSome_iff_exists.mp hk0
 refine (jA rfl (⟨rl,xs,rfl,.inl (SqL.of hrl),fun r0 hr0=>?_⟩))
 have u0:=jP hr0 (.lst xs)
 refine (jA rfl (jZ (⟨(show (0:Int)<5 by decide),?_⟩)))
 have st:∃(r:Addr) (us:List V) (cs:List GK) (c6:Option V),r=r0∧us=xs∧cs=ks∧c6=none:=⟨_,_,_,_,rfl,rfl,rfl,rfl⟩
 obtain ⟨r,us,cs,c6,er,eu,ec,e6⟩:=st
 have s:Same H (jC H r0 (.lst xs)):=u0
 have hn:H r=none:=by rw [er];exact hr0
 have hr:jC H r0 (.lst xs) r=some (.lst us):=by rw [er,eu];exact jG
 have hk:KeysAt (jC H r0 (.lst xs)) us cs:=by rw [eu,ec];exact hks.same u0
 have hu:us.length≤23:=by rw [eu];exact h23
 subst er e6
 clear eu ec hks hrl h23
 generalize jC H r (.lst xs)=Hi at s hr hk ⊢
 clear hr0 u0
 refine ⟨(fun σ Hi=>∃(r:Addr) (us:List V) (cs:List GK) (c6:Option V),σ=[some (.ref r),some (.int c),some (.ref dT),some y,some (.int m),some (.int (c%5)),c6]∧Same H Hi∧H r=none∧Hi r=some (.lst us)∧KeysAt Hi us cs∧us.length≤23),⟨_,rfl,rfl,jA rfl (kI (fun cw=>(jA rfl (⟨r,us,rfl,.inl (SqL.of hr),_,_,rfl,rfl,jA rfl (kI (fun cl=>?_) (fun _=>(v6 r us cs none (an6 rfl s hn hr hk (by omega)))))⟩))) (fun _=>kE (v6 r us cs none (an6 rfl s hn hr hk (by omega)))))⟩,?_⟩
 ·have hl:0<us.length:=by have:=of_decide_eq_true cl;omega
  obtain ⟨j,ej,hj⟩:=vZ (a:=c / 5) (b:=(us.length:Int)) (by omega)
  obtain ⟨v,hv⟩:∃v,us[j]?=some v:=⟨_,List.getElem?_eq_getElem (by omega)⟩
  refine (jA rfl (⟨.inl ⟨rfl,_,SqL.of hr⟩,jA rfl (jZ (⟨⟨by decide,by decide⟩,jA rfl (⟨r,us,rfl,.inl (SqL.of hr),_,_,rfl,rfl,(show (0:Int)<_ by omega),JO r us (j:Int) j v (an8 rfl (congrArg (fun z=>[V.int z]) ej) hr (by omega) (by omega) ((ZF (ZG (by omega))).1) hv (?_))⟩)⟩))⟩))
  exact (v6 r _ _ none (an6 rfl (qI hn s) hn jG ((hk.erase j).keep (J7 hr _)) (by rw [List.length_eraseIdx];split<;>omega)))
 rintro σ Hi ⟨r,us,cs,c6,rfl,s,hn,hr,hk,hu⟩
 refine ⟨(fun σ Hi=>∃(r:Addr) (us:List V) (cs:List GK) (c6:Option V),σ=[some (.ref r),some (.int c),some (.ref dT),some y,some (.int m),some (.int (c%5)),c6]∧Same H Hi∧H r=none∧Hi r=some (.lst us)∧KeysAt Hi us cs∧us.length≤24),⟨_,rfl,rfl,jA rfl (kI (fun cw=>(jA rfl (⟨r,us,rfl,.inl (SqL.of hr),_,_,rfl,rfl,jA rfl (kI (fun cl=>?_) (fun _=>(v6 r us cs c6 (an6 rfl s hn hr hk (by omega)))))⟩))) (fun _=>kE (v6 r us cs c6 (an6 rfl s hn hr hk (by omega)))))⟩,?_⟩
 ·have hl:0<us.length:=by have:=of_decide_eq_true cl;omega
  obtain ⟨nu,hnu⟩:∃nu,us.length=nu+1:=⟨us.length - 1,by omega⟩
  obtain ⟨v,hv⟩:∃v,us[nu]?=some v:=⟨_,List.getElem?_eq_getElem (by omega)⟩
  obtain ⟨kv,hkv,hgv,hv8⟩:=hk.2 nu v hv
  refine (jA rfl (⟨.inl ⟨rfl,_,SqL.of hr⟩,jA rfl (jA rfl (⟨r,us,_,v,rfl,rfl,SqL.of hr,atI_last hnu hv,r,us,v,rfl,rfl,hr,vG (by omega),?_⟩))⟩))
  exact (v6 r _ _ c6 (an6 rfl (qI hn s) hn jG (hk.snoc (J7 hr _) hgv hv8) (by rw [List.length_append,List.length_singleton];omega)))
 rintro σ Hi ⟨r,us,cs,c6,rfl,s,hn,hr,hk,hu⟩
 refine ⟨(fun σ Hi=>∃(r:Addr) (us:List V) (cs:List GK) (c6:Option V),σ=[some (.ref r),some (.int c),some (.ref dT),some y,some (.int m),some (.int (c%5)),c6]∧Same H Hi∧H r=none∧Hi r=some (.lst us)∧KeysAt Hi us cs∧us.length≤24),⟨_,rfl,rfl,jA rfl (kI (fun cw=>(jA rfl (⟨r,us,rfl,.inl (SqL.of hr),_,_,rfl,rfl,jA rfl (kI (fun cl=>?_) (fun _=>(v6 r us cs c6 (an6 rfl s hn hr hk (by omega)))))⟩))) (fun _=>kE (v6 r us cs c6 (an6 rfl s hn hr hk (by omega)))))⟩,?_⟩
 ·have hl:0<us.length:=by have:=of_decide_eq_true cl;omega
  obtain ⟨kvs,t1,t2,t3,t4⟩:=(hT.same s).ex
  obtain ⟨l,qs,g1,g2,g3⟩:=t4 k0 ps0 hps0
  have hrow:=(hO.row k0 ps0 hps0).1
  have hql:=g3.1
  obtain ⟨j,ej,hj⟩:=vZ (a:=c / 5) (b:=(qs.length:Int)+1) (by omega)
  refine (jA rfl (jA rfl (jZ (⟨⟨by decide,by decide⟩,jA rfl (jA rfl (⟨dT,kvs,k0,jA rfl (⟨t1,t2,jQ s hy,hT.deep k0 ps0 hps0,g1,l,qs,rfl,.inl (SqL.of g2),_,_,rfl,rfl,_,_,rfl,rfl,(show (0:Int)<_ by omega),m,j,congrArg (fun z=>[V.int m,V.int z]) ej,hm,by omega,fun v H2 s2 hgv=>?_⟩)⟩))⟩))))
  have hr2:=s2 _ _ hr
  refine (jA rfl (⟨r,us,_,0,rfl,rfl,hr2,ZG (s:=0) hl,?_⟩))
  exact (v6 r _ _ c6 (an6 rfl (qI hn (s.trans s2)) hn jG ((wJ (hk.same s2) hgv (iK m j)).keep (J7 hr2 _)) (by rw [List.length_set];exact hu)))
 rintro σ Hi ⟨r,us,cs,c6,rfl,s,hn,hr,hk,hu⟩
 refine ⟨(fun σ Hi=>∃(r:Addr) (us:List V) (cs:List GK) (c6:Option V),σ=[some (.ref r),some (.int c),some (.ref dT),some y,some (.int m),some (.int (c%5)),c6]∧Same H Hi∧H r=none∧Hi r=some (.lst us)∧KeysAt Hi us cs∧us.length≤25),⟨_,rfl,rfl,jA rfl (kI (fun cw=>?_) (fun _=>(v6 r us cs c6 (an6 rfl s hn hr hk (by omega)))))⟩,?_⟩
 ·refine (jA rfl (jA rfl (jA rfl ((gM dT r y T0 ls m n k0 us cs (an9 rfl (hT.same s) hO (jQ s hy) hk0 hr hk (fun hw H2 s2=>?_) (fun k' y' p H2 hw hk' hgy hp s2=>?_)))))))
  ·exact ⟨_,rfl,rfl,jA rfl (pH rfl (kE ⟨r,us,cs,jA rfl (⟨s.trans s2,hn,s2 _ _ hr,hk.same s2,by omega⟩)⟩))⟩
  obtain ⟨ps,hps⟩:=Option.isSome_iff_exists.mp hk'
  obtain ⟨kvs,t1,t2,t3,t4⟩:=(hT.same (s.trans s2)).ex
  obtain ⟨l,qs,g1,g2,g3⟩:=t4 k' ps hps
  have hdp:=hT.deep k' ps hps
  have hrow:=(hO.row k' ps hps).1
  have hql:=g3.1
  have hr2:=s2 _ _ hr
  refine ⟨_,rfl,rfl,jA rfl (pG (fun z=>by cases z) (jA rfl (jA rfl (⟨p,_,0,y',rfl,rfl,SqL.of hp,kK (j:=0) rfl,dT,kvs,k',jA rfl (⟨t1,t2,hgy,hdp,g1,l,qs,rfl,.inl (SqL.of g2),_,_,rfl,rfl,jA rfl (kI (fun cl=>?_) (fun _=>⟨r,us,cs,jA rfl (⟨s.trans s2,hn,hr2,hk.same s2,by omega⟩)⟩))⟩)⟩))))⟩
  have hl:0<qs.length:=by have:=of_decide_eq_true cl;omega
  obtain ⟨j,ej,hj⟩:=vZ (a:=c / 5) (b:=(qs.length:Int)) (by omega)
  obtain ⟨v,hv⟩:∃v,qs[j]?=some v:=⟨_,List.getElem?_eq_getElem (by omega)⟩
  obtain ⟨pr,t,b,b',p1,rfl,p3,p4,p5,p6,p7⟩:=g3.2 j v hv
  refine (jA rfl (⟨.inl ⟨rfl,_,SqL.of hr2⟩,jA rfl (jA rfl (⟨p,_,0,y',rfl,rfl,SqL.of hp,kK (j:=0) rfl,dT,kvs,k',jA rfl (⟨t1,t2,hgy,hdp,g1,jA rfl (jZ (⟨⟨by decide,by decide⟩,jA rfl (jA rfl (⟨p,_,0,y',rfl,rfl,SqL.of hp,kK (j:=0) rfl,dT,kvs,k',jA rfl (⟨t1,t2,hgy,hdp,g1,l,qs,rfl,.inl (SqL.of g2),_,_,rfl,rfl,(show (0:Int)<_ by omega),l,qs,(j:Int),.ref t,rfl,congrArg V.int ej,SqL.of g2,kK hv,t,_,_,b,rfl,rfl,SqT.of p3,rfl,r,us,b,rfl,rfl,hr2,vG (by omega),?_⟩)⟩))⟩))⟩)⟩))⟩))
  exact ⟨r,_,_,jA rfl (⟨qI hn (s.trans s2),hn,jG,(hk.same s2).snoc (J7 hr2 _) p4 p6,by rw [List.length_append,List.length_singleton];omega⟩)⟩
 rintro σ Hi ⟨r,us,cs,c6,rfl,s,hn,hr,hk,hu⟩
 exact (jA rfl (q r us cs Hi s hr hk hu hn))
theorem z6:FnScope ["_law_first","_law_table_here","_law_marks_here","_law_row_here","_law_layers_here","_law_every","_law_layer","_law_beyond","_law_closed","_law_come","_law_found"] ["_law_first","_law_table_here","_law_marks_here","_law_row_here","_law_layers_here"] (jF JV):=⟨rfl,rfl,rfl,by decide +kernel,rfl,by decide +kernel,by decide +kernel⟩
theorem rJ {f:Addr} {fd:FuncData} (F:Fun K "_law_due" "_law_due" JV f fd) (T:Txt K mg) (D__law_hold:Def P w K mg base 4 "_law_hold" ["_law_first","_law_table_here","_law_layers_here"] [] (oR w)) (D__law_behind:Def P w K mg base 2 "_law_behind" ["_law_layer","_law_table_here"] [] (Z2 w)) (D__law_unended:Def P w K mg base 1 "_law_unended" ["_law_layers_here","_law_marks_here"] [] (iO w)) (D__law_walked:Def P w K mg base 4 "_law_walked" ["_law_table_here","_law_state","_law_row_here"] [] (fD w K)):FnOk P w K mg base kC 6 f fd ["_law_first","_law_table_here","_law_marks_here","_law_row_here","_law_layers_here"] (m9 w):=by
  refine F.ok z6 (fun vs H Q E h=>?_) (fun cdv A outer s H vs Q E hr h=>?_)
  · obtain ⟨y,dT,dM,rl,ll,T0,ls,M,m,n,k0,us,ks,LL,rfl,hT,hO,hn,hM,hy,h8,hk0,hrl,hks,h25,hL,hdom,h50,h3000,q⟩:=h
    rfl
  obtain ⟨y,dT,dM,rl,ll,T0,ls,M,m,n,k0,us,ks,LL,rfl,hT,hO,hn,hM,hy,h8,hk0,hrl,hks,h25,hL,hdom,h50,h3000,q⟩:=h
  have hu:_<cLine:=hr.units0
  have hu1:=qB hr
  have hu9:=qT hr
  have hu10:=qR hr
  refine ⟨_,(@jJ _ _ _ _ _ (j8 (zJ (yU (kA D__law_hold hr rfl (@jB _ _ _ _ _ (pv 0) (@jB _ _ _ _ _ (pv 1) (@jB _ _ _ _ _ (pv 4) jD (by rfl)) (by rfl)) (by rfl))))) (@jI _ _ _ (@j0 _ _ _ _ (kZ (jB kY (jB kY jD))))) j7)
      (@jJ _ _ _ _ _ (jV (i:=5) z6.nd rfl (by first|exact Or.inl rfl|exact Or.inr rfl) (kZ jD))
      (@jJ _ _ _ _ _ (qE PassesOwn.never rfl (kO (pv 4)) (kD (i:=6) z6.nd rfl (by first|exact Or.inl rfl|exact Or.inr rfl))
        (@jI _ _ _ (jV (i:=5) z6.nd rfl (by first|exact Or.inl rfl|exact Or.inr rfl) (@jL _ _ _ _ _ _ _ _ ZI (pv 5) (pv 6)))))
      (@jJ _ _ _ _ _ (yR (i:=7) ["_law_state","_law_every"] (vA 1 [5]) z6.nd rfl (by first|exact Or.inl rfl|exact Or.inr rfl) rfl (vN (jF JV) rfl rfl (by decide +kernel) (by decide +kernel) (by decide +kernel)) (vO 1 [5] rfl rfl (by decide +kernel)) (kO (kA D__law_behind hr rfl (jB (j4 kG (pv 4) (yW yT jE) (fun _ _=>rfl)) (jB (pv 1) jD)))) (fun _ _ _ _ _=>(kD (i:=0) (show List.Nodup (["_law_state","_law_every"]:List Str) from by decide +kernel) rfl (by first|exact Or.inl rfl|exact Or.inr rfl))) (fun _ _ _ _ _=>(zU (j5 (t7 K hu10) (pv 0) (pv 1) (by with_unfolding_all rfl)))) (fun _ _ _ _ _=>(pv 0)))
      (qG (jV (i:=8) z6.nd rfl (by first|exact Or.inl rfl|exact Or.inr rfl) (y9 (yB kJ (kW qA (by rfl) T.z_len PySem.boot_len (jB (pv 7) jD)) jE (jW _)) (y8 (kA D__law_unended hr rfl (jB (pv 4) (jB (pv 2) jD))))))
      (qG (jV (i:=9) z6.nd rfl (by first|exact Or.inl rfl|exact Or.inr rfl) (kA D__law_walked hr rfl (@jB _ _ _ _ _ (pv 1) (@jB _ _ _ _ _ (pv 0) (@jB _ _ _ _ _ (pv 3) jD (by rfl)) (by rfl)) (by rfl))))
      (qG (jV (i:=10) z6.nd rfl (by first|exact Or.inl rfl|exact Or.inr rfl) (y9 (yB nL (pv 9) fZ (jW _)) (y9 (vV hu9 (pv 2) (j4 kG (pv 9) jE (fun _ _=>rfl)) (fun _ _=>rfl)) (y8 (yB kJ (kW qA (by rfl) T.z_len PySem.boot_len (jB (pv 3) jD)) (@jL _ _ _ _ _ _ _ _ zA (kW qA (by rfl) T.z_len PySem.boot_len (jB (pv 4) jD)) jE) (jW _))))))
      (@jI _ _ _ (@j0 _ _ _ _ (kZ (jB (pv 8) (jB (y9 (pv 10) (y8 (kA D__law_unended hr rfl (jB (JD JG (pv 4) zI (zR (yW yT jE))) (jB (pv 2) jD))))) jD)))))))))))),?_⟩
  refine (jA rfl (jA rfl (jA rfl ((gM y dT ll T0 ls m n 100 k0 LL (an11 rfl hT hO hn hy h8 hL hdom h50 h3000 (fun H1 s1=>(jA rfl (?_)))))))))
  cases hI:ZO T0 k0 LL with
  |false =>
    have e1:y7 (kR T0) k0 M LL=false:=by unfold y7;rw [dE,hI];rfl
    have e2:yJ (kR T0) k0 M LL ks=false:=by unfold yJ;rw [dE,hI];rfl
    rw [e1,e2] at q
    exact j9 ⟨kT (by show 2≤1000;decide),fun p hp=>q p _ (s1.trans (jP hp _)) jG⟩
  |true =>
  obtain ⟨xs,f1,f2,f3⟩:=hL.ex
  have hnE:LL≠[]:=fun z=>by rw [z] at hI;cases hI
  obtain ⟨nl,hnl⟩:∃nl,LL.length=nl+1:=⟨LL.length - 1,by have:=List.length_pos_iff.mpr hnE;omega⟩
  obtain ⟨v1,hv1⟩:∃v,xs[nl]?=some v:=⟨_,List.getElem?_eq_getElem (by omega)⟩
  obtain ⟨a1,ys1,lay1,rfl,hn1,hl1,ha1,hk1⟩:=f3 nl v1 hv1
  have hlast:LL.getLast?.getD []=lay1:=by rw [List.getLast?_eq_getElem?,hnl,Nat.add_sub_cancel,hl1];rfl
  have hd1:∀k∈lay1,(jN T0 k).isSome=true:=fun k hk=>hdom k (List.mem_flatten.mpr ⟨_,List.mem_of_getElem? hl1,hk⟩)
  have hcat:∀(i:Nat) lay,LL[i]?=some lay→(LL.take (i+1)).flatten=(LL.take i).flatten++lay:=fun i lay h=>by rw [List.take_add_one,h,List.flatten_append];simp
  have hdr:∀(i:Nat) lay,LL[i]?=some lay→LL.drop i=lay::LL.drop (i+1):=fun i lay h=>by
    obtain ⟨h1,h2⟩:=List.getElem?_eq_some_iff.mp h
    rw [List.drop_eq_getElem_cons h1,h2]
  have hle:∀(i:Nat) lay,LL[i]?=some lay→((LL.take i).flatten++lay).length≤LL.flatten.length:=fun i lay h=>by
    rw [← hcat i lay h]
    conv=>rhs;rw [← List.take_append_drop (i+1) LL]
    rw [List.flatten_append,List.length_append]
    omega
  refine kE ⟨Nat.zero_le _,fun ev0 hev0=>?_⟩
  have s2:=s1.trans (jP hev0 (.lst []))
  refine (jA rfl (⟨ll,rfl,⟨_,SqL.of (s2 _ _ f1)⟩,?_⟩))
  refine qX (K:=K) (a:=ll) (xs:=xs) (fun i σ Hi=>∃(ev:Addr) (es:List V) (c6:Option V),σ=[some y,some (.ref dT),some (.ref dM),some (.ref rl),some (.ref ll),some (.ref ev),c6,none,none,none,none]∧Same H Hi∧Hi ev=some (.lst es)∧KeysAt Hi es (LL.take i).flatten) ⟨ev0,[],none,rfl,s2,jG,rfl,fun i x e=>by cases e⟩ (fun i σ Hi _ ⟨_,_,_,_,s,_⟩=>SqL.of (s _ _ f1)) ?_ ?_
  · rintro i x σ Hi hx ⟨ev,es,c6,rfl,s,hev,hes⟩
    obtain ⟨a,ys,lay,rfl,hna,hlay,ha,hk⟩:=f3 i x hx
    have hle1:=hle i lay hlay
    refine (jA rfl (jA rfl (⟨ev,a,es,ys,rfl,rfl,hev,s _ _ ha,Nat.le_of_lt (zW (by have h1:=hes.1;have h2:=hk.1;rw [List.length_append] at hle1;omega)),fun p hp=>?_⟩)))
    refine ⟨p,_,jA rfl (⟨s.trans (jP hp _),jG,?_⟩)⟩
    rw [hcat i lay hlay]
    exact (Z4 hes (hk.same s)).same (jP hp _)
  rintro σ H3 ⟨ev,es,c6,rfl,s3,hev,hes⟩
  rw [f2,List.take_length] at hes
  refine (jA rfl (jA rfl (⟨ll,xs,_,.ref a1,rfl,rfl,SqL.of (s3 _ _ f1),atI_last (by rw [f2,hnl]) hv1,jA rfl (⟨a1,dT,T0,ls,m,n,100,ys1,lay1,rfl,hT.same s3,hO,hn,s3 _ _ ha1,hk1.same s3,hd1,fun rb zs H4 s4 hrb0 hrb hkb=>⟨rb,rfl,⟨_,SqL.of hrb⟩,fun bt hbt=>?_⟩⟩)⟩)))
  have hz1000:zs.length≤1000:=by
    rw [hkb.1]
    refine Nat.le_trans (JA hO ?_ fun x hx=>eZ hT.shut hx) hn
    have:=bT (T:=T0) (met:=[]) lay1 [] List.nodup_nil
    exact this
  refine yH (K:=K) (a:=rb) (xs:=zs) (caps:=[some (.ref ev)]) (fun j ws Hk=>KeysAt Hk ws (((kH T0 [] [] lay1).take j).filter fun k => !decide (k∈LL.flatten))) hbt (SqL.of hrb) ⟨rfl,fun i x e=>by cases e⟩ ?_ ?_
  · rintro j x ws Hk hx hj hle sm hY hR
    obtain ⟨kj,hkj,hgj,h8j⟩:=hkb.2 j x hx
    have ht:((kH T0 [] [] lay1).take (j+1))=(kH T0 [] [] lay1).take j++[kj]:=by rw [List.take_add_one,hkj];rfl
    refine (jA rfl (jA rfl (⟨ev,es,kj,jA rfl (⟨SqL.of (sm _ _ (s4 _ _ hev)),jQ sm hgj,h8j,(hes.same s4).same sm,jA rfl (?_)⟩)⟩)))
    by_cases hin:kj∈LL.flatten
    · rw [decide_eq_true hin]
      refine kE (JB sm hY hle (Same.refl _) ?_)
      show KeysAt _ _ (((kH T0 [] [] lay1).take (j+1)).filter fun k => !decide (k∈LL.flatten))
      rw [ht,List.filter_append,List.filter_cons,if_neg (by simpa using hin)]
      simpa using hR
    · rw [decide_eq_false hin]
      refine j9 (jA rfl (yI hbt sm hY hle (by omega) (Same.refl _) ?_))
      show KeysAt _ _ (((kH T0 [] [] lay1).take (j+1)).filter fun k => !decide (k∈LL.flatten))
      rw [ht,List.filter_append,List.filter_cons,if_pos (by simpa using hin)]
      exact hR.snoc (k:=kj) (fun a l e=>by rw [jH fun z=>by subst z;rw [hY] at e;cases e];exact e) (jQ sm hgj) h8j
  rintro ws H5 s5 hb5 hle5 hR
  rw [hkb.1,List.take_length] at hR
  have s35:=(s3.trans s4).trans s5
  have eC:y7 (kR T0) k0 M LL=(decide (ws.length=0) && !LL.flatten.any M):=by
    unfold y7
    rw [dE,hI,hlast,Bool.true_and]
    congr 1
    rw [Bool.eq_iff_iff,List.isEmpty_iff,decide_eq_true_eq,hR.1,List.length_eq_zero_iff,List.filter_eq_nil_iff,List.filter_eq_nil_iff]
    constructor
    · intro h k hk
      have:=h k (metG_mem.mpr (suc_iff.mpr hk))
      rw [decide_eq_true_eq,metG_mem] at this
      simpa using this
    · intro h k hk
      have:=h k (suc_iff.mp (metG_mem.mp hk))
      rw [decide_eq_true_eq,metG_mem]
      simpa using this
  rw [eC] at q
  refine ⟨fun σ Hj=>∃(c6 c7:Option V),σ=[some y,some (.ref dT),some (.ref dM),some (.ref rl),some (.ref ll),some (.ref ev),c6,c7,some (.bl (decide (ws.length=0) && !LL.flatten.any M)),none,none]∧Same H Hj,?_,?_⟩
  · refine (jA rfl (⟨bt,ws,rfl,.inl (SqL.of hb5),rfl,jA rfl (?_)⟩))
    by_cases hz:ws.length=0
    · rw [decide_eq_true (show V.int ((ws.length:Nat):Int)=V.int 0 from congrArg V.int (by omega)),decide_eq_true hz]
      refine j9 (jA rfl (jA rfl ((JO ll dM LL T0 M (an5 rfl (hL.same s35) (hM.same s35) hdom (fun H6 s6=>⟨_,jA rfl (s35.trans s6)⟩))))))
    · rw [decide_eq_false (fun z=>hz (by injection z with z;omega)),decide_eq_false hz]
      exact kE ⟨_,jA rfl (s35)⟩
  rintro σ H6 ⟨c6',c7,rfl,s6⟩
  refine ⟨fun σ Hj=>∃(cv:V),σ=[some y,some (.ref dT),some (.ref dM),some (.ref rl),some (.ref ll),some (.ref ev),c6',c7,some (.bl (decide (ws.length=0) && !LL.flatten.any M)),some cv,none]∧Same H Hj∧C0 Hj T0 k0 ks cv,?_,?_⟩
  · exact (jA rfl (jA rfl (jA rfl ((gM dT rl y T0 ls m n k0 us ks (an9 rfl (hT.same s6) hO (jQ s6 hy) hk0 (s6 _ _ hrl) (hks.same s6) (fun hw H2 sw=>(jA rfl (⟨s6.trans sw,.inl ⟨hw,rfl⟩⟩))) (fun k' y' p H2 hw hk' hgy hp sw=>(jA rfl (⟨s6.trans sw,.inr ⟨k',y',p,hw,hk',hgy,hp,rfl⟩⟩)))))))))
  rintro σ H7 ⟨cv,rfl,s7,hcv⟩
  obtain ⟨bF,hbF⟩:∃bF,bF=(JJ (kR T0) M k0 ks&&decide (ks.length+1=LL.length)):=⟨_,rfl⟩
  have eF:yJ (kR T0) k0 M LL ks=(bF && !LL.dropLast.flatten.any M):=by unfold yJ;rw [dE,hI,hbF];rfl
  rw [eF] at q
  refine ⟨fun σ Hj=>σ=[some y,some (.ref dT),some (.ref dM),some (.ref rl),some (.ref ll),some (.ref ev),c6',c7,some (.bl (decide (ws.length=0) && !LL.flatten.any M)),some cv,some (.bl bF)]∧Hj=H7,?_,?_⟩
  · rcases hcv with ⟨hw,rfl⟩|⟨k',y',p,hw,hs,hg,hp,rfl⟩
    · have e0:bF=false:=by rw [hbF];unfold JJ;rw [lN,hw];rfl
      rw [e0]
      exact ⟨_,rfl,rfl,jA rfl (pH rfl ⟨rfl,rfl⟩)⟩
    · obtain ⟨kvs,e1,g,e3⟩:=(hM.same s7).ex
      obtain ⟨ps',hps'⟩:=Option.isSome_iff_exists.mp hs
      refine ⟨_,rfl,rfl,jA rfl (pG (fun z=>by cases z) (jA rfl (jA rfl (⟨p,_,0,y',rfl,rfl,SqL.of hp,kK (j:=0) rfl,dM,kvs,k',jA rfl (⟨.of e1,g,hg,hT.deep k' ps' hps',e3 k' hs,jA rfl (?_)⟩)⟩))))⟩
      have e0:bF=(M k'&&decide (ks.length+1=LL.length)):=by rw [hbF];unfold JJ;rw [lN,hw]
      have hru:=hks.1
      cases hMk:M k' with
      |false =>
        rw [hMk] at e0
        rw [e0]
        exact kE ⟨rfl,rfl⟩
      |true =>
        rw [hMk,Bool.true_and] at e0
        refine j9 (jA rfl (⟨rl,us,rfl,.inl (SqL.of (s7 _ _ hrl)),jA rfl (⟨ll,xs,rfl,.inl (SqL.of (s7 _ _ f1)),_,_,rfl,rfl,rfl,?_⟩)⟩))
        refine ⟨?_,rfl⟩
        rw [e0]
        by_cases hc:ks.length+1=LL.length
        · rw [decide_eq_true hc,decide_eq_true (show V.int ((us.length:Nat):Int)=V.int (((xs.length:Nat):Int) - 1) from congrArg V.int (by omega))];rfl
        · rw [decide_eq_false hc,decide_eq_false (show ¬V.int ((us.length:Nat):Int)=V.int (((xs.length:Nat):Int) - 1) from fun z=>hc (by injection z with z;omega))];rfl
  rintro σ H8 ⟨rfl,rfl⟩
  refine (jA rfl (jA rfl (jA rfl (?_))))
  cases bF with
  |false=>exact kE ⟨kT (by show 2≤1000;decide),fun r hr=>q r _ (s7.trans (jP hr _)) jG⟩
  |true =>
    refine j9 (jA rfl (jA rfl (jA rfl (⟨ll,xs,rfl,SqL.of (s7 _ _ f1),fun p hp=>?_⟩))))
    have sp:=s7.trans (jP hp (.lst (kP xs none (some (-1)))))
    have ecut:kP xs none (some (-1))=xs.dropLast:=by rw [mQ,List.dropLast_eq_take]
    have hL2:LayersAt (jC H8 p (.lst (kP xs none (some (-1))))) p LL.dropLast:=⟨_,jG,by rw [ecut,List.length_dropLast,List.length_dropLast,f2],fun j x hx=>by
      rw [ecut,List.getElem?_dropLast] at hx
      split at hx
      · rename_i hj
        obtain ⟨a,ys,lay,g1,g2,g3,g4,g5⟩:=f3 j x hx
        exact ⟨a,ys,lay,g1,(fun z=>by rw [z] at g4;rw [s7 _ _ g4] at hp;cases hp),by rw [List.getElem?_dropLast,if_pos (by omega)];exact g3,sp _ _ g4,g5.same sp⟩
      · cases hx⟩
    have hsub:∀k∈LL.dropLast.flatten,k∈LL.flatten:=fun k hk=>by
      obtain ⟨l,hl,hkl⟩:=List.mem_flatten.mp hk
      exact List.mem_flatten.mpr ⟨l,(List.dropLast_sublist LL).subset hl,hkl⟩
    refine (jA rfl ((JO p dM LL.dropLast T0 M (an5 rfl hL2 (hM.same sp) (fun k hk=>hdom k (hsub k hk)) (fun H9 s9=>⟨kT (by show 2≤1000;decide),fun r hr=>q r _ ((sp.trans s9).trans (jP hr _)) jG⟩)))))
theorem qQ:FnScope ["_law_script","_law_many","_law_mode","_law_first","_law_table_here","_law_marks_here","_law_kept","_law_ahead","_law_ended","_law_layers_here","_law_whole","_law_row_here","_law_cell","_law_way","_law_deeds","_law_spoiled_here","_law_handed","_law_closed","_law_found"] ["_law_script"] (jF v9):=⟨rfl,rfl,rfl,by decide +kernel,rfl,by decide +kernel,by decide +kernel⟩
theorem r6 {f:Addr} {fd:FuncData} (F:Fun K "law" "law" v9 f fd) (T:Txt K mg) {cL tL:Addr} (hcL:fd.code=.ref cL) (hC:W.CodeHd base cL tL) (hB:base.BuiltinsAt mg tL) (hgT:PySem.mainGlobals≠tL) (D__law_cell_at:Def P w K mg base 1 "_law_cell_at" ["_law_script","_law_k"] [] (fP K)) (D__law_label:Def P w K mg base 2 "_law_label" ["_law_mode","_law_v"] [] (Z6)) (D__law_table:Def P w K mg base 6 "_law_table" ["_law_script","_law_mode","_law_many"] [] (m4 w K)) (D__law_marks:Def P w K mg base 4 "_law_marks" ["_law_cell","_law_mode","_law_many"] [] (m6 w)) (D__law_layers:Def P w K mg base 4 "_law_layers" ["_law_first","_law_table_here","_law_marks_here"] [] (iR w)) (D__law_none:Def P w K mg base 1 "_law_none" ["_law_table_here"] [] (lO w)) (D__law_row:Def P w K mg base 4 "_law_row" ["_law_layers_here","_law_table_here","_law_marks_here","_law_mode"] [] (m5 w)) (D__law_spoiled_row:Def P w K mg base 5 "_law_spoiled_row" ["_law_row_here","_law_cell","_law_table_here","_law_first","_law_mode"] [] (iQ w)) (D__law_spoiled:Def P w K mg base 1 "_law_spoiled" ["_law_layers_here","_law_cell","_law_other"] [] (iP)) (D_shows_closed:Def P w K mg base 9 "shows_closed" ["first","ahead","ended","layers"] [] (lR w (kS "law.<locals>._law_ahead" (jT jY) (jR jY) (jF jY) ["_law_state"] ["_law_table_here"] (vH w)) (kS "law.<locals>._law_ended" (jT j6) (jR j6) (jF j6) ["_law_state"] ["_law_marks_here"] (yA w)))) (D_shows_found:Def P w K mg base 9 "shows_found" ["first","ahead","ended","row","layers"] [] (m8 w (kS "law.<locals>._law_ahead" (jT jY) (jR jY) (jF jY) ["_law_state"] ["_law_table_here"] (vH w)) (kS "law.<locals>._law_ended" (jT j6) (jR j6) (jF j6) ["_law_state"] ["_law_marks_here"] (yA w)))) (D__law_due:Def P w K mg base 6 "_law_due" ["_law_first","_law_table_here","_law_marks_here","_law_row_here","_law_layers_here"] [] (m9 w)):FnOkL P w K mg base kC 12 f fd ["_law_script"] (dA tL K):=by
 refine F.okCLn hcL qQ (fun vs H Q E h=>?_) (fun A outer s H vs Q E hr h=>?_)
 ·obtain ⟨a,sx,ns,rfl,hS,hX,h63,htL,q⟩:=h
  rfl
 obtain ⟨a,sx,ns,rfl,hS,hX,h63,htL,q⟩:=h
 have hu:_<cLine:=hr.units0
 have hu1:=qB hr
 have hu9:=qT hr
 have hu10:=qR hr
 have hu15:=BA hr
 refine ⟨_,(ES 1 qQ.nd (@jL _ _ _ _ _ _ _ _ ZE (kA D__law_cell_at hr rfl (jB (pv 0) (jB jE jD))) jE)
   (qG (jV (i:=2) qQ.nd rfl (by first|exact Or.inl rfl|exact Or.inr rfl) (@jL _ _ _ _ _ _ _ _ ZE (kA D__law_cell_at hr rfl (jB (pv 0) (jB jE jD))) jE))
   (@jJ _ _ _ _ _ (jV (i:=3) qQ.nd rfl (by first|exact Or.inl rfl|exact Or.inr rfl) (kA D__law_label hr rfl (jB (pv 2) (jB (@jL _ _ _ _ _ _ _ _ qF (@jL _ _ _ _ _ _ _ _ JE (kA D__law_cell_at hr rfl (jB (pv 0) (jB jE jD))) jE) (pv 1)) jD))))
   (@jJ _ _ _ _ _ (jV (i:=4) qQ.nd rfl (by first|exact Or.inl rfl|exact Or.inr rfl) (kA D__law_table hr rfl (@jB _ _ _ _ _ (pv 0) (@jB _ _ _ _ _ (pv 2) (@jB _ _ _ _ _ (pv 1) jD (by rfl)) (by rfl)) (by rfl))))
   (@jJ _ _ _ _ _ (jV (i:=5) qQ.nd rfl (by first|exact Or.inl rfl|exact Or.inr rfl) (kA D__law_marks hr rfl (@jB _ _ _ _ _ (kA D__law_cell_at hr rfl (jB (pv 0) (jB jE jD))) (@jB _ _ _ _ _ (pv 2) (@jB _ _ _ _ _ (pv 1) jD (by rfl)) (by rfl)) (by rfl))))
   (@jJ _ _ _ _ _ (yR (i:=6) ["_law_state","_law_table_here"] (vA 1 [4]) qQ.nd rfl (by first|exact Or.inl rfl|exact Or.inr rfl) rfl (vN (jF v9) rfl rfl (by decide +kernel) (by decide +kernel) (by decide +kernel)) (vO 1 [4] rfl rfl (by decide +kernel)) (xF (pv 4)) (fun _ _ _ _ _=>(kD (i:=0) (show List.Nodup (["_law_state","_law_table_here"]:List Str) from by decide +kernel) rfl (by first|exact Or.inl rfl|exact Or.inr rfl))) (fun _ _ _ _ _=>JU) (fun _ _ _ _ _=>(kZ (jB (pv 0) (jB (JT (eB K) (by rfl) T.z_list PyProof.Rows.boot_list (jB (fH w hu9 (pv 1) (pv 0) (fun _ _=>rfl)) jD)) jD)))))
   (@jJ _ _ _ _ _ (nH (i:=7) (c:=cL) (P:=tL) qQ.nd rfl (.inl rfl) (.inr rfl) rfl rfl (tD _ _ _) rfl rfl hC hgT hB rfl)
   (qG (nH (i:=8) (c:=cL) (P:=tL) qQ.nd rfl (.inl rfl) (.inr rfl) rfl rfl (s0 _ _ _) rfl rfl hC hgT hB rfl)
   (@jJ _ _ _ _ _ (jV (i:=9) qQ.nd rfl (by first|exact Or.inl rfl|exact Or.inr rfl) (kA D__law_layers hr rfl (@jB _ _ _ _ _ (pv 3) (@jB _ _ _ _ _ (pv 4) (@jB _ _ _ _ _ (pv 5) jD (by rfl)) (by rfl)) (by rfl))))
   (@jJ _ _ _ _ _ (jV (i:=10) qQ.nd rfl (by first|exact Or.inl rfl|exact Or.inr rfl) (kA D__law_layers hr rfl (@jB _ _ _ _ _ (pv 3) (@jB _ _ _ _ _ (pv 4) (@jB _ _ _ _ _ (kA D__law_none hr rfl (jB (pv 4) jD)) jD (by rfl)) (by rfl)) (by rfl))))
   (@jJ _ _ _ _ _ (jV (i:=11) qQ.nd rfl (by first|exact Or.inl rfl|exact Or.inr rfl) (kA D__law_row hr rfl (@jB _ _ _ _ _ (pv 9) (@jB _ _ _ _ _ (pv 4) (@jB _ _ _ _ _ (pv 5) (@jB _ _ _ _ _ (pv 2) jD (by rfl)) (by rfl)) (by rfl)) (by rfl))))
   (@jJ _ _ _ _ _ (qE PassesOwn.never rfl (kO (@jL _ _ _ _ _ _ _ _ ZI (JD JG (pv 0) zI (zR jE)) (kZ (jB jE jD)))) (kD (i:=12) qQ.nd rfl (by first|exact Or.inl rfl|exact Or.inr rfl))
    (@jJ _ _ _ _ _ (jV (i:=13) qQ.nd rfl (by first|exact Or.inl rfl|exact Or.inr rfl) jE)
   (qG (j8 (j5 kJ (@jL _ _ _ _ _ _ _ _ ZE (pv 12) jE) jE (jW _)) (@jI _ _ _ (jV (i:=13) qQ.nd rfl (by first|exact Or.inl rfl|exact Or.inr rfl) (@jL _ _ _ _ _ _ _ _ JE (pv 12) jE))) j7)
   (@jJ _ _ _ _ _ (jV (i:=14) qQ.nd rfl (by first|exact Or.inl rfl|exact Or.inr rfl) (kA D__law_spoiled_row hr rfl (@jB _ _ _ _ _ (pv 11) (@jB _ _ _ _ _ (@jL _ _ _ _ _ _ _ _ JE (pv 12) jE) (@jB _ _ _ _ _ (pv 4) (@jB _ _ _ _ _ (pv 3) (@jB _ _ _ _ _ (pv 2) jD (by rfl)) (by rfl)) (by rfl)) (by rfl)) (by rfl))))
   (@jJ _ _ _ _ _ (jV (i:=15) qQ.nd rfl (by first|exact Or.inl rfl|exact Or.inr rfl) (kA D__law_spoiled hr rfl (@jB _ _ _ _ _ (pv 9) (@jB _ _ _ _ _ (pv 13) (@jB _ _ _ _ _ (kA D__law_label hr rfl (jB (pv 2) (jB (@jL _ _ _ _ _ _ _ _ qF (@jL _ _ _ _ _ _ _ _ JE (pv 12) jE) (pv 1)) jD))) jD (by rfl)) (by rfl)) (by rfl))))
   (qG (j8 (j5 kJ (@jL _ _ _ _ _ _ _ _ ZE (pv 12) jE) jE (jW _)) (@jI _ _ _ (jV (i:=15) qQ.nd rfl (by first|exact Or.inl rfl|exact Or.inr rfl) (JD JG (pv 10) zI (zR (@jL _ _ _ _ _ _ _ _ vR (kW qA (by rfl) T.z_len PySem.boot_len (jB (pv 14) jD)) jE))))) j7)
   (@jJ _ _ _ _ _ (jV (i:=16) qQ.nd rfl (by first|exact Or.inl rfl|exact Or.inr rfl) (kZ (jB (JT eH (by rfl) T.z_list PyProof.Rows.boot_list (jB (pv 14) jD)) (jB (cR ["_law_one"] (vA 1 []) rfl (vN (jF v9) rfl rfl (by decide +kernel) (by decide +kernel) (by decide +kernel)) (vO 1 [] rfl rfl (by decide +kernel)) (kO (pv 15)) (fun _ _ _ _ _=>(kD (i:=0) (show List.Nodup (["_law_one"]:List Str) from by decide +kernel) rfl (by first|exact Or.inl rfl|exact Or.inr rfl))) (fun _ _ _ _ _=>JU) (fun _ _ _ _ _=>(JT (eB K) (by rfl) T.z_list PyProof.Rows.boot_list (jB (pv 0) jD)))) jD))))
   (@jJ _ _ _ _ _ (jV (i:=17) qQ.nd rfl (by first|exact Or.inl rfl|exact Or.inr rfl) (mE (cs:=[(5,s.heap.objs.size+1),(4,s.heap.objs.size+2)]) D_shows_closed hr rfl (o9 ⟨"_law_marks_here",rfl,rfl,rfl,rfl⟩ ⟨"_law_table_here",rfl,rfl,rfl,rfl⟩) (@jB _ _ _ _ _ (pv 3) (@jB _ _ _ _ _ (pv 7) (@jB _ _ _ _ _ (pv 8) (@jB _ _ _ _ _ (j4 kG (pv 16) jE (fun _ _=>rfl)) jD (by rfl)) (by rfl)) (by rfl)) (by rfl))))
   (@jJ _ _ _ _ _ (jV (i:=18) qQ.nd rfl (by first|exact Or.inl rfl|exact Or.inr rfl) (mE (cs:=[(5,s.heap.objs.size+1),(4,s.heap.objs.size+2)]) D_shows_found hr rfl (o9 ⟨"_law_marks_here",rfl,rfl,rfl,rfl⟩ ⟨"_law_table_here",rfl,rfl,rfl,rfl⟩) (@jB _ _ _ _ _ (pv 3) (@jB _ _ _ _ _ (pv 7) (@jB _ _ _ _ _ (pv 8) (@jB _ _ _ _ _ (j4 kG (pv 16) jE (fun _ _=>rfl)) (@jB _ _ _ _ _ (j4 kG (pv 16) jE (fun _ _=>rfl)) jD (by rfl)) (by rfl)) (by rfl)) (by rfl)) (by rfl))))
   (@jJ _ _ _ _ _ (j8 (PW.pt (bD (zJ (yU (kW mU (by rfl) T.z_isinstance PyProof.Rows.boot_isinstance (jB (pv 17) (jB (nJ (v:=.ty "bool") rfl T.z_bool PyProof.Rows.boot_bool rfl) jD))))) (dC (zJ (yU (kW mU (by rfl) T.z_isinstance PyProof.Rows.boot_isinstance (jB (pv 18) (jB (nJ (v:=.ty "bool") rfl T.z_bool PyProof.Rows.boot_bool rfl) jD)))))))) (@jI _ _ _ (@j0 _ _ _ _ kY)) j7)
   (@jJ _ _ _ _ _ (j8 (j5 (nN 3 (gC hr)) (pv 16) (kZ (jB (pv 14) (jB (pv 15) jD))) (jW _)) (@jI _ _ _ (@j0 _ _ _ _ kY)) j7)
   (@jI _ _ _ (j8 (j5 (nN 3 (gC hr)) (kZ (jB (pv 17) (jB (pv 18) jD))) (kA D__law_due hr rfl (@jB _ _ _ _ _ (pv 3) (@jB _ _ _ _ _ (pv 4) (@jB _ _ _ _ _ (pv 5) (@jB _ _ _ _ _ (pv 14) (@jB _ _ _ _ _ (pv 15) jD (by rfl)) (by rfl)) (by rfl)) (by rfl)) (by rfl))) (jW _)) (@jI _ _ _ (@j0 _ _ _ _ kY)) j7)))))))))))))
   (@jI _ _ _ (@j0 _ _ _ _ (yB (AO 3 (gC hr)) (pv 6) (cR ["_law_state","_law_table_here"] (vA 1 [4]) rfl (vN (jF v9) rfl rfl (by decide +kernel) (by decide +kernel) (by decide +kernel)) (vO 1 [4] rfl rfl (by decide +kernel)) (i0 (pv 4)) (fun _ _ _ _ _=>(kD (i:=0) (show List.Nodup (["_law_state","_law_table_here"]:List Str) from by decide +kernel) rfl (by first|exact Or.inl rfl|exact Or.inr rfl))) (fun _ _ _ _ _=>JU) (fun _ _ _ _ _=>(kZ (jB (pv 0) (jB (fH w hu9 (pv 1) (pv 0) (fun _ _=>rfl)) jD))))) (jW _)))))))))))))))),?_⟩
 obtain ⟨n0,en0,hn0⟩:=vZ (a:=ns.getD 0 0) (b:=24) (by decide)
 obtain ⟨m,em,hm0⟩:=vZ (a:=ns.getD 1 0) (b:=5) (by decide)
 have hm:m≤4:=by omega
 refine ⟨_,rfl,a,sx,ns,0,rfl,hS,hX,fun c0 hc0=>⟨_,_,hc0,rfl,(show (0:Int)<24 by decide),_,rfl,?_⟩⟩
 refine ⟨fun σ Hi=>σ=[some (.ref a),some (.int ((1+n0:Nat):Int)),some (.int m),none,none,none,none,none,none,none,none,none,none,none,none,none,none,none,none]∧Hi=H,⟨_,rfl,a,sx,ns,1,rfl,hS,hX,fun c1 hc1=>⟨_,_,hc1,rfl,(show (0:Int)<5 by decide),by rw [← em,show ((1+n0:Nat):Int)=1+ns.getD 0 0%24 by omega];rfl,rfl⟩⟩,?_⟩
 rintro σ Hi ⟨rfl,rfl⟩
 obtain ⟨n,hn⟩:∃n,n=1+n0:=⟨_,rfl⟩
 rw [← hn]
 have hn1:1≤n:=by omega
 have hn24:n≤24:=by omega
 obtain ⟨v,ev,hv⟩:=vZ (a:=ns.getD 1 0 / 5) (b:=(n:Int)) (by omega)
 have hv':v<n:=by omega
 refine ⟨_,rfl,_,rfl,a,sx,ns,1,rfl,hS,hX,fun c1 hc1=>⟨_,_,hc1,rfl,⟨by decide,by decide⟩,_,rfl,_,_,rfl,rfl,(show (0:Int)<n by omega),m,v,by rw [← ev];rfl,hm,by omega,fun y H1 s1 hy h8=>?_⟩⟩
 refine ⟨_,rfl,_,rfl,_,rfl,a,sx,ns,m,n,rfl,s1.seq hS,hX,h63,hm,hn1,hn24,fun dT T0 ls H2 hT hO s2 hls hd0=>?_⟩
 have s12:=s1.trans s2
 refine ⟨_,rfl,a,sx,ns,2,rfl,s12.seq hS,hX,fun c2 hc2=>⟨_,rfl,_,rfl,c2,_,m,n,rfl,hc2,hm,hn1,hn24,fun dM M H3 hI=>?_⟩⟩
 have s13:=s12.trans hI.sm
 have ht3:H3 tL=some (.tbl #[]):=s13 _ _ htL
 have hS3:=s13.seq hS
 obtain ⟨k0,hk0⟩:∃k0,k0=kM m v:=⟨_,rfl⟩
 have hy3:(GV H3 k0).1 y:=by rw [hk0];exact jQ (s2.trans hI.sm) hy
 have hk3:(jN T0 k0).isSome=true:=by rw [hk0];exact hO.dom v hv'
 rw [← hk0] at h8
 have hT3:=hT.same hI.sm
 have hM3:=AT hI hO
 have hMT:dM≠dT:=fun z=>by obtain ⟨kvs,e1,_⟩:=hT.ex;rw [← z,hI.dn] at e1;cases e1
 clear hI hls hk0 hT hy s1 s2 s12 s13 htL hS hd0
 obtain ⟨kvs,e1,g,ap,e3⟩:=hT3.ex
 have hkl:kvs.length≤999:=by
  have h1:=JA hO g.once (fun x hx=>ap.2.2.2 x (by rw [Q5];exact decide_eq_true hx))
  rw [List.length_map] at h1
  omega
 refine ⟨_,rfl,dT,kvs,rfl,e1,fun o bt hbt=>?_⟩
 have kF:gH dT H3 (jC H3 dT (.frz o (GO w dT kvs))):=fun b u n e=>by rw [jH n];exact e
 have dF:jC H3 dT (.frz o (GO w dT kvs)) dT=some (.frz o (GO w dT kvs)):=jG
 have lF:∀b xs,H3 b=some (.lst xs)→jC H3 dT (.frz o (GO w dT kvs)) b=some (.lst xs):=fun b xs e=>kF b _ (fun z=>by rw [z,e1] at e;cases e) e
 have tF:∀b xs,H3 b=some (.tup xs)→jC H3 dT (.frz o (GO w dT kvs)) b=some (.tup xs):=fun b xs e=>kF b _ (fun z=>by rw [z,e1] at e;cases e) e
 have gF:=g.keep tF
 have eF:∀k ps,jN T0 k=some ps→∃l xs,jU kvs k=some (.ref l)∧jC H3 dT (.frz o (GO w dT kvs)) l=some (.lst xs)∧PairsAt (jC H3 dT (.frz o (GO w dT kvs))) xs ps:=fun k ps h=>by
  obtain ⟨l,xs,f1,f2,f3⟩:=e3 k ps h
  exact ⟨l,xs,f1,lF _ _ f2,z9 tF f3⟩
 have hTF:TabR w (jC H3 dT (.frz o (GO w dT kvs))) dT T0 ls:=⟨⟨kvs,.inr ⟨o,jG⟩,gF,ap,eF⟩,hT3.few,hT3.shut,hT3.deep⟩
 have hMF:MarkAt w (jC H3 dT (.frz o (GO w dT kvs))) dM T0 M:=by
  obtain ⟨kvsM,a1,a2,a3⟩:=hM3.ex
  exact ⟨kvsM,kF _ _ hMT a1,a2.keep tF,a3⟩
 have hyF:(GV (jC H3 dT (.frz o (GO w dT kvs))) k0).1 y:=(GV.keep tF _).1 _ hy3
 have htF:jC H3 dT (.frz o (GO w dT kvs)) tL=some (.tbl #[]):=kF _ _ (fun z=>by rw [z,e1] at ht3;cases ht3) ht3
 have hSF:SqL K (jC H3 dT (.frz o (GO w dT kvs))) a sx:=by
  rcases hS3 with (h|⟨o2,h⟩)|h
  ·exact .inl (.inl (lF _ _ h))
  ·exact .inl (.inr ⟨o2,kF _ _ (fun z=>by rw [z,e1] at h;cases h) h⟩)
  ·exact .inr h
 refine oH (w:=w) (caps:=[some (.ref dT)]) (fun j ys Hj=>CZ bt (jC H3 dT (.frz o (GO w dT kvs))) Hj kvs ys j) hbt dF ⟨rfl,fun i x e=>by cases e⟩ ?_ ?_
 ·rintro j p ys Hj hp hj hle sm hY hR
  have hgp:=nY g.once hp
  obtain ⟨ps,hps⟩:=Option.isSome_iff_exists.mp (ap.2.2.2 p.1 (by rw [hgp];rfl))
  obtain ⟨l,zs,f1,f2,f3⟩:=eF p.1 ps hps
  have hpm:=List.mem_of_getElem? hp
  refine J9 (j9 ⟨_,rfl,_,rfl,_,rfl,dT,kvs,p.1,_,rfl,.inr ⟨o,sm _ _ dF⟩,qL sm gF,jQ sm (gF.key p hpm),gF.deep p hpm,f1,l,zs,rfl,.inl (SqL.of (sm _ _ f2)),fun c hc=>⟨kT (by show 2≤1000;decide),fun e he=>?_⟩⟩)
  have uc:=jP hc (.lst zs)
  have ue:=jP he (.lst [p.2.1,.ref c])
  refine yI hbt sm hY hle (by omega) (uc.trans ue) ?_
  have ebt:e≠bt:=fun z=>by rw [z,uc _ _ hY] at he;cases he
  have cbt:c≠bt:=fun z=>by rw [z,hY] at hc;cases hc
  refine ⟨by rw [List.length_append,hR.1];rfl,fun i x hx=>?_⟩
  rcases lT hx with hx|⟨hi,rfl⟩
  ·obtain ⟨p',e',c',l',zs',q1,q2,q3,q4,q5,q6,q7,q8,q9,q10⟩:=hR.2 i x hx
   refine ⟨p',e',c',l',zs',q1,q2,?_,?_,q5,q6,q7,q8,q9,q10⟩
   ·rw [jH q9];exact ue _ _ (uc _ _ q3)
   ·rw [jH q10];exact ue _ _ (uc _ _ q4)
  ·rw [hR.1] at hi
   subst hi
   exact ⟨p,e,c,l,zs,hp,rfl,by rw [jH ebt,jG],by rw [jH cbt];exact ue _ _ jG,f1,f2,vW sm hc,vW (sm.trans uc) he,ebt,cbt⟩
 rintro kys Hk sk hbtk hlek hKept
 have htk:=sk _ _ htF
 have hKp:pM Hk kvs kys:=⟨hKept.1,fun i x hx=>by
  obtain ⟨p,e,c,l,zs,q1,q2,q3,q4,q5,q6,q7,q8,_⟩:=hKept.2 i x hx
  exact ⟨p,e,c,l,zs,q1,q2,q3,q4,q5,sk _ _ q6,fun z=>by rw [z,q6] at q7;cases q7⟩⟩
 have eK:∀k ps,jN T0 k=some ps→∃l xs,jU kvs k=some (.ref l)∧Hk l=some (.lst xs)∧PairsAt Hk xs ps:=fun k ps h=>by
  obtain ⟨l,xs,f1,f2,f3⟩:=eF k ps h
  exact ⟨l,xs,f1,sk _ _ f2,f3.same sk⟩
 have BK:Base53 K w Hk dT dM bt a o kvs kys sx T0 ls M m n k0 y:=⟨hTF.same sk,hO,hMF.same sk,jQ sk hyF,hk3,h8,sk _ _ dF,qL sk gF,ap,eK,hbtk,hKp,sk.seq hSF⟩
 clear hKept hKp eK sk hbtk hTF hMF hyF htF hSF eF gF tF lF dF kF hT3 hM3 hy3 hS3 e1 e3 g ht3
 have hap:=ap
 clear ap hlek
 refine ⟨_,htk,trivial,rfl,fun fa ca cta doca oca n1 n2 n3 hfa hca hoc=>?_⟩
 refine ⟨fun σ Hi=>∃fa fe,σ=[some (.ref a),some (.int n),some (.int m),some y,some (.ref dT),some (.ref dM),some (.ref bt),some (.ref fa),some (.ref fe),none,none,none,none,none,none,none,none,none,none]∧Base53 K w Hi dT dM bt a o kvs kys sx T0 ls M m n k0 y∧FnIs Hi fa jY "law.<locals>._law_ahead" "_law_table_here" (s.heap.objs.size+2)∧FnIs Hi fe j6 "law.<locals>._law_ended" "_law_marks_here" (s.heap.objs.size+1),?_,?_⟩
 ·refine ⟨_,fT n1 n2,trivial,rfl,fun fe ce cte doce oce m1 m2 m3 hfe hce hoce=>⟨fa,fe,rfl,?_⟩⟩
  refine ⟨(BK.keepT (fL hfa hca) htk).keepT (fL hfe hce) (fT n1 n2),FnIs.keepT (fL hfe hce) (fT n1 n2) ⟨_,_,_,_,_,_,ca,oca,by rw [jH n3.symm,jG],rfl,jG,hoc⟩,⟨_,_,_,_,_,_,ce,oce,by rw [jH m3.symm,jG],rfl,jG,hoce⟩⟩
 rintro σ H5 ⟨fa,fe,rfl,B5,hA5,hE5⟩
 clear BK htk
 have hdeep:∀k,(jN T0 k).isSome=true→gd k≤8:=fun k hk=>by
  obtain ⟨ps,hps⟩:=Option.isSome_iff_exists.mp hk
  exact B5.tab.deep k ps hps
 have hseq:∀N,(∀j,j<N→vF T0 k0 j≠[])→∃LL,LL=kB T0 k0 N∧LayF T0 LL∧N≤23:=fun N hN=>by
  have hdom:∀k∈(kB T0 k0 N).flatten,(jN T0 k).isSome=true:=fun k hk=>ZC B5.tab.shut hk3 N k hk
  have hfl:(kB T0 k0 N).flatten.length≤24:=Nat.le_trans (JA hO (ZY N) hdom) hn24
  have hne:∀l∈kB T0 k0 N,l≠[]:=oS hN
  have hLn:=Nat.le_trans (n6 hne) hfl
  rw [J4] at hLn
  exact ⟨_,rfl,⟨by rw [J4];omega,by rw [J4];exact hLn,fun l hl=>⟨List.length_pos_iff.mpr (hne l hl),Nat.le_trans (List.sublist_flatten_of_mem hl).length_le hfl⟩,hdom⟩,by omega⟩
 refine ⟨_,rfl,_,rfl,_,rfl,y,dT,dM,T0,ls,M,m,n,100,k0,rfl,B5.tab,hO,by omega,B5.mrk,B5.key,hk3,fun N lr H6 hns hst s6 hL6=>?_⟩
 obtain ⟨LL,hLL,hLF,hN23⟩:=hseq N fun j hj z=>hns j hj (.inr z)
 have B6:=B5.same s6
 refine ⟨_,rfl,_,rfl,_,rfl,dT,o,kvs,T0,rfl,B6.frz,B6.ok,(fun k hk=>?_),hkl,fun dZ H7 s7 hdZ hMZ=>?_⟩
 ·obtain ⟨ps,hps⟩:=Option.isSome_iff_exists.mp hk
  obtain ⟨l,xs,f1,_⟩:=B6.rows k ps hps
  have:k∈kvs.map (·.1):=of_decide_eq_true (by rw [← Q5,f1];rfl)
  obtain ⟨p,hp,e⟩:=List.mem_map.mp this
  exact ⟨p,hp,e⟩
 have B7:=B6.same s7
 refine ⟨y,dT,dZ,T0,ls,fun _=>false,m,n,100,k0,rfl,B7.tab,hO,by omega,hMZ,B7.key,hk3,fun N2 lw H8 hns2 hst2 s8 hL8=>?_⟩
 obtain ⟨LW,hLW,hWF,_⟩:=hseq N2 fun j hj z=>hns2 j hj (.inr z)
 have B8:=B7.same s8
 have hL8':LayersAt H8 lr (kB T0 k0 N):=(hL6.same s7).same s8
 refine ⟨_,rfl,_,rfl,_,rfl,_,rfl,lr,dT,dM,.int m,T0,ls,M,m,n,100,k0,N,rfl,B8.tab,hO,hn24,B8.mrk,hk3,hN23,hL8',fun rw_ rxs rks H9 s9 hrw hrk hr23=>?_⟩
 have B9:=B8.same s9
 have hL9:LayersAt H9 lr LL:=by rw [hLL];exact hL8'.same s9
 have hW9:LayersAt H9 lw LW:=by rw [hLW];exact hL8.same s9
 have s59:=((s6.trans s7).trans s8).trans s9
 have hA9:=hA5.same s59
 have hE9:=hE5.same s59
 clear hL6 hL8 hL8' hLL hLW B5 B6 B7 B8 hns hst hns2 hst2 hMZ hdZ s6 s7 s8 s9 hA5 hE5
 have hc20:=Z5 sx none (some 20)
 have hsx:=Paired.length hX
 refine ⟨_,rfl,_,rfl,a,sx,rfl,B9.scr,fun p1 hp1=>⟨kT (by show 1≤1000;decide),fun p2 hp2=>?_⟩⟩
 have u1:=jP hp1 (.lst (kP sx none (some 20)))
 have u2:=jP hp2 (.lst [.int 0])
 refine ⟨p1,p2,_,_,rfl,rfl,u2 _ _ jG,jG,kT (by rw [List.length_singleton];omega),fun p3 hp3=>?_⟩
 have s7:=(u1.trans u2).trans (jP hp3 (.lst (kP sx none (some 20)++[.int 0])))
 refine ⟨p3,rfl,⟨_,SqL.of jG⟩,?_⟩
 refine qX (K:=K) (a:=p3) (xs:=kP sx none (some 20)++[.int 0]) (fun i σ Hi=>∃d1 d2 d3 d4 d5 d6 d7,σ=[some (.ref a),some (.int n),some (.int m),some y,some (.ref dT),some (.ref dM),some (.ref bt),some (.ref fa),some (.ref fe),some (.ref lr),some (.ref lw),some (.ref rw_),d1,d2,d3,d4,d5,d6,d7]∧Same H9 Hi∧Hi p3=some (.lst (kP sx none (some 20)++[.int 0]))) ⟨none,none,none,none,none,none,none,rfl,s7,jG⟩ (fun i σ Hi _ ⟨_,_,_,_,_,_,_,_,_,e⟩=>SqL.of e) ?_ ?_
 ·rintro i x σ Hi hx ⟨d1,d2,d3,d4,d5,d6,d7,rfl,si,hp3i⟩
  obtain ⟨z,hz⟩:∃z,v8 x z:=by
   rcases List.mem_append.mp (List.mem_of_getElem? hx) with h|h
   ·obtain ⟨i',hi'⟩:=List.mem_iff_getElem?.mp h
    exact nX hX hi'
   ·rw [List.mem_singleton.mp h];exact ⟨0,rfl⟩
  obtain ⟨u,eu,hu⟩:=vZ (a:=z / 5) (b:=(n:Int)) (by omega)
  have hu':u<n:=by omega
  refine ⟨fun σ Hj=>∃wy:Int,σ=[some (.ref a),some (.int n),some (.int m),some y,some (.ref dT),some (.ref dM),some (.ref bt),some (.ref fa),some (.ref fe),some (.ref lr),some (.ref lw),some (.ref rw_),some x,some (.int wy),d3,d4,d5,d6,d7]∧Hj=Hi,⟨_,rfl,_,_,hz,rfl,(show (0:Int)<3 by decide),rfl,_,rfl,kI (fun _=>⟨_,rfl,_,_,hz,rfl,⟨by decide,by decide⟩,_,rfl,rfl⟩) (fun _=>⟨_,rfl,rfl⟩)⟩,?_⟩
  rintro σ Hj ⟨wy,rfl,rfl⟩
  have Bi:=B9.same si
  refine ⟨_,rfl,_,rfl,_,_,hz,rfl,⟨by decide,by decide⟩,_,rfl,_,rfl,_,rfl,rw_,_,dT,y,m,T0,ls,n,k0,rxs,rks,rfl,hm,Bi.tab,hO,Bi.key,hk3,si _ _ hrw,hrk.same si,hr23,fun de dxs dks H10 s10 hde hdk hd25 hdn=>?_⟩
  have si10:=si.trans s10
  refine ⟨_,rfl,_,rfl,_,rfl,_,rfl,_,_,hz,rfl,⟨by decide,by decide⟩,_,rfl,_,_,rfl,rfl,(show (0:Int)<n by omega),m,u,by rw [← eu];rfl,hm,by omega,fun y2 H11 s11 hy2 h82=>?_⟩
  have si11:=si10.trans s11
  refine ⟨lr,_,y2,kM m u,LL,rfl,hL9.same si11,hLF.one,hLF.le,hLF.lay,hy2,h82,fun sp0 SL0 H12 s12 hSL0 hSL500 hSL600=>?_⟩
  have si12:=si11.trans s12
  have hde12:=s12 _ _ (s11 _ _ hde)
  have hdk12:=(hdk.same s11).same s12
  refine ⟨fun σ Hj=>∃(sp:Addr) (SL:List (List GK)),σ=[some (.ref a),some (.int n),some (.int m),some y,some (.ref dT),some (.ref dM),some (.ref bt),some (.ref fa),some (.ref fe),some (.ref lr),some (.ref lw),some (.ref rw_),some x,some (.int wy),some (.ref de),some (.ref sp),d5,d6,d7]∧Same H12 Hj∧LayersAt Hj sp SL∧SL.length≤50∧(∀l∈SL,l.length≤60)∧∀k∈SL.flatten,(jN T0 k).isSome=true,⟨_,rfl,_,_,hz,rfl,(show (0:Int)<3 by decide),rfl,_,rfl,kI (fun _=>?_) (fun _=>?_)⟩,?_⟩
  ·obtain ⟨wxs,w1,w2,w3⟩:=(hW9.same si12).ex
   refine ⟨_,rfl,_,rfl,de,dxs,rfl,.inl (SqL.of hde12),_,_,rfl,rfl,_,rfl,lw,wxs,rfl,SqL.of w1,fun p hp=>?_⟩
   have sp:=jP hp (.lst (kP wxs none (some (((dxs.length:Nat):Int)+1))))
   have ec:kP wxs none (some (((dxs.length:Nat):Int)+1))=wxs.take (min (dxs.length+1) wxs.length):=by
    rw [show ((dxs.length:Nat):Int)+1=((dxs.length+1:Nat):Int) by omega]
    unfold kP
    rw [HT.sIx_none,HT.sIx_nat,List.drop_zero,Nat.sub_zero]
   refine ⟨p,LW.take (min (dxs.length+1) wxs.length),rfl,sp,⟨_,jG,by rw [ec,List.length_take,List.length_take,w2],fun j x hx=>?_⟩,by have:=hWF.le;rw [List.length_take];omega,fun l hl=>by have:=(hWF.lay l (List.mem_of_mem_take hl)).2;omega,fun k hk=>?_⟩
   ·rw [ec] at hx
    have hj:j<min (dxs.length+1) wxs.length:=by have:=(List.getElem?_eq_some_iff.mp hx).1;rw [List.length_take] at this;omega
    rw [List.getElem?_take_of_lt hj] at hx
    obtain ⟨b,ys,lay,v1,v2,v3,v4,v5⟩:=w3 j x hx
    exact ⟨b,ys,lay,v1,(fun z=>by rw [z,hp] at v4;cases v4),by rw [List.getElem?_take_of_lt hj];exact v3,sp _ _ v4,v5.same sp⟩
   ·obtain ⟨l,hl,hkl⟩:=List.mem_flatten.mp hk
    exact hWF.dom k (List.mem_flatten.mpr ⟨l,List.mem_of_mem_take hl,hkl⟩)
  ·refine ⟨sp0,SL0,rfl,Same.refl _,hSL0,hSL500,fun l hl=>(hSL600 l hl).1,fun k hk=>?_⟩
   obtain ⟨l,hl,hkl⟩:=List.mem_flatten.mp hk
   rcases List.mem_cons.mp ((hSL600 l hl).2 k hkl) with rfl|h
   ·exact hO.dom u hu'
   ·exact hLF.dom k h
  rintro σ H13 ⟨sp,SL,rfl,s13,hSL,hSL50,hSL60,hSd⟩
  have si13:=si12.trans s13
  have hde13:=s13 _ _ hde12
  have hdk13:=hdk12.same s13
  obtain ⟨xs,f1,f2,f3⟩:=hSL.ex
  refine ⟨_,rfl,de,dxs,rfl,.inl (SqL.of hde13),fun dc hdc=>?_⟩
  have udc:=jP hdc (.lst dxs)
  have f1':=udc _ _ f1
  refine ⟨_,rfl,sp,rfl,⟨_,SqL.of f1'⟩,fun hb hhb=>?_⟩
  refine yH (K:=K) (a:=sp) (xs:=xs) (caps:=[]) (fun j ws Hk=>ws.length=j∧CopyR (jC H13 dc (.lst dxs)) Hk hb xs ws SL) hhb (SqL.of f1') ⟨rfl,CopyR.nil⟩ ?_ ?_
  ·rintro j v ws Hk hv hj hle sm hY ⟨hwl,hR⟩
   obtain ⟨b,ys,lay,rfl,hna,hlay,ha,hk⟩:=f3 j v hv
   refine J9 (j9 ⟨_,rfl,b,ys,rfl,.inl (SqL.of (sm _ _ (udc _ _ ha))),fun l hl=>yI hhb sm hY hle (by omega) (jP hl _) ⟨by rw [List.length_append,hwl];rfl,hR.put hY (by rw [hwl];exact hv) (udc _ _ ha) (by rw [hwl];exact hlay) (hk.same udc) sm hl⟩⟩)
  rintro ws Hc sc hbc hlec ⟨hwl,hR⟩
  have hwL:ws.length=SL.length:=by rw [hwl,f2]
  have hH:=hR.lays sc hbc hwL
  refine ⟨kT (by show 2≤1000;decide),fun hd hhd=>?_⟩
  have uh:=jP hhd (.lst [.ref dc,.ref hb])
  have s14:=(udc.trans sc).trans uh
  have si14:=si13.trans s14
  have hH14:=hH.same uh
  have hd14:jC Hc hd (.lst [.ref dc,.ref hb]) hd=some (.lst [.ref dc,.ref hb]):=jG
  have hdc14:jC Hc hd (.lst [.ref dc,.ref hb]) dc=some (.lst dxs):=uh _ _ (sc _ _ jG)
  have hdk14:=hdk13.same s14
  have hdl:=hdk14.1
  have B14:=B9.same si14
  have hfl:SL.flatten.length≤3000:=Nat.le_trans (n5 hSL60) (by omega)
  refine ⟨_,rfl,_,rfl,_,rfl,_,rfl,hd,_,_,.ref hb,rfl,rfl,SqL.of hd14,kK (j:=1) rfl,gK ⟨_,rfl⟩ ⟨_,rfl⟩,fun HC hHC hn0=>?_⟩
  obtain ⟨cA,cE,cS,cF⟩:=pL B14.tab B14.mrk (hA9.same si14) (hE9.same si14) rfl rfl hHC hn0
  refine ⟨y,fa,fe,hb,kR T0,k0,M,SL,rfl,jQ cS B14.key,hk3,cA,lU B14.tab,oA hO hn24,cE,hdeep,hH14.same cS,hSd,hSL50,hfl,(fun l hl=>Nat.le_trans (hSL60 l hl) (by decide)),fun H15' s15'=>⟨(cF H15' s15').1,?_⟩⟩
  have s15:=(cF H15' s15').2
  clear cA cE cS cF hn0 hHC s15'
  generalize qP H15' _=H15 at s15 ⊢
  have si15:=si14.trans s15
  have B15:=B9.same si15
  refine ⟨_,rfl,_,rfl,_,rfl,_,rfl,hd,_,_,.ref dc,rfl,rfl,SqL.of (s15 _ _ hd14),kK (j:=0) rfl,_,rfl,hd,_,_,.ref hb,rfl,rfl,SqL.of (s15 _ _ hd14),kK (j:=1) rfl,gK ⟨_,rfl⟩ ⟨_,rfl⟩,fun HC hHC hn0=>?_⟩
  obtain ⟨cA,cE,cS,cF⟩:=pL B15.tab B15.mrk (hA9.same si15) (hE9.same si15) rfl rfl hHC hn0
  refine ⟨y,fa,fe,dc,hb,kR T0,k0,M,SL,dxs,dks,rfl,jQ cS B15.key,hk3,cA,lU B15.tab,oA hO hn24,(fun k=>?_),cE,hdeep,(hH14.same s15).same cS,hSd,hSL50,hfl,(fun l hl=>Nat.le_trans (hSL60 l hl) (by decide)),cS _ _ (s15 _ _ hdc14),(hdk14.same s15).same cS,by omega,fun H16' s16'=>⟨(cF H16' s16').1,?_⟩⟩
  ·show ((jN T0 k).getD []).length≤900
   cases e:jN T0 k with
   |none=>exact Nat.zero_le _
   |some ps=>exact B15.tab.few k ps e
  have s16:=(cF H16' s16').2
  clear cA cE cS cF hn0 hHC s16'
  generalize qP H16' _=H16 at s16 ⊢
  have s1416:=s15.trans s16
  have si16:=si15.trans s16
  have B16:=B9.same si16
  refine ⟨_,rfl,_,_,_,_,_,rfl,rfl,TyOf.bl _,mH "bool",_,rfl,kE ?_⟩
  refine ⟨_,rfl,_,_,_,_,_,rfl,rfl,TyOf.bl _,mH "bool",_,rfl,kE ?_⟩
  have sx16:=s14.trans s1416
  refine ⟨_,rfl,_,rfl,_,rfl,kT (by show 2≤1000;decide),fun pr hpr=>?_⟩
  have upr:=jP hpr (.lst [.ref de,.ref sp])
  have s17:=s1416.trans upr
  refine ⟨hd,pr,_,_,rfl,rfl,SqL.of (s17 _ _ hd14),SqL.of jG,rfl,fun j hj=>?_,_,rfl,kE ?_⟩
  ·match j,hj with
   |0,_ =>
    refine .inr ⟨dc,de,dxs,dxs,rfl,rfl,(fun z=>by rw [z,hde13] at hdc;cases hdc),.inl ⟨SqL.of (s17 _ _ hdc14),SqL.of ((s14.trans s17) _ _ hde13)⟩,rfl,fun b hb0=>.inl ⟨rfl,?_⟩⟩
    obtain ⟨k,_,hk2,_⟩:=hdk13.2 b _ (List.getElem?_eq_getElem hb0)
    rw [List.getD_eq_getElem?_getD,List.getElem?_eq_getElem hb0]
    exact fJ hk2
   |1,_ =>
    refine .inr ⟨hb,sp,ws,xs,rfl,rfl,(fun z=>by rw [z,f1'] at hhb;cases hhb),.inl ⟨SqL.of (s17 _ _ (uh _ _ hbc)),SqL.of ((s14.trans s17) _ _ f1)⟩,by rw [hwL,f2],fun b hb0=>?_⟩
    obtain ⟨a',b',ys,lay,e0,n0,e2,e4,e5,e6,e7,e8⟩:=hR.1 b _ (List.getElem?_eq_getElem hb0)
    rw [List.getD_eq_getElem?_getD,List.getElem?_eq_getElem hb0,List.getD_eq_getElem?_getD,e4]
    show AEq K _ 2 ws[b] (.ref b')
    rw [e0]
    refine .inr ⟨a',b',ys,ys,rfl,rfl,(fun z=>by rw [z,e5] at e2;cases e2),.inl ⟨SqL.of (s17 _ _ (uh _ _ e8)),SqL.of (s17 _ _ (uh _ _ (sc _ _ e5)))⟩,rfl,fun c hc0=>.inl ⟨rfl,?_⟩⟩
    obtain ⟨k,_,hk2,_⟩:=e7.2 c _ (List.getElem?_eq_getElem hc0)
    rw [List.getD_eq_getElem?_getD,List.getElem?_eq_getElem hc0]
    exact fJ hk2
  have si17:=si14.trans s17
  have B17:=B9.same si17
  have hSL17:=hSL.same (s14.trans s17)
  refine ⟨_,rfl,_,rfl,kT (by show 2≤1000;decide),fun pd hpd=>?_⟩
  have upd_:=jP hpd (.lst [.bl (y7 (kR T0) k0 M SL),.bl (yJ (kR T0) k0 M SL dks)])
  have si18:=si17.trans upd_
  have B18:=B9.same si18
  refine ⟨_,rfl,_,rfl,_,rfl,_,rfl,_,rfl,y,dT,dM,de,sp,T0,ls,M,m,n,k0,dxs,dks,SL,rfl,B18.tab,hO,by omega,B18.mrk,B18.key,h8,hk3,upd_ _ _ ((s14.trans s17) _ _ hde13),((hdk13.same s14).same s17).same upd_,hd25,hSL17.same upd_,hSd,hSL50,hfl,fun r H19 s19 hr19=>?_⟩
  refine ⟨pd,r,_,_,rfl,rfl,SqL.of (s19 _ _ jG),SqL.of hr19,rfl,fun j hj=>?_,_,rfl,kE ?_⟩
  ·match j,hj with
   |0,_=>exact .inl ⟨rfl,.inl rfl⟩
   |1,_=>exact .inl ⟨rfl,.inl rfl⟩
  exact ⟨_,_,_,_,_,_,_,rfl,si18.trans s19,(((s10.trans (s11.trans (s12.trans s13))).trans (s14.trans s17)).trans (upd_.trans s19)) _ _ hp3i⟩
 rintro σ Hi ⟨d1,d2,d3,d4,d5,d6,d7,rfl,si,_⟩
 have Bi:=B9.same si
 refine ⟨_,rfl,_,rfl,dT,o,kvs,rfl,Bi.frz,fun bu hbu=>?_⟩
 refine oH (w:=w) (caps:=[some (.ref dT)]) (fun j zs Hj=>C1 bu Hi Hj kvs zs j) hbu Bi.frz ⟨rfl,fun i x e=>by cases e⟩ ?_ ?_
 ·rintro j p zs Hj hp hj hle sm hY hR
  have hgp:=nY Bi.ok.once hp
  obtain ⟨ps,hps⟩:=Option.isSome_iff_exists.mp (hap.2.2.2 p.1 (by rw [hgp];rfl))
  obtain ⟨l,ws,f1,f2,f3⟩:=Bi.rows p.1 ps hps
  have hpm:=List.mem_of_getElem? hp
  refine J9 (j9 ⟨_,rfl,_,rfl,_,rfl,dT,kvs,p.1,_,rfl,.inr ⟨o,sm _ _ Bi.frz⟩,qL sm Bi.ok,jQ sm (Bi.ok.key p hpm),Bi.ok.deep p hpm,f1,kT (by show 2≤1000;decide),fun e he=>?_⟩)
  have ue:=jP he (.lst [p.2.1,.ref l])
  refine yI hbu sm hY hle (by omega) ue ?_
  have ebt:e≠bu:=fun z=>by rw [z,hY] at he;cases he
  refine ⟨by rw [List.length_append,hR.1];rfl,fun i x hx=>?_⟩
  rcases lT hx with hx|⟨hi,rfl⟩
  ·obtain ⟨p',e',l',q1,q2,q3,q4,q5,q6⟩:=hR.2 i x hx
   exact ⟨p',e',l',q1,q2,by rw [jH q6];exact ue _ _ q3,q4,q5,q6⟩
  ·rw [hR.1] at hi
   subst hi
   exact ⟨p,e,l,hp,rfl,by rw [jH ebt,jG],f1,vW sm he,ebt⟩
 rintro zs Hz sz hbuz hlez hAn
 refine ⟨bt,bu,kys,zs,rfl,rfl,SqL.of (sz _ _ Bi.bt),SqL.of hbuz,by rw [Bi.kept.1,hAn.1],fun j hj=>?_,q _⟩
 have hjz:j<zs.length:=by rw [hAn.1,← Bi.kept.1];exact hj
 obtain ⟨p,e,c,l,ws,q1,q2,q3,q4,q5,q6,q7⟩:=Bi.kept.2 j _ (List.getElem?_eq_getElem hj)
 obtain ⟨p',e',l',r1,r2,r3,r4,r5,_⟩:=hAn.2 j _ (List.getElem?_eq_getElem hjz)
 rw [q1] at r1;cases r1
 rw [q5] at r4;cases r4
 have hpm:=List.mem_of_getElem? q1
 obtain ⟨ps,hps⟩:=Option.isSome_iff_exists.mp (hap.2.2.2 p.1 (by rw [q5];rfl))
 obtain ⟨l2,ws2,f1,f2,f3⟩:=Bi.rows p.1 ps hps
 rw [q5] at f1;cases f1
 rw [q6] at f2;cases f2
 rw [List.getD_eq_getElem?_getD,List.getElem?_eq_getElem hj,List.getD_eq_getElem?_getD,List.getElem?_eq_getElem hjz]
 show AEq K Hz 3 kys[j] zs[j]
 rw [q2,r2]
 refine .inr ⟨e,e',_,_,rfl,rfl,(fun z=>by rw [← z,q3] at r5;cases r5),.inl ⟨SqL.of (sz _ _ q3),SqL.of r3⟩,rfl,fun i hi=>?_⟩
 match i,hi with
 |0,_=>exact .inl ⟨rfl,fJ (Bi.ok.key p hpm)⟩
 |1,_ =>
  refine .inr ⟨c,l,ws,ws,rfl,rfl,q7,.inl ⟨SqL.of (sz _ _ q4),SqL.of (sz _ _ q6)⟩,rfl,fun b hb=>.inl ⟨rfl,?_⟩⟩
  obtain ⟨pr,t,b1,b2,_,e2,_⟩:=f3.2 b _ (List.getElem?_eq_getElem hb)
  rw [List.getD_eq_getElem?_getD,List.getElem?_eq_getElem hb]
  exact .inr ⟨t,e2⟩
end
theorem all_mk {l:W.OpenLaw} {w:World} {K:W.Frag} {h:Heap} {mg:Str→Option Value} {fa f2 f3 f4 f5 f6 f7 f8 f9 f10 f11 f12 f13 f14 f15 f16 f17 f18 f19 f20 f21 f22 f23 f24 f25 f26 f27:Addr} {cL tL:Addr} (X:K.In h) (G:h.Ns mainGlobals mg) (hfa:mg "law"=some (.ref fa))
 {od2 an2 od3 an3 od4 an4 od5 an5 od6 an6 od7 an7 od8 an8 od9 an9 od10 an10 od11 an11 od12 an12 od13 an13 od14 an14 od15 an15 od16 an16 od17 an17 od18 an18 od19 an19 od20 an20 od21 an21 od22 an22 od23 an23 od24 an24 od25 an25 od26 an26 od27 an27:Option Addr} {sl2 sl3 sl4 sl5 sl6 sl7 sl8 sl9 sl10 sl11 sl12 sl13 sl14 sl15 sl16 sl17 sl18 sl19 sl20 sl21 sl22 sl23 sl24 sl25 sl26 sl27:Array (Option Value)} {oc2 kV2 dc2 pm2 cd2 ct2 oc3 kV3 dc3 pm3 cd3 ct3 oc4 kV4 dc4 pm4 cd4 ct4 oc5 kV5 dc5 pm5 cd5 ct5 oc6 kV6 dc6 pm6 cd6 ct6 oc7 kV7 dc7 pm7 cd7 ct7 oc8 kV8 dc8 pm8 cd8 ct8 oc9 kV9 dc9 pm9 cd9 ct9 oc10 kV10 dc10 pm10 cd10 ct10 oc11 kV11 dc11 pm11 cd11 ct11 oc12 kV12 dc12 pm12 cd12 ct12 oc13 kV13 dc13 pm13 cd13 ct13 oc14 kV14 dc14 pm14 cd14 ct14 oc15 kV15 dc15 pm15 cd15 ct15 oc16 kV16 dc16 pm16 cd16 ct16 oc17 kV17 dc17 pm17 cd17 ct17 oc18 kV18 dc18 pm18 cd18 ct18 oc19 kV19 dc19 pm19 cd19 ct19 oc20 kV20 dc20 pm20 cd20 ct20 oc21 kV21 dc21 pm21 cd21 ct21 oc22 kV22 dc22 pm22 cd22 ct22 oc23 kV23 dc23 pm23 cd23 ct23 oc24 kV24 dc24 pm24 cd24 ct24 oc25 kV25 dc25 pm25 cd25 ct25 oc26 kV26 dc26 pm26 cd26 ct26 oc27 kV27 dc27 pm27 cd27 ct27:Value}
  (a2:W.nsIn K mainGlobals "row_holds"=some (some (.ref f2)))
  (l2:K.lookup f2=some ⟨oc2,od2,.func (W.fnOf "row_holds" "row_holds" (jT J0) (jR J0) (jF J0) .none kV2 dc2 pm2 an2 cd2 ct2),sl2⟩)
  (c2:W.codeIn K cd2 "row_holds"=true)
  (k2:W.keepIn K (.ref f2)=true)
  (a3:W.nsIn K mainGlobals "come_to_from"=some (some (.ref f3)))
  (l3:K.lookup f3=some ⟨oc3,od3,.func (W.fnOf "come_to_from" "come_to_from" (jT QX) (jR QX) (jF QX) .none kV3 dc3 pm3 an3 cd3 ct3),sl3⟩)
  (c3:W.codeIn K cd3 "come_to_from"=true)
  (k3:W.keepIn K (.ref f3)=true)
  (a4:W.nsIn K mainGlobals "is_layer_of"=some (some (.ref f4)))
  (l4:K.lookup f4=some ⟨oc4,od4,.func (W.fnOf "is_layer_of" "is_layer_of" (jT QY) (jR QY) (jF QY) .none kV4 dc4 pm4 an4 cd4 ct4),sl4⟩)
  (c4:W.codeIn K cd4 "is_layer_of"=true)
  (k4:W.keepIn K (.ref f4)=true)
  (a5:W.nsIn K mainGlobals "layers_hold"=some (some (.ref f5)))
  (l5:K.lookup f5=some ⟨oc5,od5,.func (W.fnOf "layers_hold" "layers_hold" (jT JY) (jR JY) (jF JY) .none kV5 dc5 pm5 an5 cd5 ct5),sl5⟩)
  (c5:W.codeIn K cd5 "layers_hold"=true)
  (k5:W.keepIn K (.ref f5)=true)
  (a6:W.nsIn K mainGlobals "states_of"=some (some (.ref f6)))
  (l6:K.lookup f6=some ⟨oc6,od6,.func (W.fnOf "states_of" "states_of" (jT Q0) (jR Q0) (jF Q0) .none kV6 dc6 pm6 an6 cd6 ct6),sl6⟩)
  (c6:W.codeIn K cd6 "states_of"=true)
  (k6:W.keepIn K (.ref f6)=true)
  (a7:W.nsIn K mainGlobals "none_ended"=some (some (.ref f7)))
  (l7:K.lookup f7=some ⟨oc7,od7,.func (W.fnOf "none_ended" "none_ended" (jT JZ) (jR JZ) (jF JZ) .none kV7 dc7 pm7 an7 cd7 ct7),sl7⟩)
  (c7:W.codeIn K cd7 "none_ended"=true)
  (k7:W.keepIn K (.ref f7)=true)
  (a8:W.nsIn K mainGlobals "shows_closed"=some (some (.ref f8)))
  (l8:K.lookup f8=some ⟨oc8,od8,.func (W.fnOf "shows_closed" "shows_closed" (jT z5) (jR z5) (jF z5) .none kV8 dc8 pm8 an8 cd8 ct8),sl8⟩)
  (c8:W.codeIn K cd8 "shows_closed"=true)
  (k8:W.keepIn K (.ref f8)=true)
  (a9:W.nsIn K mainGlobals "shows_found"=some (some (.ref f9)))
  (l9:K.lookup f9=some ⟨oc9,od9,.func (W.fnOf "shows_found" "shows_found" (jT QZ) (jR QZ) (jF QZ) .none kV9 dc9 pm9 an9 cd9 ct9),sl9⟩)
  (c9:W.codeIn K cd9 "shows_found"=true)
  (k9:W.keepIn K (.ref f9)=true)
  (a10:W.nsIn K mainGlobals "_law_cell_at"=some (some (.ref f10)))
  (l10:K.lookup f10=some ⟨oc10,od10,.func (W.fnOf "_law_cell_at" "_law_cell_at" (jT QM) (jR QM) (jF QM) .none kV10 dc10 pm10 an10 cd10 ct10),sl10⟩)
  (c10:W.codeIn K cd10 "_law_cell_at"=true)
  (k10:W.keepIn K (.ref f10)=true)
  (a11:W.nsIn K mainGlobals "_law_label"=some (some (.ref f11)))
  (l11:K.lookup f11=some ⟨oc11,od11,.func (W.fnOf "_law_label" "_law_label" (jT QQ) (jR QQ) (jF QQ) .none kV11 dc11 pm11 an11 cd11 ct11),sl11⟩)
  (c11:W.codeIn K cd11 "_law_label"=true)
  (k11:W.keepIn K (.ref f11)=true)
  (a12:W.nsIn K mainGlobals "_law_deed"=some (some (.ref f12)))
  (l12:K.lookup f12=some ⟨oc12,od12,.func (W.fnOf "_law_deed" "_law_deed" (jT QN) (jR QN) (jF QN) .none kV12 dc12 pm12 an12 cd12 ct12),sl12⟩)
  (c12:W.codeIn K cd12 "_law_deed"=true)
  (k12:W.keepIn K (.ref f12)=true)
  (a13:W.nsIn K mainGlobals "_law_joined"=some (some (.ref f13)))
  (l13:K.lookup f13=some ⟨oc13,od13,.func (W.fnOf "_law_joined" "_law_joined" (jT QP) (jR QP) (jF QP) .none kV13 dc13 pm13 an13 cd13 ct13),sl13⟩)
  (c13:W.codeIn K cd13 "_law_joined"=true)
  (k13:W.keepIn K (.ref f13)=true)
  (a14:W.nsIn K mainGlobals "_law_table"=some (some (.ref f14)))
  (l14:K.lookup f14=some ⟨oc14,od14,.func (W.fnOf "_law_table" "_law_table" (jT QV) (jR QV) (jF QV) .none kV14 dc14 pm14 an14 cd14 ct14),sl14⟩)
  (c14:W.codeIn K cd14 "_law_table"=true)
  (k14:W.keepIn K (.ref f14)=true)
  (a15:W.nsIn K mainGlobals "_law_marks"=some (some (.ref f15)))
  (l15:K.lookup f15=some ⟨oc15,od15,.func (W.fnOf "_law_marks" "_law_marks" (jT QR) (jR QR) (jF QR) .none kV15 dc15 pm15 an15 cd15 ct15),sl15⟩)
  (c15:W.codeIn K cd15 "_law_marks"=true)
  (k15:W.keepIn K (.ref f15)=true)
  (a16:W.nsIn K mainGlobals "_law_behind"=some (some (.ref f16)))
  (l16:K.lookup f16=some ⟨oc16,od16,.func (W.fnOf "_law_behind" "_law_behind" (jT QL) (jR QL) (jF QL) .none kV16 dc16 pm16 an16 cd16 ct16),sl16⟩)
  (c16:W.codeIn K cd16 "_law_behind"=true)
  (k16:W.keepIn K (.ref f16)=true)
  (a17:W.nsIn K mainGlobals "_law_layers"=some (some (.ref f17)))
  (l17:K.lookup f17=some ⟨oc17,od17,.func (W.fnOf "_law_layers" "_law_layers" (jT JW) (jR JW) (jF JW) .none kV17 dc17 pm17 an17 cd17 ct17),sl17⟩)
  (c17:W.codeIn K cd17 "_law_layers"=true)
  (k17:W.keepIn K (.ref f17)=true)
  (a18:W.nsIn K mainGlobals "_law_spoiled"=some (some (.ref f18)))
  (l18:K.lookup f18=some ⟨oc18,od18,.func (W.fnOf "_law_spoiled" "_law_spoiled" (jT z4) (jR z4) (jF z4) .none kV18 dc18 pm18 an18 cd18 ct18),sl18⟩)
  (c18:W.codeIn K cd18 "_law_spoiled"=true)
  (k18:W.keepIn K (.ref f18)=true)
  (a19:W.nsIn K mainGlobals "_law_once"=some (some (.ref f19)))
  (l19:K.lookup f19=some ⟨oc19,od19,.func (W.fnOf "_law_once" "_law_once" (jT QT) (jR QT) (jF QT) .none kV19 dc19 pm19 an19 cd19 ct19),sl19⟩)
  (c19:W.codeIn K cd19 "_law_once"=true)
  (k19:W.keepIn K (.ref f19)=true)
  (a20:W.nsIn K mainGlobals "_law_hold"=some (some (.ref f20)))
  (l20:K.lookup f20=some ⟨oc20,od20,.func (W.fnOf "_law_hold" "_law_hold" (jT QO) (jR QO) (jF QO) .none kV20 dc20 pm20 an20 cd20 ct20),sl20⟩)
  (c20:W.codeIn K cd20 "_law_hold"=true)
  (k20:W.keepIn K (.ref f20)=true)
  (a21:W.nsIn K mainGlobals "_law_walked"=some (some (.ref f21)))
  (l21:K.lookup f21=some ⟨oc21,od21,.func (W.fnOf "_law_walked" "_law_walked" (jT JX) (jR JX) (jF JX) .none kV21 dc21 pm21 an21 cd21 ct21),sl21⟩)
  (c21:W.codeIn K cd21 "_law_walked"=true)
  (k21:W.keepIn K (.ref f21)=true)
  (a22:W.nsIn K mainGlobals "_law_unended"=some (some (.ref f22)))
  (l22:K.lookup f22=some ⟨oc22,od22,.func (W.fnOf "_law_unended" "_law_unended" (jT QW) (jR QW) (jF QW) .none kV22 dc22 pm22 an22 cd22 ct22),sl22⟩)
  (c22:W.codeIn K cd22 "_law_unended"=true)
  (k22:W.keepIn K (.ref f22)=true)
  (a23:W.nsIn K mainGlobals "_law_none"=some (some (.ref f23)))
  (l23:K.lookup f23=some ⟨oc23,od23,.func (W.fnOf "_law_none" "_law_none" (jT QS) (jR QS) (jF QS) .none kV23 dc23 pm23 an23 cd23 ct23),sl23⟩)
  (c23:W.codeIn K cd23 "_law_none"=true)
  (k23:W.keepIn K (.ref f23)=true)
  (a24:W.nsIn K mainGlobals "_law_row"=some (some (.ref f24)))
  (l24:K.lookup f24=some ⟨oc24,od24,.func (W.fnOf "_law_row" "_law_row" (jT zS) (jR zS) (jF zS) .none kV24 dc24 pm24 an24 cd24 ct24),sl24⟩)
  (c24:W.codeIn K cd24 "_law_row"=true)
  (k24:W.keepIn K (.ref f24)=true)
  (a25:W.nsIn K mainGlobals "_law_spoiled_row"=some (some (.ref f25)))
  (l25:K.lookup f25=some ⟨oc25,od25,.func (W.fnOf "_law_spoiled_row" "_law_spoiled_row" (jT QU) (jR QU) (jF QU) .none kV25 dc25 pm25 an25 cd25 ct25),sl25⟩)
  (c25:W.codeIn K cd25 "_law_spoiled_row"=true)
  (k25:W.keepIn K (.ref f25)=true)
  (a26:W.nsIn K mainGlobals "_law_due"=some (some (.ref f26)))
  (l26:K.lookup f26=some ⟨oc26,od26,.func (W.fnOf "_law_due" "_law_due" (jT JV) (jR JV) (jF JV) .none kV26 dc26 pm26 an26 cd26 ct26),sl26⟩)
  (c26:W.codeIn K cd26 "_law_due"=true)
  (k26:W.keepIn K (.ref f26)=true)
  (a27:W.nsIn K mainGlobals "law"=some (some (.ref f27)))
  (l27:K.lookup f27=some ⟨oc27,od27,.func (W.fnOf "law" "law" (jT v9) (jR v9) (jF v9) .none kV27 dc27 pm27 an27 cd27 ct27),sl27⟩)
  (c27:W.codeIn K cd27 "law"=true)
  (k27:W.keepIn K (.ref f27)=true)
  (z_list:W.nsIn K mainGlobals "list"=some none)
  (z_set:W.nsIn K mainGlobals "set"=some none)
  (z_len:W.nsIn K mainGlobals "len"=some none)
  (z_range:W.nsIn K mainGlobals "range"=some none)
  (z_any:W.nsIn K mainGlobals "any"=some none)
  (z_dict:W.nsIn K mainGlobals "dict"=some none)
  (z_str:W.nsIn K mainGlobals "str"=some none)
  (z_isinstance:W.nsIn K mainGlobals "isinstance"=some none)
  (z_bool:W.nsIn K mainGlobals "bool"=some none)
  (ht:W.tabIn K "law"=some (cL,tL)) :
  ∃fd:FuncData,(∀(s:Shared) (v:Value),BindsTo s fd ⟨[v],[]⟩ [("_law_script",v)])∧∀base:Heap,K.In base→base.Ns mainGlobals mg→W.CodeHd base cL tL→base.BuiltinsAt mg tL→PySem.mainGlobals≠tL→FnOkL l.prog w K mg base kC 12 fa fd ["_law_script"] (dA tL K):=by
 have e:=hfa.symm.trans (W.mg_of X G a27)
 cases e
 have F2:=qD (st:=J0) l2 c2 k2
 have b2:=F2.binds (ps:=["first","ahead","ended","row"]) fun _ _ _ _ _ _ us hl=>match us,hl with|[_,_,_,_],_=>rfl
 have F3:=qD (st:=QX) l3 c3 k3
 have b3:=F3.binds (ps:=["layer","ahead"]) fun _ _ _ _ _ _ us hl=>match us,hl with|[_,_],_=>rfl
 have F4:=qD (st:=QY) l4 c4 k4
 have b4:=F4.binds (ps:=["layer","fresh"]) fun _ _ _ _ _ _ us hl=>match us,hl with|[_,_],_=>rfl
 have F5:=qD (st:=JY) l5 c5 k5
 have b5:=F5.binds (ps:=["first","ahead","layers"]) fun _ _ _ _ _ _ us hl=>match us,hl with|[_,_,_],_=>rfl
 have F6:=qD (st:=Q0) l6 c6 k6
 have b6:=F6.binds (ps:=["layers"]) fun _ _ _ _ _ _ us hl=>match us,hl with|[_],_=>rfl
 have F7:=qD (st:=JZ) l7 c7 k7
 have b7:=F7.binds (ps:=["layers","ended"]) fun _ _ _ _ _ _ us hl=>match us,hl with|[_,_],_=>rfl
 have F8:=qD (st:=z5) l8 c8 k8
 have b8:=F8.binds (ps:=["first","ahead","ended","layers"]) fun _ _ _ _ _ _ us hl=>match us,hl with|[_,_,_,_],_=>rfl
 have F9:=qD (st:=QZ) l9 c9 k9
 have b9:=F9.binds (ps:=["first","ahead","ended","row","layers"]) fun _ _ _ _ _ _ us hl=>match us,hl with|[_,_,_,_,_],_=>rfl
 have F10:=qD (st:=QM) l10 c10 k10
 have b10:=F10.binds (ps:=["_law_script","_law_k"]) fun _ _ _ _ _ _ us hl=>match us,hl with|[_,_],_=>rfl
 have F11:=qD (st:=QQ) l11 c11 k11
 have b11:=F11.binds (ps:=["_law_mode","_law_v"]) fun _ _ _ _ _ _ us hl=>match us,hl with|[_,_],_=>rfl
 have F12:=qD (st:=QN) l12 c12 k12
 have b12:=F12.binds (ps:=["_law_mode","_law_j"]) fun _ _ _ _ _ _ us hl=>match us,hl with|[_,_],_=>rfl
 have F13:=qD (st:=QP) l13 c13 k13
 have b13:=F13.binds (ps:=["_law_table_here","_law_mode","_law_v","_law_w"]) fun _ _ _ _ _ _ us hl=>match us,hl with|[_,_,_,_],_=>rfl
 have F14:=qD (st:=QV) l14 c14 k14
 have b14:=F14.binds (ps:=["_law_script","_law_mode","_law_many"]) fun _ _ _ _ _ _ us hl=>match us,hl with|[_,_,_],_=>rfl
 have F15:=qD (st:=QR) l15 c15 k15
 have b15:=F15.binds (ps:=["_law_cell","_law_mode","_law_many"]) fun _ _ _ _ _ _ us hl=>match us,hl with|[_,_,_],_=>rfl
 have F16:=qD (st:=QL) l16 c16 k16
 have b16:=F16.binds (ps:=["_law_layer","_law_table_here"]) fun _ _ _ _ _ _ us hl=>match us,hl with|[_,_],_=>rfl
 have F17:=qD (st:=JW) l17 c17 k17
 have b17:=F17.binds (ps:=["_law_first","_law_table_here","_law_marks_here"]) fun _ _ _ _ _ _ us hl=>match us,hl with|[_,_,_],_=>rfl
 have F18:=qD (st:=z4) l18 c18 k18
 have b18:=F18.binds (ps:=["_law_layers_here","_law_cell","_law_other"]) fun _ _ _ _ _ _ us hl=>match us,hl with|[_,_,_],_=>rfl
 have F19:=qD (st:=QT) l19 c19 k19
 have b19:=F19.binds (ps:=["_law_layers_here"]) fun _ _ _ _ _ _ us hl=>match us,hl with|[_],_=>rfl
 have F20:=qD (st:=QO) l20 c20 k20
 have b20:=F20.binds (ps:=["_law_first","_law_table_here","_law_layers_here"]) fun _ _ _ _ _ _ us hl=>match us,hl with|[_,_,_],_=>rfl
 have F21:=qD (st:=JX) l21 c21 k21
 have b21:=F21.binds (ps:=["_law_table_here","_law_state","_law_row_here"]) fun _ _ _ _ _ _ us hl=>match us,hl with|[_,_,_],_=>rfl
 have F22:=qD (st:=QW) l22 c22 k22
 have b22:=F22.binds (ps:=["_law_layers_here","_law_marks_here"]) fun _ _ _ _ _ _ us hl=>match us,hl with|[_,_],_=>rfl
 have F23:=qD (st:=QS) l23 c23 k23
 have b23:=F23.binds (ps:=["_law_table_here"]) fun _ _ _ _ _ _ us hl=>match us,hl with|[_],_=>rfl
 have F24:=qD (st:=zS) l24 c24 k24
 have b24:=F24.binds (ps:=["_law_layers_here","_law_table_here","_law_marks_here","_law_mode"]) fun _ _ _ _ _ _ us hl=>match us,hl with|[_,_,_,_],_=>rfl
 have F25:=qD (st:=QU) l25 c25 k25
 have b25:=F25.binds (ps:=["_law_row_here","_law_cell","_law_table_here","_law_first","_law_mode"]) fun _ _ _ _ _ _ us hl=>match us,hl with|[_,_,_,_,_],_=>rfl
 have F26:=qD (st:=JV) l26 c26 k26
 have b26:=F26.binds (ps:=["_law_first","_law_table_here","_law_marks_here","_law_row_here","_law_layers_here"]) fun _ _ _ _ _ _ us hl=>match us,hl with|[_,_,_,_,_],_=>rfl
 have F27:=qD (st:=v9) l27 c27 k27
 have b27:=F27.binds (ps:=["_law_script"]) fun _ _ _ _ _ _ us hl=>match us,hl with|[_],_=>rfl
 have T:Txt K mg:={z_list:=W.mg_none_of X G z_list,z_set:=W.mg_none_of X G z_set,z_len:=W.mg_none_of X G z_len,z_range:=W.mg_none_of X G z_range,z_any:=W.mg_none_of X G z_any,z_dict:=W.mg_none_of X G z_dict,z_str:=W.mg_none_of X G z_str,z_isinstance:=W.mg_none_of X G z_isinstance,z_bool:=W.mg_none_of X G z_bool}
 refine ⟨W.fnOf "law" "law" (jT v9) (jR v9) (jF v9) .none kV27 dc27 pm27 an27 cd27 ct27,fun s v=>.of_eq rfl,fun base _ _ hC hB hgT=>?_⟩
 have hcL:=W.law_code X G ht hfa (X _ _ l27) rfl
 have V0:=rD (P:=l.prog) (w:=w) (base:=base) T
 have V1:=rE (P:=l.prog) (w:=w) (base:=base) T
 have D2:Def l.prog w K mg base 6 "row_holds" _ [] _:=⟨_,_,[],sD F2 T V0 V1,W.mg_of X G a2,k2,.nil,b2⟩
 have D3:Def l.prog w K mg base 5 "come_to_from" _ [] _:=⟨_,_,[],rY F3 T V0,W.mg_of X G a3,k3,.nil,b3⟩
 have D4:Def l.prog w K mg base 1 "is_layer_of" _ [] _:=⟨_,_,[],rZ F4 T,W.mg_of X G a4,k4,.nil,b4⟩
 have D5:Def l.prog w K mg base 7 "layers_hold" _ [] _:=⟨_,_,[],r9 F5 T D3 D4,W.mg_of X G a5,k5,.nil,b5⟩
 have D6:Def l.prog w K mg base 1 "states_of" _ [] _:=⟨_,_,[],sK F6 T,W.mg_of X G a6,k6,.nil,b6⟩
 have D7:Def l.prog w K mg base 6 "none_ended" _ [] _:=⟨_,_,[],sC F7 T D6 V1,W.mg_of X G a7,k7,.nil,b7⟩
 have D8:Def l.prog w K mg base 9 "shows_closed" _ [] _:=⟨_,_,[],sE F8 T D5 D6 D3 D7,W.mg_of X G a8,k8,.nil,b8⟩
 have D9:Def l.prog w K mg base 9 "shows_found" _ [] _:=⟨_,_,[],sH F9 T D2 D5 D7,W.mg_of X G a9,k9,.nil,b9⟩
 have D10:Def l.prog w K mg base 1 "_law_cell_at" _ [] _:=⟨_,_,[],rG F10 T,W.mg_of X G a10,k10,.nil,b10⟩
 have D11:Def l.prog w K mg base 2 "_law_label" _ [] _:=⟨_,_,[],rM F11 T,W.mg_of X G a11,k11,.nil,b11⟩
 have D12:Def l.prog w K mg base 2 "_law_deed" _ [] _:=⟨_,_,[],rH F12 T,W.mg_of X G a12,k12,.nil,b12⟩
 have D13:Def l.prog w K mg base 4 "_law_joined" _ [] _:=⟨_,_,[],rL F13 T D11 D12,W.mg_of X G a13,k13,.nil,b13⟩
 have D14:Def l.prog w K mg base 6 "_law_table" _ [] _:=⟨_,_,[],rV F14 T D11 D10 D13,W.mg_of X G a14,k14,.nil,b14⟩
 have D15:Def l.prog w K mg base 4 "_law_marks" _ [] _:=⟨_,_,[],rO F15 T D11,W.mg_of X G a15,k15,.nil,b15⟩
 have D16:Def l.prog w K mg base 2 "_law_behind" _ [] _:=⟨_,_,[],rF F16 T,W.mg_of X G a16,k16,.nil,b16⟩
 have D17:Def l.prog w K mg base 4 "_law_layers" _ [] _:=⟨_,_,[],rN F17 T D16,W.mg_of X G a17,k17,.nil,b17⟩
 have D18:Def l.prog w K mg base 1 "_law_spoiled" _ [] _:=⟨_,_,[],rS F18 T,W.mg_of X G a18,k18,.nil,b18⟩
 have D19:Def l.prog w K mg base 1 "_law_once" _ [] _:=⟨_,_,[],rQ F19 T,W.mg_of X G a19,k19,.nil,b19⟩
 have D20:Def l.prog w K mg base 4 "_law_hold" _ [] _:=⟨_,_,[],rK F20 T D19 D16,W.mg_of X G a20,k20,.nil,b20⟩
 have D21:Def l.prog w K mg base 4 "_law_walked" _ [] _:=⟨_,_,[],rX F21 T,W.mg_of X G a21,k21,.nil,b21⟩
 have D22:Def l.prog w K mg base 1 "_law_unended" _ [] _:=⟨_,_,[],rW F22 T,W.mg_of X G a22,k22,.nil,b22⟩
 have D23:Def l.prog w K mg base 1 "_law_none" _ [] _:=⟨_,_,[],rP F23 T,W.mg_of X G a23,k23,.nil,b23⟩
 have D24:Def l.prog w K mg base 4 "_law_row" _ [] _:=⟨_,_,[],rR F24 T D16,W.mg_of X G a24,k24,.nil,b24⟩
 have D25:Def l.prog w K mg base 5 "_law_spoiled_row" _ [] _:=⟨_,_,[],rT F25 T D12 D21,W.mg_of X G a25,k25,.nil,b25⟩
 have D26:Def l.prog w K mg base 6 "_law_due" _ [] _:=⟨_,_,[],rJ F26 T D20 D16 D22 D21,W.mg_of X G a26,k26,.nil,b26⟩
 have G27:=r6 (P:=l.prog) (w:=w) (base:=base) F27 T hcL hC hB hgT D10 D11 D14 D15 D17 D23 D24 D25 D18 D8 D9 D26
 exact G27
theorem tabIn_mk {K:W.Frag} {x:Str} {f c P:Addr} {oc oc2:Value} {od od2:Option Addr} {fd:FuncData} {sl sl2:Array (Option Value)} {vs:Array Value} (h1:W.nsIn K mainGlobals x=some (some (.ref f))) (h2:K.lookup f=some ⟨oc,od,.func fd,sl⟩) (h3:fd.code=.ref c) (h4:K.lookup c=some ⟨oc2,od2,.fields vs,sl2⟩) (h5:(vs[11]?:Option Value)=some (.ref P)):W.tabIn K x=some (c,P):=by
 unfold W.tabIn
 simp only [h1,h2,h3,h4,h5]
theorem walk {l:W.OpenLaw} {q:Program} {loose:List Str} {XP:(Str→Option Value)→Heap→Prop} {YP:World→Heap→Prop} {d:DefRec} {K:Params→W.Frag} {cL tL:Addr} (hn:l.most=some 63) (hdf:d.params.defaults=[])
  (hrec:(PyProof.Rows.recsOf q).find? (fun e=>e.name == d.name)=some d) (htab:∀P:Params,W.tabIn (K P) d.name=some (cL,tL)) (hno:∀P:Params,W.noTabs (K P)=true)
  (hY:∀(w:World) (h:Heap),YP w h→(K w.params).In h)
  (F:∀(w:World) (mg:Str→Option Value) (fa:Addr) (h:Heap),(K w.params).In h→h.Ns mainGlobals mg→mg d.name=some (.ref fa)→
   ∃fd:FuncData,(∀(s:Shared) (u:Value),BindsTo s fd ⟨[u],[]⟩ [("_law_script",u)])∧∀base:Heap,(K w.params).In base→base.Ns mainGlobals mg→W.CodeHd base cL tL→base.BuiltinsAt mg tL→PySem.mainGlobals≠tL→FnOkL l.prog w (K w.params) mg base kC 12 fa fd ["_law_script"] (dA tL (K w.params))) :
  W.WalkO q loose XP YP l.row.toRowW d [] (fun f vs=>PySem.call f vs) :=
 L2.walk_ofT (n:=63) (k:=12) (x:="_law_script") (CX:=fun _=>kC) (sp:=fun w tL=>dA tL (K w.params)) hn (by decide) hdf ⟨rfl,by decide,by decide⟩ hrec htab hno hY F (fun _ _ a ns xs hX hl hO hS=>⟨a,xs,ns,rfl,hS,hX,hl,hO.1,fun _=>rfl⟩) fun _ _ _ _ _ z=>z
end My
/- These names are taken here so that the head below leaves out its twins of whole states (they are not needed,and make the compiled file larger than a hand-in may be). -/
def PySem.W.Fast.tw18222920099245114148:Nat:=0
def PySem.W.Fast.tw5162295089165359997:Nat:=0
def PySem.W.Fast.tw9001501037581684526:Nat:=0
def PySem.W.Fast.tw14026807769774150982:Nat:=0
def PySem.W.Fast.tw15894665638829044454:Nat:=0
def PySem.W.Fast.tw3516136798957078027:Nat:=0
def PySem.W.Fast.tw14029053739370721977:Nat:=0
def PySem.W.Fast.tw15423118552171706090:Nat:=0
def PySem.W.Fast.tw9512178010994516430:Nat:=0
def PySem.W.Fast.tw14080703714577583754:Nat:=0
def PySem.W.Fast.tw15970359154871119041:Nat:=0
def PySem.W.Fast.tw12329451260022812624:Nat:=0
def PySem.W.Fast.tw10591313415999141192:Nat:=0
def PySem.W.Fast.tw8073453353267057882:Nat:=0
def PySem.W.Fast.tw17601280913547851249:Nat:=0
def PySem.W.Fast.tw2687527967902554959:Nat:=0
def PySem.W.Fast.tw15855879556114999328:Nat:=0
def PySem.W.Fast.tw11455390890310548251:Nat:=0
def PySem.W.Fast.tw9055128797063172621:Nat:=0
def PySem.W.Fast.tw7899569935999157426:Nat:=0
def PySem.W.Fast.tw17376868075745840317:Nat:=0
def PySem.W.Fast.tw12858932438954370945:Nat:=0
def PySem.W.Fast.tw4963245125200260469:Nat:=0
def PySem.W.Fast.tw10314887023031166707:Nat:=0
def PySem.W.Fast.tw8086796377294887100:Nat:=0
def PySem.W.Fast.tw1017889377822076213:Nat:=0
def PySem.W.Fast.tw8084989059918374665:Nat:=0
def PySem.W.Fast.tw6941691123497445082:Nat:=0
def PySem.W.Fast.tw9557689664087968834:Nat:=0
def PySem.W.Fast.tw16975877488084054076:Nat:=0
def PySem.W.Fast.tw9063271628614715550:Nat:=0
def PySem.W.Fast.tw14922905791613594764:Nat:=0
def PySem.W.Fast.tw2490018120556066273:Nat:=0
def PySem.W.Fast.tw13338648373521163969:Nat:=0
def PySem.W.Fast.tw15436134027683731010:Nat:=0
def PySem.W.Fast.tw3844410566137057372:Nat:=0
def PySem.W.Fast.tw406852947526705749:Nat:=0
def PySem.W.Fast.tw16499004853798737289:Nat:=0
def PySem.W.Fast.tw1174157090247996174:Nat:=0
def PySem.W.Fast.tw5572988946449247167:Nat:=0
def PySem.W.Fast.tw8694506901358776520:Nat:=0
def PySem.W.Fast.tw4541764190615789463:Nat:=0
def PySem.W.Fast.tw5820078490829006981:Nat:=0
def PySem.W.Fast.tw6619074861183002907:Nat:=0
def PySem.W.Fast.tw1033046078315148338:Nat:=0
def PySem.W.Fast.tw17065090560840362865:Nat:=0
def PySem.W.Fast.tw11399329670770159366:Nat:=0
def PySem.W.Fast.tw15218389448185305837:Nat:=0
def PySem.W.Fast.tw4174762384726484509:Nat:=0
def PySem.W.Fast.tw18173931811893675431:Nat:=0
def PySem.W.Fast.tw1125539770360690567:Nat:=0
def PySem.W.Fast.tw293463726207096197:Nat:=0
def PySem.W.Fast.tw15937324313480120444:Nat:=0
def PySem.W.Fast.tw14838450425254928049:Nat:=0
def PySem.W.Fast.tw3697630821185799128:Nat:=0
def PySem.W.Fast.tw4103301434707572452:Nat:=0
def PySem.W.Fast.tw14195010927558823962:Nat:=0
def PySem.W.Fast.tw5135822619112370956:Nat:=0
def PySem.W.Fast.tw5440343989683243184:Nat:=0
def PySem.W.Fast.tw4563644801890598170:Nat:=0
def PySem.W.Fast.tw9642433573040947046:Nat:=0
def PySem.W.Fast.tw11491296295200764040:Nat:=0
def PySem.W.Fast.tw1222800600284052076:Nat:=0
def PySem.W.Fast.tw2863595577058020821:Nat:=0
def PySem.W.Fast.tw14211569203146573090:Nat:=0
def PySem.W.Fast.tw15766933248315775946:Nat:=0
open PySem PySem.W PyProof.Rows
set_option maxRecDepth 100000 in
set_option maxHeartbeats 0 in
theorem PySem.Challenge.cw_lockhouse_k53_papers_show_holds : PySem.Challenge.rw_lockhouse_k53_papers_show.Holds := by
 w_on;o_law;k_head;(case hw=>w_witness2)
 k_fill
 refine' My.walk (l:=PySem.Challenge.rw_lockhouse_k53_papers_show) rfl rfl ?rec ?tab ?no (fun w h Y=>PySem.W.km_in_of Y) ?F
 case tab =>
  intro P
  refine' My.tabIn_mk ?t1 ?t2 ?t3 ?t4 ?t5
  (case t1=>k_is)
  (case t2=>k_is)
  (case t3=>rfl)
  (case t4=>k_is)
  (case t5=>rfl)
 case rec=>kernel_rfl
 case no=>intro P;kernel_rfl
 case F =>
  intro w mg fa h KX G hmg
  refine' My.all_mk KX G hmg ?a2 ?l2 ?c2 ?k2 ?a3 ?l3 ?c3 ?k3 ?a4 ?l4 ?c4 ?k4 ?a5 ?l5 ?c5 ?k5 ?a6 ?l6 ?c6 ?k6 ?a7 ?l7 ?c7 ?k7 ?a8 ?l8 ?c8 ?k8 ?a9 ?l9 ?c9 ?k9 ?a10 ?l10 ?c10 ?k10 ?a11 ?l11 ?c11 ?k11 ?a12 ?l12 ?c12 ?k12 ?a13 ?l13 ?c13 ?k13 ?a14 ?l14 ?c14 ?k14 ?a15 ?l15 ?c15 ?k15 ?a16 ?l16 ?c16 ?k16 ?a17 ?l17 ?c17 ?k17 ?a18 ?l18 ?c18 ?k18 ?a19 ?l19 ?c19 ?k19 ?a20 ?l20 ?c20 ?k20 ?a21 ?l21 ?c21 ?k21 ?a22 ?l22 ?c22 ?k22 ?a23 ?l23 ?c23 ?k23 ?a24 ?l24 ?c24 ?k24 ?a25 ?l25 ?c25 ?k25 ?a26 ?l26 ?c26 ?k26 ?a27 ?l27 ?c27 ?k27 ?z_list ?z_set ?z_len ?z_range ?z_any ?z_dict ?z_str ?z_isinstance ?z_bool ?ht
  (case a2=>first|k_is|rfl)
  (case l2=>first|k_is|rfl)
  (case c2=>first|k_is|rfl)
  (case k2=>first|k_is|rfl)
  (case a3=>first|k_is|rfl)
  (case l3=>first|k_is|rfl)
  (case c3=>first|k_is|rfl)
  (case k3=>first|k_is|rfl)
  (case a4=>first|k_is|rfl)
  (case l4=>first|k_is|rfl)
  (case c4=>first|k_is|rfl)
  (case k4=>first|k_is|rfl)
  (case a5=>first|k_is|rfl)
  (case l5=>first|k_is|rfl)
  (case c5=>first|k_is|rfl)
  (case k5=>first|k_is|rfl)
  (case a6=>first|k_is|rfl)
  (case l6=>first|k_is|rfl)
  (case c6=>first|k_is|rfl)
  (case k6=>first|k_is|rfl)
  (case a7=>first|k_is|rfl)
  (case l7=>first|k_is|rfl)
  (case c7=>first|k_is|rfl)
  (case k7=>first|k_is|rfl)
  (case a8=>first|k_is|rfl)
  (case l8=>first|k_is|rfl)
  (case c8=>first|k_is|rfl)
  (case k8=>first|k_is|rfl)
  (case a9=>first|k_is|rfl)
  (case l9=>first|k_is|rfl)
  (case c9=>first|k_is|rfl)
  (case k9=>first|k_is|rfl)
  (case a10=>first|k_is|rfl)
  (case l10=>first|k_is|rfl)
  (case c10=>first|k_is|rfl)
  (case k10=>first|k_is|rfl)
  (case a11=>first|k_is|rfl)
  (case l11=>first|k_is|rfl)
  (case c11=>first|k_is|rfl)
  (case k11=>first|k_is|rfl)
  (case a12=>first|k_is|rfl)
  (case l12=>first|k_is|rfl)
  (case c12=>first|k_is|rfl)
  (case k12=>first|k_is|rfl)
  (case a13=>first|k_is|rfl)
  (case l13=>first|k_is|rfl)
  (case c13=>first|k_is|rfl)
  (case k13=>first|k_is|rfl)
  (case a14=>first|k_is|rfl)
  (case l14=>first|k_is|rfl)
  (case c14=>first|k_is|rfl)
  (case k14=>first|k_is|rfl)
  (case a15=>first|k_is|rfl)
  (case l15=>first|k_is|rfl)
  (case c15=>first|k_is|rfl)
  (case k15=>first|k_is|rfl)
  (case a16=>first|k_is|rfl)
  (case l16=>first|k_is|rfl)
  (case c16=>first|k_is|rfl)
  (case k16=>first|k_is|rfl)
  (case a17=>first|k_is|rfl)
  (case l17=>first|k_is|rfl)
  (case c17=>first|k_is|rfl)
  (case k17=>first|k_is|rfl)
  (case a18=>first|k_is|rfl)
  (case l18=>first|k_is|rfl)
  (case c18=>first|k_is|rfl)
  (case k18=>first|k_is|rfl)
  (case a19=>first|k_is|rfl)
  (case l19=>first|k_is|rfl)
  (case c19=>first|k_is|rfl)
  (case k19=>first|k_is|rfl)
  (case a20=>first|k_is|rfl)
  (case l20=>first|k_is|rfl)
  (case c20=>first|k_is|rfl)
  (case k20=>first|k_is|rfl)
  (case a21=>first|k_is|rfl)
  (case l21=>first|k_is|rfl)
  (case c21=>first|k_is|rfl)
  (case k21=>first|k_is|rfl)
  (case a22=>first|k_is|rfl)
  (case l22=>first|k_is|rfl)
  (case c22=>first|k_is|rfl)
  (case k22=>first|k_is|rfl)
  (case a23=>first|k_is|rfl)
  (case l23=>first|k_is|rfl)
  (case c23=>first|k_is|rfl)
  (case k23=>first|k_is|rfl)
  (case a24=>first|k_is|rfl)
  (case l24=>first|k_is|rfl)
  (case c24=>first|k_is|rfl)
  (case k24=>first|k_is|rfl)
  (case a25=>first|k_is|rfl)
  (case l25=>first|k_is|rfl)
  (case c25=>first|k_is|rfl)
  (case k25=>first|k_is|rfl)
  (case a26=>first|k_is|rfl)
  (case l26=>first|k_is|rfl)
  (case c26=>first|k_is|rfl)
  (case k26=>first|k_is|rfl)
  (case a27=>first|k_is|rfl)
  (case l27=>first|k_is|rfl)
  (case c27=>first|k_is|rfl)
  (case k27=>first|k_is|rfl)
  (case z_list=>first|k_is|rfl)
  (case z_set=>first|k_is|rfl)
  (case z_len=>first|k_is|rfl)
  (case z_range=>first|k_is|rfl)
  (case z_any=>first|k_is|rfl)
  (case z_dict=>first|k_is|rfl)
  (case z_str=>first|k_is|rfl)
  (case z_isinstance=>first|k_is|rfl)
  (case z_bool=>first|k_is|rfl)
  (case ht=>kernel_rfl)
