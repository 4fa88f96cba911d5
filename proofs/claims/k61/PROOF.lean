import PyProof.Rows.All
import Wide.All
import OpenK.AllK
import Wide.FinOn
import Lean
import PyProof.EqAt
import PyProof.EqKinds
import PyProof.TupleCall
import PyProof.NeKinds
import OpenK.KOwn
import KE.KTryMore
import KE.RegKTryMore
import PyProof.NsDelKeeps
import KE.KIntText
import PySem.Challenge.RW_lockhouse_k61_a_boat_comes
set_option Elab.async false
set_option linter.all false
set_option maxRecDepth 100000
namespace L2
abbrev aa:=@List.getElem?_eq_getElem
abbrev ac:=@PySem.wpAny_bind
abbrev ad:=@List.length_map
abbrev ae:=@List.size_toArray
abbrev af:=@List.getD_eq_getElem?_getD
abbrev ag:=@List.getElem?_eq_some_iff
abbrev ai:=@Nat.le_refl
abbrev aj:=@List.length_append
abbrev ak:=@PySem.F.plainAttrs_list
abbrev am:=@List.mem_cons
abbrev ao:=@PySem.Heap.get?_push_of_some
abbrev aq:=@PySem.Heap.lt_size
abbrev ar:=@Nat.lt_of_lt_of_le
abbrev au:=@Bool.false_ne_true
abbrev av:=@PySem.F.slot_list_append
abbrev aw:=@PySem.F.type_list_append
abbrev ax:=@List.getElem?_map
abbrev ay:=@PySem.Heap.get?_push_size
abbrev az:=@Option.some.inj
abbrev aA:=@List.mem_nil_iff
abbrev aC:=@List.mem_cons_of_mem
abbrev aD:=@Int.toNat_natCast
abbrev aE:=@List.getElem?_append_right
abbrev aF:=@PySem.W.mg_of
abbrev aG:=@Nat.zero_le
abbrev aH:=@Nat.ne_of_lt
abbrev aI:=@PyProof.Rows.boot_list
abbrev aJ:=@List.getElem?_append_left
abbrev aK:=@decide_eq_false
abbrev aL:=@List.map_append
abbrev aM:=@PySem.wpAny_pure
abbrev aN:=@List.take_add_one
abbrev aO:=@decide_eq_true
abbrev aP:=@List.mem_of_getElem?
abbrev aQ:=@List.mem_cons_self
abbrev aR:=@Nat.le_trans
abbrev aS:=@List.mem_append_right
abbrev aT:=@List.replicate_succ
abbrev aU:=@PyProof.Rows.boot_isinstance
abbrev aV:=@List.take_length
abbrev aW:=@List.length_set
abbrev aX:=@List.mem_singleton
abbrev aY:=@PySem.W.mg_none_of
abbrev aZ:=@List.length_replicate
abbrev ba:=@PyProof.Rows.boot_tuple
abbrev bb:=@Option.map_eq_some_iff
abbrev bc:=@List.mem_append
abbrev bf:=@List.length_singleton
abbrev bg:=@or_false
abbrev bh:=@Nat.lt_irrefl
abbrev bi:=@List.lookup_cons
abbrev bj:=@PySem.wpAny_field
abbrev bn:=@List.getElem?_eq_none
abbrev bo:=@of_decide_eq_true
abbrev bp:=@PySem.wpAny_mono
abbrev bq:=@List.length_cons
abbrev br:=@List.all_eq_true
abbrev bu:=@List.getElem?_set_self
abbrev bv:=@beq_eq_false_iff_ne
abbrev bw:=@congrArg
abbrev bx:=@List.append_nil
abbrev bz:=@PySem.PassesOwn.never
abbrev cb:=@List.getElem_mem
abbrev cc:=@List.getElem?_set_ne
abbrev cf:=@List.getElem?_replicate
abbrev cg:=@Bool.eq_false_iff
abbrev ci:=@Array.length_toList
abbrev ck:=@PyProof.Rows.callWith_type1
abbrev cm:=@Nat.not_lt_zero
abbrev cp:=@PySem.F.slot_tuple_iterator_next
abbrev cq:=@Array.getElem?_eq_some_iff
abbrev cu:=@List.length_take
abbrev cv:=@Bool.and_eq_true
abbrev cw:=@beq_self_eq_true
abbrev cx:=@List.mem_filterMap
abbrev cy:=@PySem.wpAny_Call_Name_kw
abbrev cz:=@PySem.W.callWith_K
abbrev da:=@PySem.wpAny_setField_rec
abbrev dc:=@Int.emod_lt_of_pos
abbrev de:=@PySem.wpAny_seqItems
abbrev dg:=@List.flatten_cons
abbrev dh:=@List.length_range
abbrev di:=@PySem.mem_of_lookup
abbrev dk:=@List.getElem?_range
abbrev dm:=@PySem.wpAny_callSpecial?_slot
abbrev dn:=@PySem.Heap.size_push
abbrev dq:=@PySem.Heap.get?_update_other
abbrev dt:=@Nat.ne_of_gt
abbrev du:=@List.nodup_cons
abbrev dv:=@Int.emod_nonneg
abbrev dw:=@List.mem_iff_getElem?
abbrev dz:=@Int.zero_add
abbrev ec:=@PyProof.Rows.boot_int
abbrev ed:=@PySem.wpAny_truthy_bool
abbrev eh:=@PySem.call_meets
abbrev ei:=@decide_eq_true_eq
abbrev em:=@PySem.W.looks_findIn
abbrev eo:=@List.filterMap_cons
abbrev er:=@beq_iff_eq
abbrev eu:=@PySem.wpAny_comprehension_free
abbrev ey:=@Nat.succ.inj
abbrev fb:=@PySem.wpAny_passesOwn
abbrev fe:=@Bool.eq_iff_iff
abbrev ff:=@PySem.SeqAt.EqAt.of_refs
abbrev fg:=@PySem.Obj.data_mapFields
abbrev fh:=@PySem.F.slot_list_index
abbrev fi:=@PySem.F.type_list_index
abbrev fj:=@PySem.W.cellsFrom_some
abbrev fk:=@PySem.wpAny_newObj_type
abbrev fm:=@Nat.le_of_lt
abbrev fo:=@PySem.codeAny_mono
abbrev fq:=@PySem.W.methodCall_KW
abbrev ft:=@PySem.Heap.get?_update_self
abbrev fu:=@Nat.sub_self
abbrev fw:=@PySem.wpAny_call_entry
abbrev fz:=@List.mem_append_left
abbrev gb:=@PySem.wpAny_updateSeq_pair
abbrev gc:=@PySem.wpAny_onRaise
abbrev ge:=@Bool.and_true
abbrev gg:=@PySem.wpAny_execs_nil
abbrev gh:=@List.of_mem_zip
abbrev gj:=@PySem.SeqAt.EqAt.same
abbrev gk:=@PySem.F.slot_int_rmul
abbrev gl:=@PySem.F.slot_zip_next
open PySem PySem.Spec PyProof.Rows
abbrev vQ:=Sum Int Str
def uM:vQ→Value→Bool
 |.inl k,v=>Value.isInt k v
 |.inr x,v=>Value.isStrOf x v
def KN (w:World):vQ→Int
 |.inl k=>hashInt k
 |.inr x=>hashStr w x
theorem z3:∀{k:vQ} {v:Value},uM k v=true→(∃i t,k=Sum.inl i∧v=Value.int i t)∨(∃x t,k=Sum.inr x∧v=Value.str x t)
 |.inl i,v,h=>by
  obtain ⟨t,e⟩:=Value.isInt_shape (k:=i) (v:=v) h;exact .inl ⟨i,t,rfl,e⟩
 |.inr x,v,h=>by
  obtain ⟨t,e⟩:=Value.isStrOf_shape (x:=x) (v:=v) h;exact .inr ⟨x,t,rfl,e⟩
theorem HF (a b:Int):decide ((Sum.inl a:vQ)=Sum.inl b)=(a == b):=by
 by_cases e:a=b
 ·subst e;simp
 ·have h:¬(Sum.inl a:vQ)=Sum.inl b:=fun q=>e (Sum.inl.inj q)
  rw [aK h];exact (bv.mpr e).symm
theorem HB (a b:Str):decide ((Sum.inr a:vQ)=Sum.inr b)=decide (a=b):=by
 by_cases e:a=b
 ·subst e;simp
 ·have h:¬(Sum.inr a:vQ)=Sum.inr b:=fun q=>e (Sum.inr.inj q)
  rw [aK h,aK e]
theorem HE (a:Int) (b:Str):decide ((Sum.inl a:vQ)=Sum.inr b)=false:=aK (fun q=>nomatch q)
theorem HD (a:Str) (b:Int):decide ((Sum.inr a:vQ)=Sum.inl b)=false:=aK (fun q=>nomatch q)
def tD (prog:Program) (w:World):PySem.KeyKind prog w vQ where
 is:=uM
 hash:=KN w
 inj:=fun v a b ha hb=>by
  rcases z3 ha with ⟨i,t,rfl,rfl⟩|⟨x,t,rfl,rfl⟩
  ·rcases z3 hb with ⟨j,u,rfl,e⟩|⟨y,u,rfl,e⟩
   ·injection e with e1 _;rw [e1]
   ·exact nomatch e
  ·rcases z3 hb with ⟨j,u,rfl,e⟩|⟨y,u,rfl,e⟩
   ·exact nomatch e
   ·injection e with e1 _;rw [e1]
 byValue:=fun k v h=>by
  rcases z3 h with ⟨i,t,rfl,rfl⟩|⟨x,t,rfl,rfl⟩<;>rfl
 pyHash:=fun hv h=>by
  rcases z3 hv with ⟨i,t,rfl,rfl⟩|⟨x,t,rfl,rfl⟩
  ·exact wpAny_pyHash_int h
  ·exact wpAny_pyHash_str h
 eqBool:=fun hu hv h=>by
  rcases z3 hu with ⟨i,t,rfl,rfl⟩|⟨x,t,rfl,rfl⟩
  ·rcases z3 hv with ⟨j,u,rfl,rfl⟩|⟨y,u,rfl,rfl⟩
   ·rw [HF] at h;exact wpAny_eqBool_int h
   ·rw [HE] at h;exact SeqAt.EqAt.int_str i t y u _ _ _ _ h
  ·rcases z3 hv with ⟨j,u,rfl,rfl⟩|⟨y,u,rfl,rfl⟩
   ·rw [HD] at h;exact SeqAt.EqAt.str_int x t j u _ _ _ _ h
   ·rw [HB] at h;exact wpAny_eqBool_str h
 «strs»:=fun k x t v h=>by
  rcases z3 h with ⟨i,u,rfl,e⟩|⟨y,u,rfl,e⟩
  ·exact nomatch e
  ·injection e with e1 _
   subst e1;cases v<;>rfl
inductive V where
 |non|bl (b:Bool)|int (i:Int)|str (x:Str)|byt (b:Array UInt8)|flt (b:UInt64)|ref (a:Addr)|ty (n:String)
 deriving DecidableEq
def RelV:V→Value→Prop
 |.non,u=>u=Value.none
 |.bl b,u=>u=Value.bool b
 |.int i,u=>∃t,u=Value.int i t
 |.str x,u=>∃t,u=Value.str x t
 |.byt b,u=>∃t,u=Value.bytes b t
 |.flt b,u=>∃t,u=Value.float b t
 |.ref a,u=>u=Value.ref a
 |.ty n,u=>u=Value.type n
abbrev Vals:List V→List Value→Prop:=Paired RelV
theorem Vals.length {xs:List V} {us:List Value} (r:Vals xs us):xs.length=us.length:=Paired.length r
theorem Vals.get:∀{xs:List V} {us:List Value} {i:Nat} {x:V},Vals xs us→xs[i]?=some x→∃u,us[i]?=some u∧RelV x u
 |_,_,_,_,.nil,e=>by simp at e
 |_,_,0,_,.cons r _,e=>by simp at e;subst e;exact ⟨_,rfl,r⟩
 |_,_,i+1,x,.cons _ t,e=>by
  obtain ⟨u,h1,h2⟩:=Vals.get (i:=i) (x:=x) t (by simpa using e);exact ⟨u,by simpa using h1,h2⟩
theorem Vals.set {x:V} {u:Value} (r:RelV x u):∀{xs:List V} {us:List Value} (i:Nat),Vals xs us→Vals (xs.set i x) (us.set i u)
 |_,_,_,.nil=>.nil
 |_,_,0,.cons _ t=>.cons r t
 |_,_,i+1,.cons q t=>.cons q (Vals.set r i t)
theorem Vals.append:∀{xs ys:List V} {us ws:List Value},Vals xs us→Vals ys ws→Vals (xs++ys) (us++ws)
 |_,_,_,_,.nil,s=>s
 |_,_,_,_,.cons r t,s=>.cons r (Vals.append t s)
theorem Vals.take:∀{xs:List V} {us:List Value} (n:Nat),Vals xs us→Vals (xs.take n) (us.take n)
 |_,_,0,_=>.nil
 |_,_,_+1,.nil=>.nil
 |_,_,n+1,.cons r t=>.cons r (Vals.take n t)
theorem Vals.drop:∀{xs:List V} {us:List Value} (n:Nat),Vals xs us→Vals (xs.drop n) (us.drop n)
 |_,_,0,r=>r
 |_,_,_+1,.nil=>.nil
 |_,_,n+1,.cons _ t=>Vals.drop n t
def RelO:Option V→Option Value→Prop
 |some v,some u=>RelV v u
 |none,none=>True
 |_,_=>False
def KV {κ:Type}:List (κ×V)→List (κ×Value)→Prop:=Paired fun (p:κ×V) (q:κ×Value)=>p.1=q.1∧RelV p.2 q.2
def kV:vQ→V
 |.inl i=>.int i
 |.inr x=>.str x
inductive HO where
 /-- a list -/
 |lst (xs:List V)
 /-- a tuple (never changes) -/
 |tup (xs:List V)
 /-- a dict whose keys are ints and texts;one whose keys are tuples of ints and texts (the empty one is both) -/
 |dK (kvs:List (vQ×V))|dT (kvs:List (List vQ×V))
 /-- a set of ints: its members,its size -/
 |set (S:Int→Bool) (n:Nat)
 /-- an instance of the class at C,its dict at dx,its attributes -/
 |ins (C dx:Addr) (fs:List (Str×V))
 /-- the dict of the instance at x -/
 |own (x:Addr)
 /-- the dict of an exception -/
 |xd (fs:List (Str×V))
 /-- a bound method,f of x -/
 |met (f x:Addr)
 /-- a range object lo,lo+1,.. below hi -/
 |rng (lo hi:Int)
 /-- a thing that is known to the object (the script;a dict while a loop walks it): read,never written while it is so -/
 |frz (o:Obj) (u:HO)
 /-- a code object's table -/
 |tbl (ps:Array Value)
 /-- any other thing,by what is true of its one object (a def of one's own: SetO a S n:=HO.ext fun h=>..) -/
 |ext (φ:Heap→Prop)
abbrev Hp:=Addr→Option HO
def upd (H:Hp) (a:Addr) (o:HO):Hp:=fun b=>if b=a then some o else H b
variable {H:Hp} {a:Addr} {o:HO}
theorem jE:upd H a o a=some o:=by unfold upd;rw [if_pos rfl]
variable {b:Addr}
theorem jL (h:b≠a):upd H a o b=H b:=by unfold upd;rw [if_neg h]
theorem qF {u:HO} (h:H a=some o) (h':H b=some u) (d:o≠u):a≠b:=by
 intro e;subst e;rw [h] at h';exact d (az h')
theorem kE (h:H a=some o) (h':H b=none):a≠b:=by
 intro e;subst e;rw [h] at h';cases h'
section
variable (P:Program) (w:World)
def ObjOk (H:Hp) (h:Heap) (a:Addr):HO→Prop
 |.lst xs=>xs.length≤sizeLine∧∃(its:List Value) (n:Nat),Vals xs its∧h.get? a=some {cls:=.type "list",data:=.seq its.toArray n}
 |.tup xs=>xs.length≤sizeLine∧∃its:List Value,Vals xs its∧IsTup h a its.toArray
 |.dK kvs=>kvs.length≤sizeLine∧(a == sysModules)=false∧∃vs,KV kvs vs∧h.DictOf (tD P w) a vs
 |.dT kvs=>kvs.length≤sizeLine∧(a == sysModules)=false∧∃xs:List (List vQ×Addr×Value),
   Paired (fun (p:List vQ×V) (q:List vQ×Addr×Value)=>p.1=q.1∧H q.2.1=some (.tup (p.1.map kV))∧RelV p.2 q.2.2) kvs xs∧
   ∃o es ep,h.get? a=some o∧o.ExactDict∧o.data=.dict es ep∧es.toList=xs.map (entryOfKey (tupleKind (tD P w)))∧(xs.map (·.1)).Nodup
 |.set S n=>h.SetOf (intKind P w) a S n
 |.ins C dx fs=>H dx=some (.own a)∧fs.length≤1000∧dx≠a∧h.get? a=some (PySem.W.instObj C dx)∧
   ∃mA,h.Ns1 dx mA∧(∀f,RelO (fs.lookup f) (mA f))∧PySem.Within mA (fs.map (·.1))
 |.own _=>∃o,h.get? a=some o
 |.xd fs=>∃mA,h.Ns1 a mA∧∀f,RelO (fs.lookup f) (mA f)
 |.rng lo hi=>∃t u v,h.get? a=some {cls:=.type "range",data:=.fields #[.int lo t,.int hi u,.int 1 v]}
 |.frz o u=>h.get? a=some o∧ObjOk H h a u
 |.tbl ps=>h.get? a=some {cls:=.none,data:=.fields ps}
 |.met f x=>h.get? a=some (PySem.W.methodObj (.ref f) (.ref x))
 |.ext φ=>φ h∧(∃o,h.get? a=some o)∧∀h1 h2:Heap,φ h1→(∀o,h1.get? a=some o→h2.get? a=some o)→φ h2
def HOk (H:Hp) (h:Heap):Prop:=∀a o,H a=some o→ObjOk P w H h a o
end
section
variable {P:Program} {w:World} {H H':Hp} {h h':Heap} {a:Addr} {o:HO}
theorem ObjOk.lt (x:ObjOk P w H h a o):a<h.objs.size:=by
 cases o with
 |lst xs=>obtain ⟨_,_,_,_,e⟩:=x;exact aq e
 |tup xs=>obtain ⟨_,_,_,p⟩:=x;exact p.lt
 |dK kvs=>obtain ⟨_,_,_,_,o,_,_,e,_⟩:=x;exact aq e
 |dT kvs=>obtain ⟨_,_,_,_,o,_,_,e,_⟩:=x;exact aq e
 |set S n=>obtain ⟨o,_,_,_,e,_⟩:=x;exact aq e
 |ins C dx fs=>obtain ⟨_,_,_,e,_⟩:=x;exact aq e
 |own y=>obtain ⟨_,e⟩:=x;exact aq e
 |xd fs=>obtain ⟨_,⟨_,_,_,e,_⟩,_⟩:=x;exact aq e
 |rng lo hi=>obtain ⟨_,_,_,e⟩:=x;exact aq e
 |frz ob u=>obtain ⟨e,_⟩:=x;exact aq e
 |tbl ps=>exact aq (show h.get? a=some _ from x)
 |met f y=>exact aq (show h.get? a=some _ from x)
 |ext φ=>obtain ⟨_,⟨_,e⟩,_⟩:=x;exact aq e
theorem Paired.mapP {α β:Type} {F G:α→β→Prop}:∀{l₁:List α} {l₂:List β},Paired F l₁ l₂→(∀a b,F a b→G a b)→Paired G l₁ l₂
 |_,_,.nil,_=>.nil
 |_,_,.cons r t,f=>.cons (f _ _ r) (Paired.mapP t f)
theorem ObjOk.stay (x:ObjOk P w H h a o) (k:∀b u,(b=a∨H b=some (.own a))→h.get? b=some u→h'.get? b=some u)
  (ho:∀b,H b=some (.own a)→H' b=some (.own a)) (ht:∀b xs,H b=some (.tup xs)→H' b=some (.tup xs)):ObjOk P w H' h' a o:=by
 induction o with
 |lst xs=>obtain ⟨z,its,n,r,e⟩:=x;exact ⟨z,its,n,r,k _ _ (.inl rfl) e⟩
 |tup xs=>obtain ⟨z,its,r,ob,e,c⟩:=x;exact ⟨z,its,r,ob,k _ _ (.inl rfl) e,c⟩
 |dK kvs=>obtain ⟨z,y,vs,r,ob,es,ep,e,c⟩:=x;exact ⟨z,y,vs,r,ob,es,ep,k _ _ (.inl rfl) e,c⟩
 |dT kvs =>
  obtain ⟨z,y,xs,r,ob,es,ep,e,c⟩:=x;exact ⟨z,y,xs,Paired.mapP r fun p q z=>⟨z.1,ht _ _ z.2.1,z.2.2⟩,ob,es,ep,k _ _ (.inl rfl) e,c⟩
 |set S n=>obtain ⟨ob,es,ep,t,e,c⟩:=x;exact ⟨ob,es,ep,t,k _ _ (.inl rfl) e,c⟩
 |ins C dx fs =>
  obtain ⟨d,z,ne,e,mA,⟨od,es,ep,e2,c⟩,r⟩:=x;exact ⟨ho _ d,z,ne,k _ _ (.inl rfl) e,mA,⟨od,es,ep,k _ _ (.inr d) e2,c⟩,r⟩
 |own y=>obtain ⟨ob,e⟩:=x;exact ⟨ob,k _ _ (.inl rfl) e⟩
 |xd fs=>obtain ⟨mA,⟨od,es,ep,e,c⟩,r⟩:=x;exact ⟨mA,⟨od,es,ep,k _ _ (.inl rfl) e,c⟩,r⟩
 |rng lo hi=>obtain ⟨t,u,v,e⟩:=x;exact ⟨t,u,v,k _ _ (.inl rfl) e⟩
 |frz ob u ih=>obtain ⟨e,q⟩:=x;exact ⟨k _ _ (.inl rfl) e,ih q⟩
 |tbl ps =>
  have e:h.get? a=some {cls:=.none,data:=.fields ps}:=x;show h'.get? a=some {cls:=.none,data:=.fields ps};exact k a _ (.inl rfl) e
 |met f y =>
  have e:h.get? a=some (PySem.W.methodObj (.ref f) (.ref y)):=x;show h'.get? a=some (PySem.W.methodObj (.ref f) (.ref y));exact k a _ (.inl rfl) e
 |ext φ=>obtain ⟨p,⟨o,e⟩,st⟩:=x;exact ⟨st _ _ p fun o q=>k _ _ (.inl rfl) q,⟨o,k _ _ (.inl rfl) e⟩,st⟩
theorem HOk.lt (x:HOk P w H h) (e:H a=some o):a<h.objs.size:=(x a o e).lt
theorem HOk.fresh (x:HOk P w H h) (e:h.objs.size≤a):H a=none:=by
 cases q:H a with
 |none=>rfl
 |some u=>exact absurd (ar (x.lt q) e) (bh _)
theorem HOk.kept (x:HOk P w H h) (k:∀b u,h.get? b=some u→h'.get? b=some u):HOk P w H h':=fun a o e =>
 (x a o e).stay (fun b u _ q=>k b u q) (fun _ q=>q) fun _ _ q=>q
theorem HOk.laid (x:HOk P w H h) (k:∀b u,h.get? b=some u→h'.get? b=some u) (hp:h.objs.size≤a) (new:ObjOk P w (upd H a o) h' a o):HOk P w (upd H a o) h':=fun b u e=>by
 have hn:=x.fresh hp
 by_cases hb:b=a
 ·subst hb;rw [jE] at e;cases e;exact new
 ·rw [jL hb] at e;exact (x b u e).stay (fun c v _ q=>k c v q) (fun c q=>by rw [jL (kE q hn)];exact q) fun c xs q=>by rw [jL (kE q hn)];exact q
end
def Rd (H:Hp) (a:Addr) (u:HO):Prop:=H a=some u∨∃o,H a=some (.frz o u)
variable {h:Heap}
theorem Rd.ok {P:Program} {w:World} {u:HO} (r:Rd H a u) (x:HOk P w H h):ObjOk P w H h a u:=by
 rcases r with r|⟨o,r⟩
 ·exact x a u r
 ·obtain ⟨_,q⟩:=x a _ r;exact q
def fJ:Option HO→Prop
 |some (.lst _)=>True
 |some (.dK _)=>True
 |some (.dT _)=>True
 |some (.set _ _)=>True
 |some (.ins _ _ _)=>True
 |some (.ext _)=>True
 |_=>False
section
variable {P:Program} {w:World} {H:Hp} {h h':Heap} {x e:Addr} {o':HO}
theorem HOk.write (ok:HOk P w H h) (mu:fJ (H x)) (he:e=x∨H e=some (.own x)) (k:∀b u,b≠e→h.get? b=some u→h'.get? b=some u) (heo:∃u,h'.get? e=some u)
  (new:ObjOk P w (upd H x o') h' x o'):HOk P w (upd H x o') h':=fun b u q=>by
 have nown:∀c y,H c=some (.own y)→c≠x:=fun c y r z=>by subst z;rw [r] at mu;exact mu
 have ntup:∀c xs,H c=some (.tup xs)→c≠x:=fun c xs r z=>by subst z;rw [r] at mu;exact mu
 by_cases hb:b=x
 ·subst hb;rw [jE] at q;cases q;exact new
 ·rw [jL hb] at q
  by_cases hbe:b=e
  ·have q':H b=some (.own x):=by
    rcases he with z|z
    ·exact absurd (hbe.trans z) hb
    ·rw [hbe];exact z
   rw [q] at q';cases q'
   obtain ⟨v,hv⟩:=heo;exact ⟨v,by rw [hbe];exact hv⟩
  ·refine (ok b u q).stay (fun c v hc r=>k c v ?_ r) (fun c r=>by rw [jL (nown c b r)];exact r) fun c xs r=>by rw [jL (ntup c xs r)];exact r
   rcases hc with rfl|hc
   ·exact hbe
   ·rintro rfl
    rcases he with z|z
    ·exact nown c b hc z
    ·rw [hc] at z;cases z;exact hb rfl
end
structure Un (fs ex:List Addr) (H H':Hp) (h h':Heap):Prop where
 keep:∀b o,h.get? b=some o→H b=none→b∉fs→b∉ex→h'.get? b=some o
 slot:∀b o,h.get? b=some o→H b=none→b∈fs→b∉ex→∃sl,h'.get? b=some {o with slots:=sl}
 free:∀b o,h.get? b=some o→H b=none→b∉ex→H' b=none
 there:∀b o,h.get? b=some o→b∉ex→∃o',h'.get? b=some o'
 tups:∀b xs,H b=some (.tup xs)→H' b=some (.tup xs)
 frzs:∀b o u,H b=some (.frz o u)→H' b=some (.frz o u)
 tbls:∀b ps,H b=some (.tbl ps)→∃more,H' b=some (.tbl (ps++more))
section
variable {fs fs' ex ex':List Addr} {H H1 H2:Hp} {h h1 h2 h':Heap} {a x e:Addr} {o:HO}
theorem Un.any (u:Un fs ex H H1 h h1) {b:Addr} {ob:Obj} (q:h.get? b=some ob) (n:H b=none) (hx:b∉ex):∃sl,h1.get? b=some {ob with slots:=sl}:=by
 by_cases hb:b∈fs
 ·exact u.slot b ob q n hb hx
 ·exact ⟨ob.slots,u.keep b ob q n hb hx⟩
theorem Un.kept (k:∀b u,h.get? b=some u→h'.get? b=some u):Un fs ex H H h h' :=
 ⟨fun b ob q _ _ _=>k b ob q,fun b ob q _ _ _=>⟨ob.slots,k b ob q⟩,fun _ _ _ n _=>n,fun b ob q _=>⟨ob,k b ob q⟩,fun _ _ q=>q,fun _ _ _ q=>q,fun _ ps q=>⟨#[],by rw [q];simp⟩⟩
theorem Un.refl:Un fs ex H H h h:=Un.kept fun _ _ q=>q
theorem Un.laid (k:∀b u,h.get? b=some u→h'.get? b=some u) (hp:h.objs.size≤a) (hn:H a=none):Un fs ex H (upd H a o) h h' where
 keep:=fun b u q _ _ _=>k b u q
 slot:=fun b u q _ _ _=>⟨u.slots,k b u q⟩
 free:=fun b u q n _=>by rw [jL (aH (ar (aq q) hp))];exact n
 there:=fun b u q _=>⟨u,k b u q⟩
 tups:=fun b xs q=>by rw [jL (kE q hn)];exact q
 frzs:=fun b u xs q=>by rw [jL (kE q hn)];exact q
 tbls:=fun b ps q=>⟨#[],by rw [jL (kE q hn),q];simp⟩
theorem Un.write (mu:fJ (H x)) (he:e=x∨H e=some (.own x)) (k:∀b u,b≠e→h.get? b=some u→h'.get? b=some u) (heo:∃u,h'.get? e=some u):Un fs ex H (upd H x o) h h':=by
 have hx:∀b,H b=none→b≠x:=fun b n z=>by subst z;rw [n] at mu;exact mu
 have hb:∀b,H b=none→b≠e:=fun b n z=>by
  subst z
  rcases he with r|r
  ·exact hx b n r
  ·rw [n] at r;cases r
 have hm:∀b u,H b=some u→¬fJ (some u)→b≠x:=fun b u q nm z=>by subst z;rw [q] at mu;exact nm mu
 refine ⟨fun b u q n _ _=>k b u (hb b n) q,fun b u q n _ _=>⟨u.slots,k b u (hb b n) q⟩,fun b u q n _=>by rw [jL (hx b n)];exact n,fun b u q _=>?_,
  fun b xs q=>by rw [jL (hm b _ q fun z=>z)];exact q,fun b u xs q=>by rw [jL (hm b _ q fun z=>z)];exact q,fun b ps q=>⟨#[],by rw [jL (hm b _ q fun z=>z),q];simp⟩⟩
 by_cases hbe:b=e
 ·subst hbe;exact heo
 ·exact ⟨u,k b u hbe q⟩
end
def yB (h:Heap) (H:Hp):List Addr:=(List.range h.objs.size).filter fun a=>(H a).isSome
def JH (h:Heap) (H:Hp):Heap:=PySem.W.hideAll h (yB h H)
theorem D6 (h:Heap) (H:Hp):(JH h H).objs.size=h.objs.size:=PySem.W.hideAll_size _ _
theorem E4 {o:Obj} (e:h.get? b=some o) (n:H b=none):(JH h H).get? b=some o :=
 PySem.W.hideAll_get _ e fun hm=>by
  have q:(H b).isSome=true:=(List.mem_filter.mp hm).2;rw [n] at q;simp at q
theorem FZ {o:Obj} (e:(JH h H).get? b=some o):h.get? b=some o∧H b=none:=by
 have e':h.get? b=some o:=PySem.W.of_hideAll (yB h H) e;refine ⟨e',?_⟩;cases q:H b with
 |none=>rfl
 |some x =>
  have hm:b∈yB h H:=List.mem_filter.mpr ⟨List.mem_range.mpr (aq e'),by simp [q]⟩;have z:(JH h H).get? b=none:=PySem.W.hideAll_none (yB h H) hm;rw [z] at e;cases e
def GQ (g h:Heap) (L:Addr):List (Addr×Obj):=(List.range h.objs.size).filterMap fun a=>if a=L∨(g.get? a).isSome=true then none else (h.get? a).map fun o=>(a,o)
def rest (g h:Heap) (L d:Addr):List (Addr×Obj):=(GQ g h L).filter fun p=>decide (p.1≠d)
end L2
namespace L2
open PySem PySem.Spec PyProof.Rows
structure Mod (K:PySem.W.Frag) (mg:Str→Option Value) (base:Heap):Prop where
 kin:K.In base
 glob:base.Ns mainGlobals mg
 blt:∃mb,base.Ns builtinsNs mb∧∀x:Str,x≠"__name__"→mb x=bootBuiltins x
 nolimit:base.NoLimit
structure Cx where
 prog:Program
 w:World
 K:PySem.W.Frag
 mg:Str→Option Value
 base:Heap
 A:Around
 N:List Str
 s₀:Shared
 H₀:Hp
 env:Env
 outer:List Env
 stack:List Env
 ex:List Addr
 fn:Str→Bool
 calm:Bool
 pn:List (Addr×Obj)
 xe:Value→Shared→Prop
def kA (l:List Env):List Addr:=l.filterMap (·.frame)
abbrev Cx.fs (X:Cx):List Addr:=kA X.outer
def fH (sc:Scope) (x:Str):Prop:=sc.names.lookup x=some .local∨sc.names.lookup x=some .cell∨sc.names.lookup x=some .free
def Z2 (sc:Scope) (x:Str):Prop:=sc.names.lookup x=some .local∨sc.names.lookup x=some .cell
def K1 (env:Env) (h:Heap) (m:Str→Option Value) (x:Str) (u:Value):Prop :=
 (env.kindOf x=some .local∧m x=some u)∨((env.kindOf x=some .cell∨env.kindOf x=some .free)∧∃c,env.cells.lookup x=some c∧h.IsCell c (some u))
structure Cx.Ok (X:Cx):Prop where
 mod:Mod X.K X.mg X.base
 kind:X.env.scope.kind=.function
 glob:X.env.globals=mainGlobals
 blt:X.env.builtins=builtinsNs
 above:X.s₀.heap.objs.size≤X.env.locals
 inj:∀x y c,X.env.cells.lookup x=some c→X.env.cells.lookup y=some c→x=y
 has:∀x,(X.env.kindOf x=some .cell∨X.env.kindOf x=some .free)→∃c,X.env.cells.lookup x=some c
 cab:∀x c,X.fn x=true→X.env.cells.lookup x=some c→X.s₀.heap.objs.size≤c
 hd:X.calm=true→X.A.handled=none
 frames:X.A.frames=some X.stack
 stk:X.stack=X.outer∨(X.stack=X.env::X.outer∧X.env.frame=some X.env.locals)
 exf:∀b∈X.ex,b≠X.env.locals∧∀x c,X.env.cells.lookup x=some c→c≠b
 bs:∀b o,X.base.get? b=some o→X.s₀.heap.get? b=some o∧X.H₀ b=none
 bsz:X.base.objs.size≤X.s₀.heap.objs.size
 noex:∀b o,X.base.get? b=some o→b∉X.ex
 exfs:∀b∈X.ex,b∉X.fs
 funs:X.s₀.heap.FunFrames X.base X.outer
 frf:∀b∈X.fs,X.H₀ b=none
structure Inv (X:Cx) (pins:List (Addr×Obj)) (σ:List (Option V)) (H:Hp) (s:Shared):Prop where
 ok:X.Ok
 os:s.os=X.s₀.os
 bare:AllBare s.gens
 base:Un X.fs X.ex X.H₀ H X.s₀.heap s.heap
 loc:∃m,s.heap.Ns X.env.locals m∧∀(i:Nat) (x:Str) (v:V),X.N[i]?=some x→σ[i]?=some (some v)→fH X.env.scope x→∃u,RelV v u∧K1 X.env s.heap m x u
 cell:∀x c,X.env.cells.lookup x=some c→∃v,s.heap.IsCell c v
 free:H X.env.locals=none
 freeC:∀x c,X.env.cells.lookup x=some c→H c=none
 pin:∀p∈X.pn++pins,s.heap.get? p.1=some p.2∧H p.1=none∧p.1≠X.env.locals∧p.1∉X.fs∧∀v,p.2.data≠.cell v
 hok:HOk X.prog X.w H s.heap
 len:σ.length=X.N.length
section
variable {X:Cx} {pins:List (Addr×Obj)} {σ:List (Option V)} {H H':Hp} {s:Shared} {h':Heap}
theorem Cx.Ok.nofr (ok:X.Ok) {b:Addr} {o:Obj} (e:X.base.get? b=some o):b∉X.fs:=fun hb=>by
 have:=(ok.funs.mem hb).1;rw [e] at this;cases this
theorem Inv.bs (I:Inv X pins σ H s):∀b o,X.base.get? b=some o→s.heap.get? b=some o∧H b=none:=fun b o e =>
 ⟨I.base.keep b o (I.ok.bs b o e).1 (I.ok.bs b o e).2 (I.ok.nofr e) (I.ok.noex b o e),I.base.free b o (I.ok.bs b o e).1 (I.ok.bs b o e).2 (I.ok.noex b o e)⟩
theorem Inv.bk (I:Inv X pins σ H s):∀b o,X.base.get? b=some o→s.heap.get? b=some o:=fun b o e=>(I.bs b o e).1
theorem Inv.mod (I:Inv X pins σ H s):Mod X.K X.mg X.base:=I.ok.mod
theorem Inv.kIn (I:Inv X pins σ H s):X.K.In s.heap:=I.ok.mod.kin.keeps I.bk
theorem Inv.lt (I:Inv X pins σ H s):X.env.locals<s.heap.objs.size:=let ⟨_,hn,_⟩:=I.loc;hn.lt
theorem Inv.sz (I:Inv X pins σ H s):X.s₀.heap.objs.size≤s.heap.objs.size:=aR I.ok.above (fm I.lt)
theorem Inv.nofs (I:Inv X pins σ H s) {a:Addr} (h:s.heap.objs.size≤a):a∉X.fs:=fun hb=>by
 obtain ⟨_,o,ho,_⟩:=I.ok.funs.mem hb;exact absurd (ar (aq ho) (aR I.sz h)) (bh _)
theorem Inv.cne (I:Inv X pins σ H s):∀x c,X.env.cells.lookup x=some c→c≠X.env.locals:=fun x c e z=>by
 obtain ⟨v,o,ho,hd⟩:=I.cell x c e;obtain ⟨m,⟨o',es,ep,ho',hd',_⟩,_⟩:=I.loc;rw [z,ho'] at ho;cases ho;rw [hd'] at hd;cases hd
theorem Inv.funs (I:Inv X pins σ H s):s.heap.FunFrames X.base X.outer:=by
 have all:∀(l:List Env),(∀b∈kA l,b∈X.fs)→X.s₀.heap.FunFrames X.base l→s.heap.FunFrames X.base l:=by
  intro l
  induction l with
  |nil=>intro _ _;trivial
  |cons env r ih =>
   intro hs hl;obtain ⟨hk,⟨L,o,hf,hn,ho,hd⟩,hr⟩:=hl;have hL:L∈X.fs:=hs L (by unfold kA;rw [eo,hf];exact aQ);obtain ⟨sl,e⟩:=I.base.slot L o ho (I.ok.frf L hL) hL fun z=>I.ok.exfs L z hL
   exact ⟨hk,⟨L,_,hf,hn,e,hd⟩,ih (fun b hb=>hs b (by unfold kA;rw [eo,hf];exact aC _ hb)) hr⟩
 exact all X.outer (fun _ hb=>hb) I.ok.funs
theorem Inv.stack (I:Inv X pins σ H s):s.heap.FunFrames X.base X.stack:=by
 rcases I.ok.stk with e|⟨e,hf⟩
 ·rw [e];exact I.funs
 ·rw [e];obtain ⟨m,hn,_⟩:=I.loc;refine .cons (by rw [I.ok.kind];decide) hf hn ?_ I.funs;exact Heap.get?_none_of_le (aR I.ok.bsz I.ok.above)
theorem Inv.stkSub (I:Inv X pins σ H s):∀b∈kA X.stack,b∈X.env.locals::X.fs:=fun b hb=>by
 rcases I.ok.stk with e|⟨e,hf⟩
 ·rw [e] at hb;exact aC _ hb
 ·rw [e] at hb;unfold kA at hb;rw [eo,hf] at hb;exact hb
theorem Inv.stkFree (I:Inv X pins σ H s):∀b∈kA X.stack,H b=none:=fun b hb=>by
 rcases am.mp (I.stkSub b hb) with e|hb
 ·rw [e];exact I.free
 ·obtain ⟨_,o,ho,_⟩:=I.ok.funs.mem hb;exact I.base.free b o ho (I.ok.frf b hb) fun z=>I.ok.exfs b z hb
theorem Inv.step {g':Array GenState} {t':Nat} {d':Drawn} {ch:List Addr} (I:Inv X pins σ H s)
  (hch:∀b∈ch,(b∈X.ex∨X.s₀.heap.objs.size≤b)∧b≠X.env.locals∧(∀x c,X.env.cells.lookup x=some c→c≠b)∧∀p∈X.pn++pins,p.1≠b)
  (keep:∀b o,b≠X.env.locals→b∉X.fs→b∉ch→s.heap.get? b=some o→H b=none→h'.get? b=some o)
  (slot:∀b o,b≠X.env.locals→b∈X.fs→b∉ch→s.heap.get? b=some o→H b=none→∃sl,h'.get? b=some {o with slots:=sl}) (free:∀b o,b∉ch→s.heap.get? b=some o→H b=none→H' b=none)
  (there:∀b o,b∉ch→s.heap.get? b=some o→∃o',h'.get? b=some o')
  (tups:∀b xs,H b=some (.tup xs)→H' b=some (.tup xs)) (frzs:∀b o u,H b=some (.frz o u)→H' b=some (.frz o u)) (tbls:∀b ps,H b=some (.tbl ps)→∃more,H' b=some (.tbl (ps++more)))
  (ns:∀m,s.heap.Ns X.env.locals m→h'.Ns X.env.locals m) (hok:HOk X.prog X.w H' h') (hg:AllBare g') :
  Inv X pins σ H' {s with heap:=h',gens:=g',drawn:=d',toks:=t'}:=by
 have neL:∀b o,X.s₀.heap.get? b=some o→b≠X.env.locals:=fun b o e=>aH (ar (aq e) I.ok.above)
 have neC:∀b o,X.s₀.heap.get? b=some o→b∉X.ex→b∉ch:=fun b o e hx hb=>by
  rcases (hch b hb).1 with z|z
  ·exact hx z
  ·exact absurd (ar (aq e) z) (bh _)
 have cellK:∀x c,X.env.cells.lookup x=some c→∀v,s.heap.IsCell c v→h'.IsCell c v:=fun x c e v ⟨o,ho,hd⟩=>by
  have nch:c∉ch:=fun z=>(hch c z).2.2.1 x c e rfl
  by_cases hc:c∈X.fs
  ·obtain ⟨sl,q⟩:=slot c o (I.cne x c e) hc nch ho (I.freeC x c e);exact ⟨_,q,hd⟩
  ·exact ⟨o,keep c o (I.cne x c e) hc nch ho (I.freeC x c e),hd⟩
 refine ⟨I.ok,I.os,hg,⟨fun b o e n hb hx=>?_,fun b o e n hb hx=>?_,fun b o e n hx=>?_,fun b o e hx=>?_,fun b xs e=>tups b xs (I.base.tups b xs e),fun b o xs e=>frzs b o xs (I.base.frzs b o xs e),fun b ps e=>?_⟩,?_,fun x c e=>?_,?_,fun x c e=>?_,fun p hp=>?_,hok,I.len⟩
 ·exact keep b o (neL b o e) hb (neC b o e hx) (I.base.keep b o e n hb hx) (I.base.free b o e n hx)
 ·obtain ⟨sl,e1⟩:=I.base.slot b o e n hb hx;obtain ⟨sl',e2⟩:=slot b _ (neL b o e) hb (neC b o e hx) e1 (I.base.free b o e n hx);exact ⟨sl',e2⟩
 ·obtain ⟨o',e1⟩:=I.base.there b o e hx;exact free b o' (neC b o e hx) e1 (I.base.free b o e n hx)
 ·obtain ⟨o',e1⟩:=I.base.there b o e hx;exact there b o' (neC b o e hx) e1
 ·obtain ⟨m1,e1⟩:=I.base.tbls b ps e;obtain ⟨m2,e2⟩:=tbls b _ e1;exact ⟨m1++m2,by rw [e2,Array.append_assoc]⟩
 ·obtain ⟨m,hn,hl⟩:=I.loc;refine ⟨m,ns m hn,fun i x v e1 e2 e3=>?_⟩;obtain ⟨u,r,l⟩:=hl i x v e1 e2 e3;refine ⟨u,r,?_⟩
  rcases l with l|⟨k,c,e,z⟩
  ·exact .inl l
  ·exact .inr ⟨k,c,e,cellK x c e _ z⟩
 ·obtain ⟨v,z⟩:=I.cell x c e;exact ⟨v,cellK x c e v z⟩
 ·obtain ⟨m,⟨o,_,_,ho,_⟩,_⟩:=I.loc;exact free _ o (fun z=>(hch _ z).2.1 rfl) ho I.free
 ·obtain ⟨v,o,ho,hd⟩:=I.cell x c e;exact free c o (fun z=>(hch c z).2.2.1 x c e rfl) ho (I.freeC x c e)
 ·obtain ⟨e,n,ne,nf,d⟩:=I.pin p hp;have nch:p.1∉ch:=fun z=>(hch p.1 z).2.2.2 p hp rfl
  exact ⟨keep p.1 p.2 ne nf nch e n,free p.1 p.2 nch e n,ne,nf,d⟩
theorem Inv.un {t':Nat} (I:Inv X pins σ H s) (u:Un X.fs [] H H' s.heap h') (hok:HOk X.prog X.w H' h'):Inv X pins σ H' {s with heap:=h',toks:=t'}:=by
  obtain ⟨m,⟨o,es,ep,ho,r⟩,_⟩:=id I.loc;obtain ⟨sl,hL⟩:=u.any ho I.free (by simp);exact I.step (g':=s.gens) (d':=s.drawn) (ch:=[]) (fun _ z=>nomatch z) (fun b o _ hb _ e n=>u.keep b o e n hb (by simp)) (fun b o _ hb _ e n=>u.slot b o e n hb (by simp)) (fun b o _ e n=>u.free b o e n (by simp)) (fun b o _ e=>u.there b o e (by simp)) u.tups u.frzs u.tbls (fun m' hm=>by
    obtain ⟨o',es',ep',ho',r'⟩:=hm;rw [ho] at ho';cases ho'
    exact ⟨_,es',ep',hL,r'⟩) hok I.bare
theorem Inv.call {g':Array GenState} {t':Nat} {d':Drawn} {ch:List Addr} (I:Inv X pins σ H s) (u:Un (kA X.stack) ch H H' s.heap h') (hok:HOk X.prog X.w H' h') (hg:AllBare g')
  (hch:∀b∈ch,(b∈X.ex∨X.s₀.heap.objs.size≤b)∧b≠X.env.locals∧(∀x c,X.env.cells.lookup x=some c→c≠b)∧∀p∈X.pn++pins,p.1≠b) :
  Inv X pins σ H' {s with heap:=h',gens:=g',drawn:=d',toks:=t'}:=by
 obtain ⟨m,⟨o,es,ep,ho,r⟩,_⟩:=id I.loc;obtain ⟨sl,hL⟩:=u.any ho I.free fun z=>(hch _ z).2.1 rfl
 exact I.step (ch:=ch) hch (fun b o hL hb hc e n=>u.keep b o e n (fun z=>(am.mp (I.stkSub b z)).elim hL hb) hc) (fun b o _ _ hc e n=>u.any e n hc) (fun b o hc e n=>u.free b o e n hc) (fun b o hc e=>u.there b o e hc) u.tups u.frzs u.tbls (fun m' hm=>by
  obtain ⟨o',es',ep',ho',r'⟩:=hm;rw [ho] at ho';cases ho'
  exact ⟨_,es',ep',hL,r'⟩) hok hg
theorem Inv.turned {t':Nat} {it:Addr} (I:Inv X pins σ H s) (k:∀b o,b≠it→s.heap.get? b=some o→h'.get? b=some o) (hn:H it=none) (hL:it≠X.env.locals)
    (h1:it∈X.ex∨X.s₀.heap.objs.size≤it) (h2:∀x c,X.env.cells.lookup x=some c→c≠it) (h3:∀p∈X.pn++pins,p.1≠it):Inv X pins σ H {s with heap:=h',toks:=t'}:=by
  have nit:∀b u,H b=some u→b≠it:=fun b u e z=>by rw [z,hn] at e;cases e
  refine I.step (g':=s.gens) (d':=s.drawn) (ch:=[it]) (fun b hb=>?_) (fun b o _ _ hc e _=>k b o (fun z=>hc (by simp [z])) e) (fun b o _ _ hc e _=>⟨o.slots,k b o (fun z=>hc (by simp [z])) e⟩) (fun _ _ _ _ n=>n)
    (fun b o hc e=>⟨o,k b o (fun z=>hc (by simp [z])) e⟩) (fun _ _ e=>e) (fun _ _ _ e=>e) (fun b ps e=>⟨#[],by rw [e];simp⟩) (fun m hm=>?_) (fun b u e=>?_) I.bare
  · have e:b=it:=by simpa using hb
    subst e;exact ⟨h1,hL,h2,h3⟩
  · obtain ⟨o,es,ep,ho,r⟩:=hm
    exact ⟨o,es,ep,k _ o (Ne.symm hL) ho,r⟩
  · refine (I.hok b u e).stay (fun c v hc q=>k c v ?_ q) (fun _ q=>q) fun _ _ q=>q
    rcases hc with z|z
    · rw [z];exact nit b u e
    · exact nit c _ z
theorem Inv.tok (I:Inv X pins σ H s) (t:Nat):Inv X pins σ H {s with toks:=t}:=I.un (h':=s.heap) (t':=t) Un.refl I.hok
theorem Inv.kept {t':Nat} (I:Inv X pins σ H s) (k:∀b u,s.heap.get? b=some u→h'.get? b=some u):Inv X pins σ H {s with heap:=h',toks:=t'}:=I.un (Un.kept k) (I.hok.kept k)
theorem Inv.laid {a:Addr} {o:HO} {t':Nat} (I:Inv X pins σ H s) (k:∀b u,s.heap.get? b=some u→h'.get? b=some u) (hp:s.heap.objs.size≤a) (new:ObjOk X.prog X.w (upd H a o) h' a o) :
  Inv X pins σ (upd H a o) {s with heap:=h',toks:=t'}:=I.un (Un.laid k hp (I.hok.fresh hp)) (I.hok.laid k hp new)
theorem Inv.write {x e:Addr} {o:HO} {t':Nat} (I:Inv X pins σ H s) (mu:fJ (H x)) (he:e=x∨H e=some (.own x)) (k:∀b u,b≠e→s.heap.get? b=some u→h'.get? b=some u) (heo:∃u,h'.get? e=some u)
  (new:ObjOk X.prog X.w (upd H x o) h' x o):Inv X pins σ (upd H x o) {s with heap:=h',toks:=t'}:=I.un (Un.write mu he k heo) (I.hok.write mu he k heo new)
theorem Inv.pins_of {pins':List (Addr×Obj)} (I:Inv X pins σ H s) (h:∀p∈pins',s.heap.get? p.1=some p.2∧H p.1=none∧p.1≠X.env.locals∧p.1∉X.fs∧∀v,p.2.data≠.cell v):Inv X pins' σ H s :=
 ⟨I.ok,I.os,I.bare,I.base,I.loc,I.cell,I.free,I.freeC,fun p hp=>(bc.mp hp).elim (fun z=>I.pin p (fz _ z)) (h p),I.hok,I.len⟩
theorem lK {N:List Str} (hN:N.Nodup) {i j:Nat} {x:Str} (a:N[i]?=some x) (b:N[j]?=some x):i=j:=by
 obtain ⟨h1,e1⟩:=ag.mp a;obtain ⟨h2,e2⟩:=ag.mp b;exact (List.getElem_inj hN).mp (e1.trans e2.symm)
theorem pQ {M:Model} {A:Around} {E:Value→Shared→Prop} {i:Nat} {x:Str} {v:V} {u:Value} {Q:Unit→Shared→Prop} (I:Inv X pins σ H s) (hN:X.N.Nodup) (hi:X.N[i]?=some x) (hx:Z2 X.env.scope x) (r:RelV v u)
  (h:∀s',Inv X pins (σ.set i (some v)) H s'→(∃a,Heap.SameBut a s.heap s'.heap∧(a=X.env.locals∨X.env.cells.lookup x=some a))→Q () s') (hf:X.fn x=true∨X.env.scope.names.lookup x=some .local:=by first|exact .inl rfl|exact .inr rfl|assumption):wpAny M A (storeName X.env x u) Q E s:=by
 obtain ⟨m,hn,hl⟩:=id I.loc;have hcls:(X.env.scope.kind == .class||(X.env.scope.kind == .module&&X.env.locals != X.env.globals))=false:=by rw [I.ok.kind];rfl
 have hiσ:i<σ.length:=by rw [I.len];exact (ag.mp hi).1
 have cne:=I.cne;have tracked:∀{a:Addr} {h':Heap},(∃o,s.heap.get? a=some o∧H a=none)→Heap.SameBut a s.heap h'→HOk X.prog X.w H h':=fun {a h'} ha hs b ob e=>by
  obtain ⟨_,_,hfree⟩:=ha;refine (I.hok b ob e).stay (fun c w' hc q=>(hs.2 c ?_).trans q) (fun _ q=>q) fun _ _ q=>q
  rintro rfl
  rcases hc with rfl|hc
  ·rw [hfree] at e;cases e
  ·rw [hfree] at hc;cases hc
 rcases hx with hk|hk
 ·refine wpAny_storeName_local hk hn (fun h' hn' hs=>?_) hcls;obtain ⟨oL,_,_,hoL,_⟩:=id hn;refine h _ ⟨I.ok,I.os,I.bare,⟨fun b o e n hb hx=>?_,fun b o e n hb hx=>?_,I.base.free,fun b o e hx=>?_,I.base.tups,I.base.frzs,I.base.tbls⟩,⟨_,hn',fun j y v' e1 e2 e3=>?_⟩,fun y c e=>?_,I.free,I.freeC,fun p hp=>?_,tracked ⟨oL,hoL,I.free⟩ hs,by simpa using I.len⟩ ⟨_,hs,.inl rfl⟩
  ·exact (hs.2 b (aH (ar (aq e) I.ok.above))).trans (I.base.keep b o e n hb hx)
  ·obtain ⟨sl,e1⟩:=I.base.slot b o e n hb hx;exact ⟨sl,(hs.2 b (aH (ar (aq e) I.ok.above))).trans e1⟩
  ·obtain ⟨o',e1⟩:=I.base.there b o e hx;exact ⟨o',(hs.2 b (aH (ar (aq e) I.ok.above))).trans e1⟩
  ·by_cases hj:j=i
   ·subst hj;rw [hi] at e1;cases e1
    rw [bu hiσ] at e2;cases e2;exact ⟨u,r,.inl ⟨hk,by simp⟩⟩
   ·rw [cc (Ne.symm hj)] at e2;obtain ⟨u',r',q⟩:=hl j y v' e1 e2 e3;refine ⟨u',r',?_⟩
    rcases q with ⟨k,e⟩|⟨k,c,e,z⟩
    ·refine .inl ⟨k,?_⟩;have:y≠x:=fun e=>hj (lK hN e1 (e▸hi))
     simp [this,e]
    ·exact .inr ⟨k,c,e,z.sameBut hs (cne y c e)⟩
  ·obtain ⟨w',z⟩:=I.cell y c e;exact ⟨w',z.sameBut hs (cne y c e)⟩
  ·obtain ⟨e,n,ne,nf,d⟩:=I.pin p hp;exact ⟨(hs.2 p.1 ne).trans e,n,ne,nf,d⟩
 ·have hfn:X.fn x=true:=by
   rcases hf with z|z
   ·exact z
   ·rw [z] at hk;cases hk
  obtain ⟨c,hc⟩:=I.ok.has x (.inl hk);obtain ⟨w',z⟩:=I.cell x c hc;refine wpAny_storeName_cell I.ok.kind hk hc z (fun h' hc' hs=>?_);obtain ⟨oc,hoc,hocd⟩:=id z;refine h {s with heap:=h'} ⟨I.ok,I.os,I.bare,⟨fun b o e n hb hx=>?_,fun b o e n hb hx=>?_,I.base.free,fun b o e hx=>?_,I.base.tups,I.base.frzs,I.base.tbls⟩,⟨m,hn.sameBut hs (Ne.symm (cne x c hc)),fun j y v' e1 e2 e3=>?_⟩,fun y c' e=>?_,I.free,I.freeC,fun p hp=>?_,tracked ⟨oc,hoc,I.freeC x c hc⟩ hs,by simpa using I.len⟩ ⟨c,hs,.inr hc⟩
  ·exact (hs.2 b (aH (ar (aq e) (I.ok.cab x c hfn hc)))).trans (I.base.keep b o e n hb hx)
  ·obtain ⟨sl,e1⟩:=I.base.slot b o e n hb hx;exact ⟨sl,(hs.2 b (aH (ar (aq e) (I.ok.cab x c hfn hc)))).trans e1⟩
  ·obtain ⟨o',e1⟩:=I.base.there b o e hx;exact ⟨o',(hs.2 b (aH (ar (aq e) (I.ok.cab x c hfn hc)))).trans e1⟩
  ·by_cases hj:j=i
   ·subst hj;rw [hi] at e1;cases e1
    rw [bu hiσ] at e2;cases e2;exact ⟨u,r,.inr ⟨.inl hk,c,hc,hc'⟩⟩
   ·rw [cc (Ne.symm hj)] at e2;obtain ⟨u',r',q⟩:=hl j y v' e1 e2 e3;refine ⟨u',r',?_⟩
    rcases q with q|⟨k,c',e,z'⟩
    ·exact .inl q
    ·refine .inr ⟨k,c',e,z'.sameBut hs ?_⟩;rintro rfl;exact hj (lK hN e1 (I.ok.inj _ _ _ e hc▸hi))
  ·by_cases hcc:c'=c
   ·subst hcc;exact ⟨_,hc'⟩
   ·obtain ⟨w2,z2⟩:=I.cell y c' e;exact ⟨w2,z2.sameBut hs hcc⟩
  ·obtain ⟨e,n,ne,nf,d⟩:=I.pin p hp;refine ⟨(hs.2 p.1 ?_).trans e,n,ne,nf,d⟩;intro q;rw [q,hoc] at e;have q':oc=p.2:=az e;exact d w' (by rw [← q'];exact hocd)
theorem lH {M:Model} {A:Around} {E:Value→Shared→Prop} {i:Nat} {x:Str} {v:V} {u:Value} {Q:Unit→Shared→Prop} (I:Inv X pins σ H s) (hN:X.N.Nodup) (hi:X.N[i]?=some x) (hx:Z2 X.env.scope x) (r:RelV v u)
  (h:∀s',Inv X pins (σ.set i (some v)) H s'→Q () s') (hf:X.fn x=true∨X.env.scope.names.lookup x=some .local:=by first|exact .inl rfl|exact .inr rfl|assumption):wpAny M A (storeName X.env x u) Q E s :=
 pQ I hN hi hx r (fun s' I' _=>h s' I') hf
theorem Inv.call' {s':Shared} {ch:List Addr} (I:Inv X pins σ H s) (ho:s'.os=s.os) (u:Un (kA X.stack) ch H H' s.heap s'.heap) (hok:HOk X.prog X.w H' s'.heap) (hg:AllBare s'.gens)
  (hch:∀b∈ch,(b∈X.ex∨X.s₀.heap.objs.size≤b)∧b≠X.env.locals∧(∀x c,X.env.cells.lookup x=some c→c≠b)∧∀p∈X.pn++pins,p.1≠b):Inv X pins σ H' s':=by
 obtain ⟨h',g',d',t',o'⟩:=s';have e:o'=s.os:=ho;subst e;exact I.call (g':=g') (t':=t') (d':=d') u hok hg hch
end
abbrev XK:=Value→Option Addr→Hp→Prop
abbrev St:=List (Option V)
abbrev VK:=V→Hp→Prop
abbrev TE:=St→Hp→VK→Prop
abbrev TT:=St→Hp→(Bool→Hp→Prop)→Prop
abbrev TA:=St→Hp→(List V→Hp→Prop)→Prop
structure Ends where
 nx:St→Hp→Prop
 rt:VK
 bk:St→Hp→Prop:=fun _ _=>False
 ct:St→Hp→Prop:=fun _ _=>False
abbrev TS:=Ends→St→Hp→Prop
def EP (X:Cx) (pins:List (Addr×Obj)) (σ:St) (Q:VK) (u:Value) (s':Shared):Prop:=∃v H',Inv X pins σ H' s'∧RelV v u∧Q v H'
def TP (X:Cx) (pins:List (Addr×Obj)) (σ:St) (Q:Bool→Hp→Prop) (b:Bool) (s':Shared):Prop:=∃H',Inv X pins σ H' s'∧Q b H'
def AP (X:Cx) (pins:List (Addr×Obj)) (σ:St) (Q:List V→Hp→Prop) (us:List Value) (s':Shared):Prop:=∃vs H',Inv X pins σ H' s'∧Vals vs us∧Q vs H'
def SP (X:Cx) (pins:List (Addr×Obj)) (D:Ends) (f:Flow) (s':Shared):Prop :=
 match f with
 |.next=>∃σ' H',Inv X pins σ' H' s'∧D.nx σ' H'
 |.brk=>∃σ' H',Inv X pins σ' H' s'∧D.bk σ' H'
 |.cont=>∃σ' H',Inv X pins σ' H' s'∧D.ct σ' H'
 |.ret u=>∃v σ' H',Inv X pins σ' H' s'∧RelV v u∧D.rt v H'
def PE (X:Cx) (e:Expr) (t:TE):Prop :=
 ∀(pins:List (Addr×Obj)) (s:Shared) (σ:St) (H:Hp) (Q:VK),Inv X pins σ H s→t σ H Q→wpAny (model X.prog X.w) X.A (eval e X.env) (EP X pins σ Q) X.xe s
def PT (X:Cx) (e:Expr) (t:TT):Prop :=
 ∀(pins:List (Addr×Obj)) (s:Shared) (σ:St) (H:Hp) (Q:Bool→Hp→Prop),Inv X pins σ H s→t σ H Q→wpAny (model X.prog X.w) X.A (isTrue e X.env (eval e X.env)) (TP X pins σ Q) X.xe s
def PW (X:Cx) (e:Expr) (t:TT):Prop :=
 ∀(whole:Sem Value) (pins:List (Addr×Obj)) (s:Shared) (σ:St) (H:Hp) (Q:Bool→Hp→Prop),Inv X pins σ H s→t σ H Q→wpAny (model X.prog X.w) X.A (isTrue e X.env whole) (TP X pins σ Q) X.xe s
theorem PW.pt {X:Cx} {e:Expr} {t:TT} (h:PW X e t):PT X e t:=h _
def PA (X:Cx) (es:List Expr) (t:TA):Prop :=
 ∀(pos:Pos) (pins:List (Addr×Obj)) (s:Shared) (σ:St) (H:Hp) (Q:List V→Hp→Prop),Inv X pins σ H s→t σ H Q→wpAny (model X.prog X.w) X.A (spliced (backTo pos (starEach es X.env))) (AP X pins σ Q) X.xe s
def PS (X:Cx) (st:Stmt) (t:TS):Prop :=
 ∀(pins:List (Addr×Obj)) (s:Shared) (σ:St) (H:Hp) (D:Ends),Inv X pins σ H s→t D σ H→wpAny (model X.prog X.w) X.A (exec st X.env) (SP X pins D) X.xe s
def PSs (X:Cx) (st:List Stmt) (t:TS):Prop :=
 ∀(pins:List (Addr×Obj)) (s:Shared) (σ:St) (H:Hp) (D:Ends),Inv X pins σ H s→t D σ H→wpAny (model X.prog X.w) X.A (execs st X.env) (SP X pins D) X.xe s
theorem jN {α:Type} {t:Sem α} {Q Q':α→Shared→Prop} {M:Model} {A:Around} {E:Value→Shared→Prop} {s:Shared} (h:wpAny M A t Q E s) (hQ:∀a s,Q a s→Q' a s):wpAny M A t Q' E s:=bp h hQ fun _ _ x=>x
section
variable {X:Cx}
def uS (i:Nat):TE:=fun σ H Q=>∃v,σ[i]?=some (some v)∧Q v H
def tC (v:V):TE:=fun _ H Q=>Q v H
theorem G2 {i:Nat} {x:Str} {pos:Pos} (hN:X.N[i]?=some x) (hv:fH X.env.scope x) (hd:(x == ("__debug__":Str))=false:=by decide) (hcd:(x == ("__classdict__":Str))=false:=by decide):PE X (.Name x pos) (uS i):=by
 intro pins s σ H Q I h;obtain ⟨v,e,h⟩:=h;obtain ⟨m,hn,hl⟩:=I.loc;obtain ⟨u,r,l⟩:=hl i x v hN e hv;have fin:EP X pins σ Q u s:=⟨v,H,I,r,h⟩
 rcases l with ⟨hk,hm⟩|⟨hk,c,hc,hcell⟩
 ·exact wpAny_Name (wpAny_loadName_local I.ok.kind hk hn hm fin) hd
 ·rcases hk with hk|hk
  ·exact wpAny_Name (wpAny_loadName_cell I.ok.kind hk hc hcell fin) hd
  ·exact wpAny_Name (wpAny_loadName_free I.ok.kind hk hc hcell fin hcd) hd
theorem jC {i j pos}:PE X (.Constant (.int i) j pos) (tC (.int i)):=fun _ _ _ H _ I h=>wpAny_Constant_int ⟨.int i,H,I.tok _,⟨_,rfl⟩,h⟩
theorem ZS {b j pos}:PE X (.Constant (.bool b) j pos) (tC (.bl b)):=fun _ _ _ H _ I h=>Constant_bool ⟨.bl b,H,I,rfl,h⟩
theorem mI {j pos}:PE X (.Constant .none j pos) (tC .non):=fun _ _ _ H _ I h=>Constant_none ⟨.non,H,I,rfl,h⟩
theorem jS {x j pos}:PE X (.Constant (.str x) j pos) (tC (.str x)):=fun _ _ _ H _ I h=>Calls.Constant_str ⟨.str x,H,I.tok _,⟨_,rfl⟩,h⟩
def Gl (X:Cx) (x:Str):Prop:=X.env.kindOf x=some .globalImplicit
theorem QN {E:Value→Shared→Prop} {pins:List (Addr×Obj)} {s:Shared} {σ:St} {H:Hp} {x:Str} {u:Value} {pos:Pos} {Q:Value→Shared→Prop} (I:Inv X pins σ H s) (hg:Gl X x) (hm:X.mg x=some u) (h:Q u s)
  (hd:(x == ("__debug__":Str))=false:=by decide):wpAny (model X.prog X.w) X.A (eval (.Name x pos) X.env) Q E s :=
 Calls.Name_function_global I.ok.kind hg (Calls.loadGlobal_global (by rw [I.ok.glob];exact I.mod.glob.keeps I.bk) hm h) hd
theorem ZO {E:Value→Shared→Prop} {pins:List (Addr×Obj)} {s:Shared} {σ:St} {H:Hp} {x:Str} {u:Value} {pos:Pos} {Q:Value→Shared→Prop} (I:Inv X pins σ H s) (hg:Gl X x) (hm:X.mg x=none) (hv:bootBuiltins x=some u) (h:Q u s)
  (hn:x≠"__name__":=by decide) (hd:(x == ("__debug__":Str))=false:=by decide):wpAny (model X.prog X.w) X.A (eval (.Name x pos) X.env) Q E s:=by
 obtain ⟨mb,h1,h2⟩:=I.mod.blt;exact Calls.Name_function_global I.ok.kind hg (Calls.loadGlobal_builtin (by rw [I.ok.glob];exact I.mod.glob.keeps I.bk) hm (by rw [I.ok.blt];exact h1.keeps I.bk) ((h2 x hn).trans hv) h) hd
theorem yZ {x:Str} {v:V} {u:Value} {pos:Pos} (hg:Gl X x) (hm:X.mg x=some u) (r:RelV v u) (hd:(x == ("__debug__":Str))=false:=by decide):PE X (.Name x pos) (tC v) :=
 fun _ _ _ H _ I h=>QN I hg hm ⟨v,H,I,r,h⟩ hd
theorem FT {x:Str} {v:V} {u:Value} {pos:Pos} (hg:Gl X x) (hm:X.mg x=none) (hv:bootBuiltins x=some u) (r:RelV v u) (hn:x≠"__name__":=by decide) (hd:(x == ("__debug__":Str))=false:=by decide):PE X (.Name x pos) (tC v) :=
 fun _ _ _ H _ I h=>ZO I hg hm hv ⟨v,H,I,r,h⟩ hn hd
variable {a b:Expr} {ta tb:TE} {pos:Pos}
def tB (t:TE):TT:=fun σ H Q=>t σ H fun x H1=>∃c,x=.bl c∧Q c H1
theorem yO {e:Expr} {t:TE} (h:PE X e t) (he:∀whole,isTrue e X.env whole=(do let v ← whole;standAt e.pos;holding [v] (truthy v)):=by intro _;rfl):PT X e (tB t):=by
 intro pins s σ H Q I hw;refine isTrue_plain (jN (h pins s σ H _ I hw) fun v s1 ⟨x,H1,I1,r1,q1⟩=>?_) (he _);obtain ⟨d,rfl,q⟩:=q1;cases r1;exact ed ⟨H1,I1,q⟩
variable {tA tB':TT} {rest:List Expr}
def KC (t u:TT):TT:=fun σ H Q=>t σ H fun c H1=>if c=true then u σ H1 Q else Q false H1
def K9 (t u:TT):TT:=fun σ H Q=>t σ H fun c H1=>if c=true then Q true H1 else u σ H1 Q
def IX (t:TT):TT:=fun σ H Q=>t σ H fun c H1=>Q (!c) H1
theorem sY (ha:PT X a tA):PW X (.BoolOp .And [a] pos) tA:=by
 intro wh pins s σ H Q I h;refine isTrue_and (jN (ha pins s σ H Q I h) fun c s1 e=>?_);cases c with
 |true=>exact isTrue_and_nil e
 |false=>exact e
theorem mF (ha:PT X a tA):PW X (.BoolOp .Or [a] pos) tA:=by
 intro wh pins s σ H Q I h;refine isTrue_or (jN (ha pins s σ H Q I h) fun c s1 e=>?_);cases c with
 |false=>exact isTrue_or_nil e
 |true=>exact e
theorem tW (ha:PT X a tA) (hb:PW X (.BoolOp .And (b::rest) pos) tB'):PW X (.BoolOp .And (a::b::rest) pos) (KC tA tB'):=by
 intro wh pins s σ H Q I h;refine isTrue_and (jN (ha pins s σ H _ I h) fun c s1 ⟨H1,I1,q1⟩=>?_);cases c with
 |true=>exact hb wh pins s1 σ H1 Q I1 q1
 |false=>exact ⟨H1,I1,q1⟩
theorem bN (ha:PT X a tA) (hb:PW X (.BoolOp .Or (b::rest) pos) tB'):PW X (.BoolOp .Or (a::b::rest) pos) (K9 tA tB'):=by
 intro wh pins s σ H Q I h;refine isTrue_or (jN (ha pins s σ H _ I h) fun c s1 ⟨H1,I1,q1⟩=>?_);cases c with
 |true=>exact ⟨H1,I1,q1⟩
 |false=>exact hb wh pins s1 σ H1 Q I1 q1
theorem ZL (ha:PT X a tA):PT X (.UnaryOp .Not a pos) (IX tA):=by
 intro pins s σ H Q I h;exact isTrue_not (ha pins s σ H (fun c H1=>Q (!c) H1) I h)
def HR (ta tb:TE):TE:=fun σ H Q=>ta σ H fun x H1=>∃c,x=.bl c∧if c=true then tb σ H1 Q else Q (.bl false) H1
theorem tY {op} {t:TE} (h:PE X a t):PE X (.BoolOp op [a] pos) t:=fun pins s σ H Q I hw=>BoolOp_one (h pins s σ H Q I hw)
theorem tZ (ha:PE X a ta) (hb:PE X (.BoolOp .And (b::rest) pos) tb):PE X (.BoolOp .And (a::b::rest) pos) (HR ta tb):=by
 intro pins s σ H Q I h;refine BoolOp_and (jN (ha pins s σ H _ I h) fun v s1 ⟨x,H1,I1,r1,q1⟩=>?_);obtain ⟨c,rfl,q1⟩:=q1;cases r1;refine ed ?_;cases c with
 |true=>exact hb pins s1 σ H1 Q I1 q1
 |false=>exact ⟨.bl false,H1,I1,rfl,q1⟩
def LA (t:TT) (ta tb:TE):TE:=fun σ H Q=>t σ H fun c H1=>if c=true then ta σ H1 Q else tb σ H1 Q
theorem dO {c:Expr} (hc:PT X c tA) (ha:PE X a ta) (hb:PE X b tb):PE X (.IfExp c a b pos) (LA tA ta tb):=by
 intro pins s σ H Q I h;refine wpAny_IfExp (jN (hc pins s σ H _ I h) fun d s1 ⟨H1,I1,q1⟩=>?_);cases d with
 |true=>exact ha pins s1 σ H1 Q I1 q1
 |false=>exact hb pins s1 σ H1 Q I1 q1
end
def SqL (K:PySem.W.Frag) (H:Hp) (a:Addr) (xs:List V):Prop :=
 Rd H a (.lst xs)∨
  ∃(o:Obj) (its:Array Value) (n:Nat),K.lookup a=some o∧o.cls=.type "list"∧o.dict=none∧o.data=.seq its n∧its.size≤sizeLine∧Vals xs its.toList
def SqT (K:PySem.W.Frag) (H:Hp) (a:Addr) (xs:List V):Prop :=
 Rd H a (.tup xs)∨
  ∃(o:Obj) (its:Array Value) (n:Nat),K.lookup a=some o∧o.cls=.type "tuple"∧o.data=.seq its n∧its.size≤sizeLine∧Vals xs its.toList
def K0:Value→Option V
 |.none=>some .non
 |.bool b=>some (.bl b)
 |.int i _=>some (.int i)
 |.str x _=>some (.str x)
 |.bytes b _=>some (.byt b)
 |.float b _=>some (.flt b)
 |.ref a=>some (.ref a)
 |.type n=>some (.ty n)
 |_=>none
variable {u:Value}
theorem RelV.abs {x:V} (r:RelV x u):K0 u=some x:=by
 cases x with
 |non=>cases r;rfl
 |bl _=>cases r;rfl
 |int _=>obtain ⟨t,rfl⟩:=r;rfl
 |str _=>obtain ⟨t,rfl⟩:=r;rfl
 |byt _=>obtain ⟨t,rfl⟩:=r;rfl
 |flt _=>obtain ⟨t,rfl⟩:=r;rfl
 |ref _=>cases r;rfl
 |ty _=>cases r;rfl
theorem RelV.inj {x y:V} (r:RelV x u) (q:RelV y u):x=y:=az (r.abs.symm.trans q.abs)
theorem Vals.inj:∀{xs ys:List V} {us:List Value},Vals xs us→Vals ys us→xs=ys
 |_,_,_,.nil,.nil=>rfl
 |_,_,_,.cons r t,.cons r' t'=>by rw [r.inj r',Vals.inj t t']
section
variable {X:Cx} {pins:List (Addr×Obj)} {σ:St} {H:Hp} {s:Shared} {a:Addr} {xs ys:List V}
theorem SqL.of {K:PySem.W.Frag} (h:H a=some (.lst xs)):SqL K H a xs:=.inl (.inl h)
theorem SqT.of {K:PySem.W.Frag} (h:H a=some (.tup xs)):SqT K H a xs:=.inl (.inl h)
theorem Inv.list (I:Inv X pins σ H s) (h:SqL X.K H a xs):∃its:List Value,Vals xs its∧PlainL s.heap a its.toArray∧xs.length≤sizeLine:=by
 rcases h with h|⟨o,its,n,hk,hc,hd,hs,hz,r⟩
 ·obtain ⟨z,its,n,r,e⟩:=h.ok I.hok;exact ⟨its,r,⟨_,n,e,rfl,rfl,rfl⟩,z⟩
 ·refine ⟨its.toList,r,⟨o,n,I.kIn a o hk,hc,hd,by simpa using hs⟩,?_⟩;have e:=r.length;simp only [ci] at e;omega
theorem Inv.tuple (I:Inv X pins σ H s) (h:SqT X.K H a xs):∃its:List Value,Vals xs its∧IsTup s.heap a its.toArray∧xs.length≤sizeLine:=by
 rcases h with h|⟨o,its,n,hk,hc,hs,hz,r⟩
 ·obtain ⟨z,its,r,p⟩:=h.ok I.hok;exact ⟨its,r,p,z⟩
 ·refine ⟨its.toList,r,⟨o,I.kIn a o hk,hc,n,by simpa using hs⟩,?_⟩;have e:=r.length;simp only [ci] at e;omega
theorem Inv.list_inj (I:Inv X pins σ H s) (h:SqL X.K H a xs) (h':SqL X.K H a ys):xs=ys:=by
 obtain ⟨its,r,⟨o,n,e,_,_,d⟩,_⟩:=I.list h;obtain ⟨its',r',⟨o',n',e',_,_,d'⟩,_⟩:=I.list h';rw [e] at e';cases e'
 rw [d] at d';injection d' with d1 _
 have:its=its':=by simpa using bw Array.toList d1
 subst this;exact r.inj r'
theorem Inv.tuple_inj (I:Inv X pins σ H s) (h:SqT X.K H a xs) (h':SqT X.K H a ys):xs=ys:=by
 obtain ⟨its,r,⟨o,e,_,n,d⟩,_⟩:=I.tuple h;obtain ⟨its',r',⟨o',e',_,n',d'⟩,_⟩:=I.tuple h';rw [e] at e';cases e'
 rw [d] at d';injection d' with d1 _
 have:its=its':=by simpa using bw Array.toList d1
 subst this;exact r.inj r'
end
abbrev Cx.wish (X:Cx) (E:Value→Shared→Prop):Cx:={X with xe:=E}
abbrev Cx.nox (X:Cx):Cx:=X.wish fun _ _=>False
variable {X:Cx}
theorem Cx.Ok.wish (ok:X.Ok) (E:Value→Shared→Prop):(X.wish E).Ok :=
 ⟨ok.mod,ok.kind,ok.glob,ok.blt,ok.above,ok.inj,ok.has,ok.cab,ok.hd,ok.frames,ok.stk,ok.exf,ok.bs,ok.bsz,ok.noex,ok.exfs,ok.funs,ok.frf⟩
theorem Cx.Ok.unwish {E:Value→Shared→Prop} (ok:(X.wish E).Ok):X.Ok :=
 ⟨ok.mod,ok.kind,ok.glob,ok.blt,ok.above,ok.inj,ok.has,ok.cab,ok.hd,ok.frames,ok.stk,ok.exf,ok.bs,ok.bsz,ok.noex,ok.exfs,ok.funs,ok.frf⟩
section
variable {X:Cx} {pins:List (Addr×Obj)} {σ:St} {H:Hp} {s:Shared} {E:Value→Shared→Prop}
theorem Inv.wish (I:Inv X pins σ H s) (E:Value→Shared→Prop):Inv (X.wish E) pins σ H s:=⟨I.ok.wish E,I.os,I.bare,I.base,I.loc,I.cell,I.free,I.freeC,I.pin,I.hok,I.len⟩
theorem Inv.unwish (I:Inv (X.wish E) pins σ H s):Inv X pins σ H s:=⟨I.ok.unwish,I.os,I.bare,I.base,I.loc,I.cell,I.free,I.freeC,I.pin,I.hok,I.len⟩
theorem SP.unwish {D:Ends} {f:Flow} {s':Shared} (h:SP (X.wish E) pins D f s'):SP X pins D f s':=by
 cases f with
 |next=>obtain ⟨σ',H',I,q⟩:=h;exact ⟨σ',H',I.unwish,q⟩
 |brk=>obtain ⟨σ',H',I,q⟩:=h;exact ⟨σ',H',I.unwish,q⟩
 |cont=>obtain ⟨σ',H',I,q⟩:=h;exact ⟨σ',H',I.unwish,q⟩
 |ret u=>obtain ⟨v,σ',H',I,r,q⟩:=h;exact ⟨v,σ',H',I.unwish,r,q⟩
theorem PE.nox {e:Expr} {t:TE} (h:PE X.nox e t):PE X e t:=fun pins s σ H Q I hw =>
 bp (h pins s σ H Q (I.wish _) hw) (fun _ _ ⟨v,H',I',r,q⟩=>⟨v,H',I'.unwish,r,q⟩) fun _ _ z=>False.elim z
theorem PSs.nox {st:List Stmt} {t:TS} (h:PSs X.nox st t):PSs X st t:=fun pins s σ H D I hw =>
 bp (h pins s σ H D (I.wish _) hw) (fun _ _ q=>q.unwish) fun _ _ z=>False.elim z
end
section
variable {X:Cx} {st:Stmt} {rest:List Stmt} {t u:TS} {e:Expr} {te:TE} {pos:Pos}
def HN:TS:=fun D σ H=>D.nx σ H
def IW (t u:TS):TS:=fun D σ H=>t {D with nx:=u D} σ H
theorem kD:PSs X [] HN:=fun _ _ σ H _ I h=>gg ⟨σ,H,I,h⟩
theorem jG (h1:PS X st t) (h2:PSs X rest u):PSs X (st::rest) (IW t u):=by
 intro pins s σ H D I h;refine wpAny_execs_cons (jN (h1 pins s σ H {D with nx:=u D} I h) fun f s1 q=>?_);cases f with
 |next =>
  obtain ⟨σ',H',I',q⟩:=q;exact h2 pins s1 σ' H' D I' q
 |ret v=>exact q
 |brk=>exact q
 |cont=>exact q
theorem kB (h1:PS X st t):PSs X [st] t:=by
 intro pins s σ H D I h;refine wpAny_execs_cons (jN (h1 pins s σ H D I h) fun f s1 q=>?_);cases f with
 |next=>exact gg q
 |ret v=>exact q
 |brk=>exact q
 |cont=>exact q
theorem Inv.quiet {pins:List (Addr×Obj)} {σ:St} {H:Hp} {s:Shared} (I:Inv X pins σ H s):interactive X.env=false:=by simp [interactive,I.ok.kind]
def HP (te:TE):TS:=fun D σ H=>te σ H fun _ H1=>D.nx σ H1
theorem qE (he:PE X e te) (hs:swapsWith e none pos.line X.env=pure false:=by rfl):PS X (.Expr e pos) (HP te):=by
 intro pins s σ H D I h;exact wpAny_Expr_any (jN (he pins s σ H _ I h) fun v s1 ⟨x,H1,I1,r1,q1⟩=>⟨σ,H1,I1,q1⟩) I.quiet hs
def uT (te:TE):TS:=fun D σ H=>te σ H D.rt
theorem oF (he:PE X e te):PS X (.Return (some e) pos) (uT te):=by
 intro pins s σ H D I h;exact wpAny_Return_some (jN (he pins s σ H _ I h) fun v s1 ⟨x,H1,I1,r1,q1⟩=>⟨x,σ,H1,I1,r1,q1⟩)
def IZ (c:TT) (t u:TS):TS:=fun D σ H=>c σ H fun b H1=>if b=true then t D σ H1 else u D σ H1
theorem j9 {c:Expr} {a b:List Stmt} {tc:TT} (hc:PT X c tc) (ha:PSs X a t) (hb:PSs X b u):PS X (.If c a b pos) (IZ tc t u):=by
 intro pins s σ H D I h;refine wpAny_If (jN (hc pins s σ H _ I h) fun d s1 ⟨H1,I1,q1⟩=>?_);cases d with
 |true=>exact ha pins s1 σ H1 D I1 q1
 |false=>exact hb pins s1 σ H1 D I1 q1
end
abbrev TG:=V→St→Hp→(St→Hp→Prop)→Prop
abbrev QD:=List V→St→Hp→(St→Hp→Prop)→Prop
def PG (X:Cx) (target:Expr) (t:TG):Prop :=
 ∀(pins:List (Addr×Obj)) (s:Shared) (σ:St) (H:Hp) (v:V) (u:Value) (Q:St→Hp→Prop),Inv X pins σ H s→RelV v u→t v σ H Q→
  wpAny (model X.prog X.w) X.A (assign target X.env u) (fun _ s'=>∃σ' H',Inv X pins σ' H' s'∧Q σ' H') X.xe s
def bY (X:Cx) (ts:List Expr) (t:QD):Prop :=
 ∀(pins:List (Addr×Obj)) (s:Shared) (σ:St) (H:Hp) (vs:List V) (us:List Value) (Q:St→Hp→Prop),Inv X pins σ H s→Vals vs us→t vs σ H Q→
  wpAny (model X.prog X.w) X.A (assignInOrder ((assignEach ts X.env).map (·.2)) us) (fun _ s'=>∃σ' H',Inv X pins σ' H' s'∧Q σ' H') X.xe s
abbrev bS:=V→V→V→Hp→(Hp→Prop)→Prop
def nK (X:Cx) (t:bS):Prop :=
 ∀(pins:List (Addr×Obj)) (s:Shared) (σ:St) (H:Hp) (o i v:V) (ov iv u:Value) (Q:Hp→Prop),Inv X pins σ H s→RelV o ov→RelV i iv→RelV v u→t o i v H Q→
  wpAny (model X.prog X.w) X.A (setItem ov iv u) (fun _ s'=>∃H',Inv X pins σ H' s'∧Q H') X.xe s
abbrev fI:=V→V→Hp→VK→Prop
def nZ (X:Cx) (op:Operator) (t:fI):Prop :=
 ∀(pins:List (Addr×Obj)) (s:Shared) (σ:St) (H:Hp) (x y:V) (v u:Value) (Q:VK),Inv X pins σ H s→RelV x v→RelV y u→t x y H Q→
  wpAny (model X.prog X.w) X.A (inplaceOp op v u) (EP X pins σ Q) X.xe s
section
variable {X:Cx} {pos:Pos}
def zN (i:Nat):TG:=fun v σ H Q=>Q (σ.set i (some v)) H
theorem qD {i:Nat} {x:Str} (hN:X.N.Nodup) (hi:X.N[i]?=some x) (hx:Z2 X.env.scope x) (hf:X.fn x=true∨X.env.scope.names.lookup x=some .local:=by first|exact .inl rfl|exact .inr rfl|assumption):PG X (.Name x pos) (zN i):=by
 intro pins s σ H v u Q I r h;exact wpAny_assign_Name (lH I hN hi hx r (fun s' I'=>⟨_,H,I',h⟩) hf)
def KR:QD:=fun vs σ H Q=>vs=[]∧Q σ H
def IK (t:TG) (u:QD):QD:=fun vs σ H Q=>∃v r,vs=v::r∧t v σ H fun σ' H'=>u r σ' H' Q
theorem ZI:bY X [] KR:=by
 intro pins s σ H vs us Q I r h;obtain ⟨e,h⟩:=h;subst e;cases r;exact assignInOrder_nil ⟨σ,H,I,h⟩
theorem yM {e:Expr} {es:List Expr} {t:TG} {u:QD} (h1:PG X e t) (h2:bY X es u)
  (hs:(assignEach (e::es) X.env).map (·.2)=assign e X.env::(assignEach es X.env).map (·.2):=by rfl):bY X (e::es) (IK t u):=by
 intro pins s σ H vs us Q I r h;obtain ⟨v,vr,e1,h⟩:=h;subst e1;cases r with
 |cons r rr =>
  rw [hs];refine assignInOrder_cons (jN (h1 pins s σ H _ _ _ I r h) fun _ s1 ⟨σ1,H1,I1,q1⟩=>?_);exact h2 pins s1 σ1 H1 _ _ Q I1 rr q1
def u8 (K:PySem.W.Frag) (n:Nat) (t:QD):TG:=fun v σ H Q=>∃a xs,v=.ref a∧SqT K H a xs∧xs.length=n∧t xs σ H Q
theorem dZ {es:List Expr} {k:Nat} {t:QD} {n:Nat} (hc:X.calm=true) (h:bY X es t)
  (hn:(assignEach es X.env).length=n:=by rfl) (hst:(assignEach es X.env).findIdx? (·.1)=none:=by rfl):PG X (.Tuple es k pos) (u8 X.K n t):=by
 intro pins s σ H v u Q I r hw;obtain ⟨a,xs,e1,hq,hl,hw⟩:=hw;subst e1;cases r;obtain ⟨its,rv,ht,hz⟩:=I.tuple hq;refine assign_Tuple_tuple (I.ok.hd hc) ht (by simp [hn,← hl,rv.length]) hst fun h' hx=>?_
 have I1:Inv X pins σ H {s with heap:=h'}:=I.kept (t':=s.toks) fun b o e=>hx b o (aH (aq e)) e
 exact h pins _ σ H xs _ Q I1 (by simpa using rv) hw
def KQ (to ti:TE) (t:bS):TG:=fun v σ H Q=>to σ H fun o H1=>ti σ H1 fun i H2=>t o i v H2 fun H3=>Q σ H3
theorem mH {o i:Expr} {to ti:TE} {t:bS} (ho:PE X o to) (hi:PE X i ti) (hs:nK X t)
  (ha:∀v,assign (.Subscript o i pos) X.env v=(do
   let ov ← holding [v] (eval o X.env)
   let iv ← holding [v,ov] (eval i X.env)
   standAt pos
   holding [v,ov,iv] (setItem ov iv v)
   release [v,ov,iv] []):=by intro _;rfl):PG X (.Subscript o i pos) (KQ to ti t):=by
 intro pins s σ H v u Q I r h;rw [ha];refine ac (wpAny_holding (jN (ho pins s σ H _ I h) fun ov s1 ⟨x,H1,I1,r1,q1⟩=>?_));refine ac (wpAny_holding (jN (hi pins s1 σ H1 _ I1 q1) fun iv s2 ⟨y,H2,I2,r2,q2⟩=>?_));refine ac (wpAny_standAt (ac (wpAny_holding (jN (hs pins s2 σ H2 x y v ov iv u _ I2 r1 r2 r q2) fun _ s3 ⟨H3,I3,q3⟩=>?_))));exact wpAny_release ⟨σ,H3,I3,q3⟩
def nA (te:TE) (g:TG):TS:=fun D σ H=>te σ H fun x H1=>g x σ H1 D.nx
theorem mG {tg e:Expr} {te:TE} {g:TG} (he:PE X e te) (hg:PG X tg g) (hs:swapsWithSole [tg] e pos.line X.env=pure false:=by rfl) (hw:swappedStores [tg] e X.env=pure none:=by rfl)
  (h1:(assignEach [tg] X.env).map (·.2)=[assign tg X.env]:=by rfl):PS X (.Assign [tg] e pos) (nA te g):=by
 intro pins s σ H D I h;refine wpAny_Assign_stores (jN (he pins s σ H _ I h) fun v s1 ⟨x,H1,I1,r1,q1⟩=>?_) hs hw;rw [h1];exact jN (hg pins s1 σ H1 x v _ I1 r1 q1) fun _ s2 q=>q
theorem oH {i:Nat} {x:Str} {e:Expr} {te:TE} {pos':Pos} (hN:X.N.Nodup) (hi:X.N[i]?=some x) (hx:Z2 X.env.scope x) (he:PE X e te) (hs:swapsWith e (some (.Name x pos')) pos.line X.env=pure false:=by rfl) (hf:X.fn x=true∨X.env.scope.names.lookup x=some .local:=by first|exact .inl rfl|exact .inr rfl|assumption) :
  PS X (.Assign [.Name x pos'] e pos) (nA te (zN i)):=by
 intro pins s σ H D I h;refine wpAny_Assign_Name (jN (he pins s σ H _ I h) fun v s1 ⟨y,H1,I1,r1,q1⟩=>?_) hs;exact lH I1 hN hi hx r1 (fun s2 I2=>⟨_,H1,I2,q1⟩) hf
def HQ (to ti te:TE) (tget:V→V→Hp→VK→Prop) (tip:fI) (tset:bS):TS:=fun D σ H=>to σ H fun o H1=>ti σ H1 fun i H2=>tget o i H2 fun x H3=>te σ H3 fun y H4=>tip x y H4 fun z H5=>tset o i z H5 fun H6=>D.nx σ H6
def wE (X:Cx) (t:V→V→Hp→VK→Prop):Prop :=
 ∀(pins:List (Addr×Obj)) (s:Shared) (σ:St) (H:Hp) (o i:V) (ov iv:Value) (Q:VK),Inv X pins σ H s→RelV o ov→RelV i iv→t o i H Q→
  wpAny (model X.prog X.w) X.A (getItem ov iv) (EP X pins σ Q) X.xe s
theorem lV {o i e:Expr} {to ti te:TE} {tget:V→V→Hp→VK→Prop} {tip:fI} {tset:bS} {op:Operator} {tpos:Pos} (ho:PE X o to) (hi:PE X i ti) (hg:wE X tget) (he:PE X e te) (hp:nZ X op tip) (hs:nK X tset)
  (ha:∀ov iv new,augStore i ov iv new=(do holding [new,ov,iv] (setItem ov iv new);release [new,ov,iv] [];pure .next):=by intros;rfl):PS X (.AugAssign (.Subscript o i tpos) op e pos) (HQ to ti te tget tip tset):=by
 intro pins s σ H D I h;refine wpAny_AugAssign_SubscriptAny (jN (ho pins s σ H _ I h) fun ov s1 ⟨x1,H1,I1,r1,q1⟩=>?_) ha;refine jN (hi pins s1 σ H1 _ I1 q1) fun iv s2 ⟨x2,H2,I2,r2,q2⟩=>?_
 refine jN (hg pins s2 σ H2 x1 x2 ov iv _ I2 r1 r2 q2) fun old s3 ⟨x3,H3,I3,r3,q3⟩=>?_
 refine jN (he pins s3 σ H3 _ I3 q3) fun v s4 ⟨x4,H4,I4,r4,q4⟩=>?_
 refine jN (hp pins s4 σ H4 x3 x4 old v _ I4 r3 r4 q4) fun new s5 ⟨x5,H5,I5,r5,q5⟩=>?_
 exact jN (hs pins s5 σ H5 x1 x2 x5 ov iv new _ I5 r1 r2 r5 q5) fun _ s6 ⟨H6,I6,q6⟩=>⟨σ,H6,I6,q6⟩
def wG (f:Int→Int→Int):fI:=fun x y H Q=>∃i j,x=.int i∧y=.int j∧Q (.int (f i j)) H
theorem uC:nZ X .Add (wG fun i j=>i+j):=by
 intro pins s σ H x y v u Q I r1 r2 h;obtain ⟨i,j,e1,e2,q⟩:=h;subst e1;subst e2
 obtain ⟨t,rfl⟩:=r1;obtain ⟨t',rfl⟩:=r2;exact iadd_int ⟨.int _,H,I.tok _,⟨_,rfl⟩,q⟩
theorem HH:nZ X .Sub (wG fun i j=>i - j):=by
 intro pins s σ H x y v u Q I r1 r2 h;obtain ⟨i,j,e1,e2,q⟩:=h;subst e1;subst e2
 obtain ⟨t,rfl⟩:=r1;obtain ⟨t',rfl⟩:=r2;exact isub_int ⟨.int _,H,I.tok _,⟨_,rfl⟩,q⟩
end
structure It where
 go:Nat→Hp→Prop
 yld:Nat→Hp→V→Hp→Prop
 stop:Nat→Hp→Prop
def yT (X:Cx) (pins:List (Addr×Obj)) (H:Hp) (b:Addr):Prop :=
 H b=none∧b≠X.env.locals∧b∉X.fs∧(b∈X.ex∨X.s₀.heap.objs.size≤b)∧(∀x c,X.env.cells.lookup x=some c→c≠b)∧∀p∈X.pn++pins,p.1≠b
theorem Inv.fpOk {pins:List (Addr×Obj)} {σ:St} {H H':Hp} {s:Shared} {b:Addr} (I:Inv X pins σ H s) (hb:s.heap.objs.size≤b) (hn:H' b=none):yT X pins H' b:=by
 refine ⟨hn,dt (ar I.lt hb),I.nofs hb,.inr (aR I.sz hb),fun x c e z=>?_,fun p hp z=>?_⟩
 ·obtain ⟨v,q⟩:=I.cell x c e;exact absurd (ar q.lt (by rw [z];exact hb)) (bh _)
 ·exact absurd (ar (aq (I.pin p hp).1) (by rw [z];exact hb)) (bh _)
structure Turn (P:Program) (w:World) (K:PySem.W.Frag) (tg:Expr) (J:It) (fp:List Addr) (it:Addr) (tn:Nat→Heap→Prop):Prop where
 mem:it∈fp
 obj:∀i h,tn i h→∀b∈fp,∃o,h.get? b=some o∧∀v,o.data≠.cell v
 keep:∀i h h',tn i h→(∀b∈fp,∀o,h.get? b=some o→h'.get? b=some o)→tn i h'
 item:∀(X:Cx),X.prog=P→X.w=w→X.K=K→X.calm=true→∀(i:Nat) (pins:List (Addr×Obj)) (s:Shared) (σ:St) (H:Hp) (E:Value→Shared→Prop),Inv X pins σ H s→(∀b∈fp,yT X pins H b)→tn i s.heap→J.go i H→
  wpAny (model P w) X.A (pyNext (.ref it)) (fun r s1=>∃u,r=some u∧
   wpAny (model P w) X.A (letOwnedTupleGo tg (.ref it) u) (fun _ s2=>∃x H',Inv X pins σ H' s2∧RelV x u∧J.yld i H x H'∧tn (i+1) s2.heap∧∀b∈fp,H' b=none) E s1) E s
 done:∀(X:Cx),X.prog=P→X.w=w→X.K=K→X.calm=true→∀(i:Nat) (pins:List (Addr×Obj)) (s:Shared) (σ:St) (H:Hp) (E:Value→Shared→Prop),Inv X pins σ H s→(∀b∈fp,yT X pins H b)→tn i s.heap→J.stop i H→
  wpAny (model P w) X.A (pyNext (.ref it)) (fun r s1=>r=none∧Inv X pins σ H s1) E s
 self:∀(A:Around) (i:Nat) (s:Shared) (Q:Value→Shared→Prop) (E:Value→Shared→Prop),tn i s.heap→Q (.ref it) s→wpAny (model P w) A (pyIter (.ref it)) Q E s
abbrev TI:=St→Hp→(It→Hp→Prop)→Prop
def oA (X:Cx) (pins:List (Addr×Obj)) (σ:St) (tg:Expr) (R:It→Hp→Prop) (itv:Value) (s2:Shared):Prop :=
 ∃(it:Addr) (fp:List Addr) (tn:Nat→Heap→Prop) (J:It) (H':Hp),itv=.ref it∧Inv X pins σ H' s2∧Turn X.prog X.w X.K tg J fp it tn∧tn 0 s2.heap∧(∀b∈fp,yT X pins H' b)∧R J H'
def PI (X:Cx) (tg iter:Expr) (wi:TI):Prop :=
 ∀(pins:List (Addr×Obj)) (s:Shared) (σ:St) (H:Hp) (R:It→Hp→Prop),Inv X pins σ H s→wi σ H R→
  wpAny (model X.prog X.w) X.A (eval iter X.env) (fun v s1=>wpAny (model X.prog X.w) X.A (pyIter v) (oA X pins σ tg R) X.xe s1) X.xe s
variable {tg:Expr}
theorem eV {M:Model} {A:Around} {E:Value→Shared→Prop} {s:Shared} {it:Addr} {o:Obj} {n:String} {vs:Array Value} {Q:Unit→Shared→Prop} (ho:s.heap.get? it=some o) (hc:o.cls=.type n) (hd:o.data=.fields vs)
    (hn:["enumerate","zip","dict_itemiterator","dict_reverseitemiterator","odict_iterator","itertools.zip_longest","itertools.pairwise"].contains n=false) (hQ:Q () s):wpAny M A (letOwnedTupleGo tg (.ref it) u) Q E s:=by
  unfold letOwnedTupleGo;cases tg<;>first
    |exact aM hQ
    | (cases u<;>first
        |exact aM hQ
        | (refine ac (wpAny_load ho ?_)
           rw [hc,hd];show wpAny M A (if (["enumerate","zip","dict_itemiterator","dict_reverseitemiterator","odict_iterator","itertools.zip_longest","itertools.pairwise"].contains n&&vs[0]? == some (rawInt _))=true then _ else _) Q E s;rw [if_neg (by intro h;rw [hn,Bool.false_and] at h;cases h)];exact aM hQ))
def Q4 (K:PySem.W.Frag) (a:Addr):It :=
 ⟨fun i H=>∃xs x,SqL K H a xs∧xs[i]?=some x,fun i H x H'=>H'=H∧∀xs,SqL K H a xs→xs[i]?=some x,fun i H=>∃xs,SqL K H a xs∧xs.length≤i⟩
def Q3 (K:PySem.W.Frag) (a:Addr):It :=
 ⟨fun i H=>∃xs x,SqT K H a xs∧xs[i]?=some x,fun i H x H'=>H'=H∧∀xs,SqT K H a xs→xs[i]?=some x,fun i H=>∃xs,SqT K H a xs∧xs.length≤i⟩
def QF (lo:Int) (n:Nat):It:=⟨fun i _=>i<n,fun i H x H'=>H'=H∧x=.int (lo+i),fun i _=>n≤i⟩
variable {P:Program} {w:World} {K:PySem.W.Frag}
theorem DL (a it:Addr):Turn P w K tg (Q4 K a) [it] it (fun i h=>h.IsListIter it a i) where
 mem:=by simp
 obj:=fun i h st b hb=>by
  have e:b=it:=by simpa using hb
  subst e;obtain ⟨o,e,c,d⟩:=st;exact ⟨o,e,fun v z=>by rw [d] at z;cases z⟩
 keep:=fun i h h' st k=>st.at fun o e=>k it (by simp) o e
 item:=by
  intro X hP hw hK hc i pins s σ H E I hf st hg;subst hP hw hK;obtain ⟨xs,x,hq,hx⟩:=hg;obtain ⟨its,rv,p,hz⟩:=I.list hq;obtain ⟨u,hu,ru⟩:=rv.get hx;obtain ⟨f0,f1,f2,f3,f4,f5⟩:=hf it (by simp);refine wpAny_pyNext_list_item st p.isList (x:=u) (by simpa using hu) fun h' st' sb=>?_
  have I1:Inv X pins σ H {s with heap:=h'}:=I.turned (t':=s.toks) (fun b o hb e=>(sb.2 b hb).trans e) f0 f1 f3 f4 f5;obtain ⟨o,e,c,d⟩:=id st';exact ⟨u,rfl,eV (s:={s with heap:=h'}) e c d (by decide) ⟨x,H,I1,ru,⟨rfl,fun ys hy=>by rw [I.list_inj hy hq];exact hx⟩,st',fun b hb=>(hf b hb).1⟩⟩
 done:=by
  intro X hP hw hK hc i pins s σ H E I hf st hg;subst hP hw hK;obtain ⟨xs,hq,hx⟩:=hg;obtain ⟨its,rv,p,hz⟩:=I.list hq;obtain ⟨f0,f1,f2,f3,f4,f5⟩:=hf it (by simp);have hl:=rv.length;exact wpAny_pyNext_list_end (I.ok.hd hc) st p.isList (by simp;omega) fun h' eb=>⟨rfl,I.turned (t':=s.toks) (fun b o hb e=>eb b o hb e) f0 f1 f3 f4 f5⟩
 self:=fun _ _ _ _ _ st h=>wpAny_pyIter_listiter st h
theorem CT (a it:Addr):Turn P w K tg (Q3 K a) [it] it (fun i h=>h.IsTupleIter it a i) where
 mem:=by simp
 obj:=fun i h st b hb=>by
  have e:b=it:=by simpa using hb
  subst e;obtain ⟨o,e,c,d⟩:=st;exact ⟨o,e,fun v z=>by rw [d] at z;cases z⟩
 keep:=fun i h h' st k=>st.at fun o e=>k it (by simp) o e
 item:=by
  intro X hP hw hK hc i pins s σ H E I hf st hg;subst hP hw hK;obtain ⟨xs,x,hq,hx⟩:=hg;obtain ⟨its,rv,p,hz⟩:=I.tuple hq;obtain ⟨u,hu,ru⟩:=rv.get hx;obtain ⟨f0,f1,f2,f3,f4,f5⟩:=hf it (by simp);refine wpAny_pyNext_tuple_item st (show s.heap.IsTuple a its.toArray from p) (x:=u) (by simpa using hu) fun h' st' sb=>?_
  have I1:Inv X pins σ H {s with heap:=h'}:=I.turned (t':=s.toks) (fun b o hb e=>(sb.2 b hb).trans e) f0 f1 f3 f4 f5;obtain ⟨o,e,c,d⟩:=id st';exact ⟨u,rfl,eV (s:={s with heap:=h'}) e c d (by decide) ⟨x,H,I1,ru,⟨rfl,fun ys hy=>by rw [I.tuple_inj hy hq];exact hx⟩,st',fun b hb=>(hf b hb).1⟩⟩
 done:=by
  intro X hP hw hK hc i pins s σ H E I hf st hg;subst hP hw hK;obtain ⟨xs,hq,hx⟩:=hg;obtain ⟨its,rv,p,hz⟩:=I.tuple hq;obtain ⟨f0,f1,f2,f3,f4,f5⟩:=hf it (by simp);have hl:=rv.length;exact wpAny_pyNext_tuple_end (I.ok.hd hc) st (show s.heap.IsTuple a its.toArray from p) (by simp;omega) fun h' eb=>⟨rfl,I.turned (t':=s.toks) (fun b o hb e=>eb b o hb e) f0 f1 f3 f4 f5⟩
 self:=fun _ _ _ _ _ st h=>wpAny_pyIter_tupleiter st h
theorem CU (it:Addr) (lo:Int) (n:Nat):Turn P w K tg (QF lo n) [it] it (fun i h=>IsRangeIter h it (lo+(i:Nat)*1) ((n:Int) - (i:Nat)) 1) where
 mem:=by simp
 obj:=fun i h st b hb=>by
  have e:b=it:=by simpa using hb
  subst e;exact ⟨_,st,fun v z=>by
   have z':Data.fields _=Data.cell v:=z;cases z'⟩
 keep:=fun i h h' st k=>k it (by simp) _ st
 item:=by
  intro X hP hw hK hc i pins s σ H E I hf st hg;subst hP hw hK;obtain ⟨f0,f1,f2,f3,f4,f5⟩:=hf it (by simp);have W:=Walks.range (prog:=X.prog) (w:=X.w) (I.ok.hd hc) it lo 1 n;refine W.item i s _ _ hg st fun v h' tk hv st' kk=>?_
  obtain ⟨t,rfl⟩:=hv;have I1:Inv X pins σ H {s with heap:=h',toks:=tk}:=I.turned (fun b o hb e=>kk b o (by simpa using hb) e) f0 f1 f3 f4 f5;refine ⟨_,rfl,eV (s:={s with heap:=h',toks:=tk}) (n:="range_iterator") st' rfl rfl (by decide) ⟨.int (lo+i),H,I1,⟨t,?_⟩,⟨rfl,rfl⟩,st',fun b hb=>(hf b hb).1⟩⟩;rw [Int.mul_one]
 done:=by
  intro X hP hw hK hc i pins s σ H E I hf st hg;subst hP hw hK;obtain ⟨f0,f1,f2,f3,f4,f5⟩:=hf it (by simp);exact wpAny_pyNext_range_end (I.ok.hd hc) st (by have:n≤i:=hg;omega) fun h' eb=>⟨rfl,I.turned (t':=s.toks) (fun b o hb e=>eb b o hb e) f0 f1 f3 f4 f5⟩
 self:=fun _ _ _ _ _ st h=>wpAny_pyIter_rangeiter st h
end L2
namespace L2
open PySem PySem.Spec PyProof.Rows
section
variable {X:Cx} {tg:Expr}
def II (K:PySem.W.Frag) (tl:TE):TI:=fun σ H R=>tl σ H fun x H1=>∃a,x=.ref a∧(∃xs,SqL K H1 a xs)∧R (Q4 K a) H1
def KO (K:PySem.W.Frag) (tl:TE):TI:=fun σ H R=>tl σ H fun x H1=>∃a,x=.ref a∧(∃xs,SqT K H1 a xs)∧R (Q3 K a) H1
theorem yX {l:Expr} {tl:TE} (hl:PE X l tl):PI X tg l (II X.K tl):=by
 intro pins s σ H R I h;refine jN (hl pins s σ H _ I h) fun v s1 ⟨x,H1,I1,r1,q1⟩=>?_
 obtain ⟨a,e,⟨xs,hq⟩,q⟩:=q1;subst e;cases r1;obtain ⟨its,rv,p,hz⟩:=I1.list hq;refine wpAny_pyIter_list p.isList ?_;refine ⟨s1.heap.objs.size,[s1.heap.objs.size],_,_,H1,rfl,I1.kept (t':=s1.toks) fun b o e=>ao _ e,DL a _,⟨_,ay _ rfl,rfl,rfl⟩,fun b hb=>?_,q⟩;have e:b=s1.heap.objs.size:=by simpa using hb
 subst e;exact I1.fpOk (ai _) (I1.hok.fresh (ai _))
theorem bK {l:Expr} {tl:TE} (hl:PE X l tl):PI X tg l (KO X.K tl):=by
 intro pins s σ H R I h;refine jN (hl pins s σ H _ I h) fun v s1 ⟨x,H1,I1,r1,q1⟩=>?_
 obtain ⟨a,e,⟨xs,hq⟩,q⟩:=q1;subst e;cases r1;obtain ⟨its,rv,p,hz⟩:=I1.tuple hq;refine wpAny_pyIter_tuple (show s1.heap.IsTuple a its.toArray from p) ?_;refine ⟨s1.heap.objs.size,[s1.heap.objs.size],_,_,H1,rfl,I1.kept (t':=s1.toks) fun b o e=>ao _ e,CT a _,⟨_,ay _ rfl,rfl,rfl⟩,fun b hb=>?_,q⟩;have e:b=s1.heap.objs.size:=by simpa using hb
 subst e;exact I1.fpOk (ai _) (I1.hok.fresh (ai _))
theorem EQ {pins:List (Addr×Obj)} {σ:St} {H:Hp} {s:Shared} {R:It→Hp→Prop} {E:Value→Shared→Prop} {lo hi:Int} {t u v:Tok} {tk:Nat} (I:Inv X pins σ H s) (h1 : -(2 ^ 62)≤lo) (h2:lo<2 ^ 62) (h3 : -(2 ^ 62)≤hi) (h4:hi<2 ^ 62)
    (q:R (QF lo (hi - lo).toNat) H):wpAny (model X.prog X.w) X.A (pyIter (.ref s.heap.objs.size)) (oA X pins σ tg R) E {s with heap:=s.heap.push {cls:=.type "range",data:=.fields #[.int lo t,.int hi u,.int 1 v]},toks:=tk}:=by
  refine wpAny_pyIter_range (IsRange.new ..) (small_one h1 h2 h3 h4) ?_;have I1:Inv X pins σ H {s with heap:=s.heap.push {cls:=.type "range",data:=.fields #[.int lo t,.int hi u,.int 1 v]},toks:=tk}:=I.kept fun b o e=>ao _ e
  refine ⟨(s.heap.push {cls:=.type "range",data:=.fields #[.int lo t,.int hi u,.int 1 v]}).objs.size,[(s.heap.push {cls:=.type "range",data:=.fields #[.int lo t,.int hi u,.int 1 v]}).objs.size],_,_,H,rfl,
    I1.kept (t':=tk) fun b o e=>ao _ e,CU _ lo (hi - lo).toNat,?_,fun b hb=>?_,q⟩
  · have e1:lo+((0:Nat):Int)*1=lo:=by simp
    have e2:(((hi - lo).toNat:Nat):Int) - ((0:Nat):Int)=Builtin.Range.rangeSize lo hi 1:=by rw [rangeSize_one];split<;>omega
    show IsRangeIter _ _ (lo+((0:Nat):Int)*1) ((((hi - lo).toNat:Nat):Int) - ((0:Nat):Int)) 1;rw [e1,e2];exact ay _ rfl
  · have e:b=(s.heap.push {cls:=.type "range",data:=.fields #[.int lo t,.int hi u,.int 1 v]}).objs.size:=by simpa using hb
    subst e;exact I1.fpOk (ai _) (I1.hok.fresh (ai _))
def IH (ta:TA):TI:=fun σ H R=>ta σ H fun vs H1=>∃j:Int,vs=[.int j]∧-(2 ^ 62)≤j∧j<2 ^ 62∧R (QF 0 j.toNat) H1
theorem JO {a:Expr} {ta:TA} {p pos:Pos} (hg:Gl X "range") (hm:X.mg "range"=none) (ha:PA X [a] ta) (hs:starEach [a] X.env=[(false,eval a X.env)]:=by rfl):PI X tg (.Call (.Name "range" p) [a] [] pos) (IH ta):=by
 intro pins s σ H R I h;refine Call_ (ZO I hg hm boot_range (ck (jN (ha pos pins s σ H _ I h) fun us s1 ⟨vs,H1,I1,r1,q1⟩=>?_) hs rfl));obtain ⟨j,e,q1,q2,q⟩:=q1;subst e;cases r1 with
 |cons r rr =>
  cases rr;obtain ⟨t,rfl⟩:=r;exact call_range_1 (EQ I1 (by omega) (by omega) q1 q2 (by simpa using q))
def KA (wi:TI) (g:TG) (tb:TS):TS:=fun D σ H=>wi σ H fun J H1=>∃W:Nat→Nat→St→Hp→Prop,(∃m,W 0 m σ H1)∧∀i m σ H,W i m σ H→
 (J.stop i H∧D.nx σ H)∨(J.go i H∧∃N:St→Hp→Prop,(∀σ' H',N σ' H'→∃m',m'<m∧W (i+1) m' σ' H')∧∀x H',J.yld i H x H'→g x σ H' fun σ2 H2=>tb {D with nx:=N,ct:=N,bk:=D.nx} σ2 H2)
def bJ (fp:List Addr) (h:Heap):List (Addr×Obj):=fp.filterMap fun b=>(h.get? b).map fun o=>(b,o)
theorem dC {fp:List Addr} {h:Heap} {b:Addr} {o:Obj} (hb:b∈fp) (e:h.get? b=some o):(b,o)∈bJ fp h:=cx.mpr ⟨b,hb,by rw [e];rfl⟩
theorem DT {fp:List Addr} {h:Heap} {p:Addr×Obj} (hp:p∈bJ fp h):p.1∈fp∧h.get? p.1=some p.2:=by
 obtain ⟨b,hb,e⟩:=cx.mp hp;cases q:h.get? b with
 |none=>rw [q] at e;cases e
 |some o =>
  rw [q] at e;have e':(b,o)=p:=az e;subst e';exact ⟨hb,q⟩
theorem Inv.pinned {pins:List (Addr×Obj)} {σ:St} {H:Hp} {s:Shared} {fp:List Addr} (I:Inv X pins σ H s) (hf:∀b∈fp,yT X pins H b) (ho:∀b∈fp,∃o,s.heap.get? b=some o∧∀v,o.data≠.cell v):Inv X (pins++bJ fp s.heap) σ H s :=
 I.pins_of fun p hp=>(bc.mp hp).elim (fun z=>I.pin p (aS _ z)) fun z=>by
  obtain ⟨hb,e⟩:=DT z;obtain ⟨f0,f1,f2,_⟩:=hf p.1 hb;obtain ⟨o,e',d⟩:=ho p.1 hb;rw [e] at e';cases e'
  exact ⟨e,f0,f1,f2,d⟩
theorem Inv.unpinned {pins pl:List (Addr×Obj)} {σ:St} {H:Hp} {s:Shared} (I:Inv X (pins++pl) σ H s):Inv X pins σ H s:=I.pins_of fun p hp=>I.pin p (aS _ (fz _ hp))
theorem zH {iter:Expr} {body:List Stmt} {wi:TI} {g:TG} {tb:TS} {pos:Pos} (hp:PassesOwn (model X.prog X.w) X.A X.env X.xe) (hc:X.calm=true) (hi:PI X tg iter wi) (hg:PG X tg g) (hb:PSs X body tb)
  (hs:∀x,foldedSetIterable iter X.env x=pure x:=by intro _;rfl):PS X (.For tg iter body [] pos) (KA wi g tb):=by
 intro pins s σ H D I h;refine wpAny_For (jN (hi pins s σ H _ I h) fun v s1 h1=>jN h1 fun itv s2 h2=>?_) hs;obtain ⟨it,fp,tn,J,H2,e,I2,T,st2,f2,W,⟨m0,w0⟩,turn⟩:=h2;subst e;have stat:∀{H':Hp},(∀b∈fp,H' b=none)→∀b∈fp,yT X pins H' b:=fun hn b hb=>⟨hn b hb,(f2 b hb).2⟩
 refine codeAny_forLoop_any (fun n s'=>∃i σ' H',Inv X pins σ' H' s'∧tn i s'.heap∧(∀b∈fp,H' b=none)∧W i n σ' H') ?_ m0 ⟨0,σ,H2,I2,st2,fun b hb=>(f2 b hb).1,w0⟩;rintro n s3 ⟨i,σ3,H3,I3,st3,fr3,w3⟩
 rcases turn i n σ3 H3 w3 with ⟨stop,qn⟩|⟨go,N,hN,step⟩
 ·refine fb hp (jN (T.done X rfl rfl rfl hc i pins s3 σ3 H3 X.xe I3 (stat fr3) st3 stop) fun r s4 ⟨hr,I4⟩=>?_);subst hr;exact gg ⟨σ3,H3,I4,qn⟩
 ·refine fb hp (jN (T.item X rfl rfl rfl hc i pins s3 σ3 H3 X.xe I3 (stat fr3) st3 go) fun r s4 ⟨u,hr,h4⟩=>?_);subst hr;refine fb hp (jN h4 fun _ s5 ⟨x,H5,I5,r5,y5,st5,fr5⟩=>?_);have I5':=I5.pinned (stat fr5) (T.obj _ _ st5);refine fb hp (jN (hg _ s5 σ3 H5 x u _ I5' r5 (step x H5 y5)) fun _ s6 ⟨σ6,H6,I6,q6⟩=>?_);refine fb hp (jN (hb _ s6 σ6 H6 _ I6 q6) fun f s7 q7=>?_);have again:∀{σ7:St} {H7:Hp},Inv X (pins++bJ fp s5.heap) σ7 H7 s7→N σ7 H7→∃m,m<n∧∃i σ' H',Inv X pins σ' H' s7∧tn i s7.heap∧(∀b∈fp,H' b=none)∧W i m σ' H':=fun {σ7 H7} I7 n7=>by
   obtain ⟨m',hm,w7⟩:=hN σ7 H7 n7;refine ⟨m',hm,i+1,σ7,H7,I7.unpinned,T.keep _ _ _ st5 fun b hb o e=>(I7.pin (b,o) (aS _ (aS _ (dC hb e)))).1,fun b hb=>?_,w7⟩;obtain ⟨o,e,d⟩:=T.obj _ _ st5 b hb;exact (I7.pin (b,o) (aS _ (aS _ (dC hb e)))).2.1
  cases f with
  |next=>obtain ⟨σ7,H7,I7,n7⟩:=q7;exact again I7 n7
  |cont=>obtain ⟨σ7,H7,I7,n7⟩:=q7;exact again I7 n7
  |brk=>obtain ⟨σ7,H7,I7,q7⟩:=q7;exact ⟨σ7,H7,I7.unpinned,q7⟩
  |ret v=>obtain ⟨x7,σ7,H7,I7,r7,q7⟩:=q7;exact ⟨x7,σ7,H7,I7.unpinned,r7,q7⟩
end
variable {g:TG} {tb:TS} {D:Ends} {σ:St} {H:Hp}
theorem sA {K:PySem.W.Frag} {a:Addr} {xs:List V} (Pv:Nat→St→Hp→Prop) (h0:Pv 0 σ H) (hl:∀i σ H,i≤xs.length→Pv i σ H→SqL K H a xs)
    (hs:∀i x σ H,xs[i]?=some x→Pv i σ H→g x σ H fun σ2 H2=>tb {D with nx:=Pv (i+1),ct:=Pv (i+1),bk:=D.nx} σ2 H2) (hd:∀σ H,Pv xs.length σ H→D.nx σ H) :
    ∃W:Nat→Nat→St→Hp→Prop,(∃m,W 0 m σ H)∧∀i m σ H,W i m σ H→
      ((Q4 K a).stop i H∧D.nx σ H)∨((Q4 K a).go i H∧∃N:St→Hp→Prop,(∀σ' H',N σ' H'→∃m',m'<m∧W (i+1) m' σ' H')∧∀x H',(Q4 K a).yld i H x H'→g x σ H' fun σ2 H2=>tb {D with nx:=N,ct:=N,bk:=D.nx} σ2 H2):=by
  refine ⟨fun i m σ H=>m=xs.length - i∧i≤xs.length∧Pv i σ H,⟨xs.length,by simp,aG _,h0⟩,?_⟩;rintro i m σ H ⟨rfl,hi,p⟩;have q:=hl i σ H hi p
  by_cases hlt:i<xs.length
  · refine .inr ⟨⟨xs,xs[i],q,by simp [hlt]⟩,Pv (i+1),fun σ' H' p'=>⟨xs.length - (i+1),by omega,rfl,hlt,p'⟩,fun x H' y=>?_⟩
    obtain ⟨e,y⟩:=y;subst e;exact hs i x σ _ (y xs q) p
  · have e:i=xs.length:=by omega
    subst e;exact .inl ⟨⟨xs,q,ai _⟩,hd σ H p⟩
theorem tI {K:PySem.W.Frag} {a:Addr} {xs:List V} (Pv:Nat→St→Hp→Prop) (h0:Pv 0 σ H) (hl:∀i σ H,i≤xs.length→Pv i σ H→SqT K H a xs)
    (hs:∀i x σ H,xs[i]?=some x→Pv i σ H→g x σ H fun σ2 H2=>tb {D with nx:=Pv (i+1),ct:=Pv (i+1),bk:=D.nx} σ2 H2) (hd:∀σ H,Pv xs.length σ H→D.nx σ H) :
    ∃W:Nat→Nat→St→Hp→Prop,(∃m,W 0 m σ H)∧∀i m σ H,W i m σ H→
      ((Q3 K a).stop i H∧D.nx σ H)∨((Q3 K a).go i H∧∃N:St→Hp→Prop,(∀σ' H',N σ' H'→∃m',m'<m∧W (i+1) m' σ' H')∧∀x H',(Q3 K a).yld i H x H'→g x σ H' fun σ2 H2=>tb {D with nx:=N,ct:=N,bk:=D.nx} σ2 H2):=by
  refine ⟨fun i m σ H=>m=xs.length - i∧i≤xs.length∧Pv i σ H,⟨xs.length,by simp,aG _,h0⟩,?_⟩;rintro i m σ H ⟨rfl,hi,p⟩;have q:=hl i σ H hi p
  by_cases hlt:i<xs.length
  · refine .inr ⟨⟨xs,xs[i],q,by simp [hlt]⟩,Pv (i+1),fun σ' H' p'=>⟨xs.length - (i+1),by omega,rfl,hlt,p'⟩,fun x H' y=>?_⟩
    obtain ⟨e,y⟩:=y;subst e;exact hs i x σ _ (y xs q) p
  · have e:i=xs.length:=by omega
    subst e;exact .inl ⟨⟨xs,q,ai _⟩,hd σ H p⟩
theorem bA {lo:Int} {n:Nat} (Pv:Nat→St→Hp→Prop) (h0:Pv 0 σ H)
  (hs:∀i σ H,i<n→Pv i σ H→g (.int (lo+i)) σ H fun σ2 H2=>tb {D with nx:=Pv (i+1),ct:=Pv (i+1),bk:=D.nx} σ2 H2) (hd:∀σ H,Pv n σ H→D.nx σ H) :
  ∃W:Nat→Nat→St→Hp→Prop,(∃m,W 0 m σ H)∧∀i m σ H,W i m σ H→
   ((QF lo n).stop i H∧D.nx σ H)∨((QF lo n).go i H∧∃N:St→Hp→Prop,(∀σ' H',N σ' H'→∃m',m'<m∧W (i+1) m' σ' H')∧∀x H',(QF lo n).yld i H x H'→g x σ H' fun σ2 H2=>tb {D with nx:=N,ct:=N,bk:=D.nx} σ2 H2):=by
 refine ⟨fun i m σ H=>m=n - i∧i≤n∧Pv i σ H,⟨n,by simp,aG _,h0⟩,?_⟩;rintro i m σ H ⟨rfl,hi,p⟩
 by_cases hlt:i<n
 ·refine .inr ⟨hlt,Pv (i+1),fun σ' H' p'=>⟨n - (i+1),by omega,rfl,hlt,p'⟩,fun x H' y=>?_⟩;obtain ⟨e,y⟩:=y;subst e y;exact hs i σ _ hlt p
 ·have e:i=n:=by omega
  subst e;exact .inl ⟨ai _,hd σ H p⟩
end L2
namespace L2
open PySem PySem.Spec PyProof.Rows
abbrev R2:=V→V→Hp→VK→Prop
def kM (X:Cx) (f:Value→Value→Sem Value) (r:R2):Prop :=
 ∀(pins:List (Addr×Obj)) (s:Shared) (σ:St) (H:Hp) (x y:V) (v u:Value) (Q:VK),Inv X pins σ H s→RelV x v→RelV y u→r x y H Q→
  wpAny (model X.prog X.w) X.A (f v u) (EP X pins σ Q) X.xe s
def nX (X:Cx) (f:Value→Sem Value) (r:V→Hp→VK→Prop):Prop :=
 ∀(pins:List (Addr×Obj)) (s:Shared) (σ:St) (H:Hp) (x:V) (v:Value) (Q:VK),Inv X pins σ H s→RelV x v→r x H Q→
  wpAny (model X.prog X.w) X.A (f v) (EP X pins σ Q) X.xe s
def yA (X:Cx) (f:Value) (r:List V→Hp→VK→Prop):Prop :=
 ∀(pins:List (Addr×Obj)) (s:Shared) (σ:St) (H:Hp) (xs:List V) (us:List Value) (Q:VK),Inv X pins σ H s→Vals xs us→r xs H Q→
  wpAny (model X.prog X.w) X.A (call f us) (EP X pins σ Q) X.xe s
def QZ (r:R2) (ta tb:TE):TE:=fun σ H Q=>ta σ H fun x H1=>tb σ H1 fun y H2=>r x y H2 Q
def K7 (r:V→Hp→VK→Prop) (ta:TE):TE:=fun σ H Q=>ta σ H fun x H1=>r x H1 Q
def rI (C:Int→Int→Prop) (g:Int→Int→V):R2:=fun x y H Q=>∃i j,x=.int i∧y=.int j∧C i j∧Q (g i j) H
def JK (g:Int→Int→V):R2:=fun x y H Q=>∃i j,x=.int i∧y=.int j∧Q (g i j) H
def rU (g:Int→V):V→Hp→VK→Prop:=fun x H Q=>∃i,x=.int i∧Q (g i) H
section
variable {X:Cx} {a b c:Expr} {ta tb tc:TE} {pos:Pos}
theorem nI (ha:PE X a ta) (hb:PE X b tb) {pins:List (Addr×Obj)} {s:Shared} {σ:St} {H:Hp} {R:V→V→Hp→Prop} (I:Inv X pins σ H s)
  (h:ta σ H fun x H1=>tb σ H1 fun y H2=>R x y H2) {Q:Value→Shared→Prop} {f:Value→Value→Sem Value}
  (hf:∀v u s2 x y H2,Inv X pins σ H2 s2→RelV x v→RelV y u→R x y H2→wpAny (model X.prog X.w) X.A (f v u) Q X.xe s2) :
  wpAny (model X.prog X.w) X.A (eval a X.env) (fun v s₁=>wpAny (model X.prog X.w) X.A (eval b X.env) (fun u s₂=>wpAny (model X.prog X.w) X.A (f v u) Q X.xe s₂) X.xe s₁) X.xe s:=by
 refine jN (ha pins s σ H _ I h) fun v s1 ⟨x,H1,I1,r1,q1⟩=>?_
 refine jN (hb pins s1 σ H1 _ I1 q1) fun u s2 ⟨y,H2,I2,r2,q2⟩=>?_
 exact hf v u s2 x y H2 I2 r1 r2 q2
theorem jI {op:Operator} {r:R2} (ho:kM X (binaryOp op) r) (ha:PE X a ta) (hb:PE X b tb):PE X (.BinOp a op b pos) (QZ r ta tb):=by
 intro pins s σ H Q I h;exact wpAny_BinOp (nI ha hb I h fun v u s2 x y H2 I2 rx ry q=>ho pins s2 σ H2 x y v u Q I2 rx ry q)
theorem mT {op:UnaryOp} {r:V→Hp→VK→Prop} (ho:nX X (unaryOp op) r) (ha:PE X a ta):PE X (.UnaryOp op a pos) (K7 r ta):=by
 intro pins s σ H Q I h;exact UnaryOp_ (jN (ha pins s σ H _ I h) fun v s1 ⟨x,H1,I1,r1,q1⟩=>ho pins s1 σ H1 x v Q I1 r1 q1)
theorem fF {f:Value→Value→Sem Value} {C:Int→Int→Prop} {g:Int→Int→Int}
  (rule:∀(i j:Int) (t u:Tok) (s:Shared) (Q:Value→Shared→Prop) (E:Value→Shared→Prop),C i j→Q (.int (g i j) s.toks) {s with toks:=s.toks+1}→wpAny (model X.prog X.w) X.A (f (.int i t) (.int j u)) Q E s) :
  kM X f (rI C fun i j=>.int (g i j)):=by
 intro pins s σ H x y v u Q I rx ry h;obtain ⟨i,j,rfl,rfl,hc,q⟩:=h;obtain ⟨t,rfl⟩:=rx;obtain ⟨t',rfl⟩:=ry;exact rule i j t t' s _ _ hc ⟨.int (g i j),H,I.tok _,⟨_,rfl⟩,q⟩
theorem uZ {f:Value→Value→Sem Value} {g:Int→Int→Int}
  (rule:∀(i j:Int) (t u:Tok) (s:Shared) (Q:Value→Shared→Prop) (E:Value→Shared→Prop),Q (.int (g i j) s.toks) {s with toks:=s.toks+1}→wpAny (model X.prog X.w) X.A (f (.int i t) (.int j u)) Q E s) :
  kM X f (JK fun i j=>.int (g i j)):=by
 intro pins s σ H x y v u Q I rx ry h;obtain ⟨i,j,rfl,rfl,q⟩:=h;obtain ⟨t,rfl⟩:=rx;obtain ⟨t',rfl⟩:=ry;exact rule i j t t' s _ _ ⟨.int (g i j),H,I.tok _,⟨_,rfl⟩,q⟩
theorem nF {f:Value→Value→Sem Value} {g:Int→Int→Bool}
  (rule:∀(i j:Int) (t u:Tok) (s:Shared) (Q:Value→Shared→Prop) (E:Value→Shared→Prop),Q (.bool (g i j)) s→wpAny (model X.prog X.w) X.A (f (.int i t) (.int j u)) Q E s) :
  kM X f (JK fun i j=>.bl (g i j)):=by
 intro pins s σ H x y v u Q I rx ry h;obtain ⟨i,j,rfl,rfl,q⟩:=h;obtain ⟨t,rfl⟩:=rx;obtain ⟨t',rfl⟩:=ry;exact rule i j t t' s _ _ ⟨.bl (g i j),H,I,rfl,q⟩
def K3 (i j:Int):Prop:=0<j∧j<1073741824
def K2 (i j:Int):Prop:=0≤j∧j≤1000000∧i.natAbs<2 ^ 64
def CMul (i j:Int):Prop:=(-(2 ^ 64)<i∧i<2 ^ 64)∨(-(2 ^ 64)<j∧j<2 ^ 64)
theorem CMul.ok {i j:Int} (h:CMul i j):IntMulOk i j:=by
 rcases h with ⟨h1,h2⟩|⟨h1,h2⟩
 ·exact .of_left (intBits_le_64 h1 h2)
 ·exact .of_right (intBits_le_64 h1 h2)
theorem kG:kM X (binaryOp .Add) (JK fun i j=>.int (i+j)):=uZ fun _ _ _ _ _ _ _ q=>add_int q
theorem zM:kM X (binaryOp .Sub) (JK fun i j=>.int (i - j)):=uZ fun _ _ _ _ _ _ _ q=>sub_int q
theorem kQ:kM X (binaryOp .Mult) (rI CMul fun i j=>.int (i*j)):=fF fun _ _ _ _ _ _ _ hc q=>mul_int q hc.ok
theorem lZ:kM X (binaryOp .FloorDiv) (rI K3 fun i j=>.int (i / j)):=fF fun i j _ _ _ _ _ hc q=>by
 have h1:(0:Int)<j:=hc.1;have h2:j<1073741824:=hc.2;exact floordiv_int (by omega) (by rw [Int.fdiv_eq_ediv_of_nonneg i (by omega)];exact q) (.inl (PyProof.noPylong_small (by omega)))
theorem QP:kM X (binaryOp .Mod) (rI (fun _ j=>0<j) fun i j=>.int (i%j)):=fF fun i j _ _ _ _ _ hc q=>by
 have h1:(0:Int)<j:=hc;exact mod_int' (by omega) (by rw [Int.fmod_eq_emod_of_nonneg i (by omega)];exact q)
theorem G3:kM X (binaryOp .Pow) (rI K2 fun i j=>.int (i ^ j.toNat)):=fF fun _ _ _ _ _ _ _ hc q=>pow_int_small hc.1 hc.2.1 hc.2.2 q
theorem K6 {f:Value→Sem Value} {g:Int→Int}
  (rule:∀(i:Int) (t:Tok) (s:Shared) (Q:Value→Shared→Prop) (E:Value→Shared→Prop),Q (.int (g i) s.toks) {s with toks:=s.toks+1}→wpAny (model X.prog X.w) X.A (f (.int i t)) Q E s) :
  nX X f (rU fun i=>.int (g i)):=by
 intro pins s σ H x v Q I rx h;obtain ⟨i,rfl,q⟩:=h;obtain ⟨t,rfl⟩:=rx;exact rule i t s _ _ ⟨.int (g i),H,I.tok _,⟨_,rfl⟩,q⟩
theorem mC:nX X (unaryOp .USub) (rU fun i=>.int (-i)):=K6 fun _ _ _ _ _ q=>neg_int q
end
def uW:V→V→Bool
 |.non,.non=>true|.non,.int _=>true|.int _,.non=>true|.non,.bl _=>true|.bl _,.non=>true|.non,.str _=>true|.str _,.non=>true
 |.int _,.int _=>true|.bl _,.bl _=>true|.str _,.str _=>true|.byt _,.byt _=>true
 |.int _,.str _=>true|.str _,.int _=>true|.bl _,.str _=>true|.str _,.bl _=>true
 |_,_=>false
def LE:R2:=fun x y H Q=>uW x y=true∧Q (.bl (decide (x=y))) H
def LD:R2:=fun x y H Q=>uW x y=true∧Q (.bl (!decide (x=y))) H
theorem tL {i j:Int}:decide (V.int i=V.int j)=(i == j):=by
 rw [fe];simp
theorem uE {i j:Bool}:decide (V.bl i=V.bl j)=(i == j):=by
 rw [fe];simp
theorem tK {i j:Str}:decide (V.str i=V.str j)=(i == j):=by
 rw [fe];simp
theorem tM {i j:Array UInt8}:decide (V.byt i=V.byt j)=(i.toList == j.toList):=by
 rw [fe];cases i;cases j;simp
section
variable {X:Cx} {a b c:Expr} {ta tb tc:TE} {pos:Pos}
theorem kU {pins:List (Addr×Obj)} {σ:St} {H:Hp} {s:Shared} {Q:VK} {k k':Bool} (I:Inv X pins σ H s) (q:Q (.bl k) H) (e:k=k'):EP X pins σ Q (.bool k') s:=by
 subst e;exact ⟨.bl k,H,I,rfl,q⟩
theorem kO:kM X (compareOp .Eq) LE:=by
 intro pins s σ H x y v u Q I rx ry h;obtain ⟨hs,q⟩:=h;cases x with
 |non =>
  cases rx;cases y with
  |non=>cases ry;exact PySem.EqNone.eq_none_none (kU I q (by simp))
  |bl j=>cases ry;exact PySem.EqNone.eq_none_bool (kU I q (by simp))
  |int j=>obtain ⟨t',rfl⟩:=ry;exact PySem.EqNone.eq_none_int (kU I q (by simp))
  |str j=>obtain ⟨t',rfl⟩:=ry;exact PySem.EqNone.eq_none_str (kU I q (by simp))
  |_=>exact absurd (show false=true from hs) au
 |bl i =>
  cases rx;cases y with
  |non=>cases ry;exact PySem.EqNone.eq_bool_none (kU I q (by simp))
  |bl j=>cases ry;exact eq_bool (kU I q uE)
  |str j=>obtain ⟨t',rfl⟩:=ry;exact PySem.EqMixed.eq_bool_str (kU I q (by simp))
  |_=>exact absurd (show false=true from hs) au
 |int i =>
  obtain ⟨t,rfl⟩:=rx;cases y with
  |non=>cases ry;exact PySem.EqNone.eq_int_none (kU I q (by simp))
  |int j=>obtain ⟨t',rfl⟩:=ry;exact eq_int (kU I q tL)
  |str j=>obtain ⟨t',rfl⟩:=ry;exact PySem.EqMixed.eq_int_str (kU I q (by simp))
  |_=>exact absurd (show false=true from hs) au
 |str i =>
  obtain ⟨t,rfl⟩:=rx;cases y with
  |non=>cases ry;exact PySem.EqNone.eq_str_none (kU I q (by simp))
  |bl j=>cases ry;exact PySem.EqMixed.eq_str_bool (kU I q (by simp))
  |int j=>obtain ⟨t',rfl⟩:=ry;exact PySem.EqMixed.eq_str_int (kU I q (by simp))
  |str j=>obtain ⟨t',rfl⟩:=ry;exact eq_str (kU I q tK)
  |_=>exact absurd (show false=true from hs) au
 |byt i =>
  obtain ⟨t,rfl⟩:=rx;cases y with
  |byt j=>obtain ⟨t',rfl⟩:=ry;exact PySem.W.eq_bytes (kU I q tM)
  |_=>exact absurd (show false=true from hs) au
 |_=>cases y<;>exact absurd (show false=true from hs) au
theorem eO:kM X (compareOp .NotEq) LD:=by
 intro pins s σ H x y v u Q I rx ry h;obtain ⟨hs,q⟩:=h;cases x with
 |non =>
  cases rx;cases y with
  |non=>cases ry;exact PySem.EqNone.ne_none_none (kU I q (by simp))
  |bl j=>cases ry;exact PySem.EqNone.ne_none_bool (kU I q (by simp))
  |int j=>obtain ⟨t',rfl⟩:=ry;exact PySem.EqNone.ne_none_int (kU I q (by simp))
  |str j=>obtain ⟨t',rfl⟩:=ry;exact PySem.EqNone.ne_none_str (kU I q (by simp))
  |_=>exact absurd (show false=true from hs) au
 |bl i =>
  cases rx;cases y with
  |non=>cases ry;exact PySem.EqNone.ne_bool_none (kU I q (by simp))
  |bl j=>cases ry;exact ne_bool (kU I q (bw not uE))
  |str j=>obtain ⟨t',rfl⟩:=ry;exact PySem.EqMixed.ne_bool_str (kU I q (by simp))
  |_=>exact absurd (show false=true from hs) au
 |int i =>
  obtain ⟨t,rfl⟩:=rx;cases y with
  |non=>cases ry;exact PySem.EqNone.ne_int_none (kU I q (by simp))
  |int j=>obtain ⟨t',rfl⟩:=ry;exact ne_int (kU I q (bw not tL))
  |str j=>obtain ⟨t',rfl⟩:=ry;exact PySem.EqMixed.ne_int_str (kU I q (by simp))
  |_=>exact absurd (show false=true from hs) au
 |str i =>
  obtain ⟨t,rfl⟩:=rx;cases y with
  |non=>cases ry;exact PySem.EqNone.ne_str_none (kU I q (by simp))
  |bl j=>cases ry;exact PySem.EqMixed.ne_str_bool (kU I q (by simp))
  |int j=>obtain ⟨t',rfl⟩:=ry;exact PySem.EqMixed.ne_str_int (kU I q (by simp))
  |str j=>obtain ⟨t',rfl⟩:=ry;exact ne_str (kU I q (bw not tK))
  |_=>exact absurd (show false=true from hs) au
 |byt i =>
  obtain ⟨t,rfl⟩:=rx;cases y with
  |byt j=>obtain ⟨t',rfl⟩:=ry;exact PySem.W.ne_bytes (kU I q (bw not tM))
  |_=>exact absurd (show false=true from hs) au
 |_=>cases y<;>exact absurd (show false=true from hs) au
theorem bO:kM X (compareOp .LtE) (JK fun i j=>.bl (decide (i≤j))):=nF fun _ _ _ _ _ _ _ q=>le_int q
theorem uL:kM X (compareOp .Gt) (JK fun i j=>.bl (decide (j<i))):=nF fun _ _ _ _ _ _ _ q=>gt_int q
theorem mU:kM X (compareOp .GtE) (JK fun i j=>.bl (decide (j≤i))):=nF fun _ _ _ _ _ _ _ q=>ge_int q
theorem pW:kM X (compareOp .In) (fun x y H Q=>∃i j,x=.str i∧y=.str j∧Q (.bl (!(Builtin.Str.occurrences j i 0 j.length 1).isEmpty)) H):=by
 intro pins s σ H x y v u Q I rx ry h;obtain ⟨i,j,rfl,rfl,q⟩:=h;obtain ⟨t,rfl⟩:=rx;obtain ⟨t',rfl⟩:=ry;exact in_str (kU I q rfl)
theorem t7:kM X (compareOp .Is) (fun x y H Q=>y=.non∧Q (.bl (decide (x=.non))) H):=by
 intro pins s σ H x y v u Q I rx ry h;obtain ⟨rfl,q⟩:=h;cases ry;refine is_none_gen (kU I q ?_);cases x<;>first
  | (cases rx;rfl)
  | (obtain ⟨t,rfl⟩:=rx;rfl)
theorem oG (b:Expr) {op:CmpOp} (h:op≠.In:=by decide) (h2:op≠.NotIn:=by decide):behindInMarks op b=false:=by
 have e1:(op == CmpOp.In)=false:=by cases op<;>first|rfl|exact absurd rfl h
 have e2:(op == CmpOp.NotIn)=false:=by cases op<;>first|rfl|exact absurd rfl h2
 cases b<;>simp [behindInMarks,e1,e2]
theorem FR {op:CmpOp} {r:R2} (ho:kM X (compareOp op) r) (ha:PE X a ta) (hb:PE X b tb) (hm:behindInMarks op b=false):PE X (.Compare a [op] [b] pos) (QZ r ta tb):=by
 intro pins s σ H Q I h;exact wpAny_Compare1 (nI ha hb I h fun v u s2 x y H2 I2 rx ry q=>ho pins s2 σ H2 x y v u Q I2 rx ry q) hm
def uH (t:TE):TT:=fun σ H Q=>t σ H fun x H'=>∃k,x=.bl k∧Q k H'
theorem wM {op:CmpOp} {r:R2} (ho:kM X (compareOp op) r) (ha:PE X a ta) (hb:PE X b tb) (hm:behindInMarks op b=false):PT X (.Compare a [op] [b] pos) (uH (QZ r ta tb)):=by
 intro pins s σ H Q I h;refine wpAny_isTrue_Compare1 (jN (ha pins s σ H _ I h) fun v s1 ⟨x,H1,I1,r1,q1⟩=>jN (hb pins s1 σ H1 _ I1 q1) fun u s2 ⟨y,H2,I2,r2,q2⟩ =>
  jN (ho pins s2 σ H2 x y v u _ I2 r1 r2 q2) fun c s3 ⟨z,H3,I3,r3,k,e,q3⟩=>?_) hm
 subst e;cases r3;exact ed ⟨H3,I3,q3⟩
def GX (r r':R2) (ta tb tc:TE):TE:=fun σ H Q=>ta σ H fun x H1=>tb σ H1 fun y H2=>r x y H2 fun z H3=>∃k,z=.bl k∧
 (if k=true then tc σ H3 fun w' H4=>r' y w' H4 Q else Q (.bl false) H3)
theorem rX {op op':CmpOp} {r r':R2} (ho:kM X (compareOp op) r) (ho':kM X (compareOp op') r') (ha:PE X a ta) (hb:PE X b tb) (hc:PE X c tc)
  (hm:lastMarks [op,op'] [b,c]=false:=by with_unfolding_all rfl):PE X (.Compare a [op,op'] [b,c] pos) (GX r r' ta tb tc):=by
 intro pins s σ H Q I h;refine Compare_chain (jN (ha pins s σ H _ I h) fun v s1 ⟨x,H1,I1,r1,q1⟩=>chain_link (jN (hb pins s1 σ H1 _ I1 q1) fun u s2 ⟨y,H2,I2,r2,q2⟩ =>
  jN (ho pins s2 σ H2 x y v u _ I2 r1 r2 q2) fun d s3 ⟨z,H3,I3,r3,k,e,q3⟩=>?_)) hm
 subst e;cases r3;refine ed ?_;cases k with
 |false=>exact ite_ff ⟨.bl false,H3,I3,rfl,q3⟩
 |true=>exact ite_tt (chain_last (jN (hc pins s3 σ H3 _ I3 q3) fun w' s4 ⟨z',H4,I4,r4,q4⟩=>ho' pins s4 σ H4 y z' u w' Q I4 r2 r4 q4))
theorem QQ:(sizeLine:Nat)<2 ^ 63:=by rw [sizeLine_eq];decide
theorem pD:kM X (binaryOp .Add) (fun x y H Q=>∃i j,x=.str i∧y=.str j∧i.length+j.length≤sizeLine∧Q (.str (i++j)) H):=by
 intro pins s σ H x y v u Q I rx ry h;obtain ⟨i,j,rfl,rfl,hz,q⟩:=h;obtain ⟨t,rfl⟩:=rx;obtain ⟨t',rfl⟩:=ry;exact add_str (fun t' tk=>⟨.str (i++j),H,I.tok _,⟨_,rfl⟩,q⟩) hz
theorem JS {x:V} {us:List Value} (r:Vals [x] us):∃u,us=[u]∧RelV x u:=by
 cases r with
 |cons r1 r2=>cases r2;exact ⟨_,rfl,r1⟩
theorem uG {x y:V} {us:List Value} (r:Vals [x,y] us):∃u w',us=[u,w']∧RelV x u∧RelV y w':=by
 cases r with
 |cons r1 r2 =>
  cases r2 with
  |cons r3 r4=>cases r4;exact ⟨_,_,rfl,r1,r3⟩
theorem EH (hc:X.calm=true):yA X (.builtin "max") (fun xs H Q=>∃i j,xs=[.int i,.int j]∧Q (.int (if j>i then j else i)) H):=by
 intro pins s σ H xs us Q I r h;obtain ⟨i,j,rfl,q⟩:=h;obtain ⟨u,w',rfl,⟨t,rfl⟩,⟨t',rfl⟩⟩:=uG r;refine max_two_ints (I.ok.hd hc) fun h' tk k=>⟨_,H,I.kept k,?_,q⟩
 by_cases hj:j>i
 ·rw [if_pos hj,if_pos hj];exact ⟨_,rfl⟩
 ·rw [if_neg hj,if_neg hj];exact ⟨_,rfl⟩
theorem dJ:yA X (.type "int") (fun xs H Q=>(∃i,xs=[.int i]∧Q (.int i) H)∨∃k,xs=[.bl k]∧Q (.int (if k then 1 else 0)) H):=by
 intro pins s σ H xs us Q I r h
 rcases h with ⟨i,rfl,q⟩|⟨k,rfl,q⟩
 ·obtain ⟨u,rfl,t,rfl⟩:=JS r;exact call_int_int ⟨.int i,H,I,⟨_,rfl⟩,q⟩
 ·obtain ⟨u,rfl,r1⟩:=JS r;cases r1;exact call_int_bool ⟨.int (if k then 1 else 0),H,I.tok _,⟨_,rfl⟩,q⟩
end
structure ObjM (h:Heap) (x dx C:Addr) (mA:Str→Option Value):Prop where
 obj:h.get? x=some (PySem.W.instObj C dx)
 ns:h.Ns1 dx mA
 ne:dx≠x
theorem DY {h:Heap} {dx:Addr} {mA:Str→Option Value} (n:h.Ns1 dx mA):∃od,h.get? dx=some od∧∀name,PySem.W.lookIn name od=some (mA name):=by
 obtain ⟨o,es,ep,ho,hd,hk,_,hm⟩:=n;refine ⟨o,ho,fun name=>?_⟩;have e:=hm name;unfold nsFind findBy at e;rw [← Array.find?_toList] at e;unfold PySem.W.lookIn;rw [hd]
 dsimp only
 split
 ·rename_i y q;rw [q] at e;exact bw some e
 ·rename_i q;rw [q] at e;have a:es.toList.any (·.refKey)=false:=by
   rw [List.any_eq_false];intro y hy;obtain ⟨z,t,hkey⟩:=hk y (Array.mem_toList_iff.mp hy);simp [DictEntry.refKey,hkey]
  have a':¬es.toList.any (·.refKey)=true:=by rw [a];exact au
  rw [if_neg a'];exact bw some e
variable {C:Addr}
theorem ObjM.look {h:Heap} {x dx:Addr} {mA:Str→Option Value} (I:ObjM h x dx C mA):∃od,PySem.W.InstAt h x (PySem.W.instObj C dx) C (some od)∧∀name,PySem.W.lookIn name od=some (mA name) :=
 let ⟨od,ho,hl⟩:=DY I.ns
 ⟨od,⟨I.obj,rfl,rfl,ho⟩,hl⟩
section
variable {prog:Program} {w:World} {A:Around} {E:Value→Shared→Prop} {s:Shared} {K:PySem.W.Frag} {x dx C f:Addr} {mA:Str→Option Value} {name:Str} {v:Value}
theorem GH {expr:Bool} {Q:Value→Shared→Prop} (X:K.In s.heap) (I:ObjM s.heap x dx C mA) (hg:PySem.W.plainGet K C name=true) (hh:PySem.W.hasDictIn K C=true)
  (ha:PySem.W.findIn K (.ref C) name=some none) (hv:mA name=some v) (hv':PySem.W.handedIn v=true) (h:Q v {s with toks:=s.toks+1}) :
  wpAny (model prog w) A (getAttr (.ref x) name expr) Q E s:=by
 obtain ⟨od,J,hl⟩:=I.look;exact PySem.W.get_value X J (PySem.W.plainGet_of hg).1 (PySem.W.findObj_own hh ha rfl (by rw [hl,hv])) hv' h
theorem E5 {pl:Sem Bool} {Q:Value×List Value→Shared→Prop} (X:K.In s.heap) (I:ObjM s.heap x dx C mA) (hg:PySem.W.plainGet K C name=true)
  (hf:PySem.W.findIn K (.ref C) name=some (some (.ref f))) (ht:PySem.W.isFn K (.ref f)=true) (hv:mA name=none) (h:Q (.ref f,[.ref x]) s) :
  wpAny (model prog w) A (getMethod (.ref x) name pl) Q E s:=by
 obtain ⟨od,J,hl⟩:=I.look;exact PySem.W.method_fn X J (PySem.W.plainGet_of hg).1 (PySem.W.plainGet_of hg).2 hf (er.mp ht) (by show (PySem.W.lookIn name od).map (·.isSome)=some false;rw [hl,hv];rfl) h
theorem FI {ns:List Str} {Q:Unit→Shared→Prop} (X:K.In s.heap) (I:ObjM s.heap x dx C mA)
  (hs:PySem.W.findIn K (.ref C) "__setattr__"=some (some (.builtin "object.__setattr__"))) (hp:PySem.W.plainOver K C=true) (ht:PySem.W.takerIn K C name=some none) (hh:PySem.W.hasDictIn K C=true)
  (hw:PySem.Within mA ns) (hsz:ns.length≤sizeLine)
  (h:∀h',ObjM h' x dx C (fun y=>if y=name then some v else mA y)→Heap.SameBut dx s.heap h'→Q () {s with heap:=h',toks:=s.toks+2}) :
  wpAny (model prog w) A (setAttr (.ref x) name v) Q E s:=by
 obtain ⟨od,J,hl⟩:=I.look;refine PySem.W.set_plain X J hs (PySem.W.osa_open (s:={s with toks:=s.toks+1}) (r:=none) X J hp ht fun b=>?_);obtain ⟨cd,hc,hd'⟩:=PySem.W.any_some hh;have hx:s.heap.get? x=some ⟨.ref C,some dx,.plain,#[]⟩:=I.obj;refine ac (aM (ac (ac (wpAny_loadPart hx (ac (PySem.W.Looks.here (s:={s with toks:=s.toks+1}) (PySem.W.looks_clsIn X hc) ?_))))));rw [hd'];refine aM (a:=some dx) (ac (aM (ac ?_)));refine wpAny_nsSet1 (s:={s with toks:=s.toks+1}) I.ns fun h' hn2 hs2=>?_
 obtain ⟨oD,esD,epD,hoD,hdD,hcD⟩:=hn2.count (PySem.Within.cons name v hw);refine ac (wpAny_lookBehind hoD (by rw [hdD];exact pastItsLine_dict (aR hcD (by rw [bq];omega))) ?_);exact aM (h _ ⟨(hs2.2 _ (Ne.symm I.ne)).trans I.obj,hn2,I.ne⟩ hs2)
theorem E1 {R:Result→Shared→Prop} {vs:List Value} {kw:List (Str×Value)} (X:K.In s.heap) (hm:PySem.W.makesIn K C=true)
  (hi:PySem.W.findIn K (.ref C) "__init__"=some (some (.ref f))) (hf:PySem.W.typeIn K (.ref f)=some (.type "function"))
  (h:codeAny (model prog w) (A.under (.builtin "type.__call__" ⟨.ref C::vs,kw⟩)) (.call (.ref f) ⟨.ref (s.heap.objs.size+1)::vs,kw⟩) (PySem.W.InitBack (s.heap.objs.size+1) R)
   {s with heap:=(s.heap.push PySem.W.emptyDict).push (PySem.W.instObj C s.heap.objs.size)}) :
  codeAny (model prog w) A (.call (.ref C) ⟨vs,kw⟩) R s:=by
 obtain ⟨hh,g,d,t,os⟩:=s;exact PySem.W.make_core (PySem.W.makes_of X hm) (em X hi) (fun self=>PySem.W.bind_fn X self hf) (.inl rfl) h
end
def jF (f:Str) (v:V):List (Str×V)→List (Str×V)
 |[]=>[(f,v)]
 | (g,x)::r=>if g=f then (g,v)::r else (g,x)::jF f v r
theorem yE (f g:Str) (v:V):∀fs:List (Str×V),(jF f v fs).lookup g=if g=f then some v else fs.lookup g
 |[]=>by
  show List.lookup g [(f,v)]=_
  by_cases h:g=f
  ·have hb:(g == f)=true:=er.mpr h;simp only [List.lookup,hb,if_pos h]
  ·have hb:(g == f)=false:=bv.mpr h;simp only [List.lookup,hb,if_neg h]
 | (k,x)::r=>by
  have ih:=yE f g v r;rw [show jF f v ((k,x)::r)=(if k=f then (k,v)::r else (k,x)::jF f v r) from rfl]
  by_cases hk:k=f
  ·rw [if_pos hk]
   by_cases h:g=k
   ·have hb:(g == k)=true:=er.mpr h;simp only [List.lookup,hb,if_pos (h.trans hk)]
   ·have hb:(g == k)=false:=bv.mpr h;simp only [List.lookup,hb,if_neg (fun e:g=f=>h (e.trans hk.symm))]
  ·rw [if_neg hk]
   by_cases h:g=k
   ·have hb:(g == k)=true:=er.mpr h;simp only [List.lookup,hb,if_neg (fun e:g=f=>hk (h.symm.trans e))]
   ·have hb:(g == k)=false:=bv.mpr h;simp only [List.lookup,hb];exact ih
theorem lE (f:Str) (v:V):∀fs:List (Str×V),f∈(jF f v fs).map (·.1)∧∀g,g∈fs.map (·.1)→g∈(jF f v fs).map (·.1)
 |[]=>⟨by simp [jF],fun g h=>by simp at h⟩
 | (k,x)::r=>by
  obtain ⟨i1,i2⟩:=lE f v r;rw [show jF f v ((k,x)::r)=(if k=f then (k,v)::r else (k,x)::jF f v r) from rfl]
  by_cases hk:k=f
  ·rw [if_pos hk];subst hk;exact ⟨by simp,fun g h=>by simpa using h⟩
  ·rw [if_neg hk];refine ⟨?_,fun g h=>?_⟩
   ·rw [List.map_cons];exact aC _ i1
   ·rw [List.map_cons] at h ⊢
    rcases am.mp h with e|e
    ·exact am.mpr (.inl e)
    ·exact aC _ (i2 g e)
theorem yF (f:Str) (v:V):∀fs:List (Str×V),(jF f v fs).length≤fs.length+1
 |[]=>by simp [jF]
 | (k,x)::r=>by
  have ih:=yF f v r;rw [show jF f v ((k,x)::r)=(if k=f then (k,v)::r else (k,x)::jF f v r) from rfl]
  by_cases hk:k=f
  ·rw [if_pos hk,bq,bq];omega
  ·rw [if_neg hk,bq,bq];omega
theorem RelO.some_of {v:V} {o:Option Value} (r:RelO (some v) o):∃u,o=some u∧RelV v u:=by
 cases o with
 |none=>exact (show False from r).elim
 |some u=>exact ⟨u,rfl,r⟩
theorem RelO.none_of {o:Option Value} (r:RelO none o):o=none:=by
 cases o with
 |none=>rfl
 |some u=>exact (show False from r).elim
theorem D8 {v:V} {u:Value} (r:RelV v u):PySem.W.handedIn u=true:=by
 cases v with
 |non=>cases (show u=Value.none from r);rfl
 |bl b=>cases (show u=Value.bool b from r);rfl
 |int i=>obtain ⟨t,e⟩:=(show ∃t,u=Value.int i t from r);cases e;rfl
 |str x=>obtain ⟨t,e⟩:=(show ∃t,u=Value.str x t from r);cases e;rfl
 |byt b=>obtain ⟨t,e⟩:=(show ∃t,u=Value.bytes b t from r);cases e;rfl
 |flt b=>obtain ⟨t,e⟩:=(show ∃t,u=Value.float b t from r);cases e;rfl
 |ref a=>cases (show u=Value.ref a from r);rfl
 |ty n=>cases (show u=Value.type n from r);rfl
section
variable {P:Program} {w:World} {H H':Hp} {h h':Heap} {a C dx:Addr} {fs fs':List (Str×V)}
theorem l9 (hok:HOk P w H h) (e:H a=some (.ins C dx fs)):∃mA,ObjM h a dx C mA∧(∀f,RelO (fs.lookup f) (mA f))∧PySem.Within mA (fs.map (·.1))∧fs.length≤1000∧H dx=some (.own a):=by
 obtain ⟨d,z,ne,ob,mA,n,r,q⟩:=(show ObjOk P w H h a (.ins C dx fs) from hok a _ e);exact ⟨mA,⟨ob,n,ne⟩,r,q,z,d⟩
end
structure Cls (K:PySem.W.Frag) (C:Addr):Prop where
 pg:PySem.W.plainGet K C Str.empty=true
 hd:PySem.W.hasDictIn K C=true
 po:PySem.W.plainOver K C=true
 sa:PySem.W.findIn K (.ref C) "__setattr__"=some (some (.builtin "object.__setattr__"))
theorem Cls.get {K:PySem.W.Frag} (c:Cls K C) (f:Str):PySem.W.plainGet K C f=true:=c.pg
def NoAttr (K:PySem.W.Frag) (C:Addr) (f:Str):Prop:=PySem.W.findIn K (.ref C) f=some none
theorem NoAttr.taker {K:PySem.W.Frag} {f:Str} (n:NoAttr K C f):PySem.W.takerIn K C f=some none:=by
 unfold PySem.W.takerIn;rw [show PySem.W.findIn K (.ref C) f=some none from n];rfl
structure Meth (K:PySem.W.Frag) (C:Addr) (m:Str) (f:Addr):Prop where
 at_:PySem.W.findIn K (.ref C) m=some (some (.ref f))
 fn:PySem.W.isFn K (.ref f)=true
 kp:PySem.W.keepIn K (.ref f)=true
section
variable {X:Cx} {pins:List (Addr×Obj)} {σ:St} {H:Hp} {s:Shared} {a C dx:Addr} {fs:List (Str×V)} {f:Str} {v:V} {A:Around} {E:Value→Shared→Prop}
theorem DC {b:Bool} {Q:Value→Shared→Prop} (I:Inv X pins σ H s) (e:H a=some (.ins C dx fs)) (c:Cls X.K C) (n:NoAttr X.K C f) (l:fs.lookup f=some v)
  (h:∀u s',Inv X pins σ H s'→RelV v u→Q u s'):wpAny (model X.prog X.w) A (getAttr (.ref a) f b) Q E s:=by
 obtain ⟨mA,O,r,_,_,_⟩:=l9 I.hok e;obtain ⟨u,hu,ru⟩:=RelO.some_of (v:=v) (o:=mA f) (by rw [← l];exact r f);exact GH I.kIn O (c.get f) c.hd n hu (D8 ru) (h u _ (I.tok _) ru)
theorem pH {m:Str} {g:Addr} {pl:Sem Bool} {Q:Value×List Value→Shared→Prop} (I:Inv X pins σ H s) (e:H a=some (.ins C dx fs)) (c:Cls X.K C) (k:Meth X.K C m g) (l:fs.lookup m=none)
  (h:Q (.ref g,[.ref a]) s):wpAny (model X.prog X.w) A (getMethod (.ref a) m pl) Q E s:=by
 obtain ⟨mA,O,r,_,_,_⟩:=l9 I.hok e;have hn:mA m=none:=RelO.none_of (by rw [← l];exact r m);exact E5 I.kIn O (c.get m) k.at_ k.fn hn h
theorem CY {y:V} {u:Value} {Q:Unit→Shared→Prop} (I:Inv X pins σ H s) (e:H a=some (.ins C dx fs)) (c:Cls X.K C) (n:NoAttr X.K C f) (hl:fs.length<1000) (ry:RelV y u)
  (h:∀s',Inv X pins σ (upd H a (.ins C dx (jF f y fs))) s'→Q () s'):wpAny (model X.prog X.w) A (setAttr (.ref a) f u) Q E s:=by
 obtain ⟨mA,O,r,wi,_,ho⟩:=l9 I.hok e;have hz:(fs.map (·.1)).length≤sizeLine:=by rw [ad,sizeLine_eq];omega
 refine FI I.kIn O c.sa c.po n.taker c.hd wi hz fun h' O' sb=>h _ ?_
 have hd:∃o,h'.get? dx=some o:=let ⟨o,_,_,e',_⟩:=O'.ns;⟨o,e'⟩
 refine I.write (x:=a) (e:=dx) (by rw [e];exact True.intro) (.inr ho) (fun b q hb z=>(sb.2 b hb).trans z) hd ?_;refine ⟨by rw [jL O.ne];exact ho,?_,O.ne,O'.obj,_,O'.ns,fun g=>?_,fun g hg=>?_⟩
 ·have:=yF f y fs;omega
 ·show RelO ((jF f y fs).lookup g) (if g=f then some u else mA g);rw [yE]
  by_cases q:g=f
  ·rw [if_pos q,if_pos q];exact ry
  ·rw [if_neg q,if_neg q];exact r g
 ·by_cases q:g=f
  ·rw [q];exact (lE f y fs).1
  ·refine (lE f y fs).2 g (wi g fun z=>hg ?_);show (if g=f then some u else mA g)=none;rw [if_neg q];exact z
theorem Inv.made (I:Inv X pins σ H s):Inv X pins σ (upd (upd H s.heap.objs.size (.own (s.heap.objs.size+1))) (s.heap.objs.size+1) (.ins C s.heap.objs.size []))
  {s with heap:=(s.heap.push PySem.W.emptyDict).push (PySem.W.instObj C s.heap.objs.size)}:=by
 have e1:(s.heap.push PySem.W.emptyDict).get? s.heap.objs.size=some PySem.W.emptyDict:=ay s.heap rfl;have e2:((s.heap.push PySem.W.emptyDict).push (PySem.W.instObj C s.heap.objs.size)).get? (s.heap.objs.size+1)=some (PySem.W.instObj C s.heap.objs.size):=by
  have:=ay (s.heap.push PySem.W.emptyDict) (o:=PySem.W.instObj C s.heap.objs.size) rfl
  rwa [dn] at this
 have e3:(s.heap.push PySem.W.emptyDict).Ns s.heap.objs.size (fun _=>none):=⟨PySem.W.emptyDict,#[],_,e1,rfl,(fun e he=>absurd he (by simp)),fun _=>rfl⟩;have I1:=I.laid (a:=s.heap.objs.size) (o:=.own (s.heap.objs.size+1)) (h':=s.heap.push PySem.W.emptyDict) (t':=s.toks) (fun b u q=>ao _ q) (ai _) ⟨_,e1⟩;refine I1.laid (a:=s.heap.objs.size+1) (o:=.ins C s.heap.objs.size []) (t':=s.toks) (fun b u q=>ao _ q) (Nat.le_of_eq (dn _ _)) ?_;have ne:s.heap.objs.size≠s.heap.objs.size+1:=aH (Nat.lt_succ_self _);refine ⟨by rw [jL ne,jE],aG _,ne,e2,fun _=>none,(Heap.Ns1.of_empty e3).at fun o q=>ao _ q,fun _=>True.intro,fun y hy=>absurd rfl hy⟩
theorem GP {prog:Program} {w:World} {env:Env} {e:Expr} {f:Str} {pos:Pos} {s:Shared} {Q:Value→Shared→Prop} (hb:attributeBase e f env (eval e env)=eval e env)
  (h:wpAny (model prog w) A (eval e env) (fun o s₁=>wpAny (model prog w) A (getAttr o f true) Q E s₁) E s):wpAny (model prog w) A (eval (.Attribute e f pos) env) Q E s :=
 Attribute_any_ h (by rw [arm_eval_Attribute,hb])
end
def uU (K:PySem.W.Frag) (ta:TE) (f:Str):TE:=fun σ H Q=>ta σ H fun x H1=>∃a C dx fs v,x=.ref a∧H1 a=some (.ins C dx fs)∧Cls K C∧NoAttr K C f∧fs.lookup f=some v∧Q v H1
def KD (K:PySem.W.Frag) (ta tv:TE) (f:Str):TS:=fun D σ H=>tv σ H fun y H1=>ta σ H1 fun x H2=>∃a C dx fs,x=.ref a∧H2 a=some (.ins C dx fs)∧Cls K C∧NoAttr K C f∧fs.length<1000∧
 D.nx σ (upd H2 a (.ins C dx (jF f y fs)))
section
variable {X:Cx} {o e value:Expr} {f:Str} {pos pos' tpos:Pos} {ta tv:TE}
theorem wO (he:PE X e ta) (hb:attributeBase e f X.env (eval e X.env)=eval e X.env):PE X (.Attribute e f pos) (uU X.K ta f):=by
 intro pins s σ H Q I h;refine GP hb (jN (he pins s σ H _ I h) fun u s1 ⟨x,H1,I1,rx,a,C,dx,fs,v,ex,ea,c,n,l,q⟩=>?_);subst ex;obtain rfl:u=Value.ref a:=rx;exact DC I1 ea c n l fun u' s2 I2 ru=>⟨v,H1,I2,ru,q⟩
theorem qR (ha:PE X o ta) (hv:PE X value tv) (hs:swapsWith value (some (.Attribute o f pos')) pos.line X.env=pure false):PS X (.Assign [.Attribute o f pos'] value pos) (KD X.K ta tv f):=by
 intro pins s σ H D I h;refine plainObj_wpAny_Assign_Attribute (jN (hv pins s σ H _ I h) fun u s1 ⟨y,H1,I1,ry,q⟩=>jN (ha pins s1 σ H1 _ I1 q) fun ov s2 ⟨x,H2,I2,rx,a,C,dx,fs,ex,ea,c,n,l,q2⟩=>?_) hs;subst ex;obtain rfl:ov=Value.ref a:=rx;exact CY I2 ea c n l ry fun s3 I3=>⟨σ,_,I3,q2⟩
end
section
variable {X:Cx} {pins:List (Addr×Obj)} {σ:St} {H:Hp} {s:Shared} {A:Around} {E:Value→Shared→Prop} {Q:Value→Shared→Prop} {c:Value} {b:Bool}
end
end L2
namespace L2
open PySem PySem.Spec PyProof.Rows
structure Room (k:Nat) (A:Around):Prop where
 hd:A.handled=none
 dp:A.depth+3*k+5<recursionLimit
 un:A.units+16*k+200<cLine
variable {k:Nat} {A:Around}
theorem Room.mono {j:Nat} (r:Room k A) (h:j≤k):Room j A:=⟨r.hd,by have:=r.dp;omega,by have:=r.un;omega⟩
theorem Room.deeper (r:Room (k+1) A) (env:Env):Room k (A.deeper env) :=
 ⟨r.hd,by have:=r.dp;show A.depth+1+3*k+5<_;omega,by have:=r.un;show A.units+3+16*k+200<_;omega⟩
variable {us:List Value}
theorem C8 {C:Addr} {kw:List (Str×Value)}:(A.under (.builtin "type.__call__" ⟨.ref C::us,kw⟩)).depth=A.depth+1:=by
 first|rfl|simp [Around.under,Code.weight,Code.isCreation,Code.isGuard,Code.isCaller,Code.frames,Code.isFrame,guardIds]
theorem C7 {C:Addr} {kw:List (Str×Value)}:(A.under (.builtin "type.__call__" ⟨.ref C::us,kw⟩)).units=A.units+1:=by
 first|rfl|simp [Around.under,Code.cUnits,Code.frames,Code.isFrame]
theorem Room.make (r:Room (k+1) A) (C:Addr) (us:List Value) (kw:List (Str×Value)):Room k (A.under (.builtin "type.__call__" ⟨.ref C::us,kw⟩)) :=
 ⟨r.hd,by have:=r.dp;rw [C8];omega,by have:=r.un;rw [C7];omega⟩
theorem Room.depth (r:Room k A):A.depth<recursionLimit:=by have:=r.dp;omega
theorem Room.units (r:Room k A):A.units+64<cLine:=by have:=r.un;omega
theorem Room.units0 (r:Room k A):A.units<cLine:=by have:=r.un;omega
def JY:TA:=fun _ H Q=>Q [] H
def vD (ta:TE) (tr:TA):TA:=fun σ H Q=>ta σ H fun x H1=>tr σ H1 fun xs H2=>Q (x::xs) H2
section
variable {X:Cx} {e:Expr} {es:List Expr} {te:TE} {t:TA} {pos:Pos}
theorem jD:PA X [] JY:=fun _ _ _ _ H Q I h=>Calls.spliced_nil ⟨[],H,I,.nil,h⟩
theorem jB (ha:PE X e te) (hr:PA X es t) (hs:starEach (e::es) X.env=(false,eval e X.env)::starEach es X.env:=by rfl):PA X (e::es) (vD te t):=by
 intro pos pins s σ H Q I h;rw [hs];show wpAny _ _ (spliced ((false,eval e X.env)::backTo pos (starEach es X.env))) _ _ s;refine Calls.spliced_cons (jN (ha pins s σ H _ I h) fun u s1 ⟨x,H1,I1,r1,q1⟩=>?_);exact jN (hr pos pins s1 σ H1 _ I1 q1) fun us s2 ⟨xs,H2,I2,r2,q2⟩=>⟨x::xs,H2,I2,.cons r1 r2,q2⟩
def IV (t:TA):TE:=fun σ H Q=>t σ H fun xs H1=>xs.length≤sizeLine∧∀p,H1 p=none→Q (.ref p) (upd H1 p (.tup xs))
def IY (t:TA):TE:=fun σ H Q=>t σ H fun xs H1=>xs.length≤sizeLine∧∀p,H1 p=none→Q (.ref p) (upd H1 p (.lst xs))
theorem kP {x1} (h:PA X es t):PE X (.Tuple es x1 pos) (IV t):=by
 intro pins s σ H Q I hq;refine wpAny_Tuple_spliced (jN (h pos pins s σ H _ I hq) fun us s1 ⟨xs,H1,I1,r,z,q⟩=>⟨by rw [← r.length];exact z,?_⟩);have hf:H1 s1.heap.objs.size=none:=I1.hok.fresh (ai _);refine ⟨.ref s1.heap.objs.size,upd H1 s1.heap.objs.size (.tup xs),I1.laid (t':=s1.toks) (fun b u e=>ao _ e) (ai _) ?_,rfl,q _ hf⟩;exact ⟨z,us,r,⟨_,ay _ rfl,rfl,_,rfl⟩⟩
theorem kL (h:PA X es t):PE X (.List es pos) (IY t):=by
 intro pins s σ H Q I hq;refine wpAny_List_spliced (jN (h pos pins s σ H _ I hq) fun us s1 ⟨xs,H1,I1,r,z,q⟩=>⟨by rw [← r.length];exact z,?_⟩);have hf:H1 s1.heap.objs.size=none:=I1.hok.fresh (ai _);refine ⟨.ref s1.heap.objs.size,upd H1 s1.heap.objs.size (.lst xs),I1.laid (t':=s1.toks) (fun b u e=>ao _ e) (ai _) ?_,rfl,q _ hf⟩;exact ⟨z,us,0,r,ay _ rfl⟩
end
abbrev Sp:=List V→Hp→VK→XK→Prop
abbrev vK:=List Env→Hp→Shared→XK→Value→Shared→Prop
structure Env0 (P:Program) (w:World) (K:PySem.W.Frag) (mg:Str→Option Value) (base:Heap) (A:Around) (outer:List Env) (s:Shared) (H:Hp):Prop where
 frames:A.frames=some outer
 mod:Mod K mg base
 bs:∀b o,base.get? b=some o→s.heap.get? b=some o∧H b=none
 bsz:base.objs.size≤s.heap.objs.size
 funs:s.heap.FunFrames base outer
 frf:∀b∈kA outer,H b=none
 hok:HOk P w H s.heap
 bare:AllBare s.gens
def CE (outer:List Env) (P:Program) (w:World) (H:Hp) (s:Shared) (Q:VK) (u:Value) (s':Shared):Prop :=
 ∃v H',s'.os=s.os∧AllBare s'.gens∧Un (kA outer) [] H H' s.heap s'.heap∧HOk P w H' s'.heap∧RelV v u∧Q v H'
def CR (CX:vK) (outer:List Env) (P:Program) (w:World) (H:Hp) (s:Shared) (Q:VK) (E:XK) (r:Result) (s':Shared):Prop :=
 match r with
 |.ok (.ret u)=>CE outer P w H s Q u s'
 |.ok _=>False
 |.error e=>CX outer H s E e s'
structure FnOk (P:Program) (w:World) (K:PySem.W.Frag) (mg:Str→Option Value) (base:Heap) (CX:vK) (k:Nat) (f:Addr) (fd:FuncData) (ps:List Str) (sp:Sp):Prop where
 len:∀vs H Q E,sp vs H Q E→vs.length=ps.length
 run:∀(A:Around) (outer:List Env) (s:Shared) (H:Hp) (args:Args) (us:List Value) (vs:List V) (Q:VK) (E:XK),Room k A→Env0 P w K mg base A outer s H→BindsTo s fd args (ps.zip us)→Vals vs us→sp vs H Q E→
  codeAny (model P w) A (.call (.ref f) args) (CR CX outer P w H s Q E) s
variable {P:Program} {w:World} {K:PySem.W.Frag} {mg:Str→Option Value} {base:Heap}
theorem Env0.make {outer:List Env} {s:Shared} {H:Hp} (e:Env0 P w K mg base A outer s H) (C:Addr) (us:List Value) (kw:List (Str×Value)) :
  Env0 P w K mg base (A.under (.builtin "type.__call__" ⟨.ref C::us,kw⟩)) outer s H:=⟨by first|exact e.frames|(simpa [Around.under,Code.envs,Code.isFrame,pushEnvs] using e.frames),e.mod,e.bs,e.bsz,e.funs,e.frf,e.hok,e.bare⟩
section
variable {X:Cx} {pins:List (Addr×Obj)} {σ:St} {H:Hp} {s s':Shared}
theorem Inv.env0 (I:Inv X pins σ H s):Env0 X.prog X.w X.K X.mg X.base X.A X.stack s H :=
 ⟨I.ok.frames,I.ok.mod,I.bs,aR I.ok.bsz I.sz,I.stack,I.stkFree,I.hok,I.bare⟩
theorem Inv.after {Q:VK} {u:Value} (I:Inv X pins σ H s) (h:CE X.stack X.prog X.w H s Q u s'):EP X pins σ Q u s':=by
 obtain ⟨v,H',os,bare,un,hok,r,q⟩:=h;obtain ⟨hh,g,d,t,os'⟩:=s';obtain rfl:os'=s.os:=os;exact ⟨v,H',I.call (h':=hh) (g':=g) (d':=d) (t':=t) (ch:=[]) un hok bare (fun b z=>absurd z (by simp)),r,q⟩
end
def eH (sp:Sp) (dvs:List V) (E:XK) (t:TA):TE:=fun σ H Q=>t σ H fun vs H1=>sp (vs++dvs) H1 Q E
def uI (C:Addr) (m:Str) (sp:Sp) (dvs:List V) (E:XK) (ta:TE) (t:TA):TE:=fun σ H Q=>ta σ H fun x H1=>∃a dx fs,x=.ref a∧H1 a=some (.ins C dx fs)∧fs.lookup m=none∧
 t σ H1 fun vs H2=>sp (x::(vs++dvs)) H2 Q E
def uJ (C:Addr) (sp:Sp) (dvs:List V) (E:XK) (t:TA):TE:=fun σ H Q=>t σ H fun vs H1=>∀x dx,H1 x=none→H1 dx=none→dx≠x→
 sp (.ref x::(vs++dvs)) (upd (upd H1 dx (.own x)) x (.ins C dx [])) (fun v H2=>v=.non∧Q (.ref x) H2) E
def Binds (K:PySem.W.Frag) (fd:FuncData) (ps:List Str) (ds:List Value):Prop :=
 ∀(s:Shared) (us:List Value),K.In s.heap→(us++ds).length=ps.length→BindsTo s fd ⟨us,[]⟩ (ps.zip (us++ds))
variable {ps:List Str}
theorem Binds.all {fd:FuncData} (h:∀us:List Value,us.length=ps.length→bindArgs fd ⟨us,[]⟩=pure (ps.zip us)):Binds K fd ps []:=fun s us _ hl=>by
 rw [bx] at hl ⊢;exact .of_eq (h us hl)
def ZQ (CX:vK) (X:Cx) (E:XK):Prop:=∀(pins:List (Addr×Obj)) (σ:St) (H:Hp) (s:Shared) (e:Value) (s':Shared),Inv X pins σ H s→CX X.stack H s E e s'→X.xe e s'
section
variable {X:Cx} {CX:vK} {k:Nat} {f C:Addr} {fd:FuncData} {ps:List Str} {sp:Sp} {dvs:List V} {ds:List Value} {E:XK} {x m:Str} {p pos apos:Pos} {e o:Expr} {es:List Expr} {ta:TE} {t:TA}
theorem mE {pins:List (Addr×Obj)} {σ:St} {H:Hp} {s:Shared} {Q:VK} {us:List Value} {vs:List V} (F:FnOk X.prog X.w X.K X.mg X.base CX k f fd ps sp) (hr:Room k X.A) (hb:Binds X.K fd ps ds) (hd:Vals dvs ds) (hx:ZQ CX X E)
  (I:Inv X pins σ H s) (r:Vals vs us) (h:sp (vs++dvs) H Q E):wpAny (model X.prog X.w) X.A (call (.ref f) us) (EP X pins σ Q) X.xe s:=by
 have r2:Vals (vs++dvs) (us++ds):=r.append hd;have hl:(us++ds).length=ps.length:=by rw [← r2.length];exact F.len _ _ _ _ h
 refine wpAny_call (fo (F.run X.A X.stack s H ⟨us,[]⟩ (us++ds) (vs++dvs) Q E hr I.env0 (hb s us I.kIn hl) r2 h) fun r s' hq=>?_);cases r with
 |error e=>exact hx pins σ H s e s' I hq
 |ok fl =>
  cases fl with
  |ret u=>exact I.after hq
  |next=>exact False.elim hq
  |brk=>exact False.elim hq
  |cont=>exact False.elim hq
theorem FS (F:FnOk X.prog X.w X.K X.mg X.base CX k f fd ps sp) (hr:Room k X.A) (hg:Gl X x) (hm:X.mg x=some (.ref f)) (hk:PySem.W.keepIn X.K (.ref f)=true) (hb:Binds X.K fd ps ds) (hd:Vals dvs ds) (hx:ZQ CX X E)
  (ha:PA X (e::es) t) (hdb:(x == ("__debug__":Str))=false:=by decide) (he:starEach (e::es) X.env=(false,eval e X.env)::starEach es X.env:=by rfl) (hpl:(backTo pos (starEach es X.env)).any (·.1)=false:=by rfl) :
  PE X (.Call (.Name x p) (e::es) [] pos) (eH sp dvs E t):=by
 intro pins s σ H Q I h;refine cy (QN I hg hm ?_ hdb);refine cz (h₀:=X.base) I.ok.mod.kin hk (jN (ha pos pins s σ H _ I h) fun us s1 ⟨vs,H1,I1,r,q⟩=>⟨I1.kIn,?_⟩) he hpl;exact mE F hr hb hd hx I1 r q
theorem EU {pl:Sem Bool} (he:PE X o ta) (c:Cls X.K C) (hm:Meth X.K C m f) (F:FnOk X.prog X.w X.K X.mg X.base CX k f fd ps sp) (hr:Room k X.A) (hb:Binds X.K fd ps ds) (hd:Vals dvs ds) (hx:ZQ CX X E)
  (ht:eval (.Call (.Attribute o m apos) [] [] pos) X.env=(do
   let ov ← eval o X.env
   standAt apos.atName
   let (f,first) ← holding [ov] (getMethod ov m pl)
   callWith pos f first (backTo pos (starEach [] X.env)) (backToKw pos (keywordEach [] X.env))):=by rfl) :
  PE X (.Call (.Attribute o m apos) [] [] pos) (uI C m sp dvs E ta JY):=by
 intro pins s σ H Q I h;refine fq (pl:=pl) (jN (he pins s σ H _ I h) fun u s1 ⟨x,H1,I1,rx,a,dx,fs,ex,ea,l,q⟩=>?_) ht;subst ex;obtain rfl:u=Value.ref a:=rx;refine pH I1 ea c hm l ?_;exact PySem.W.callWith_K0 (first:=[.ref a]) I1.kIn hm.kp (mE (us:=[.ref a]) (vs:=[.ref a]) F hr hb hd hx I1 (.cons rfl .nil) q)
structure Mk (K:PySem.W.Frag) (C f:Addr):Prop where
 makes:PySem.W.makesIn K C=true
 init:PySem.W.findIn K (.ref C) "__init__"=some (some (.ref f))
 fn:PySem.W.isFn K (.ref f)=true
 kp:PySem.W.keepIn K (.ref C)=true
theorem EO {pins:List (Addr×Obj)} {σ:St} {H:Hp} {s:Shared} {Q:VK} {us:List Value} {vs:List V} (M:Mk X.K C f) (F:FnOk X.prog X.w X.K X.mg X.base CX k f fd ps sp) (hr:Room (k+1) X.A) (hb:Binds X.K fd ps ds) (hd:Vals dvs ds)
  (hx:ZQ CX X E) (I:Inv X pins σ H s) (r:Vals vs us)
  (h:∀x dx,H x=none→H dx=none→dx≠x→sp (.ref x::(vs++dvs)) (upd (upd H dx (.own x)) x (.ins C dx [])) (fun v H2=>v=.non∧Q (.ref x) H2) E) :
  wpAny (model X.prog X.w) X.A (call (.ref C) us) (EP X pins σ Q) X.xe s:=by
 have hq:=h (s.heap.objs.size+1) s.heap.objs.size (I.hok.fresh (Nat.le_succ _)) (I.hok.fresh (ai _)) (aH (Nat.lt_succ_self _));have I2:=Inv.made (C:=C) I;have r2:Vals (V.ref (s.heap.objs.size+1)::(vs++dvs)) (Value.ref (s.heap.objs.size+1)::(us++ds)):=.cons rfl (r.append hd);have hl:(Value.ref (s.heap.objs.size+1)::us++ds).length=ps.length:=by
  have e:=r2.length;rw [F.len _ _ _ _ hq] at e;exact e.symm
 refine wpAny_call (E1 (f:=f) I.kIn M.makes M.init (er.mp M.fn) (fo (F.run _ X.stack _ _ ⟨Value.ref (s.heap.objs.size+1)::us,[]⟩ (Value.ref (s.heap.objs.size+1)::(us++ds)) _ _ E (hr.make C us [])
  (I2.env0.make C us []) (hb _ (Value.ref (s.heap.objs.size+1)::us) I2.kIn hl) r2 hq) fun r s' hq'=>?_))
 cases r with
 |error e=>exact hx pins σ _ _ e s' I2 hq'
 |ok fl =>
  cases fl with
  |ret u =>
   obtain ⟨v,H',I3,rv,ev,q3⟩:=I2.after hq';subst ev;exact ⟨rv,⟨V.ref (s.heap.objs.size+1),H',I3,rfl,q3⟩⟩
  |next=>exact False.elim hq'
  |brk=>exact False.elim hq'
  |cont=>exact False.elim hq'
theorem FP (M:Mk X.K C f) (F:FnOk X.prog X.w X.K X.mg X.base CX k f fd ps sp) (hr:Room (k+1) X.A) (hg:Gl X x) (hm:X.mg x=some (.ref C)) (hb:Binds X.K fd ps ds) (hd:Vals dvs ds) (hx:ZQ CX X E)
  (ha:PA X (e::es) t) (hdb:(x == ("__debug__":Str))=false:=by decide) (he:starEach (e::es) X.env=(false,eval e X.env)::starEach es X.env:=by rfl) (hpl:(backTo pos (starEach es X.env)).any (·.1)=false:=by rfl) :
  PE X (.Call (.Name x p) (e::es) [] pos) (uJ C sp dvs E t):=by
 intro pins s σ H Q I h;refine cy (QN I hg hm ?_ hdb);refine cz (h₀:=X.base) I.ok.mod.kin M.kp (jN (ha pos pins s σ H _ I h) fun us s1 ⟨vs,H1,I1,r,q⟩=>⟨I1.kIn,?_⟩) he hpl;exact EO M F hr hb hd hx I1 r q
end
section
variable {X:Cx} {CX:vK} {k:Nat} {f C:Addr} {fd:FuncData} {ps ks:List Str} {sp:Sp} {E:XK} {x m:Str} {p pos apos kpos:Pos} {e o:Expr} {es:List Expr} {kws:List Keyword} {te ta:TE} {t tk:TA} {nm:Option Str}
variable {g:List Value→List Value→List Value} {gV:List V→List V→List V}
end
structure FnScope (N P:List Str) (sc:Scope):Prop where
 kind:sc.kind=.function
 co:sc.isCoroutine=false
 gen:sc.isGenerator=false
 nd:N.Nodup
 pre:N.take P.length=P
 par:∀x∈P,sc.names.lookup x=some .local∨sc.names.lookup x=some .cell
 nofree:∀y∈sc.names,y.2≠.free
theorem rG {kindOf:Str→Option NameKind} {x:Str}:∀{binds:List (Str×Value)} {m:Str→Option Value},(∀v,(x,v)∉binds)→bindL kindOf binds m x=m x
 |[],_,_=>rfl
 | (n,v)::r,m,h=>by
  unfold bindL;rw [rG fun w hw=>h w (aC _ hw)]
  split
  ·have:x≠n:=by rintro rfl;exact h v aQ
   simp [this]
  ·rfl
theorem rJ {kindOf:Str→Option NameKind} {x:Str}:∀{binds:List (Str×Value)} {m:Str→Option Value},(∀v,(x,v)∉binds)→bindC kindOf binds m x=m x
 |[],_,_=>rfl
 | (n,v)::r,m,h=>by
  unfold bindC;rw [rJ fun w hw=>h w (aC _ hw)]
  split
  ·rfl
  ·have:x≠n:=by rintro rfl;exact h v aQ
   simp [this]
theorem rH {kindOf:Str→Option NameKind} {x:Str} {v:Value}:∀{P:List Str} {vs:List Value} {i:Nat} {m:Str→Option Value},P.Nodup→P[i]?=some x→vs[i]?=some v→kindOf x=some .local→
  bindL kindOf (P.zip vs) m x=some v
 |[],_,_,_,_,h,_,_=>by simp at h
 |_::_,[],_,_,_,_,h,_=>by simp at h
 |p::P,w::vs,0,m,nd,h1,h2,hk=>by
  simp at h1 h2;subst h1;subst h2
  show bindL kindOf ((p,w)::P.zip vs) m p=_;unfold bindL;rw [rG fun v hv=>(du.mp nd).1 (gh hv).1,if_pos hk];simp
 |p::P,w::vs,i+1,m,nd,h1,h2,hk=>by
  show bindL kindOf ((p,w)::P.zip vs) m x=_;unfold bindL;exact rH (i:=i) (du.mp nd).2 (by simpa using h1) (by simpa using h2) hk
theorem rK {kindOf:Str→Option NameKind} {x:Str} {v:Value}:∀{P:List Str} {vs:List Value} {i:Nat} {m:Str→Option Value},P.Nodup→P[i]?=some x→vs[i]?=some v→kindOf x≠some .local→
  bindC kindOf (P.zip vs) m x=some v
 |[],_,_,_,_,h,_,_=>by simp at h
 |_::_,[],_,_,_,_,h,_=>by simp at h
 |p::P,w::vs,0,m,nd,h1,h2,hk=>by
  simp at h1 h2;subst h1;subst h2
  show bindC kindOf ((p,w)::P.zip vs) m p=_;unfold bindC;rw [rJ fun v hv=>(du.mp nd).1 (gh hv).1,if_neg hk];simp
 |p::P,w::vs,i+1,m,nd,h1,h2,hk=>by
  show bindC kindOf ((p,w)::P.zip vs) m x=_;unfold bindC;exact rK (i:=i) (du.mp nd).2 (by simpa using h1) (by simpa using h2) hk
def start (N:List Str) (vs:List V):St:=vs.map some++List.replicate (N.length - vs.length) none
def kN (CX:vK) (P:Program) (w:World) (K:PySem.W.Frag) (mg:Str→Option Value) (base:Heap) (N:List Str) (qual:Str) (scope:Scope) (f:Addr) (cd:Value) (A:Around) (outer:List Env) (s:Shared) (H:Hp) (E:XK):Cx where
 prog:=P
 w:=w
 K:=K
 mg:=mg
 base:=base
 A:=A.deeper (envOfC qual scope s.heap.objs.size f cd)
 N:=N
 s₀:=s
 H₀:=H
 env:=envOfC qual scope s.heap.objs.size f cd
 outer:=outer
 stack:=envOfC qual scope s.heap.objs.size f cd::outer
 ex:=[]
 calm:=true
 fn:=fun _=>true
 pn:=[]
 xe:=fun e s'=>wpAny (model P w) (A.deeper (envOfC qual scope s.heap.objs.size f cd)) (leaving (envOfC qual scope s.heap.objs.size f cd) e) (fun _ s''=>CX outer H s E e s'') (fun e' s''=>CX outer H s E e' s'') s'
theorem sK {sc:Scope} {n:Nat} {x:Str} (h:sc.names.lookup x=some .cell):∃c,(cellsFrom n sc.names []).lookup x=some c:=by
 have q:=fj sc.names n [] (.inl h);exact Option.isSome_iff_exists.mp q
theorem pY {CX:vK} {N:List Str} {qual:Str} {scope:Scope} {f:Addr} {cd:Value} {outer:List Env} {s s1:Shared} {H:Hp} {E:XK} {vs:List V}
  (S:FnScope N ps scope) (hd:A.handled=none) (e0:Env0 P w K mg base A outer s H) (hl:vs.length=ps.length) (r:Vals vs us)
  (x:InCallC s s.heap.objs.size (bindL (envOfC qual scope s.heap.objs.size f cd).kindOf (ps.zip us) fun _=>none) (cellsFrom (s.heap.objs.size+1) scope.names []) (bindC (envOfC qual scope s.heap.objs.size f cd).kindOf (ps.zip us) fun _=>none) s1) :
  Inv (kN CX P w K mg base N qual scope f cd A outer s H E) [] (start N vs) H s1:=by
 have hpl:ps.length≤N.length:=by have:=bw List.length S.pre;rw [cu] at this;omega
 obtain ⟨h1,tk,rfl,hk⟩:=x.done;have noA:∀b:Addr,b∉(kN CX P w K mg base N qual scope f cd A outer s H E).ex:=fun b z=>absurd (show b∈([]:List Addr) from z) (by simp)
 refine ⟨⟨e0.mod,S.kind,rfl,rfl,ai _,fun y z c h1 h2=>?_,fun y hy=>?_,fun y c _ h=>?_,fun _=>hd,Around.frames_deeper e0.frames,.inr ⟨rfl,rfl⟩,fun b z=>absurd z (noA b),e0.bs,e0.bsz,fun b _ _=>noA b,fun b z=>absurd z (noA b),e0.funs,e0.frf⟩,
  rfl,e0.bare,Un.kept hk,⟨_,x.toInCall.ns,fun i y v h1 h2 h3=>?_⟩,fun y c h=>⟨_,x.cell y c h⟩,e0.hok.fresh (ai _),fun y c h=>?_,fun p hp=>absurd (show p∈([]:List (Addr×Obj)) from hp) (by simp),e0.hok.kept hk,?_⟩
 ·exact name_of_addr x.apart (di h1) (di h2)
 ·have hy:scope.names.lookup y=some .cell∨scope.names.lookup y=some .free:=hy
  rcases hy with hy|hy
  ·exact sK hy
  ·exact absurd rfl (S.nofree _ (di hy))
 ·exact fm (x.above y c (di h))
 ·have hi:i<vs.length:=by
   unfold start at h2
   by_cases hi:i<vs.length
   ·exact hi
   ·rw [aE (by simpa using hi)] at h2;rw [cf] at h2
    split at h2<;>cases h2
  have ha:vs[i]?=some v:=by
   unfold start at h2;rw [aJ (by simpa using hi),ax] at h2;cases e:vs[i]? with
   |none=>rw [e] at h2;cases h2
   |some a=>rw [e] at h2;cases h2;rfl
  obtain ⟨u,hu,rv⟩:=r.get ha;have hp:ps[i]?=some y:=by
   rw [← S.pre,List.getElem?_take_of_lt (by omega)];exact h1
  have ndP:ps.Nodup:=by rw [← S.pre];exact S.nd.sublist (List.take_sublist _ _)
  refine ⟨u,rv,?_⟩
  rcases S.par y (aP hp) with k|k
  ·exact .inl ⟨k,rH ndP hp hu k⟩
  ·obtain ⟨c,e⟩:=sK (n:=s.heap.objs.size+1) k;refine .inr ⟨.inl k,c,e,?_⟩;have q:=x.cell y c e;rw [rK ndP hp hu (by show scope.names.lookup y≠_;rw [k];decide)] at q;exact q
 ·exact e0.hok.fresh (fm (x.above y c (di h)))
 ·unfold start;show _=N.length;rw [aj,ad,aZ];omega
theorem mW {CX:vK} {f:Addr} {name qual:Str} {params:Arguments} {body:List Stmt} {scope:Scope} {dV kV doc pm cdv ct oc:Value} {an od:Option Addr}
  {osl:Array (Option Value)} {N:List Str} {sp:Sp} (lk:K.lookup f=some ⟨oc,od,.func (PySem.W.fnOf name qual params body scope dV kV doc pm an cdv ct),osl⟩) (hcd:PySem.W.codeIn K cdv qual=true) (S:FnScope N ps scope)
  (len:∀vs H Q E,sp vs H Q E→vs.length=ps.length)
  (hbody:∀(A:Around) (outer:List Env) (s:Shared) (H:Hp) (vs:List V) (Q:VK) (E:XK),Room k (A.deeper (envOfC qual scope s.heap.objs.size f cdv))→sp vs H Q E→
   ∃t,PSs (kN CX P w K mg base N qual scope f cdv A outer s H E) body t∧t {nx:=fun _ H'=>Q .non H',rt:=Q} (start N vs) H) :
  FnOk P w K mg base CX (k+1) f (PySem.W.fnOf name qual params body scope dV kV doc pm an cdv ct) ps sp:=by
 refine ⟨len,fun A outer s H args us vs Q E hr e0 hb r hsp=>?_⟩;have hl:=len _ _ _ _ hsp;have KX:K.In s.heap:=e0.mod.kin.keeps fun b o e=>(e0.bs b o e).1
 have lim:s.heap.NoLimit:=e0.mod.nolimit.keeps fun b o e=>(e0.bs b o e).1
 have hkind:∀y∈ps.zip us,scope.names.lookup y.1=some .local∨(scope.names.lookup y.1=some .cell∧((cellsFrom (s.heap.objs.size+1) scope.names []).lookup y.1).isSome=true):=fun ⟨n,v⟩ hy=>by
  rcases S.par n (gh hy).1 with q|q
  ·exact .inl q
  ·exact .inr ⟨q,fj _ _ _ (.inl q)⟩
 refine codeAny_call_function hr.depth (KX _ _ lk) rfl S.co S.gen rfl (PySem.W.codeRec_of KX hcd) (hb _ _ _ _ ?_);refine wpAny_newFunctionEnv_cells S.kind hkind fun env he s1 x=>?_
 subst he;refine ⟨lim.keeps x.toInCall.keep,codeAny_func ?_⟩;obtain ⟨t,ht,hq⟩:=hbody A outer s H vs Q E (hr.deeper _) hsp;have I:Inv (kN CX P w K mg base N qual scope f cdv A outer s H E) [] (start N vs) H s1:=pY S hr.hd e0 hl r x;refine bp (ht [] s1 (start N vs) H _ I hq) (fun fl s' hs=>?_) fun e s' hs=>hs
 have fin:∀{σ':St} {H':Hp} {v:V} {u:Value},Inv (kN CX P w K mg base N qual scope f cdv A outer s H E) [] σ' H' s'→RelV v u→Q v H'→CE outer P w H s Q u s' :=
  fun {σ' H' v u} J rv q=>⟨v,H',J.os,J.bare,J.base,J.hok,rv,q⟩
 cases fl with
 |ret u =>
  obtain ⟨v,σ',H',J,rv,q⟩:=hs;exact fin J rv q
 |next =>
  obtain ⟨σ',H',J,q⟩:=hs;exact fin (v:=V.non) (u:=Value.none) J rfl q
 |brk =>
  obtain ⟨_,_,_,q⟩:=hs;exact False.elim q
 |cont =>
  obtain ⟨_,_,_,q⟩:=hs;exact False.elim q
end L2
namespace L2
open PySem PySem.Spec PyProof.Rows
section
variable {X:Cx} {x:Str} {p pos:Pos} {e:Expr} {es:List Expr} {t:TA} {id T:String} {r:List V→Hp→VK→Prop}
def nQ (r:List V→Hp→VK→Prop) (t:TA):TE:=fun σ H Q=>t σ H fun vs H1=>r vs H1 Q
theorem yW (hc:yA X (.builtin id) r) (hg:Gl X x) (hm:X.mg x=none) (hv:bootBuiltins x=some (.builtin id)) (ha:PA X (e::es) t) (hn:x≠"__name__":=by decide) (hdb:(x == ("__debug__":Str))=false:=by decide)
  (he:starEach (e::es) X.env=(false,eval e X.env)::starEach es X.env:=by rfl) (hpl:(backTo pos (starEach es X.env)).any (·.1)=false:=by rfl):PE X (.Call (.Name x p) (e::es) [] pos) (nQ r t):=by
 intro pins s σ H Q I h;refine cy (ZO I hg hm hv ?_ hn hdb);exact PyProof.Rows.callWith_builtin1 (jN (ha pos pins s σ H _ I h) fun us s1 ⟨vs,H1,I1,r1,q1⟩=>hc pins s1 σ H1 vs us Q I1 r1 q1) he hpl
theorem qM (hc:yA X (.type T) r) (hg:Gl X x) (hm:X.mg x=none) (hv:bootBuiltins x=some (.type T)) (ha:PA X (e::es) t) (hn:x≠"__name__":=by decide) (hdb:(x == ("__debug__":Str))=false:=by decide)
  (he:starEach (e::es) X.env=(false,eval e X.env)::starEach es X.env:=by rfl) (hpl:(backTo pos (starEach es X.env)).any (·.1)=false:=by rfl):PE X (.Call (.Name x p) (e::es) [] pos) (nQ r t):=by
 intro pins s σ H Q I h;refine cy (ZO I hg hm hv ?_ hn hdb);exact ck (jN (ha pos pins s σ H _ I h) fun us s1 ⟨vs,H1,I1,r1,q1⟩=>hc pins s1 σ H1 vs us Q I1 r1 q1) he hpl
end
end L2
namespace HT
open PySem PyProof.Rows
section
open PySem.SeqAt
open PySem.AutoSeq1 (wpAny_loadPart')
open PySem.MeetsSeq PySem.MeetsSeq2 PySem.MeetsSeq3
end
section
variable {prog:Program} {w:World} {A:Around} {E:Value→Shared→Prop} {s:Shared}
theorem cat_tup {t b:Addr} {vs ws:List Value} {Q:Value→Shared→Prop} (ht:IsTup s.heap t vs.toArray) (hb:IsTup s.heap b ws.toArray) (hv:vs≠[])
  (h1:ws=[]→Q (.ref t) s) (h2:ws≠[]→Q (.ref s.heap.objs.size) {s with heap:=s.heap.push {cls:=.type "tuple",data:=.seq (vs++ws).toArray}})
  (hsz:vs.length+ws.length≤sizeLine):wpAny (model prog w) A (binaryOp .Add (.ref t) (.ref b)) Q E s:=by
 obtain ⟨⟨cls,dd,data,sl⟩,ho,hc,n,hd⟩:=id ht;obtain ⟨⟨cls2,dd2,data2,sl2⟩,ho2,hc2,n2,hd2⟩:=id hb;simp only at hc hd hc2 hd2;subst hc hd hc2 hd2;have e:vs.toArray++ws.toArray=(vs++ws).toArray:=by simp
 by_cases hw:ws=[]
 ·exact concat_meets ⟨_,ho,rfl⟩ ⟨_,ho2,rfl⟩ noFill_tuple_add seq_tuple_add PySem.F.slot_tuple_add PySem.F.entry_tuple_add (PySem.F.args_tuple_add_2 _ _)
   (tuple_addW1 t b vs.toArray ws.toArray n n2 dd dd2 sl sl2 (by simpa using hv) (by simp [hw])) ⟨ho,ho2,h1 hw⟩
 ·refine concat_meets ⟨_,ho,rfl⟩ ⟨_,ho2,rfl⟩ noFill_tuple_add seq_tuple_add PySem.F.slot_tuple_add PySem.F.entry_tuple_add (PySem.F.args_tuple_add_2 _ _)
   (tuple_addW2 t b vs.toArray ws.toArray n n2 dd dd2 sl sl2 (by simpa using hv) (by simpa using hw) (by rw [List.size_toArray,List.size_toArray];exact hsz)) ⟨ho,ho2,?_⟩
  rw [e];exact h2 hw
def sIx (n d:Nat):Option Int→Nat
 |none=>d
 |some v=>if v<0 then (v+(n:Int)).toNat else min v.toNat n
theorem sIx_none (n d:Nat):sIx n d none=d:=rfl
theorem sIx_nat (n d k:Nat):sIx n d (some (k:Int))=min k n:=by
 show (if (k:Int)<0 then ((k:Int)+(n:Int)).toNat else min (k:Int).toNat n)=min k n;rw [if_neg (by omega),Int.toNat_natCast]
end
end HT
namespace L2
open PySem PySem.Spec PyProof.Rows
abbrev TO:=St→Hp→(Option Int→Hp→Prop)→Prop
def PO (X:Cx) (e:Option Expr) (t:TO):Prop :=
 ∀(pins:List (Addr×Obj)) (s:Shared) (σ:St) (H:Hp) (Q:Option Int→Hp→Prop),Inv X pins σ H s→t σ H Q→
  wpAny (model X.prog X.w) X.A (evalPart e X.env) (fun u s'=>∃o H',Inv X pins σ H' s'∧IsPart u o∧Q o H') X.xe s
def FG:TO:=fun _ H Q=>Q none H
def HM (t:TE):TO:=fun σ H Q=>t σ H fun x H1=>∃i,x=.int i∧Q (some i) H1
section
variable {X:Cx} {e:Expr} {te:TE} {lo hi:Option Expr} {tl th:TO} {pos p2:Pos}
theorem FM:PO X none FG:=by
 intro pins s σ H Q I h;rw [evalPart_none];exact aM ⟨none,H,I,.none,h⟩
theorem wQ (h:PE X e te):PO X (some e) (HM te):=by
 intro pins s σ H Q I hw;rw [evalPart_some];refine jN (h pins s σ H _ I hw) fun u s1 ⟨x,H1,I1,r1,q1⟩=>?_
 obtain ⟨i,rfl,q⟩:=q1;obtain ⟨t,rfl⟩:=r1;exact ⟨some i,H1,I1,.int i t,q⟩
def nY (X:Cx) (r:V→Option Int→Option Int→Hp→VK→Prop):Prop :=
 ∀(pins:List (Addr×Obj)) (s:Shared) (σ:St) (H:Hp) (x:V) (v vl vu:Value) (lo hi:Option Int) (sl:Addr) (Q:VK),Inv X pins σ H s→RelV x v→s.heap.IsSliceOf sl vl vu .none→IsPart vl lo→IsPart vu hi→r x lo hi H Q→
  ∃T id,typeLookup (.type T) "__getitem__"=pure (some (.builtin id))∧s.TypeIs v T∧wpAny (model X.prog X.w) X.A (getItem v (.ref sl)) (EP X pins σ Q) X.xe s
def K8 (r:V→Option Int→Option Int→Hp→VK→Prop) (te:TE) (tl th:TO):TE:=fun σ H Q=>te σ H fun x H1=>tl σ H1 fun l H2=>th σ H2 fun u H3=>r x l u H3 Q
theorem ET {r:V→Option Int→Option Int→Hp→VK→Prop} (hr:nY X r) (he:PE X e te) (hl:PO X lo tl) (hu:PO X hi th):PE X (.Subscript e (.Slice lo hi none p2) pos) (K8 r te tl th):=by
 intro pins s σ H Q I h;refine Subscript_ (jN (he pins s σ H _ I h) fun v s1 ⟨x,H1,I1,r1,q1⟩=>?_);refine wpAny_Slice (jN (hl pins s1 σ H1 _ I1 q1) fun vl s2 ⟨l,H2,I2,pl,q2⟩=>jN (hu pins s2 σ H2 _ I2 q2) fun vu s3 ⟨u,H3,I3,pu,q3⟩=>?_);rw [evalPart_none];refine aM ?_;have I4:Inv X pins σ H3 {s3 with heap:=s3.heap.push {cls:=.type "slice",data:=.fields #[vl,vu,.none]}}:=I3.kept (t':=s3.toks) fun b ob q=>ao _ q
 obtain ⟨T,id,hT,ht,hg⟩:=hr pins {s3 with heap:=s3.heap.push {cls:=.type "slice",data:=.fields #[vl,vu,.none]}} σ H3 x v vl vu l u s3.heap.objs.size Q I4 r1 (Heap.IsSliceOf.new ..) pl pu q3;show wpAny (model X.prog X.w) X.A (subscriptTail e (.Slice lo hi none p2) v (.ref s3.heap.objs.size)) (EP X pins σ Q) X.xe {s3 with heap:=s3.heap.push {cls:=.type "slice",data:=.fields #[vl,vu,.none]}};exact tail_any (ops:=[.ref s3.heap.objs.size,v]) ht hT hg (by with_unfolding_all rfl)
def ZW (xs:List V) (lo hi:Option Int):List V:=(xs.drop (HT.sIx xs.length 0 lo)).take (HT.sIx xs.length xs.length hi - HT.sIx xs.length 0 lo)
theorem CO (xs:List V) (lo hi:Option Int):(ZW xs lo hi).length≤xs.length:=by
 unfold ZW;rw [cu,List.length_drop];omega
def HZ (K:PySem.W.Frag):R2:=fun x y H Q=>∃a b xs ys,x=.ref a∧y=.ref b∧SqT K H a xs∧SqT K H b ys∧xs≠[]∧xs.length+ys.length≤sizeLine∧
 (ys=[]→Q (.ref a) H)∧(ys≠[]→∀p,H p=none→Q (.ref p) (upd H p (.tup (xs++ys))))
theorem Vals.nil_iff {xs:List V} {us:List Value} (r:Vals xs us):us=[]↔xs=[]:=by
 cases r with
 |nil=>simp
 |cons _ _=>simp
theorem FX:kM X (binaryOp .Add) (HZ X.K):=by
 intro pins s σ H x y v u Q I rx ry h;obtain ⟨a,b,xs,ys,rfl,rfl,ha,hb,hx,hz,q1,q2⟩:=h;cases rx;cases ry;obtain ⟨its,r1,p1,_⟩:=I.tuple ha;obtain ⟨its2,r2,p2,_⟩:=I.tuple hb;refine HT.cat_tup p1 p2 (fun z=>hx (r1.nil_iff.mp z)) (fun z=>⟨.ref a,H,I,rfl,q1 (r2.nil_iff.mp z)⟩) (fun z=>?_) (by rw [← r1.length,← r2.length];exact hz);refine ⟨.ref s.heap.objs.size,_,I.laid (t':=s.toks) (o:=.tup (xs++ys)) (fun b ob q=>ao _ q) (ai _) ?_,rfl,q2 (fun w=>z (r2.nil_iff.mpr w)) _ (I.hok.fresh (ai _))⟩;exact ⟨by rw [aj];exact hz,_,r1.append r2,IsTup.new _ _⟩
end
def yU (n:Nat) (i:Int):Option Nat:=if 0≤i then (if i<n then some i.toNat else none) else if -(n:Int)≤i then some (i+n).toNat else none
def qU {α:Type} (xs:List α) (i:Int):Option α:=(yU xs.length i).bind fun j=>xs[j]?
theorem tG {n:Nat} {i:Int} {j:Nat} (h:yU n i=some j):seqIndex? i n=some j∧j<n∧-(n:Int)≤i∧i<n:=by
 unfold yU at h
 by_cases h0:0≤i
 ·rw [if_pos h0] at h
  by_cases h1:i<n
  ·rw [if_pos h1] at h;have e:i.toNat=j:=az h;exact ⟨by rw [seqIndex_of h0 h1,e],by omega,by omega,h1⟩
  ·rw [if_neg h1] at h;cases h
 ·rw [if_neg h0] at h
  by_cases h1 : -(n:Int)≤i
  ·rw [if_pos h1] at h;have e:(i+n).toNat=j:=az h;exact ⟨by rw [seqIndex_neg (by omega) h1,e],by omega,h1,by omega⟩
  ·rw [if_neg h1] at h;cases h
variable {α:Type}
theorem dX {xs:List α} {i:Int} {v:α} (h:qU xs i=some v):∃j,seqIndex? i xs.length=some j∧xs[j]?=some v∧j<xs.length∧-(xs.length:Int)≤i∧i<xs.length:=by
 unfold qU at h;cases e:yU xs.length i with
 |none=>rw [e] at h;cases h
 |some j =>
  rw [e] at h;obtain ⟨h1,h2,h3,h4⟩:=tG e;exact ⟨j,h1,h,h2,h3,h4⟩
theorem qN {xs:List α} {j:Nat} {v:α} (h:xs[j]?=some v):qU xs (j:Int)=some v:=by
 have hj:j<xs.length:=(ag.mp h).1;have e:yU xs.length (j:Int)=some j:=by
  unfold yU;rw [if_pos (by omega),if_pos (by omega)];simp
 unfold qU;rw [e];exact h
theorem atI_last (xs:List α) (v:α):qU (xs++[v]) (-1)=some v:=by
 have hl:(xs++[v]).length=xs.length+1:=by simp
 have e:yU (xs++[v]).length (-1)=some xs.length:=by
  unfold yU;rw [hl,if_neg (by decide),if_pos (by omega)]
  congr 1
  omega
 unfold qU;rw [e];show (xs++[v])[xs.length]?=some v;simp
def tP (b:Expr):Prop:=∀o i,subscripted b false o i=operate [o,i] (getItem o i)
def IxR (X:Cx) (r:R2):Prop :=
 ∀(value slice:Expr) (pins:List (Addr×Obj)) (s:Shared) (σ:St) (H:Hp) (x y:V) (v u:Value) (Q:VK),Inv X pins σ H s→RelV x v→RelV y u→r x y H Q→
  subscripted slice false v u=operate [v,u] (getItem v u)→wpAny (model X.prog X.w) X.A (subscriptTail value slice v u) (EP X pins σ Q) X.xe s
def wJ (X:Cx) (id:String) (r:V→List V→Hp→VK→Prop):Prop :=
 ∀(pins:List (Addr×Obj)) (s:Shared) (σ:St) (H:Hp) (x:V) (xs:List V) (v:Value) (us:List Value) (Q:VK),Inv X pins σ H s→RelV x v→Vals xs us→r x xs H Q→
  wpAny (model X.prog X.w) X.A (call (.builtin id) (v::us)) (EP X pins σ Q) X.xe s
section
variable {X:Cx} {a b:Expr} {ta tb:TE} {pos:Pos}
theorem IxR.or {r r':R2} (h:IxR X r) (h':IxR X r'):IxR X (fun x y H Q=>r x y H Q∨r' x y H Q):=by
 intro value slice pins s σ H x y v u Q I rx ry q hs
 rcases q with q|q
 ·exact h value slice pins s σ H x y v u Q I rx ry q hs
 ·exact h' value slice pins s σ H x y v u Q I rx ry q hs
theorem wN {r:R2} (hr:IxR X r) (ha:PE X a ta) (hb:PE X b tb) (hs:tP b):PE X (.Subscript a b pos) (QZ r ta tb):=by
 intro pins s σ H Q I h;exact Subscript_ (nI ha hb I h fun v u s2 x y H2 I2 rx ry q=>hr a b pins s2 σ H2 x y v u Q I2 rx ry q (hs _ _))
def eY (K:PySem.W.Frag):R2:=fun x y H Q=>∃p xs i v,x=.ref p∧y=.int i∧SqL K H p xs∧qU xs i=some v∧Q v H
def nE (K:PySem.W.Frag):R2:=fun x y H Q=>∃p xs i v,x=.ref p∧y=.int i∧SqT K H p xs∧qU xs i=some v∧Q v H
def uY:R2:=fun x y H Q=>∃z i c,x=.str z∧y=.int i∧z.length≤sizeLine∧qU z.cps.toList i=some c∧Q (.str ⟨#[c]⟩) H
theorem oE:IxR X (eY X.K):=by
 intro value slice pins s σ H x y v u Q I rx ry h hs;obtain ⟨p,xs,i,z,rfl,rfl,hq,he,q⟩:=h;cases rx;obtain ⟨t,rfl⟩:=ry;obtain ⟨its,r,pl,hz⟩:=I.list hq;obtain ⟨j,h1,h2,h3,h4,h5⟩:=dX he;obtain ⟨w,ew,rw'⟩:=r.get h2;have hl:=r.length;have hn:=QQ;have fin:EP X pins σ Q w s:=⟨z,H,I,rw',q⟩
 by_cases h0:0≤i
 ·have hj:i.toNat=j:=by
   rw [seqIndex_of h0 h5] at h1;exact az h1
  exact item_listR pl.isList h0 (by omega) (by rw [hj];simpa using ew) fin hs
 ·have hj:(i+(its.toArray.size:Int)).toNat=j:=by
   rw [seqIndex_neg (by omega) h4] at h1;rw [ae,← hl];exact az h1
  exact subscriptTail_builtinR (x:=w) pl.isList.typeIs slot_list_getitem.lookup
   (wpAny_getItem_list_neg (Q:=fun r s'=>r=w∧EP X pins σ Q r s') pl.isList (by omega) (by rw [ae]<;>omega) (by omega) (by rw [hj];simpa using ew) ⟨rfl,fin⟩) hs
theorem ix_tup:IxR X (nE X.K):=by
 intro value slice pins s σ H x y v u Q I rx ry h hs;obtain ⟨p,xs,i,z,rfl,rfl,hq,he,q⟩:=h;cases rx;obtain ⟨t,rfl⟩:=ry;obtain ⟨its,r,pl,hz⟩:=I.tuple hq;obtain ⟨j,h1,h2,h3,h4,h5⟩:=dX he;obtain ⟨w,ew,rw'⟩:=r.get h2;have hl:=r.length;have hn:=QQ;have fin:EP X pins σ Q w s:=⟨z,H,I,rw',q⟩;exact subscriptTail_builtinR (x:=w) pl.typeIs slot_tuple_getitem.lookup
  (getItem_tuple (j:=j) (Q:=fun r s'=>r=w∧EP X pins σ Q r s') pl (by omega) (by omega) (by rw [ae,← hl];exact h1) (by simpa using ew) ⟨rfl,fin⟩) hs
theorem mL:IxR X uY:=by
 intro value slice pins s σ H x y v u Q I rx ry h hs;obtain ⟨z,i,c,rfl,rfl,hz,he,q⟩:=h;obtain ⟨t,rfl⟩:=rx;obtain ⟨t',rfl⟩:=ry;obtain ⟨j,h1,h2,h3,h4,h5⟩:=dX he;have hl:z.cps.toList.length=z.length:=by simp [Str.length]
 rw [hl] at h1 h4 h5;have hn:=QQ;exact tail_any (typeIs_str s z t) slot_str_getitem.lookup (getItem_str (c:=c) (by
  have e1:decide (i < -(2 ^ 63:Int))=false:=aK (by omega);have e2:decide (i≥2 ^ 63)=false:=aK (by omega);rw [e1,e2,Bool.or_false]) (by rw [h1];simpa using h2) ⟨.str ⟨#[c]⟩,H,I.tok _,⟨_,rfl⟩,q⟩) hs
def nR (K:PySem.W.Frag):R2:=fun x y H Q=>eY K x y H Q∨nE K x y H Q∨uY x y H Q
theorem HG:IxR X (nR X.K):=oE.or (ix_tup.or mL)
theorem C6 (its:List Value) (n j:Nat) (u:Value):Obj.mapSeq (·.setIfInBounds j u) {cls:=.type "list",data:=.seq its.toArray n}={cls:=.type "list",data:=.seq (its.set j u).toArray n}:=by
 simp [Obj.mapSeq]
theorem Inv.lst {pins:List (Addr×Obj)} {σ:St} {H:Hp} {s:Shared} {p:Addr} {xs:List V} (I:Inv X pins σ H s) (h:H p=some (.lst xs)) :
  ∃(its:List Value) (n:Nat),Vals xs its∧s.heap.get? p=some {cls:=.type "list",data:=.seq its.toArray n}∧xs.length≤sizeLine:=by
 obtain ⟨z,its,n,r,e⟩:=I.hok p _ h;exact ⟨its,n,r,e,z⟩
theorem Inv.lstUpd {pins:List (Addr×Obj)} {σ:St} {H:Hp} {s:Shared} {p:Addr} {xs ys:List V} {its its':List Value} {n n':Nat} {f:Obj→Obj} (I:Inv X pins σ H s) (h:H p=some (.lst xs))
  (ho:s.heap.get? p=some {cls:=.type "list",data:=.seq its.toArray n}) (hf:f {cls:=.type "list",data:=.seq its.toArray n}={cls:=.type "list",data:=.seq its'.toArray n'}) (r:Vals ys its') (hz:ys.length≤sizeLine) (t:Nat) :
  Inv X pins σ (upd H p (.lst ys)) {s with heap:=s.heap.update p f,toks:=t}:=by
 have e:(s.heap.update p f).get? p=some {cls:=.type "list",data:=.seq its'.toArray n'}:=by
  rw [ft f ho (by rw [hf]<;>rfl),hf]
 refine I.write (x:=p) (e:=p) (by rw [h];trivial) (.inl rfl) (fun b u hb q=>(dq _ _ (Ne.symm hb)).trans q) ⟨_,e⟩ ?_;exact ⟨hz,its',n',r,e⟩
def HU:V→V→V→Hp→(Hp→Prop)→Prop:=fun o i v H Q=>∃p xs k j,o=.ref p∧i=.int k∧H p=some (.lst xs)∧yU xs.length k=some j∧Q (upd H p (.lst (xs.set j v)))
theorem ZE:nK X HU:=by
 intro pins s σ H o i v ov iv u Q I ro ri rv h;obtain ⟨p,xs,k,j,rfl,rfl,hp,hj,q⟩:=h;cases ro;obtain ⟨t,rfl⟩:=ri;obtain ⟨its,n,r,ho,hz⟩:=I.lst hp;obtain ⟨h1,h2,h3,h4⟩:=tG hj;have hl:=r.length;have hn:=QQ;have I':Inv X pins σ (upd H p (.lst (xs.set j v))) {s with heap:=s.heap.update p (Obj.mapSeq (·.setIfInBounds j u))} :=
  I.lstUpd hp ho (C6 its n j u) (r.set rv j) (by rw [aW];exact hz) s.toks
 by_cases h0:0≤k
 ·have hk:k.toNat=j:=by
   rw [seqIndex_of h0 h4] at h1;exact az h1
  exact PySem.W.ki_setAt ho h0 (by omega) (by rw [ae,← hl];exact h4) (by rw [hk];exact ⟨_,I',q⟩)
 ·have hk:(k+(its.toArray.size:Int)).toNat=j:=by
   rw [seqIndex_neg (by omega) h3] at h1;rw [ae,← hl];exact az h1
  exact PySem.W.ki_setBack ho (by omega) (by rw [ae,← hl];exact h3) (by omega) (by rw [hk];exact ⟨_,I',q⟩)
theorem CF (lo hi:Option Int) (n:Nat):(sliceBounds lo hi none n).1=((HT.sIx n 0 lo:Nat):Int)∧(sliceBounds lo hi none n).2.1=((HT.sIx n n hi:Nat):Int)∧(sliceBounds lo hi none n).2.2=1:=by
 refine ⟨?_,?_,rfl⟩
 ·cases lo with
  |none=>simp [sliceBounds,HT.sIx]
  |some i =>
   simp only [sliceBounds,HT.sIx,Option.getD_none,show (1:Int)>0 by decide,if_true]
   by_cases h:i<0
   ·simp only [h,if_true]<;>omega
   ·simp only [h,if_false]<;>omega
 ·cases hi with
  |none=>simp [sliceBounds,HT.sIx]
  |some i =>
   simp only [sliceBounds,HT.sIx,Option.getD_none,show (1:Int)>0 by decide,if_true]
   by_cases h:i<0
   ·simp only [h,if_true]<;>omega
   ·simp only [h,if_false]<;>omega
theorem B9 (its:List Value) (lo hi:Option Int):slicePick its.toArray lo hi none=((its.drop (HT.sIx its.length 0 lo)).take (HT.sIx its.length its.length hi - HT.sIx its.length 0 lo)).toArray:=by
 obtain ⟨h1,h2,h3⟩:=CF lo hi its.toArray.size;unfold slicePick;rw [h1,h2,h3];simp only [sliceRange_one,pick_run,ae]<;>rfl
def uX (K:PySem.W.Frag):V→Option Int→Option Int→Hp→VK→Prop:=fun x lo hi H Q=>∃a xs,x=.ref a∧SqL K H a xs∧∀p,H p=none→Q (.ref p) (upd H p (.lst (ZW xs lo hi)))
theorem FH:nY X (uX X.K):=by
 intro pins s σ H x v vl vu lo hi sl Q I rx hs pl pu h;obtain ⟨a,xs,rfl,hx,q⟩:=h;cases rx;obtain ⟨its,r,ht,hz⟩:=I.list hx;have hlen:=r.length;refine ⟨"list",_,slot_list_getitem.lookup,ht.isList.typeIs,?_⟩;refine wpAny_getItem_list_slice ht.isList hs pl pu .none (by simp) ?_ (by rw [ae]<;>omega);rw [B9,← hlen];refine ⟨.ref s.heap.objs.size,_,I.laid (t':=s.toks) (o:=.lst (ZW xs lo hi)) (fun b ob q=>ao _ q) (ai _) ?_,rfl,q _ (I.hok.fresh (ai _))⟩;exact ⟨aR (CO xs lo hi) hz,_,0,(r.drop (HT.sIx xs.length 0 lo)).take (HT.sIx xs.length xs.length hi - HT.sIx xs.length 0 lo),ay _ rfl⟩
def qG:V→Bool
 |.non=>true
 |.bl _=>true
 |.int _=>true
 |.str _=>true
 |_=>false
def qA:V→V→Bool
 |.non,.non=>true
 |.bl a,.bl b=>a == b
 |.bl a,.int b=>(if a then 1 else 0) == b
 |.int a,.bl b=>a == (if b then 1 else 0)
 |.int a,.int b=>a == b
 |.str a,.str b=>a == b
 |_,_=>false
theorem JR {A:Around} {s:Shared} {y x:V} {u v:Value} (ry:RelV y u) (rx:RelV x v) (fy:qG y=true) (fx:qG x=true):SeqAt.EqAt A s u v (qA y x):=by
 cases y with
 |non =>
  cases ry;cases x with
  |non=>cases rx;exact gj _
  |bl b=>cases rx;exact SeqAt.EqAt.none_bool b
  |int b=>obtain ⟨t,rfl⟩:=rx;exact SeqAt.EqAt.none_int b t
  |str b=>obtain ⟨t,rfl⟩:=rx;exact SeqAt.EqAt.none_str b t
  |_=>exact absurd (show false=true from fx) au
 |bl a =>
  cases ry;cases x with
  |non=>cases rx;exact SeqAt.EqAt.bool_none a
  |bl b=>cases rx;exact SeqAt.EqAt.bool_bool a b
  |int b=>obtain ⟨t,rfl⟩:=rx;exact SeqAt.EqAt.bool_int a b t
  |str b=>obtain ⟨t,rfl⟩:=rx;exact SeqAt.EqAt.bool_str a b t
  |_=>exact absurd (show false=true from fx) au
 |int a =>
  obtain ⟨t',rfl⟩:=ry;cases x with
  |non=>cases rx;exact SeqAt.EqAt.int_none a t'
  |bl b=>cases rx;exact SeqAt.EqAt.int_bool a t' b
  |int b=>obtain ⟨t,rfl⟩:=rx;exact SeqAt.EqAt.int_int a t' b t
  |str b=>obtain ⟨t,rfl⟩:=rx;exact SeqAt.EqAt.int_str a t' b t
  |_=>exact absurd (show false=true from fx) au
 |str a =>
  obtain ⟨t',rfl⟩:=ry;cases x with
  |non=>cases rx;exact SeqAt.EqAt.str_none a t'
  |bl b=>cases rx;exact SeqAt.EqAt.str_bool a t' b
  |int b=>obtain ⟨t,rfl⟩:=rx;exact SeqAt.EqAt.str_int a t' b t
  |str b=>obtain ⟨t,rfl⟩:=rx;exact SeqAt.EqAt.str_str a t' b t
  |_=>exact absurd (show false=true from fx) au
 |_=>exact absurd (show false=true from fy) au
def vI (x:V) (u:Value):Bool:=match u with
 |.none=>qA .non x
 |.bool b=>qA (.bl b) x
 |.int i _=>qA (.int i) x
 |.str z _=>qA (.str z) x
 |_=>false
theorem eE {x y:V} {u:Value} (r:RelV y u) (f:qG y=true):vI x u=qA y x:=by
 cases y with
 |non=>cases r;rfl
 |bl b=>cases r;rfl
 |int i=>obtain ⟨t,rfl⟩:=r;rfl
 |str z=>obtain ⟨t,rfl⟩:=r;rfl
 |_=>exact absurd (show false=true from f) au
theorem bH {x:V}:∀{xs:List V} {us:List Value},Vals xs us→xs.all qG=true→us.any (vI x)=xs.any fun y=>qA y x
 |_,_,.nil,_=>rfl
 |y::xs,u::us,.cons r t,f=>by
  rw [List.all_cons,cv] at f;rw [List.any_cons,List.any_cons,eE r f.1,bH t f.2]
theorem QI {A:Around} {s:Shared} {x:V} {v:Value} (rx:RelV x v) (fx:qG x=true):∀{xs:List V} {us:List Value},Vals xs us→xs.all qG=true→∀u∈us,SeqAt.EqAt A s u v (vI x u)
 |_,_,.nil,_=>fun u hu=>by cases hu
 |y::xs,u::us,.cons r t,f=>fun u' hu=>by
  rw [List.all_cons,cv] at f
  rcases am.mp hu with rfl|hu
  ·rw [eE r f.1];exact JR r rx f.1 fx
  ·exact QI rx fx t f.2 u' hu
def zC (x:V) (xs:List V):Bool:=xs.any fun y=>qA y x
def fE (K:PySem.W.Frag) (neg:Bool):R2:=fun x y H Q=>∃p xs,y=.ref p∧(SqL K H p xs∨SqT K H p xs)∧qG x=true∧xs.all qG=true∧Q (.bl (if neg then !zC x xs else zC x xs)) H
theorem DS:kM X (compareOp .In) (fE X.K false):=by
 intro pins s σ H x y v u Q I rx ry h;obtain ⟨p,xs,rfl,hq,fx,fs,q⟩:=h;cases ry
 rcases hq with hq|hq
 ·obtain ⟨its,r,pl,hz⟩:=I.list hq;refine SeqAt.in_listAt (vI x) pl.isList (fun w hw=>QI rx fx r fs w (by simpa using hw)) ⟨.bl _,H,I,rfl,?_⟩;rw [show its.toArray.any (vI x)=its.any (vI x) by simp,bH r fs];exact q
 ·obtain ⟨its,r,pl,hz⟩:=I.tuple hq;refine SeqAt.in_tupleAt (vI x) pl (fun w hw=>QI rx fx r fs w (by simpa using hw)) ⟨.bl _,H,I,rfl,?_⟩;rw [show its.toArray.any (vI x)=its.any (vI x) by simp,bH r fs];exact q
theorem CI:kM X (compareOp .NotIn) (fE X.K true):=by
 intro pins s σ H x y v u Q I rx ry h;obtain ⟨p,xs,rfl,hq,fx,fs,q⟩:=h;cases ry
 rcases hq with hq|hq
 ·obtain ⟨its,r,pl,hz⟩:=I.list hq;refine SeqAt.notIn_listAt (vI x) pl.isList (fun w hw=>QI rx fx r fs w (by simpa using hw)) ⟨.bl _,H,I,rfl,?_⟩;rw [show its.toArray.any (vI x)=its.any (vI x) by simp,bH r fs];exact q
 ·obtain ⟨its,r,pl,hz⟩:=I.tuple hq;refine SeqAt.notIn_tupleAt (vI x) pl (fun w hw=>QI rx fx r fs w (by simpa using hw)) ⟨.bl _,H,I,rfl,?_⟩;rw [show its.toArray.any (vI x)=its.any (vI x) by simp,bH r fs];exact q
theorem wS:yA X (.builtin "len") (fun xs H Q=>∃p ys,xs=[.ref p]∧(SqL X.K H p ys∨SqT X.K H p ys)∧Q (.int ys.length) H):=by
 intro pins s σ H xs us Q I r h;obtain ⟨p,ys,rfl,hq,q⟩:=h;obtain ⟨u,rfl,rx⟩:=JS r;cases rx;have hn:=QQ
 rcases hq with hq|hq
 ·obtain ⟨its,r',pl,hz⟩:=I.list hq;have hlen:=r'.length;exact Calls.call_len_list pl.isList (by simp only [ae]<;>omega) ⟨.int ys.length,H,I.tok _,⟨s.toks+1,by rw [ae,hlen]⟩,q⟩
 ·obtain ⟨its,r',pl,hz⟩:=I.tuple hq;have hlen:=r'.length;exact len_tuple pl (by simp only [ae]<;>omega) ⟨.int ys.length,H,I.tok _,⟨s.toks+1,by rw [ae,hlen]⟩,q⟩
theorem oY:yA X (.builtin "len") (fun xs H Q=>∃z,xs=[.str z]∧z.length≤sizeLine∧Q (.int z.length) H):=by
 intro pins s σ H xs us Q I r h;obtain ⟨z,rfl,hz,q⟩:=h;obtain ⟨u,rfl,t,rfl⟩:=JS r;have hn:=QQ;exact len_str (by omega) ⟨.int z.length,H,I.tok _,⟨_,rfl⟩,q⟩
theorem CJ:yA X (.type "list") (fun xs H Q=>∃p ys,xs=[.ref p]∧(SqL X.K H p ys∨SqT X.K H p ys)∧∀l,H l=none→Q (.ref l) (upd H l (.lst ys))):=by
 intro pins s σ H xs us Q I r h;obtain ⟨p,ys,rfl,hq,q⟩:=h;obtain ⟨u,rfl,rx⟩:=JS r;cases rx;have fin:∀(its:List Value),Vals ys its→ys.length≤sizeLine→∀(h':Heap) (c':Nat),(∀b o',s.heap.get? b=some o'→h'.get? b=some o')→
   h'.get? s.heap.objs.size=some {cls:=.type "list",dict:=none,data:=.seq its.toArray c',slots := #[]}→EP X pins σ Q (.ref s.heap.objs.size) {s with heap:=h'}:=fun its r' hz h' c' kp e =>
  ⟨.ref s.heap.objs.size,_,I.laid (t':=s.toks) kp (ai _) (show ObjOk X.prog X.w _ h' _ (.lst ys) from ⟨hz,its,c',r',e⟩),rfl,q _ (I.hok.fresh (ai _))⟩
 rcases hq with hq|hq
 ·obtain ⟨its,r',pl,hz⟩:=I.list hq;have hlen:=r'.length;obtain ⟨o,ho,hc,n,hd⟩:=pl.isList;exact call_list_seq p (.inl rfl) ho hc hd (fun h' c' kp e=>fin its r' hz h' c' kp e) (by simp only [ae]<;>omega)
 ·obtain ⟨its,r',pl,hz⟩:=I.tuple hq;have hlen:=r'.length;obtain ⟨o,ho,hc,n,hd⟩:=pl;exact call_list_seq p (.inr rfl) ho hc hd (fun h' c' kp e=>fin its r' hz h' c' kp e) (by simp only [ae]<;>omega)
theorem CA:yA X (.type "tuple") (fun xs H Q=>∃p ys,xs=[.ref p]∧((SqL X.K H p ys∧∀l,H l=none→Q (.ref l) (upd H l (.tup ys)))∨(SqT X.K H p ys∧Q (.ref p) H))):=by
 intro pins s σ H xs us Q I r h;obtain ⟨p,ys,rfl,h⟩:=h;obtain ⟨u,rfl,rx⟩:=JS r;cases rx
 rcases h with ⟨hq,q⟩|⟨hq,q⟩
 ·obtain ⟨its,r',pl,hz⟩:=I.list hq;have hlen:=r'.length;refine call_tuple_list pl.isList (fun h' kp=>?_) (by simp only [ae]<;>omega);have I1:Inv X pins σ H {s with heap:=h'}:=I.kept (t':=s.toks) kp;have I2:Inv X pins σ (upd H h'.objs.size (.tup ys)) {s with heap:=h'.push {cls:=.type "tuple",data:=.seq its.toArray}} :=
   I1.laid (t':=s.toks) (fun b o e=>ao _ e) (ai _) (show ObjOk X.prog X.w _ _ _ (.tup ys) from ⟨hz,its,r',IsTup.new _ _⟩)
  exact ⟨.ref h'.objs.size,_,I2,rfl,q _ (I1.hok.fresh (ai _))⟩
 ·obtain ⟨its,r',pl,hz⟩:=I.tuple hq;exact call_tuple_same pl ⟨.ref p,H,I,rfl,q⟩
def wF (K:PySem.W.Frag) (T:String) (x:V) (H:Hp):Prop:=match x with
 |.str _=>T="str"
 |.int _=>T="int"
 |.ref p=>(T="list"∧∃xs,SqL K H p xs)∨(T="tuple"∧∃o,K.lookup p=some o∧o.cls=.type "tuple"∧o.dict=none)∨
   (T="dict"∧((∃kvs,H p=some (.dK kvs))∨∃kvs,H p=some (.dT kvs)))∨(T="set"∧∃S n,H p=some (.set S n))
 |_=>False
theorem GT {pins:List (Addr×Obj)} {σ:St} {H:Hp} {s:Shared} {T:String} {x:V} {v:Value} (I:Inv X pins σ H s) (r:RelV x v) (ty:wF X.K T x H) :
  s.TypeIs v T∧∀a,v=.ref a→∃ob,s.heap.get? a=some ob∧ob.dict=none:=by
 cases x with
 |str z =>
  obtain ⟨t,rfl⟩:=r;cases (show T="str" from ty);exact ⟨typeIs_str s z t,fun _ e=>nomatch e⟩
 |int i =>
  obtain ⟨t,rfl⟩:=r;cases (show T="int" from ty);exact ⟨typeIs_int s i t,fun _ e=>nomatch e⟩
 |ref p =>
  cases r
  rcases ty with ⟨rfl,xs,hq⟩|⟨rfl,o,hk,hc,hd⟩|⟨rfl,hk⟩|⟨rfl,S,n,hk⟩
  ·obtain ⟨its,_,pl,_⟩:=I.list hq;refine ⟨pl.isList.typeIs,fun a e=>?_⟩;cases e;obtain ⟨o,n,e,c,hd,_⟩:=pl;exact ⟨o,e,hd⟩
  ·refine ⟨⟨o,I.kIn p o hk,hc⟩,fun a e=>?_⟩;cases e;exact ⟨o,I.kIn _ o hk,hd⟩
  ·have z:∃o,s.heap.get? p=some o∧o.ExactDict:=by
    rcases hk with ⟨kvs,hk⟩|⟨kvs,hk⟩
    ·obtain ⟨_,_,_,_,o,_,_,e,ex,_⟩:=I.hok p _ hk;exact ⟨o,e,ex⟩
    ·obtain ⟨_,_,_,_,o,_,_,e,ex,_⟩:=I.hok p _ hk;exact ⟨o,e,ex⟩
   obtain ⟨o,e,ex⟩:=z;refine ⟨⟨o,e,ex.1⟩,fun a e2=>?_⟩;cases e2;exact ⟨o,e,ex.2.1⟩
  ·obtain ⟨o,_,_,_,e,ex,_⟩:=I.hok p _ hk;refine ⟨⟨o,e,ex.1⟩,fun a e2=>?_⟩;cases e2;exact ⟨o,e,ex.2.1⟩
 |_=>exact False.elim ty
def LB (K:PySem.W.Frag) (T:String) (r:V→List V→Hp→VK→Prop) (to:TE) (t:TA):TE:=fun σ H Q=>to σ H fun x H1=>wF K T x H1∧t σ H1 fun xs H2=>r x xs H2 Q
variable {o e:Expr} {es:List Expr} {to:TE} {t:TA} {name:Str} {apos cpos:Pos} {T id:String} {r:V→List V→Hp→VK→Prop}
theorem qP (pa:PlainAttrs T) (slot:Slot T name id) (hty:typeOf (.builtin id)=pure (.type "method_descriptor")) (hm:wJ X id r) (ho:PE X o to) (ha:PA X (e::es) t)
  (hbase:attributeBase o name X.env (eval o X.env)=eval o X.env:=by rfl)
  (hfew:((backTo cpos (starEach (e::es) X.env)).all (fun x => !x.1)&&(backToKw cpos (keywordEach [] X.env)).all (fun x=>x.1.isSome)
   && decide ((e::es).length+([]:List Keyword).length+(if ([]:List Keyword).isEmpty then 0 else 1)<30))=true:=by rfl)
  (hline:(apos.endLine == cpos.line)=true:=by rfl) (hs:starEach (e::es) X.env=(false,eval e X.env)::starEach es X.env:=by rfl) (hplain:(backTo cpos (starEach es X.env)).any (·.1)=false:=by rfl) :
  PE X (.Call (.Attribute o name apos) (e::es) [] cpos) (LB X.K T r to t):=by
 intro pins s σ H Q I h;refine wpAny_Call_method_late hbase hfew hline rfl (jN (ho pins s σ H _ I h) fun v s1 ⟨x,H1,I1,r1,ty,q1⟩=>?_);obtain ⟨h1,h2⟩:=GT I1 r1 ty;refine ⟨T,id,pa,slot,hty,h1,h2,?_⟩;have hA:=ha cpos pins s1 σ H1 _ I1 q1;rw [hs] at hA ⊢;refine Calls.callWith_builtin (by show (false||(backTo cpos (starEach es X.env)).any (·.1))=false;rw [hplain]<;>rfl) (Calls.evalArgs_plain ?_);exact jN hA fun us s2 ⟨vs,H2,I2,r2,q2⟩=>hm pins s2 σ H2 x vs v us Q I2 r1 r2 q2
/- xs.append(e),list.index on a module's tuple .. are wJ facts of 06m -/
end
end L2
namespace L2
open PySem PySem.Spec PyProof.Rows
def fK (X:Cx) (id:String) (r:V→List V→Hp→VK→Prop):Prop :=
 ∀(pins:List (Addr×Obj)) (s:Shared) (σ:St) (H:Hp) (x:V) (xs:List V) (v:Value) (us:List Value) (Q:VK),Inv X pins σ H s→RelV x v→Vals xs us→r x xs H Q→
  wpAny (model X.prog X.w) X.A (call (.builtin id) (v::us)) (EP X pins σ Q) X.xe s
theorem Vals.one:∀{x:V} {us:List Value},Vals [x] us→∃u,us=[u]∧RelV x u
 |_,_,.cons r .nil=>⟨_,rfl,r⟩
theorem Vals.rep {xs:List V} {us:List Value} (h:Vals xs us):∀k:Nat,Vals (List.replicate k xs).flatten (List.replicate k us).flatten
 |0=>.nil
 |k+1=>by
  rw [aT,aT,dg,dg];exact Vals.append h (Vals.rep h k)
theorem rA (its:List Value):∀(k:Nat) (acc:List Value),
  List.foldl (fun x1 x2=>x1++x2) acc.toArray (List.replicate k its.toArray)=(acc++(List.replicate k its).flatten).toArray
 |0,acc=>by simp
 |k+1,acc=>by
  have e:acc.toArray++its.toArray=(acc++its).toArray:=by simp
  have e2:(acc++its)++(List.replicate k its).flatten=acc++(List.replicate (k+1) its).flatten:=by
   rw [aT,dg,List.append_assoc]
  rw [← e2,← rA its k (acc++its),← e,aT,List.foldl_cons]
section
variable {X:Cx} {pins:List (Addr×Obj)} {σ:St} {H:Hp} {s:Shared} {l b:Addr} {xs ys zs:List V}
theorem Inv.lset {its its':List Value} {n:Nat} {f:Array Value→Array Value} {t':Nat} (I:Inv X pins σ H s) (hH:H l=some (.lst xs))
  (e:s.heap.get? l=some {cls:=.type "list",data:=.seq its.toArray n}) (hf:f its.toArray=its'.toArray) (hv:Vals ys its') (hz:ys.length≤sizeLine) :
  Inv X pins σ (upd H l (.lst ys)) {s with heap:=s.heap.update l (Obj.mapSeq f),toks:=t'}:=by
 have q:=PySem.IsL.update e f;rw [hf] at q;refine I.write (x:=l) (e:=l) (by rw [hH];exact trivial) (.inl rfl) (fun b' u hb hu=>(dq s.heap (Obj.mapSeq f) (Ne.symm hb)).trans hu) ⟨_,q⟩ ?_;exact ⟨hz,its',_,hv,q⟩
theorem Inv.lnew {its:List Value} {t':Nat} (I:Inv X pins σ H s) (hv:Vals ys its) (hz:ys.length≤sizeLine) :
  Inv X pins σ (upd H s.heap.objs.size (.lst ys)) {s with heap:=s.heap.push {cls:=.type "list",data:=.seq its.toArray},toks:=t'} :=
 I.laid (fun _ _ q=>ao _ q) (ai _) ⟨hz,its,0,hv,ay _ rfl⟩
theorem Inv.fresh (I:Inv X pins σ H s):H s.heap.objs.size=none:=I.hok.fresh (ai _)
theorem Inv.lstM (I:Inv X pins σ H s) (hH:H l=some (.lst xs)):xs.length≤sizeLine∧∃(its:List Value) (n:Nat),Vals xs its∧xs.length=its.length∧s.heap.get? l=some {cls:=.type "list",data:=.seq its.toArray n}:=by
 obtain ⟨z,its,n,r,e⟩:=I.hok l _ hH;exact ⟨z,its,n,r,r.length,e⟩
theorem rZ {n:Nat} (h:n≤sizeLine):Builtin.List.listTooLong n=false:=by
 unfold Builtin.List.listTooLong;exact aK (by omega)
end
section
variable {X:Cx}
def FL:V→List V→Hp→VK→Prop:=fun x vs H Q=>∃l xs y,x=.ref l∧vs=[y]∧H l=some (.lst xs)∧xs.length<sizeLine∧Q .non (upd H l (.lst (xs++[y])))
theorem vC:fK X "list.append" FL:=by
 intro pins s σ H x vs v us Q I rx rv h;obtain ⟨l,xs,y,rfl,rfl,hH,hz,q⟩:=h;cases rx;obtain ⟨u,rfl,ru⟩:=rv.one;obtain ⟨z,its,n,r,hl,e⟩:=I.lstM hH;refine eh F.slot_list_append ⟨_,e,rfl⟩ F.entry_list_append (F.args_list_append_2 _ _) (PySem.list_append l its.toArray n u (by rw [ae];omega)) ⟨e,?_⟩;refine ⟨.non,_,I.lset (its':=its++[u]) hH e (by simp) (r.append (.cons ru .nil)) ?_,rfl,q⟩;rw [aj,bf];omega
def FK:V→List V→Hp→VK→Prop:=fun x vs H Q=>∃l b xs zs,x=.ref l∧vs=[.ref b]∧H l=some (.lst xs)∧H b=some (.lst zs)∧xs.length+zs.length≤sizeLine∧Q .non (upd H l (.lst (xs++zs)))
theorem pX:fK X "list.extend" FK:=by
 intro pins s σ H x vs v us Q I rx rv h;obtain ⟨l,b,xs,zs,rfl,rfl,hH,hB,hz,q⟩:=h;cases rx;obtain ⟨u,rfl,ru⟩:=rv.one;cases ru;obtain ⟨z,its,n,r,hl,e⟩:=I.lstM hH;obtain ⟨z2,its2,n2,r2,hl2,e2⟩:=I.lstM hB;have hsz:its.toArray.size+its2.toArray.size≤sizeLine:=by rw [ae,ae];omega
 have hlong:¬(!its.toArray.isEmpty&&Builtin.List.listTooLong (its.toArray.size+its2.toArray.size))=true:=by
  rw [rZ hsz,Bool.and_false];exact au
 refine eh F.slot_list_extend ⟨_,e,rfl⟩ F.entry_list_extend (F.args_list_extend_2 _ _)
  (AutoSeq1.list_extend_list_list_0 l its.toArray n b its2.toArray n2 hlong (by rw [ae];omega) (by omega)) ⟨e,e2,?_⟩
 refine ⟨.non,_,I.lset (its':=its++its2) hH e (by simp) (r.append r2) ?_,rfl,q⟩;rw [aj];omega
def KL:R2:=fun x y H Q=>∃l b xs zs,x=.ref l∧y=.ref b∧H l=some (.lst xs)∧H b=some (.lst zs)∧xs.length+zs.length≤sizeLine∧∀p,H p=none→Q (.ref p) (upd H p (.lst (xs++zs)))
theorem t9:kM X (binaryOp .Add) KL:=by
 intro pins s σ H x y v u Q I rx ry h;obtain ⟨l,b,xs,zs,rfl,rfl,hH,hB,hz,q⟩:=h;cases rx;cases ry;obtain ⟨z,its,n,r,hl,e⟩:=I.lstM hH;obtain ⟨z2,its2,n2,r2,hl2,e2⟩:=I.lstM hB;refine PySem.P.add_list e e2 ?_ (by rw [ae,ae];omega);have ea:its.toArray++its2.toArray=(its++its2).toArray:=by simp
 rw [ea];exact ⟨.ref _,_,I.lnew (t':=s.toks) (r.append r2) (by rw [aj];omega),rfl,q _ I.fresh⟩
def KG:R2:=fun x y H Q=>∃l k xs,x=.ref l∧y=.int k∧H l=some (.lst xs)∧-(2 ^ 63)≤k∧k<2 ^ 63∧xs.length*k.toNat≤sizeLine∧
 ∀p,H p=none→Q (.ref p) (upd H p (.lst (List.replicate k.toNat xs).flatten))
theorem tE {α:Type} (xs:List α) (k:Nat):(List.replicate k xs).flatten.length=k*xs.length:=by
 induction k with
 |zero=>simp
 |succ k ih=>rw [aT,dg,aj,ih,Nat.succ_mul,Nat.add_comm]
theorem t6:kM X (binaryOp .Mult) KG:=by
 intro pins s σ H x y v u Q I rx ry h;obtain ⟨l,k,xs,rfl,rfl,hH,h1,h2,hz,q⟩:=h;cases rx;obtain ⟨t,rfl⟩:=ry;obtain ⟨z,its,n,r,hl,e⟩:=I.lstM hH;have hlen:its.toArray.size*k.toNat≤sizeLine:=by rw [ae,← hl];exact hz
 have hcap:¬its.toArray.size*k.toNat>(2 ^ 63 - 1) / 8:=by
  have:(sizeLine:Nat)≤(2 ^ 63 - 1) / 8:=by decide
  omega
 have hfit:¬(!Builtin.List.listFitsIndex k)=true:=by
  rw [fitsIndex_both h1 h2];exact au
 have hlong:¬Builtin.List.listTooLong (its.toArray.size*k.toNat)=true:=by
  rw [rZ hlen];exact au
 have hnew:List.foldl (fun x1 x2=>x1++x2) #[] (List.replicate (if its.toArray.isEmpty=true then 0 else k.toNat) its.toArray)=(List.replicate k.toNat its).flatten.toArray:=by
  have f0:∀m:Nat,List.foldl (fun x1 x2=>x1++x2) #[] (List.replicate m its.toArray)=(List.replicate m its).flatten.toArray:=fun m=>by
   have:=rA its m [];rw [List.nil_append] at this;exact this
  rw [f0];cases its with
  |nil=>simp
  |cons a r'=>rw [if_neg (by simp)]
 refine wpAny_binaryOp_repeat_ref (T:="list") (U:="int") (by decide) ⟨_,e,rfl⟩ (fun s'=>typeIs_int s' k t) noFill_list_mul F.fills_int_mul gk repeat_list F.slot_int_index.lookup
  (eh gk (typeIs_int s k t) F.entry_int_rmul (F.args_int_rmul_2 _ _) (int___rmul___int_list k t l its.toArray n)
   ⟨e,rfl,⟨_,e,rfl⟩,eh F.slot_list_mul ⟨_,e,rfl⟩ F.entry_list_mul (F.args_list_mul_2 _ _) (AutoListH.list___mul___list_int_3 l its.toArray n k t hfit hcap hlong) ⟨e,?_⟩⟩)
 rw [hnew];exact ⟨.ref _,_,I.lnew (t':=s.toks) (r.rep k.toNat) (by rw [tE,Nat.mul_comm];exact hz),rfl,q _ I.fresh⟩
end
section
variable {prog:Program} {w:World} {A:Around} {E:Value→Shared→Prop} {s:Shared}
end
section
variable {X:Cx}
end
end L2
namespace Att
open PySem PySem.W PySem.Calls PyProof.Rows
theorem B7 {P:Params} {h:Heap}:∀(ns:List Int) (vs:List Value),WellAll P h vs (ns.map WData.int)→IntsAre vs ns:=by
 intro ns
 induction ns with
 |nil =>
  intro vs w;rw [List.map_nil] at w;cases w;exact .nil
 |cons n ns ih =>
  intro vs w;rw [List.map_cons] at w;cases w with
  |cons a b =>
   cases a;exact .cons _ _ (ih _ b)
theorem DP {l:OpenLaw} {n:Nat} (hn:l.most=some n) {P:Params} {h:Heap} {args:List WData} {vals:List Value}
  (hpre:l.row.toRowW.claim.pre args=true) (hwl:WellAll P h vals args) :
  ∃a vs ns,vals=[Value.ref a]∧args=[WData.list (ns.map WData.int)]∧h.get? a=some {cls:=.type "list",data:=.seq vs.toArray}∧IntsAre vs ns∧ns.length≤n:=by
 have hsh:WShape.hasAll [] args [.list .int]=true:=(pre_splitW hpre).1;have hc:l.pre.holds [] {args:=args}=true:=(pre_splitW hpre).2;obtain ⟨d,r,rfl,h1,h2⟩:=hasAllW_cons hsh;obtain rfl:=hasAllW_nil h2;obtain ⟨xs,rfl,h3⟩:=hasW_list h1;obtain ⟨ns,rfl⟩:=items_int h3;have hlen:ns.length≤n:=by
  unfold OpenLaw.pre at hc;have h4:(WTm.not (.lt (.lit (.int (n:Int))) (.len (.arg 0)))).holds [] {args:=[.list (ns.map .int)]}=true:=by
   have h4:=(holds_andW hc).1;rw [hn] at h4;exact h4
  have h5:=condW_of h4 (w_not (w_lt w_lit (w_len_list (w_arg rfl))));rw [List.length_map] at h5;refine Nat.le_of_not_lt fun q=>?_
  have q':(n:Int)<((ns.length:Nat):Int):=by omega
  first
   | (rw [decide_eq_true q'] at h5;exact absurd h5 (by decide))
   | (simp at h5;omega)
 cases hwl with
 |cons w1 w2 =>
  cases w2;cases w1 with
  |list ho hall=>exact ⟨_,_,ns,rfl,rfl,ho,B7 ns _ hall,hlen⟩
theorem DR (l:OpenLaw) (args:List WData):l.row.toRowW.claim.post args (.bool true) args=true :=
 postW_of (r:=l.row.toRowW) (X:=(true == true))
  (show WShape.has [] (.bool true) .bool=true by first|rfl|decide|simp [WShape.has,WShape.arms,WShape.armsAll])
  (show (WTm.eq .res (.lit (.bool true))).value [] {args:=args,res:=some (.bool true),after:=args}=some (.bool (true == true)) from w_eq_bool (w_res rfl) w_lit) rfl
theorem attach_call {l:OpenLaw} {n:Nat} {q:Program} {loose:List Str} {XP:(Str→Option Value)→Heap→Prop} {YP:World→Heap→Prop} {d:DefRec}
  (hn:l.most=some n) (hdf:d.params.defaults=[])
  (call:∀(w:World) (s₀ s₁:Shared) (mg mb:Str→Option Value) (fa:Addr) (o:Obj) (pm cd doc:Value) (a:Addr) (vs:List Value) (ns:List Int),
   Ground q loose [] XP w s₀ mg mb s₁.heap→YP w s₁.heap→
   s₁.heap.get? fa=some o→o.data=.func (docDef d.name d.params d.body d.scope pm cd doc)→s₁.heap.CodeRec cd d.name→mg d.name=some (.ref fa)→
   s₁.heap.get? a=some {cls:=.type "list",data:=.seq vs.toArray}→IntsAre vs ns→ns.length≤n→s₁.gens = #[]→
   codeAny (model l.prog w) callerA (.call (.ref fa) ⟨[.ref a],[]⟩) (fun r s'=>r=.ok (.ret (.bool true))∧OldK s₁.heap s'.heap∧s'.os=s₁.os∧AllBare s'.gens) s₁) :
  WalkO q loose XP YP l.row.toRowW d [] (fun f vs=>PySem.call f vs):=by
 intro w s₀ s₁ mg mb G Y fa o pm cd doc dV kV ho hd hcd hD hmg hg args vals as hpre hlay hrd hwl hlo;obtain rfl:dV=.none:=Dflts.none hD hdf;obtain rfl:kV=.none:=Dflts.noKw hD;obtain ⟨a,vs,ns,rfl,rfl,hobj,hints,hlen⟩:=DP hn hpre hwl;refine enter_call (codeAny_mono (call w s₀ s₁ mg mb fa o pm cd doc a vs ns G Y ho (fd_plain hd) hcd hmg hobj hints hlen hg) fun r s' hq=>?_);obtain ⟨rfl,h2,h3,h4⟩:=hq;exact ⟨.inl ⟨.bool true,.bool true,[],rfl,fun _=>rfl,.bool true,DR l _,fun _=>⟨List.Pairwise.nil,fun _ hm=>(nomatch hm)⟩⟩,h2,h3,h4⟩
section
variable {prog:Program} {w:World} {A:Around} {E:Value→Shared→Prop} {s:Shared} {K:Frag}
def ledger (h:Heap) (L d:Addr):List (Addr×Obj):=(List.range h.objs.size).filterMap fun a=>if a=L∨a=d then none else (h.get? a).map fun o=>(a,o)
end
end Att
namespace L2
open PySem PySem.Spec PyProof.Rows
theorem pN:∀{vs:List Value} {ns:List Int},IntsAre vs ns→Vals (ns.map V.int) vs
 |_,_,.nil=>.nil
 |_,_,.cons n t h=>.cons ⟨t,rfl⟩ (pN h)
def nL (H:Hp):Prop:=∀b,H b=none∨∃o xs,H b=some (.frz o (.lst xs))
theorem E2 {P:Program} {w:World} {K:PySem.W.Frag} {mg mb:Str→Option Value} {CX:vK} {k:Nat} {fa a:Addr} {fd:FuncData} {x:Str} {sp:Sp} {s₁:Shared} {vs:List Value} {ns:List Int}
  (KX:K.In s₁.heap) (hns:s₁.heap.Ns mainGlobals mg) (hb:s₁.heap.Ns builtinsNs mb) (hbb:∀x:Str,x≠"__name__"→mb x=bootBuiltins x) (hlim:s₁.heap.NoLimit) (hg:s₁.gens = #[])
  (ha:s₁.heap.get? a=some {cls:=.type "list",data:=.seq vs.toArray}) (hi:IntsAre vs ns) (hl:ns.length≤sizeLine) (hr:Room k callerA)
  (F:∀base:Heap,K.In base→base.Ns mainGlobals mg→FnOk P w K mg base CX k fa fd [x] sp) (hbind:∀(s:Shared) (u:Value),BindsTo s fd ⟨[u],[]⟩ [(x,u)])
  (hsp:∀H:Hp,nL H→SqL K H a (ns.map V.int)→sp [.ref a] H (fun v _=>v=.bl true) fun _ _ _=>False)
  (hCX:∀H e s',CX [] H s₁ (fun _ _ _=>False) e s'→False) :
  codeAny (model P w) callerA (.call (.ref fa) ⟨[.ref a],[]⟩) (fun r s'=>r=.ok (.ret (.bool true))∧OldK s₁.heap s'.heap∧s'.os=s₁.os∧AllBare s'.gens) s₁:=by
 have rv:=pN hi;have lenV:=hi.length;have core:∀H:Hp,nL H→SqL K H a (ns.map V.int)→HOk P w H s₁.heap→(∀b,H b≠none→b=a)→(H a≠none→K.lookup a=none)→
   codeAny (model P w) callerA (.call (.ref fa) ⟨[.ref a],[]⟩) (fun r s'=>r=.ok (.ret (.bool true))∧OldK s₁.heap s'.heap∧s'.os=s₁.os∧AllBare s'.gens) s₁:=by
  intro H hO hS hok hA hK;have base_of:∀{b:Addr} {o:Obj},s₁.heap.get? b=some o→H b=none→(JH s₁.heap H).get? b=some o:=fun e n=>E4 e n
  have noA:∀{b:Addr} {o:Obj} {es:Array DictEntry} {ep:Nat},s₁.heap.get? b=some o→o.data=.dict es ep→H b=none:=fun {b o es ep} e d=>by
   cases q:H b with
   |none=>rfl
   |some u =>
    have e':b=a:=hA b (by rw [q];simp);subst e';rw [ha] at e;cases e
    have d':Data.seq vs.toArray _=Data.dict es ep:=d;cases d'
  have nsK:∀{b:Addr} {m:Str→Option Value},s₁.heap.Ns b m→(JH s₁.heap H).Ns b m:=fun {b m} ⟨o,es,ep,e,d,r⟩=>⟨o,es,ep,base_of e (noA e d),d,r⟩
  have hKb:K.In (JH s₁.heap H):=fun b o e=>base_of (KX b o e) (by
   cases q:H b with
   |none=>rfl
   |some u =>
    have e':b=a:=hA b (by rw [q];simp);subst e';rw [hK (by rw [q];simp)] at e;cases e)
  have hM:Mod K mg (JH s₁.heap H):=⟨hKb,nsK hns,⟨mb,nsK hb,hbb⟩,let ⟨mc,h1,h2⟩:=hlim;⟨mc,nsK h1,h2⟩⟩;have e0:Env0 P w K mg (JH s₁.heap H) callerA [] s₁ H:=⟨rfl,hM,fun b o e=>FZ e,Nat.le_of_eq (D6 _ _),trivial,fun b hb=>absurd (show b∈([]:List Addr) from hb) (by simp),hok,.of_eq hg⟩;refine fo ((F _ hKb (nsK hns)).run callerA [] s₁ H ⟨[.ref a],[]⟩ [.ref a] [.ref a] _ _ hr e0 (hbind s₁ (.ref a)) (.cons rfl .nil) (hsp H hO hS)) fun r s' h=>?_
  cases r with
  |error e=>exact (hCX H e s' h).elim
  |ok fl =>
   cases fl with
   |next=>exact False.elim h
   |brk=>exact False.elim h
   |cont=>exact False.elim h
   |ret u =>
    obtain ⟨v,H',os,bare,un,hok',r',q⟩:=h;have q':v=.bl true:=q;subst q';obtain rfl:u=Value.bool true:=r';refine ⟨rfl,OldK.of_keep fun b o e=>?_,os,bare⟩;cases q:H b with
    |none=>exact un.keep b o e q (by intro z;exact absurd (show b∈([]:List Addr) from z) (by simp)) (by simp)
    |some u =>
     rcases hO b with z|⟨ob,xs,z⟩
     ·rw [q] at z;cases z
     ·have z2:=un.frzs b ob _ z;obtain ⟨e1,_⟩:=hok b _ z;obtain ⟨e2,_⟩:=hok' b _ z2;rw [e] at e1;cases e1
      exact e2
 cases hk:K.lookup a with
 |some o =>
  have e:=KX a o hk;rw [ha] at e;cases e;refine core (fun _=>none) (fun _=>.inl rfl) (.inr ⟨_,vs.toArray,_,hk,rfl,rfl,rfl,by rw [ae,lenV];exact hl,by simpa using rv⟩) (fun b u z=>by have z':(none:Option HO)=some u:=z;cases z') (fun b z=>absurd rfl z) fun z=>absurd rfl z
 |none =>
  refine core (fun b=>if b=a then some (.frz {cls:=.type "list",data:=.seq vs.toArray} (.lst (ns.map V.int))) else none) (fun b=>?_) (.inl (.inr ⟨{cls:=.type "list",data:=.seq vs.toArray},if_pos rfl⟩)) (fun b u z=>?_) (fun b z=>?_) fun _=>hk
  ·by_cases hb:b=a
   ·exact .inr ⟨_,_,if_pos hb⟩
   ·exact .inl (if_neg hb)
  ·by_cases hb:b=a
   ·have z':=(if_pos hb).symm.trans z;cases z';subst hb;exact ⟨ha,by rw [ad];exact hl,vs,_,rv,ha⟩
   ·have z':=(if_neg hb).symm.trans z;cases z'
  ·by_cases hb:b=a
   ·exact hb
   ·exact absurd (if_neg hb) z
theorem walk_of {l:PySem.W.OpenLaw} {n k:Nat} {q:Program} {loose:List Str} {XP:(Str→Option Value)→Heap→Prop} {YP:World→Heap→Prop} {d:DefRec} {K:Params→PySem.W.Frag} {CX:World→vK} {sp:World→Sp} {x:Str}
  (hn:l.most=some n) (hn2:n≤sizeLine) (hdf:d.params.defaults=[]) (hr:Room k callerA)
  (hY:∀(w:World) (h:Heap),YP w h→(K w.params).In h)
  (F:∀(w:World) (mg:Str→Option Value) (fa:Addr) (h:Heap),(K w.params).In h→h.Ns mainGlobals mg→mg d.name=some (.ref fa)→
   ∃fd:FuncData,(∀(s:Shared) (u:Value),BindsTo s fd ⟨[u],[]⟩ [(x,u)])∧
    ∀base:Heap,(K w.params).In base→base.Ns mainGlobals mg→FnOk l.prog w (K w.params) mg base (CX w) k fa fd [x] (sp w))
  (hsp:∀(w:World) (H:Hp) (a:Addr) (ns:List Int),ns.length≤n→nL H→SqL (K w.params) H a (ns.map V.int)→sp w [.ref a] H (fun v _=>v=.bl true) fun _ _ _=>False)
  (hCX:∀(w:World) (H:Hp) (s:Shared) (e:Value) (s':Shared),CX w [] H s (fun _ _ _=>False) e s'→False) :
  PySem.W.WalkO q loose XP YP l.row.toRowW d [] (fun f vs=>PySem.call f vs):=by
 refine Att.attach_call hn hdf fun w s₀ s₁ mg mb fa o pm cd doc a vs ns G Y ho hd hcd hmg hobj hints hlen hg=>?_
 have KX:=hY w _ Y;obtain ⟨fd,hb,hF⟩:=F w mg fa _ KX G.T.g hmg;exact E2 KX G.T.g G.T.b G.T.builtins G.T.nolimit hg hobj hints (aR hlen hn2) hr hF hb (fun H hO hS=>hsp w H a ns hlen hO hS) fun H e s'=>hCX w H s₁ e s'
def qT (s:Stmt) (j:Nat):Stmt:=match s with
 |.ClassDef _ _ _ body _ _ _ _ _ _ _=>body.getD j (.Pass ⟨0,0,0,0⟩)
 |_=>.Pass ⟨0,0,0,0⟩
def qW (s:Stmt):Arguments:=match s with
 |.FunctionDef _ a _ _ _ _ _ _ _ _=>a
 |_=>{posonlyargs:=[],args:=[],vararg:=none,kwonlyargs:=[],kw_defaults:=[],kwarg:=none,defaults:=[]}
def kY (s:Stmt):List Stmt:=match s with
 |.FunctionDef _ _ b _ _ _ _ _ _ _=>b
 |_=>[]
def jT (s:Stmt):Scope:=match s with
 |.FunctionDef _ _ _ _ _ _ sc _ _ _=>sc
 |_=>{kind:=.function,names:=[],isGenerator:=false,isCoroutine:=false}
abbrev jO:vK:=fun _ _ _ _ _ _=>False
abbrev E0:XK:=fun _ _ _=>False
theorem eK {X:Cx}:ZQ jO X E0:=fun _ _ _ _ _ _ _ h=>h.elim
structure Fun (K:PySem.W.Frag) (x qual:Str) (st:Stmt) (f:Addr) (fd:FuncData):Prop where
 ex:∃(oc:Value) (od:Option Addr) (kV doc pm:Value) (an:Option Addr) (cdv ct:Value) (osl:Array (Option Value)),
  fd=PySem.W.fnOf x qual (qW st) (kY st) (jT st) .none kV doc pm an cdv ct∧K.lookup f=some ⟨oc,od,.func fd,osl⟩∧PySem.W.codeIn K cdv qual=true
 kp:PySem.W.keepIn K (.ref f)=true
section
variable {P:Program} {w:World} {K:PySem.W.Frag} {mg:Str→Option Value} {base:Heap}
theorem Fun.ok {x qual:Str} {st:Stmt} {f:Addr} {fd:FuncData} {N ps:List Str} {k:Nat} {sp:Sp} (F:Fun K x qual st f fd) (S:FnScope N ps (jT st)) (len:∀vs H Q E,sp vs H Q E→vs.length=ps.length)
  (hbody:∀(cdv:Value) (A:Around) (outer:List Env) (s:Shared) (H:Hp) (vs:List V) (Q:VK) (E:XK),Room k (A.deeper (envOfC qual (jT st) s.heap.objs.size f cdv))→sp vs H Q E→
   ∃t,PSs (kN jO P w K mg base N qual (jT st) f cdv A outer s H E).nox (kY st) t∧t {nx:=fun _ H'=>Q .non H',rt:=Q} (start N vs) H):FnOk P w K mg base jO (k+1) f fd ps sp:=by
 obtain ⟨oc,od,kV,doc,pm,an,cdv,ct,osl,rfl,lk,hcd⟩:=F.ex;refine mW lk hcd S len fun A outer s H vs Q E hr hsp=>?_
 obtain ⟨t,h,q⟩:=hbody cdv A outer s H vs Q E hr hsp;exact ⟨t,h.nox,q⟩
theorem Fun.binds {x qual:Str} {st:Stmt} {f:Addr} {fd:FuncData} {ps:List Str} (F:Fun K x qual st f fd)
  (h:∀(kV doc pm:Value) (an:Option Addr) (cdv ct:Value) (us:List Value),us.length=ps.length→bindArgs (PySem.W.fnOf x qual (qW st) (kY st) (jT st) .none kV doc pm an cdv ct) ⟨us,[]⟩=pure (ps.zip us)):Binds K fd ps []:=by
 obtain ⟨oc,od,kV,doc,pm,an,cdv,ct,osl,rfl,lk,hcd⟩:=F.ex;exact .all (h kV doc pm an cdv ct)
theorem b0 {x qual:Str} {st:Stmt} {f:Addr} {oc:Value} {od an:Option Addr} {osl:Array (Option Value)} {kV doc pm cdv ct:Value} (l:K.lookup f=some ⟨oc,od,.func (PySem.W.fnOf x qual (qW st) (kY st) (jT st) .none kV doc pm an cdv ct),osl⟩)
  (c:PySem.W.codeIn K cdv qual=true) (k:PySem.W.keepIn K (.ref f)=true):Fun K x qual st f (PySem.W.fnOf x qual (qW st) (kY st) (jT st) .none kV doc pm an cdv ct):=⟨⟨oc,od,kV,doc,pm,an,cdv,ct,osl,rfl,l,c⟩,k⟩
end
theorem uP {A:Around} {k:Nat} (hr:Room k A):A.units+1<cLine:=Nat.lt_of_le_of_lt (Nat.add_le_add_left (by decide:1≤64) _) hr.units
theorem vL {n:Nat} (h:n≤1000):n<sizeLine:=Nat.lt_of_le_of_lt h (by decide)
section
variable {X:Cx}
theorem pv (i:Nat) {x:Str} {pos:Pos} (hN:X.N[i]?=some x:=by rfl) (hv:fH X.env.scope x:=by first|exact Or.inl rfl|exact Or.inr (Or.inl rfl)|exact Or.inr (Or.inr rfl)) (hd:(x == ("__debug__":Str))=false:=by decide)
  (hcd:(x == ("__classdict__":Str))=false:=by decide):PE X (.Name x pos) (uS i):=G2 hN hv hd hcd
end
variable {A B:Prop}
theorem qH (h:B):if false=true then A else B:=by
 rw [if_neg au];exact h
theorem qL (h:A):if true=true then A else B:=by
 rw [if_pos rfl];exact h
theorem vE {c:Prop} [Decidable c] (h1:c→A) (h2:¬c→B):if c then A else B:=by
 by_cases h:c
 ·rw [if_pos h];exact h1 h
 ·rw [if_neg h];exact h2 h
theorem uO {c:Prop} [Decidable c] (hc:c) (h:B):if (!decide c)=true then A else B:=by
 rw [aO hc];exact qH h
def Same (H H':Hp):Prop:=∀b o,H b=some o→H' b=some o
theorem Same.refl (H:Hp):Same H H:=fun _ _ h=>h
variable {H:Hp}
theorem Same.trans {H1 H2:Hp} (a:Same H H1) (b:Same H1 H2):Same H H2:=fun c o h=>b c o (a c o h)
theorem Same.free {H':Hp} (e:Same H H') {l:Addr} (h:H' l=Option.none):H l=Option.none:=by
 cases q:H l with
 |none=>rfl
 |some o =>
  rw [e l o q] at h;cases h
theorem Same.seq {K:PySem.W.Frag} {H':Hp} {a:Addr} {xs:List V} (e:Same H H') (h:SqL K H a xs):SqL K H' a xs:=by
 rcases h with (h|⟨o,h⟩)|h
 ·exact .inl (.inl (e _ _ h))
 ·exact .inl (.inr ⟨o,e _ _ h⟩)
 ·exact .inr h
end L2
namespace L2
open PySem PySem.Spec PyProof.Rows
def vR (cells:List (Str×Addr)):List (Str×NameKind)→List (Str×Addr)→List (Str×Addr)
 |[],cs=>cs
 | (n,k)::r,cs=>if (k == NameKind.free)=true then vR cells r ((n,(cells.lookup n).getD 0)::cs) else vR cells r cs
variable {scope:Scope}
theorem iR {env:Env} (h:∀x∈scope.names,x.2=.free→∃c,env.cells.lookup x.1=some c):closureFor scope env=pure (vR env.cells scope.names []):=by
 simp only [closureFor];have go:∀(l:List (Str×NameKind)) (cs:List (Str×Addr)),(∀x∈l,x.2=.free→∃c,env.cells.lookup x.1=some c)→
   (forIn l cs fun x r=>match x with|(name,kind)=>if (kind == NameKind.free)=true then do let a ← cellOf env name;pure (ForInStep.yield ((name,a)::r)) else pure (ForInStep.yield r):Sem (List (Str×Addr)))=pure (vR env.cells l cs):=by
  intro l
  induction l with
  |nil=>intro cs _;rfl
  |cons p r ih =>
   intro cs hp;obtain ⟨n,k⟩:=p;rw [List.forIn_cons];have hr:=fun cs=>ih cs fun x hx=>hp x (aC _ hx)
   by_cases hk:(k == NameKind.free)=true
   ·have hk':k=NameKind.free:=by simpa using hk
    obtain ⟨c,hc⟩:=hp (n,k) aQ hk';have hc':env.cells.lookup n=some c:=hc;simp only [hk,if_true,vR,cellOf,hc',Option.getD_some,pure_bind];exact hr _
   ·simp only [hk,if_false,vR,pure_bind];exact hr _
 rw [go scope.names [] h];rfl
theorem dA {cells:List (Str×Addr)}:∀{l:List (Str×NameKind)} {cs:List (Str×Addr)} {x:Str} {c:Addr},(∀y∈l,y.2=.free→∃c,cells.lookup y.1=some c)→(∀y d,cs.lookup y=some d→cells.lookup y=some d)→
  (vR cells l cs).lookup x=some c→cells.lookup x=some c
 |[],cs,x,c,_,hc,e=>hc x c e
 | (n,k)::r,cs,x,c,hl,hc,e=>by
  unfold vR at e
  by_cases hk:(k == NameKind.free)=true
  ·rw [if_pos hk] at e;obtain ⟨d,hd⟩:=hl (n,k) aQ (by simpa using hk);have hd':cells.lookup n=some d:=hd;refine dA (fun y hy=>hl y (aC _ hy)) (fun y d' q=>?_) e;rw [bi] at q
   by_cases hy:(y == n)=true
   ·rw [hy] at q;have hyn:y=n:=by simpa using hy
    subst hyn;rw [hd'] at q ⊢;exact q
   ·rw [Bool.not_eq_true] at hy;rw [hy] at q;exact hc y d' q
  ·rw [if_neg hk] at e;exact dA (fun y hy=>hl y (aC _ hy)) hc e
theorem iZ {cells:List (Str×Addr)}:∀{l:List (Str×NameKind)} {cs:List (Str×Addr)} {x:Str},(∃c,cs.lookup x=some c)→∃c,(vR cells l cs).lookup x=some c
 |[],_,_,h=>h
 | (n,k)::r,cs,x,h=>by
  unfold vR
  by_cases hk:(k == NameKind.free)=true
  ·rw [if_pos hk];refine iZ ?_;rw [bi]
   by_cases hy:(x == n)=true
   ·rw [hy];exact ⟨_,rfl⟩
   ·rw [Bool.not_eq_true] at hy;rw [hy];exact h
  ·rw [if_neg hk];exact iZ h
theorem dE {cells:List (Str×Addr)}:∀{l:List (Str×NameKind)} {cs:List (Str×Addr)} {x:Str},(x,NameKind.free)∈l→∃c,(vR cells l cs).lookup x=some c
 | (n,k)::r,cs,x,h=>by
  unfold vR
  rcases am.mp h with e|e
  ·cases e;rw [if_pos (by rfl)];exact iZ (by rw [bi,cw];exact ⟨_,rfl⟩)
  ·by_cases hk:(k == NameKind.free)=true
   ·rw [if_pos hk];exact dE e
   ·rw [if_neg hk];exact dE e
def kW (X:Cx) (N:List Str) (scope:Scope) (C:Addr) (s:Shared) (H:Hp) (pins:List (Addr×Obj)) (fp:List Addr):Cx where
 prog:=X.prog
 w:=X.w
 K:=X.K
 mg:=X.mg
 base:=X.base
 A:=X.A
 N:=N
 s₀:=s
 H₀:=H
 env:=compEnvC scope (vR X.env.cells scope.names []) C X.env
 outer:=X.stack
 stack:=X.stack
 ex:=fp
 fn:=fun _=>false
 calm:=X.calm
 pn:=X.pn++pins
 xe:=fun _ _=>False
structure CompScope (X:Cx) (scope:Scope):Prop where
 kind:scope.kind=.function
 nocell:∀y∈scope.names,y.2≠.cell
 names:∀y∈scope.names,y.2=.local→scope.names.lookup y.1=some .local
 free:∀y∈scope.names,y.2=.free→X.env.kindOf y.1=some .cell∨X.env.kindOf y.1=some .free
theorem iQ {env:Env} {x:Str}:∀{names:List (Str×NameKind)} {k:NameKind},(names.map fun (n,k)=>if (k == NameKind.free&&env.scope.kind == .function&&env.kindOf n == some .cell) then (n,NameKind.cell) else (n,k)).lookup x=some k→
  ∃k',names.lookup x=some k'∧(k'=k∨(k'=.free∧k=.cell∧env.kindOf x=some .cell))
 |[],k,h=>by simp at h
 | (n,k0)::r,k,h=>by
  have ih:=@iQ env x r k;have h':List.lookup x ((if (k0 == NameKind.free&&env.scope.kind == .function&&env.kindOf n == some .cell)=true then (n,NameKind.cell) else (n,k0))::r.map fun (n,k)=>if (k == NameKind.free&&env.scope.kind == .function&&env.kindOf n == some .cell)=true then (n,NameKind.cell) else (n,k))=some k:=h
  by_cases hc:(k0 == NameKind.free&&env.scope.kind == .function&&env.kindOf n == some .cell)=true
  ·rw [if_pos hc] at h';rw [bi] at h';cases hx:x == n with
   |true =>
    rw [hx] at h';have hk:NameKind.cell=k:=az h';simp only [cv,er] at hc;have hxn:x=n:=by simpa using hx
    refine ⟨k0,by rw [bi,hx],.inr ⟨hc.1.1,hk.symm,by rw [hxn];exact hc.2⟩⟩
   |false =>
    rw [hx] at h';obtain ⟨k',e1,e2⟩:=ih h';exact ⟨k',by rw [bi,hx];exact e1,e2⟩
  ·rw [if_neg hc] at h';rw [bi] at h';cases hx:x == n with
   |true =>
    rw [hx] at h';exact ⟨k0,by rw [bi,hx],.inl (az h')⟩
   |false =>
    rw [hx] at h';obtain ⟨k',e1,e2⟩:=ih h';exact ⟨k',by rw [bi,hx];exact e1,e2⟩
theorem iW {α:Type}:∀{l:List (Str×α)} {x:Str} {k:α},l.lookup x=some k→(x,k)∈l
 |[],_,_,h=>by simp at h
 | (n,a)::r,x,k,h=>by
  rw [bi] at h;cases hx:x == n with
  |true =>
   rw [hx] at h;have e:a=k:=az h;have hxn:x=n:=by simpa using hx
   subst e;subst hxn
   exact aQ
  |false =>
   rw [hx] at h;exact aC _ (iW h)
def Q2 (X:Cx) (ifs:List Expr) (t:TT):Prop :=
 ∀(pins:List (Addr×Obj)) (s:Shared) (σ:St) (H:Hp) (Q:Bool→Hp→Prop),Inv X pins σ H s→t σ H Q→
  wpAny (model X.prog X.w) X.A (forIn ifs true fun c r=>if r=true then do let ok ← isTrue c X.env (eval c X.env);pure (ForInStep.yield ok) else pure (ForInStep.yield r)) (TP X pins σ Q) X.xe s
def m6:TT:=fun _ H Q=>Q true H
variable {X:Cx}
theorem zU:Q2 X [] m6:=fun _ _ _ H _ I h=>wpAny_tests_nil ⟨H,I,h⟩
theorem lU {c:Expr} {t:TT} (hc:PT X c t):Q2 X [c] t:=fun pins s σ H Q I h=>wpAny_tests_one (hc pins s σ H Q I h)
def y0 (D:Addr) (J:It) (g:TG) (tc:TT) (te:TE) (σ₀:St) (H:Hp) (Q:Hp→Prop):Prop :=
 ∃W:Nat→Nat→St→Hp→Prop,(∃m,W 0 m σ₀ (upd H D (.lst [])))∧∀i m σ' H',W i m σ' H'→
  (J.stop i H'∧Q H')∨(J.go i H'∧∃N:St→Hp→Prop,(∀σ'' H'',N σ'' H''→∃m',m'<m∧W (i+1) m' σ'' H'')∧∀x H2,J.yld i H' x H2→g x σ' H2 fun σ2 H3=>tc σ2 H3 fun b H4 =>
   if b=true then te σ2 H4 fun v H5=>∃xs,H5 D=some (.lst xs)∧xs.length<sizeLine∧N σ2 (upd H5 D (.lst (xs++[v]))) else N σ2 H4)
def eG (wi:TI) (cap:St→St) (g:TG) (tc:TT) (te:TE):TE:=fun σ H Q=>wi σ H fun J H1=>∀D,H1 D=none→y0 D J g tc te (cap σ) H1 fun H'=>Q (.ref D) H'
def EM (i:Nat) (wi:TI) (cap:St→St) (g:TG) (tc:TT) (te:TE):TS:=fun D σ H=>wi σ H fun J H1=>∀d,H1 d=none→y0 d J g tc te (cap σ) H1 fun H'=>D.nx (σ.set i (some (.ref d))) H'
def JJ (X:Cx) (N:List Str) (scope:Scope) (cap:St→St):Prop :=
 ∀σ:St,σ.length=X.N.length→(cap σ).length=N.length∧∀(i:Nat) (x:Str) (v:V),N[i]?=some x→(cap σ)[i]?=some (some v)→scope.names.lookup x=some .free∧∃j:Nat,X.N[j]?=some x∧σ[j]?=some (some v)
def vO (n:Nat) (js:List Nat):St→St:=fun σ=>List.replicate n none++js.map fun j=>(σ[j]?).join
theorem wR {N:List Str} (n:Nat) (js:List Nat) (h1:N.length=n+js.length) (h2:js.map (fun j=>X.N[j]?)=(N.drop n).map some) (h3:∀x∈N.drop n,scope.names.lookup x=some .free):JJ X N scope (vO n js):=by
 intro σ hσ;refine ⟨by unfold vO;rw [aj,aZ,ad,h1],fun i x v e1 e2=>?_⟩;unfold vO at e2
 by_cases hi:i<n
 ·rw [aJ (by simpa using hi),cf,if_pos hi] at e2;cases e2
 ·rw [aE (by simpa using hi),aZ,ax] at e2;cases hj:js[i - n]? with
  |none=>rw [hj] at e2;cases e2
  |some j =>
   rw [hj] at e2;have e3:(σ[j]?).join=some v:=az e2;have e4:σ[j]?=some (some v):=by
    cases q:σ[j]? with
    |none=>rw [q] at e3;cases e3
    |some o =>
     rw [q] at e3;have e5:o=some v:=e3;rw [e5]
   have hd:(N.drop n)[i - n]?=some x:=by
    rw [List.getElem?_drop,show n+(i - n)=i by omega];exact e1
   have e5:=bw (fun l=>l[i - n]?) h2;simp only [ax,hj,hd,Option.map_some] at e5;exact ⟨h3 x (aP hd),j,az e5,e4⟩
theorem wP (sc:Scope) (hsc:X.env.scope=sc) (kind:scope.kind=.function) (nocell:∀y∈scope.names,y.2≠.cell) (names:∀y∈scope.names,y.2=.local→scope.names.lookup y.1=some .local)
  (free:∀y∈scope.names,y.2=.free→sc.names.lookup y.1=some .cell∨sc.names.lookup y.1=some .free):CompScope X scope:=⟨kind,nocell,names,fun y hy hf=>by
 subst hsc;exact free y hy hf⟩
section
variable {X:Cx} {N:List Str} {scope:Scope} {pins:List (Addr×Obj)} {σ:St} {H:Hp} {s:Shared} {fp:List Addr}
theorem Z9 (S:CompScope X scope) (I:Inv X pins σ H s):∀y∈scope.names,y.2=.free→∃c,X.env.cells.lookup y.1=some c:=fun y hy hf=>I.ok.has y.1 (S.free y hy hf)
theorem FB {cap:St→St} {D C:Addr} {h₁:Heap} {t':Nat} {m:Str→Option Value} (S:CompScope X scope) (I:Inv X pins σ H s) (hcap:JJ X N scope cap) (hf:∀b∈fp,yT X pins H b) (hfo:∀b∈fp,∃o,s.heap.get? b=some o)
  (hD:s.heap.objs.size≤D) (hC:s.heap.objs.size≤C) (hDC:D≠C) (old:∀b o,s.heap.get? b=some o→h₁.get? b=some o) (hns:h₁.Ns C m) (hl:h₁.get? D=some {cls:=.type "list",data:=.seq ([]:List Value).toArray}) :
  Inv (kW X N scope C s H pins fp) [] (cap σ) (upd H D (.lst [])) {s with heap:=h₁,toks:=t'}:=by
 have cellsOk:=Z9 S I;have look:∀x c,(vR X.env.cells scope.names []).lookup x=some c→X.env.cells.lookup x=some c:=fun x c e=>dA cellsOk (fun y d q=>by simp at q) e
 have lt:∀{b:Addr} {o:Obj},s.heap.get? b=some o→b<s.heap.objs.size:=fun e=>aq e
 have cellLt:∀x c,X.env.cells.lookup x=some c→c<s.heap.objs.size:=fun x c e=>by
  obtain ⟨v,o,ho,_⟩:=I.cell x c e;exact lt ho
 have nD:H D=none:=I.hok.fresh hD;have nC:H C=none:=I.hok.fresh hC;have stkNe:∀b:Addr,b≠X.env.locals→b∉X.fs→b∉kA X.stack:=fun b h1 h2 z=>by
  rcases am.mp (I.stkSub b z) with e|e
  ·exact h1 e
  ·exact h2 e
 refine ⟨⟨I.ok.mod,S.kind,I.ok.glob,I.ok.blt,hC,fun x y c h1 h2=>I.ok.inj x y c (look x c h1) (look y c h2),fun x hx=>?_,fun x c hfn _=>(nomatch hfn),I.ok.hd,I.ok.frames,.inl rfl,fun b hb=>⟨?_,fun x c e=>(hf b hb).2.2.2.2.1 x c (look x c e)⟩,
   I.bs,aR I.ok.bsz I.sz,fun b o e hb=>?_,fun b hb=>stkNe b (hf b hb).2.1 (hf b hb).2.2.1,I.stack,I.stkFree⟩,
  rfl,I.bare,Un.laid old hD nD,⟨m,hns,fun i x v h1 h2 h3=>?_⟩,fun x c e=>?_,?_,fun x c e=>?_,fun p hp=>?_,?_,(hcap σ I.len).1⟩
 ·-- has
  have hx':∃k,(relabel scope X.env).names.lookup x=some k∧(k=.cell∨k=.free):=by
   rcases hx with e|e
   ·exact ⟨_,e,.inl rfl⟩
   ·exact ⟨_,e,.inr rfl⟩
  obtain ⟨k,e,hk⟩:=hx';obtain ⟨k',e1,e2⟩:=iQ e;have hm:=iW e1;have hfree:k'=.free:=by
   rcases e2 with e2|e2
   ·subst e2
    rcases hk with hk|hk
    ·subst hk;exact absurd rfl (S.nocell _ hm)
    ·exact hk
   ·exact e2.1
  subst hfree;exact dE hm
 ·obtain ⟨o,ho⟩:=hfo b hb;exact aH (ar (lt ho) hC)
 ·rcases (hf b hb).2.2.2.1 with z|z
  ·exact I.ok.noex b o e z
  ·exact absurd (ar (aq e) (aR I.ok.bsz z)) (bh _)
 ·-- names
  obtain ⟨hfr,j,hj,hv⟩:=(hcap σ I.len).2 i x v h1 h2;have hm:=iW hfr;have hk:=S.free _ hm rfl;obtain ⟨m0,_,hl0⟩:=I.loc;have vis:fH X.env.scope x:=by
   rcases hk with k|k
   ·exact .inr (.inl k)
   ·exact .inr (.inr k)
  obtain ⟨u,r,l⟩:=hl0 j x v hj hv vis;refine ⟨u,r,.inr ⟨?_,?_⟩⟩
  ·have hvis:∃k,(relabel scope X.env).names.lookup x=some k:=by
    rcases h3 with e|e|e<;>exact ⟨_,e⟩
   obtain ⟨k,e⟩:=hvis;obtain ⟨k',e1,e2⟩:=iQ e;rw [hfr] at e1;cases e1
   rcases e2 with e2|e2
   ·subst e2;exact .inr e
   ·rw [e2.2.1] at e;exact .inl e
  ·rcases l with ⟨k,_⟩|⟨_,c,hc,hcell⟩
   ·exfalso
    rcases hk with q|q
    ·have q':X.env.kindOf x=some .cell:=q;rw [k] at q';cases q'
    ·have q':X.env.kindOf x=some .free:=q;rw [k] at q';cases q'
   ·obtain ⟨c',e'⟩:=dE (cells:=X.env.cells) (cs:=[]) hm;have e2:=look x c' e';have e2':X.env.cells.lookup x=some c':=e2;rw [hc] at e2';cases e2';obtain ⟨o,ho,hd⟩:=hcell;exact ⟨c,e',o,old _ _ ho,hd⟩
 ·obtain ⟨v,o,ho,hd⟩:=I.cell x c (look x c e);exact ⟨v,o,old _ _ ho,hd⟩
 ·show upd H D (.lst []) C=none;rw [jL (Ne.symm hDC)];exact nC
 ·have hc:=look x c e;rw [jL (aH (ar (cellLt x c hc) hD))];exact I.freeC x c hc
 ·have hp':p∈X.pn++pins:=by
   rcases bc.mp hp with z|z
   ·exact z
   ·cases z
  obtain ⟨e,n,ne,nf,d⟩:=I.pin p hp';refine ⟨old _ _ e,?_,aH (ar (lt e) hC),stkNe p.1 ne nf,d⟩;rw [jL (aH (ar (lt e) hD))];exact n
 ·refine I.hok.laid old hD ?_;exact ⟨aG _,[],0,.nil,hl⟩
theorem dI {σ':St} {H':Hp} {s':Shared} {C:Addr} {σc:St} {Nc:List Str} (I:Inv X pins σ H s) (hf:∀b∈fp,yT X pins H b) (J:Inv (kW X Nc scope C s H pins fp) [] σc H' s'):Inv X pins σ H' s':=by
 refine I.call' (ch:=fp) J.os J.base J.hok J.bare fun b hb=>?_
 obtain ⟨_,h2,_,h4,h5,h6⟩:=hf b hb;exact ⟨h4,h2,h5,h6⟩
theorem lO {σ':St} {H':Hp} {s':Shared} {C:Addr} {h':Heap} (I:Inv X pins σ H s) (hC:s.heap.objs.size≤C) (J:Inv X pins σ' H' s') (hn:H' C=none) (sb:Heap.SameBut C s'.heap h'):Inv X pins σ' H' {s' with heap:=h'}:=by
 refine J.turned (t':=s'.toks) (it:=C) (fun b o hb e=>(sb.2 b hb).trans e) hn (dt (ar I.lt hC)) (.inr (aR I.sz hC)) (fun x c e z=>?_) fun p hp z=>?_
 ·obtain ⟨v,q⟩:=I.cell x c e;exact absurd (ar q.lt (by rw [z];exact hC)) (bh _)
 ·exact absurd (ar (aq (I.pin p hp).1) (by rw [z];exact hC)) (bh _)
end
end L2
namespace L2
open PySem PySem.Spec PyProof.Rows
variable {H:Hp}
theorem yI {σ:St} {Q:Bool→Hp→Prop} (h:Q true H):m6 σ H Q:=h
variable {D:Addr} {xs:List V} {tc:TT} {te:TE} {Q:Hp→Prop}
theorem o7 {K:PySem.W.Frag} {a:Addr} {g:TG} {σ₀:St} (Pv:Nat→St→Hp→Prop) (h0:Pv 0 σ₀ (upd H D (.lst []))) (hl:∀i σ H,i≤xs.length→Pv i σ H→SqL K H a xs)
    (hs:∀i x σ H,xs[i]?=some x→Pv i σ H→g x σ H fun σ2 H3=>tc σ2 H3 fun b H4=>if b=true then te σ2 H4 fun v H5=>∃ys,H5 D=some (.lst ys)∧ys.length<sizeLine∧Pv (i+1) σ2 (upd H5 D (.lst (ys++[v]))) else Pv (i+1) σ2 H4)
    (hd:∀σ H,Pv xs.length σ H→Q H):y0 D (Q4 K a) g tc te σ₀ H Q:=by
  refine ⟨fun i m σ H=>m=xs.length - i∧i≤xs.length∧Pv i σ H,⟨xs.length,by simp,aG _,h0⟩,?_⟩;rintro i m σ H ⟨rfl,hi,p⟩;have q:=hl i σ H hi p
  by_cases hlt:i<xs.length
  · refine .inr ⟨⟨xs,xs[i],q,by simp [hlt]⟩,Pv (i+1),fun σ' H' p'=>⟨xs.length - (i+1),by omega,rfl,hlt,p'⟩,fun x H' y=>?_⟩
    obtain ⟨e,y⟩:=y;subst e;exact hs i x σ _ (y xs q) p
  · have e:i=xs.length:=by omega
    subst e;exact .inl ⟨⟨xs,q,ai _⟩,hd σ H p⟩
theorem CK {lo:Int} {n:Nat} {g:TG} {σ₀:St} (Pv:Nat→St→Hp→Prop) (h0:Pv 0 σ₀ (upd H D (.lst [])))
  (hs:∀i σ H,i<n→Pv i σ H→g (.int (lo+i)) σ H fun σ2 H3=>tc σ2 H3 fun b H4=>if b=true then te σ2 H4 fun v H5=>∃ys,H5 D=some (.lst ys)∧ys.length<sizeLine∧Pv (i+1) σ2 (upd H5 D (.lst (ys++[v]))) else Pv (i+1) σ2 H4)
  (hd:∀σ H,Pv n σ H→Q H):y0 D (QF lo n) g tc te σ₀ H Q:=by
 refine ⟨fun i m σ H=>m=n - i∧i≤n∧Pv i σ H,⟨n,by simp,aG _,h0⟩,?_⟩;rintro i m σ H ⟨rfl,hi,p⟩
 by_cases hlt:i<n
 ·refine .inr ⟨hlt,Pv (i+1),fun σ' H' p'=>⟨n - (i+1),by omega,rfl,hlt,p'⟩,fun x H' y=>?_⟩;obtain ⟨e,y⟩:=y;subst e y;exact hs i σ _ hlt p
 ·have e:i=n:=by omega
  subst e;exact .inl ⟨ai _,hd σ H p⟩
theorem qI {H':Hp} {o:HO} (hD:H D=none) (s:Same H H'):Same H (upd H' D o):=fun b u q=>by
 rw [jL (kE q hD)];exact s b u q
def v9 (H:Hp) (D:Addr) (caps:St) (R:Nat→List V→Hp→Prop) (i:Nat) (σ:St) (Hi:Hp):Prop:=∃ys c,σ=c::caps∧Same H Hi∧Hi D=some (.lst ys)∧ys.length≤i∧R i ys Hi
variable {caps:St}
theorem vZ {Hi H5:Hp} {R:Nat→List V→Hp→Prop} {i:Nat} {ys:List V} {c:Option V} {v:V} (hD:H D=none) (s:Same H Hi) (hY:Hi D=some (.lst ys)) (hl:ys.length≤i) (hi:i≤999) (s5:Same Hi H5)
  (r:R (i+1) (ys++[v]) (upd H5 D (.lst (ys++[v])))):∃zs,H5 D=some (.lst zs)∧zs.length<sizeLine∧v9 H D caps R (i+1) (c::caps) (upd H5 D (.lst (zs++[v]))):=by
 refine ⟨ys,s5 _ _ hY,vL (by omega),ys++[v],c,rfl,qI hD (s.trans s5),jE,?_,r⟩;rw [aj,bf];omega
theorem lF {Hi H4:Hp} {R:Nat→List V→Hp→Prop} {i:Nat} {ys:List V} {c:Option V} (s:Same H Hi) (hY:Hi D=some (.lst ys)) (hl:ys.length≤i) (s4:Same Hi H4) (r:R (i+1) ys H4) :
  v9 H D caps R (i+1) (c::caps) H4:=⟨ys,c,rfl,s.trans s4,s4 _ _ hY,by omega,r⟩
theorem zT {K:PySem.W.Frag} {a:Addr} (R:Nat→List V→Hp→Prop) (hD:H D=none) (hS:SqL K H a xs) (h0:R 0 [] (upd H D (.lst [])))
  (hs:∀i x ys Hi,xs[i]?=some x→i<xs.length→ys.length≤i→Same H Hi→Hi D=some (.lst ys)→R i ys Hi→tc (some x::caps) Hi fun b H4=>if b=true then te (some x::caps) H4 fun v H5=>∃zs,H5 D=some (.lst zs)∧zs.length<sizeLine∧v9 H D caps R (i+1) (some x::caps) (upd H5 D (.lst (zs++[v])))
   else v9 H D caps R (i+1) (some x::caps) H4)
  (hd:∀ys Hf,Same H Hf→Hf D=some (.lst ys)→ys.length≤xs.length→R xs.length ys Hf→Q Hf):y0 D (Q4 K a) (zN 0) tc te (none::caps) H Q:=by
 refine o7 (xs:=xs) (v9 H D caps R) ⟨[],none,rfl,qI hD (Same.refl H),jE,ai _,h0⟩ (fun i σ Hi _ ⟨_,_,_,s,_⟩=>s.seq hS) ?_ ?_
 ·rintro i x σ Hi hx ⟨ys,c,rfl,s,hY,hl,r⟩;exact hs i x ys Hi hx (ag.mp hx).1 hl s hY r
 ·rintro σ Hf ⟨ys,c,rfl,s,hY,hl,r⟩;exact hd ys Hf s hY hl r
theorem iY {lo:Int} {n:Nat} (R:Nat→List V→Hp→Prop) (hD:H D=none) (h0:R 0 [] (upd H D (.lst [])))
  (hs:∀i ys Hi,i<n→ys.length≤i→Same H Hi→Hi D=some (.lst ys)→R i ys Hi→tc (some (.int (lo+i))::caps) Hi fun b H4=>if b=true then te (some (.int (lo+i))::caps) H4 fun v H5=>∃zs,H5 D=some (.lst zs)∧zs.length<sizeLine∧v9 H D caps R (i+1) (some (.int (lo+i))::caps) (upd H5 D (.lst (zs++[v])))
   else v9 H D caps R (i+1) (some (.int (lo+i))::caps) H4)
  (hd:∀ys Hf,Same H Hf→Hf D=some (.lst ys)→ys.length≤n→R n ys Hf→Q Hf):y0 D (QF lo n) (zN 0) tc te (none::caps) H Q:=by
 refine CK (v9 H D caps R) ⟨[],none,rfl,qI hD (Same.refl H),jE,ai _,h0⟩ ?_ ?_
 ·rintro i σ Hi hi ⟨ys,c,rfl,s,hY,hl,r⟩;exact hs i ys Hi hi hl s hY r
 ·rintro σ Hf ⟨ys,c,rfl,s,hY,hl,r⟩;exact hd ys Hf s hY hl r
def KY:V→Option Value
 |.ty n=>some (.type n)
 |.ref a=>some (.ref a)
 |_=>none
section
variable {X:Cx}
end
def zS (xs ys:List V):Bool:=(List.range (min xs.length ys.length)).all (fun j=>qA (xs.getD j .non) (ys.getD j .non))&&xs.length == ys.length
theorem QJ {x:V} (h:qG x=true):qA x x=true:=by
 cases x with
 |non=>rfl
 |bl b=>show (b == b)=true;simp
 |int i=>show (i == i)=true;simp
 |str z=>show (z == z)=true;simp
 |_=>exact absurd (show false=true from h) au
theorem sE (h:xs.all qG=true):zS xs xs=true:=by
 unfold zS;rw [cv];refine ⟨?_,by simp⟩;rw [br];intro j hj;have hj':j<xs.length:=by simpa using hj
 refine QJ ?_;rw [af,aa hj'];exact br.mp h _ (cb hj')
theorem vS {us:List Value} (r:Vals xs us) {j:Nat} (h:j<us.toArray.size):RelV (xs.getD j .non) us.toArray[j]:=by
 have hj:j<us.length:=by simpa using h
 have hx:j<xs.length:=by rw [r.length];exact hj
 obtain ⟨u,e,q⟩:=r.get (aa hx);rw [aa hj] at e;have e':=az e;rw [af,aa hx];show RelV xs[j] us.toArray[j];rw [List.getElem_toArray,e'];exact q
theorem bB (h:xs.all qG=true) {j:Nat} (hj:j<xs.length):qG (xs.getD j .non)=true:=by
 rw [af,aa hj];exact br.mp h _ (cb hj)
section
variable {X:Cx}
end
end L2
namespace L2
open PySem PySem.Spec PyProof.Rows
def mX:V→Bool
 |.ref _=>true
 |x=>qG x
theorem EB {A:Around} {s:Shared} {x:V} {u v:Value} (ru:RelV x u) (rv:RelV x v) (f:mX x=true):SeqAt.EqAt A s u v true:=by
 cases x with
 |ref a =>
  cases ru;cases rv;exact gj _
 |non=>have:=JR (A:=A) (s:=s) ru rv rfl rfl;rwa [QJ (x:=.non) rfl] at this
 |bl b=>have:=JR (A:=A) (s:=s) ru rv rfl rfl;rwa [QJ (x:=.bl b) rfl] at this
 |int i=>have:=JR (A:=A) (s:=s) ru rv rfl rfl;rwa [QJ (x:=.int i) rfl] at this
 |str z=>have:=JR (A:=A) (s:=s) ru rv rfl rfl;rwa [QJ (x:=.str z) rfl] at this
 |_=>exact absurd (show false=true from f) au
section
variable {X:Cx}
def HX (K:PySem.W.Frag):R2:=fun x y H Q=>∃a b xs,x=.ref a∧y=.ref b∧SqL K H a xs∧SqL K H b xs∧xs.all mX=true∧Q (.bl false) H
theorem mJ (hu:X.A.units<cLine):kM X (compareOp .NotEq) (HX X.K):=by
  intro pins s σ H x y v u Q I rx ry h;obtain ⟨a,b,xs,rfl,rfl,ha,hb,fx,q⟩:=h;cases rx;cases ry;obtain ⟨its,r,pl,hz⟩:=I.list ha;obtain ⟨its2,r2,pl2,hz2⟩:=I.list hb;have hl:=r.length;have hl2:=r2.length;refine SeqAt.RcNeAt.lists (e:=fun _=>true) pl.isList pl2.isList (by rw [ae,ae,← hl,hl2]) hu (fun j h1 h2=>?_) X.prog X.w X.xe _ ⟨.bl _,H,I,rfl,?_⟩
  · refine EB (vS r h1) (vS r2 h2) ?_
    have hj:j<xs.length:=by rw [hl];simpa using h1
    rw [af,aa hj];exact br.mp fx _ (cb hj)
  · have e:(!(List.range its.toArray.size).all fun _=>true)=false:=by simp
    rw [e];exact q
end
section
variable {X:Cx} (K:PySem.W.Frag)
theorem kI (h:X.K=K:=by rfl):IxR X (eY K):=by subst h;exact oE
theorem j3 (h:X.K=K:=by rfl):IxR X (nE K):=by subst h;exact ix_tup
theorem GF (h:X.K=K:=by rfl):IxR X (nR K):=by subst h;exact HG
theorem EN (h:X.K=K:=by rfl):nY X (uX K):=by subst h;exact FH
theorem CC (h:X.K=K:=by rfl):yA X (.builtin "len") (fun xs H Q=>∃p ys,xs=[.ref p]∧(SqL K H p ys∨SqT K H p ys)∧Q (.int ys.length) H):=by subst h;exact wS
theorem lW {es:List Expr} {k:Nat} {t:QD} {n:Nat} {pos:Pos} (hc:X.calm=true) (h:bY X es t) (hK:X.K=K:=by rfl)
  (hn:(assignEach es X.env).length=n:=by rfl) (hst:(assignEach es X.env).findIdx? (·.1)=none:=by rfl):PG X (.Tuple es k pos) (u8 K n t):=by subst hK;exact dZ hc h hn hst
end
section
variable {X:Cx}
end
section
variable {X:Cx}
def KB (t u:TS):TS:=fun D σ H=>∃P:St→Hp→Prop,t {D with nx:=P} σ H∧∀σ' H',P σ' H'→u D σ' H'
theorem v7 {st:Stmt} {rest:List Stmt} {t u:TS} (h1:PS X st t) (h2:PSs X rest u):PSs X (st::rest) (KB t u):=by
 intro pins s σ H D I h;obtain ⟨P,hP,hu⟩:=h;refine wpAny_execs_cons (jN (h1 pins s σ H {D with nx:=P} I hP) fun f s1 q=>?_);cases f with
 |next =>
  obtain ⟨σ',H',I',q⟩:=q;exact h2 pins s1 σ' H' D I' (hu σ' H' q)
 |ret v=>exact q
 |brk=>exact q
 |cont=>exact q
end
structure Def (P:Program) (w:World) (K:PySem.W.Frag) (mg:Str→Option Value) (base:Heap) (k:Nat) (x:Str) (ps:List Str) (dvs:List V) (sp:Sp):Prop where
 ex:∃(f:Addr) (fd:FuncData) (ds:List Value),FnOk P w K mg base jO k f fd ps sp∧mg x=some (.ref f)∧PySem.W.keepIn K (.ref f)=true∧Vals dvs ds∧Binds K fd ps ds
theorem jM {X:Cx} {k k':Nat} {x:Str} {ps:List Str} {dvs:List V} {sp:Sp} {p pos:Pos} {e:Expr} {es:List Expr} {t:TA} (F:Def X.prog X.w X.K X.mg X.base k x ps dvs sp) (hr:Room k' X.A) (hg:Gl X x) (ha:PA X (e::es) t)
  (hk:k≤k':=by decide) (hdb:(x == ("__debug__":Str))=false:=by decide) (he:starEach (e::es) X.env=(false,eval e X.env)::starEach es X.env:=by rfl) (hpl:(backTo pos (starEach es X.env)).any (·.1)=false:=by rfl) :
  PE X (.Call (.Name x p) (e::es) [] pos) (eH sp dvs E0 t):=by
 obtain ⟨f,fd,ds,G,m,kp,hv,b⟩:=F.ex;exact FS G (hr.mono hk) hg m kp b hv eK ha hdb he hpl
structure FunD (K:PySem.W.Frag) (x qual:Str) (st:Stmt) (f:Addr) (fd:FuncData) (ds:List Value):Prop where
 ex:∃(oc:Value) (od:Option Addr) (T:Addr) (kV doc pm:Value) (an:Option Addr) (cdv ct:Value) (osl:Array (Option Value)) (oT:Obj) (n:Nat),
  fd=PySem.W.fnOf x qual (qW st) (kY st) (jT st) (.ref T) kV doc pm an cdv ct∧K.lookup f=some ⟨oc,od,.func fd,osl⟩∧PySem.W.codeIn K cdv qual=true∧K.lookup T=some oT∧oT.data=.seq ds.toArray n
 kp:PySem.W.keepIn K (.ref f)=true
section
variable {P:Program} {w:World} {K:PySem.W.Frag} {mg:Str→Option Value} {base:Heap}
theorem FunD.ok {x qual:Str} {st:Stmt} {f:Addr} {fd:FuncData} {ds:List Value} {N ps:List Str} {k:Nat} {sp:Sp} (F:FunD K x qual st f fd ds) (S:FnScope N ps (jT st)) (len:∀vs H Q E,sp vs H Q E→vs.length=ps.length)
  (hbody:∀(cdv:Value) (A:Around) (outer:List Env) (s:Shared) (H:Hp) (vs:List V) (Q:VK) (E:XK),Room k (A.deeper (envOfC qual (jT st) s.heap.objs.size f cdv))→sp vs H Q E→
   ∃t,PSs (kN jO P w K mg base N qual (jT st) f cdv A outer s H E).nox (kY st) t∧t {nx:=fun _ H'=>Q .non H',rt:=Q} (start N vs) H):FnOk P w K mg base jO (k+1) f fd ps sp:=by
 obtain ⟨oc,od,T,kV,doc,pm,an,cdv,ct,osl,oT,n,rfl,lk,hcd,_,_⟩:=F.ex;refine mW lk hcd S len fun A outer s H vs Q E hr hsp=>?_
 obtain ⟨t,h,q⟩:=hbody cdv A outer s H vs Q E hr hsp;exact ⟨t,h.nox,q⟩
theorem FunD.binds {x qual:Str} {st:Stmt} {f:Addr} {fd:FuncData} {ds:List Value} {ps:List Str} (ds':List Value) (m:Nat) (hm:m+ds'.length=ps.length) (F:FunD K x qual st f fd ds)
  (h:∀(T:Addr) (kV doc pm:Value) (an:Option Addr) (cdv ct:Value) (us:List Value),us.length=m→∃k,bindArgs (PySem.W.fnOf x qual (qW st) (kY st) (jT st) (.ref T) kV doc pm an cdv ct) ⟨us,[]⟩=seqItems? (.ref T) >>= k∧
   k (some ds.toArray)=pure (ps.zip (us++ds'))):Binds K fd ps ds':=by
 obtain ⟨oc,od,T,kV,doc,pm,an,cdv,ct,osl,oT,n,rfl,lk,hcd,lT,dT⟩:=F.ex;intro s us hK hl;obtain ⟨k,h1,h2⟩:=h T kV doc pm an cdv ct us (by rw [aj] at hl;omega);exact BindsTo.of_defaults rfl (hK _ _ lT) dT h1 h2
theorem GJ {x qual:Str} {st:Stmt} {f T:Addr} {oc:Value} {od an:Option Addr} {osl:Array (Option Value)} {kV doc pm cdv ct:Value} {oT:Obj} {n:Nat} {ds:List Value}
  (l:K.lookup f=some ⟨oc,od,.func (PySem.W.fnOf x qual (qW st) (kY st) (jT st) (.ref T) kV doc pm an cdv ct),osl⟩)
  (c:PySem.W.codeIn K cdv qual=true) (k:PySem.W.keepIn K (.ref f)=true) (lT:K.lookup T=some oT) (dT:oT.data=.seq ds.toArray n):FunD K x qual st f (PySem.W.fnOf x qual (qW st) (kY st) (jT st) (.ref T) kV doc pm an cdv ct) ds :=
 ⟨⟨oc,od,T,kV,doc,pm,an,cdv,ct,osl,oT,n,rfl,l,c,lT,dT⟩,k⟩
end
section
variable {X:Cx}
theorem lM:wE X (eY X.K):=by
 intro pins s σ H o i ov iv Q I ro ri h;obtain ⟨p,xs,k,z,rfl,rfl,hq,he,q⟩:=h;cases ro;obtain ⟨t,rfl⟩:=ri;obtain ⟨its,r,pl,hz⟩:=I.list hq;obtain ⟨j,h1,h2,h3,h4,h5⟩:=dX he;obtain ⟨w,ew,rw'⟩:=r.get h2;have hl:=r.length;have hn:=QQ;have fin:EP X pins σ Q w s:=⟨z,H,I,rw',q⟩
 by_cases h0:0≤k
 ·have hj:k.toNat=j:=by
   rw [seqIndex_of h0 h5] at h1;exact az h1
  exact wpAny_getItem_list pl.isList h0 (by omega) (by rw [hj];simpa using ew) fin
 ·have hj:(k+(its.toArray.size:Int)).toNat=j:=by
   rw [seqIndex_neg (by omega) h4] at h1;rw [ae,← hl];exact az h1
  exact wpAny_getItem_list_neg pl.isList (by omega) (by rw [ae]<;>omega) (by omega) (by rw [hj];simpa using ew) fin
end
end L2
namespace L2
open PySem
variable {c A B:Prop}
theorem eS [Decidable c] (hc:¬c) (h:A):if (!decide c)=true then A else B:=by
 rw [aK hc];exact qL h
theorem q8 [Decidable c] (hc:¬c) (h:B):if decide c=true then A else B:=by
 rw [aK hc];exact qH h
theorem qQ [Decidable c] (hc:c) (h:A):if decide c=true then A else B:=by
 rw [aO hc];exact qL h
end L2
namespace L2
open PySem PySem.Spec PyProof.Rows
structure MkD (P:Program) (w:World) (K:PySem.W.Frag) (mg:Str→Option Value) (base:Heap) (k:Nat) (x:Str) (C:Addr) (ps:List Str) (sp:Sp):Prop where
 ex:mg x=some (.ref C)∧∃(f:Addr) (fd:FuncData),Mk K C f∧FnOk P w K mg base jO k f fd ps sp∧Binds K fd ps []
structure MeD (P:Program) (w:World) (K:PySem.W.Frag) (mg:Str→Option Value) (base:Heap) (k:Nat) (C:Addr) (m:Str) (ps:List Str) (sp:Sp):Prop where
 ex:Cls K C∧∃(f:Addr) (fd:FuncData),Meth K C m f∧FnOk P w K mg base jO k f fd ps sp∧Binds K fd ps []
section
variable {X:Cx} {k k':Nat} {x m:Str} {C:Addr} {ps:List Str} {sp:Sp} {p pos apos:Pos} {o e:Expr} {es:List Expr} {ta:TE} {t:TA}
theorem ZR (M:MkD X.prog X.w X.K X.mg X.base k x C ps sp) (hr:Room k' X.A) (hg:Gl X x) (ha:PA X (e::es) t)
  (hk:k+1≤k':=by decide) (hdb:(x == ("__debug__":Str))=false:=by decide) (he:starEach (e::es) X.env=(false,eval e X.env)::starEach es X.env:=by rfl) (hpl:(backTo pos (starEach es X.env)).any (·.1)=false:=by rfl) :
  PE X (.Call (.Name x p) (e::es) [] pos) (uJ C sp [] E0 t):=by
 obtain ⟨hm,f,fd,M,G,b⟩:=M.ex;exact FP M G (hr.mono hk) hg hm b .nil eK ha hdb he hpl
theorem qO {pl:Sem Bool} (M:MeD X.prog X.w X.K X.mg X.base k C m ps sp) (hr:Room k' X.A) (ho:PE X o ta) (hk:k≤k':=by decide)
  (ht:eval (.Call (.Attribute o m apos) [] [] pos) X.env=(do
   let ov ← eval o X.env
   standAt apos.atName
   let (f,first) ← holding [ov] (getMethod ov m pl)
   callWith pos f first (backTo pos (starEach [] X.env)) (backToKw pos (keywordEach [] X.env))):=by rfl) :
  PE X (.Call (.Attribute o m apos) [] [] pos) (uI C m sp [] E0 ta JY):=by
 obtain ⟨c,f,fd,M,G,b⟩:=M.ex;exact EU (pl:=pl) ho c M G (hr.mono hk) b .nil eK ht
end
structure ClsM (K:PySem.W.Frag) (C:Addr) (m:Str) (f:Addr):Prop where
 sp:PySem.W.specialIn K (.ref C) "__getattribute__"=some (some (.builtin "type.__getattribute__"))
 rd:PySem.W.readsIn K C (.type "type")=true
 fc:PySem.W.findCls K (.ref C) (.type "type") m=some (.val (.ref f))
 kp:PySem.W.keepIn K (.ref f)=true
structure CmD (P:Program) (w:World) (K:PySem.W.Frag) (mg:Str→Option Value) (base:Heap) (k:Nat) (x:Str) (C:Addr) (m:Str) (ps:List Str) (sp:Sp):Prop where
 ex:mg x=some (.ref C)∧∃(f:Addr) (fd:FuncData),ClsM K C m f∧FnOk P w K mg base jO k f fd ps sp∧Binds K fd ps []
theorem sZ {X:Cx} {k k':Nat} {x m:Str} {C:Addr} {ps:List Str} {sp:Sp} {p pos apos:Pos} {e:Expr} {es:List Expr} {t:TA} {pl:Sem Bool} (M:CmD X.prog X.w X.K X.mg X.base k x C m ps sp) (hr:Room k' X.A) (hg:Gl X x) (ha:PA X (e::es) t) (hk:k≤k':=by decide)
  (hdb:(x == ("__debug__":Str))=false:=by decide) (hst:starEach (e::es) X.env=(false,eval e X.env)::starEach es X.env:=by rfl) (hpl:(backTo pos (starEach es X.env)).any (·.1)=false:=by rfl)
  (ht:eval (.Call (.Attribute (.Name x p) m apos) (e::es) [] pos) X.env=(do
   let ov ← eval (.Name x p) X.env
   standAt apos.atName
   let (f,first) ← holding [ov] (getMethod ov m pl)
   callWith pos f first (backTo pos (starEach (e::es) X.env)) (backToKw pos (keywordEach [] X.env))):=by rfl) :
  PE X (.Call (.Attribute (.Name x p) m apos) (e::es) [] pos) (eH sp [] E0 t):=by
 obtain ⟨hm,f,fd,c,G,b⟩:=M.ex;intro pins s σ H Q I h;refine fq (pl:=pl) (jN ((yZ (v:=.ref C) hg hm rfl hdb:PE X (.Name x p) (tC (.ref C))) pins s σ H (fun v H1=>v=.ref C∧H1=H) I ⟨rfl,rfl⟩) fun u s1 ⟨v,H1,I1,rv,e1,e2⟩=>?_) ht;subst e1 e2;obtain rfl:u=Value.ref C:=rv;refine PySem.W.method_cls I1.kIn c.sp (PySem.W.cls_value I1.kIn c.rd c.fc rfl ?_);have I2:=I1.tok (s1.toks+1);refine cz (first:=[]) (h₀:=X.base) I.ok.mod.kin c.kp (jN (ha pos pins _ σ H1 _ I2 h) fun us s2 ⟨vs,H2,I3,r,q2⟩=>⟨I3.kIn,?_⟩) hst hpl;exact mE (us:=us) (vs:=vs) G (hr.mono hk) b .nil eK I3 r q2
section
variable {X:Cx}
theorem CQ {bs:List Bool} {its:List Value} (rv:Vals (bs.map V.bl) its) {i:Nat} {v:Value} (h:its.toArray[i]?=some v):v=Value.bool (bs.getD i true):=by
 have h':its[i]?=some v:=by simpa using h
 have hi:i<its.length:=(ag.mp h').1;have hn:i<bs.length:=by have:=rv.length;rw [ad] at this;omega
 obtain ⟨u,e,q⟩:=rv.get (x:=V.bl (bs.getD i true)) (i:=i) (by rw [ax,aa hn,af,aa hn];rfl);rw [h'] at e;cases e;exact q
theorem cV (bs:List Bool):(List.range bs.length).all (fun i=>bs.getD i true)=bs.all id:=by
 rw [fe,br,br];constructor
 ·intro h x hx;obtain ⟨i,hi,e⟩:=List.mem_iff_getElem.mp hx;have:=h i (by simpa using hi);rw [af,aa hi,e] at this;exact this
 ·intro h i hi;have hi':i<bs.length:=by simpa using hi
  rw [af,aa hi'];exact h _ (cb hi')
theorem EI (hc:X.calm=true):yA X (.builtin "all") (fun xs H Q=>∃(p:Addr) (bs:List Bool),xs=[.ref p]∧SqL X.K H p (bs.map V.bl)∧Q (.bl (bs.all id)) H):=by
 intro pins s σ H xs us Q I r h;obtain ⟨p,bs,rfl,hq,q⟩:=h;obtain ⟨u,rfl,rx⟩:=JS r;cases rx;obtain ⟨its,rv,pl,hz⟩:=I.list hq;have hlen:=rv.length;rw [ad] at hlen;have hp:p<s.heap.objs.size:=by obtain ⟨o,n,e,_⟩:=pl;exact aq e
 refine call_all_walk (wpAny_pyIter_list pl.isList ?_);refine ⟨s.heap.objs.size,_,_,_,_,_,fun i=>bs.getD i true,rfl,Walks.list (A:=X.A.in1) (I.ok.hd hc) s.heap.objs.size p (aH hp) its.toArray,⟨⟨_,ay _ rfl,rfl,rfl⟩,pl.isList.at fun o e=>ao _ e⟩,fun i v s' Q' E' h hQ=>?_,fun h' tk hk=>?_⟩
 ·rw [CQ rv h];exact ed hQ
 ·rw [ae,← hlen,cV];refine ⟨.bl (bs.all id),H,I.kept (t':=tk) fun b o e=>hk b o (fun hb=>?_) (ao _ e),rfl,q⟩;have e':b=s.heap.objs.size:=by simpa using hb
  exact absurd (aq e) (by rw [e'];exact bh _)
end
def nJ (p:Addr) (a b c:Int):HO:=.ext fun h=>∃t u v,IsRange h p a b c t u v
section
variable {X:Cx}
theorem CP:yA X (.type "range") (fun xs H Q=>∃a b c:Int,xs=[.int a,.int b,.int c]∧c≠0∧c.natAbs<1073741824∧∀p,H p=none→Q (.ref p) (upd H p (nJ p a b c))):=by
 intro pins s σ H xs us Q I r h;obtain ⟨a,b,c,rfl,hc,hs,q⟩:=h;cases r with
 |cons r1 r2 =>
  cases r2 with
  |cons r3 r4 =>
   cases r4 with
   |cons r5 r6 =>
    cases r6;obtain ⟨t,rfl⟩:=r1;obtain ⟨u,rfl⟩:=r3;obtain ⟨v,rfl⟩:=r5;refine call_range_3 hc ?_ (.inl (PyProof.noPylong_small hs));refine ⟨.ref s.heap.objs.size,_,I.laid (t':=s.toks) (o:=nJ s.heap.objs.size a b c) (fun b o e=>ao _ e) (ai _) ?_,rfl,q _ (I.hok.fresh (ai _))⟩;exact ⟨⟨t,u,v,ay _ rfl⟩,⟨_,ay _ rfl⟩,fun h1 h2 ⟨t,u,v,e⟩ k=>⟨t,u,v,k _ e⟩⟩
theorem oV {f:Nat→Int}:∀{n:Nat} {acc:List Value},acc.length=n→(∀i v,acc[i]?=some v→∃t,v=Value.int (f i) t)→Vals ((List.range n).map fun (i:Nat)=>V.int (f i)) acc
 |0,acc,hl,h=>by
  cases acc with
  |nil=>exact .nil
  |cons x r=>cases hl
 |n+1,acc,hl,h=>by
  obtain ⟨init,last,rfl⟩:∃init last,acc=init++[last]:=by
   have hne:acc≠[]:=by intro e;rw [e] at hl;cases hl
   exact ⟨acc.dropLast,acc.getLast hne,(List.dropLast_concat_getLast hne).symm⟩
  rw [aj,bf] at hl;have hi:init.length=n:=by omega
  rw [List.range_succ,aL];refine Vals.append (oV hi fun i v e=>h i v ?_) (.cons ?_ .nil)
  ·rw [aJ (ag.mp e).1];exact e
  ·exact h n last (by rw [aE (by omega),hi,fu];rfl)
theorem CB (hc:X.calm=true):yA X (.type "list") (fun xs H Q=>∃(p:Addr) (a b c:Int) (n:Nat),xs=[.ref p]∧H p=some (nJ p a b c)∧Builtin.Range.small a b c=true∧Builtin.Range.rangeSize a b c=n∧n≤1000∧
  ∀l,H l=none→Q (.ref l) (upd H l (.lst ((List.range n).map fun (i:Nat)=>V.int (a+(i:Int)*c))))):=by
 intro pins s σ H xs us Q I r h;obtain ⟨p,a,b,c,n,rfl,hp,hsm,hn,hz,q⟩:=h;obtain ⟨u,rfl,rx⟩:=JS r;cases rx;obtain ⟨⟨t,u,v,e⟩,_,_⟩:=I.hok p _ hp;refine call_list_range (I.ok.hd hc) e hsm hn (by omega) fun h' tk acc' c' hk hS' hacc=>?_
 have hl:acc'.toList.length=n:=by have:=hacc.1;simpa using this
 refine ⟨.ref s.heap.objs.size,_,I.laid (t':=tk) (o:=.lst ((List.range n).map fun (i:Nat)=>V.int (a+(i:Int)*c))) hk (ai _) ?_,rfl,q _ (I.hok.fresh (ai _))⟩;refine ⟨by rw [ad,dh];exact fm (vL hz),acc'.toList,c',oV hl fun i v e=>hacc.2 i v (by simpa using e),by simpa using hS'⟩
end
def yK (n:Nat):List Nat:=(List.range n).reverse
theorem DD (n:Nat):((List.range n).map fun (i:Nat)=>V.int (((n:Int) - 1)+(i:Int) * -1))=(yK n).map fun (i:Nat)=>V.int (i:Int):=by
 apply List.ext_getElem?;intro k;unfold yK;rw [ax,ax]
 by_cases hk:k<n
 ·rw [dk hk,List.getElem?_reverse (by simpa using hk),dh,dk (by omega)];show some (V.int ((n:Int) - 1+(k:Int) * -1))=some (V.int ((n - 1 - k:Nat):Int))
  congr 2
  omega
 ·rw [bn (by simp;omega),bn (by simp;omega)];rfl
theorem rE (n:Nat):Builtin.Range.rangeSize ((n:Int) - 1) (-1) (-1)=n:=by
 unfold Builtin.Range.rangeSize;rw [if_neg (by decide)]
 by_cases h:(n:Int) - 1 > -1
 ·rw [if_pos h];have e:((n:Int) - 1 - -1 - 1) / (- (-1:Int))=(n:Int) - 1:=by
   have e1:(-(-1:Int))=1:=rfl;rw [e1,Int.ediv_one];omega
  rw [e];omega
 ·rw [if_neg h];omega
theorem DE {n:Nat} (h:n≤1000):Builtin.Range.small ((n:Int) - 1) (-1) (-1)=true:=by
 unfold Builtin.Range.small;rw [rE];simp only [Builtin.Range.rangeFitsLong,cv,Bool.or_eq_true,ei,er];simp;omega
section
variable {P:Program} {w:World} {H:Hp} {h h':Heap} {a:Addr} {o:HO}
theorem ObjOk.there (x:ObjOk P w H h a o):∃u,h.get? a=some u:=by
 cases o with
 |lst xs=>obtain ⟨_,_,_,_,e⟩:=x;exact ⟨_,e⟩
 |tup xs=>obtain ⟨_,_,_,o,e,_⟩:=x;exact ⟨_,e⟩
 |dK kvs=>obtain ⟨_,_,_,_,o,_,_,e,_⟩:=x;exact ⟨_,e⟩
 |dT kvs=>obtain ⟨_,_,_,_,o,_,_,e,_⟩:=x;exact ⟨_,e⟩
 |set S n=>obtain ⟨o,_,_,_,e,_⟩:=x;exact ⟨_,e⟩
 |ins C dx fs=>obtain ⟨_,_,_,e,_⟩:=x;exact ⟨_,e⟩
 |own y=>obtain ⟨_,e⟩:=x;exact ⟨_,e⟩
 |xd fs=>obtain ⟨_,⟨_,_,_,e,_⟩,_⟩:=x;exact ⟨_,e⟩
 |rng lo hi=>obtain ⟨_,_,_,e⟩:=x;exact ⟨_,e⟩
 |frz ob u=>obtain ⟨e,_⟩:=x;exact ⟨_,e⟩
 |tbl ps=>exact ⟨_,(show h.get? a=some _ from x)⟩
 |met f y=>exact ⟨_,(show h.get? a=some _ from x)⟩
 |ext φ=>obtain ⟨_,e,_⟩:=x;exact e
theorem HOk.there (x:HOk P w H h) (e:H a=some o):∃u,h.get? a=some u:=(x a o e).there
theorem HOk.keepT (x:HOk P w H h) (k:∀b u,H b≠none→h.get? b=some u→h'.get? b=some u):HOk P w H h':=fun a o e =>
 (x a o e).stay (fun b u hb q=>k b u (by
  rcases hb with rfl|hb
  ·rw [e];exact fun z=>nomatch z
  ·rw [hb];exact fun z=>nomatch z) q) (fun _ q=>q) fun _ _ q=>q
end
variable {H:Hp}
theorem Un.go {fs ex:List Addr} {H1:Hp} {h0 h h':Heap} (u:Un fs ex H H1 h0 h) (k:∀b o,h.get? b=some o→b∉fs→b∉ex→(∃o',h0.get? b=some o')→h'.get? b=some o)
  (ks:∀b o,h.get? b=some o→b∈fs→(∃o',h0.get? b=some o')→∃sl,h'.get? b=some {o with slots:=sl}):Un fs ex H H1 h0 h' where
 keep:=fun b o q n hb hx=>k b o (u.keep b o q n hb hx) hb hx ⟨o,q⟩
 slot:=fun b o q n hb hx=>by
  obtain ⟨sl,e⟩:=u.slot b o q n hb hx;obtain ⟨sl',e'⟩:=ks b _ e hb ⟨o,q⟩;exact ⟨sl',e'⟩
 free:=u.free
 there:=fun b o q hx=>by
  obtain ⟨o',e⟩:=u.there b o q hx
  by_cases hb:b∈fs
  ·obtain ⟨sl,e'⟩:=ks b o' e hb ⟨o,q⟩;exact ⟨_,e'⟩
  ·exact ⟨o',k b o' e hb hx ⟨o,q⟩⟩
 tups:=u.tups
 frzs:=u.frzs
 tbls:=u.tbls
def wL (fr:List Env) (Z:Addr→Prop) (h:Heap) (a C:Addr):Prop :=
 ∃(B:Heap) (a0:Value),Heap.FlyingW B fr a (.ref C) a0 h∧∀b o,h.get? b=some o→b∉kA fr→Z b→B.get? b=some o
def kF (P:Program) (w:World):vK:=fun outer H s E e s'=>∃(a C:Addr) (H':Hp),e=.ref a∧s'.os=s.os∧AllBare s'.gens∧Un (kA outer) [] H H' s.heap s'.heap∧HOk P w H' s'.heap∧
 wL outer (fun b=>H' b≠none∨∃o',s.heap.get? b=some o') s'.heap a C∧H' a=none∧s.heap.get? a=none∧E (.ref C) none H'
def uF (X:Cx) (R:St→Value→Hp→Prop):Prop:=∀pins σ H s e h' C vs,Inv X pins σ H s→Heap.MadeExcOf s.heap h' e (.ref C) vs→R σ (.ref C) H→X.xe (.ref e) {s with heap:=h'}
def QT (X:Cx) (R:St→Value→Hp→Prop):Prop:=∀pins σ H s e s',Inv X pins σ H s→kF X.prog X.w X.stack H s (fun c _ H'=>R σ c H') e s'→X.xe e s'
theorem ZC {P:Program} {w:World} {K:PySem.W.Frag} {mg:Str→Option Value} {base:Heap} {N:List Str} {qual:Str} {scope:Scope} {f:Addr} {cd:Value} {A:Around} {outer:List Env} {s:Shared} {E:XK} :
  uF (kN (kF P w) P w K mg base N qual scope f cd A outer s H E) (fun _ c H'=>E c none H'):=by
 intro pins σ H1 s1 e h' C vs I hx q;have hin:∀env∈(envOfC qual scope s.heap.objs.size f cd::outer),∀b,env.frame=some b→b∈kA (envOfC qual scope s.heap.objs.size f cd::outer):=fun env he b hb=>cx.mpr ⟨env,he,hb⟩
 have hst:s1.heap.FunFrames base (envOfC qual scope s.heap.objs.size f cd::outer):=I.stack;have hfrees:∀b∈kA (envOfC qual scope s.heap.objs.size f cd::outer),H1 b=none:=I.stkFree;have hfs:kA (envOfC qual scope s.heap.objs.size f cd::outer)=s.heap.objs.size::kA outer:=rfl;have ub:Un (kA outer) [] H H1 s.heap s1.heap:=I.base;have hno:s1.heap.get? e=none:=hx.new;show wpAny (model P w) (A.deeper (envOfC qual scope s.heap.objs.size f cd)) (leaving (envOfC qual scope s.heap.objs.size f cd) (.ref e)) (fun _ s''=>kF P w outer H s E (.ref e) s'') (fun e' s''=>kF P w outer H s E e' s'') {s1 with heap:=h'};refine wpAny_leaves_madeW (base:=PySem.W.hideAll s1.heap (kA (envOfC qual scope s.heap.objs.size f cd::outer))) I.ok.frames rfl (fun b o q=>PySem.W.of_hideAll _ q) (PySem.W.funFrames_hide hst hin) hx fun h2 t fl _ _ up=>?_
 dsimp only at up
 have keep:∀b o,s1.heap.get? b=some o→b∉kA (envOfC qual scope s.heap.objs.size f cd::outer)→(PySem.W.hideAll s1.heap (kA (envOfC qual scope s.heap.objs.size f cd::outer))).get? b=some o:=fun b o q n=>PySem.W.hideAll_get _ q n
 have old:∀b,(∃o',s.heap.get? b=some o')→b∉kA outer→b∉kA (envOfC qual scope s.heap.objs.size f cd::outer):=fun b ⟨o',q⟩ n z=>by
  rw [hfs] at z
  rcases am.mp z with z|z
  ·exact absurd (aq q) (by rw [z];exact bh _)
  ·exact n z
 have yB:∀b,H1 b≠none→b∉kA (envOfC qual scope s.heap.objs.size f cd::outer):=fun b hb z=>hb (hfrees b z)
 refine ⟨e,C,H1,rfl,I.os,I.bare,ub.go (fun b o q n _ z=>fl.1 b o (keep b o q (old b z n))) (fun b o q n _=>?_),I.hok.keepT fun b u hb q=>fl.1 b u (keep b u q (yB b hb)),?_,?_,?_,q⟩
 ·obtain ⟨_,o',ho',hd⟩:=hst.mem (show b∈kA (envOfC qual scope s.heap.objs.size f cd::outer) from by rw [hfs];exact aC _ n);rw [q] at ho';cases ho'
  exact up b o (hx.keeps b o q) hd
 ·refine ⟨_,_,fl,fun b o q n z=>?_⟩;have hn:b∉kA (envOfC qual scope s.heap.objs.size f cd::outer):=by
   rcases z with z|z
   ·exact yB b z
   ·exact old b z n
  have h1:∃u,s1.heap.get? b=some u:=by
   rcases z with z|⟨o',z⟩
   ·cases r:H1 b with
    |none=>exact absurd r z
    |some v=>exact I.hok.there r
   ·exact ub.there b o' z (by simp)
  obtain ⟨u,hu⟩:=h1;have hB:=keep b u hu hn;have:=fl.1 b u hB;have q':h2.get? b=some o:=q;rw [q'] at this;cases this;exact hB
 ·cases r:H1 e with
  |none=>rfl
  |some v =>
   obtain ⟨u,hu⟩:=I.hok.there r;rw [hno] at hu;cases hu
 ·cases r:s.heap.get? e with
  |none=>rfl
  |some v =>
   obtain ⟨u,hu⟩:=ub.there e v r (by simp);rw [hno] at hu;cases hu
theorem yN {P:Program} {w:World} {K:PySem.W.Frag} {mg:Str→Option Value} {base:Heap} {N:List Str} {qual:Str} {scope:Scope} {f:Addr} {cd:Value} {A:Around} {outer:List Env} {s:Shared} {E:XK} :
  QT (kN (kF P w) P w K mg base N qual scope f cd A outer s H E) (fun _ c H'=>E c none H'):=by
 intro pins σ H1 s1 e s2 I hx;obtain ⟨a,C,H2,rfl,os,bare,un,hok,⟨B,a0,fl,ground⟩,ha,hs,q⟩:=hx;have fl':Heap.FlyingW B (envOfC qual scope s.heap.objs.size f cd::outer) a (.ref C) a0 s2.heap:=fl;have J:Inv (kN (kF P w) P w K mg base N qual scope f cd A outer s H E) pins σ H2 s2:=I.call' (ch:=[]) os un hok bare fun b z=>absurd z (by simp)
 have ub:Un (kA outer) [] H H2 s.heap s2.heap:=J.base;have hfs:kA (envOfC qual scope s.heap.objs.size f cd::outer)=s.heap.objs.size::kA outer:=rfl;have old:∀b,(∃o',s.heap.get? b=some o')→b∉kA outer→b∉kA (envOfC qual scope s.heap.objs.size f cd::outer):=fun b ⟨o',q⟩ n z=>by
  rw [hfs] at z
  rcases am.mp z with z|z
  ·exact absurd (aq q) (by rw [z];exact bh _)
  ·exact n z
 have yB:∀b,H2 b≠none→b∉kA (envOfC qual scope s.heap.objs.size f cd::outer):=fun b hb z=>hb (J.stkFree b z)
 have u1:Un (kA outer) [] H H1 s.heap s1.heap:=I.base;have in1:∀b,(∃o',s.heap.get? b=some o')→∃o',s1.heap.get? b=some o':=fun b ⟨o',z⟩=>u1.there b o' z (by simp)
 have hst:s2.heap.FunFrames base (envOfC qual scope s.heap.objs.size f cd::outer):=J.stack;show wpAny (model P w) (A.deeper (envOfC qual scope s.heap.objs.size f cd)) (leaving (envOfC qual scope s.heap.objs.size f cd) (.ref a)) (fun _ s''=>kF P w outer H s E (.ref a) s'') (fun e' s''=>kF P w outer H s E e' s'') s2;refine wpAny_leaves_onW J.ok.frames rfl fl' fun h3 fl3 up=>?_
 refine ⟨a,C,H2,rfl,J.os,J.bare,ub.go (fun b o q n _ z=>fl3.1 b o (ground b o q (old b z n) (.inr (in1 b z)))) (fun b o q n _=>?_),J.hok.keepT fun b u hb q=>fl3.1 b u (ground b u q (yB b hb) (.inl hb)),?_,ha,?_,q⟩
 ·obtain ⟨_,o',ho',hd⟩:=hst.mem (show b∈kA (envOfC qual scope s.heap.objs.size f cd::outer) from by rw [hfs];exact aC _ n);rw [q] at ho';cases ho'
  exact up b o q hd
 ·refine ⟨B,a0,fl3,fun b o q n z=>?_⟩;have hn:b∉kA (envOfC qual scope s.heap.objs.size f cd::outer):=by
   rcases z with z|z
   ·exact yB b z
   ·exact old b z n
  have h1:∃u,s2.heap.get? b=some u:=by
   rcases z with z|⟨o',z⟩
   ·cases r:H2 b with
    |none=>exact absurd r z
    |some v=>exact J.hok.there r
   ·exact ub.there b o' z (by simp)
  obtain ⟨u,hu⟩:=h1;have hB:=ground b u hu hn (by
   rcases z with z|z
   ·exact .inl z
   ·exact .inr (in1 b z))
  have:=fl3.1 b u hB;have q':h3.get? b=some o:=q;rw [q'] at this;cases this;exact hB
 ·cases r:s.heap.get? a with
  |none=>rfl
  |some v =>
   obtain ⟨u,hu⟩:=in1 a ⟨v,r⟩;rw [hs] at hu;cases hu
end L2
namespace L2
open PySem PySem.Spec PyProof.Rows
theorem GM {K:PySem.W.Frag} {h:Heap} {C:Addr} {bmB:List Value} {newId:String} (X:K.In h) (q:PySem.W.excIn K C bmB newId=true) :
  ∃bm N nm qn bs hdct sn sub ab col dd k0 k1 k2 k3 k5 mN,K.lookup C=some (excClassObj nm qn C N bs bm hdct sn sub ab col dd k0 k1 k2 k3 k5 newId)∧h.get? C=some (excClassObj nm qn C N bs bm hdct sn sub ab col dd k0 k1 k2 k3 k5 newId)∧h.Ns N mN∧mN "__init__"=none∧OwnTail h bmB bm:=by
 unfold PySem.W.excIn at q
 split at q
 ·rename_i dd cd sl ho
  split at q
  ·rename_i C' bm k0 k1 k2 k3 n k5 hm hs;simp only [cv,er,Bool.not_eq_true'] at q;obtain ⟨⟨⟨⟨⟨rfl,rfl⟩,hdel⟩,ht⟩,hok⟩,hni⟩:=q;obtain ⟨nm,bs,mro,ns,qn,hd,sn,sub,ab,col,del⟩:=cd
   dsimp only at hm hdel hok hni
   subst hm hdel;have hsl:sl = #[k0,k1,k2,k3,some (.builtin n),k5]:=by
    obtain ⟨l⟩:=sl;simp only at hs;rw [hs]
   subst hsl;exact ⟨bm,ns,nm,qn,bs,hd,sn,sub,ab,col,dd,k0,k1,k2,k3,k5,_,ho,X _ _ ho,.of_isNs (PySem.W.isNs_of_in X hok),PySem.W.nsMap_none_of_in X hok hni,PySem.W.tail_of_in X ht⟩
  ·cases q
 ·cases q
abbrev KM:List Value:=[.type "ValueError",.type "Exception",.type "BaseException",.type "object"]
def QY (K:PySem.W.Frag) (C:Addr):Prop:=PySem.W.excIn K C KM "ValueError.__new__"=true
section
variable {X:Cx} {R:St→Value→Hp→Prop} {x:Str} {C:Addr} {np cpos pos p:Pos} {e:Expr} {es:List Expr} {t:TA}
theorem ZF (hx:uF X R) (hcalm:X.calm=true) (hg:Gl X x) (hm:X.mg x=some (.ref C)) (hc:QY X.K C) (ha:PA X (e::es) t) (hdb:(x == ("__debug__":Str))=false:=by decide)
  (he:starEach (e::es) X.env=(false,eval e X.env)::starEach es X.env:=by rfl) (hpl:(backTo cpos (starEach es X.env)).any (·.1)=false:=by rfl) :
  PS X (.Raise (some (.Call (.Name x np) (e::es) [] cpos)) none pos) (fun _ σ H=>t σ H fun vs H1=>vs.length≤sizeLine∧R σ (.ref C) H1):=by
 intro pins s σ H D I h;obtain ⟨tl,N,nm,q,bs,hdct,sn,sub,ab,col,dd,k0,k1,k2,k3,k5,mN,_,hC,hN,hni,T⟩:=GM I.ok.mod.kin hc;refine wpAny_Raise_call_subT (C:=C) (nm:=nm) (q:=q) (N:=N) (bs:=bs) (bm:=tl) (hdct:=hdct) (sn:=sn) (sub:=sub) (ab:=ab) (col:=col) (dd:=dd) (k0:=k0) (k1:=k1) (k2:=k2) (k3:=k3) (k5:=k5)
  PySem.F.excBase_ValueError (mN:=mN) (T.hasType PySem.F.excBase_ValueError.hasBase) (I.ok.hd hcalm) (by rw [he];show (false||(backTo cpos (starEach es X.env)).any (·.1))=false;rw [hpl];rfl) hni (QN I hg hm ⟨rfl,?_⟩ hdb)
 have h1:=ha cpos pins s σ H _ I h;rw [he] at h1 ⊢;refine Calls.evalArgs_plain (bp h1 (fun us s2 ⟨vs,H2,I2,r2,hl,q2⟩=>⟨rfl,by rw [← r2.length];exact hl,I2.bk _ _ hC,hN.keeps I2.bk,T.keeps I2.bk,fun h' a hm=>hx pins σ H2 s2 a h' C us I2 hm q2⟩) fun _ _ y=>y)
def GY (sp:Sp) (dvs:List V) (R:St→Value→Hp→Prop) (t:TA):TE:=fun σ H Q=>t σ H fun vs H1=>sp (vs++dvs) H1 Q (fun c _ H'=>R σ c H')
theorem sX {k:Nat} {f:Addr} {fd:FuncData} {ps:List Str} {sp:Sp} {dvs:List V} {ds:List Value} {pins:List (Addr×Obj)} {σ:St} {H:Hp} {s:Shared} {Q:VK} {us:List Value} {vs:List V} (F:FnOk X.prog X.w X.K X.mg X.base (kF X.prog X.w) k f fd ps sp) (hr:Room k X.A) (hb:Binds X.K fd ps ds) (hd:Vals dvs ds) (hx:QT X R)
  (I:Inv X pins σ H s) (r:Vals vs us) (h:sp (vs++dvs) H Q (fun c _ H'=>R σ c H')):wpAny (model X.prog X.w) X.A (call (.ref f) us) (EP X pins σ Q) X.xe s:=by
 have r2:Vals (vs++dvs) (us++ds):=r.append hd;have hl:(us++ds).length=ps.length:=by rw [← r2.length];exact F.len _ _ _ _ h
 refine wpAny_call (fo (F.run X.A X.stack s H ⟨us,[]⟩ (us++ds) (vs++dvs) Q _ hr I.env0 (hb s us I.kIn hl) r2 h) fun r s' hq=>?_);cases r with
 |error e=>exact hx pins σ H s e s' I hq
 |ok fl =>
  cases fl with
  |ret u=>exact I.after hq
  |next=>exact False.elim hq
  |brk=>exact False.elim hq
  |cont=>exact False.elim hq
end
structure DefX (P:Program) (w:World) (K:PySem.W.Frag) (mg:Str→Option Value) (base:Heap) (k:Nat) (x:Str) (ps:List Str) (dvs:List V) (sp:Sp):Prop where
 ex:∃(f:Addr) (fd:FuncData) (ds:List Value),FnOk P w K mg base (kF P w) k f fd ps sp∧mg x=some (.ref f)∧PySem.W.keepIn K (.ref f)=true∧Vals dvs ds∧Binds K fd ps ds
variable {X:Cx} {R:St→Value→Hp→Prop}
theorem JC {k k':Nat} {x:Str} {ps:List Str} {dvs:List V} {sp:Sp} {p pos:Pos} {e:Expr} {es:List Expr} {t:TA} (F:DefX X.prog X.w X.K X.mg X.base k x ps dvs sp) (hx:QT X R) (hr:Room k' X.A) (hg:Gl X x) (ha:PA X (e::es) t)
  (hk:k≤k':=by decide) (hdb:(x == ("__debug__":Str))=false:=by decide) (he:starEach (e::es) X.env=(false,eval e X.env)::starEach es X.env:=by rfl) (hpl:(backTo pos (starEach es X.env)).any (·.1)=false:=by rfl) :
  PE X (.Call (.Name x p) (e::es) [] pos) (GY sp dvs R t):=by
 obtain ⟨f,fd,ds,G,m,kp,hv,b⟩:=F.ex;intro pins s σ H Q I h;refine cy (QN I hg m ?_ hdb);refine cz (h₀:=X.base) I.ok.mod.kin kp (jN (ha pos pins s σ H _ I h) fun us s1 ⟨vs,H1,I1,r,q⟩=>⟨I1.kIn,?_⟩) he hpl;exact sX G (hr.mono hk) b hv hx I1 r q
def uR (X:Cx) (pins:List (Addr×Obj)) (a:Addr):Prop:=X.s₀.heap.get? a=none∧a≠X.env.locals∧(∀x c,X.env.cells.lookup x=some c→c≠a)∧∀p∈X.pn++pins,p.1≠a
def JU (X:Cx) (pins:List (Addr×Obj)) (R:St→Value→Hp→Prop):Cx:={X with
 pn:=X.pn++pins
 xe:=fun e s'=>∃(a C:Addr) (σ':St) (H':Hp),e=.ref a∧Inv X pins σ' H' s'∧wL X.stack (fun b=>H' b≠none∨(∃o,X.s₀.heap.get? b=some o)∨∃p∈X.pn++pins,p.1=b) s'.heap a C∧H' a=none∧uR X pins a∧R σ' (.ref C) H'}
theorem Cx.Ok.intoTry {pins:List (Addr×Obj)} (ok:X.Ok):(JU X pins R).Ok :=
 ⟨ok.mod,ok.kind,ok.glob,ok.blt,ok.above,ok.inj,ok.has,ok.cab,ok.hd,ok.frames,ok.stk,ok.exf,ok.bs,ok.bsz,ok.noex,ok.exfs,ok.funs,ok.frf⟩
theorem Cx.Ok.outTry {pins:List (Addr×Obj)} (ok:(JU X pins R).Ok):X.Ok :=
 ⟨ok.mod,ok.kind,ok.glob,ok.blt,ok.above,ok.inj,ok.has,ok.cab,ok.hd,ok.frames,ok.stk,ok.exf,ok.bs,ok.bsz,ok.noex,ok.exfs,ok.funs,ok.frf⟩
section
variable {X:Cx} {pins pins':List (Addr×Obj)} {σ:St} {H:Hp} {s:Shared} {R:St→Value→Hp→Prop}
theorem Inv.intoTry (I:Inv X pins σ H s):Inv (JU X pins R) [] σ H s :=
 ⟨I.ok.intoTry,I.os,I.bare,I.base,I.loc,I.cell,I.free,I.freeC,fun p hp=>I.pin p (by have hp':p∈(X.pn++pins)++[]:=hp;rw [bx] at hp';exact hp'),I.hok,I.len⟩
theorem Inv.outTry (I:Inv (JU X pins R) pins' σ H s):Inv X pins σ H s :=
 ⟨I.ok.outTry,I.os,I.bare,I.base,I.loc,I.cell,I.free,I.freeC,fun p hp=>I.pin p (fz _ hp),I.hok,I.len⟩
theorem SP.outTry {D:Ends} {f:Flow} {s':Shared} (h:SP (JU X pins R) [] D f s'):SP X pins D f s':=by
 cases f with
 |next=>obtain ⟨σ',H',I,q⟩:=h;exact ⟨σ',H',I.outTry,q⟩
 |brk=>obtain ⟨σ',H',I,q⟩:=h;exact ⟨σ',H',I.outTry,q⟩
 |cont=>obtain ⟨σ',H',I,q⟩:=h;exact ⟨σ',H',I.outTry,q⟩
 |ret u=>obtain ⟨v,σ',H',I,r,q⟩:=h;exact ⟨v,σ',H',I.outTry,r,q⟩
theorem D7 (hex:X.ex=[]):QT (JU X pins R) R:=by
 intro pins' σ H1 s1 e s2 I hx;obtain ⟨a,C,H2,rfl,os,bare,un,hok,⟨B,a0,fl,ground⟩,ha,hs,q⟩:=hx;have I0:Inv X pins σ H1 s1:=I.outTry;have J:Inv X pins σ H2 s2:=I0.call' (ch:=[]) os un hok bare fun b z=>absurd z (by simp)
 refine ⟨a,C,σ,H2,rfl,J,⟨B,a0,fl,fun b o q n z=>ground b o q n ?_⟩,ha,⟨?_,fun z=>?_,fun x c e z=>?_,fun p hp z=>?_⟩,q⟩
 ·rcases z with z|⟨o',z⟩|⟨p,hp,rfl⟩
  ·exact .inl z
  ·exact .inr (I0.base.there b o' z (by rw [hex];simp))
  ·exact .inr ⟨_,(I0.pin p hp).1⟩
 ·cases r:X.s₀.heap.get? a with
  |none=>rfl
  |some v =>
   obtain ⟨u,hu⟩:=I0.base.there a v r (by rw [hex];simp);rw [hs] at hu;cases hu
 ·obtain ⟨m,⟨o,_,_,ho,_⟩,_⟩:=I0.loc;rw [← z,hs] at ho;cases ho
 ·obtain ⟨v,o,ho,_⟩:=I0.cell x c e;rw [z,hs] at ho;cases ho
 ·have ho:=(I0.pin p hp).1;rw [z,hs] at ho;cases ho
theorem Inv.fly {h':Heap} (I:Inv X pins σ H s) (hstk:X.stack=X.env::X.outer) (hf:X.env.frame=some X.env.locals)
  (k:∀b o,s.heap.get? b=some o→b∉kA X.stack→(H b≠none∨(∃o,X.s₀.heap.get? b=some o)∨∃p∈X.pn++pins,p.1=b)→h'.get? b=some o) (up:s.heap.UpToSlots h'):Inv X pins σ H {s with heap:=h'}:=by
 have hfs:kA X.stack=X.env.locals::X.fs:=by rw [hstk];unfold kA;rw [eo,hf];rfl
 have cellK:∀c v,s.heap.IsCell c v→h'.IsCell c v:=fun c v ⟨o,ho,hd⟩=>by
  obtain ⟨sl,e⟩:=up c o ho (fun vs q=>by rw [hd] at q;cases q);exact ⟨_,e,hd⟩
 have yB:∀b,H b≠none→b∉kA X.stack:=fun b hb z=>hb (I.stkFree b z)
 refine ⟨I.ok,I.os,I.bare,I.base.go (fun b o q n _ z=>k b o q (fun m=>?_) (.inr (.inl z))) (fun b o q n z=>?_),?_,fun x c e=>?_,I.free,I.freeC,fun p hp=>?_,I.hok.keepT fun b u hb q=>k b u q (yB b hb) (.inl hb),I.len⟩
 ·rw [hfs] at m
  rcases am.mp m with m|m
  ·obtain ⟨o',z⟩:=z;exact absurd (ar (aq z) I.ok.above) (by rw [m];exact bh _)
  ·exact n m
 ·obtain ⟨_,o',ho',hd⟩:=I.stack.mem (show b∈kA X.stack from by rw [hfs];exact aC _ n);rw [q] at ho';cases ho'
  exact up b o q hd
 ·obtain ⟨m,hn,hl⟩:=I.loc;refine ⟨m,up.ns hn,fun i x v h1 h2 h3=>?_⟩;obtain ⟨u,r,l⟩:=hl i x v h1 h2 h3;refine ⟨u,r,?_⟩
  rcases l with l|⟨l1,c,l2,l3⟩
  ·exact .inl l
  ·exact .inr ⟨l1,c,l2,cellK c _ l3⟩
 ·obtain ⟨v,q⟩:=I.cell x c e;exact ⟨v,cellK c v q⟩
 ·obtain ⟨h1,h2,h3,h4,h5⟩:=I.pin p hp;refine ⟨k p.1 p.2 h1 (fun m=>?_) (.inr (.inr ⟨p,hp,rfl⟩)),h2,h3,h4,h5⟩;rw [hfs] at m
  rcases am.mp m with m|m
  ·exact h3 m
  ·exact h4 m
end
def bF (X:Cx) (e:Value):Cx:={X with A:=X.A.mark (some e),calm:=false,xe:=fun _ _=>False}
section
variable {X:Cx} {pins:List (Addr×Obj)} {σ:St} {H:Hp} {s:Shared} {e:Value}
theorem Inv.intoSuite (I:Inv X pins σ H s) (e:Value):Inv (bF X e) pins σ H s :=
 ⟨⟨I.ok.mod,I.ok.kind,I.ok.glob,I.ok.blt,I.ok.above,I.ok.inj,I.ok.has,I.ok.cab,fun z=>absurd (show false=true from z) (by decide),I.ok.frames,I.ok.stk,I.ok.exf,I.ok.bs,I.ok.bsz,I.ok.noex,I.ok.exfs,I.ok.funs,I.ok.frf⟩,I.os,I.bare,I.base,I.loc,I.cell,I.free,I.freeC,I.pin,I.hok,I.len⟩
theorem Inv.outSuite (ok:X.Ok) (I:Inv (bF X e) pins σ H s):Inv X pins σ H s:=⟨ok,I.os,I.bare,I.base,I.loc,I.cell,I.free,I.freeC,I.pin,I.hok,I.len⟩
theorem SP.outSuite (ok:X.Ok) {D:Ends} {f:Flow} {s':Shared} (h:SP (bF X e) pins D f s'):SP X pins D f s':=by
 cases f with
 |next=>obtain ⟨σ',H',I,q⟩:=h;exact ⟨σ',H',I.outSuite ok,q⟩
 |brk=>obtain ⟨σ',H',I,q⟩:=h;exact ⟨σ',H',I.outSuite ok,q⟩
 |cont=>obtain ⟨σ',H',I,q⟩:=h;exact ⟨σ',H',I.outSuite ok,q⟩
 |ret u=>obtain ⟨v,σ',H',I,r,q⟩:=h;exact ⟨v,σ',H',I.outSuite ok,r,q⟩
end
end L2
namespace L2
open PySem PySem.Spec PyProof.Rows
section
variable {P:Program} {w:World} {K:PySem.W.Frag} {mg:Str→Option Value} {base:Heap}
theorem Fun.okX {x qual:Str} {st:Stmt} {f:Addr} {fd:FuncData} {N ps:List Str} {k:Nat} {sp:Sp} (F:Fun K x qual st f fd) (S:FnScope N ps (jT st)) (len:∀vs H Q E,sp vs H Q E→vs.length=ps.length)
  (hbody:∀(cdv:Value) (A:Around) (outer:List Env) (s:Shared) (H:Hp) (vs:List V) (Q:VK) (E:XK),Room k (A.deeper (envOfC qual (jT st) s.heap.objs.size f cdv))→sp vs H Q E→
   ∃t,PSs (kN (kF P w) P w K mg base N qual (jT st) f cdv A outer s H E) (kY st) t∧t {nx:=fun _ H'=>Q .non H',rt:=Q} (start N vs) H):FnOk P w K mg base (kF P w) (k+1) f fd ps sp:=by
 obtain ⟨oc,od,kV,doc,pm,an,cdv,ct,osl,rfl,lk,hcd⟩:=F.ex;exact mW lk hcd S len fun A outer s H vs Q E hr hsp=>hbody cdv A outer s H vs Q E hr hsp
theorem FnOk.noX {k:Nat} {f:Addr} {fd:FuncData} {ps:List Str} {sp sp':Sp} (F:FnOk P w K mg base (kF P w) k f fd ps sp) (h:∀vs H Q E,sp' vs H Q E→sp vs H Q (fun _ _ _=>False)):FnOk P w K mg base jO k f fd ps sp' :=
 ⟨fun vs H Q E q=>F.len vs H Q _ (h _ _ _ _ q),fun A outer s H args us vs Q E hr he hb hv hs=>fo (F.run A outer s H args us vs Q _ hr he hb hv (h _ _ _ _ hs)) fun r s' hq=>by
  cases r with
  |ok fl=>cases fl<;>exact hq
  |error e=>obtain ⟨_,_,_,_,_,_,_,_,_,_,_,z⟩:=hq;exact z⟩
end
section
variable {X:Cx}
end
section
variable {X:Cx} {pins:List (Addr×Obj)} {σ:St} {H:Hp} {s:Shared}
theorem Inv.unset {i:Nat} {x:Str} {m':Str→Option Value} {h':Heap} {t':Nat} (I:Inv X pins σ H s) (hN:X.N.Nodup) (hi:X.N[i]?=some x)
  (hm:∀m,s.heap.Ns X.env.locals m→∀y,y≠x→m' y=m y) (hn:h'.Ns X.env.locals m') (hs:Heap.SameBut X.env.locals s.heap h'):Inv X pins (σ.set i none) H {s with heap:=h',toks:=t'}:=by
 obtain ⟨m,hn0,hl⟩:=id I.loc;obtain ⟨oL,_,_,hoL,_⟩:=id hn0;have hiσ:i<σ.length:=by rw [I.len];exact (ag.mp hi).1
 refine ⟨I.ok,I.os,I.bare,⟨fun b o e n hb hx=>?_,fun b o e n hb hx=>?_,I.base.free,fun b o e hx=>?_,I.base.tups,I.base.frzs,I.base.tbls⟩,⟨_,hn,fun j y v' e1 e2 e3=>?_⟩,fun y c e=>?_,I.free,I.freeC,fun p hp=>?_,?_,by simpa using I.len⟩
 ·exact (hs.2 b (aH (ar (aq e) I.ok.above))).trans (I.base.keep b o e n hb hx)
 ·obtain ⟨sl,e1⟩:=I.base.slot b o e n hb hx;exact ⟨sl,(hs.2 b (aH (ar (aq e) I.ok.above))).trans e1⟩
 ·obtain ⟨o',e1⟩:=I.base.there b o e hx;exact ⟨o',(hs.2 b (aH (ar (aq e) I.ok.above))).trans e1⟩
 ·by_cases hj:j=i
  ·subst hj;rw [bu hiσ] at e2;cases e2
  ·rw [cc (Ne.symm hj)] at e2;obtain ⟨u',r',q⟩:=hl j y v' e1 e2 e3;refine ⟨u',r',?_⟩
   rcases q with ⟨k,e⟩|⟨k,c,e,z⟩
   ·refine .inl ⟨k,?_⟩;have:y≠x:=fun e=>hj (lK hN e1 (e▸hi))
    rw [hm m hn0 y this];exact e
   ·exact .inr ⟨k,c,e,z.sameBut hs (I.cne y c e)⟩
 ·obtain ⟨w',z⟩:=I.cell y c e;exact ⟨w',z.sameBut hs (I.cne y c e)⟩
 ·obtain ⟨e,n,ne,nf,d⟩:=I.pin p hp;exact ⟨(hs.2 p.1 ne).trans e,n,ne,nf,d⟩
 ·refine I.hok.keepT fun b u hb q=>(hs.2 b fun z=>?_).trans q
  rw [z] at hb;exact hb I.free
theorem GA {h:Heap} {a:Addr} {m m':Str→Option Value} (x:h.Ns a m) (y:h.Ns a m'):m=m':=by
 obtain ⟨o,es,ep,ho,hd,_,hf⟩:=x;obtain ⟨o',es',ep',ho',hd',_,hf'⟩:=y;rw [ho] at ho';cases ho'
 rw [hd] at hd';cases hd'
 funext n;rw [← hf n,← hf' n]
theorem dF {A:Around} {E:Value→Shared→Prop} {i:Nat} {x:Str} {pos:Pos} {Q:Unit→Shared→Prop} (I:Inv X pins σ H s) (hN:X.N.Nodup) (hi:X.N[i]?=some x) (hx:X.env.scope.names.lookup x=some .local)
  (h:∀s',Inv X pins (σ.set i none) H s'→Q () s'):wpAny (model X.prog X.w) A (do bindName X.env x .none;unbindBehindTheSuite X.env x pos) Q E s:=by
 have hp:(X.env.scope.kind == .class||(X.env.scope.kind == .module&&X.env.locals != X.env.globals))=false:=by rw [I.ok.kind];rfl
 obtain ⟨m,hn,_⟩:=id I.loc;refine ac (wpAny_bindName (wpAny_storeName_local hx hn (fun h₁ hn₁ hs₁=>?_) hp));unfold unbindBehindTheSuite;refine gc ?_;unfold unbindName;refine ac (wpAny_point (ac ?_));unfold deleteName;have hl:X.env.kindOf x=some .local:=hx;simp only [hl,hp];rw [if_neg (by decide)];refine ac (wpAny_nsDel_keeps hn₁ fun h₂ v hn₂ hs₂=>?_);simp only [if_true,Option.isSome_some,Bool.not_true,Bool.false_eq_true,if_false];refine aM (wpAny_point (h _ ?_));exact I.unset hN hi (fun m0 h0 y hy=>by rw [GA h0 hn];simp [hy]) hn₂ (hs₁.trans hs₂)
theorem Inv.track {a:Addr} {o:HO} (I:Inv X pins σ H s) (ha:H a=none) (ap:uR X pins a) (new:ObjOk X.prog X.w (upd H a o) s.heap a o):Inv X pins σ (upd H a o) s:=by
 obtain ⟨n0,nl,nc,np⟩:=ap;refine ⟨I.ok,I.os,I.bare,⟨I.base.keep,I.base.slot,fun b u q n hx=>?_,I.base.there,fun b xs q=>?_,fun b u xs q=>?_,fun b ps q=>?_⟩,I.loc,I.cell,?_,fun x c e=>?_,fun p hp=>?_,fun b u e=>?_,I.len⟩
 ·rw [jL (fun z=>by rw [z,n0] at q;cases q)];exact I.base.free b u q n hx
 ·have:=I.base.tups b xs q;rw [jL (kE this ha)];exact this
 ·have:=I.base.frzs b u xs q;rw [jL (kE this ha)];exact this
 ·obtain ⟨more,e⟩:=I.base.tbls b ps q;exact ⟨more,by rw [jL (kE e ha)];exact e⟩
 ·rw [jL (Ne.symm nl)];exact I.free
 ·rw [jL (nc x c e)];exact I.freeC x c e
 ·obtain ⟨h1,h2,h3⟩:=I.pin p hp;exact ⟨h1,by rw [jL (np p hp)];exact h2,h3⟩
 ·by_cases hb:b=a
  ·subst hb;rw [jE] at e;cases e;exact new
  ·rw [jL hb] at e;exact (I.hok b u e).stay (fun c v _ q=>q) (fun c q=>by rw [jL (kE q ha)];exact q) fun c xs q=>by rw [jL (kE q ha)];exact q
end
def J4 (a C:Addr):HO:=.ext fun h=>∃o vs,h.get? a=some o∧o.cls=.ref C∧o.data=.fields vs
def GU (K:PySem.W.Frag) (C0:Addr) (i:Nat) (tb:(St→Value→Hp→Prop)→TS) (ts:TS):TS:=fun D σ H=>∃R:St→Value→Hp→Prop,tb R D σ H∧∀σ' c H',R σ' c H'→∃C,c=.ref C∧PySem.W.exmOne K (.ref C) (.ref C0)=some true∧
 ∀a,H' a=none→ts {nx:=fun σ2 H2=>D.nx (σ2.set i none) H2,rt:=D.rt,bk:=fun σ2 H2=>D.bk (σ2.set i none) H2,ct:=fun σ2 H2=>D.ct (σ2.set i none) H2} (σ'.set i (some (.ref a))) (upd H' a (J4 a C))
theorem ES {X:Cx} {body:List Stmt} {x n:Str} {C0:Addr} {i:Nat} {np hpos pos:Pos} {b₀:Stmt} {suite:List Stmt} {tb:(St→Value→Hp→Prop)→TS} {ts:TS} (hex:X.ex=[]) (hstk:X.stack=X.env::X.outer) (hf:X.env.frame=some X.env.locals)
  (hN:X.N.Nodup) (hi:X.N[i]?=some n) (hl:X.env.scope.names.lookup n=some .local)
  (hg:Gl X x) (hm:X.mg x=some (.ref C0)) (hb:∀pins R,QT (JU X pins R) R→PSs (JU X pins R) body (tb R)) (hs:∀e,PSs (bF X e) (b₀::suite) ts) (hdb:(x == ("__debug__":Str))=false:=by decide) :
  PS X (.Try body [.ExceptHandler (some (.Name x np)) (some n) (b₀::suite) hpos] [] [] pos) (GU X.K C0 i tb ts):=by
 intro pins s σ H D I h;obtain ⟨R,h1,h2⟩:=h;refine wpAny_Try_except (bp (hb pins R (D7 hex) [] s σ H D I.intoTry h1) (fun f s1 q=>?_) (fun v s1 q=>?_))
 ·have q':=q.outTry;cases f with
  |next=>exact gg q'
  |brk=>exact q'
  |cont=>exact q'
  |ret u=>exact q'
 ·obtain ⟨a,C',σ',H',rfl,J,⟨B,a0,fl,ground⟩,ha,ap,r⟩:=q;obtain ⟨C,e1,hexm,h3⟩:=h2 σ' (.ref C') H' r;cases e1;have fl0:Heap.FlyingW B (X.env::X.outer) a (.ref C') a0 s1.heap:=by rw [hstk] at fl;exact fl
  have hfr:X.A.frames=some (X.env::X.outer):=by rw [← hstk];exact J.ok.frames
  refine wpAny_looks_onW hfr hf fl0 fun h4 held4 up4=>?_
  refine wpAny_landsW held4 fun h5 fl5 up5=>?_
  have J5:Inv X pins σ' H' {s1 with heap:=h5}:=J.fly hstk hf (fun b o q n z=>fl5.1 b o (ground b o q n z)) (up4.trans up5);obtain ⟨ob,hob,hobc⟩:=fl5.there;have LT:PySem.W.Looks (model X.prog X.w) h5 (typeOf (.ref a)) (.ref C'):=by
   have:PySem.W.Looks (model X.prog X.w) h5 (typeOf (.ref a)) ob.cls:=(PySem.W.Looks.ld hob).andThen .now;rw [hobc] at this;exact this
  refine wpAny_handleBy_cons (codeAny_handlers_test (QN (J5.intoSuite (.ref a)) hg hm ?_ hdb)) (by intro q;cases q);have KI:X.K.In h5:=J5.kIn;refine (PySem.W.exm_one KI LT hexm).here ?_;refine codeAny_handlers_suite_as ?_;refine lands_againW fl5 fun h6 fl6 up6=>?_
  have J6:Inv X pins σ' H' {s1 with heap:=h6}:=J.fly hstk hf (fun b o q n z=>fl6.1 b o (ground b o q n z)) ((up4.trans up5).trans up6);obtain ⟨oe,vs,hoe,hoec,hoed,_⟩:=fl6.first;have new:ObjOk X.prog X.w (upd H' a (J4 a C')) h6 a (J4 a C') :=
   ⟨⟨oe,vs,hoe,hoec,hoed⟩,⟨oe,hoe⟩,fun h1 h2 ⟨o,vs,e1,e2,e3⟩ k=>⟨o,vs,k o e1,e2,e3⟩⟩
  have J7:Inv X pins σ' (upd H' a (J4 a C')) {s1 with heap:=h6}:=J6.track ha ap new;refine lH (X:=bF X (.ref a)) (i:=i) (v:=.ref a) (J7.intoSuite (.ref a)) hN hi (.inl hl) rfl (fun s7 J8=>?_) (.inr hl);refine bp (hs (.ref a) pins _ _ _ _ J8 (h3 a ha)) (fun f s' q=>?_) fun _ _ z=>False.elim z
  have q':=q.outSuite J6.ok;cases f with
  |next=>obtain ⟨σ2,H2,I2,q2⟩:=q';exact dF I2 hN hi hl fun s'' I3=>⟨_,_,I3,q2⟩
  |brk=>obtain ⟨σ2,H2,I2,q2⟩:=q';exact dF I2 hN hi hl fun s'' I3=>⟨_,_,I3,q2⟩
  |cont=>obtain ⟨σ2,H2,I2,q2⟩:=q';exact dF I2 hN hi hl fun s'' I3=>⟨_,_,I3,q2⟩
  |ret u=>obtain ⟨v,σ2,H2,I2,r2,q2⟩:=q';exact dF I2 hN hi hl fun s'' I3=>⟨_,_,_,I3,r2,q2⟩
end L2
namespace L2
open PySem PySem.Spec PySem.Calls PyProof.Rows PySem.W
structure ExcAttr (K:PySem.W.Frag) (C:Addr):Prop where
 ga:PySem.W.findIn K (.ref C) "__getattribute__"=some (some (.builtin "BaseException.__getattribute__"))
 gn:PySem.W.findIn K (.ref C) "__getattr__"=some none
 ca:PySem.W.findIn K (.ref C) "__class__"=some (some (.builtin "object.__class__"))
 mo:PySem.W.mroIn K C (.type "object")=some true
 mb:PySem.W.subIn K (.ref C) (.type "BaseException")=some true
section
variable {prog:Program} {w:World} {A:Around} {E:Value→Shared→Prop} {h:Heap} {g:Array GenState} {d:Drawn} {t:Nat} {os:OsState} {a C:Addr} {o:Obj} {K:PySem.W.Frag}
open PySem.Builtin PySem.Builtin.ObjectAttr PySem.Builtin.Getset_descriptor in
theorem GN {R:Result→Shared→Prop} {tp:Value} (X:K.In h) (Z:ExcAttr K C) (hx:h.get? a=some o) (hc:o.cls=.ref C) (hq:R (.ok (.ret (.ref C))) ⟨h,g,d,t,os⟩) :
  codeAny (model prog w) A (.call (.builtin "getset_descriptor.__get__") ⟨[.builtin "object.__class__",.ref a,tp],[]⟩) R ⟨h,g,d,t,os⟩:=by
 have L0:PySem.W.Looks (model prog w) h (typeOf (.ref a)) (.ref C):=hc▸(PySem.W.Looks.ld hx).andThen .now;have L1:=PySem.W.looks_mroIn (M:=model prog w) X Z.mo;refine codeAny_call_builtin KF.slot_gs.plain KF.entry_gs (KF.slot_gs.check _ _ _ _ _ _ _ _ KF.type_class (KF.args_gs _ _ _) ?_);unfold Builtin.«getset_descriptor.__get__» descrGet;rw [dga_obj];refine ac (aM ?_);unfold descrGetter descrCheckInstance descrNameAndClass isInstance;simp only [KF.owner_class]
 repeat lk
 refine ⟨Code.quiet_builtin _ (by decide +kernel),codeAny_builtin KF.entry_class ?_⟩;unfold Builtin.«object.__class__» shownTypeOf
 repeat lk
 exact hq
theorem D9 {tk:Tok} {Q:Fin→Shared→Prop} (X:K.In h) (Z:ExcAttr K C) (hx:h.get? a=some o) (hc:o.cls=.ref C) (hq:Q (.done (.ret (.ref C))) ⟨h,g,d,t,os⟩) :
  wpAny (model prog w) A (Builtin.«object.__getattribute__» ⟨[.ref a,.str "__class__" tk],[]⟩) Q E ⟨h,g,d,t,os⟩:=by
 have hT5:(⟨h,g,d,t,os⟩:Shared).TypeIs (.builtin "object.__class__") "getset_descriptor":=F.typeOf_object_class;have f5:=F.typeOf_object_class;have f6:=F.slot_gs_get.lookup;have f7:=F.slot_gs_set.lookup;have L1:=em (M:=model prog w) X Z.ca
 repeat (any_goals (first|assumption|(with_reducible refine wpAny_loadPart_at hx ?_;rw [hc])|with_reducible refine L1.at ?_|wp_step))
 refine GN X Z hx hc ?_
 repeat (any_goals (first|assumption|wp_step))
theorem EA {M:Model} {nameV:Value} {Q:Unit→Shared→Prop} (X:K.In h) (Z:ExcAttr K C) (hx:h.get? a=some o) (hc:o.cls=.ref C) (hq:Q () ⟨h,g,d,t,os⟩) :
  wpAny M A (checkBuiltinCall "BaseException.__getattribute__" ⟨[.ref a,nameV],[]⟩) Q E ⟨h,g,d,t,os⟩:=by
 have hk:builtinKind "BaseException.__getattribute__"=some .slot:=by decide +kernel
 have hsplit:splitId "BaseException.__getattribute__"=some ("BaseException","__getattribute__"):=by decide +kernel
 have L1:PySem.W.Looks M h (isSubtype (.ref C) (.type "BaseException")) true:=PySem.W.looks_subIn X Z.mb;have ha:=F.args_bexc_ga (.ref a) nameV;simp only [checkBuiltinCall,hk,hsplit];refine ac ?_
 ·unfold isInstance
  repeat (first|(with_reducible refine wpAny_loadPart_at hx ?_;rw [hc])|with_reducible refine L1.at ?_|wp_step)
  exact hq
theorem E7 {tk:Tok} {R:Result→Shared→Prop} (X:K.In h) (Z:ExcAttr K C) (hx:h.get? a=some o) (hc:o.cls=.ref C) (hq:R (.ok (.ret (.ref C))) ⟨h,g,d,t,os⟩) :
  codeAny (model prog w) A (.call (.builtin "BaseException.__getattribute__") ⟨[.ref a,.str "__class__" tk],[]⟩) R ⟨h,g,d,t,os⟩ :=
 codeAny_call_builtin PySem.F.attr_ValueError.ga.plain F.entry_bexc_ga (EA X Z hx hc (D9 X Z hx hc hq))
theorem HK {tk:Tok} {fill expr:Bool} {Q:Value→Shared→Prop} (X:K.In h) (Z:ExcAttr K C) (hx:h.get? a=some o) (hc:o.cls=.ref C) (hq:Q (.ref C) ⟨h,g,d,t,os⟩) :
  wpAny (model prog w) A (getAttrBy (.ref a) (.str "__class__" tk) fill expr) Q E ⟨h,g,d,t,os⟩:=by
 have f3:=PySem.F.attr_ValueError.ga.bind (.ref a);have hx0:(expr&&onTheHeap (Value.builtin "BaseException.__getattribute__"))=false:=by cases expr<;>rfl
 have hx2:(Value.builtin "BaseException.__getattribute__" == Value.builtin "object.__getattribute__")=false:=by decide +kernel
 have hx1:(onTheHeap (Value.ref C)&&Value.builtin "BaseException.__getattribute__" == Value.builtin "object.__getattribute__")=false:=by rw [hx2];rfl
 have L1:=em (M:=model prog w) X Z.ga;have L2:=em (M:=model prog w) X Z.gn
 repeat (any_goals (first|assumption|(with_reducible refine wpAny_loadPart_at hx ?_;rw [hc])|with_reducible refine L1.at ?_|with_reducible refine L2.at ?_|wp_step))
 refine E7 X Z hx hc ?_
 repeat (any_goals (first|assumption|wp_step))
theorem E8 {Q:Option Value→Shared→Prop} (X:K.In h) (Z:ExcAttr K C) (hx:h.get? a=some o) (hc:o.cls=.ref C) (hq:Q (some (.ref C)) ⟨h,g,d,t+1,os⟩) :
  wpAny (model prog w) A (getAttr? (.ref a) "__class__") Q E ⟨h,g,d,t,os⟩:=by
 unfold getAttr? getAttrBy?
 repeat (any_goals (first|assumption|with_reducible apply HK X Z hx hc|wp_step))
end
theorem r9 {K:PySem.W.Frag} {a C:Addr} (Z:ExcAttr K C) (hcl:(PySem.W.clsIn K C).isSome=true):PySem.W.KitX K (.ref a) (.ref C) (fun h=>∃o vs,h.get? a=some o∧o.cls=.ref C∧o.data=.fields vs) where
 ty:=fun M h _ ⟨o,_,h1,h2,_⟩=>h2▸(PySem.W.Looks.ld h1).andThen .now
 it:=fun _ _ X _=>by
  unfold PySem.W.clsIn at hcl
  split at hcl
  ·rename_i c' d' cd' sl' ho;intro A' Q' E' s' k q;unfold isType loadHead;exact ac (wpAny_loadPart (k _ _ (X _ _ ho)) (aM q))
  ·cases hcl
 ne:=fun h tp dd its n sl X htp=>by
  refine cg.mpr fun q=>?_
  have e:C=tp:=Value.ref.inj (er.mp q);subst e;unfold PySem.W.clsIn at hcl
  split at hcl
  ·rename_i c' d' cd' sl' ho;have z:=(X _ _ ho).symm.trans htp;cases z
  ·cases hcl
 ca:=fun {_ _ _ _ _ s} X ⟨o,_,h1,h2,_⟩ k=>by
  obtain ⟨h,g,d,t,os⟩:=s;exact E8 X Z h1 h2 k
section
variable {X:Cx}
def KJ (K:PySem.W.Frag):List V→Hp→VK→Prop:=fun xs H Q=>∃(a C:Addr) (c:V) (b:Bool),xs=[.ref a,c]∧H a=some (J4 a C)∧ExcAttr K C∧(PySem.W.clsIn K C).isSome=true∧
 ((∃u,KY c=some u∧PySem.W.kitOne K (.ref C) u=some b)∨∃(p:Addr) (ds:List Addr),c=.ref p∧H p=some (.tup (ds.map V.ref))∧PySem.W.kitAny K (.ref C) (ds.map Value.ref)=some b)∧Q (.bl b) H
theorem pM:∀{ds:List Addr} {us:List Value},Vals (ds.map V.ref) us→us=ds.map Value.ref
 |[],_,r=>by cases r;rfl
 |d::ds,_,r=>by
  cases r with
  |cons h t =>
   cases (show _=Value.ref d from h);rw [pM t];rfl
theorem QL {K:PySem.W.Frag} (hK:X.K=K:=by rfl):yA X (.builtin "isinstance") (KJ K):=by
 subst hK;intro pins s σ H xs us Q I r h;obtain ⟨a,C,c,b,rfl,ha,Z,hcl,hc,q⟩:=h;obtain ⟨u1,u2,rfl,r1,r2⟩:=uG r;cases (show u1=Value.ref a from r1);obtain ⟨p,_,_⟩:=(show ObjOk X.prog X.w H s.heap a (J4 a C) from I.hok a _ ha)
 rcases hc with ⟨u,hu,e⟩|⟨tp,ds,rfl,ht,e⟩
 ·have e2:u2=u:=by
   cases c with
   |ty n=>cases (show u2=Value.type n from r2);exact az hu
   |ref a=>cases (show u2=Value.ref a from r2);exact az hu
   |_=>cases hu
  subst e2;exact PySem.W.kia_one (r9 Z hcl) I.kIn p e (fun z=>nomatch z) fun tk=>⟨.bl b,H,I.tok _,rfl,q⟩
 ·cases (show u2=Value.ref tp from r2);obtain ⟨_,its,rv,ob,h1,h2,n,h3⟩:=(show ObjOk X.prog X.w H s.heap tp (.tup (ds.map V.ref)) from I.hok tp _ ht);have hi:=pM rv;subst hi;obtain ⟨oc,od,odt,osl⟩:=ob
  dsimp only at h2 h3
  subst h2 h3;exact PySem.W.kia_tup (r9 Z hcl) I.kIn p h1 e (fun z=>nomatch z) fun tk=>⟨.bl b,H,I.tok _,rfl,q⟩
end
end L2
namespace L2
open PySem PySem.Spec PyProof.Rows
section
variable {X:Cx} {x:Str} {C:Addr} {pos p:Pos} {e:Expr} {es:List Expr} {t:TA}
end
section
variable {X:Cx}
end
def GW (C:Addr) (m:Str) (sp:Sp) (R:St→Value→Hp→Prop) (ta:TE) (t:TA):TE:=fun σ H Q=>ta σ H fun x H1=>∃a dx fs,x=.ref a∧H1 a=some (.ins C dx fs)∧fs.lookup m=none∧
 t σ H1 fun vs H2=>sp (x::vs) H2 Q (fun c _ H'=>R σ c H')
structure MeX (P:Program) (w:World) (K:PySem.W.Frag) (mg:Str→Option Value) (base:Heap) (k:Nat) (C:Addr) (m:Str) (ps:List Str) (sp:Sp):Prop where
 ex:Cls K C∧∃(f:Addr) (fd:FuncData),Meth K C m f∧FnOk P w K mg base (kF P w) k f fd ps sp∧Binds K fd ps []
section
variable {X:Cx} {R:St→Value→Hp→Prop} {k k':Nat} {x m:Str} {C:Addr} {ps:List Str} {sp:Sp} {p pos apos:Pos} {o e:Expr} {es:List Expr} {ta:TE} {t:TA}
theorem JV {pl:Sem Bool} (M:MeX X.prog X.w X.K X.mg X.base k C m ps sp) (hx:QT X R) (hr:Room k' X.A) (ho:PE X o ta) (ha:PA X (e::es) t) (hk:k≤k':=by decide)
  (hst:starEach (e::es) X.env=(false,eval e X.env)::starEach es X.env:=by rfl) (hpl:(backTo pos (starEach es X.env)).any (·.1)=false:=by rfl)
  (ht:eval (.Call (.Attribute o m apos) (e::es) [] pos) X.env=(do
   let ov ← eval o X.env
   standAt apos.atName
   let (f,first) ← holding [ov] (getMethod ov m pl)
   callWith pos f first (backTo pos (starEach (e::es) X.env)) (backToKw pos (keywordEach [] X.env))):=by rfl) :
  PE X (.Call (.Attribute o m apos) (e::es) [] pos) (GW C m sp R ta t):=by
 obtain ⟨c,f,fd,hm,G,b⟩:=M.ex;intro pins s σ H Q I h;refine fq (pl:=pl) (jN (ho pins s σ H _ I h) fun u s1 ⟨x,H1,I1,rx,a,dx,fs,ex,ea,l,q⟩=>?_) ht;subst ex;obtain rfl:u=Value.ref a:=rx;refine pH I1 ea c hm l ?_;refine cz (first:=[.ref a]) (h₀:=X.base) I.ok.mod.kin hm.kp (jN (ha pos pins s1 σ H1 _ I1 q) fun us s2 ⟨vs,H2,I2,r,q2⟩=>⟨I2.kIn,?_⟩) hst hpl;exact sX (us:=.ref a::us) (vs:=.ref a::vs) (dvs:=[]) G (hr.mono hk) b .nil hx I2 (.cons rfl r) (by rw [bx];exact q2)
theorem t0 {CX:vK} {P:Program} {w:World} {K:PySem.W.Frag} {mg:Str→Option Value} {base:Heap} {N:List Str} {qual:Str} {scope:Scope} {f:Addr} {cd:Value} {A:Around} {outer:List Env} {s:Shared} {H:Hp} {E:XK} :
  PassesOwn (model (kN CX P w K mg base N qual scope f cd A outer s H E).prog (kN CX P w K mg base N qual scope f cd A outer s H E).w) (kN CX P w K mg base N qual scope f cd A outer s H E).A (kN CX P w K mg base N qual scope f cd A outer s H E).env (kN CX P w K mg base N qual scope f cd A outer s H E).xe:=by
 intro e s' h;exact PassesOwn.leaving (Q₁:=fun e s''=>CX outer H s E e s'') (E₁:=fun e' s''=>CX outer H s E e' s'') e s' h
end
section
variable {κ:Type} [DecidableEq κ]
end
section
variable {P:Program} {w:World} {H:Hp} {h:Heap} {a:Addr}
end
section
variable {X:Cx} {pins:List (Addr×Obj)} {σ:St} {H:Hp} {s:Shared} {a:Addr} {y v:V} {u r:Value} {o:Option V} {A:Around} {E:Value→Shared→Prop}
end
section
variable {X:Cx} {pins:List (Addr×Obj)} {σ:St} {H:Hp} {s:Shared} {a:Addr} {kvs:List (vQ×V)} {k:vQ} {u:Value} {A:Around} {E:Value→Shared→Prop}
end
section
variable {X:Cx} {o i e value:Expr} {pos pos' tpos:Pos} {td ty tv:TE}
end
section
variable {X:Cx} {pos:Pos}
end
section
variable {X:Cx} {tg:Expr}
end
section
variable {X:Cx}
end
inductive Kd where
 |plain|basin|pump
section
variable {X:Cx} {k k':Nat} {x m:Str} {cs:Kd→Addr} {ps:List Str} {ss:Kd→Sp} {p pos apos:Pos} {o e:Expr} {es:List Expr} {ta:TE} {t:TA}
end
def QE (z:Str):It:=⟨fun i _=>i<z.cps.size,fun i H v H'=>H'=H∧∃c,z.cps[i]?=some c∧v=.str ⟨#[c]⟩,fun i _=>i=z.cps.size⟩
theorem pP {P:Program} {w:World} {K:PySem.W.Frag} {tg:Expr} (it:Addr) (z:Str) (t:Tok) (T:String)
  (W:∀A:Around,A.handled=none→Walks P w A it [it] [it] z.cps.size (SignAt z) (fun i h=>h.IsStrIter it T z t i))
  (hn:["enumerate","zip","dict_itemiterator","dict_reverseitemiterator","odict_iterator","itertools.zip_longest","itertools.pairwise"].contains T=false)
  (hself:∀(A:Around) (i:Nat) (s:Shared) (Q:Value→Shared→Prop) (E:Value→Shared→Prop),s.heap.IsStrIter it T z t i→Q (.ref it) s→wpAny (model P w) A (pyIter (.ref it)) Q E s) :
  Turn P w K tg (QE z) [it] it (fun i h=>h.IsStrIter it T z t i) where
 mem:=by simp
 obj:=fun i h st b hb=>by
  have e:b=it:=by simpa using hb
  subst e;obtain ⟨o,ho,_,hd⟩:=st;exact ⟨o,ho,fun v q=>by rw [hd] at q;cases q⟩
 keep:=fun i h h' st k=>by
  obtain ⟨o,ho,r⟩:=st;exact ⟨o,k it (by simp) o ho,r⟩
 item:=by
  intro X hP hw hK hc i pins s σ H E I hf st hg;subst hP hw hK;obtain ⟨f0,f1,f2,f3,f4,f5⟩:=hf it (by simp);refine (W X.A (I.ok.hd hc)).item i s _ _ hg st fun v h' tk hv st' kk=>?_
  obtain ⟨c,u,hcx,rfl⟩:=hv;have I1:Inv X pins σ H {s with heap:=h',toks:=tk}:=I.turned (fun b o hb e=>kk b o (by simpa using hb) e) f0 f1 f3 f4 f5;have st2:=st';obtain ⟨o,ho,hcl,hd⟩:=st2;exact ⟨_,rfl,eV (s:={s with heap:=h',toks:=tk}) (n:=T) ho hcl hd hn ⟨.str ⟨#[c]⟩,H,I1,⟨u,rfl⟩,⟨rfl,c,hcx,rfl⟩,st',fun b hb=>(hf b hb).1⟩⟩
 done:=by
  intro X hP hw hK hc i pins s σ H E I hf st hg;subst hP hw hK;obtain ⟨f0,f1,f2,f3,f4,f5⟩:=hf it (by simp);have e:i=z.cps.size:=hg;subst e;exact (W X.A (I.ok.hd hc)).done s _ _ st fun h' tk eb=>⟨rfl,I.turned (fun b o hb e=>eb b o (by simpa using hb) e) f0 f1 f3 f4 f5⟩
 self:=fun A i s Q E st h=>hself A i s Q E st h
section
variable {X:Cx} {tg:Expr}
def KP (tl:TE):TI:=fun σ H R=>tl σ H fun x H1=>∃z:Str,x=.str z∧R (QE z) H1
theorem tX {l:Expr} {tl:TE} (hl:PE X l tl):PI X tg l (KP tl):=by
 intro pins s σ H R I h;refine jN (hl pins s σ H _ I h) fun v s1 ⟨x,H1,I1,r1,q1⟩=>?_
 obtain ⟨z,e,q⟩:=q1;subst e;obtain ⟨t,rfl⟩:=r1;have fin:∀(o:Obj) (T:String) (tn:Nat→Heap→Prop),Turn X.prog X.w X.K tg (QE z) [s1.heap.objs.size] s1.heap.objs.size tn→tn 0 (s1.heap.push o)→oA X pins σ tg R (.ref s1.heap.objs.size) {s1 with heap:=s1.heap.push o}:=by
  intro o T tn tu h0;refine ⟨s1.heap.objs.size,[s1.heap.objs.size],tn,_,H1,rfl,I1.kept (t':=s1.toks) fun b o e=>ao _ e,tu,h0,fun b hb=>?_,q⟩;have e:b=s1.heap.objs.size:=by simpa using hb
  subst e;exact I1.fpOk (ai _) (I1.hok.fresh (ai _))
 cases ha:z.cps.all (· < 128)
 ·exact wpAny_pyIter_wide ha (fin _ "str_iterator" _ (pP _ z t "str_iterator" (fun A hA=>Walks.strWide hA _ z t) (by decide) (fun A i s Q E st h=>wpAny_pyIter_striter_wide st h)) ⟨_,ay _ rfl,rfl,rfl⟩)
 ·exact wpAny_pyIter_ascii ha (fin _ "str_ascii_iterator" _ (pP _ z t "str_ascii_iterator" (fun A hA=>Walks.strAscii hA _ z t) (by decide) (fun A i s Q E st h=>wpAny_pyIter_striter_ascii st h)) ⟨_,ay _ rfl,rfl,rfl⟩)
end
variable {z:Str} {H:Hp}
theorem GL {g:TG} {tb:TS} {D:Ends} {σ:St} (Pv:Nat→St→Hp→Prop) (h0:Pv 0 σ H)
  (hs:∀i c σ H,z.cps[i]?=some c→Pv i σ H→g (.str ⟨#[c]⟩) σ H fun σ2 H2=>tb {D with nx:=Pv (i+1),ct:=Pv (i+1),bk:=D.nx} σ2 H2) (hd:∀σ H,Pv z.cps.size σ H→D.nx σ H) :
  ∃W:Nat→Nat→St→Hp→Prop,(∃m,W 0 m σ H)∧∀i m σ H,W i m σ H→
   ((QE z).stop i H∧D.nx σ H)∨((QE z).go i H∧∃N:St→Hp→Prop,(∀σ' H',N σ' H'→∃m',m'<m∧W (i+1) m' σ' H')∧∀x H',(QE z).yld i H x H'→g x σ H' fun σ2 H2=>tb {D with nx:=N,ct:=N,bk:=D.nx} σ2 H2):=by
 refine ⟨fun i m σ H=>m=z.cps.size - i∧i≤z.cps.size∧Pv i σ H,⟨_,rfl,aG _,h0⟩,?_⟩;rintro i m σ H ⟨rfl,hi,p⟩
 by_cases hlt:i<z.cps.size
 ·refine .inr ⟨hlt,Pv (i+1),fun σ' H' p'=>⟨z.cps.size - (i+1),by omega,rfl,hlt,p'⟩,fun x H' y=>?_⟩;obtain ⟨e,c,hc,y⟩:=y;subst e y;exact hs i c σ _ hc p
 ·have e:i=z.cps.size:=by omega
  subst e;exact .inl ⟨rfl,hd σ H p⟩
theorem DJ {D:Addr} {g:TG} {tc:TT} {te:TE} {σ₀:St} {Q:Hp→Prop} (Pv:Nat→St→Hp→Prop) (h0:Pv 0 σ₀ (upd H D (.lst [])))
  (hs:∀i c σ H,z.cps[i]?=some c→Pv i σ H→g (.str ⟨#[c]⟩) σ H fun σ2 H3=>tc σ2 H3 fun b H4=>if b=true then te σ2 H4 fun v H5=>∃ys,H5 D=some (.lst ys)∧ys.length<sizeLine∧Pv (i+1) σ2 (upd H5 D (.lst (ys++[v]))) else Pv (i+1) σ2 H4)
  (hd:∀σ H,Pv z.cps.size σ H→Q H):y0 D (QE z) g tc te σ₀ H Q:=by
 refine ⟨fun i m σ H=>m=z.cps.size - i∧i≤z.cps.size∧Pv i σ H,⟨_,rfl,aG _,h0⟩,?_⟩;rintro i m σ H ⟨rfl,hi,p⟩
 by_cases hlt:i<z.cps.size
 ·refine .inr ⟨hlt,Pv (i+1),fun σ' H' p'=>⟨z.cps.size - (i+1),by omega,rfl,hlt,p'⟩,fun x H' y=>?_⟩;obtain ⟨e,c,hc,y⟩:=y;subst e y;exact hs i c σ _ hc p
 ·have e:i=z.cps.size:=by omega
  subst e;exact .inl ⟨rfl,hd σ H p⟩
theorem EF {D:Addr} {tc:TT} {te:TE} {caps:St} {Q:Hp→Prop} (R:Nat→List V→Hp→Prop) (hD:H D=none) (h0:R 0 [] (upd H D (.lst [])))
  (hs:∀i c ys Hi,z.cps[i]?=some c→ys.length≤i→Same H Hi→Hi D=some (.lst ys)→R i ys Hi→tc (some (.str ⟨#[c]⟩)::caps) Hi fun b H4=>if b=true then te (some (.str ⟨#[c]⟩)::caps) H4 fun v H5=>∃zs,H5 D=some (.lst zs)∧zs.length<sizeLine∧v9 H D caps R (i+1) (some (.str ⟨#[c]⟩)::caps) (upd H5 D (.lst (zs++[v])))
   else v9 H D caps R (i+1) (some (.str ⟨#[c]⟩)::caps) H4)
  (hd:∀ys Hf,Same H Hf→Hf D=some (.lst ys)→ys.length≤z.cps.size→R z.cps.size ys Hf→Q Hf):y0 D (QE z) (zN 0) tc te (none::caps) H Q:=by
 refine DJ (v9 H D caps R) ⟨[],none,rfl,qI hD (Same.refl H),jE,ai _,h0⟩ ?_ ?_
 ·rintro i c σ Hi hi ⟨ys,c',rfl,s,hY,hl,r⟩;exact hs i c ys Hi hi hl s hY r
 ·rintro σ Hf ⟨ys,c,rfl,s,hY,hl,r⟩;exact hd ys Hf s hY hl r
section
variable {X:Cx}
end
end L2
namespace L2
open PySem PySem.Spec PyProof.Rows
section
variable {X:Cx} {K:PySem.W.Frag} {w:World} {o i:Expr} {pos:Pos} {td ty:TE}
end
inductive DEq (K:PySem.W.Frag) (H:Hp):V→V→Bool→Prop where
 |flat {x y:V} (hx:qG x=true) (hy:qG y=true):DEq K H x y (qA x y)
 |same (a:Addr):DEq K H (.ref a) (.ref a) true
 |tup {a b:Addr} {xs ys:List V} (ne:a≠b) (ha:SqT K H a xs) (hb:SqT K H b ys) (fx:xs.all qG=true) (fy:ys.all qG=true):DEq K H (.ref a) (.ref b) (zS xs ys)
 |lst {a b:Addr} {xs ys:List V} (ne:a≠b) (ha:SqL K H a xs) (hb:SqL K H b ys) (fx:xs.all qG=true) (fy:ys.all qG=true):DEq K H (.ref a) (.ref b) (zS xs ys)
section
variable {X:Cx} {pins:List (Addr×Obj)} {σ:St} {H:Hp} {s:Shared} {A:Around}
theorem DEq.at {x y:V} {u v:Value} {e:Bool} (I:Inv X pins σ H s) (d:DEq X.K H x y e) (rx:RelV x u) (ry:RelV y v) (hu:A.units<cLine):SeqAt.EqAt A s u v e:=by
 cases d with
 |flat hx hy=>exact JR rx ry hx hy
 |same a=>cases rx;cases ry;exact gj _
 |@tup a b xs ys ne ha hb fx fy =>
  cases rx;cases ry
  obtain ⟨its,r,pl,hz⟩:=I.tuple ha;obtain ⟨its2,r2,pl2,hz2⟩:=I.tuple hb;have hl:=r.length;have hl2:=r2.length;have h:=SeqAt.RcAt.tuples (A:=A) (e:=fun j=>qA (xs.getD j .non) (ys.getD j .non)) pl pl2 hu (fun j h1 h2=>JR (vS r h1) (vS r2 h2) (bB fx (by rw [hl];simpa using h1)) (bB fy (by rw [hl2];simpa using h2)));have e:((List.range (min its.toArray.size its2.toArray.size)).all (fun j=>qA (xs.getD j .non) (ys.getD j .non))&&its.toArray.size == its2.toArray.size)=zS xs ys:=by
   unfold zS;rw [ae,ae,← hl,← hl2]
  rw [e] at h;exact ff ne h
 |@lst a b xs ys ne ha hb fx fy =>
  cases rx;cases ry
  obtain ⟨its,r,pl,hz⟩:=I.list ha;obtain ⟨its2,r2,pl2,hz2⟩:=I.list hb;have hl:=r.length;have hl2:=r2.length
  by_cases he:xs.length=ys.length
  ·have h:=SeqAt.RcAt.lists (A:=A) (e:=fun j=>qA (xs.getD j .non) (ys.getD j .non)) pl.isList pl2.isList (by rw [ae,ae,← hl,← hl2,he]) hu (fun j h1 h2=>JR (vS r h1) (vS r2 h2) (bB fx (by rw [hl];simpa using h1)) (bB fy (by rw [hl2];simpa using h2)));have e:((List.range its.toArray.size).all (fun j=>qA (xs.getD j .non) (ys.getD j .non)))=zS xs ys:=by
    unfold zS;rw [ae,← hl,← he,Nat.min_self,cw,ge]
   rw [e] at h;exact ff ne h
  ·have hf:zS xs ys=false:=by
    unfold zS;rw [show (xs.length == ys.length)=false from bv.mpr he,Bool.and_false]
   rw [hf];exact ff ne (SeqAt.RcAt.lists_lengths pl.isList pl2.isList (by rw [ae,ae,← hl,← hl2];exact bne_iff_ne.mpr he) hu)
end
section
variable {X:Cx}
def GZ:V→List V→Hp→VK→Prop:=fun x vs H Q=>∃(l:Addr) (xs:List V) (y:V) (j:Nat),x=.ref l∧vs=[y]∧H l=some (.lst xs)∧qG y=true∧xs.all qG=true∧j<xs.length∧j≤1000∧qA (xs.getD j .non) y=true∧(∀i,i<j→qA (xs.getD i .non) y=false)∧Q (.int (j:Int)) H
theorem lL:fK X "list.index" GZ:=by
 intro pins s σ H x vs v us Q I rx rv h;obtain ⟨l,xs,y,j,rfl,rfl,hH,fy,fx,hj,hj2,he,hno,q⟩:=h;cases rx;obtain ⟨u,rfl,ru⟩:=rv.one;obtain ⟨z,its,n,r,hl,e⟩:=I.lstM hH;have get:∀(m:Nat) (hm:m<its.toArray.size),vI y its.toArray[m]=qA (xs.getD m .non) y:=fun m hm=>eE (vS r hm) (bB fx (by rw [hl];simpa using hm))
 have hjs:j<its.toArray.size:=by rw [ae,← hl];exact hj
 refine eh F.slot_list_index ⟨_,e,rfl⟩ F.entry_list_index (F.args_list_index_2 _ _) (SeqAt.list_indexAt l its.toArray n none #[] u (vI y) j hjs (by omega) (by rw [get j hjs];exact he) (fun m hm hlt=>by rw [get m hm];exact hno m hlt)) ⟨e,fun w hw=>QI ru fy r fx w (by simpa using hw),⟨.int (j:Int),H,I.tok _,⟨_,rfl⟩,q⟩⟩
end
theorem JN {X:Cx} (K:PySem.W.Frag) (h:X.K=K:=by rfl):yA X (.type "tuple") (fun xs H Q=>∃p ys,xs=[.ref p]∧((SqL K H p ys∧∀l,H l=none→Q (.ref l) (upd H l (.tup ys)))∨(SqT K H p ys∧Q (.ref p) H))):=by subst h;exact CA
section
variable {X:Cx}
end
section
variable {X:Cx} {tg:Expr}
end
theorem pO {K:PySem.W.Frag} {a D:Addr} {xs:List V} {g:TG} {tc:TT} {te:TE} {σ₀:St} {H:Hp} {Q:Hp→Prop} (Pv:Nat→St→Hp→Prop) (h0:Pv 0 σ₀ (upd H D (.lst []))) (hl:∀i σ H,i≤xs.length→Pv i σ H→SqT K H a xs)
    (hs:∀i x σ H,xs[i]?=some x→Pv i σ H→g x σ H fun σ2 H3=>tc σ2 H3 fun b H4=>if b=true then te σ2 H4 fun v H5=>∃ys,H5 D=some (.lst ys)∧ys.length<sizeLine∧Pv (i+1) σ2 (upd H5 D (.lst (ys++[v]))) else Pv (i+1) σ2 H4)
    (hd:∀σ H,Pv xs.length σ H→Q H):y0 D (Q3 K a) g tc te σ₀ H Q:=by
  refine ⟨fun i m σ H=>m=xs.length - i∧i≤xs.length∧Pv i σ H,⟨xs.length,by simp,aG _,h0⟩,?_⟩;rintro i m σ H ⟨rfl,hi,p⟩;have q:=hl i σ H hi p
  by_cases hlt:i<xs.length
  · refine .inr ⟨⟨xs,xs[i],q,by simp [hlt]⟩,Pv (i+1),fun σ' H' p'=>⟨xs.length - (i+1),by omega,rfl,hlt,p'⟩,fun x H' y=>?_⟩
    obtain ⟨e,y⟩:=y;subst e;exact hs i x σ _ (y xs q) p
  · have e:i=xs.length:=by omega
    subst e;exact .inl ⟨⟨xs,q,ai _⟩,hd σ H p⟩
theorem rF {K:PySem.W.Frag} {a D:Addr} {xs:List V} {tc:TT} {te:TE} {caps:St} {H:Hp} {Q:Hp→Prop} (R:Nat→List V→Hp→Prop) (hD:H D=none) (hS:H a=some (.tup xs)) (h0:R 0 [] (upd H D (.lst [])))
  (hs:∀i x ys Hi,xs[i]?=some x→i<xs.length→ys.length≤i→Same H Hi→Hi D=some (.lst ys)→R i ys Hi→tc (some x::caps) Hi fun b H4=>if b=true then te (some x::caps) H4 fun v H5=>∃zs,H5 D=some (.lst zs)∧zs.length<sizeLine∧v9 H D caps R (i+1) (some x::caps) (upd H5 D (.lst (zs++[v])))
   else v9 H D caps R (i+1) (some x::caps) H4)
  (hd:∀ys Hf,Same H Hf→Hf D=some (.lst ys)→ys.length≤xs.length→R xs.length ys Hf→Q Hf):y0 D (Q3 K a) (zN 0) tc te (none::caps) H Q:=by
 refine pO (xs:=xs) (v9 H D caps R) ⟨[],none,rfl,qI hD (Same.refl H),jE,ai _,h0⟩ (fun i σ Hi _ ⟨_,_,_,s,_⟩=>SqT.of (s _ _ hS)) ?_ ?_
 ·rintro i x σ Hi hx ⟨ys,c,rfl,s,hY,hl,r⟩;exact hs i x ys Hi hx (ag.mp hx).1 hl s hY r
 ·rintro σ Hf ⟨ys,c,rfl,s,hY,hl,r⟩;exact hd ys Hf s hY hl r
section
variable {X:Cx} {pins:List (Addr×Obj)} {σ:List (Option V)} {H:Hp} {s:Shared} {h':Heap}
theorem Inv.turnedN {t':Nat} {fp:List Addr} (I:Inv X pins σ H s) (k:∀b o,b∉fp→s.heap.get? b=some o→h'.get? b=some o) (hf:∀b∈fp,yT X pins H b):Inv X pins σ H {s with heap:=h',toks:=t'}:=by
 have nit:∀b u,H b=some u→b∉fp:=fun b u e z=>by rw [(hf b z).1] at e;cases e
 have hL:X.env.locals∉fp:=fun z=>(hf _ z).2.1 rfl
 refine I.step (g':=s.gens) (d':=s.drawn) (ch:=fp) (fun b hb=>?_) (fun b o _ _ hc e _=>k b o hc e) (fun b o _ _ hc e _=>⟨o.slots,k b o hc e⟩) (fun _ _ _ _ n=>n)
  (fun b o hc e=>⟨o,k b o hc e⟩) (fun _ _ e=>e) (fun _ _ _ e=>e) (fun b ps e=>⟨#[],by rw [e];simp⟩) (fun m hm=>?_) (fun b u e=>?_) I.bare
 ·obtain ⟨f0,f1,f2,f3,f4,f5⟩:=hf b hb;exact ⟨f3,f1,f4,f5⟩
 ·obtain ⟨o,es,ep,ho,r⟩:=hm;exact ⟨o,es,ep,k _ o hL ho,r⟩
 ·refine (I.hok b u e).stay (fun c v hc q=>k c v ?_ q) (fun _ q=>q) fun _ _ q=>q
  rcases hc with z|z
  ·rw [z];exact nit b u e
  ·exact nit c _ z
theorem Inv.laidN {t':Nat} {fp:List Addr} {a:Addr} {o:HO} (I:Inv X pins σ H s) (k:∀b u,b∉fp→s.heap.get? b=some u→h'.get? b=some u) (hf:∀b∈fp,yT X pins H b) (hp:s.heap.objs.size≤a) (new:ObjOk X.prog X.w (upd H a o) h' a o) :
  Inv X pins σ (upd H a o) {s with heap:=h',toks:=t'}:=by
 have hn:=I.hok.fresh hp;have nit:∀b u,H b=some u→b∉fp:=fun b u e z=>by rw [(hf b z).1] at e;cases e
 have hL:X.env.locals∉fp:=fun z=>(hf _ z).2.1 rfl
 refine I.step (g':=s.gens) (d':=s.drawn) (ch:=fp) (fun b hb=>?_) (fun b o _ _ hc e _=>k b o hc e) (fun b o _ _ hc e _=>⟨o.slots,k b o hc e⟩) (fun b u _ e n=>?_)
  (fun b o hc e=>⟨o,k b o hc e⟩) (fun b xs e=>?_) (fun b u v e=>?_) (fun b ps e=>⟨#[],?_⟩) (fun m hm=>?_) (fun b u e=>?_) I.bare
 ·obtain ⟨f0,f1,f2,f3,f4,f5⟩:=hf b hb;exact ⟨f3,f1,f4,f5⟩
 ·rw [jL (aH (ar (aq e) hp))];exact n
 ·rw [jL (kE e hn)];exact e
 ·rw [jL (kE e hn)];exact e
 ·rw [jL (kE e hn),e];simp
 ·obtain ⟨o,es,ep,ho,r⟩:=hm;exact ⟨o,es,ep,k _ o hL ho,r⟩
 ·by_cases hb:b=a
  ·subst hb;rw [jE] at e;cases e;exact new
  ·rw [jL hb] at e;refine (I.hok b u e).stay (fun c v hc q=>k c v ?_ q) (fun c q=>by rw [jL (kE q hn)];exact q) fun c xs q=>by rw [jL (kE q hn)];exact q
   rcases hc with z|z
   ·rw [z];exact nit b u e
   ·exact nit c _ z
end
def bZ (K:PySem.W.Frag) (a:Addr):It :=
 ⟨fun i H=>∃xs x,SqL K H a xs∧xs[i]?=some x,
  fun i H v H'=>∃T x,v=.ref T∧H T=none∧H'=upd H T (.tup [.int (i:Int),x])∧∀xs,SqL K H a xs→xs[i]?=some x,
  fun i H=>∃xs,SqL K H a xs∧xs.length≤i⟩
theorem DM {P:Program} {w:World} {K:PySem.W.Frag} {elts:List Expr} {x1:Nat} {pos:Pos} {a e it:Addr} (hei:e≠it) :
  Turn P w K (.Tuple elts x1 pos) (bZ K a) [e,it] e (fun i h=>(∃old,IsEnum h e it i old)∧h.IsListIter it a i) where
 mem:=by simp
 obj:=fun i h st b hb=>by
  obtain ⟨⟨old,he⟩,⟨o1,e1,c1,d1⟩⟩:=st;simp only [am,aA,bg] at hb
  rcases hb with rfl|rfl
  ·exact ⟨_,he,fun v y=>by have y':Data.fields _=Data.cell v:=y;cases y'⟩
  ·exact ⟨o1,e1,fun v y=>by rw [d1] at y;cases y⟩
 keep:=fun i h h' st k=>by
  obtain ⟨⟨old,he⟩,h1⟩:=st;exact ⟨⟨old,k _ (by simp) _ he⟩,h1.at fun o e=>k _ (by simp) o e⟩
 item:=by
  intro X hP hw hK hc i pins s σ H E I hf st hg;subst hP hw hK;obtain ⟨⟨old,he⟩,h1⟩:=st;obtain ⟨xs,x,hq1,hx⟩:=hg;obtain ⟨its1,rv1,p1,_⟩:=I.list hq1;obtain ⟨u,hu,ru⟩:=rv1.get hx;refine wpAny_pyNext_enum_item he h1 p1.isList (x:=u) (by simpa using hu) hei fun h' he' h1' hT' hsz hk=>?_
  refine ⟨_,rfl,?_⟩;refine wpAny_letOwnedTupleGo_enum he' fun h2 he2 hs2=>?_
  have lt:∀{b:Addr} {o:Obj},s.heap.get? b=some o→b<s.heap.objs.size:=fun e=>aq e
  have nT:s.heap.objs.size≠e:=dt (lt he);have k2:∀b o,b∉[e,it]→s.heap.get? b=some o→h2.get? b=some o:=fun b o hb q=>by
   simp only [am,aA,bg,not_or] at hb;exact (hs2.2 b hb.1).trans (hk b o hb.1 hb.2 q)
  have hT2:=(hs2.2 _ nT).trans hT';refine ⟨.ref s.heap.objs.size,upd H s.heap.objs.size (.tup [.int (i:Int),x]),I.laidN (t':=s.toks+1) (fp:=[e,it]) k2 hf (ai _) ⟨(by show 2≤sizeLine;decide),[.int i s.toks,u],.cons ⟨_,rfl⟩ (.cons ru .nil),⟨_,hT2,rfl,_,rfl⟩⟩,rfl,?_,?_,?_⟩
  ·exact ⟨_,x,rfl,I.hok.fresh (ai _),rfl,fun zs hzs=>by rw [I.list_inj hzs hq1];exact hx⟩
  ·exact ⟨⟨_,he2⟩,h1'.at fun o q=>(hs2.2 _ hei.symm).trans q⟩
  ·intro b hb;have:=(hf b hb).1;rw [jL]
   ·exact this
   ·intro q;simp only [am,aA,bg] at hb;obtain ⟨o1,e1,_⟩:=h1
    rcases hb with rfl|rfl
    ·exact nT q.symm
    ·exact aH (lt e1) q
 done:=by
  intro X hP hw hK hc i pins s σ H E I hf st hg;subst hP hw hK;obtain ⟨⟨old,he⟩,h1⟩:=st;obtain ⟨xs,hq1,hx⟩:=hg;obtain ⟨its1,rv1,p1,_⟩:=I.list hq1;have l1:=rv1.length;refine wpAny_pyNext_enum_end (I.ok.hd hc) he h1 p1.isList (by simp;omega) fun h' hk=>⟨rfl,I.turnedN (t':=s.toks) (fp:=[e,it]) (fun b o hb q=>?_) hf⟩
  simp only [am,aA,bg,not_or] at hb;exact hk b o hb.2 q
 self:=fun _ _ _ _ _ st h=>by obtain ⟨⟨old,he⟩,_⟩:=st;exact wpAny_pyIter_enum he h
section
variable {X:Cx} {elts:List Expr} {x1:Nat} {tpos:Pos}
def IJ (K:PySem.W.Frag) (ta:TA):TI:=fun σ H R=>ta σ H fun vs H1=>∃a,vs=[.ref a]∧(∃xs,SqL K H1 a xs)∧R (bZ K a) H1
theorem FO {a:Expr} {ta:TA} {p pos:Pos} (hg:Gl X "enumerate") (hm:X.mg "enumerate"=none) (ha:PA X [a] ta) (hs:starEach [a] X.env=[(false,eval a X.env)]:=by rfl) :
  PI X (.Tuple elts x1 tpos) (.Call (.Name "enumerate" p) [a] [] pos) (IJ X.K ta):=by
 intro pins s σ H R I h;refine Call_ (ZO I hg hm boot_enumerate (ck (jN (ha pos pins s σ H _ I h) fun us s1 ⟨vs,H1,I1,r1,q1⟩=>?_) hs rfl));obtain ⟨a1,e,⟨xs,hq1⟩,q⟩:=q1;subst e;cases r1 with
 |cons r rr =>
  cases rr;cases r;obtain ⟨its1,rv1,p1,_⟩:=I1.list hq1;refine call_enumerate_list p1.isList fun h' he hit hsz hk=>?_
  refine wpAny_pyIter_enum he ?_;refine ⟨_,_,_,_,H1,rfl,I1.kept (t':=s1.toks) hk,DM (Nat.succ_ne_self _),⟨⟨_,he⟩,hit⟩,fun b hb=>?_,q⟩;simp only [am,aA,bg] at hb;have hb':s1.heap.objs.size≤b:=by rcases hb with rfl|rfl<;>simp only [Addr] at *<;>omega
  exact I1.fpOk hb' (I1.hok.fresh hb')
theorem E6 {K:PySem.W.Frag} {a:Addr} {xs:List V} {g:TG} {tb:TS} {D:Ends} {σ:St} {H:Hp} (P:Nat→St→Hp→Prop) (h0:P 0 σ H) (hl:∀i σ H,i≤xs.length→P i σ H→SqL K H a xs)
  (step:∀i x σ H T,xs[i]?=some x→P i σ H→H T=none→g (.ref T) σ (upd H T (.tup [.int (i:Int),x])) fun σ2 H2=>tb {D with nx:=P (i+1),ct:=P (i+1),bk:=D.nx} σ2 H2) (done:∀σ H,P xs.length σ H→D.nx σ H) :
  ∃W:Nat→Nat→St→Hp→Prop,(∃m,W 0 m σ H)∧∀i m σ H,W i m σ H→((bZ K a).stop i H∧D.nx σ H)∨((bZ K a).go i H∧∃N:St→Hp→Prop,(∀σ' H',N σ' H'→∃m',m'<m∧W (i+1) m' σ' H')∧∀x H',(bZ K a).yld i H x H'→g x σ H' fun σ2 H2=>tb {D with nx:=N,ct:=N,bk:=D.nx} σ2 H2):=by
 refine ⟨fun i m σ H=>i≤xs.length∧m=xs.length - i∧P i σ H,⟨_,aG _,rfl,h0⟩,fun i m σ H w=>?_⟩;obtain ⟨hi,hm,p⟩:=w;have q1:=hl i σ H hi p
 by_cases e:i=xs.length
 ·refine .inl ⟨⟨xs,q1,by omega⟩,done σ H (e▸p)⟩
 ·have l1:i<xs.length:=by omega
  refine .inr ⟨⟨xs,_,q1,aa l1⟩,P (i+1),fun σ' H' n=>⟨_,by omega,by omega,rfl,n⟩,fun v H' hy=>?_⟩;obtain ⟨T,x,rfl,hT,rfl,h1⟩:=hy;exact step i x σ H T (h1 xs q1) p hT
end
section
variable {X:Cx}
end
section
variable {prog:Program} {w:World} {A:Around} {s:Shared} {E:Value→Shared→Prop}
theorem C3 {j p:Addr} {i:Nat} {vs:Array Value} {v:Value} {Q:Value→Shared→Prop} (hj:s.heap.IsTupleIter j p i) (hp:s.heap.IsTuple p vs) (hv:vs[i]?=some v) (q:∀h',h'.IsTupleIter j p (i+1)→Heap.SameBut j s.heap h'→Q v {s with heap:=h'}):wpAny (model prog w) A (Builtin.SmallTypes.nextOf (.ref j)) Q E s:=by
 obtain ⟨oj,ej,cj,dj⟩:=id hj;obtain ⟨op,ep,_,np,dp⟩:=hp;unfold Builtin.SmallTypes.nextOf
 refine ac (dm (name:=Str.ofString "__next__") hj.typeIs cp (fw cp hj.typeIs F.entry_tuple_iterator_next ?_ (F.args_tuple_iterator_next_1 _)));show wpAny _ _ (field (.ref j) 0 >>= _) _ _ s;refine ac (bj ej dj (x:=.ref p) rfl ?_);show wpAny _ _ (if (Value.ref p == Value.none)=true then _ else _) _ _ s;rw [if_neg (show ¬((Value.ref p == Value.none)=true) from au)];show wpAny _ _ (field (.ref j) 1 >>= _) _ _ s;refine ac (bj ej dj (x:=.int i 0) rfl ?_);show wpAny _ _ (seqItems? (.ref p) >>= _) _ _ s;refine ac (de ep dp ?_);simp only [aD,hv];refine ac (wpAny_setField ej dj (by simp) (aM ⟨v,rfl,aM (q _ ?_ (Heap.SameBut.update ..))⟩));exact ⟨_,ft _ ej (Obj.isFreed_of_fields (fg dj _)),(Obj.cls_mapFields ..).trans cj,by rw [fg dj];simp [rawInt]⟩
theorem DV {j p:Addr} {i:Nat} {vs:Array Value} {Q:Value→Shared→Prop} (hh:A.handled=none) (hj:s.heap.IsTupleIter j p i) (hp:s.heap.IsTuple p vs) (hv:vs[i]?=none)
  (q:∀h' e,Heap.ExtBut j s.heap h'→(∃o,h'.get? e=some o∧o.cls=.type "StopIteration")→E (.ref e) {s with heap:=h'}):wpAny (model prog w) A (Builtin.SmallTypes.nextOf (.ref j)) Q E s:=by
 obtain ⟨oj,ej,cj,dj⟩:=id hj;obtain ⟨op,ep,_,np,dp⟩:=hp;unfold Builtin.SmallTypes.nextOf
 refine ac (dm (name:=Str.ofString "__next__") hj.typeIs cp (fw cp hj.typeIs F.entry_tuple_iterator_next ?_ (F.args_tuple_iterator_next_1 _)));show wpAny _ _ (field (.ref j) 0 >>= _) _ _ s;refine ac (bj ej dj (x:=.ref p) rfl ?_);show wpAny _ _ (if (Value.ref p == Value.none)=true then _ else _) _ _ s;rw [if_neg (show ¬((Value.ref p == Value.none)=true) from au)];show wpAny _ _ (field (.ref j) 1 >>= _) _ _ s;refine ac (bj ej dj (x:=.int i 0) rfl ?_);show wpAny _ _ (seqItems? (.ref p) >>= _) _ _ s;refine ac (de ep dp ?_);simp only [aD,hv];refine ac (wpAny_rule (ac (wpAny_setField ej dj (by simp) ?_)));refine ac ?_
 simp only [newExc,newTuple];refine ac (fk ?_ (by size_fits))
 refine ac (m:=firstArgMember _ _) (wpAny_of_eq (a:=Value.none) (by first|rfl|(simp only [firstArgMember];rfl)) ?_);refine fk ?_ (by size_fits)
 simp only [raiseNew];refine ac (wpAny_handled ?_);(first|rw [show A.in1.handled=none from hh]|rw [hh])
 refine ac (aM (wpAny_throw ?_));exact q _ _ (((Heap.SameBut.update ..).extBut.push _).push _) ⟨_,ay _ rfl,rfl⟩
theorem DI {z P1 P2 j1 j2 a b:Addr} {k:Nat} {us vs:Array Value} {u v g g':Value} {Q:Value→Shared→Prop} (D:ZipApart z P1 P2 j1 j2 a b)
  (hz:IsZip s.heap z P1 P2 .none) (hP1:IsPair s.heap P1 (.ref j1) (.ref j2)) (hP2:IsPair s.heap P2 g g') (n1:s.heap.IsListIter j1 a k) (n2:s.heap.IsTupleIter j2 b k) (la:s.heap.IsList a us) (tb:s.heap.IsTuple b vs) (hu:us[k]?=some u) (hv:vs[k]?=some v)
  (q:∀h',IsZip h' z P1 P2 (rawInt s.heap.objs.size)→IsPair h' P2 u v→h'.IsListIter j1 a (k+1)→h'.IsTupleIter j2 b (k+1)→IsPair h' s.heap.objs.size u v→(∀c o,c≠z→c≠P2→c≠j1→c≠j2→s.heap.get? c=some o→h'.get? c=some o)→Q (.ref s.heap.objs.size) {s with heap:=h'}):wpAny (model prog w) A (Builtin.«zip.__next__» ⟨[.ref z],[]⟩) (fun fin s'=>∃v,fin=.done (.ret v)∧Q v s') E s:=by
 show wpAny _ _ (field (.ref z) 2 >>= _) _ _ _;refine ac (bj hz rfl (x:=.bool false) rfl ?_);show wpAny _ _ (field (.ref z) 3 >>= _) _ _ _
 refine ac (bj hz rfl (x:=.ref P1) rfl ?_);refine ac (de hP1 rfl ?_)
 show wpAny _ _ (Builtin.SmallTypes.ownedTupleIsFree (.ref z) >>= _) _ _ _;refine ac ?_;unfold Builtin.SmallTypes.ownedTupleIsFree
 refine ac (bj hz rfl (x:=.none) rfl (aM ?_));simp only [if_true]
 refine ac (wpAny_rule ?_);refine ac (bj hz rfl (x:=.ref P2) rfl ?_)
 refine ac (da hz (by simp) fun m1 z1 d1=>?_);have z1:IsZip m1 z P1 P2 .ellipsis:=z1;refine ac ?_;simp only [List.zipIdx_cons,List.zipIdx_nil,List.forIn_cons,List.forIn_nil]
 refine ac (ac (gc ?_));show wpAny _ _ (Builtin.SmallTypes.nextOf (.ref j1) >>= _) _ _ _
 refine ac (wpAny_nextOf_list_item (n1.extBut d1.extBut D.i1z) (la.extBut d1.extBut D.l1z) hu fun m2 n12 d2=>aM ?_);have p2:IsPair m2 P2 g g':=d2.extBut _ _ D.TOi1 (d1.extBut _ _ D.TOz hP2);refine ac (de p2 rfl ?_);refine ac (gb p2 fun m3 p3 d3=>?_)
 have p3:IsPair m3 P2 u g':=p3;refine ac (wpAny_letGo (aM ?_));refine ac (ac (gc ?_));show wpAny _ _ (Builtin.SmallTypes.nextOf (.ref j2) >>= _) _ _ _
 refine ac (C3 (((n2.extBut d1.extBut D.i2z).extBut d2.extBut D.i12.symm).extBut d3.extBut D.TOi2.symm) (((tb.extBut d1.extBut D.l2z).extBut d2.extBut D.l2i1).extBut d3.extBut D.l2TO) hv fun m4 n24 d4=>aM ?_);have p4:IsPair m4 P2 u g':=d4.extBut _ _ D.TOi2 p3;refine ac (de p4 rfl ?_);refine ac (gb p4 fun m5 p5 d5=>?_)
 have p5:IsPair m5 P2 u v:=p5;refine ac (wpAny_letGo (aM (aM ?_)));refine ac (de p5 rfl ?_);refine ac (wpAny_newTuple ?_)
 have sz:m5.objs.size=s.heap.objs.size:=by rw [d5.1,d4.1,d3.1,d2.1,d1.1]
 have z5:IsZip m5 z P1 P2 .ellipsis:=d5.extBut _ _ D.TOz.symm (d4.extBut _ _ D.i2z.symm (d3.extBut _ _ D.TOz.symm (d2.extBut _ _ D.i1z.symm z1)));have kk:∀c o,c≠z→c≠P2→c≠j1→c≠j2→s.heap.get? c=some o→m5.get? c=some o:=fun c o e1 e2 e3 e4 e=>d5.extBut _ _ e2 (d4.extBut _ _ e4 (d3.extBut _ _ e2 (d2.extBut _ _ e3 (d1.extBut _ _ e1 e))))
 have n15:m5.IsListIter j1 a (k+1):=((n12.extBut d3.extBut D.TOi1.symm).extBut d4.extBut D.i12).extBut d5.extBut D.TOi1.symm;have n25:m5.IsTupleIter j2 b (k+1):=n24.extBut d5.extBut D.TOi2.symm;have zl:z<m5.objs.size:=aq z5;show wpAny _ _ (Builtin.SmallTypes.ownedTupleHandOut (.ref z) (.ref m5.objs.size) >>= _) _ _ _;refine ac ?_;unfold Builtin.SmallTypes.ownedTupleHandOut
 have z6:IsZip (m5.push {cls:=.type "tuple",data:=.seq #[u,v]}) z P1 P2 .ellipsis:=ao _ z5;refine ac (da z6 (by simp) fun m7 z7 d7=>?_);have z7:IsZip m7 z P1 P2 (rawInt m5.objs.size):=z7;refine da z7 (by simp) fun m8 z8 d8=>?_
 have z8:IsZip m8 z P1 P2 (rawInt m5.objs.size):=z8;have up:∀c o,c≠z→m5.get? c=some o→m8.get? c=some o:=fun c o e1 e=>d8.extBut _ _ e1 (d7.extBut _ _ e1 (ao _ e))
 have t8:IsPair m8 m5.objs.size u v:=d8.extBut _ _ (dt zl) (d7.extBut _ _ (dt zl) (ay _ rfl));rw [sz] at z8 t8;refine aM ⟨_,rfl,?_⟩;show Q (.ref m5.objs.size) _;rw [sz]
 exact q m8 z8 (up _ _ D.TOz p5) (n15.at fun o e=>up _ o D.i1z e) (n25.at fun o e=>up _ o D.i2z e) t8 fun c o e1 e2 e3 e4 e=>up c o e1 (kk c o e1 e2 e3 e4 e)
theorem EK {z P1 P2 j1 j2 a b:Addr} {k:Nat} {us vs:Array Value} {g g':Value} {Q:Fin→Shared→Prop} (hh:A.handled=none) (D:ZipApart z P1 P2 j1 j2 a b)
  (hz:IsZip s.heap z P1 P2 .none) (hP1:IsPair s.heap P1 (.ref j1) (.ref j2)) (hP2:IsPair s.heap P2 g g') (n1:s.heap.IsListIter j1 a k) (n2:s.heap.IsTupleIter j2 b k) (la:s.heap.IsList a us) (tb:s.heap.IsTuple b vs) (he:us[k]?=none∨vs[k]?=none)
  (q:∀h' e,(∀c o,c≠z→c≠P2→c≠j1→c≠j2→s.heap.get? c=some o→h'.get? c=some o)→(∃o,h'.get? e=some o∧o.cls=.type "StopIteration")→E (.ref e) {s with heap:=h'}):wpAny (model prog w) A (Builtin.«zip.__next__» ⟨[.ref z],[]⟩) Q E s:=by
 show wpAny _ _ (field (.ref z) 2 >>= _) _ _ _;refine ac (bj hz rfl (x:=.bool false) rfl ?_);show wpAny _ _ (field (.ref z) 3 >>= _) _ _ _
 refine ac (bj hz rfl (x:=.ref P1) rfl ?_);refine ac (de hP1 rfl ?_)
 show wpAny _ _ (Builtin.SmallTypes.ownedTupleIsFree (.ref z) >>= _) _ _ _;refine ac ?_;unfold Builtin.SmallTypes.ownedTupleIsFree
 refine ac (bj hz rfl (x:=.none) rfl (aM ?_));simp only [if_true]
 refine ac (wpAny_rule ?_);refine ac (bj hz rfl (x:=.ref P2) rfl ?_)
 refine ac (da hz (by simp) fun m1 z1 d1=>?_);have z1:IsZip m1 z P1 P2 .ellipsis:=z1;refine ac ?_;simp only [List.zipIdx_cons,List.zipIdx_nil,List.forIn_cons,List.forIn_nil]
 refine ac (ac (gc ?_));show wpAny _ _ (Builtin.SmallTypes.nextOf (.ref j1) >>= _) _ _ _
 cases hu:us[k]? with
 |none =>
  refine ac (wpAny_nextOf_list_end hh (n1.extBut d1.extBut D.i1z) (la.extBut d1.extBut D.l1z) hu fun m2 e d2 st=>?_);obtain ⟨oe,ee,ce⟩:=st
  have z2:IsZip m2 z P1 P2 .ellipsis:=d2 _ _ D.i1z.symm z1;have ne:e≠z:=fun x=>by subst x;rw [z2] at ee;cases ee;simp at ce
  refine da z2 (by simp) fun m3 _ d3=>q m3 e (fun c o e1 _ e3 _ x=>d3.extBut _ _ e1 (d2 _ _ e3 (d1.extBut _ _ e1 x))) ⟨oe,d3.extBut _ _ ne ee,ce⟩
 |some u =>
  have hv:vs[k]?=none:=by rcases he with h|h;rw [hu] at h;cases h;exact h
  refine ac (wpAny_nextOf_list_item (n1.extBut d1.extBut D.i1z) (la.extBut d1.extBut D.l1z) hu fun m2 n12 d2=>aM ?_);have p2:IsPair m2 P2 g g':=d2.extBut _ _ D.TOi1 (d1.extBut _ _ D.TOz hP2);refine ac (de p2 rfl ?_);refine ac (gb p2 fun m3 p3 d3=>?_)
  refine ac (wpAny_letGo (aM ?_));refine ac (ac (gc ?_));show wpAny _ _ (Builtin.SmallTypes.nextOf (.ref j2) >>= _) _ _ _
  refine ac (DV hh (((n2.extBut d1.extBut D.i2z).extBut d2.extBut D.i12.symm).extBut d3.extBut D.TOi2.symm) (((tb.extBut d1.extBut D.l2z).extBut d2.extBut D.l2i1).extBut d3.extBut D.l2TO) hv fun m4 e d4 st=>?_);obtain ⟨oe,ee,ce⟩:=st
  have z4:IsZip m4 z P1 P2 .ellipsis:=d4 _ _ D.i2z.symm (d3.extBut _ _ D.TOz.symm (d2.extBut _ _ D.i1z.symm z1));have ne:e≠z:=fun x=>by subst x;rw [z4] at ee;cases ee;simp at ce
  refine da z4 (by simp) fun m5 _ d5=>q m5 e (fun c o e1 e2 e3 e4 x=>d5.extBut _ _ e1 (d4 _ _ e4 (d3.extBut _ _ e2 (d2.extBut _ _ e3 (d1.extBut _ _ e1 x))))) ⟨oe,d5.extBut _ _ ne ee,ce⟩
end
def nM (K:PySem.W.Frag) (a1 a2:Addr):It :=
 ⟨fun i H=>∃xs ys x y,SqL K H a1 xs∧SqT K H a2 ys∧xs[i]?=some x∧ys[i]?=some y,
  fun i H v H'=>∃T x y,v=.ref T∧H T=none∧H'=upd H T (.tup [x,y])∧(∀xs,SqL K H a1 xs→xs[i]?=some x)∧(∀ys,SqT K H a2 ys→ys[i]?=some y),
  fun i H=>∃xs ys,SqL K H a1 xs∧SqT K H a2 ys∧(xs.length≤i∨ys.length≤i)⟩
theorem DK {P:Program} {w:World} {K:PySem.W.Frag} {elts:List Expr} {x1:Nat} {pos:Pos} {a1 a2 z TI TO i1 i2:Addr} (D:ZipApart z TI TO i1 i2 a1 a2) :
  Turn P w K (.Tuple elts x1 pos) (nM K a1 a2) [z,TI,TO,i1,i2] z (fun i h=>IsZip h z TI TO .none∧IsPair h TI (.ref i1) (.ref i2)∧(∃a b,IsPair h TO a b)∧h.IsListIter i1 a1 i∧h.IsTupleIter i2 a2 i) where
 mem:=by simp
 obj:=fun i h st b hb=>by
  obtain ⟨hz,hTI,⟨p,q,hTO⟩,⟨o1,e1,c1,d1⟩,⟨o2,e2,c2,d2⟩⟩:=st;simp only [am,aA,bg] at hb
  rcases hb with rfl|rfl|rfl|rfl|rfl
  ·exact ⟨_,hz,fun v y=>by have y':Data.fields _=Data.cell v:=y;cases y'⟩
  ·exact ⟨_,hTI,fun v y=>by have y':Data.seq _ _=Data.cell v:=y;cases y'⟩
  ·exact ⟨_,hTO,fun v y=>by have y':Data.seq _ _=Data.cell v:=y;cases y'⟩
  ·exact ⟨o1,e1,fun v y=>by rw [d1] at y;cases y⟩
  ·exact ⟨o2,e2,fun v y=>by rw [d2] at y;cases y⟩
 keep:=fun i h h' st k=>by
  obtain ⟨hz,hTI,⟨p,q,hTO⟩,h1,h2⟩:=st;exact ⟨k _ (by simp) _ hz,k _ (by simp) _ hTI,⟨p,q,k _ (by simp) _ hTO⟩,h1.at fun o e=>k _ (by simp) o e,h2.at fun o e=>k _ (by simp) o e⟩
 item:=by
  intro X hP hw hK hc i pins s σ H E I hf st hg;subst hP hw hK;obtain ⟨hz,hTI,⟨p,q,hTO⟩,h1,h2⟩:=st;obtain ⟨xs,ys,x,y,hq1,hq2,hx,hy⟩:=hg;obtain ⟨its1,rv1,p1,_⟩:=I.list hq1;obtain ⟨its2,rv2,p2,_⟩:=I.tuple hq2;obtain ⟨u,hu,ru⟩:=rv1.get hx;obtain ⟨v,hv,rv⟩:=rv2.get hy;have hTz:s.TypeIs (.ref z) "zip":=⟨_,hz,rfl⟩;unfold pyNext;refine ac (wpAny_attempt (dm (name:=Str.ofString "__next__") hTz gl (fw gl hTz F.entry_zip_next (DI D hz hTI hTO h1 h2 p1.isList (show s.heap.IsTuple a2 its2.toArray from p2) (u:=u) (v:=v) (by simpa using hu) (by simpa using hv) fun h' hz' hTO' h1' h2' hT' hk=>aM ?_) (F.args_zip_next_1 _))));refine ⟨_,rfl,?_⟩;refine wpAny_letOwnedTupleGo_zip hz' fun hp2 hz2 hs2=>?_
  have lt:∀{b:Addr} {o:Obj},s.heap.get? b=some o→b<s.heap.objs.size:=fun e=>aq e
  have nT:s.heap.objs.size≠z:=dt (lt hz);have k2:∀b o,b∉[z,TI,TO,i1,i2]→s.heap.get? b=some o→hp2.get? b=some o:=fun b o hb e=>by
   simp only [am,aA,bg,not_or] at hb;exact (hs2.2 b hb.1).trans (hk b o hb.1 hb.2.2.1 hb.2.2.2.1 hb.2.2.2.2 e)
  have hT2:IsPair hp2 s.heap.objs.size u v:=(hs2.2 _ nT).trans hT';refine ⟨.ref s.heap.objs.size,upd H s.heap.objs.size (.tup [x,y]),I.laidN (t':=s.toks) (fp:=[z,TI,TO,i1,i2]) k2 hf (ai _) ⟨(by show 2≤sizeLine;decide),[u,v],.cons ru (.cons rv .nil),⟨_,hT2,rfl,_,rfl⟩⟩,rfl,?_,?_,?_⟩
  ·exact ⟨_,x,y,rfl,I.hok.fresh (ai _),rfl,fun zs hzs=>by rw [I.list_inj hzs hq1];exact hx,fun zs hzs=>by rw [I.tuple_inj hzs hq2];exact hy⟩
  ·refine ⟨hz2,(hs2.2 _ D.TIz).trans (hk _ _ D.TIz D.TITO D.TIi1 D.TIi2 hTI),⟨_,_,(hs2.2 _ D.TOz).trans hTO'⟩,h1'.at fun o e=>(hs2.2 _ D.i1z).trans e,h2'.at fun o e=>(hs2.2 _ D.i2z).trans e⟩
  ·intro b hb;have:=(hf b hb).1;rw [jL]
   ·exact this
   ·intro e;simp only [am,aA,bg] at hb;obtain ⟨o1,e1,_⟩:=h1;obtain ⟨o2,e2,_⟩:=h2
    rcases hb with rfl|rfl|rfl|rfl|rfl
    ·exact nT e.symm
    ·exact aH (lt hTI) e
    ·exact aH (lt hTO) e
    ·exact aH (lt e1) e
    ·exact aH (lt e2) e
 done:=by
  intro X hP hw hK hc i pins s σ H E I hf st hg;subst hP hw hK;obtain ⟨hz,hTI,⟨p,q,hTO⟩,h1,h2⟩:=st;obtain ⟨xs,ys,hq1,hq2,he⟩:=hg;obtain ⟨its1,rv1,p1,_⟩:=I.list hq1;obtain ⟨its2,rv2,p2,_⟩:=I.tuple hq2;have l1:=rv1.length;have l2:=rv2.length;have hTz:s.TypeIs (.ref z) "zip":=⟨_,hz,rfl⟩;unfold pyNext;refine ac (wpAny_attempt (dm (name:=Str.ofString "__next__") hTz gl (fw gl hTz F.entry_zip_next (EK (I.ok.hd hc) D hz hTI hTO h1 h2 p1.isList (show s.heap.IsTuple a2 its2.toArray from p2) (he.imp (fun e=>by simp;omega) (fun e=>by simp;omega)) fun h' e hk ho=>?_) (F.args_zip_next_1 _))));obtain ⟨o,ho,hco⟩:=ho;refine ac (wpAny_isInstance (T:="StopIteration") (b:=true) ⟨o,ho,hco⟩ isSubtype_stop (aM ⟨rfl,I.turnedN (t':=s.toks) (fp:=[z,TI,TO,i1,i2]) (fun b o hb e=>?_) hf⟩));simp only [am,aA,bg,not_or] at hb;exact hk b o hb.1 hb.2.2.1 hb.2.2.2.1 hb.2.2.2.2 e
 self:=fun _ _ _ _ _ st h=>wpAny_pyIter_zip st.1 h
section
variable {X:Cx} {elts:List Expr} {x1:Nat} {tpos:Pos}
abbrev fD (h:Heap) (a:Addr):Heap:=h.push {cls:=.type "list_iterator",data:=.fields #[.ref a,.int 0 0]}
abbrev fC (h:Heap) (a b:Addr):Heap:=(fD h a).push {cls:=.type "tuple_iterator",data:=.fields #[.ref b,.int 0 0]}
abbrev fB (h:Heap) (a b:Addr):Heap:=(fC h a b).push {cls:=.type "tuple",data:=.seq #[.ref h.objs.size,.ref (fD h a).objs.size]}
abbrev fA (h:Heap) (a b:Addr):Heap:=(fB h a b).push {cls:=.type "tuple",data:=.seq #[.none,.none]}
abbrev ZX (h:Heap) (a b:Addr):Heap:=(fA h a b).push {cls:=.type "zip",data:=.fields #[.none,.bool false,.bool false,.ref (fC h a b).objs.size,.ref (fB h a b).objs.size]}
theorem C5 (a b:Addr) (us vs:Array Value):Meets (Builtin.«zip.__new__» ⟨[.type "zip",.ref a,.ref b],[]⟩) (fun _ R s=>s.heap.IsList a us∧s.heap.IsTuple b vs∧R (.ok (.ret (.ref (fA s.heap a b).objs.size))) {s with heap:=ZX s.heap a b}):=.of_wp fun prog w A R s h=>by
  obtain ⟨hp,g,d,tk,os⟩:=s;obtain ⟨la,tb,h⟩:=h;have hsub:=sub_zip
  have A1:Heap.IsList (Shared.heap ⟨hp,g,d,tk,os⟩) a us:=la;have A2:Heap.IsTuple (Shared.heap ⟨hp.push {cls:=.type "list_iterator",data:=.fields #[.ref a,.int 0 0]},g,d,tk,os⟩) b vs:=Heap.IsTuple.push tb _
  wp_walk using wpAny_pyIter_list A1,wpAny_pyIter_tuple A2
  exact ⟨_,rfl,h⟩
theorem EG {prog:Program} {w:World} {A:Around} {s:Shared} {E:Value→Shared→Prop} {a b:Addr} {us vs:Array Value} {Q:Value→Shared→Prop} (la:s.heap.IsList a us) (tb:s.heap.IsTuple b vs)
  (q:∀h',IsZip h' (s.heap.objs.size+4) (s.heap.objs.size+2) (s.heap.objs.size+3) .none→IsPair h' (s.heap.objs.size+2) (.ref s.heap.objs.size) (.ref (s.heap.objs.size+1))→IsPair h' (s.heap.objs.size+3) .none .none→h'.IsListIter s.heap.objs.size a 0→h'.IsTupleIter (s.heap.objs.size+1) b 0→(∀c o,s.heap.get? c=some o→h'.get? c=some o)→Q (.ref (s.heap.objs.size+4)) {s with heap:=h'}) :
  wpAny (model prog w) A (call (.type "zip") [.ref a,.ref b]) Q E s:=by
 refine callType_new F.called_zip (by decide) (F.typeCall_zip_2 _ _) (F.newCall_zip_2 _ _) (fun obj=>F.args_object_init_3 obj _ _) F.entry_zip_new (C5 a b us vs) ⟨la,tb,?_⟩;have y1:(fD s.heap a).objs.size=s.heap.objs.size+1:=dn ..;have y2:(fC s.heap a b).objs.size=s.heap.objs.size+2:=by rw [dn,y1]
 have y3:(fB s.heap a b).objs.size=s.heap.objs.size+3:=by rw [dn,y2]
 have y4:(fA s.heap a b).objs.size=s.heap.objs.size+4:=by rw [dn,y3]
 have up:∀{h:Heap} {o:Obj} {c:Addr} {v:Obj},h.get? c=some v→(h.push o).get? c=some v:=fun e=>ao _ e
 have g5:(ZX s.heap a b).get? (fA s.heap a b).objs.size=some _:=ay _ rfl;have g4:(ZX s.heap a b).get? (fB s.heap a b).objs.size=some _:=up (ay _ rfl);have g3:(ZX s.heap a b).get? (fC s.heap a b).objs.size=some _:=up (up (ay _ rfl));have g2:(ZX s.heap a b).get? (fD s.heap a).objs.size=some _:=up (up (up (ay _ rfl)));have g1:(ZX s.heap a b).get? s.heap.objs.size=some _:=up (up (up (up (ay _ rfl))));show _∧_;rw [y2,y3,y4] at g5;rw [y1,y2] at g3;rw [y3] at g4;rw [y1] at g2;rw [y4]
 exact ⟨⟨_,g5,rfl⟩,q _ g5 g3 g4 ⟨_,g1,rfl,rfl⟩ ⟨_,g2,rfl,rfl⟩ fun c o x=>up (up (up (up (up x))))⟩
def IG (K:PySem.W.Frag) (ta:TA):TI:=fun σ H R=>ta σ H fun vs H1=>∃a1 a2,vs=[.ref a1,.ref a2]∧(∃xs,SqL K H1 a1 xs)∧(∃ys,SqT K H1 a2 ys)∧R (nM K a1 a2) H1
theorem FN {a b:Expr} {ta:TA} {p pos:Pos} (hg:Gl X "zip") (hm:X.mg "zip"=none) (ha:PA X [a,b] ta) (hs:starEach [a,b] X.env=[(false,eval a X.env),(false,eval b X.env)]:=by rfl) (hs2:starEach [b] X.env=[(false,eval b X.env)]:=by rfl) :
  PI X (.Tuple elts x1 tpos) (.Call (.Name "zip" p) [a,b] [] pos) (IG X.K ta):=by
 intro pins s σ H R I h;refine Call_ (ZO I hg hm boot_zip (ck (jN (ha pos pins s σ H _ I h) fun us s1 ⟨vs,H1,I1,r1,q1⟩=>?_) (by rw [hs,hs2]) (by rw [hs2];rfl)));obtain ⟨a1,a2,e,⟨xs,hq1⟩,⟨ys,hq2⟩,q⟩:=q1;subst e;cases r1 with
 |cons r rr =>
  cases rr with
  |cons r' rr =>
   cases rr;cases r;cases r';obtain ⟨its1,rv1,p1,_⟩:=I1.list hq1;obtain ⟨its2,rv2,p2,_⟩:=I1.tuple hq2;have p2:s1.heap.IsTuple a2 its2.toArray:=p2;have lt1:a1<s1.heap.objs.size:=by obtain ⟨o,e,_⟩:=p1.isList;exact aq e
   have lt2:a2<s1.heap.objs.size:=by obtain ⟨o,e,_⟩:=p2;exact aq e
   refine EG p1.isList p2 fun h' hz hTI hTO h1 h2 hk=>?_
   refine wpAny_pyIter_zip hz ?_;have D:ZipApart (s1.heap.objs.size+4) (s1.heap.objs.size+2) (s1.heap.objs.size+3) s1.heap.objs.size (s1.heap.objs.size+1) a1 a2:=by
    constructor<;>(intro e;simp only [Addr] at *;omega)
   refine ⟨_,_,_,_,H1,rfl,I1.kept (t':=s1.toks) hk,DK D,⟨hz,hTI,⟨_,_,hTO⟩,h1,h2⟩,fun b hb=>?_,q⟩;simp only [am,aA,bg] at hb;have hb':s1.heap.objs.size≤b:=by rcases hb with rfl|rfl|rfl|rfl|rfl<;>simp only [Addr] at *<;>omega
   exact I1.fpOk hb' (I1.hok.fresh hb')
end
set_option maxRecDepth 100000
theorem GC:fillsNumberSlot (.type "tuple") "mul"=pure false:=PySem.fillsNumberSlot_seq (id:="tuple.__mul__") (r:=some (.builtin "tuple.__rmul__")) F.slot_tuple_mul.lookup (by decide +kernel) F.slot_tuple_rmul.lookup (by decide +kernel)
theorem FJ:seqRepeat? (.type "tuple")=pure (some (.builtin "tuple.__mul__")):=by
 unfold seqRepeat?;rw [PySem.seqSlot_of (T:="tuple") (name:="__mul__") (id:="tuple.__mul__") F.slot_tuple_mul.lookup (by decide +kernel),PySem.seqSlot_of (T:="tuple") (name:="__rmul__") (id:="tuple.__rmul__") F.slot_tuple_rmul.lookup (by decide +kernel)];rfl
theorem HS (a:Int) (t:Tok) (p:Addr) (vs:Array Value) (n:Nat) (dd:Option Addr) (sl:Array (Option Value)):Meets (Builtin.«int.__rmul__» ⟨[.int a t,.ref p],[]⟩) (fun _ R s=>s.heap.get? p=some {cls:=.type "tuple",dict:=dd,data:=.seq vs n,slots:=sl}∧R (.ok (.ret Value.notImplemented)) s):=.of_wp fun prog w A R s h=>by obtain ⟨hp,g,d,tk,os⟩:=s;obtain ⟨hl,h⟩:=h;wp_walk;exact ⟨_,rfl,h⟩
theorem EY (t:Tok) (p:Addr) (vs:Array Value) (n:Nat) (dd:Option Addr) (sl:Array (Option Value)):Meets (Builtin.«tuple.__mul__» ⟨[.ref p,.int 1 t],[]⟩) (fun _ R s=>s.heap.get? p=some {cls:=.type "tuple",dict:=dd,data:=.seq vs n,slots:=sl}∧R (.ok (.ret (.ref p))) s):=.of_wp fun prog w A R s h=>by obtain ⟨hp,g,d,tk,os⟩:=s;obtain ⟨hl,h⟩:=h;wp_walk;exact ⟨_,rfl,h⟩
theorem DW (t:Tok) (p:Addr) (vs:Array Value) (n:Nat) (dd:Option Addr) (sl:Array (Option Value)) (h0:vs.isEmpty=false):Meets (Builtin.«tuple.__mul__» ⟨[.ref p,.int 0 t],[]⟩) (fun _ R s=>s.heap.get? p=some {cls:=.type "tuple",dict:=dd,data:=.seq vs n,slots:=sl}∧R (.ok (.ret (.ref s.heap.objs.size))) {s with heap:=s.heap.push {cls:=.type "tuple",data:=.seq #[]}}):=.of_wp fun prog w A R s h=>by
 obtain ⟨hp,g,dr,tk,os⟩:=s;obtain ⟨hl,h⟩:=h
 wp_walk;exact ⟨_,rfl,h⟩
theorem DX (k:Int) (t:Tok) (p:Addr) (vs:Array Value) (n:Nat) (dd:Option Addr) (sl:Array (Option Value)) (h0:vs.isEmpty=false) (h1:(k == 1)=false) (h2:¬((decide (k < -(2 ^ 63))||decide (k≥2 ^ 63))=true)) (h3:¬((decide (k≤0)||vs.isEmpty)=true)) (h4:¬((vs.size:Int)*k>(2 ^ 63 - 1) / 8)) (h5:¬(Builtin.Tuple.tupleTooMany ((vs.size:Int)*k)=true)) (hz:((List.replicate k.toNat vs).foldl (·++·) (#[]:Array Value)).size≤sizeLine):Meets (Builtin.«tuple.__mul__» ⟨[.ref p,.int k t],[]⟩) (fun _ R s=>s.heap.get? p=some {cls:=.type "tuple",dict:=dd,data:=.seq vs n,slots:=sl}∧R (.ok (.ret (.ref s.heap.objs.size))) {s with heap:=s.heap.push {cls:=.type "tuple",data:=.seq ((List.replicate k.toNat vs).foldl (·++·) #[])}}):=.of_wp fun prog w A R s h=>by
 obtain ⟨hp,g,dr,tk,os⟩:=s;obtain ⟨hl,h⟩:=h
 wp_walk
 rw [if_neg h2]
 wp_walk
 rw [if_neg h3];show wpAny _ _ (if (vs.size:Int)*k>(2 ^ 63 - 1) / 8 then _ else if Builtin.Tuple.tupleTooMany ((vs.size:Int)*k)=true then _ else _) _ _ _;rw [if_neg h4,if_neg h5];refine ac (fk (aM ⟨_,rfl,h⟩) ?_);exact hz
section
variable {X:Cx}
def HV:R2:=fun x y H Q=>∃(p:Addr) (v:V) (k:Nat),x=.ref p∧y=.int (k:Int)∧H p=some (.tup [v])∧k≤1000∧(k=1→Q (.ref p) H)∧(k≠1→∀l,H l=none→Q (.ref l) (upd H l (.tup (List.replicate k v))))
theorem rB (u:Value):∀(m:Nat) (acc:Array Value),List.foldl (fun x1 x2=>x1++x2) acc (List.replicate m #[u])=acc++(List.replicate m u).toArray
 |0,acc=>by simp
 |m+1,acc=>by rw [aT,List.foldl_cons,rB u m (acc++#[u]),aT,Array.append_assoc];congr 1;apply Array.toList_inj.mp;simp
theorem FU:kM X (binaryOp .Mult) HV:=by
 intro pins s σ H x y v u Q I rx ry h;obtain ⟨p,w,k,rfl,rfl,hH,hk,q1,q2⟩:=h;cases rx;obtain ⟨t,rfl⟩:=ry;obtain ⟨z,its,r,⟨cls,dd,data,sl⟩,e,hc,n,hd⟩:=(show ObjOk X.prog X.w H s.heap p (.tup [w]) from I.hok p _ hH);simp only at hc hd;subst hc hd;cases r with
 |@cons _ u0 _ us ru rt =>
  cases rt;refine wpAny_binaryOp_repeat_ref (T:="tuple") (U:="int") (by decide) ⟨_,e,rfl⟩ (fun s'=>typeIs_int s' (k:Int) t) GC F.fills_int_mul gk FJ F.slot_int_index.lookup
   (eh gk (typeIs_int s (k:Int) t) F.entry_int_rmul (F.args_int_rmul_2 _ _) (HS (k:Int) t p #[u0] n dd sl) ⟨e,rfl,⟨_,e,rfl⟩,?_⟩)
  have mk:∀vs:Array Value,vs=(List.replicate k u0).toArray→k≠1→EP X pins σ Q (.ref s.heap.objs.size) {s with heap:=s.heap.push {cls:=.type "tuple",data:=.seq vs}}:=fun vs hvs h1=>by
   have hv:Vals (List.replicate k w) (List.replicate k u0):=by
    have key:∀m,Vals (List.replicate m w) (List.replicate m u0):=fun m=>by
     induction m with
     |zero=>exact .nil
     |succ m ih=>exact .cons ru ih
    exact key k
   refine ⟨.ref s.heap.objs.size,upd H s.heap.objs.size (.tup (List.replicate k w)),I.laid (t':=s.toks) (fun b o e=>ao _ e) (ai _) ⟨by rw [aZ];exact aR hk (by decide),_,hv,⟨_,ay _ rfl,rfl,0,by rw [hvs]⟩⟩,rfl,q2 h1 _ (I.hok.fresh (ai _))⟩
  by_cases h1:k=1
  ·subst h1;exact eh F.slot_tuple_mul ⟨_,e,rfl⟩ F.entry_tuple_mul (F.args_tuple_mul_2 _ _) (EY t p #[u0] n dd sl) ⟨e,⟨.ref p,H,I,rfl,q1 rfl⟩⟩
  by_cases h0:k=0
  ·subst h0;exact eh F.slot_tuple_mul ⟨_,e,rfl⟩ F.entry_tuple_mul (F.args_tuple_mul_2 _ _) (DW t p #[u0] n dd sl rfl) ⟨e,mk _ rfl h1⟩
  have hf:(List.replicate (k:Int).toNat #[u0]).foldl (fun x1 x2=>x1++x2) (#[]:Array Value)=(List.replicate k u0).toArray:=by rw [rB,aD];simp
  have hs1:((#[u0]:Array Value).size:Int)*(k:Int)=(k:Int):=by show ((1:Nat):Int)*(k:Int)=_;omega
  refine eh F.slot_tuple_mul ⟨_,e,rfl⟩ F.entry_tuple_mul (F.args_tuple_mul_2 _ _) (DX (k:Int) t p #[u0] n dd sl rfl ?_ ?_ ?_ ?_ ?_ ?_) ⟨e,?_⟩
  ·exact bv.mpr (by omega)
  ·rw [Bool.or_eq_true,ei,ei];omega
  ·rw [Bool.or_eq_true,ei];rintro (h|h);omega;cases h
  ·rw [hs1];omega
  ·rw [hs1];unfold Builtin.Tuple.tupleTooMany;rw [ei];have:(1000:Nat)≤sizeLine:=by decide
   omega
  ·rw [hf,ae,aZ];exact aR hk (by decide)
  ·exact mk _ hf h1
def G0:V→List V→Hp→VK→Prop:=fun x vs H Q=>∃(l:Addr) (xs:List V) (y:V),x=.ref l∧vs=[y]∧H l=some (.lst xs)∧qG y=true∧xs.all qG=true∧Q (.int ((xs.countP fun z=>qA z y:Nat):Int)) H
theorem pJ {y:V}:∀{xs:List V} {us:List Value},Vals xs us→xs.all qG=true→us.countP (vI y)=xs.countP fun z=>qA z y
 |[],_,r,_=>by cases r;rfl
 |x::xs,_,r,f=>by
  cases r with
  |@cons _ u _ us ru rt =>
   rw [List.all_cons,cv] at f;have ih:=pJ (y:=y) rt f.2;rw [List.countP_cons,List.countP_cons,ih,eE ru f.1]
theorem EZ:fK X "list.count" G0:=by
 intro pins s σ H x vs v us Q I rx rv h;obtain ⟨l,xs,y,rfl,rfl,hH,fy,fx,q⟩:=h;cases rx;obtain ⟨u,rfl,ru⟩:=rv.one;obtain ⟨z,its,n,r,hl,e⟩:=I.lstM hH;refine eh F.slot_list_count ⟨_,e,rfl⟩ F.entry_list_count (F.args_list_count_2 _ _) (SeqAt.list_countAt l its.toArray n none #[] u (vI y)) ⟨e,fun w hw=>QI ru fy r fx w (by simpa using hw),?_⟩;rw [show its.toArray.toList=its from rfl,pJ r fx];exact ⟨.int ((xs.countP fun z=>qA z y:Nat):Int),H,I.tok _,⟨_,rfl⟩,q⟩
theorem CS {K:PySem.W.Frag} {a1 a2 D:Addr} {xs ys:List V} {g:TG} {tc:TT} {te:TE} {σ₀:St} {H:Hp} {Q:Hp→Prop} (Pv:Nat→St→Hp→Prop) (h0:Pv 0 σ₀ (upd H D (.lst []))) (hl:∀i σ H,i≤xs.length→Pv i σ H→SqL K H a1 xs∧SqT K H a2 ys) (hn:xs.length=ys.length)
  (hs:∀i x y σ H T,xs[i]?=some x→ys[i]?=some y→Pv i σ H→H T=none→g (.ref T) σ (upd H T (.tup [x,y])) fun σ2 H3=>tc σ2 H3 fun b H4=>if b=true then te σ2 H4 fun v H5=>∃zs,H5 D=some (.lst zs)∧zs.length<sizeLine∧Pv (i+1) σ2 (upd H5 D (.lst (zs++[v]))) else Pv (i+1) σ2 H4)
  (hd:∀σ H,Pv xs.length σ H→Q H):y0 D (nM K a1 a2) g tc te σ₀ H Q:=by
 refine ⟨fun i m σ H=>m=xs.length - i∧i≤xs.length∧Pv i σ H,⟨xs.length,by simp,aG _,h0⟩,?_⟩;rintro i m σ H ⟨rfl,hi,p⟩;obtain ⟨q1,q2⟩:=hl i σ H hi p
 by_cases hlt:i<xs.length
 ·have hlt2:i<ys.length:=by omega
  refine .inr ⟨⟨xs,ys,_,_,q1,q2,aa hlt,aa hlt2⟩,Pv (i+1),fun σ' H' p'=>⟨xs.length - (i+1),by omega,rfl,hlt,p'⟩,fun v H' hy=>?_⟩;obtain ⟨T,x,y,rfl,hT,rfl,e1,e2⟩:=hy;exact hs i x y σ H T (e1 xs q1) (e2 ys q2) p hT
 ·exact .inl ⟨⟨xs,ys,q1,q2,.inl (by omega)⟩,hd σ H (by rw [show xs.length=i by omega];exact p)⟩
end
end L2
namespace L2
open PySem PySem.Spec PyProof.Rows
section
variable {prog:Program} {w:World} {A:Around} {s:Shared} {E:Value→Shared→Prop}
end
section
variable {X:Cx} {pins:List (Addr×Obj)} {σ:List (Option V)} {H:Hp} {s:Shared} {h':Heap}
end
section
variable {X:Cx}
end
section
variable {prog:Program} {w:World} {A:Around} {s:Shared} {E:Value→Shared→Prop}
end
section
variable {X:Cx} {e se:Expr} {te:TE} {lo hi:Option Expr} {tl th tk:TO} {pos p2:Pos}
end
section
variable {X:Cx}
end
section
end
section
variable {prog:Program} {w:World} {A:Around} {s:Shared} {E:Value→Shared→Prop}
end
section
variable {X:Cx} {elts:List Expr} {x1:Nat} {tpos:Pos}
end
section
variable {X:Cx}
def HY (K:PySem.W.Frag):R2:=fun x y H Q=>∃(a b:Addr) (xs ys:List V) (es:List Bool),x=.ref a∧y=.ref b∧SqT K H a xs∧SqT K H b ys∧xs.length=ys.length∧es.length=xs.length∧(∀j,j<xs.length→DEq K H (xs.getD j .non) (ys.getD j .non) (es.getD j true))∧Q (.bl (es.all id)) H
theorem FV (hu:X.A.units+1<cLine):kM X (compareOp .Eq) (HY X.K):=by
 intro pins s σ H x y v u Q I rx ry h;obtain ⟨a,b,xs,ys,es,rfl,rfl,ha,hb,hlen,hes,hd,q⟩:=h;cases rx;cases ry;obtain ⟨its,r,pl,hz⟩:=I.tuple ha;obtain ⟨its2,r2,pl2,hz2⟩:=I.tuple hb;have hl:=r.length;have hl2:=r2.length;refine SeqAt.eq_tupleAt (e:=fun j=>es.getD j true) pl pl2 (by omega) (fun j h1 h2=>?_) ⟨.bl _,H,I,rfl,?_⟩
 ·exact (hd j (by rw [hl];simpa using h1)).at I (vS r h1) (vS r2 h2) hu
 ·have e:((List.range (min its.toArray.size its2.toArray.size)).all (fun j=>es.getD j true)&&its.toArray.size == its2.toArray.size)=es.all id:=by
   rw [ae,ae,← hl,← hl2,← hlen,Nat.min_self,cw,ge,← hes,cV]
  rw [e];exact q
end
variable {K:PySem.W.Frag} {H:Hp} {i:Int} {v:V} {P:V→Prop}
theorem kR {p:Addr} {xs:List V} (h:SqL K H p xs) (t:qU xs i=some v) (q:P v):∃p' xs' i' v',V.ref p=.ref p'∧V.int i=.int i'∧SqL K H p' xs'∧qU xs' i'=some v'∧P v':=⟨p,xs,i,v,rfl,rfl,h,t,q⟩
theorem j5 {p:Addr} {xs:List V} (h:SqT K H p xs) (t:qU xs i=some v) (q:P v):∃p' xs' i' v',V.ref p=.ref p'∧V.int i=.int i'∧SqT K H p' xs'∧qU xs' i'=some v'∧P v':=⟨p,xs,i,v,rfl,rfl,h,t,q⟩
theorem kC {a C dx:Addr} {fs:List (Str×V)} {f:Str} (h:H a=some (.ins C dx fs)) (c:Cls K C) (n:NoAttr K C f) (l:fs.lookup f=some v) (q:P v):∃a' C' dx' fs' v',V.ref a=.ref a'∧H a'=some (.ins C' dx' fs')∧Cls K C'∧NoAttr K C' f∧fs'.lookup f=some v'∧P v':=⟨a,C,dx,fs,v,rfl,h,c,n,l,q⟩
theorem j6 {P:Int→Int→Prop} {j:Int} (h:P i j):∃a b,V.int i=V.int a∧V.int j=V.int b∧P a b:=⟨i,j,rfl,rfl,h⟩
end L2
namespace L2
open PySem PySem.Spec PyProof.Rows
section
variable {X:Cx}
def mS (K:PySem.W.Frag):R2:=fun x y H Q=>∃(a b:Addr) (xs ys:List V) (es:List Bool),x=.ref a∧y=.ref b∧SqT K H a xs∧SqT K H b ys∧xs.length=ys.length∧es.length=xs.length∧(∀j,j<xs.length→DEq K H (xs.getD j .non) (ys.getD j .non) (es.getD j true))∧Q (.bl (!es.all id)) H
theorem lY (hu:X.A.units+1<cLine):kM X (compareOp .NotEq) (mS X.K):=by
 intro pins s σ H x y v u Q I rx ry h;obtain ⟨a,b,xs,ys,es,rfl,rfl,ha,hb,hlen,hes,hd,q⟩:=h;cases rx;cases ry;obtain ⟨its,r,pl,hz⟩:=I.tuple ha;obtain ⟨its2,r2,pl2,hz2⟩:=I.tuple hb;have hl:=r.length;have hl2:=r2.length;refine SeqAt.RcNeAt.tuples (e:=fun j=>es.getD j true) pl pl2 (by omega) (fun j h1 h2=>?_) X.prog X.w X.xe _ ⟨.bl _,H,I,rfl,?_⟩
 ·exact (hd j (by rw [hl];simpa using h1)).at I (vS r h1) (vS r2 h2) hu
 ·have e:((List.range (min its.toArray.size its2.toArray.size)).all (fun j=>es.getD j true)&&its.toArray.size == its2.toArray.size)=es.all id:=by
   rw [ae,ae,← hl,← hl2,← hlen,Nat.min_self,cw,ge,← hes,cV]
  rw [e];exact q
end
end L2
namespace L2
theorem jA {α β:Type} {f:α→β} {b:β} {v:α} {B:α→Prop} (h:b=f v) (q:B v):∃x,b=f x∧B x:=⟨v,h,q⟩
open PySem PySem.Spec PyProof.Rows in
theorem jX {CX:vK} {P:Program} {w:World} {K:PySem.W.Frag} {mg:Str→Option Value} {base:Heap} {N:List Str} {qual:Str} {scope:Scope} {f:Addr} {cd:Value} {A:Around} {outer:List Env} {s:Shared} {H:Hp} {E:XK}:(kN CX P w K mg base N qual scope f cd A outer s H E).K=K:=rfl
open PySem PySem.Spec PyProof.Rows in
theorem jW {CX:vK} {P:Program} {w:World} {K:PySem.W.Frag} {mg:Str→Option Value} {base:Heap} {N:List Str} {qual:Str} {scope:Scope} {f:Addr} {cd:Value} {A:Around} {outer:List Env} {s:Shared} {H:Hp} {E:XK}:(kN CX P w K mg base N qual scope f cd A outer s H E).nox.K=K:=rfl
end L2
namespace L2
variable {α0 α1 α2:Sort _}
theorem bW {P:α0→α1→α2→Prop} (a0:α0) (a1:α1) (a2:α2) (h:P a0 a1 a2):∃a0 a1 a2,P a0 a1 a2:=⟨a0,a1,a2,h⟩
variable {α3:Sort _}
theorem ZZ {P:α0→α1→α2→α3→Prop} (a0:α0) (a1:α1) (a2:α2) (a3:α3) (h:P a0 a1 a2 a3):∃a0 a1 a2 a3,P a0 a1 a2 a3:=⟨a0,a1,a2,a3,h⟩
variable {α4:Sort _}
theorem zD {P:α0→α1→α2→α3→α4→Prop} (a0:α0) (a1:α1) (a2:α2) (a3:α3) (a4:α4) (h:P a0 a1 a2 a3 a4):∃a0 a1 a2 a3 a4,P a0 a1 a2 a3 a4:=⟨a0,a1,a2,a3,a4,h⟩
variable {α5:Sort _}
theorem Q1 {P:α0→α1→α2→α3→α4→α5→Prop} (a0:α0) (a1:α1) (a2:α2) (a3:α3) (a4:α4) (a5:α5) (h:P a0 a1 a2 a3 a4 a5):∃a0 a1 a2 a3 a4 a5,P a0 a1 a2 a3 a4 a5:=⟨a0,a1,a2,a3,a4,a5,h⟩
variable {α6:Sort _}
theorem bV {P:α0→α1→α2→α3→α4→α5→α6→Prop} (a0:α0) (a1:α1) (a2:α2) (a3:α3) (a4:α4) (a5:α5) (a6:α6) (h:P a0 a1 a2 a3 a4 a5 a6):∃a0 a1 a2 a3 a4 a5 a6,P a0 a1 a2 a3 a4 a5 a6:=⟨a0,a1,a2,a3,a4,a5,a6,h⟩
variable {α7:Sort _}
theorem vF {P:α0→α1→α2→α3→α4→α5→α6→α7→Prop} (a0:α0) (a1:α1) (a2:α2) (a3:α3) (a4:α4) (a5:α5) (a6:α6) (a7:α7) (h:P a0 a1 a2 a3 a4 a5 a6 a7):∃a0 a1 a2 a3 a4 a5 a6 a7,P a0 a1 a2 a3 a4 a5 a6 a7:=⟨a0,a1,a2,a3,a4,a5,a6,a7,h⟩
variable {α8:Sort _}
theorem fG {P:α0→α1→α2→α3→α4→α5→α6→α7→α8→Prop} (a0:α0) (a1:α1) (a2:α2) (a3:α3) (a4:α4) (a5:α5) (a6:α6) (a7:α7) (a8:α8) (h:P a0 a1 a2 a3 a4 a5 a6 a7 a8):∃a0 a1 a2 a3 a4 a5 a6 a7 a8,P a0 a1 a2 a3 a4 a5 a6 a7 a8:=⟨a0,a1,a2,a3,a4,a5,a6,a7,a8,h⟩
variable {α9:Sort _}
theorem yS {P:α0→α1→α2→α3→α4→α5→α6→α7→α8→α9→Prop} (a0:α0) (a1:α1) (a2:α2) (a3:α3) (a4:α4) (a5:α5) (a6:α6) (a7:α7) (a8:α8) (a9:α9) (h:P a0 a1 a2 a3 a4 a5 a6 a7 a8 a9):∃a0 a1 a2 a3 a4 a5 a6 a7 a8 a9,P a0 a1 a2 a3 a4 a5 a6 a7 a8 a9:=⟨a0,a1,a2,a3,a4,a5,a6,a7,a8,a9,h⟩
variable {α10:Sort _}
theorem KW {P:α0→α1→α2→α3→α4→α5→α6→α7→α8→α9→α10→Prop} (a0:α0) (a1:α1) (a2:α2) (a3:α3) (a4:α4) (a5:α5) (a6:α6) (a7:α7) (a8:α8) (a9:α9) (a10:α10) (h:P a0 a1 a2 a3 a4 a5 a6 a7 a8 a9 a10):∃a0 a1 a2 a3 a4 a5 a6 a7 a8 a9 a10,P a0 a1 a2 a3 a4 a5 a6 a7 a8 a9 a10:=⟨a0,a1,a2,a3,a4,a5,a6,a7,a8,a9,a10,h⟩
variable {α11:Sort _}
theorem wC {P:α0→α1→α2→α3→α4→α5→α6→α7→α8→α9→α10→α11→Prop} (a0:α0) (a1:α1) (a2:α2) (a3:α3) (a4:α4) (a5:α5) (a6:α6) (a7:α7) (a8:α8) (a9:α9) (a10:α10) (a11:α11) (h:P a0 a1 a2 a3 a4 a5 a6 a7 a8 a9 a10 a11):∃a0 a1 a2 a3 a4 a5 a6 a7 a8 a9 a10 a11,P a0 a1 a2 a3 a4 a5 a6 a7 a8 a9 a10 a11:=⟨a0,a1,a2,a3,a4,a5,a6,a7,a8,a9,a10,a11,h⟩
variable {α12:Sort _}
theorem KU {P:α0→α1→α2→α3→α4→α5→α6→α7→α8→α9→α10→α11→α12→Prop} (a0:α0) (a1:α1) (a2:α2) (a3:α3) (a4:α4) (a5:α5) (a6:α6) (a7:α7) (a8:α8) (a9:α9) (a10:α10) (a11:α11) (a12:α12) (h:P a0 a1 a2 a3 a4 a5 a6 a7 a8 a9 a10 a11 a12):∃a0 a1 a2 a3 a4 a5 a6 a7 a8 a9 a10 a11 a12,P a0 a1 a2 a3 a4 a5 a6 a7 a8 a9 a10 a11 a12:=⟨a0,a1,a2,a3,a4,a5,a6,a7,a8,a9,a10,a11,a12,h⟩
variable {α13:Sort _}
theorem KT {P:α0→α1→α2→α3→α4→α5→α6→α7→α8→α9→α10→α11→α12→α13→Prop} (a0:α0) (a1:α1) (a2:α2) (a3:α3) (a4:α4) (a5:α5) (a6:α6) (a7:α7) (a8:α8) (a9:α9) (a10:α10) (a11:α11) (a12:α12) (a13:α13) (h:P a0 a1 a2 a3 a4 a5 a6 a7 a8 a9 a10 a11 a12 a13):∃a0 a1 a2 a3 a4 a5 a6 a7 a8 a9 a10 a11 a12 a13,P a0 a1 a2 a3 a4 a5 a6 a7 a8 a9 a10 a11 a12 a13:=⟨a0,a1,a2,a3,a4,a5,a6,a7,a8,a9,a10,a11,a12,a13,h⟩
variable {α14:Sort _}
theorem KS {P:α0→α1→α2→α3→α4→α5→α6→α7→α8→α9→α10→α11→α12→α13→α14→Prop} (a0:α0) (a1:α1) (a2:α2) (a3:α3) (a4:α4) (a5:α5) (a6:α6) (a7:α7) (a8:α8) (a9:α9) (a10:α10) (a11:α11) (a12:α12) (a13:α13) (a14:α14) (h:P a0 a1 a2 a3 a4 a5 a6 a7 a8 a9 a10 a11 a12 a13 a14):∃a0 a1 a2 a3 a4 a5 a6 a7 a8 a9 a10 a11 a12 a13 a14,P a0 a1 a2 a3 a4 a5 a6 a7 a8 a9 a10 a11 a12 a13 a14:=⟨a0,a1,a2,a3,a4,a5,a6,a7,a8,a9,a10,a11,a12,a13,a14,h⟩
variable {α15:Sort _}
theorem nH {P:α0→α1→α2→α3→α4→α5→α6→α7→α8→α9→α10→α11→α12→α13→α14→α15→Prop} (a0:α0) (a1:α1) (a2:α2) (a3:α3) (a4:α4) (a5:α5) (a6:α6) (a7:α7) (a8:α8) (a9:α9) (a10:α10) (a11:α11) (a12:α12) (a13:α13) (a14:α14) (a15:α15) (h:P a0 a1 a2 a3 a4 a5 a6 a7 a8 a9 a10 a11 a12 a13 a14 a15):∃a0 a1 a2 a3 a4 a5 a6 a7 a8 a9 a10 a11 a12 a13 a14 a15,P a0 a1 a2 a3 a4 a5 a6 a7 a8 a9 a10 a11 a12 a13 a14 a15:=⟨a0,a1,a2,a3,a4,a5,a6,a7,a8,a9,a10,a11,a12,a13,a14,a15,h⟩
theorem wB {α16:Sort _} {P:α0→α1→α2→α3→α4→α5→α6→α7→α8→α9→α10→α11→α12→α13→α14→α15→α16→Prop} (a0:α0) (a1:α1) (a2:α2) (a3:α3) (a4:α4) (a5:α5) (a6:α6) (a7:α7) (a8:α8) (a9:α9) (a10:α10) (a11:α11) (a12:α12) (a13:α13) (a14:α14) (a15:α15) (a16:α16) (h:P a0 a1 a2 a3 a4 a5 a6 a7 a8 a9 a10 a11 a12 a13 a14 a15 a16):∃a0 a1 a2 a3 a4 a5 a6 a7 a8 a9 a10 a11 a12 a13 a14 a15 a16,P a0 a1 a2 a3 a4 a5 a6 a7 a8 a9 a10 a11 a12 a13 a14 a15 a16:=⟨a0,a1,a2,a3,a4,a5,a6,a7,a8,a9,a10,a11,a12,a13,a14,a15,a16,h⟩
variable {A0 A1 A2:Prop}
theorem qS (h0:A0) (h1:A1) (h2:A2):A0∧A1∧A2:=⟨h0,h1,h2⟩
variable {A3:Prop}
theorem Z1 (h0:A0) (h1:A1) (h2:A2) (h3:A3):A0∧A1∧A2∧A3:=⟨h0,h1,h2,h3⟩
variable {A4 A5:Prop}
theorem yD (h0:A0) (h1:A1) (h2:A2) (h3:A3) (h4:A4) (h5:A5):A0∧A1∧A2∧A3∧A4∧A5:=⟨h0,h1,h2,h3,h4,h5⟩
variable {A6:Prop}
theorem vY (h0:A0) (h1:A1) (h2:A2) (h3:A3) (h4:A4) (h5:A5) (h6:A6):A0∧A1∧A2∧A3∧A4∧A5∧A6:=⟨h0,h1,h2,h3,h4,h5,h6⟩
variable {A7:Prop}
theorem zE (h0:A0) (h1:A1) (h2:A2) (h3:A3) (h4:A4) (h5:A5) (h6:A6) (h7:A7):A0∧A1∧A2∧A3∧A4∧A5∧A6∧A7:=⟨h0,h1,h2,h3,h4,h5,h6,h7⟩
variable {A8:Prop}
theorem bX (h0:A0) (h1:A1) (h2:A2) (h3:A3) (h4:A4) (h5:A5) (h6:A6) (h7:A7) (h8:A8):A0∧A1∧A2∧A3∧A4∧A5∧A6∧A7∧A8:=⟨h0,h1,h2,h3,h4,h5,h6,h7,h8⟩
variable {A9:Prop}
theorem an10 (h0:A0) (h1:A1) (h2:A2) (h3:A3) (h4:A4) (h5:A5) (h6:A6) (h7:A7) (h8:A8) (h9:A9):A0∧A1∧A2∧A3∧A4∧A5∧A6∧A7∧A8∧A9:=⟨h0,h1,h2,h3,h4,h5,h6,h7,h8,h9⟩
variable {A10:Prop}
theorem KZ (h0:A0) (h1:A1) (h2:A2) (h3:A3) (h4:A4) (h5:A5) (h6:A6) (h7:A7) (h8:A8) (h9:A9) (h10:A10):A0∧A1∧A2∧A3∧A4∧A5∧A6∧A7∧A8∧A9∧A10:=⟨h0,h1,h2,h3,h4,h5,h6,h7,h8,h9,h10⟩
theorem e9 {A11:Prop} (h0:A0) (h1:A1) (h2:A2) (h3:A3) (h4:A4) (h5:A5) (h6:A6) (h7:A7) (h8:A8) (h9:A9) (h10:A10) (h11:A11):A0∧A1∧A2∧A3∧A4∧A5∧A6∧A7∧A8∧A9∧A10∧A11:=⟨h0,h1,h2,h3,h4,h5,h6,h7,h8,h9,h10,h11⟩
variable {C:Prop}
theorem wA {P:α0→α1→α2→Prop} (h:∃a0 a1 a2,P a0 a1 a2) (q:∀a0 a1 a2,P a0 a1 a2→C):C:=by
 obtain ⟨a0,a1,a2,h⟩:=h;exact q _ _ _ h
theorem nG {P:α0→α1→α2→α3→Prop} (h:∃a0 a1 a2 a3,P a0 a1 a2 a3) (q:∀a0 a1 a2 a3,P a0 a1 a2 a3→C):C:=by
 obtain ⟨a0,a1,a2,a3,h⟩:=h;exact q _ _ _ _ h
theorem y9 {P:α0→α1→α2→α3→α4→Prop} (h:∃a0 a1 a2 a3 a4,P a0 a1 a2 a3 a4) (q:∀a0 a1 a2 a3 a4,P a0 a1 a2 a3 a4→C):C:=by
 obtain ⟨a0,a1,a2,a3,a4,h⟩:=h;exact q _ _ _ _ _ h
theorem ZU {P:α0→α1→α2→α3→α4→α5→Prop} (h:∃a0 a1 a2 a3 a4 a5,P a0 a1 a2 a3 a4 a5) (q:∀a0 a1 a2 a3 a4 a5,P a0 a1 a2 a3 a4 a5→C):C:=by
 obtain ⟨a0,a1,a2,a3,a4,a5,h⟩:=h;exact q _ _ _ _ _ _ h
theorem QX {P:α0→α1→α2→α3→α4→α5→α6→Prop} (h:∃a0 a1 a2 a3 a4 a5 a6,P a0 a1 a2 a3 a4 a5 a6) (q:∀a0 a1 a2 a3 a4 a5 a6,P a0 a1 a2 a3 a4 a5 a6→C):C:=by
 obtain ⟨a0,a1,a2,a3,a4,a5,a6,h⟩:=h;exact q _ _ _ _ _ _ _ h
theorem zQ {P:α0→α1→α2→α3→α4→α5→α6→α7→Prop} (h:∃a0 a1 a2 a3 a4 a5 a6 a7,P a0 a1 a2 a3 a4 a5 a6 a7) (q:∀a0 a1 a2 a3 a4 a5 a6 a7,P a0 a1 a2 a3 a4 a5 a6 a7→C):C:=by
 obtain ⟨a0,a1,a2,a3,a4,a5,a6,a7,h⟩:=h;exact q _ _ _ _ _ _ _ _ h
theorem u9 {P:α0→α1→α2→α3→α4→α5→α6→α7→α8→Prop} (h:∃a0 a1 a2 a3 a4 a5 a6 a7 a8,P a0 a1 a2 a3 a4 a5 a6 a7 a8) (q:∀a0 a1 a2 a3 a4 a5 a6 a7 a8,P a0 a1 a2 a3 a4 a5 a6 a7 a8→C):C:=by
 obtain ⟨a0,a1,a2,a3,a4,a5,a6,a7,a8,h⟩:=h;exact q _ _ _ _ _ _ _ _ _ h
theorem zO {P:α0→α1→α2→α3→α4→α5→α6→α7→α8→α9→Prop} (h:∃a0 a1 a2 a3 a4 a5 a6 a7 a8 a9,P a0 a1 a2 a3 a4 a5 a6 a7 a8 a9) (q:∀a0 a1 a2 a3 a4 a5 a6 a7 a8 a9,P a0 a1 a2 a3 a4 a5 a6 a7 a8 a9→C):C:=by
 obtain ⟨a0,a1,a2,a3,a4,a5,a6,a7,a8,a9,h⟩:=h;exact q _ _ _ _ _ _ _ _ _ _ h
theorem IR {P:α0→α1→α2→α3→α4→α5→α6→α7→α8→α9→α10→Prop} (h:∃a0 a1 a2 a3 a4 a5 a6 a7 a8 a9 a10,P a0 a1 a2 a3 a4 a5 a6 a7 a8 a9 a10) (q:∀a0 a1 a2 a3 a4 a5 a6 a7 a8 a9 a10,P a0 a1 a2 a3 a4 a5 a6 a7 a8 a9 a10→C):C:=by
 obtain ⟨a0,a1,a2,a3,a4,a5,a6,a7,a8,a9,a10,h⟩:=h;exact q _ _ _ _ _ _ _ _ _ _ _ h
theorem IQ {P:α0→α1→α2→α3→α4→α5→α6→α7→α8→α9→α10→α11→Prop} (h:∃a0 a1 a2 a3 a4 a5 a6 a7 a8 a9 a10 a11,P a0 a1 a2 a3 a4 a5 a6 a7 a8 a9 a10 a11) (q:∀a0 a1 a2 a3 a4 a5 a6 a7 a8 a9 a10 a11,P a0 a1 a2 a3 a4 a5 a6 a7 a8 a9 a10 a11→C):C:=by
 obtain ⟨a0,a1,a2,a3,a4,a5,a6,a7,a8,a9,a10,a11,h⟩:=h;exact q _ _ _ _ _ _ _ _ _ _ _ _ h
theorem IP {P:α0→α1→α2→α3→α4→α5→α6→α7→α8→α9→α10→α11→α12→Prop} (h:∃a0 a1 a2 a3 a4 a5 a6 a7 a8 a9 a10 a11 a12,P a0 a1 a2 a3 a4 a5 a6 a7 a8 a9 a10 a11 a12) (q:∀a0 a1 a2 a3 a4 a5 a6 a7 a8 a9 a10 a11 a12,P a0 a1 a2 a3 a4 a5 a6 a7 a8 a9 a10 a11 a12→C):C:=by
 obtain ⟨a0,a1,a2,a3,a4,a5,a6,a7,a8,a9,a10,a11,a12,h⟩:=h;exact q _ _ _ _ _ _ _ _ _ _ _ _ _ h
theorem IO {P:α0→α1→α2→α3→α4→α5→α6→α7→α8→α9→α10→α11→α12→α13→Prop} (h:∃a0 a1 a2 a3 a4 a5 a6 a7 a8 a9 a10 a11 a12 a13,P a0 a1 a2 a3 a4 a5 a6 a7 a8 a9 a10 a11 a12 a13) (q:∀a0 a1 a2 a3 a4 a5 a6 a7 a8 a9 a10 a11 a12 a13,P a0 a1 a2 a3 a4 a5 a6 a7 a8 a9 a10 a11 a12 a13→C):C:=by
 obtain ⟨a0,a1,a2,a3,a4,a5,a6,a7,a8,a9,a10,a11,a12,a13,h⟩:=h;exact q _ _ _ _ _ _ _ _ _ _ _ _ _ _ h
theorem IN {P:α0→α1→α2→α3→α4→α5→α6→α7→α8→α9→α10→α11→α12→α13→α14→Prop} (h:∃a0 a1 a2 a3 a4 a5 a6 a7 a8 a9 a10 a11 a12 a13 a14,P a0 a1 a2 a3 a4 a5 a6 a7 a8 a9 a10 a11 a12 a13 a14) (q:∀a0 a1 a2 a3 a4 a5 a6 a7 a8 a9 a10 a11 a12 a13 a14,P a0 a1 a2 a3 a4 a5 a6 a7 a8 a9 a10 a11 a12 a13 a14→C):C:=by
 obtain ⟨a0,a1,a2,a3,a4,a5,a6,a7,a8,a9,a10,a11,a12,a13,a14,h⟩:=h;exact q _ _ _ _ _ _ _ _ _ _ _ _ _ _ _ h
theorem IM {P:α0→α1→α2→α3→α4→α5→α6→α7→α8→α9→α10→α11→α12→α13→α14→α15→Prop} (h:∃a0 a1 a2 a3 a4 a5 a6 a7 a8 a9 a10 a11 a12 a13 a14 a15,P a0 a1 a2 a3 a4 a5 a6 a7 a8 a9 a10 a11 a12 a13 a14 a15) (q:∀a0 a1 a2 a3 a4 a5 a6 a7 a8 a9 a10 a11 a12 a13 a14 a15,P a0 a1 a2 a3 a4 a5 a6 a7 a8 a9 a10 a11 a12 a13 a14 a15→C):C:=by
 obtain ⟨a0,a1,a2,a3,a4,a5,a6,a7,a8,a9,a10,a11,a12,a13,a14,a15,h⟩:=h;exact q _ _ _ _ _ _ _ _ _ _ _ _ _ _ _ _ h
theorem IL {α16:Sort _} {P:α0→α1→α2→α3→α4→α5→α6→α7→α8→α9→α10→α11→α12→α13→α14→α15→α16→Prop} (h:∃a0 a1 a2 a3 a4 a5 a6 a7 a8 a9 a10 a11 a12 a13 a14 a15 a16,P a0 a1 a2 a3 a4 a5 a6 a7 a8 a9 a10 a11 a12 a13 a14 a15 a16) (q:∀a0 a1 a2 a3 a4 a5 a6 a7 a8 a9 a10 a11 a12 a13 a14 a15 a16,P a0 a1 a2 a3 a4 a5 a6 a7 a8 a9 a10 a11 a12 a13 a14 a15 a16→C):C:=by
 obtain ⟨a0,a1,a2,a3,a4,a5,a6,a7,a8,a9,a10,a11,a12,a13,a14,a15,a16,h⟩:=h;exact q _ _ _ _ _ _ _ _ _ _ _ _ _ _ _ _ _ h
theorem vH (h:A0∧A1∧A2) (q:A0→A1→A2→C):C:=by
 obtain ⟨h0,h1,h2⟩:=h;exact q h0 h1 h2
theorem wD (h:A0∧A1∧A2∧A3) (q:A0→A1→A2→A3→C):C:=by
 obtain ⟨h0,h1,h2,h3⟩:=h;exact q h0 h1 h2 h3
theorem zJ (h:A0∧A1∧A2∧A3∧A4∧A5) (q:A0→A1→A2→A3→A4→A5→C):C:=by
 obtain ⟨h0,h1,h2,h3,h4,h5⟩:=h;exact q h0 h1 h2 h3 h4 h5
theorem zA (h:A0∧A1∧A2∧A3∧A4∧A5∧A6) (q:A0→A1→A2→A3→A4→A5→A6→C):C:=by
 obtain ⟨h0,h1,h2,h3,h4,h5,h6⟩:=h;exact q h0 h1 h2 h3 h4 h5 h6
theorem JZ (h:A0∧A1∧A2∧A3∧A4∧A5∧A6∧A7) (q:A0→A1→A2→A3→A4→A5→A6→A7→C):C:=by
 obtain ⟨h0,h1,h2,h3,h4,h5,h6,h7⟩:=h;exact q h0 h1 h2 h3 h4 h5 h6 h7
theorem eZ (h:A0∧A1∧A2∧A3∧A4∧A5∧A6∧A7∧A8) (q:A0→A1→A2→A3→A4→A5→A6→A7→A8→C):C:=by
 obtain ⟨h0,h1,h2,h3,h4,h5,h6,h7,h8⟩:=h;exact q h0 h1 h2 h3 h4 h5 h6 h7 h8
theorem IT (h:A0∧A1∧A2∧A3∧A4∧A5∧A6∧A7∧A8∧A9∧A10) (q:A0→A1→A2→A3→A4→A5→A6→A7→A8→A9→A10→C):C:=by
 obtain ⟨h0,h1,h2,h3,h4,h5,h6,h7,h8,h9,h10⟩:=h;exact q h0 h1 h2 h3 h4 h5 h6 h7 h8 h9 h10
theorem uQ {A11:Prop} (h:A0∧A1∧A2∧A3∧A4∧A5∧A6∧A7∧A8∧A9∧A10∧A11) (q:A0→A1→A2→A3→A4→A5→A6→A7→A8→A9→A10→A11→C):C:=by
 obtain ⟨h0,h1,h2,h3,h4,h5,h6,h7,h8,h9,h10,h11⟩:=h;exact q h0 h1 h2 h3 h4 h5 h6 h7 h8 h9 h10 h11
end L2
namespace L2
open PySem PySem.Spec PyProof.Rows
section
variable {X:Cx}
end
section
variable {prog:Program} {w:World} {A:Around} {E:Value→Shared→Prop} {s:Shared}
end
section
variable {X:Cx}
end
section
variable {X:Cx} {pins:List (Addr×Obj)} {σ:St} {H:Hp} {s:Shared} {a:Addr} {y d:V} {u r:Value} {o:Option V} {A:Around} {E:Value→Shared→Prop}
end
section
variable {X:Cx} {o e f:Expr} {apos cpos:Pos} {td ty tx:TE}
end
section
variable {M:Model} {A:Around} {E:Value→Shared→Prop} {s:Shared}
theorem EX {B:Heap} {env:Env} {outer:List Env} {L e:Addr} {cls a0 fl:Value} {Q:Unit→Shared→Prop} (hfr:A.frames=some (env::outer)) (hl:s.heap.FunFrames B (env::outer)) (hf:env.frame=some L) (ht:s.heap.TracedAtW B e cls a0 fl) (hn:fl≠rawInt L) (hb:B.StaysIn s.heap) (he0:B.get? e=none)
  (q:∀h',Heap.NotedW B (env::outer) e cls a0 (rawInt L) s.heap h'→Q () {s with heap:=h'}):wpAny M A (noteFrame (.ref e) env) Q E s:=by
 obtain ⟨oe,vs,T,oT,ts,he,⟨rfl,h0⟩,hd,h1,nT,nTe,hT,dT,h3⟩:=ht;unfold noteFrame;simp only [hf];refine ac (bj he hd h1 ?_);rw [if_pos (show (Value.ref T != Value.none)=true from by simp)];refine ac (bj hT dT h3 ?_);rw [if_neg (show ¬((fl == rawInt L)=true) from fun z=>hn (eq_of_beq z))];refine ac (wpAny_setField hT dT (cq.mp h3).1 ?_);have oth:∀b,b≠T→(s.heap.update T (Obj.mapFields (·.setIfInBounds 3 Value.none))).get? b=s.heap.get? b:=fun b nb=>dq _ _ (Ne.symm nb)
 have nrec:∀b o,s.heap.get? b=some o→(∀vs,o.data≠.fields vs)→b≠T:=fun b o hbo nf z=>by rw [z,hT] at hbo;cases hbo;exact nf ts dT
 refine wpAny_entryW hfr (hl.of_keeps fun b o hbo nf=>⟨o,(oth b (nrec b o hbo nf)).trans hbo,rfl⟩) hf ((oth e (Ne.symm nTe)).trans he) (fun b o hbo=>(oth b fun z=>by rw [z,nT] at hbo;cases hbo).trans (hb b o hbo)) he0 hd (cq.mp h1).1 h0 fun h' y=>?_
 obtain ⟨y1,y2,y3,y4⟩:=y;exact q h' ⟨y1,y2,y3,fun b o hbo nf=>y4 b o ((oth b (nrec b o hbo nf)).trans hbo) nf⟩
theorem DA {B:Heap} {env:Env} {outer:List Env} {L e:Addr} {cls a0 fl:Value} {Q:Unit→Shared→Prop} (hfr:A.frames=some (env::outer)) (hl:s.heap.FunFrames B (env::outer)) (hf:env.frame=some L) (ht:s.heap.TracedAtW B e cls a0 fl) (hb:B.StaysIn s.heap) (he0:B.get? e=none)
  (q:∀h',Heap.FlyingW B outer e cls a0 h'→s.heap.UpToSlots h'→Q () {s with heap:=h'}):wpAny M A (leaving env (.ref e)) Q E s:=by
 have fin:∀h2,Heap.HeldW B (env::outer) e cls a0 L h2→s.heap.UpToSlots h2→wpAny M A (setFlight (.ref e) none) Q E {s with heap:=h2}:=fun h2 hh up=>by
  refine wpAny_landsW (s:={s with heap:=h2}) hh fun h' fly up'=>q h' ?_ (up.trans up')
  obtain ⟨k1,k2,⟨_,_,k3⟩,k4⟩:=fly;exact ⟨k1,k2,k3,k4⟩
 unfold leaving
 by_cases hn:fl=rawInt L
 ·subst hn;exact ac (wpAny_noteFrame_againW hf ht (fin s.heap ⟨hb,he0,hl,ht⟩ (Heap.UpToSlots.refl _)))
 ·refine ac (EX hfr hl hf ht hn hb he0 fun h2 y=>?_);obtain ⟨y1,y2,y3,y4⟩:=y;exact fin h2 ⟨y1,he0,y2,y3⟩ y4
end
theorem DU {B B':Heap} (k:∀b o,B'.get? b=some o→B.get? b=some o) {b:Addr} (hn:B.get? b=none):B'.get? b=none:=by
 cases r:B'.get? b with
 |none=>rfl
 |some v=>rw [k b v r] at hn;cases hn
theorem o5 {h B B':Heap} (k:∀b o,B'.get? b=some o→B.get? b=some o):∀{l:List Env},h.FunFrames B l→h.FunFrames B' l
 |[],_=>trivial
 |_::_,⟨hk,⟨L,o,hf,hn,ho,hd⟩,hr⟩=>⟨hk,⟨L,o,hf,DU k hn,ho,hd⟩,o5 k hr⟩
def ZT (X:Cx) (N:List Str) (scope:Scope) (C:Addr) (s:Shared) (H:Hp) (pins:List (Addr×Obj)) (fp:List Addr) (RX:Value→Hp→Prop):Value→Shared→Prop:=fun e s'=>∃pins₁ σ₁ H₁ s₁,Inv (kW X N scope C s H pins fp) pins₁ σ₁ H₁ s₁∧kF X.prog X.w X.stack H₁ s₁ (fun c _ H'=>RX c H') e s'
theorem DB {X:Cx} {N:List Str} {scope:Scope} {C:Addr} {s:Shared} {H:Hp} {pins:List (Addr×Obj)} {fp:List Addr} {RX:Value→Hp→Prop}:QT ((kW X N scope C s H pins fp).wish (ZT X N scope C s H pins fp RX)) (fun _ c H'=>RX c H') :=
 fun pins₁ σ₁ H₁ s₁ _ _ I hx=>⟨pins₁,σ₁,H₁,s₁,I.unwish,hx⟩
section
variable {P:Program} {w:World} {K:PySem.W.Frag} {mg:Str→Option Value} {base:Heap} {N:List Str} {qual:Str} {scope:Scope} {f:Addr} {cd:Value} {A:Around} {outer:List Env} {s:Shared} {H:Hp} {E:XK}
theorem FC {Nc:List Str} {sc:Scope} {pins:List (Addr×Obj)} {σ:St} {H2:Hp} {s2:Shared} {fp:List Addr} {C:Addr} {e acc:Value} {s':Shared} {use:Option (Value→Sem Unit)} {Q:Value→Shared→Prop} {E':Value→Shared→Prop}
  (I2:Inv (kN (kF P w) P w K mg base N qual scope f cd A outer s H E) pins σ H2 s2) (f2:∀b∈fp,yT (kN (kF P w) P w K mg base N qual scope f cd A outer s H E) pins H2 b) (hC:s2.heap.objs.size≤C)
  (hx:ZT (kN (kF P w) P w K mg base N qual scope f cd A outer s H E) Nc sc C s2 H2 pins fp (fun c H'=>E c none H') e s') (cells:List (Str×Addr)) :
  wpAny (model P w) (A.deeper (envOfC qual scope s.heap.objs.size f cd)) (noteFrame e (compEnvC sc cells C (envOfC qual scope s.heap.objs.size f cd)))
   (fun _ s''=>compPost (model P w) (A.deeper (envOfC qual scope s.heap.objs.size f cd)) (kN (kF P w) P w K mg base N qual scope f cd A outer s H E).xe use Q acc C (.error e) s'') E' s':=by
 obtain ⟨pins₁,σ₁,H₁,s₁,Ic,a,Cc,H3,rfl,os,bare,un,hok,⟨B,a0,fl,ground⟩,ha,hs1,q⟩:=hx;have J1:Inv (kW (kN (kF P w) P w K mg base N qual scope f cd A outer s H E) Nc sc C s2 H2 pins fp) pins₁ σ₁ H3 s':=Ic.call' (ch:=[]) os un hok bare fun b z=>absurd z (by simp)
 have J0:=J1.pins_of (pins':=[]) fun p hp=>nomatch hp
 have JX:Inv (kN (kF P w) P w K mg base N qual scope f cd A outer s H E) pins σ H3 s':=dI (σ':=σ) I2 f2 J0;have fl':Heap.FlyingW B (envOfC qual scope s.heap.objs.size f cd::outer) a (.ref Cc) a0 s'.heap:=fl;have hfs:kA (envOfC qual scope s.heap.objs.size f cd::outer)=s.heap.objs.size::kA outer:=rfl;have hst2:s2.heap.FunFrames base (envOfC qual scope s.heap.objs.size f cd::outer):=I2.stack;have hst:s'.heap.FunFrames base (envOfC qual scope s.heap.objs.size f cd::outer):=JX.stack;have ub:Un (kA outer) [] H H3 s.heap s'.heap:=JX.base;have u2:Un (kA outer) [] H H2 s.heap s2.heap:=I2.base;have uc:Un (kA (envOfC qual scope s.heap.objs.size f cd::outer)) fp H2 H₁ s2.heap s₁.heap:=Ic.base;have nfC:C∉kA (envOfC qual scope s.heap.objs.size f cd::outer):=fun z=>by
  obtain ⟨_,o,ho,_⟩:=hst2.mem z;exact absurd (aq ho) (Nat.not_lt_of_le hC)
 have old:∀b,(∃o',s.heap.get? b=some o')→b∉kA outer→b∉kA (envOfC qual scope s.heap.objs.size f cd::outer):=fun b ⟨o',z⟩ n y=>by
  rw [hfs] at y
  rcases am.mp y with y|y
  ·exact absurd (aq z) (by rw [y];exact bh _)
  ·exact n y
 have yB:∀b,H3 b≠none→b∉kA (envOfC qual scope s.heap.objs.size f cd::outer):=fun b hb z=>hb (JX.stkFree b z)
 have nfp:∀b,(∃o',s.heap.get? b=some o')→b∉fp:=fun b ⟨o',z⟩ y=>by
  obtain ⟨_,_,_,h4,_⟩:=f2 b y
  rcases h4 with h4|h4
  ·cases h4
  ·exact absurd (aq z) (Nat.not_lt_of_le h4)
 have in1:∀b,(∃o',s.heap.get? b=some o')→∃o',s₁.heap.get? b=some o':=fun b z=>by
  obtain ⟨o',z'⟩:=z;obtain ⟨o2,h2⟩:=u2.there b o' z' (by simp);exact uc.there b o2 h2 (nfp b ⟨o',z'⟩)
 have ltC:∀b,(∃o',s.heap.get? b=some o')→b≠C:=fun b z y=>by
  obtain ⟨o',z'⟩:=z;obtain ⟨o2,h2⟩:=u2.there b o' z' (by simp);exact absurd (aq h2) (Nat.not_lt_of_le (by rw [y];exact hC))
 obtain ⟨m,hns,_⟩:=J0.loc;have hns':s'.heap.Ns C m:=hns;have hBC:∃o,B.get? C=some o:=by
  obtain ⟨m1,hn1,_⟩:=Ic.loc;obtain ⟨o1,_,_,ho1,_⟩:=(show s₁.heap.Ns C m1 from hn1);obtain ⟨o2,_,_,ho2,_⟩:=hns';exact ⟨o2,ground C o2 ho2 nfC (.inr ⟨o1,ho1⟩)⟩
 obtain ⟨oC,hBC⟩:=hBC;have h3C:H3 C=none:=J1.free;have leB:∀b o,(PySem.W.hideAll B [C]).get? b=some o→B.get? b=some o:=fun b o z=>PySem.W.of_hideAll _ z
 have inB:∀b o,b≠C→B.get? b=some o→(PySem.W.hideAll B [C]).get? b=some o:=fun b o n z=>PySem.W.hideAll_get _ z fun y=>n (aX.mp y)
 have noB:∀b,B.get? b=none→(PySem.W.hideAll B [C]).get? b=none:=fun b z=>by
  cases r:(PySem.W.hideAll B [C]).get? b with
  |none=>rfl
  |some v=>rw [leB b v r] at z;cases z
 show wpAny (model P w) (A.deeper (envOfC qual scope s.heap.objs.size f cd)) (noteFrame (.ref a) (envOfC qual scope s.heap.objs.size f cd)) _ _ s';refine wpAny_looks_onW J1.ok.frames rfl fl' fun h4 held up=>?_
 obtain ⟨k1,k2,k3,oe,vs,T,oT,ts,he,hcl,hd,h1,nT,nTe,hT,dT,h3⟩:=held;refine ⟨m,up.ns hns',fun h5 sb cenv _=>?_⟩;have naC:a≠C:=fun z=>by rw [z,hBC] at k2;cases k2
 have nTC:T≠C:=fun z=>by rw [z,hBC] at nT;cases nT
 have he5:h5.get? a=some oe:=(sb.2 a naC).trans he;have hT5:h5.get? T=some oT:=(sb.2 T nTC).trans hT;unfold PySem.passOn;refine ac (bj he5 hd h1 ?_);rw [if_neg (by simp)];unfold setFlight;refine ac (ac (bj he5 hd h1 ?_));rw [if_pos (by simp)];have hz3:3<ts.size:=(cq.mp h3).1;refine wpAny_setField hT5 dT hz3 (wpAny_throw ?_);generalize hfv:(cenv.frame.elim Value.none fun f=>rawInt f)=fv;have oth:∀b,b≠T→(h5.update T (Obj.mapFields (·.setIfInBounds 3 fv))).get? b=h5.get? b:=fun b nb=>dq _ _ (Ne.symm nb)
 have hT6:=ft (Obj.mapFields (·.setIfInBounds 3 fv)) hT5 (Obj.isFreed_of_fields (fg dT _));have tr6:(h5.update T (Obj.mapFields (·.setIfInBounds 3 fv))).TracedAtW (PySem.W.hideAll B [C]) a (.ref Cc) a0 fv:=⟨oe,vs,T,_,_,(oth a (Ne.symm nTe)).trans he5,hcl,hd,h1,noB T nT,nTe,hT6,fg dT _,by simp [hz3]⟩;have keepB:(PySem.W.hideAll B [C]).StaysIn (h5.update T (Obj.mapFields (·.setIfInBounds 3 fv))):=fun b o z=>by
  have zb:=leB b o z;have nb:b≠C:=fun y=>by rw [y,PySem.W.hideAll_none [C] aQ] at z;cases z
  have nt:b≠T:=fun y=>by rw [y,nT] at zb;cases zb
  rw [oth b nt,sb.2 b nb];exact k1 b o zb
 have upto:∀b o,b≠C→h4.get? b=some o→(∀vs,o.data≠.fields vs)→(h5.update T (Obj.mapFields (·.setIfInBounds 3 fv))).get? b=some o:=fun b o nb z nf=>by
  have nt:b≠T:=fun y=>by rw [y,hT] at z;cases z;exact nf ts dT
  rw [oth b nt,sb.2 b nb];exact z
 have fr6:(h5.update T (Obj.mapFields (·.setIfInBounds 3 fv))).FunFrames (PySem.W.hideAll B [C]) (envOfC qual scope s.heap.objs.size f cd::outer):=by
  have hk3:=o5 leB k3;clear tr6 keepB
  revert hk3
  generalize envOfC qual scope s.heap.objs.size f cd::outer=l at nfC;intro hk3
  induction l with
  |nil=>trivial
  |cons env rest ih =>
   obtain ⟨g1,⟨L,o,g2,g3,g4,g5⟩,g6⟩:=hk3;have hm:L∈kA (env::rest):=cx.mpr ⟨env,aQ,g2⟩;refine ⟨g1,⟨L,o,g2,g3,upto L o (fun y=>nfC (by rw [← y];exact hm)) g4 g5,g5⟩,ih (fun z=>nfC ?_) g6⟩;obtain ⟨en,hen,hf⟩:=cx.mp z;exact cx.mpr ⟨en,aC _ hen,hf⟩
 show wpAny (model P w) (A.deeper (envOfC qual scope s.heap.objs.size f cd)) (leaving (envOfC qual scope s.heap.objs.size f cd) (.ref a)) (fun _ s''=>kF P w outer H s E (.ref a) s'') (fun e' s''=>kF P w outer H s E e' s'') _;refine DA (B:=PySem.W.hideAll B [C]) JX.ok.frames fr6 rfl tr6 keepB (noB a k2) fun h7 fly up7=>?_
 have g7:∀b o,s'.heap.get? b=some o→b∉kA (envOfC qual scope s.heap.objs.size f cd::outer)→b≠C→(H3 b≠none∨∃o',s₁.heap.get? b=some o')→(PySem.W.hideAll B [C]).get? b=some o:=fun b o z n nb y=>inB b o nb (ground b o z n y)
 refine ⟨a,Cc,H3,rfl,JX.os,JX.bare,ub.go (fun b o z n _ y=>fly.1 b o (g7 b o z (old b y n) (ltC b y) (.inr (in1 b y)))) (fun b o z n _=>?_),JX.hok.keepT fun b u hb z=>fly.1 b u (g7 b u z (yB b hb) (fun y=>hb (by rw [y];exact h3C)) (.inl hb)),?_,ha,?_,q⟩
 ·have hm:b∈kA (envOfC qual scope s.heap.objs.size f cd::outer):=by rw [hfs];exact aC _ n
  obtain ⟨_,o',ho',hdd⟩:=hst.mem hm;rw [z] at ho';cases ho'
  obtain ⟨sl,e4⟩:=up b o z hdd;have e6:=upto b _ (fun y=>nfC (by rw [← y];exact hm)) e4 hdd;obtain ⟨sl2,e7⟩:=up7 b _ e6 hdd;exact ⟨sl2,e7⟩
 ·refine ⟨_,a0,fly,fun b o z n y=>?_⟩;have hn:b∉kA (envOfC qual scope s.heap.objs.size f cd::outer):=by
   rcases y with y|y
   ·exact yB b y
   ·exact old b y n
  have nb:b≠C:=by
   rcases y with y|y
   ·exact fun v=>y (by rw [v];exact h3C)
   ·exact ltC b y
  have h1':∃u,s'.heap.get? b=some u:=by
   rcases y with y|⟨o',y⟩
   ·cases r:H3 b with
    |none=>exact absurd r y
    |some v=>exact JX.hok.there r
   ·exact ub.there b o' y (by simp)
  obtain ⟨u,hu⟩:=h1';have hB:=g7 b u hu hn nb (by
   rcases y with y|y
   ·exact .inl y
   ·exact .inr (in1 b y))
  have:=fly.1 b u hB;have z':h7.get? b=some o:=z;rw [z'] at this;cases this;exact hB
 ·cases r:s.heap.get? a with
  |none=>rfl
  |some v =>
   obtain ⟨u,hu⟩:=in1 a ⟨v,r⟩;rw [hs1] at hu;cases hu
end
theorem DF {prog:Program} {w:World} {A:Around} {elt target iter:Expr} {ifs:List Expr} {scope:Scope} {pos:Pos} {it acc:Value} {env:Env} {R:Result→Shared→Prop} {s:Shared} (I:Nat→Shared→Prop)
  (turn:∀n s,I n s→wpAny (model prog w) A (pyNext it) (fun r s₁=>match r with
   |none=>R (.ok .next) s₁
   |some v=>wpAny (model prog w) A (letOwnedTupleGo target it v) (fun _ s₁'=>wpAny (model prog w) A (assign target env v) (fun _ s₂ =>
     wpAny (model prog w) A (forIn ifs true fun c r=>if r=true then do let ok ← isTrue c env (eval c env);pure (ForInStep.yield ok) else pure (ForInStep.yield r)) (fun ok s₃ =>
      if ok=true then wpAny (model prog w) A (eval elt env) (fun x s₄ =>
       wpAny (model prog w) A (call (.builtin "list.append") [acc,x]) (fun _ s₅=>∃m,m<n∧I m s₅) (fun _ _=>False) s₄) (notedBy (model prog w) A env fun e s'=>R (.error e) s') s₃
      else ∃m,m<n∧I m s₃) (fun _ _=>False) s₂) (fun _ _=>False) s₁') (fun _ _=>False) s₁) (fun _ _=>False) s)
  (n:Nat) (h:I n s):codeAny (model prog w) A (.compLoop (.ListComp elt [⟨target,iter,ifs,0⟩] scope pos) 0 it acc env) R s:=by
 refine codeAny_loop rfl I (fun n s hI=>?_) n h;show wpAny _ A ((compTurn (.ListComp elt [⟨target,iter,ifs,0⟩] scope pos) 0 it acc env).onRaise (fun x=>do noteFrame x env;theTreesLotGoes x)) _ _ s;refine wpAny_noted ?_;rw [compTurn_list];refine ac (wpAny_standAt (ac (bp (turn n s hI) (fun r s₁ h₁=>?_) fun _ _ h'=>h'.elim)));cases r with
 |none=>exact aM h₁
 |some v =>
  refine ac (bp h₁ (fun _ s₁' h₁'=>?_) fun _ _ h'=>h'.elim);refine ac (bp h₁' (fun _ s₂ h₂=>ac (bp h₂ (fun ok s₃ h₃=>?_) fun _ _ h'=>h'.elim)) fun _ _ h'=>h'.elim);cases ok with
  |false=>exact aM ⟨rfl,h₃⟩
  |true =>
   exact ac (ac (bp h₃ (fun x s₄ h₄=>ac (bp h₄ (fun _ s₅ h₅=>aM (aM ⟨rfl,h₅⟩)) fun _ _ h'=>h'.elim)) fun _ _ h'=>h'))
section
variable {X:Cx} {N:List Str} {scope:Scope} {pins:List (Addr×Obj)} {σ:St} {H:Hp} {s:Shared} {fp:List Addr}
theorem lG {tg iter elt:Expr} {ifs:List Expr} {pos:Pos} {cap:St→St} {g:TG} {tc:TT} {te:TE} {J:It} {it:Addr} {tn:Nat→Heap→Prop} {Q:Addr→Hp→Prop} {RR:Value→Addr→Result→Shared→Prop} {RX:Value→Hp→Prop}
  (hcalm:X.calm=true) (S:CompScope X scope) (hcap:JJ X N scope cap) (I:Inv X pins σ H s) (T:Turn X.prog X.w X.K tg J fp it tn) (st:tn 0 s.heap) (hf:∀b∈fp,yT X pins H b)
  (hg:∀C,PG (kW X N scope C s H pins fp) tg g) (hc:∀C,Q2 (kW X N scope C s H pins fp) ifs tc) (he:∀C,PE ((kW X N scope C s H pins fp).wish (ZT X N scope C s H pins fp RX)) elt te)
  (hq:∀D,H D=none→y0 D J g tc te (cap σ) H (Q D))
  (hRR:∀D C σc H' s',s.heap.objs.size≤C→Inv (kW X N scope C s H pins fp) [] σc H' s'→Q D H'→RR (.ref D) C (.ok .next) s')
  (hRE:∀D C e s',s.heap.objs.size≤C→ZT X N scope C s H pins fp RX e s'→wpAny (model X.prog X.w) X.A (noteFrame e (compEnvC scope (vR X.env.cells scope.names []) C X.env)) (fun _ s''=>RR (.ref D) C (.error e) s'') (fun e' s''=>RR (.ref D) C (.error e') s'') s') :
  wpAny (model X.prog X.w) X.A (newList []) (fun acc s₃=>wpAny (model X.prog X.w) X.A (newFunctionEnv scope X.env.globals (vR X.env.cells scope.names []) [] X.env.qual none .none (some X.env)) (fun cenv s₄ =>
   codeAny (model X.prog X.w) X.A (.compStart (.ListComp elt [⟨tg,iter,ifs,0⟩] scope pos) 0 (.ref it) acc {cenv with scope:=relabel scope X.env}) (RR acc cenv.locals) s₄) X.xe s₃) X.xe s:=by
 refine fk (wpAny_newFunctionEnv S.nocell (by intro y hy;simp at hy) (fun h₁ hns₁ hsb₁=>?_) S.kind)
 dsimp only at hns₁ hsb₁ ⊢
 generalize hH2:s.heap.push {cls:=.type "list",dict:=none,data:=.seq ([]:List Value).toArray}=H2 at hns₁ hsb₁ ⊢;have hC:H2.objs.size=s.heap.objs.size+1:=by rw [← hH2,dn]
 have hDC:s.heap.objs.size≠H2.objs.size:=by rw [hC];exact aH (Nat.lt_succ_self _)
 have hCle:s.heap.objs.size≤H2.objs.size:=by rw [hC];exact Nat.le_succ _
 have below:∀b,b<s.heap.objs.size→b≠H2.objs.size:=fun b hb=>by rw [hC];exact aH (Nat.lt_succ_of_lt hb)
 have old:∀b o,s.heap.get? b=some o→h₁.get? b=some o:=fun b o e=>hsb₁.extBut b o (below b (aq e)) (ao _ (hH2▸ao _ e))
 have hacc:h₁.get? s.heap.objs.size=some {cls:=.type "list",data:=.seq ([]:List Value).toArray}:=hsb₁.extBut _ _ hDC (ao _ (hH2▸ay _ rfl));have obj0:=T.obj 0 s.heap st;have I1:∀t',Inv (kW X N scope H2.objs.size s H pins fp) [] (cap σ) (upd H s.heap.objs.size (.lst [])) {s with heap:=h₁,toks:=t'}:=fun t' =>
  FB S I hcap hf (fun b hb=>let ⟨o,e,_⟩:=obj0 b hb;⟨o,e⟩) (ai _) hCle hDC old hns₁ hacc
 have st1:tn 0 h₁:=T.keep 0 s.heap h₁ st fun b _ o e=>old b o e
 have stat:∀{H':Hp},(∀b∈fp,H' b=none)→∀b∈fp,yT (kW X N scope H2.objs.size s H pins fp) [] H' b:=fun hn b hb=>by
  obtain ⟨_,h2,h3,h4,h5,h6⟩:=hf b hb;obtain ⟨o,ho,_⟩:=obj0 b hb;refine ⟨hn b hb,below b (aq ho),?_,.inl hb,fun x c e=>h5 x c (dA (Z9 S I) (fun y d q=>by simp at q) e),fun p hp=>?_⟩
  ·intro z
   rcases am.mp (I.stkSub b z) with e|e
   ·exact h2 e
   ·exact h3 e
  ·rcases bc.mp hp with z|z
   ·exact h6 p z
   ·cases z
 have fr1:∀b∈fp,upd H s.heap.objs.size (.lst []) b=none:=fun b hb=>by
  obtain ⟨o,ho,_⟩:=obj0 b hb;rw [jL (aH (aq ho))];exact (hf b hb).1
 obtain ⟨W,⟨m0,w0⟩,turn⟩:=hq s.heap.objs.size (I.hok.fresh (ai _));have loop:∀s₃:Shared,s₃={s with heap:=h₁,toks:=s.toks+([]:List (Str×Value)).length}→
   codeAny (model X.prog X.w) X.A (.compLoop (.ListComp elt [⟨tg,iter,ifs,0⟩] scope pos) 0 (.ref it) (.ref s.heap.objs.size) (compEnvC scope (vR X.env.cells scope.names []) H2.objs.size X.env))
    (RR (.ref s.heap.objs.size) H2.objs.size) s₃:=by
  rintro s₃ rfl;refine DF (fun n s'=>∃i σ' H',Inv (kW X N scope H2.objs.size s H pins fp) [] σ' H' s'∧tn i s'.heap∧(∀b∈fp,H' b=none)∧W i n σ' H') ?_ m0 ⟨0,cap σ,_,I1 _,st1,fr1,w0⟩;rintro n s3 ⟨i,σ3,H3,I3,st3,fr3,w3⟩
  rcases turn i n σ3 H3 w3 with ⟨stop,qn⟩|⟨go,Nn,hN,step⟩
  ·refine jN (T.done (kW X N scope H2.objs.size s H pins fp) rfl rfl rfl hcalm i [] s3 σ3 H3 (fun _ _=>False) I3 (stat fr3) st3 stop) fun r s4 ⟨hr,I4⟩=>?_
   subst hr;exact hRR _ _ σ3 H3 s4 hCle I4 qn
  ·refine jN (T.item (kW X N scope H2.objs.size s H pins fp) rfl rfl rfl hcalm i [] s3 σ3 H3 (fun _ _=>False) I3 (stat fr3) st3 go) fun r s4 ⟨u,hr,h4⟩=>?_
   subst hr;refine jN h4 fun _ s5 ⟨x,H5,I5,r5,y5,st5,fr5⟩=>?_
   have I5':=I5.pinned (stat fr5) (T.obj _ _ st5);have again:∀{σ7:St} {H7:Hp} {s7:Shared},Inv (kW X N scope H2.objs.size s H pins fp) ([]++bJ fp s5.heap) σ7 H7 s7→Nn σ7 H7→
     ∃m,m<n∧∃i σ' H',Inv (kW X N scope H2.objs.size s H pins fp) [] σ' H' s7∧tn i s7.heap∧(∀b∈fp,H' b=none)∧W i m σ' H':=fun {σ7 H7 s7} I7 n7=>by
    obtain ⟨m',hm,w7⟩:=hN σ7 H7 n7;refine ⟨m',hm,i+1,σ7,H7,I7.unpinned,T.keep _ _ _ st5 fun b hb o e=>(I7.pin (b,o) (aS _ (aS _ (dC hb e)))).1,fun b hb=>?_,w7⟩;obtain ⟨o,e,d⟩:=T.obj _ _ st5 b hb;exact (I7.pin (b,o) (aS _ (aS _ (dC hb e)))).2.1
   refine jN (hg _ _ s5 σ3 H5 x u _ I5' r5 (step x H5 y5)) fun _ s6 ⟨σ6,H6,I6,q6⟩=>?_
   refine jN (hc _ _ s6 σ6 H6 _ I6 q6) fun ok s7 ⟨H7,I7,q7⟩=>?_
   cases ok with
   |false=>exact again I7 q7
   |true =>
    refine bp (he _ _ s7 σ6 H7 _ (I7.wish _) q7) (fun v s8 ⟨y,H8,I8,r8,xs,hD8,hz8,n8⟩=>?_) fun e se hx=>hRE _ _ e se hCle hx
    have I8:=I8.unwish;refine jN (vC _ s8 σ6 H8 (.ref s.heap.objs.size) [y] (.ref s.heap.objs.size) [v] (fun _ H9=>Nn σ6 H9) I8 rfl (.cons r8 .nil) ⟨_,_,_,rfl,rfl,hD8,hz8,n8⟩) fun _ s9 ⟨_,H9,I9,_,n9⟩=>?_
    exact again I9 n9
 exact codeAny_compStart_list (loop _ rfl) (bp (T.self X.A 0 _ (fun v s'=>v=.ref it∧s'=_) (fun _ _=>False) st1 ⟨rfl,rfl⟩) (fun v s' ⟨e1,e2⟩=>by subst e1;subst e2;exact loop _ rfl) fun _ _ z=>z.elim)
end
section
variable {P:Program} {w:World} {K:PySem.W.Frag} {mg:Str→Option Value} {base:Heap} {Nf:List Str} {qual:Str} {scf:Scope} {f:Addr} {cd:Value} {A:Around} {outer:List Env} {s₀:Shared} {H₀:Hp} {E:XK}
theorem EV {tg iter elt:Expr} {ifs:List Expr} {scope:Scope} {pos:Pos} {wi:TI} {g:TG} {tc:TT} {te:TE} (N:List Str) (cap:St→St) (S:CompScope (kN (kF P w) P w K mg base Nf qual scf f cd A outer s₀ H₀ E) scope) (hcap:JJ (kN (kF P w) P w K mg base Nf qual scf f cd A outer s₀ H₀ E) N scope cap) (hi:PI (kN (kF P w) P w K mg base Nf qual scf f cd A outer s₀ H₀ E) tg iter wi)
  (hg:∀C s H pins fp,PG (kW (kN (kF P w) P w K mg base Nf qual scf f cd A outer s₀ H₀ E) N scope C s H pins fp) tg g) (hc:∀C s H pins fp,Q2 (kW (kN (kF P w) P w K mg base Nf qual scf f cd A outer s₀ H₀ E) N scope C s H pins fp) ifs tc)
  (he:∀C s H pins fp,PE ((kW (kN (kF P w) P w K mg base Nf qual scf f cd A outer s₀ H₀ E) N scope C s H pins fp).wish (ZT (kN (kF P w) P w K mg base Nf qual scf f cd A outer s₀ H₀ E) N scope C s H pins fp fun c H'=>E c none H')) elt te)
  (hs:∀x,foldedSetIterable iter (kN (kF P w) P w K mg base Nf qual scf f cd A outer s₀ H₀ E).env x=pure x:=by intro _;rfl):PE (kN (kF P w) P w K mg base Nf qual scf f cd A outer s₀ H₀ E) (.ListComp elt [⟨tg,iter,ifs,0⟩] scope pos) (eG wi cap g tc te):=by
 intro pins s σ H Q I h;rw [eval_ListComp];refine eu (use:=none) rfl hs (iR (Z9 S I)) S.kind S.names (jN (hi pins s σ H _ I h) fun v s1 h1=>jN h1 fun itv s2 h2=>?_);obtain ⟨it,fp,tn,J,H2,e,I2,T,st2,f2,q2⟩:=h2;subst e;refine lG (RR:=fun acc C=>compPost (model P w) (A.deeper (envOfC qual scf s₀.heap.objs.size f cd)) (kN (kF P w) P w K mg base Nf qual scf f cd A outer s₀ H₀ E).xe none (EP (kN (kF P w) P w K mg base Nf qual scf f cd A outer s₀ H₀ E) pins σ Q) acc C) (Q:=fun D H'=>Q (.ref D) H') rfl S hcap I2 T st2 f2 (fun C=>hg C _ _ _ _) (fun C=>hc C _ _ _ _) (fun C=>he C _ _ _ _) q2 ?_ ?_
 ·intro D C σc H' s' hC Jc q;obtain ⟨m,hn,_⟩:=Jc.loc;refine ⟨m,hn,fun h' hs'=>?_⟩;exact ⟨.ref D,H',lO I2 hC (dI (σ':=σ) I2 f2 Jc) Jc.free hs',rfl,q⟩
 ·intro D C e s' hC hx;exact FC I2 f2 hC hx _
end
section
variable {X:Cx}
def vG (z:Str) (k:Nat):Str:=⟨(List.replicate k z.cps).foldl (·++·) #[]⟩
theorem sB (a:Array Nat):∀(k:Nat) (acc:Array Nat),((List.replicate k a).foldl (·++·) acc).toList=acc.toList++(List.replicate k a.toList).flatten
 |0,acc=>by simp
 |k+1,acc=>by rw [aT,List.foldl_cons,sB a k,aT,dg,Array.toList_append,List.append_assoc]
theorem rW (z:Str) (k:Nat):(vG z k).cps.toList=(List.replicate k z.cps.toList).flatten:=by
 unfold vG;rw [sB];rfl
theorem dN (z:Str) (k:Nat):(vG z k).length=k*z.length:=by
 show (vG z k).cps.size=k*z.cps.size;rw [← ci,rW,tE,ci]
def HW:R2:=fun x y H Q=>∃(z:Str) (k:Int),x=.str z∧y=.int k∧0≤k∧k≤100∧z.length≤100∧Q (.str (vG z k.toNat)) H
theorem lX:kM X (binaryOp .Mult) HW:=by
 intro pins s σ H x y v u Q I rx ry h;obtain ⟨z,k,rfl,rfl,h0,h1,hz,q⟩:=h;obtain ⟨t,rfl⟩:=rx;obtain ⟨t',rfl⟩:=ry;have hm:z.length*k.toNat≤10000:=aR (Nat.mul_le_mul hz (show k.toNat≤100 by omega)) (ai _);refine P.mul_str ?_ (fun h2 _=>?_) (fun _ _=>?_) ?_
 ·rw [aK (by omega),aK (by omega)];rfl
 ·have:(100:Int)≤(2 ^ 63 - 1) / k:=by
   rw [Int.le_ediv_iff_mul_le (by omega)];omega
  omega
 ·exact aK (Nat.not_lt.mpr (aR hm (by decide)))
 ·by_cases h2:k<1
  ·rw [if_pos h2];have e:k.toNat=0:=by omega
   rw [e] at q;exact ⟨by decide,.str (vG z 0),H,I.tok _,⟨_,rfl⟩,q⟩
  ·rw [if_neg h2]
   by_cases h3:(k == 1||z.length == 0)=true
   ·rw [if_pos h3];have e:vG z k.toNat=z:=by
     have:(vG z k.toNat).cps.toList=z.cps.toList:=by
      rw [rW]
      rcases Bool.or_eq_true_iff.mp h3 with h|h
      ·rw [show k.toNat=1 by have:=eq_of_beq h;omega];simp
      ·have h:z.cps.size=0:=eq_of_beq h;rw [Array.eq_empty_of_size_eq_zero h];simp
     cases hr:vG z k.toNat with
     |mk a=>rw [hr] at this;obtain ⟨b⟩:=z;exact bw Str.mk (Array.toList_inj.mp this)
    rw [e] at q;exact ⟨.str z,H,I,⟨_,rfl⟩,q⟩
   ·rw [if_neg h3];exact ⟨by show (vG z k.toNat).length≤sizeLine;rw [dN,Nat.mul_comm];exact aR hm (by decide),.str (vG z k.toNat),H,I.tok _,⟨_,rfl⟩,q⟩
theorem pC {X:Cx} (K:PySem.W.Frag) (h:X.K=K:=by rfl):kM X (compareOp .In) (fE K false):=by subst h;exact DS
theorem oW {X:Cx} (K:PySem.W.Frag) (h:X.K=K:=by rfl):kM X (compareOp .NotIn) (fE K true):=by subst h;exact CI
end
section
variable {P:Program} {w:World} {K:PySem.W.Frag} {mg:Str→Option Value} {base:Heap}
theorem Fun.ok2 {x qual:Str} {st:Stmt} {f:Addr} {fd:FuncData} {N ps:List Str} {k:Nat} {sp:Sp} (F:Fun K x qual st f fd) (S:FnScope N ps (jT st))
  (h:∀vs H Q E,sp vs H Q E→vs.length=ps.length∧∀cdv A outer s,Room k (A.deeper (envOfC qual (jT st) s.heap.objs.size f cdv))→∃t,PSs (kN jO P w K mg base N qual (jT st) f cdv A outer s H E).nox (kY st) t∧t {nx:=fun _ H'=>Q .non H',rt:=Q} (start N vs) H):FnOk P w K mg base jO (k+1) f fd ps sp :=
 F.ok S (fun vs H Q E z=>(h vs H Q E z).1) fun cdv A outer s H vs Q E r z=>(h vs H Q E z).2 cdv A outer s r
theorem Fun.okX2 {x qual:Str} {st:Stmt} {f:Addr} {fd:FuncData} {N ps:List Str} {k:Nat} {sp:Sp} (F:Fun K x qual st f fd) (S:FnScope N ps (jT st))
  (h:∀vs H Q E,sp vs H Q E→vs.length=ps.length∧∀cdv A outer s,Room k (A.deeper (envOfC qual (jT st) s.heap.objs.size f cdv))→∃t,PSs (kN (kF P w) P w K mg base N qual (jT st) f cdv A outer s H E) (kY st) t∧t {nx:=fun _ H'=>Q .non H',rt:=Q} (start N vs) H):FnOk P w K mg base (kF P w) (k+1) f fd ps sp :=
 F.okX S (fun vs H Q E z=>(h vs H Q E z).1) fun cdv A outer s H vs Q E r z=>(h vs H Q E z).2 cdv A outer s r
theorem FunD.ok2 {x qual:Str} {st:Stmt} {f:Addr} {fd:FuncData} {ds:List Value} {N ps:List Str} {k:Nat} {sp:Sp} (F:FunD K x qual st f fd ds) (S:FnScope N ps (jT st))
  (h:∀vs H Q E,sp vs H Q E→vs.length=ps.length∧∀cdv A outer s,Room k (A.deeper (envOfC qual (jT st) s.heap.objs.size f cdv))→∃t,PSs (kN jO P w K mg base N qual (jT st) f cdv A outer s H E).nox (kY st) t∧t {nx:=fun _ H'=>Q .non H',rt:=Q} (start N vs) H):FnOk P w K mg base jO (k+1) f fd ps sp :=
 F.ok S (fun vs H Q E z=>(h vs H Q E z).1) fun cdv A outer s H vs Q E r z=>(h vs H Q E z).2 cdv A outer s r
theorem bP {x:Str} {f:Addr} {fd:FuncData} {ps:List Str} {k:Nat} {sp:Sp} (G:FnOk P w K mg base jO k f fd ps sp) (m:mg x=some (.ref f)) (kp:PySem.W.keepIn K (.ref f)=true) (b:Binds K fd ps []):Def P w K mg base k x ps [] sp:=⟨_,_,[],G,m,kp,.nil,b⟩
theorem uA {x:Str} {f:Addr} {fd:FuncData} {ps:List Str} {k:Nat} {sp:Sp} (G:FnOk P w K mg base (kF P w) k f fd ps sp) (m:mg x=some (.ref f)) (kp:PySem.W.keepIn K (.ref f)=true) (b:Binds K fd ps []):DefX P w K mg base k x ps [] sp:=⟨_,_,[],G,m,kp,.nil,b⟩
end
section
variable {X:Cx} {a b:Expr} {ta tb:TE} {r:R2} {pos:Pos}
theorem jK (hr:IxR X r) (ha:PE X a ta) (hb:PE X b tb) (hs:tP b:=by exact fun _ _=>rfl):PE X (.Subscript a b pos) (QZ r ta tb):=wN hr ha hb hs
theorem JL {op:CmpOp} (ho:kM X (compareOp op) r) (ha:PE X a ta) (hb:PE X b tb) (hm:behindInMarks op b=false:=by first|exact oG _|with_unfolding_all rfl):PE X (.Compare a [op] [b] pos) (QZ r ta tb):=FR ho ha hb hm
theorem j8 {op:CmpOp} (ho:kM X (compareOp op) r) (ha:PE X a ta) (hb:PE X b tb) (hm:behindInMarks op b=false:=by first|exact oG _|with_unfolding_all rfl):PT X (.Compare a [op] [b] pos) (uH (QZ r ta tb)):=wM ho ha hb hm
end
theorem so {K:PySem.W.Frag} {H:Hp} {a:Addr} {xs:List V} (h:H a=some (.lst xs)):SqL K H a xs:=SqL.of h
section
variable {X:Cx} {N:List Str} {scope:Scope} {pins:List (Addr×Obj)} {σ:St} {H:Hp} {s:Shared} {fp:List Addr}
theorem noX {C:Addr} {e:Value} {s':Shared} {p:Prop} (h:ZT X N scope C s H pins fp (fun _ _=>False) e s'):p:=by
 obtain ⟨_,_,_,_,_,h⟩:=h;obtain ⟨_,_,_,_,_,_,_,_,_,_,_,z⟩:=h;exact z.elim
theorem dP {tg iter elt:Expr} {ifs:List Expr} {pos:Pos} {wi:TI} {g:TG} {tc:TT} {te:TE} (N:List Str) (cap:St→St) (hcalm:X.calm=true) (S:CompScope X scope) (hcap:JJ X N scope cap) (hi:PI X tg iter wi)
  (hg:∀C s H pins fp,PG (kW X N scope C s H pins fp) tg g) (hc:∀C s H pins fp,Q2 (kW X N scope C s H pins fp) ifs tc) (he:∀C s H pins fp,PE (kW X N scope C s H pins fp) elt te)
  (hs:∀x,foldedSetIterable iter X.env x=pure x:=by intro _;rfl):PE X (.ListComp elt [⟨tg,iter,ifs,0⟩] scope pos) (eG wi cap g tc te):=by
 intro pins s σ H Q I h;rw [eval_ListComp];refine eu (use:=none) rfl hs (iR (Z9 S I)) S.kind S.names (jN (hi pins s σ H _ I h) fun v s1 h1=>jN h1 fun itv s2 h2=>?_);obtain ⟨it,fp,tn,J,H2,e,I2,T,st2,f2,q2⟩:=h2;subst e;refine lG (RX:=fun _ _=>False) (RR:=fun acc C=>compPost (model X.prog X.w) X.A X.xe none (EP X pins σ Q) acc C) (Q:=fun D H'=>Q (.ref D) H') hcalm S hcap I2 T st2 f2 (fun C=>hg C _ _ _ _) (fun C=>hc C _ _ _ _) (fun C=>PE.nox (he C _ _ _ _)) q2 ?_ (fun _ _ _ _ _ hx=>noX hx);intro D C σc H' s' hC Jc q;obtain ⟨m,hn,_⟩:=Jc.loc;refine ⟨m,hn,fun h' hs'=>?_⟩;exact ⟨.ref D,H',lO I2 hC (dI (σ':=σ) I2 f2 Jc) Jc.free hs',rfl,q⟩
theorem Z7 {tg iter elt:Expr} {ifs:List Expr} {pos spos py:Pos} {i:Nat} {y:Str} {wi:TI} {g:TG} {tc:TT} {te:TE} (N:List Str) (cap:St→St) (hN:X.N.Nodup) (hy:X.N[i]?=some y) (hloc:Z2 X.env.scope y) (hcalm:X.calm=true) (S:CompScope X scope) (hcap:JJ X N scope cap) (hi:PI X tg iter wi)
  (hg:∀C s H pins fp,PG (kW X N scope C s H pins fp) tg g) (hc:∀C s H pins fp,Q2 (kW X N scope C s H pins fp) ifs tc) (he:∀C s H pins fp,PE (kW X N scope C s H pins fp) elt te)
  (hsw:swapsWith (.ListComp elt [⟨tg,iter,ifs,0⟩] scope pos) (some (.Name y py)) spos.line X.env=pure true:=by rfl)
  (hs:∀x,foldedSetIterable iter X.env x=pure x:=by intro _;rfl) (hfn:X.fn y=true∨X.env.scope.names.lookup y=some .local:=by first|exact .inl rfl|exact .inr rfl|assumption) :
  PS X (.Assign [.Name y py] (.ListComp elt [⟨tg,iter,ifs,0⟩] scope pos) spos) (EM i wi cap g tc te):=by
 intro pins s σ H D I h;rw [exec_Assign_Name_used _ _ _ _ hsw];refine ac (wpAny_standAt (ac ?_));show wpAny _ X.A (do let _ ← comprehension (.ListComp elt [⟨tg,iter,ifs,0⟩] scope pos) scope X.env _ (newList []) false (eval iter X.env) (some (assign (.Name y py) X.env))) _ _ s;refine ac (bp (eu (use:=some (assign (.Name y py) X.env)) (Q:=fun _ s'=>SP X pins D .next s') rfl hs (iR (Z9 S I)) S.kind S.names
  (jN (hi pins s σ H _ I h) fun v s1 h1=>jN h1 fun itv s2 h2=>?_)) (fun _ s' hq=>aM (aM hq)) fun _ _ e=>e)
 obtain ⟨it,fp,tn,J,H2,e,I2,T,st2,f2,q2⟩:=h2;subst e;refine lG (RX:=fun _ _=>False) (RR:=fun acc C=>compPost (model X.prog X.w) X.A X.xe (some (assign (.Name y py) X.env)) (fun _ s'=>SP X pins D .next s') acc C) (Q:=fun d H'=>D.nx (σ.set i (some (.ref d))) H') hcalm S hcap I2 T st2 f2 (fun C=>hg C _ _ _ _) (fun C=>hc C _ _ _ _) (fun C=>PE.nox (he C _ _ _ _)) q2 ?_ (fun _ _ _ _ _ hx=>noX hx);intro d C σc H' s' hC Jc q;obtain ⟨m,hn,_⟩:=Jc.loc;have J1:Inv X pins σ H' s':=dI (σ':=σ) I2 f2 Jc;show wpAny _ X.A (assign (.Name y py) X.env (.ref d)) _ _ _;refine wpAny_assign_Name (pQ (v:=.ref d) J1 hN hy hloc rfl (fun s'' J2 hsb=>?_) hfn);obtain ⟨a,sb,ha⟩:=hsb;have haC:C≠a:=by
  rcases ha with e|e
  ·rw [e];exact dt (ar I2.lt hC)
  ·obtain ⟨v,q'⟩:=I2.cell y a e;exact dt (ar q'.lt hC)
 refine ⟨m,hn.sameBut sb haC,fun h' hs'=>?_⟩;exact ⟨_,H',lO I2 hC J2 Jc.free hs',q⟩
end
theorem jU {N P:List Str} {sc:Scope} (a:sc.kind=.function:=by rfl) (b:sc.isCoroutine=false:=by rfl) (c:sc.isGenerator=false:=by rfl) (d:N.Nodup:=by decide +kernel) (e:N.take P.length=P:=by rfl)
  (f:∀x∈P,sc.names.lookup x=some .local∨sc.names.lookup x=some .cell:=by decide +kernel) (g:∀y∈sc.names,y.2≠.free:=by decide +kernel):FnScope N P sc:=⟨a,b,c,d,e,f,g⟩
theorem vP {X:Cx} {scope:Scope} (sc:Scope) (a:X.env.scope=sc:=by rfl) (b:scope.kind=.function:=by rfl) (c:∀y∈scope.names,y.2≠.cell:=by decide +kernel) (d:∀y∈scope.names,y.2=.local→scope.names.lookup y.1=some .local:=by decide +kernel)
  (e:∀y∈scope.names,y.2=.free→sc.names.lookup y.1=some .cell∨sc.names.lookup y.1=some .free:=by decide +kernel):CompScope X scope:=wP sc a b c d e
theorem cps {X:Cx} {N:List Str} {scope:Scope} (n:Nat) (js:List Nat) (a:N.length=n+js.length:=by rfl) (b:js.map (fun j=>X.N[j]?)=(N.drop n).map some:=by rfl) (c:∀x∈N.drop n,scope.names.lookup x=some .free:=by decide +kernel):JJ X N scope (vO n js):=wR n js a b c
inductive GK where
 |i (n:Int)
 |s (t:Str)
 |nil
 |cons (a b:GK)
 deriving DecidableEq
def bQ (h:Heap) (v:Value) (P:List Value→Prop):Prop :=
 ∃(a:Addr) (o:Obj) (its:Array Value) (n:Nat),v=.ref a∧h.get? a=some o∧o.cls=.type "tuple"∧o.data=.seq its n∧P its.toList
def GR (h:Heap):GK→(Value→Prop)×(List Value→Prop)
 |.i n=>(fun v=>∃t,v=.int n t,fun _=>False)
 |.s x=>(fun v=>∃t,v=.str x t,fun _=>False)
 |.nil=>(fun v=>bQ h v (fun l=>l=[]),fun l=>l=[])
 |.cons a b=>(fun v=>bQ h v (fun l=>∃u us,l=u::us∧(GR h a).1 u∧(GR h b).2 us),fun l=>∃u us,l=u::us∧(GR h a).1 u∧(GR h b).2 us)
def gd:GK→Nat
 |.i _=>1
 |.s _=>1
 |.nil=>1
 |.cons a b=>max (gd a+1) (gd b)
def nU:GK→Bool
 |.nil=>true
 |.cons _ _=>true
 |_=>false
theorem GR.tup {h:Heap} {k:GK} (ht:nU k=true) {v:Value}:(GR h k).1 v↔bQ h v (GR h k).2:=by
 cases k<;>first|exact Iff.rfl|cases ht
theorem GR.inj {h:Heap}:∀x y,(∀v,(GR h x).1 v→(GR h y).1 v→x=y)∧(∀l,(GR h x).2 l→(GR h y).2 l→x=y):=by
 have tt:∀{v:Value} {P P':List Value→Prop},bQ h v P→bQ h v P'→∃l,P l∧P' l:=by
  rintro v P P' ⟨a,o,its,n,rfl,ho,_,hd,p⟩ ⟨a',o',its',n',e,ho',_,hd',p'⟩;cases e;obtain rfl:o=o':=az (ho.symm.trans ho');rw [hd] at hd';injection hd' with e1 _
  subst e1;exact ⟨_,p,p'⟩
 intro x
 induction x with
 |i n =>
  intro y;refine ⟨fun v p q=>?_,fun l p=>p.elim⟩;obtain ⟨t,rfl⟩:=p;cases y with
  |i m=>obtain ⟨u,e⟩:=q;cases e;rfl
  |s z=>obtain ⟨u,e⟩:=q;cases e
  |nil=>obtain ⟨a,_,_,_,e,_⟩:=q;cases e
  |cons a b=>obtain ⟨a,_,_,_,e,_⟩:=q;cases e
 |s z =>
  intro y;refine ⟨fun v p q=>?_,fun l p=>p.elim⟩;obtain ⟨t,rfl⟩:=p;cases y with
  |i m=>obtain ⟨u,e⟩:=q;cases e
  |s z=>obtain ⟨u,e⟩:=q;cases e;rfl
  |nil=>obtain ⟨a,_,_,_,e,_⟩:=q;cases e
  |cons a b=>obtain ⟨a,_,_,_,e,_⟩:=q;cases e
 |nil =>
  intro y;have c:∀l,(GR h .nil).2 l→(GR h y).2 l→GK.nil=y:=by
   intro l p q;cases p;cases y with
   |i m=>exact q.elim
   |s z=>exact q.elim
   |nil=>rfl
   |cons a b=>obtain ⟨u,us,e,_⟩:=q;cases e
  refine ⟨fun v p q=>?_,c⟩;cases y with
  |i m=>obtain ⟨u,rfl⟩:=q;obtain ⟨a,_,_,_,e,_⟩:=p;cases e
  |s z=>obtain ⟨u,rfl⟩:=q;obtain ⟨a,_,_,_,e,_⟩:=p;cases e
  |nil=>rfl
  |cons a b=>obtain ⟨l,p,q⟩:=tt ((GR.tup rfl).1 p) ((GR.tup rfl).1 q);exact c l p q
 |cons a b iha ihb =>
  intro y;have c:∀l,(GR h (.cons a b)).2 l→(GR h y).2 l→GK.cons a b=y:=by
   rintro l ⟨u,us,rfl,p1,p2⟩ q;cases y with
   |i m=>exact q.elim
   |s z=>exact q.elim
   |nil=>cases q
   |cons a' b' =>
    obtain ⟨u',us',e,q1,q2⟩:=q;cases e;rw [(iha a').1 _ p1 q1,(ihb b').2 _ p2 q2]
  refine ⟨fun v p q=>?_,c⟩;cases y with
  |i m=>obtain ⟨u,rfl⟩:=q;obtain ⟨a,_,_,_,e,_⟩:=p;cases e
  |s z=>obtain ⟨u,rfl⟩:=q;obtain ⟨a,_,_,_,e,_⟩:=p;cases e
  |nil=>obtain ⟨l,p,q⟩:=tt ((GR.tup rfl).1 p) ((GR.tup rfl).1 q);exact c l p q
  |cons a b=>obtain ⟨l,p,q⟩:=tt ((GR.tup rfl).1 p) ((GR.tup rfl).1 q);exact c l p q
section
variable {prog:Program} {w:World} {E:Value→Shared→Prop}
end
section
variable {s:Shared}
theorem B8 (n:Nat) (e:Nat→Bool):(List.range (n+1)).all e=(e 0&&(List.range n).all fun j=>e (j+1)):=by
 rw [List.range_succ_eq_map,List.all_cons,List.all_map];rfl
abbrev dY (s:Shared) (x y:GK):Prop :=
 ∀(A:Around) (l m:List Value),(GR s.heap x).2 l→(GR s.heap y).2 m→A.units+gd x≤cLine→∃e:Nat→Bool,(∀j (h1:j<l.length) (h2:j<m.length),SeqAt.EqAt A s l[j] m[j] (e j))∧((List.range (min l.length m.length)).all e&&l.length == m.length)=decide (x=y)
theorem dW {x y:GK} (hx:nU x=true) (hy:nU y=true) (lp:dY s x y) {v u:Value} {A:Around} (p:(GR s.heap x).1 v) (q:(GR s.heap y).1 u) (hu:A.units+gd x<cLine):SeqAt.EqAt A s v u (decide (x=y)):=by
 obtain ⟨a,o,its,n,rfl,ho,hc,hd,hl⟩:=(GR.tup hx).1 p;obtain ⟨a',o',its',n',rfl,ho',hc',hd',hl'⟩:=(GR.tup hy).1 q
 by_cases ea:a=a'
 ·subst ea;rw [aO ((GR.inj x y).1 _ p q)];exact gj _
 ·obtain ⟨e,he,hr⟩:=lp A.in1 _ _ hl hl' (by simp only [Around.in1_units];omega);have r:=SeqAt.RcAt.tuples (A:=A) (s:=s) (e:=e) (items:=its) (items2:=its') ⟨o,ho,hc,n,hd⟩ ⟨o',ho',hc',n',hd'⟩ (by omega) (fun j h1 h2=>by have:=he j (by simpa using h1) (by simpa using h2);rwa [Array.getElem_toList,Array.getElem_toList] at this);rw [ci,ci] at hr;rw [hr] at r;exact ff ea r
theorem HL:∀x y:GK,(∀(A:Around) (v u:Value),(GR s.heap x).1 v→(GR s.heap y).1 u→A.units+gd x<cLine→SeqAt.EqAt A s v u (decide (x=y)))∧dY s x y:=by
 intro x
 induction x with
 |i n =>
  intro y;refine ⟨fun A v u p q hu=>?_,fun _ _ _ p=>p.elim⟩;obtain ⟨t,rfl⟩:=p;cases y with
  |i m=>obtain ⟨t',rfl⟩:=q;rw [show decide (GK.i n=GK.i m)=(n == m) by by_cases e:n=m<;>simp [e]];exact SeqAt.EqAt.int_int n t m t'
  |s z=>obtain ⟨t',rfl⟩:=q;exact SeqAt.EqAt.int_str _ _ _ _
  |nil=>obtain ⟨a,o,its,n,rfl,ho,hc,hd,_⟩:=(GR.tup rfl).1 q;exact SeqAt.EqAt.int_tuple _ _ ⟨o,ho,hc,_,hd⟩ (by omega)
  |cons a b=>obtain ⟨a,o,its,n,rfl,ho,hc,hd,_⟩:=(GR.tup rfl).1 q;exact SeqAt.EqAt.int_tuple _ _ ⟨o,ho,hc,_,hd⟩ (by omega)
 |s n =>
  intro y;refine ⟨fun A v u p q hu=>?_,fun _ _ _ p=>p.elim⟩;obtain ⟨t,rfl⟩:=p;cases y with
  |i m=>obtain ⟨t',rfl⟩:=q;exact SeqAt.EqAt.str_int _ _ _ _
  |s z=>obtain ⟨t',rfl⟩:=q;rw [show decide (GK.s n=GK.s z)=(n == z) by by_cases e:n=z<;>simp [e]];exact SeqAt.EqAt.str_str n t z t'
  |nil=>obtain ⟨a,o,its,n,rfl,ho,hc,hd,_⟩:=(GR.tup rfl).1 q;exact SeqAt.EqAt.str_tuple _ _ ⟨o,ho,hc,_,hd⟩ (by omega)
  |cons a b=>obtain ⟨a,o,its,n,rfl,ho,hc,hd,_⟩:=(GR.tup rfl).1 q;exact SeqAt.EqAt.str_tuple _ _ ⟨o,ho,hc,_,hd⟩ (by omega)
 |nil =>
  intro y;have lp:dY s .nil y:=by
   intro A l m p q _;cases p;cases y with
   |i m=>exact q.elim
   |s m=>exact q.elim
   |nil=>cases q;exact ⟨fun _=>true,fun j h1=>absurd h1 (cm j),rfl⟩
   |cons a b=>obtain ⟨u,us,rfl,_⟩:=q;exact ⟨fun _=>true,fun j h1=>absurd h1 (cm j),by simp⟩
  refine ⟨fun A v u p q hu=>?_,lp⟩;cases y with
  |i m=>obtain ⟨t',rfl⟩:=q;obtain ⟨a,o,its,n,rfl,ho,hc,hd,_⟩:=(GR.tup rfl).1 p;exact SeqAt.EqAt.tuple_int _ _ ⟨o,ho,hc,_,hd⟩ (by omega)
  |s m=>obtain ⟨t',rfl⟩:=q;obtain ⟨a,o,its,n,rfl,ho,hc,hd,_⟩:=(GR.tup rfl).1 p;exact SeqAt.EqAt.tuple_str _ _ ⟨o,ho,hc,_,hd⟩ (by omega)
  |nil=>exact dW rfl rfl lp p q hu
  |cons a b=>exact dW rfl rfl lp p q hu
 |cons x1 x2 ih1 ih2 =>
  intro y;have lp:dY s (.cons x1 x2) y:=by
   intro A l m p q hu;simp only [gd] at hu;obtain ⟨u,us,rfl,p1,p2⟩:=p;cases y with
   |i m=>exact q.elim
   |s m=>exact q.elim
   |nil=>cases q;exact ⟨fun _=>true,fun j _ h1=>absurd h1 (cm j),by simp⟩
   |cons a b =>
    obtain ⟨u',us',rfl,q1,q2⟩:=q;obtain ⟨e,he,hr⟩:=(ih2 b).2 A us us' p2 q2 (by omega);have h0:=(ih1 a).1 A u u' p1 q1 (by omega);refine ⟨fun j=>match j with|0=>decide (x1=a)|j+1=>e j,fun j h1 h2=>?_,?_⟩
    ·cases j with
     |zero=>exact h0
     |succ j=>exact he j (by simpa using h1) (by simpa using h2)
    ·rw [bq,bq,Nat.succ_min_succ,B8,Bool.and_assoc];have e2:(us.length+1 == us'.length+1)=(us.length == us'.length):=by by_cases e:us.length=us'.length<;>simp [e]
     rw [e2,hr]
     by_cases e1:x1=a<;>by_cases e3:x2=b<;>simp [e1,e3]
  refine ⟨fun A v u p q hu=>?_,lp⟩;cases y with
  |i m=>obtain ⟨t',rfl⟩:=q;obtain ⟨a,o,its,n,rfl,ho,hc,hd,_⟩:=(GR.tup rfl).1 p;exact SeqAt.EqAt.tuple_int _ _ ⟨o,ho,hc,_,hd⟩ (by omega)
  |s m=>obtain ⟨t',rfl⟩:=q;obtain ⟨a,o,its,n,rfl,ho,hc,hd,_⟩:=(GR.tup rfl).1 p;exact SeqAt.EqAt.tuple_str _ _ ⟨o,ho,hc,_,hd⟩ (by omega)
  |nil=>exact dW rfl rfl lp p q hu
  |cons a b=>exact dW rfl rfl lp p q hu
end
section
variable {prog:Program} {w:World} {E:Value→Shared→Prop} {s:Shared}
abbrev oB:=GK×Value×Value
end
section
variable {prog:Program} {w:World} {A:Around} {E:Value→Shared→Prop} {s:Shared}
end
section
variable {prog:Program} {w:World} {A:Around} {E:Value→Shared→Prop} {s:Shared} {d:Addr} {xs:List oB} {k:GK} {key v:Value}
end
def GV (H:Hp):GK→(V→Prop)×(List V→Prop)
 |.i n=>(fun v=>v=.int n,fun _=>False)
 |.s x=>(fun v=>v=.str x,fun _=>False)
 |.nil=>(fun v=>∃a,v=.ref a∧H a=some (.tup []),fun l=>l=[])
 |.cons x y=>(fun v=>∃a l,v=.ref a∧H a=some (.tup l)∧∃u us,l=u::us∧(GV H x).1 u∧(GV H y).2 us,fun l=>∃u us,l=u::us∧(GV H x).1 u∧(GV H y).2 us)
section
variable {P:Program} {w:World} {H:Hp} {h:Heap}
theorem GV.rel (hok:HOk P w H h):∀k,(∀v u,(GV H k).1 v→RelV v u→(GR h k).1 u)∧(∀l us,(GV H k).2 l→Vals l us→(GR h k).2 us)
 |.i _=>⟨fun v u p r=>by cases p;exact r,fun _ _ p=>p.elim⟩
 |.s _=>⟨fun v u p r=>by cases p;exact r,fun _ _ p=>p.elim⟩
 |.nil=>by
  refine ⟨fun v u p r=>?_,fun l us p r=>by cases p;cases r;exact rfl⟩;obtain ⟨a,rfl,q⟩:=p;cases r;obtain ⟨_,its,r2,o,ho,hc,n,hd⟩:=hok a _ q;cases r2;exact ⟨a,o,_,n,rfl,ho,hc,hd,rfl⟩
 |.cons x y=>by
  have c:∀l us,(∃u vs,l=u::vs∧(GV H x).1 u∧(GV H y).2 vs)→Vals l us→∃u vs,us=u::vs∧(GR h x).1 u∧(GR h y).2 vs:=by
   rintro l us ⟨u,vs,rfl,p1,p2⟩ r;cases r with
   |cons r1 r2=>exact ⟨_,_,rfl,(GV.rel hok x).1 _ _ p1 r1,(GV.rel hok y).2 _ _ p2 r2⟩
  refine ⟨fun v u p r=>?_,c⟩;obtain ⟨a,l,rfl,q,p'⟩:=p;cases r;obtain ⟨_,its,r2,o,ho,hc,n,hd⟩:=hok a _ q;exact ⟨a,o,_,n,rfl,ho,hc,hd,c l its p' r2⟩
end
abbrev wK:=GK×V×V
section
variable {X:Cx} {pins:List (Addr×Obj)} {σ:St} {H:Hp} {s:Shared} {d:Addr} {k:GK} {y v:V} {u r:Value} {A:Around} {E:Value→Shared→Prop} {kvs:List wK}
end
section
variable {X:Cx} {o i e value:Expr} {pos pos':Pos} {td ty tv:TE}
end
section
variable {X:Cx} {pins:List (Addr×Obj)} {σ:List (Option V)} {H:Hp} {s:Shared}
end
def j4 (H:Hp) (cs:List Addr):Hp:=fun b=>if b∈cs then none else H b
theorem JE {H:Hp} {cs:List Addr} {b:Addr} (h:b∈cs):j4 H cs b=none:=if_pos h
theorem qV {H:Hp} {cs:List Addr} {b:Addr} (h:b∉cs):j4 H cs b=H b:=if_neg h
section
variable {P:Program} {w:World} {H H' HC:Hp} {h h':Heap} {cs fs:List Addr}
end
section
variable {CX:vK} {P:Program} {w:World} {K:PySem.W.Frag} {mg:Str→Option Value} {base:Heap} {N ps fr:List Str} {qual:Str} {params:Arguments} {body:List Stmt} {scope:Scope} {f:Addr} {cdv:Value} {fd:FuncData} {cl:List (Str×Addr)} {A:Around} {outer:List Env} {s:Shared} {H:Hp} {E:XK} {Q:VK} {us:List Value} {vs fvs:List V} {k:Nat} {args:Args}
end
section
variable {X:Cx} {CX:vK} {k:Nat} {sp:Addr→Sp} {E:XK} {x:Str} {p pos:Pos} {e:Expr} {es:List Expr} {t:TA} {i:Nat}
end
section
variable {X:Cx} {k k':Nat} {f:Addr} {fd:FuncData} {ps:List Str} {sp:Sp} {dvs:List V} {ds:List Value} {x:Str} {p pos:Pos} {e:Expr} {es:List Expr} {t:TA} {cs:List (Nat×Addr)}
end
section
variable {X:Cx} {pins:List (Addr×Obj)} {σ:List (Option V)} {H:Hp} {s:Shared}
end
theorem HJ {A:Around} {k:Nat} (hr:Room k A):A.units+9<cLine:=by have:=hr.units;omega
theorem GG {A:Around} {k:Nat} (hr:Room k A):A.units+10<cLine:=by have:=hr.units;omega
section
variable {P:Program} {w:World} {K:PySem.W.Frag} {mg:Str→Option Value} {base:Heap}
end
section
variable {prog:Program} {w:World} {A:Around} {E:Value→Shared→Prop} {s:Shared} {d:Addr} {xs:List oB} {k:GK} {key v:Value}
end
section
variable {X:Cx} {pins:List (Addr×Obj)} {σ:St} {H:Hp} {s:Shared} {d:Addr} {k:GK} {y v:V} {u r:Value} {A:Around} {E:Value→Shared→Prop} {kvs:List wK}
end
section
variable {X:Cx} {o i e value:Expr} {pos pos':Pos} {td ty tv:TE}
end
section
variable {X:Cx} {o i:Expr} {pos:Pos} {td ty:TE}
end
section
variable {X:Cx} {pins:List (Addr×Obj)} {σ:St} {H:Hp} {s:Shared}
end
section
variable {prog:Program} {w:World} {A:Around} {s:Shared} {E:Value→Shared→Prop}
end
section
variable {X:Cx}
end
section
variable {X:Cx}
end
section
variable {prog:Program} {w:World} {A:Around} {E:Value→Shared→Prop} {s:Shared} {d it:Addr} {xs:List oB} {o:Obj} {es:Array DictEntry} {i ep:Nat}
end
section
variable {X:Cx} {tg:Expr}
end
section
variable {X:Cx} {pins:List (Addr×Obj)} {σ:St} {H:Hp} {s:Shared}
theorem FD (n:Nat):(List.range n).all (fun _=>true)=true:=by simp
end
section
variable {M:Model} {A:Around} {E:Value→Shared→Prop} {s:Shared}
end
section
variable {P:Program} {w:World} {H H':Hp} {h:Heap} {cs:List Addr}
end
section
variable {CX:vK} {P:Program} {w:World} {K:PySem.W.Frag} {mg:Str→Option Value} {base:Heap} {N fr:List Str} {x:Str} {b:Bool} {qual:Str} {params:Arguments} {body:Expr} {scope:Scope} {f:Addr} {cdv:Value} {cl:List (Str×Addr)} {A:Around} {outer:List Env} {s:Shared} {H:Hp} {E:XK} {Q:VK} {u:Value} {v:V} {fvs:List V} {k:Nat} {args:Args}
end
section
variable {X:Cx} {pins:List (Addr×Obj)} {σ:List (Option V)} {H:Hp} {s:Shared}
end
variable {P:List Value→Prop}
theorem J9 (h:P []):∀us:List Value,us.length=0→P us
 |[],_=>h
theorem bT (h:∀a0,P [a0]) (us:List Value) (hl:us.length=1):P us:=by
 cases us with
 |nil=>cases hl
 |cons a us=>exact J9 (P:=fun l=>P (a::l)) (h a) us (ey hl)
theorem yL (h:∀a0 a1,P [a0,a1]) (us:List Value) (hl:us.length=2):P us:=by
 cases us with
 |nil=>cases hl
 |cons a us=>exact bT (P:=fun l=>P (a::l)) (fun a1=>h a a1) us (ey hl)
theorem ZY (h:∀a0 a1 a2,P [a0,a1,a2]) (us:List Value) (hl:us.length=3):P us:=by
 cases us with
 |nil=>cases hl
 |cons a us=>exact yL (P:=fun l=>P (a::l)) (fun a1 a2=>h a a1 a2) us (ey hl)
theorem nP (h:∀a0 a1 a2 a3,P [a0,a1,a2,a3]) (us:List Value) (hl:us.length=4):P us:=by
 cases us with
 |nil=>cases hl
 |cons a us=>exact ZY (P:=fun l=>P (a::l)) (fun a1 a2 a3=>h a a1 a2 a3) us (ey hl)
theorem nO (h:∀a0 a1 a2 a3 a4,P [a0,a1,a2,a3,a4]) (us:List Value) (hl:us.length=5):P us:=by
 cases us with
 |nil=>cases hl
 |cons a us=>exact nP (P:=fun l=>P (a::l)) (fun a1 a2 a3 a4=>h a a1 a2 a3 a4) us (ey hl)
theorem nN (h:∀a0 a1 a2 a3 a4 a5,P [a0,a1,a2,a3,a4,a5]) (us:List Value) (hl:us.length=6):P us:=by
 cases us with
 |nil=>cases hl
 |cons a us=>exact nO (P:=fun l=>P (a::l)) (fun a1 a2 a3 a4 a5=>h a a1 a2 a3 a4 a5) us (ey hl)
theorem K5 (h:∀a0 a1 a2 a3 a4 a5 a6,P [a0,a1,a2,a3,a4,a5,a6]) (us:List Value) (hl:us.length=7):P us:=by
 cases us with
 |nil=>cases hl
 |cons a us=>exact nN (P:=fun l=>P (a::l)) (fun a1 a2 a3 a4 a5 a6=>h a a1 a2 a3 a4 a5 a6) us (ey hl)
end L2
namespace L2
open PySem PySem.Spec PyProof.Rows
section
variable {CX:vK} {P:Program} {w:World} {K:PySem.W.Frag} {mg:Str→Option Value} {base:Heap} {N fr:List Str} {x:Str} {b:Bool} {qual:Str} {params:Arguments} {body:List Stmt} {scope:Scope} {f:Addr} {cdv:Value} {cl:List (Str×Addr)} {A:Around} {outer:List Env} {s:Shared} {H:Hp} {E:XK} {Q:VK} {u:Value} {v:V} {fvs:List V} {k:Nat} {args:Args} {fd:FuncData}
end
section
variable {X:Cx}
end
section
variable {X:Cx} {a b c d e f g h:Expr} {ta tb tc td te tf tg th:TE}
theorem jZ (h1:PE X a ta) (h2:PE X b tb) (h3:PE X c tc) (s1:starEach [a,b,c] X.env=(false,eval a X.env)::starEach [b,c] X.env:=by rfl) (s2:starEach [b,c] X.env=(false,eval b X.env)::starEach [c] X.env:=by rfl) (s3:starEach [c] X.env=(false,eval c X.env)::starEach [] X.env:=by rfl):PA X [a,b,c] (vD ta (vD tb (vD tc JY))):=jB h1 (jB h2 (jB h3 jD s3) s2) s1
theorem yC (h1:PE X a ta) (h2:PE X b tb) (h3:PE X c tc) (h4:PE X d td) (s1:starEach [a,b,c,d] X.env=(false,eval a X.env)::starEach [b,c,d] X.env:=by rfl) (s2:starEach [b,c,d] X.env=(false,eval b X.env)::starEach [c,d] X.env:=by rfl) (s3:starEach [c,d] X.env=(false,eval c X.env)::starEach [d] X.env:=by rfl) (s4:starEach [d] X.env=(false,eval d X.env)::starEach [] X.env:=by rfl):PA X [a,b,c,d] (vD ta (vD tb (vD tc (vD td JY)))):=jB h1 (jB h2 (jB h3 (jB h4 jD s4) s3) s2) s1
theorem Q0 (h1:PE X a ta) (h2:PE X b tb) (h3:PE X c tc) (h4:PE X d td) (h5:PE X e te) (s1:starEach [a,b,c,d,e] X.env=(false,eval a X.env)::starEach [b,c,d,e] X.env:=by rfl) (s2:starEach [b,c,d,e] X.env=(false,eval b X.env)::starEach [c,d,e] X.env:=by rfl) (s3:starEach [c,d,e] X.env=(false,eval c X.env)::starEach [d,e] X.env:=by rfl) (s4:starEach [d,e] X.env=(false,eval d X.env)::starEach [e] X.env:=by rfl) (s5:starEach [e] X.env=(false,eval e X.env)::starEach [] X.env:=by rfl):PA X [a,b,c,d,e] (vD ta (vD tb (vD tc (vD td (vD te JY))))):=jB h1 (jB h2 (jB h3 (jB h4 (jB h5 jD s5) s4) s3) s2) s1
theorem LF (h1:PE X a ta) (h2:PE X b tb) (h3:PE X c tc) (h4:PE X d td) (h5:PE X e te) (h6:PE X f tf) (s1:starEach [a,b,c,d,e,f] X.env=(false,eval a X.env)::starEach [b,c,d,e,f] X.env:=by rfl) (s2:starEach [b,c,d,e,f] X.env=(false,eval b X.env)::starEach [c,d,e,f] X.env:=by rfl) (s3:starEach [c,d,e,f] X.env=(false,eval c X.env)::starEach [d,e,f] X.env:=by rfl) (s4:starEach [d,e,f] X.env=(false,eval d X.env)::starEach [e,f] X.env:=by rfl) (s5:starEach [e,f] X.env=(false,eval e X.env)::starEach [f] X.env:=by rfl) (s6:starEach [f] X.env=(false,eval f X.env)::starEach [] X.env:=by rfl):PA X [a,b,c,d,e,f] (vD ta (vD tb (vD tc (vD td (vD te (vD tf JY)))))):=jB h1 (jB h2 (jB h3 (jB h4 (jB h5 (jB h6 jD s6) s5) s4) s3) s2) s1
theorem jP (i:Nat) {x:Str} {pos pos':Pos} (hN:X.N.Nodup) (he:PE X a ta) (hi:X.N[i]?=some x:=by rfl) (hx:Z2 X.env.scope x:=by first|exact .inl rfl|exact .inr rfl) (hs:swapsWith a (some (.Name x pos')) pos.line X.env=pure false:=by rfl) (hf:X.fn x=true∨X.env.scope.names.lookup x=some .local:=by first|exact .inl rfl|exact .inr rfl|assumption):PS X (.Assign [.Name x pos'] a pos) (nA ta (zN i)):=oH hN hi hx he hs hf
theorem vA (K:PySem.W.Frag) {p pos:Pos} (hm:X.mg "len"=none) (ha:PE X a ta) (hK:X.K=K:=by rfl) (hg:Gl X "len":=by rfl) (he:starEach [a] X.env=(false,eval a X.env)::starEach [] X.env:=by rfl) (hpl:(backTo pos (starEach [] X.env)).any (·.1)=false:=by rfl):PE X (.Call (.Name "len" p) [a] [] pos) (nQ (fun xs H Q=>∃p ys,xs=[.ref p]∧(SqL K H p ys∨SqT K H p ys)∧Q (.int ys.length) H) (vD ta JY)):=yW (CC K hK) hg hm PySem.boot_len (jB ha jD he) (he:=he) (hpl:=hpl)
theorem jQ {pos:Pos} (h:PE X a ta):PSs X [.Return (some a) pos] (uT ta):=kB (oF h)
end
abbrev jV (n:Nat) (N:List Str) (st:Stmt):Prop:=FnScope N (N.take n) (jT st)
abbrev kK (K:PySem.W.Frag) (x:Str) (st:Stmt) (f:Addr) (fd:FuncData):Prop:=Fun K x x st f fd
abbrev kJ (K:PySem.W.Frag) (x:Str) (st:Stmt):Prop:=∃f fd,PySem.W.nsIn K mainGlobals x=some (some (.ref f))∧Fun K x x st f fd
section
variable {P:Program} {w:World} {K:PySem.W.Frag} {mg:Str→Option Value} {base h:Heap} {x q:Str} {st:Stmt} {f:Addr} {fd:FuncData} {k:Nat} {sp:Sp} {p0 p1 p2 p3 p4 p5 p6:Str}
theorem fnT_mk {oc:Value} {od an:Option Addr} {osl:Array (Option Value)} {kV doc pm cdv ct:Value} (a:PySem.W.nsIn K mainGlobals x=some (some (.ref f))) (l:K.lookup f=some ⟨oc,od,.func (PySem.W.fnOf x x (qW st) (kY st) (jT st) .none kV doc pm an cdv ct),osl⟩) (c:PySem.W.codeIn K cdv x=true) (k:PySem.W.keepIn K (.ref f)=true):kJ K x st:=⟨_,_,a,b0 l c k⟩
theorem nV (X:K.In h) (G:h.Ns mainGlobals mg) (a:PySem.W.nsIn K mainGlobals x=some (some (.ref f))) (F:Fun K x q st f fd) (ok:FnOk P w K mg base jO k f fd [p0] sp) (hb:∀(kV doc pm:Value) (an:Option Addr) (cdv ct a0:Value),bindArgs (PySem.W.fnOf x q (qW st) (kY st) (jT st) .none kV doc pm an cdv ct) ⟨[a0],[]⟩=pure ([p0].zip [a0]):=by intros;rfl):Def P w K mg base k x [p0] [] sp:=bP ok (aF X G a) F.kp (F.binds fun kV doc pm an cdv ct=>bT (hb kV doc pm an cdv ct))
theorem yV (X:K.In h) (G:h.Ns mainGlobals mg) (a:PySem.W.nsIn K mainGlobals x=some (some (.ref f))) (F:Fun K x q st f fd) (ok:FnOk P w K mg base jO k f fd [p0,p1] sp) (hb:∀(kV doc pm:Value) (an:Option Addr) (cdv ct a0 a1:Value),bindArgs (PySem.W.fnOf x q (qW st) (kY st) (jT st) .none kV doc pm an cdv ct) ⟨[a0,a1],[]⟩=pure ([p0,p1].zip [a0,a1]):=by intros;rfl):Def P w K mg base k x [p0,p1] [] sp:=bP ok (aF X G a) F.kp (F.binds fun kV doc pm an cdv ct=>yL (hb kV doc pm an cdv ct))
theorem Z0 (X:K.In h) (G:h.Ns mainGlobals mg) (a:PySem.W.nsIn K mainGlobals x=some (some (.ref f))) (F:Fun K x q st f fd) (ok:FnOk P w K mg base (kF P w) k f fd [p0,p1] sp) (hb:∀(kV doc pm:Value) (an:Option Addr) (cdv ct a0 a1:Value),bindArgs (PySem.W.fnOf x q (qW st) (kY st) (jT st) .none kV doc pm an cdv ct) ⟨[a0,a1],[]⟩=pure ([p0,p1].zip [a0,a1]):=by intros;rfl):DefX P w K mg base k x [p0,p1] [] sp:=uA ok (aF X G a) F.kp (F.binds fun kV doc pm an cdv ct=>yL (hb kV doc pm an cdv ct))
theorem QC (X:K.In h) (G:h.Ns mainGlobals mg) (a:PySem.W.nsIn K mainGlobals x=some (some (.ref f))) (F:Fun K x q st f fd) (ok:FnOk P w K mg base jO k f fd [p0,p1,p2] sp) (hb:∀(kV doc pm:Value) (an:Option Addr) (cdv ct a0 a1 a2:Value),bindArgs (PySem.W.fnOf x q (qW st) (kY st) (jT st) .none kV doc pm an cdv ct) ⟨[a0,a1,a2],[]⟩=pure ([p0,p1,p2].zip [a0,a1,a2]):=by intros;rfl):Def P w K mg base k x [p0,p1,p2] [] sp:=bP ok (aF X G a) F.kp (F.binds fun kV doc pm an cdv ct=>ZY (hb kV doc pm an cdv ct))
theorem LH (X:K.In h) (G:h.Ns mainGlobals mg) (a:PySem.W.nsIn K mainGlobals x=some (some (.ref f))) (F:Fun K x q st f fd) (ok:FnOk P w K mg base (kF P w) k f fd [p0,p1,p2] sp) (hb:∀(kV doc pm:Value) (an:Option Addr) (cdv ct a0 a1 a2:Value),bindArgs (PySem.W.fnOf x q (qW st) (kY st) (jT st) .none kV doc pm an cdv ct) ⟨[a0,a1,a2],[]⟩=pure ([p0,p1,p2].zip [a0,a1,a2]):=by intros;rfl):DefX P w K mg base k x [p0,p1,p2] [] sp:=uA ok (aF X G a) F.kp (F.binds fun kV doc pm an cdv ct=>ZY (hb kV doc pm an cdv ct))
theorem QB (X:K.In h) (G:h.Ns mainGlobals mg) (a:PySem.W.nsIn K mainGlobals x=some (some (.ref f))) (F:Fun K x q st f fd) (ok:FnOk P w K mg base jO k f fd [p0,p1,p2,p3] sp) (hb:∀(kV doc pm:Value) (an:Option Addr) (cdv ct a0 a1 a2 a3:Value),bindArgs (PySem.W.fnOf x q (qW st) (kY st) (jT st) .none kV doc pm an cdv ct) ⟨[a0,a1,a2,a3],[]⟩=pure ([p0,p1,p2,p3].zip [a0,a1,a2,a3]):=by intros;rfl):Def P w K mg base k x [p0,p1,p2,p3] [] sp:=bP ok (aF X G a) F.kp (F.binds fun kV doc pm an cdv ct=>nP (hb kV doc pm an cdv ct))
theorem wI (X:K.In h) (G:h.Ns mainGlobals mg) (a:PySem.W.nsIn K mainGlobals x=some (some (.ref f))) (F:Fun K x q st f fd) (ok:FnOk P w K mg base jO k f fd [p0,p1,p2,p3,p4] sp) (hb:∀(kV doc pm:Value) (an:Option Addr) (cdv ct a0 a1 a2 a3 a4:Value),bindArgs (PySem.W.fnOf x q (qW st) (kY st) (jT st) .none kV doc pm an cdv ct) ⟨[a0,a1,a2,a3,a4],[]⟩=pure ([p0,p1,p2,p3,p4].zip [a0,a1,a2,a3,a4]):=by intros;rfl):Def P w K mg base k x [p0,p1,p2,p3,p4] [] sp:=bP ok (aF X G a) F.kp (F.binds fun kV doc pm an cdv ct=>nO (hb kV doc pm an cdv ct))
abbrev vJ (K:PySem.W.Frag) (C:Addr) (x q:Str) (st:Stmt):Prop:=∃f fd,PySem.W.findIn K (.ref C) x=some (some (.ref f))∧PySem.W.isFn K (.ref f)=true∧Fun K x q st f fd
abbrev kX (K:PySem.W.Frag) (x:Str) (v:Option Value):Prop:=PySem.W.nsIn K mainGlobals x=some v
abbrev j0 (K:PySem.W.Frag) (C:Addr) (x:Str) (v:Option Value):Prop:=PySem.W.findIn K (.ref C) x=some v
theorem nsP_mk {v:Option Value} (h:PySem.W.nsIn K mainGlobals x=some v):kX K x v:=h
theorem fnP_mk {C:Addr} {v:Option Value} (h:PySem.W.findIn K (.ref C) x=some v):j0 K C x v:=h
theorem fnC_mk {C:Addr} {oc:Value} {od an:Option Addr} {osl:Array (Option Value)} {kV doc pm cdv ct:Value} (a:PySem.W.findIn K (.ref C) x=some (some (.ref f))) (i:PySem.W.isFn K (.ref f)=true) (l:K.lookup f=some ⟨oc,od,.func (PySem.W.fnOf x q (qW st) (kY st) (jT st) .none kV doc pm an cdv ct),osl⟩) (c:PySem.W.codeIn K cdv q=true) (k:PySem.W.keepIn K (.ref f)=true):vJ K C x q st:=⟨_,_,a,i,b0 l c k⟩
theorem zB {C:Addr} (cl:Cls K C) (a:PySem.W.findIn K (.ref C) x=some (some (.ref f))) (i:PySem.W.isFn K (.ref f)=true) (F:Fun K x q st f fd) (ok:FnOk P w K mg base jO k f fd [p0] sp) (hb:∀(kV doc pm:Value) (an:Option Addr) (cdv ct a0:Value),bindArgs (PySem.W.fnOf x q (qW st) (kY st) (jT st) .none kV doc pm an cdv ct) ⟨[a0],[]⟩=pure ([p0].zip [a0]):=by intros;rfl):MeD P w K mg base k C x [p0] sp:=⟨cl,_,_,⟨a,i,F.kp⟩,ok,F.binds fun kV doc pm an cdv ct=>bT (hb kV doc pm an cdv ct)⟩
end
section
variable {X:Cx} {scope:Scope}
theorem nS {x:Str} {iter elt:Expr} {ifs:List Expr} {p pos:Pos} {wi:TI} {tc:TT} {te:TE} (N:List Str) (is:List Nat) (S:CompScope X scope) (hi:PI X (.Name x p) iter wi) (hc:∀C s H pins fp,Q2 (kW X N scope C s H pins fp) ifs tc) (he:∀C s H pins fp,PE (kW X N scope C s H pins fp) elt te)
  (hnd:N.Nodup:=by decide +kernel) (hcap:JJ X N scope (vO 1 is):=by exact cps 1 _) (h0:N[0]?=some x:=by rfl) (hl:∀C s H pins fp,List.lookup x (kW X N scope C s H pins fp).env.scope.names=some .local:=by intros;rfl) (hcalm:X.calm=true:=by rfl) (hs:∀x,foldedSetIterable iter X.env x=pure x:=by intro _;rfl):PE X (.ListComp elt [⟨.Name x p,iter,ifs,0⟩] scope pos) (eG wi (vO 1 is) (zN 0) tc te) :=
 dP N (vO 1 is) hcalm S hcap hi (fun C s H pins fp=>qD (X:=kW X N scope C s H pins fp) hnd h0 (.inl (hl C s H pins fp)) (.inr (hl C s H pins fp))) hc he hs
theorem QW {x:Str} {iter elt:Expr} {p pos:Pos} {wi:TI} {te:TE} (N:List Str) (is:List Nat) (S:CompScope X scope) (hi:PI X (.Name x p) iter wi) (he:∀C s H pins fp,PE (kW X N scope C s H pins fp) elt te)
  (hnd:N.Nodup:=by decide +kernel) (hcap:JJ X N scope (vO 1 is):=by exact cps 1 _) (h0:N[0]?=some x:=by rfl) (hl:∀C s H pins fp,List.lookup x (kW X N scope C s H pins fp).env.scope.names=some .local:=by intros;rfl) (hcalm:X.calm=true:=by rfl) (hs:∀x,foldedSetIterable iter X.env x=pure x:=by intro _;rfl):PE X (.ListComp elt [⟨.Name x p,iter,[],0⟩] scope pos) (eG wi (vO 1 is) (zN 0) m6 te) :=
 dP N (vO 1 is) hcalm S hcap hi (fun C s H pins fp=>qD (X:=kW X N scope C s H pins fp) hnd h0 (.inl (hl C s H pins fp)) (.inr (hl C s H pins fp))) (fun _ _ _ _ _=>zU) he hs
end
section
variable {X:Cx} {k:Nat} {sp:Addr→Sp} {x:Str} {p pos:Pos} {e:Expr} {es:List Expr} {t:TA} {i:Nat} {cs:List (Nat×Addr)}
def KK (K:PySem.W.Frag):R2:=fun x y H Q=>∃(a b:Addr) (xs:List V),x=.ref a∧y=.ref b∧SqL K H a xs∧SqL K H b []∧Q (.bl xs.isEmpty) H
theorem G5 (hu:X.A.units<cLine):kM X (compareOp .Eq) (KK X.K):=by
 intro pins s σ H x y v u Q I rx ry h;obtain ⟨a,b,xs,rfl,rfl,ha,hb,q⟩:=h;cases rx;cases ry;obtain ⟨its,r,pl,hz⟩:=I.list ha;obtain ⟨its2,r2,pl2,hz2⟩:=I.list hb;have hl:=r.length;have hl2:=r2.length;cases xs with
 |nil =>
  have h:=SeqAt.RcAt.lists (A:=X.A) (e:=fun _=>true) pl.isList pl2.isList (by rw [ae,ae,← hl,← hl2]) hu (fun j h1 h2=>absurd h1 (by rw [ae,← hl];exact cm _));rw [FD] at h;exact h X.prog X.w X.xe _ ⟨.bl true,H,I,rfl,q⟩
 |cons z zs=>exact SeqAt.RcAt.lists_lengths (A:=X.A) pl.isList pl2.isList (by rw [ae,ae,← hl,← hl2];rfl) hu X.prog X.w X.xe _ ⟨.bl false,H,I,rfl,q⟩
end
end L2
namespace HT
open PySem PySem.Spec PyProof.Rows
variable {prog:Program} {w:World} {A:Around} {s:Shared} {E:Value→Shared→Prop}
theorem cat_tup0 {t b:Addr} {ws:List Value} {Q:Value→Shared→Prop} (ht:IsTup s.heap t #[]) (hb:IsTup s.heap b ws.toArray) (h1:Q (.ref b) s):wpAny (model prog w) A (binaryOp .Add (.ref t) (.ref b)) Q E s:=by
 obtain ⟨⟨cls,dd,data,sl⟩,ho,hc,n,hd⟩:=id ht;obtain ⟨⟨cls2,dd2,data2,sl2⟩,ho2,hc2,n2,hd2⟩:=id hb;simp only at hc hd hc2 hd2;subst hc hd hc2 hd2;exact concat_meets ⟨_,ho,rfl⟩ ⟨_,ho2,rfl⟩ noFill_tuple_add seq_tuple_add PySem.F.slot_tuple_add PySem.F.entry_tuple_add (PySem.F.args_tuple_add_2 _ _) (tuple_addW0 t b #[] ws.toArray n n2 dd dd2 sl sl2 rfl) ⟨ho,ho2,h1⟩
end HT
namespace L2
open PySem PySem.Spec PyProof.Rows
theorem QO {X:Cx} {ss:List Stmt}:PSs X ss (fun _ _ _=>False):=fun _ _ _ _ _ _ h=>h.elim
section
variable {X:Cx}
def G1 (K:PySem.W.Frag):R2:=fun x y H Q=>∃a b xs ys,x=.ref a∧y=.ref b∧SqT K H a xs∧SqT K H b ys∧ys≠[]∧xs.length+ys.length≤sizeLine∧(xs=[]→Q (.ref b) H)∧(xs≠[]→∀p,H p=none→Q (.ref p) (upd H p (.tup (xs++ys))))
theorem EW:kM X (binaryOp .Add) (G1 X.K):=by
 intro pins s σ H x y v u Q I rx ry h;obtain ⟨a,b,xs,ys,rfl,rfl,ha,hb,hy,hz,q1,q2⟩:=h
 by_cases hx:xs=[]
 ·subst hx;cases rx;cases ry;obtain ⟨its,r1,p1,_⟩:=I.tuple ha;obtain ⟨its2,r2,p2,_⟩:=I.tuple hb;have e:its=[]:=r1.nil_iff.mpr rfl;subst e;exact HT.cat_tup0 p1 p2 ⟨.ref b,H,I,rfl,q1 rfl⟩
 ·exact FX pins s σ H _ _ v u Q I rx ry ⟨a,b,xs,ys,rfl,rfl,ha,hb,hx,hz,fun h=>absurd h hy,fun _=>q2 hx⟩
def uK (K:PySem.W.Frag):R2:=fun x y H Q=>∃(a b:Addr) (xs ys:List V) (es:List Bool),x=.ref a∧y=.ref b∧SqT K H a xs∧SqT K H b ys∧xs.length=ys.length∧es.length=xs.length∧(∀j,j<xs.length→DEq K H (xs.getD j .non) (ys.getD j .non) (es.getD j true)∨(∃(l:Addr) (zs:List V) (t:Str),xs.getD j .non=.ref l∧SqL K H l zs∧ys.getD j .non=.str t∧es.getD j true=false))∧Q (.bl (es.all id)) H
theorem FW (hu:X.A.units+1<cLine):kM X (compareOp .Eq) (uK X.K):=by
 intro pins s σ H x y v u Q I rx ry h;obtain ⟨a,b,xs,ys,es,rfl,rfl,ha,hb,hlen,hes,hd,q⟩:=h;cases rx;cases ry;obtain ⟨its,r,pl,hz⟩:=I.tuple ha;obtain ⟨its2,r2,pl2,hz2⟩:=I.tuple hb;have hl:=r.length;have hl2:=r2.length;refine SeqAt.eq_tupleAt (e:=fun j=>es.getD j true) pl pl2 (by omega) (fun j h1 h2=>?_) ⟨.bl _,H,I,rfl,?_⟩
 ·rcases hd j (by rw [hl];simpa using h1) with d|⟨l,zs,t,e1,hls,e2,e3⟩
  ·exact d.at I (vS r h1) (vS r2 h2) hu
  ·have v1:=vS r h1;have v2:=vS r2 h2;rw [e1] at v1;rw [e2] at v2;have v1:its.toArray[j]=Value.ref l:=v1;obtain ⟨tk,v2⟩:∃tk,its2.toArray[j]=Value.str t tk:=v2;rw [v1,v2,e3];obtain ⟨its3,r3,pl3,hz3⟩:=I.list hls;exact SeqAt.EqAt.list_str t tk pl3.isList (by simp only [Around.in1_units];omega)
 ·have e:((List.range (min its.toArray.size its2.toArray.size)).all (fun j=>es.getD j true)&&its.toArray.size == its2.toArray.size)=es.all id:=by
   rw [ae,ae,← hl,← hl2,← hlen,Nat.min_self,cw,ge,← hes,cV]
  rw [e];exact q
def KH (K:PySem.W.Frag):R2:=fun x y H Q=>∃(a b:Addr) (xs ys:List V),x=.ref a∧y=.ref b∧SqL K H a xs∧SqL K H b ys∧xs.length=ys.length∧(∀j,j<xs.length→∃k,(GV H k).1 (xs.getD j .non)∧(GV H k).1 (ys.getD j .non)∧gd k≤8)∧Q (.bl false) H
theorem G4 (hu:X.A.units+10<cLine):kM X (compareOp .NotEq) (KH X.K):=by
  intro pins s σ H x y v u Q I rx ry h;obtain ⟨a,b,xs,ys,rfl,rfl,ha,hb,hlen,hk,q⟩:=h;cases rx;cases ry;obtain ⟨its,r,pl,hz⟩:=I.list ha;obtain ⟨its2,r2,pl2,hz2⟩:=I.list hb;have hl:=r.length;have hl2:=r2.length;refine SeqAt.RcNeAt.lists (e:=fun _=>true) pl.isList pl2.isList (by rw [ae,ae,← hl,← hl2,hlen]) (by omega) (fun j h1 h2=>?_) X.prog X.w X.xe _ ⟨.bl _,H,I,rfl,?_⟩
  · obtain ⟨k,hz,hz',h8⟩:=hk j (by rw [hl];simpa using h1)
    have:=(HL k k).1 X.A.in1 _ _ ((GV.rel I.hok k).1 _ _ hz (vS r h1)) ((GV.rel I.hok k).1 _ _ hz' (vS r2 h2)) (by simp only [Around.in1_units];omega)
    rwa [aO rfl] at this
  · have e:(!(List.range its.toArray.size).all fun _=>true)=false:=by simp
    rw [e];exact q
end
structure RoomH (k:Nat) (A:Around):Prop where
 dp:A.depth+3*k+5<recursionLimit
 un:A.units+16*k+200<cLine
variable {k:Nat} {A:Around}
theorem Room.hand (r:Room k A) (e:Value):RoomH k (A.mark (some e)):=⟨r.dp,r.un⟩
theorem RoomH.mono {j:Nat} (r:RoomH k A) (h:j≤k):RoomH j A:=⟨by have:=r.dp;omega,by have:=r.un;omega⟩
theorem RoomH.deeper (r:RoomH (k+1) A) (env:Env):RoomH k (A.deeper env) :=
 ⟨by have:=r.dp;show A.depth+1+3*k+5<_;omega,by have:=r.un;show A.units+3+16*k+200<_;omega⟩
structure FnOkH (P:Program) (w:World) (K:PySem.W.Frag) (mg:Str→Option Value) (base:Heap) (k:Nat) (f:Addr) (fd:FuncData) (ps:List Str) (sp:Sp):Prop where
 len:∀vs H Q E,sp vs H Q E→vs.length=ps.length
 run:∀(A:Around) (outer:List Env) (s:Shared) (H:Hp) (us:List Value) (vs:List V) (Q:VK) (E:XK),RoomH k A→Env0 P w K mg base A outer s H→BindsTo s fd ⟨us,[]⟩ (ps.zip us)→Vals vs us→sp vs H Q E→
  codeAny (model P w) A (.call (.ref f) ⟨us,[]⟩) (CR jO outer P w H s Q E) s
def nW (P:Program) (w:World) (K:PySem.W.Frag) (mg:Str→Option Value) (base:Heap) (N:List Str) (qual:Str) (scope:Scope) (f:Addr) (cd:Value) (A:Around) (outer:List Env) (s:Shared) (H:Hp) (E:XK):Cx :=
 {kN jO P w K mg base N qual scope f cd A outer s H E with calm:=false}
section
variable {P:Program} {w:World} {K:PySem.W.Frag} {mg:Str→Option Value} {base:Heap}
theorem Fun.okH {x qual:Str} {st:Stmt} {f:Addr} {fd:FuncData} {N ps:List Str} {k:Nat} {sp:Sp} (F:Fun K x qual st f fd) (S:FnScope N ps (jT st)) (len:∀vs H Q E,sp vs H Q E→vs.length=ps.length)
  (hbody:∀(cdv:Value) (A:Around) (outer:List Env) (s:Shared) (H:Hp) (vs:List V) (Q:VK) (E:XK),RoomH k (A.deeper (envOfC qual (jT st) s.heap.objs.size f cdv))→sp vs H Q E→
   ∃t,PSs (nW P w K mg base N qual (jT st) f cdv A outer s H E).nox (kY st) t∧t {nx:=fun _ H'=>Q .non H',rt:=Q} (start N vs) H):FnOkH P w K mg base (k+1) f fd ps sp:=by
 obtain ⟨oc,od,kV,doc,pm,an,cdv,ct,osl,rfl,lk,hcd⟩:=F.ex;refine ⟨len,fun A outer s H us vs Q E hr e0 hb r hsp=>?_⟩;have KX:K.In s.heap:=e0.mod.kin.keeps fun b o e=>(e0.bs b o e).1
 refine codeAny_call_function (by have:=hr.dp;omega) (KX _ _ lk) rfl S.co S.gen rfl (PySem.W.codeRec_of KX hcd) (hb _ _ _ _ ?_);refine wpAny_newFunctionEnv_cells S.kind (fun ⟨n,v⟩ hy=>(S.par n (gh hy).1).imp id fun q=>⟨q,fj _ _ _ (.inl q)⟩) fun env he s1 z=>?_
 subst he;refine ⟨(e0.mod.nolimit.keeps fun b o e=>(e0.bs b o e).1).keeps z.toInCall.keep,codeAny_func ?_⟩;obtain ⟨t,ht,hq⟩:=hbody cdv A outer s H vs Q E (hr.deeper _) hsp;have J:=pY (CX:=jO) (E:=E) (A:={A with handled:=none}) S rfl ⟨e0.frames,e0.mod,e0.bs,e0.bsz,e0.funs,e0.frf,e0.hok,e0.bare⟩ (len _ _ _ _ hsp) r z;have I:Inv (nW P w K mg base N qual (jT st) f cdv A outer s H E) [] (start N vs) H s1 :=
  ⟨⟨J.ok.mod,J.ok.kind,J.ok.glob,J.ok.blt,J.ok.above,J.ok.inj,J.ok.has,J.ok.cab,fun z=>absurd (show false=true from z) (by decide),J.ok.frames,J.ok.stk,J.ok.exf,J.ok.bs,J.ok.bsz,J.ok.noex,J.ok.exfs,J.ok.funs,J.ok.frf⟩,J.os,J.bare,J.base,J.loc,J.cell,J.free,J.freeC,J.pin,J.hok,J.len⟩
 refine bp (ht.nox [] s1 (start N vs) H _ I hq) (fun fl s' hs=>?_) fun e s' hs=>hs
 cases fl with
 |ret u=>obtain ⟨v,σ',H',J,rv,q⟩:=hs;exact ⟨v,H',J.os,J.bare,J.base,J.hok,rv,q⟩
 |next=>obtain ⟨σ',H',J,q⟩:=hs;exact ⟨.non,H',J.os,J.bare,J.base,J.hok,rfl,q⟩
 |brk=>obtain ⟨_,_,_,q⟩:=hs;exact False.elim q
 |cont=>obtain ⟨_,_,_,q⟩:=hs;exact False.elim q
theorem Fun.okH2 {x qual:Str} {st:Stmt} {f:Addr} {fd:FuncData} {N ps:List Str} {k:Nat} {sp:Sp} (F:Fun K x qual st f fd) (S:FnScope N ps (jT st)) (h:∀vs H Q E,sp vs H Q E→vs.length=ps.length∧∀(cdv:Value) (A:Around) (outer:List Env) (s:Shared),RoomH k (A.deeper (envOfC qual (jT st) s.heap.objs.size f cdv))→
   ∃t,PSs (nW P w K mg base N qual (jT st) f cdv A outer s H E).nox (kY st) t∧t {nx:=fun _ H'=>Q .non H',rt:=Q} (start N vs) H):FnOkH P w K mg base (k+1) f fd ps sp:=F.okH S (fun vs H Q E q=>(h vs H Q E q).1) fun cdv A outer s H vs Q E hr q=>(h vs H Q E q).2 cdv A outer s hr
end
structure DefH (P:Program) (w:World) (K:PySem.W.Frag) (mg:Str→Option Value) (base:Heap) (k:Nat) (x:Str) (ps:List Str) (sp:Sp):Prop where
 ex:∃(f:Addr) (fd:FuncData),FnOkH P w K mg base k f fd ps sp∧mg x=some (.ref f)∧PySem.W.keepIn K (.ref f)=true∧Binds K fd ps []
theorem LI {P:Program} {w:World} {K:PySem.W.Frag} {mg:Str→Option Value} {base h:Heap} {x q:Str} {st:Stmt} {f:Addr} {fd:FuncData} {sp:Sp} {p0:Str} (X:K.In h) (G:h.Ns mainGlobals mg) (a:PySem.W.nsIn K mainGlobals x=some (some (.ref f))) (F:Fun K x q st f fd) (ok:FnOkH P w K mg base k f fd [p0] sp) (hb:∀(kV doc pm:Value) (an:Option Addr) (cdv ct a0:Value),bindArgs (PySem.W.fnOf x q (qW st) (kY st) (jT st) .none kV doc pm an cdv ct) ⟨[a0],[]⟩=pure ([p0].zip [a0]):=by intros;rfl):DefH P w K mg base k x [p0] sp:=⟨_,_,ok,aF X G a,F.kp,F.binds fun kV doc pm an cdv ct=>bT (hb kV doc pm an cdv ct)⟩
theorem FQ {X:Cx} {k':Nat} {x:Str} {ps:List Str} {sp:Sp} {p pos:Pos} {e:Expr} {es:List Expr} {t:TA} (F:DefH X.prog X.w X.K X.mg X.base k x ps sp) (hr:RoomH k' X.A) (hg:Gl X x) (ha:PA X (e::es) t)
  (hk:k≤k':=by decide) (hdb:(x == ("__debug__":Str))=false:=by decide) (he:starEach (e::es) X.env=(false,eval e X.env)::starEach es X.env:=by rfl) (hpl:(backTo pos (starEach es X.env)).any (·.1)=false:=by rfl) :
  PE X (.Call (.Name x p) (e::es) [] pos) (eH sp [] E0 t):=by
 obtain ⟨f,fd,G,m,kp,b⟩:=F.ex;intro pins s σ H Q I h;refine cy (QN I hg m ?_ hdb);refine cz (h₀:=X.base) I.ok.mod.kin kp (jN (ha pos pins s σ H _ I h) fun us s1 ⟨vs,H1,I1,r,q⟩=>⟨I1.kIn,?_⟩) he hpl;have q:sp (vs++[]) H1 Q E0:=q;rw [bx] at q;have hl:us.length=ps.length:=by rw [← r.length];exact G.len _ _ _ _ q
 have hb:=b s1 us I1.kIn (by rw [bx];exact hl);rw [bx] at hb;refine wpAny_call (fo (G.run X.A X.stack s1 H1 us vs Q E0 (hr.mono hk) I1.env0 hb r q) fun r s' hq=>?_);cases r with
 |error e=>exact False.elim hq
 |ok fl =>
  cases fl with
  |ret u=>exact I1.after hq
  |next=>exact False.elim hq
  |brk=>exact False.elim hq
  |cont=>exact False.elim hq
end L2
namespace My
open PySem L2 List
theorem zz0:0≤sizeLine:=by decide
theorem zz1:1≤sizeLine:=by decide
theorem zz2:2≤sizeLine:=by decide
theorem zz3:3≤sizeLine:=by decide
theorem zz4:4≤sizeLine:=by decide
theorem zz9:9≤sizeLine:=by decide
def top (i:Nat):Stmt:=PySem.Challenge.pw_lockhouse_k61_a_boat_comes.main.body.getD i (.Pass ⟨0,0,0,0⟩)
abbrev gZ:Stmt:=top 22
abbrev gX:Stmt:=top 24
abbrev gU:Stmt:=top 29
abbrev iE:Stmt:=top 28
abbrev cK:Stmt:=top 26
abbrev iD:Stmt:=top 25
abbrev gC:Stmt:=qT (top 84) 0
abbrev fM:Stmt:=qT (top 85) 0
abbrev gD:Stmt:=qT (top 86) 0
abbrev gE:Stmt:=qT (top 80) 0
abbrev QG:Stmt:=qT (top 81) 0
abbrev gA:Stmt:=qT (top 81) 6
abbrev gB:Stmt:=qT (top 81) 7
abbrev fY:Stmt:=qT (top 81) 3
abbrev cE:Stmt:=qT (top 81) 8
abbrev cD:Stmt:=qT (top 81) 9
abbrev iG:Stmt:=top 14
abbrev gW:Stmt:=top 13
abbrev iH:Stmt:=top 19
abbrev iA:Stmt:=top 16
abbrev cJ:Stmt:=top 17
abbrev gQ:Stmt:=top 15
abbrev gY:Stmt:=top 79
abbrev fZ:Stmt:=qT (top 81) 1
abbrev fX:Stmt:=qT (top 81) 2
abbrev cL:Stmt:=top 63
abbrev fP:Stmt:=qT (top 76) 1
abbrev fV:Stmt:=qT (top 76) 4
abbrev fU:Stmt:=qT (top 76) 2
abbrev fW:Stmt:=qT (top 76) 3
abbrev fT:Stmt:=qT (top 76) 5
abbrev fR:Stmt:=qT (top 76) 7
abbrev cA:Stmt:=qT (top 76) 6
abbrev fN:Stmt:=qT (top 76) 0
abbrev cM:Stmt:=top 56
abbrev gT:Stmt:=top 57
abbrev iC:Stmt:=top 61
abbrev iB:Stmt:=top 60
abbrev gS:Stmt:=top 18
abbrev iJ:Stmt:=top 67
abbrev gR:Stmt:=top 69
abbrev iK:Stmt:=top 73
abbrev iI:Stmt:=top 71
abbrev iF:Stmt:=top 72
abbrev fS:Stmt:=qT (top 76) 8
abbrev fO:Stmt:=qT (top 76) 9
abbrev fQ:Stmt:=qT (top 76) 10
abbrev gG:Stmt:=top 88
abbrev gN:Stmt:=top 89
abbrev gI:Stmt:=top 90
abbrev gJ:Stmt:=top 91
abbrev gH:Stmt:=top 92
abbrev gP:Stmt:=top 93
abbrev Q6:Stmt:=top 94
abbrev gM:Stmt:=top 95
abbrev gO:Stmt:=top 96
abbrev cF:Stmt:=top 97
abbrev gK:Stmt:=top 98
abbrev gF:Stmt:=top 99
abbrev gL:Stmt:=top 100
abbrev Q5:Stmt:=top 101
abbrev cG:Stmt:=top 102
abbrev cI:Stmt:=top 103
abbrev cH:Stmt:=top 104
abbrev zV:Stmt:=top 105
abbrev fL (K:W.Frag) (x q:Str) (st:Stmt) (f:Addr):Prop:=∃fd,Fun K x q st f fd
variable {K:W.Frag} {H H':Hp} {a:Addr} {xs:List V}
theorem mR (e:Same H H') (h:SqT K H a xs):SqT K H' a xs:=by
 rcases h with (h|⟨o,h⟩)|h
 ·exact .inl (.inl (e _ _ h))
 ·exact .inl (.inr ⟨o,e _ _ h⟩)
 ·exact .inr h
theorem jJ {p:Addr} (h:H p=none) (o:HO):Same H (upd H p o):=fun b u q=>by rw [jL (kE q h)];exact q
variable {n:Nat}
theorem small (h:n≤1000):n≤sizeLine:=fm (vL h)
def Ints (K:W.Frag) (H:Hp) (a:Addr) (ws:List Int):Prop:=SqL K H a (ws.map V.int)∨SqT K H a (ws.map V.int)
theorem Ints.same {ws:List Int} (e:Same H H') (h:Ints K H a ws):Ints K H' a ws:=by
 rcases h with h|h
 ·exact .inl (e.seq h)
 ·exact .inr (mR e h)
variable {s:Nat}
theorem ZJ (h:s<n):yU n (s:Int)=some s:=by
 unfold yU;rw [if_pos (by omega),if_pos (by omega)];simp
theorem zF {ws:List Int} (h:s<ws.length):qU (ws.map V.int) (s:Int)=some (.int (ws.getD s 0)):=by
 refine qN ?_;rw [ax,aa h,af,aa h];rfl
theorem ER {p:Addr} {ws:List Int} {Q:VK} (h:Ints K H p ws) (hs:s<ws.length) (q:Q (.int (ws.getD s 0)) H):nR K (.ref p) (.int s) H Q:=by
 rcases h with h|h
 ·exact .inl ⟨p,_,s,_,rfl,rfl,h,zF hs,q⟩
 ·exact .inr (.inl ⟨p,_,s,_,rfl,rfl,h,zF hs,q⟩)
theorem cZ (ws:List Int) (s:Nat) (z:Int):(ws.map V.int).set s (V.int z)=(ws.set s z).map V.int:=by rw [map_set]
theorem DO {a b:Int} (h:0<b):∃k:Nat,a%b=(k:Int)∧(k:Int)<b:=by
 have h1:=dv a (by omega:b≠0);have h2:=dc a h;exact ⟨(a%b).toNat,by omega,by omega⟩
def eJ (K:W.Frag):Sp:=fun vs H Q _=>∃(a:Addr) (ns:List Int),vs=[.ref a]∧SqL K H a (ns.map V.int)∧ns.length≤63∧∀H',Q (.bl true) H'
def zP (ws:List Int) (q:Nat×Nat×Int):List Int:=((ws.set q.1 (ws.getD q.1 0 - q.2.2))).set q.2.1 ((ws.set q.1 (ws.getD q.1 0 - q.2.2)).getD q.2.1 0+q.2.2)
theorem o0 (ws:List Int) (q:Nat×Nat×Int):(zP ws q).length=ws.length:=by unfold zP;rw [aW,aW]
def v8 (ws:List Int) (qs:List (Nat×Nat×Int)):List Int:=qs.foldl zP ws
theorem cW (qs:List (Nat×Nat×Int)):∀ws:List Int,(v8 ws qs).length=ws.length:=by
 induction qs with
 |nil=>intro ws;rfl
 |cons q r ih=>intro ws;show (v8 (zP ws q) r).length=_;rw [ih,o0]
theorem CH (ws:List Int) (qs:List (Nat×Nat×Int)) (q:Nat×Nat×Int):v8 ws (qs++[q])=zP (v8 ws qs) q:=by
 unfold v8;rw [foldl_append];rfl
theorem CG (ws:List Int) (qs:List (Nat×Nat×Int)) (i:Nat) (q:Nat×Nat×Int) (h:qs[i]?=some q):v8 ws (qs.take (i+1))=zP (v8 ws (qs.take i)) q:=by
 rw [aN,h];exact CH ..
def tO (K:W.Frag) (H:Hp) (rs:List V) (qs:List (Nat×Nat×Int)) (n:Nat):Prop :=
 rs.length=qs.length∧∀(i:Nat) (r:V),rs[i]?=some r→∃(a:Addr) (s t:Nat) (m:Int),r=.ref a∧qs[i]?=some (s,t,m)∧SqT K H a [.int s,.int t,.int m]∧s<n∧t<n
def mQ (K:W.Frag):Sp:=fun vs H Q _=>∃(w p:Addr) (ws:List Int) (rs:List V) (qs:List (Nat×Nat×Int)),vs=[.ref w,.ref p]∧Ints K H w ws∧SqL K H p rs∧tO K H rs qs ws.length∧ws.length≤1000∧
 ∀(r:Addr) (H':Hp),Same H H'→H r=none→H' r=some (.tup ((v8 ws qs).map V.int))→Q (.ref r) H'
def Keep (d:Addr) (H H':Hp):Prop:=∀b o,b≠d→H b=some o→H' b=some o
theorem Keep.refl (d:Addr) (H:Hp):Keep d H H:=fun _ _ _ q=>q
variable {d:Addr}
theorem Keep.of (s:Same H H'):Keep d H H':=fun b o _ q=>s b o q
theorem Keep.trans {H1 H2:Hp} (a:Keep d H H1) (b:Keep d H1 H2):Keep d H H2:=fun c o n q=>b c o n (a c o n q)
theorem Keep.upd (k:Keep d H H') (o:HO):Keep d H (upd H' d o):=fun b u n q=>by rw [jL n];exact k b u n q
variable {ys:List V}
theorem Keep.sqt (k:Keep d H H') (hd:H d=some (.lst ys)) (h:SqT K H a xs):SqT K H' a xs:=by
 rcases h with (h|⟨o,h⟩)|h
 ·exact .inl (.inl (k _ _ (qF h hd (fun z=>nomatch z)) h))
 ·exact .inl (.inr ⟨o,k _ _ (qF h hd (fun z=>nomatch z)) h⟩)
 ·exact .inr h
def vW:Str:="abcdefghijklmnopqrstuvwxyz"
def yP (n h l r:V):List (Str×V):=jF "room" r (jF "low" l (jF "high" h (jF "name" n [])))
theorem IB:¬(("name":Str)="high"):=by decide +kernel
theorem IA:¬(("name":Str)="low"):=by decide +kernel
theorem H0:¬(("name":Str)="room"):=by decide +kernel
theorem IE:¬(("high":Str)="low"):=by decide +kernel
theorem ID:¬(("high":Str)="room"):=by decide +kernel
theorem IC:¬(("low":Str)="room"):=by decide +kernel
theorem GD (n h l r:V):(yP n h l r).lookup ("name":Str)=some n:=by
 unfold yP;rw [yE,if_neg H0,yE,if_neg IA,yE,if_neg IB,yE,if_pos rfl]
theorem GE (n h l r:V):(yP n h l r).lookup ("high":Str)=some h:=by
 unfold yP;rw [yE,if_neg ID,yE,if_neg IE,yE,if_pos rfl]
theorem HA (n h l r:V):(yP n h l r).lookup ("low":Str)=some l:=by
 unfold yP;rw [yE,if_neg IC,yE,if_pos rfl]
def eI (e:Str) (n h l r v:V):List (Str×V):=jF e v (yP n h l r)
variable {m:Str}
theorem sL {e:Str} (ne:¬m=e) (n h l r v:V):(eI e n h l r v).lookup m=(yP n h l r).lookup m:=by
 unfold eI;rw [yE,if_neg ne]
theorem pE (n h l r:V):(yP n h l r).length<1000:=by
 have h1:=yF "high" h (jF "name" n []);have h2:=yF "low" l (jF "high" h (jF "name" n []));have h3:=yF "room" r (jF "low" l (jF "high" h (jF "name" n [])));have h4:(jF ("name":Str) n []).length=1:=rfl;unfold yP;omega
def wv (b:Bool):V:=if b then .str "up" else .str "down"
def jH (cP cB cU:Addr):Kd→Addr
 |.plain=>cP
 |.basin=>cB
 |.pump=>cU
def ZM (kd:Kd) (n h l r v:V):List (Str×V):=match kd with
 |.plain=>yP n h l r
 |.basin=>eI "side" n h l r v
 |.pump=>eI "lift" n h l r v
theorem mM (kd:Kd) (n h l r v:V) (h1:¬m="side") (h2:¬m="lift"):(ZM kd n h l r v).lookup m=(yP n h l r).lookup m:=by
 cases kd
 ·rfl
 ·exact sL h1 _ _ _ _ _
 ·exact sL h2 _ _ _ _ _
theorem dU (kd:Kd) (n h l r v:V):(ZM kd n h l r v).lookup ("name":Str)=some n:=by rw [mM kd _ _ _ _ _ (by decide +kernel) (by decide +kernel)];exact GD ..
theorem ZK (kd:Kd) (n h l r v:V):(ZM kd n h l r v).lookup ("high":Str)=some h:=by rw [mM kd _ _ _ _ _ (by decide +kernel) (by decide +kernel)];exact GE ..
theorem ZP (kd:Kd) (n h l r v:V):(ZM kd n h l r v).lookup ("low":Str)=some l:=by rw [mM kd _ _ _ _ _ (by decide +kernel) (by decide +kernel)];exact HA ..
def LockAt (cs:Kd→Addr) (H:Hp) (x:Addr) (kd:Kd) (n h l:V) (room v:Int):Prop:=∃dx:Addr,H x=some (.ins (cs kd) dx (ZM kd n h l (.int room) (.int v)))
variable {cs:Kd→Addr} {x:Addr}
theorem LockAt.same {kd:Kd} {n h l:V} {room v:Int} (e:Same H H') (a:LockAt cs H x kd n h l room v):LockAt cs H' x kd n h l room v:=by
 obtain ⟨dx,a⟩:=a;exact ⟨dx,e _ _ a⟩
def ZH (cs:Kd→Addr):Sp:=fun vs H Q _=>∃(kd:Kd) (x dx:Addr) (n h l r:V),vs=[.ref x,n,h,l,r]∧H x=some (.ins (cs kd) dx [])∧∀H':Hp,Keep x H H'→H' x=some (.ins (cs kd) dx (yP n h l r))→Q .non H'
def ZG (cs:Kd→Addr) (kd:Kd):Sp:=fun vs H Q _=>∃(x dx:Addr) (n h l r v:V),vs=[.ref x,n,h,l,r,v]∧H x=some (.ins (cs kd) dx [])∧∀H':Hp,Keep x H H'→H' x=some (.ins (cs kd) dx (ZM kd n h l r v))→Q .non H'
def JG (c m:Int):Int:=if m - c>0 then m - c else 0
def JQ (ws:List (Int×Nat)) (i:Nat):Int:=(ws.getD i (0,0)).1
def kZ (ws:List (Int×Nat)) (i:Nat):Nat:=(ws.getD i (0,0)).2
def WeirsAt (K:W.Frag) (H:Hp) (rs:List V) (ws:List (Int×Nat)) (n:Nat):Prop :=
 rs.length=ws.length∧∀(i:Nat) (r:V),rs[i]?=some r→∃(a:Addr) (c:Int) (t:Nat),r=.ref a∧ws[i]?=some (c,t)∧SqT K H a [.int c,.int t]∧t<n
def eX (R:Nat) (ws:List (Int×Nat)):Prop:=∀(i:Nat) (c:Int) (t:Nat),ws[i]?=some (c,t)→t<i∨R≤t
variable {rs:List V} {ws:List (Int×Nat)}
theorem WeirsAt.same (e:Same H H') (h:WeirsAt K H rs ws n):WeirsAt K H' rs ws n:=by
 refine ⟨h.1,fun i r hi=>?_⟩;obtain ⟨a,c,t,h1,h2,h3,h4⟩:=h.2 i r hi;exact ⟨a,c,t,h1,h2,mR e h3,h4⟩
variable {i:Nat}
theorem dD (h:WeirsAt K H rs ws n) (hi:i<ws.length):∃a,qU rs (i:Int)=some (V.ref a)∧SqT K H a [.int (JQ ws i),.int (kZ ws i)]∧kZ ws i<n:=by
 have hk:i<rs.length:=by rw [h.1];exact hi
 obtain ⟨a,c,t,h1,h2,h3,h4⟩:=h.2 i rs[i] (aa hk);have e:ws.getD i (0,0)=(c,t):=by rw [af,h2];rfl
 refine ⟨a,qN (by rw [aa hk,h1]),?_,?_⟩
 ·unfold JQ kZ;rw [e];exact h3
 ·unfold kZ;rw [e];exact h4
theorem FE {R:Nat} (h:eX R ws) (hi:i<ws.length):kZ ws i<i∨R≤kZ ws i:=by
 have e:ws[i]?=some ((ws.getD i (0,0)).1,(ws.getD i (0,0)).2):=by rw [af,aa hi];rfl
 exact h i _ _ e
def tT (K:W.Frag):Sp:=fun vs H Q _=>∃(wq wa:Addr) (rs:List V) (ws:List (Int×Nat)) (n:Nat) (ms:List Int) (at_:Nat),vs=[.ref wq,.ref wa,.int at_]∧SqL K H wq rs∧WeirsAt K H rs ws n∧Ints K H wa ms∧at_<ws.length∧at_<ms.length∧
 Q (.int (JG (JQ ws at_) (ms.getD at_ 0))) H
def vU (t:Nat→Nat) (g:Nat→Int) (j:Nat):Nat→Int
 |0=>0
 |a+1=>vU t g j a+(if t a=j then g a else 0)
theorem o4 {t:Nat→Nat} {g g':Nat→Int} {j:Nat}:∀{R:Nat},(∀a,a<R→t a=j→g a≤g' a)→vU t g j R≤vU t g' j R
 |0,_=>Int.le_refl _
 |R+1,h=>by
  show vU t g j R+_≤vU t g' j R+_;have ih:=o4 (R:=R) fun a ha=>h a (by omega)
  by_cases c:t R=j
  ·rw [if_pos c,if_pos c];have:=h R (by omega) c;omega
  ·rw [if_neg c,if_neg c];omega
theorem o3 (t:Nat→Nat) (j:Nat):∀R:Nat,vU t (fun _=>0) j R=0
 |0=>rfl
 |R+1=>by
  show vU t (fun _=>0) j R+_=0;rw [o3 t j R]
  split<;>rfl
theorem pG {t:Nat→Nat} {g g':Nat→Int} {i:Nat} (hg:∀a,a≠i→g' a=g a) (j:Nat):∀{R:Nat},vU t g' j R=vU t g j R+(if i<R∧t i=j then g' i - g i else 0)
 |0=>by
  show (0:Int)=0+_;rw [if_neg (by omega)];rfl
 |R+1=>by
  show vU t g' j R+(if t R=j then g' R else 0)=vU t g j R+(if t R=j then g R else 0)+(if i<R+1∧t i=j then g' i - g i else 0);rw [pG hg j (R:=R)]
  by_cases hi:i=R
  ·subst hi
   repeat' split
   all_goals omega
  ·rw [hg R (fun e=>hi e.symm)]
   repeat' split
   all_goals omega
def bI (R:Nat) (c:Nat→Int) (t:Nat→Nat) (m:Nat→Int) (g:Nat→Int):Prop:=∀i,i<R→g i=JG (c i) (m i+vU t g i R)
def bM (R:Nat) (t:Nat→Nat):Prop:=∀a,a<R→t a<a∨R≤t a
theorem C2 {c m m':Int} (h:m≤m'):JG c m≤JG c m':=by
 unfold JG
 split<;>split<;>omega
variable {g:Nat→Int}
theorem pA {R:Nat} {c:Nat→Int} {t:Nat→Nat} {m m' g':Nat→Int} (hA:bM R t) (hm:∀i,i<R→m i≤m' i) (h:bI R c t m g) (h':bI R c t m' g'):∀k,k≤R→∀i,R - k≤i→i<R→g i≤g' i:=by
 intro k
 induction k with
 |zero=>intro _ i h1 h2;omega
 |succ k ih =>
  intro hk i h1 h2
  by_cases e:R - k≤i
  ·exact ih (by omega) i e h2
  ·have hi:i=R - (k+1):=by omega
   rw [h i h2,h' i h2];refine C2 ?_;have:=o4 (t:=t) (g:=g) (g':=g') (j:=i) (R:=R) fun a ha hta=>ih (by omega) a (by have:=hA a ha;omega) ha
   have:=hm i h2;omega
theorem CD {R:Nat} {c:Nat→Int} {t:Nat→Nat} {m g':Nat→Int} (hA:bM R t) (h:bI R c t m g) (h':bI R c t m g') (hi:i<R):g i=g' i:=by
 have h1:=pA hA (fun i _=>Int.le_refl (m i)) h h' R (ai _) i (by omega) hi;have h2:=pA hA (fun i _=>Int.le_refl (m i)) h' h R (ai _) i (by omega) hi;omega
def after (R:Nat) (t:Nat→Nat) (m g:Nat→Int) (j:Nat):Int:=m j+vU t g j R - (if j<R then g j else 0)
def JI:List (Nat×Nat×Int)→Nat→Int
 |[],_=>0
 |q::r,j=>(if q.2.1=j then q.2.2 else 0) - (if q.1=j then q.2.2 else 0)+JI r j
theorem Z6 (l:List Int) (i j:Nat) (z:Int) (h:i<l.length):(l.set i z).getD j 0=if i=j then z else l.getD j 0:=by
 rw [af,af]
 by_cases e:i=j
 ·subst e;rw [bu h,if_pos rfl];rfl
 ·rw [cc e,if_neg e]
theorem DQ (ms:List Int) (q:Nat×Nat×Int) (j:Nat) (h1:q.1<ms.length) (h2:q.2.1<ms.length):(zP ms q).getD j 0=ms.getD j 0+((if q.2.1=j then q.2.2 else 0) - (if q.1=j then q.2.2 else 0)):=by
 unfold zP;rw [Z6 _ _ _ _ (by rw [aW];exact h2),Z6 _ _ _ _ h1,Z6 _ _ _ _ h1]
 by_cases a:q.2.1=j
 ·rw [if_pos a,if_pos a];rw [a]
  by_cases b:q.1=j
  ·rw [if_pos b,if_pos b];rw [b];omega
  ·rw [if_neg b,if_neg b];omega
 ·rw [if_neg a,if_neg a]
  by_cases b:q.1=j
  ·rw [if_pos b,if_pos b];rw [b];omega
  ·rw [if_neg b,if_neg b];omega
theorem iT:∀(qs:List (Nat×Nat×Int)) (ms:List Int) (j:Nat),(∀q∈qs,q.1<ms.length∧q.2.1<ms.length)→(v8 ms qs).getD j 0=ms.getD j 0+JI qs j
 |[],ms,j,_=>by
  show ms.getD j 0=ms.getD j 0+0;omega
 |q::r,ms,j,h=>by
  show (v8 (zP ms q) r).getD j 0=_;obtain ⟨h1,h2⟩:=h q aQ;rw [iT r (zP ms q) j (fun x hx=>by rw [o0];exact h x (aC _ hx)),DQ ms q j h1 h2];show _=ms.getD j 0+((if q.2.1=j then q.2.2 else 0) - (if q.1=j then q.2.2 else 0)+JI r j);omega
theorem mem_downs {a:Nat}:a∈yK n↔a<n:=by
 unfold yK;rw [mem_reverse,mem_range]
theorem cX (n:Nat):(yK n).length=n:=by
 unfold yK;rw [length_reverse,dh]
variable {k:Nat}
theorem rD (h:k<n):(yK n)[k]?=some (n - 1 - k):=by
 unfold yK;rw [List.getElem?_reverse (by simpa using h),dh,dk (by omega)]
def JB (t:Nat→Nat) (g:Nat→Int) (R:Nat):List (Nat×Nat×Int):=(yK R).map fun a=>(a,t a,g a)
theorem sD {l l':List Int} (h:l.length=l'.length) (e:∀j,j<l.length→l.getD j 0=l'.getD j 0):l=l':=by
 apply ext_getElem h;intro i h1 h2;have:=e i h1;rw [af,af,aa h1,aa h2] at this;exact this
def y6 (ms:List Int) (ws:List (Int×Nat)) (gs:List Int):List Int:=v8 ms (JB (kZ ws) (fun a=>gs.getD a 0) ws.length)
def Spl (ws:List (Int×Nat)) (ms gs:List Int):Prop:=gs.length=ws.length∧bI ws.length (JQ ws) (kZ ws) (fun j=>ms.getD j 0) (fun a=>gs.getD a 0)
variable {ms gs:List Int}
theorem Spl.unique {gs':List Int} (hA:bM ws.length (kZ ws)) (h:Spl ws ms gs) (h':Spl ws ms gs'):gs=gs':=by
 refine sD (by rw [h.1,h'.1]) fun j hj=>?_
 exact CD hA h.2 h'.2 (by rw [← h.1];exact hj)
theorem rM (h:eX ws.length ws):bM ws.length (kZ ws):=fun a ha=>FE h ha
theorem pL (h:WeirsAt K H rs ws n):∀a,a<ws.length→kZ ws a<n:=fun a ha=>let ⟨_,_,_,q⟩:=dD h ha;q
structure SplInv (ws:List (Int×Nat)) (ms hs gs:List Int) (k:Nat):Prop where
 lh:hs.length=ms.length
 lg:gs.length=ws.length
 flow:∀j,j<ms.length→hs.getD j 0=ms.getD j 0+vU (kZ ws) (fun a=>gs.getD a 0) j ws.length
 zero:∀a,a<ws.length - k→gs.getD a 0=0
 done:∀a,ws.length - k≤a→a<ws.length→gs.getD a 0=JG (JQ ws a) (ms.getD a 0+vU (kZ ws) (fun a=>gs.getD a 0) a ws.length)
theorem SplInv.start (ws:List (Int×Nat)) (ms:List Int):SplInv ws ms ms (List.replicate ws.length 0) 0:=by
 have ez:(fun a:Nat=>(List.replicate ws.length (0:Int)).getD a 0)=fun _=>0:=by
  funext a;rw [af,cf]
  split<;>rfl
 refine ⟨rfl,by simp,fun j _=>?_,fun a _=>congrFun ez a,fun a h1 h2=>by omega⟩;rw [ez,o3];omega
theorem SplInv.step {hs:List Int} (hA:bM ws.length (kZ ws)) (hR:ws.length≤ms.length) (hk:k<ws.length) (ht:kZ ws (ws.length - 1 - k)<ms.length) (h:SplInv ws ms hs gs k) :
  SplInv ws ms (hs.set (kZ ws (ws.length - 1 - k)) (hs.getD (kZ ws (ws.length - 1 - k)) 0+(gs.set (ws.length - 1 - k) (JG (JQ ws (ws.length - 1 - k)) (hs.getD (ws.length - 1 - k) 0))).getD (ws.length - 1 - k) 0))
   (gs.set (ws.length - 1 - k) (JG (JQ ws (ws.length - 1 - k)) (hs.getD (ws.length - 1 - k) 0))) (k+1):=by
 obtain ⟨i,hi⟩:∃i,i=ws.length - 1 - k:=⟨_,rfl⟩;rw [← hi] at ht ⊢;obtain ⟨lh,lg,flow,zero,done⟩:=h;have hil:i<gs.length:=by rw [lg];omega
 obtain ⟨v,hv⟩:∃v,v=JG (JQ ws i) (hs.getD i 0):=⟨_,rfl⟩;rw [← hv];have gset:∀a,(gs.set i v).getD a 0=if i=a then v else gs.getD a 0:=fun a=>Z6 gs i a v hil
 have g0:gs.getD i 0=0:=zero i (by omega);have gi:(gs.set i v).getD i 0=v:=by rw [gset,if_pos rfl]
 have infl:∀j,vU (kZ ws) (fun a=>(gs.set i v).getD a 0) j ws.length=vU (kZ ws) (fun a=>gs.getD a 0) j ws.length+(if kZ ws i=j then v else 0):=fun j=>by
  rw [pG (g:=fun a=>gs.getD a 0) (i:=i) (fun a ha=>by show (gs.set i v).getD a 0=gs.getD a 0;rw [gset,if_neg (Ne.symm ha)]) j];show _+(if i<ws.length∧kZ ws i=j then (gs.set i v).getD i 0 - gs.getD i 0 else 0)=_;rw [gi,g0];have hiw:i<ws.length:=by omega
  repeat' split
  all_goals omega
 have hti:=hA i (by omega);refine ⟨by rw [aW,lh],by rw [aW,lg],fun j hj=>?_,fun a ha=>?_,fun a h1 h2=>?_⟩
 ·rw [Z6 _ _ _ _ (by rw [lh];exact ht),infl,gi];have:=flow j hj
  by_cases e:kZ ws i=j
  ·rw [if_pos e,if_pos e,e];omega
  ·rw [if_neg e,if_neg e];omega
 ·rw [gset,if_neg (by omega)];exact zero a (by omega)
 ·rw [infl]
  by_cases e:i=a
  ·subst e;rw [gi,if_neg (by omega),Int.add_zero,hv,flow i (by omega)]
  ·rw [gset,if_neg e,if_neg (by omega),Int.add_zero];exact done a (by omega) h2
theorem SplInv.spl {hs:List Int} (h:SplInv ws ms hs gs ws.length):Spl ws ms gs:=⟨h.lg,fun i hi=>h.done i (by omega) hi⟩
theorem rV (n:Nat):(List.replicate n [V.int 0]).flatten=(List.replicate n (0:Int)).map V.int:=by
 induction n with
 |zero=>rfl
 |succ n ih =>
  rw [aT,dg,ih,aT,map_cons];rfl
structure Ready (K:W.Frag) (H:Hp) (wq wa:Addr) (rs:List V) (ws:List (Int×Nat)) (ms:List Int):Prop where
 w:SqL K H wq rs
 a:WeirsAt K H rs ws ms.length
 m:Ints K H wa ms
 ah:eX ws.length ws
 le:ws.length≤ms.length
 sm:ms.length≤1000
theorem Ready.same {wq wa:Addr} (e:Same H H') (h:Ready K H wq wa rs ws ms):Ready K H' wq wa rs ws ms:=⟨e.seq h.w,h.a.same e,h.m.same e,h.ah,h.le,h.sm⟩
def mD (K:W.Frag):Sp:=fun vs H Q _=>∃(wq:Addr) (rs:List V),vs=[.ref wq]∧SqL K H wq rs∧rs.length≤1000∧∀(r:Addr) (H':Hp),Same H H'→H r=none→H' r=some (.lst ((yK rs.length).map fun (i:Nat)=>V.int (i:Int)))→Q (.ref r) H'
def rO (K:W.Frag):Sp:=fun vs H Q _=>∃(wq wa:Addr) (rs:List V) (ws:List (Int×Nat)) (ms:List Int),vs=[.ref wq,.ref wa]∧Ready K H wq wa rs ws ms∧
 ∀(r:Addr) (H':Hp) (gs:List Int),Same H H'→H r=none→H' r=some (.lst (gs.map V.int))→Spl ws ms gs→Q (.ref r) H'
def pT (K:W.Frag):Sp:=fun vs H Q _=>∃(wq wa:Addr) (rs:List V) (ws:List (Int×Nat)) (ms:List Int),vs=[.ref wq,.ref wa]∧Ready K H wq wa rs ws ms∧
 ∀(r:Addr) (H':Hp) (gs:List Int),Same H H'→H r=none→H' r=some (.tup ((y6 ms ws gs).map V.int))→Spl ws ms gs→Q (.ref r) H'
theorem sF {R:Nat} {x:V} (h:((yK R).map fun (i:Nat)=>V.int (i:Int))[i]?=some x):i<R∧x=V.int ((R - 1 - i:Nat):Int):=by
 rw [ax] at h
 by_cases hi:i<R
 ·rw [rD hi] at h;exact ⟨hi,(az h).symm⟩
 ·rw [bn (by rw [cX];omega)] at h;cases h
theorem CM {t:Nat→Nat} {R:Nat} (h:i<R):(JB t g R)[i]?=some (R - 1 - i,t (R - 1 - i),g (R - 1 - i)):=by
 unfold JB;rw [ax,rD h];rfl
def yR (q:Nat×Nat×Int):Bool := !decide (q.2.2=0)
theorem mB (j:Nat):∀qs:List (Nat×Nat×Int),JI (qs.filter yR) j=JI qs j
 |[]=>rfl
 |q::r=>by
  rw [filter_cons]
  by_cases h:q.2.2=0
  ·rw [if_neg (by unfold yR;rw [aO h];decide)];show JI (r.filter yR) j=(if q.2.1=j then q.2.2 else 0) - (if q.1=j then q.2.2 else 0)+JI r j;rw [mB j r,h]
   repeat' split
   all_goals omega
  ·rw [if_pos (by unfold yR;rw [aK h];rfl)];show _+JI (r.filter yR) j=_+JI r j;rw [mB j r]
variable {qs:List (Nat×Nat×Int)}
theorem CZ (h:∀q∈qs,q.1<ms.length∧q.2.1<ms.length):v8 ms (qs.filter yR)=v8 ms qs:=by
 refine sD (by rw [cW,cW]) fun j _=>?_
 rw [iT _ _ _ h,iT _ _ _ (fun q hq=>h q (mem_filter.mp hq).1),mB]
theorem CW (hR:ws.length≤n) (ht:∀a,a<ws.length→kZ ws a<n):∀q∈JB (kZ ws) g ws.length,q.1<n∧q.2.1<n:=fun q hq=>by
 obtain ⟨a,ha,rfl⟩:=mem_map.mp hq;have:=mem_downs.mp ha;exact ⟨by show a<n;omega,ht a this⟩
def PoursH (H:Hp) (rs:List V) (qs:List (Nat×Nat×Int)) (n:Nat):Prop:=rs.length=qs.length∧∀(i:Nat) (r:V),rs[i]?=some r→∃(a:Addr) (s t:Nat) (m:Int),r=.ref a∧qs[i]?=some (s,t,m)∧H a=some (.tup [.int s,.int t,.int m])∧s<n∧t<n
theorem PoursH.nil (H:Hp) (n:Nat):PoursH H [] [] n:=⟨rfl,fun i r hi=>by cases hi⟩
theorem PoursH.pa (h:PoursH H rs qs n):tO K H rs qs n:=⟨h.1,fun i r hi=>by
 obtain ⟨a,s,t,m,h1,h2,h3,h4⟩:=h.2 i r hi;exact ⟨a,s,t,m,h1,h2,SqT.of h3,h4⟩⟩
theorem PoursH.same (h:PoursH H rs qs n) (e:Same H H'):PoursH H' rs qs n:=⟨h.1,fun i r hi=>by
 obtain ⟨a,s,t,m,h1,h2,h3,h4⟩:=h.2 i r hi;exact ⟨a,s,t,m,h1,h2,e _ _ h3,h4⟩⟩
variable {o:HO}
theorem PoursH.put (h:PoursH H rs qs n) (hd:H d=some (.lst ys)):PoursH (upd H d o) rs qs n:=⟨h.1,fun i r hi=>by
 obtain ⟨a,s,t,m,h1,h2,h3,h4⟩:=h.2 i r hi;exact ⟨a,s,t,m,h1,h2,by rw [jL (fun z=>by rw [z,hd] at h3;cases h3)];exact h3,h4⟩⟩
theorem PoursH.append {rs':List V} {qs':List (Nat×Nat×Int)} (h:PoursH H rs qs n) (h':PoursH H rs' qs' n):PoursH H (rs++rs') (qs++qs') n:=by
 refine ⟨by rw [aj,aj,h.1,h'.1],fun i r hi=>?_⟩
 by_cases hl:i<rs.length
 ·rw [aJ hl] at hi;obtain ⟨a,s,t,m,h1,h2,h3⟩:=h.2 i r hi;exact ⟨a,s,t,m,h1,by rw [aJ (by rw [← h.1];exact hl)];exact h2,h3⟩
 ·rw [aE (by omega)] at hi;obtain ⟨a,s,t,m,h1,h2,h3⟩:=h'.2 _ r hi;exact ⟨a,s,t,m,h1,by rw [aE (by rw [← h.1];omega),← h.1];exact h2,h3⟩
theorem PoursH.snoc {t:Nat} {m:Int} (h:PoursH H rs qs n) (ha:H a=some (.tup [.int s,.int t,.int m])) (hs:s<n) (ht:t<n):PoursH H (rs++[.ref a]) (qs++[(s,t,m)]) n:=h.append ⟨rfl,fun i r hi=>by
 rcases i with _|i
 ·cases hi;exact ⟨a,s,t,m,rfl,rfl,ha,hs,ht⟩
 ·cases hi⟩
def rP (K:W.Frag):Sp:=fun vs H Q _=>∃(wq wa:Addr) (rs:List V) (ws:List (Int×Nat)) (ms:List Int),vs=[.ref wq,.ref wa]∧Ready K H wq wa rs ws ms∧
 ∀(r:Addr) (H':Hp) (gs:List Int) (ys:List V),Same H H'→H r=none→H' r=some (.lst ys)→PoursH H' ys ((JB (kZ ws) (fun a=>gs.getD a 0) ws.length).filter yR) ms.length→Spl ws ms gs→Q (.ref r) H'
structure RC where
 name:Str
 least:Int
 crest:Int
 berths:Int
 water:Int
 target:Int
def RC.good (r:RC) (n:Nat):Prop:=0≤r.least∧r.least≤r.crest∧r.crest≤999999999999∧1≤r.berths∧r.berths≤9∧0≤r.water∧r.water≤999999999999∧-1≤r.target∧r.target<(n:Int)
structure LC where
 name:Str
 high:Int
 low:Int
 room:Int
 kd:Kd
 extra:Int
def LC.good (l:LC) (n:Nat):Prop:=1≤l.high∧l.high<(n:Int)∧0≤l.low∧l.low<l.high∧1≤l.room∧l.room≤999999999999∧(l.kd=.plain→l.extra=0)∧(l.kd≠.plain→1≤l.extra∧l.extra≤l.room)
def AllAt {α:Type} (P:V→α→Prop) (vs:List V) (xs:List α):Prop:=vs.length=xs.length∧∀(i:Nat) (v:V),vs[i]?=some v→∃x,xs[i]?=some x∧P v x
variable {α:Type}
theorem AllAt.nil {P:V→α→Prop}:AllAt P [] ([]:List α):=⟨rfl,fun i v h=>by cases h⟩
variable {vs:List V}
theorem AllAt.mono {P P':V→α→Prop} {xs:List α} (m:∀v x,P v x→P' v x) (h:AllAt P vs xs):AllAt P' vs xs:=⟨h.1,fun i v hv=>by obtain ⟨x,h1,h2⟩:=h.2 i v hv;exact ⟨x,h1,m v x h2⟩⟩
variable {v:V}
theorem AllAt.snoc {P:V→α→Prop} {xs:List α} {x:α} (h:AllAt P vs xs) (hv:P v x):AllAt P (vs++[v]) (xs++[x]):=by
 refine ⟨by rw [aj,aj,h.1];rfl,fun i w hw=>?_⟩
 by_cases hl:i<vs.length
 ·rw [aJ hl] at hw;rw [aJ (by rw [← h.1];exact hl)];exact h.2 i w hw
 ·rw [aE (by omega)] at hw;have e:i=vs.length:=by
   by_cases z:i - vs.length=0
   ·omega
   ·rw [bn (by show 1≤i - vs.length;omega)] at hw;cases hw
  rw [e,fu] at hw;cases hw;refine ⟨x,?_,hv⟩;rw [e,h.1,aE (ai _),fu];rfl
theorem AllAt.get {P:V→α→Prop} {xs:List α} (h:AllAt P vs xs) {x:α} (hx:xs[i]?=some x):∃v,vs[i]?=some v∧P v x:=by
 have hi:i<vs.length:=by rw [h.1];exact (ag.mp hx).1
 obtain ⟨y,h1,h2⟩:=h.2 i _ (aa hi);rw [hx] at h1;cases h1;exact ⟨_,aa hi,h2⟩
def QAt (H:Hp) (v:V) (p:Int×Int):Prop:=∃t,v=.ref t∧H t=some (.tup [.int p.1,.int p.2])
def NAt (D:List Addr) (H:Hp) (v:V) (ps:List (Int×Int)):Prop:=∃(l:Addr) (qs:List V),v=.ref l∧H l=some (.lst qs)∧AllAt (QAt H) qs ps∧l∉D
theorem QAt.same (e:Same H H') (v:V) (r:Int×Int):QAt H v r→QAt H' v r:=fun ⟨t,h1,h2⟩=>⟨t,h1,e _ _ h2⟩
theorem QAt.put (hd:H d=some (.lst ys)) (v:V) (r:Int×Int):QAt H v r→QAt (upd H d o) v r:=fun ⟨t,h1,h2⟩=>⟨t,h1,by rw [jL (fun z=>by rw [z,hd] at h2;cases h2)];exact h2⟩
variable {D:List Addr}
theorem NAt.same (e:Same H H') (v:V) (r:List (Int×Int)):NAt D H v r→NAt D H' v r:=fun ⟨l,qs,h1,h2,h3,h4⟩=>⟨l,qs,h1,e _ _ h2,h3.mono (QAt.same e),h4⟩
theorem NAt.put (hd:H d=some (.lst ys)) (hD:d∈D) (v:V) (r:List (Int×Int)):NAt D H v r→NAt D (upd H d o) v r:=fun ⟨l,qs,h1,h2,h3,h4⟩=>⟨l,qs,h1,by rw [jL (fun z=>h4 (by rw [z];exact hD))];exact h2,h3.mono (QAt.put hd),h4⟩
theorem NAt.less {D':List Addr} (hD:∀d∈D',d∈D) (v:V) (r:List (Int×Int)):NAt D H v r→NAt D' H v r:=fun ⟨l,qs,h1,h2,h3,h4⟩=>⟨l,qs,h1,h2,h3,fun z=>h4 (hD _ z)⟩
variable {f:Str} {fs:List (Str×V)}
theorem vM:(jF f v fs).lookup f=some v:=by rw [yE,if_pos rfl]
theorem jY {g:Str} (h:¬g=f):(jF f v fs).lookup g=fs.lookup g:=by rw [yE,if_neg h]
def lQ (fs:List (Str×V)) (v_name v_least v_crest v_berths v_water v_target:V):Prop:=fs.lookup ("name":Str)=some v_name∧fs.lookup ("least":Str)=some v_least∧fs.lookup ("crest":Str)=some v_crest∧fs.lookup ("berths":Str)=some v_berths∧fs.lookup ("water":Str)=some v_water∧fs.lookup ("target":Str)=some v_target
theorem DG (v_name v_least v_crest v_berths v_water v_target:V):lQ (jF "target" v_target (jF "water" v_water (jF "berths" v_berths (jF "crest" v_crest (jF "least" v_least (jF "name" v_name [])))))) v_name v_least v_crest v_berths v_water v_target:=by
 refine ⟨?_,?_,?_,?_,?_,?_⟩
 ·rw [jY (f:="target") (g:="name") (by decide +kernel),jY (f:="water") (g:="name") (by decide +kernel),jY (f:="berths") (g:="name") (by decide +kernel),jY (f:="crest") (g:="name") (by decide +kernel),jY (f:="least") (g:="name") (by decide +kernel),vM]
 ·rw [jY (f:="target") (g:="least") (by decide +kernel),jY (f:="water") (g:="least") (by decide +kernel),jY (f:="berths") (g:="least") (by decide +kernel),jY (f:="crest") (g:="least") (by decide +kernel),vM]
 ·rw [jY (f:="target") (g:="crest") (by decide +kernel),jY (f:="water") (g:="crest") (by decide +kernel),jY (f:="berths") (g:="crest") (by decide +kernel),vM]
 ·rw [jY (f:="target") (g:="berths") (by decide +kernel),jY (f:="water") (g:="berths") (by decide +kernel),vM]
 ·rw [jY (f:="target") (g:="water") (by decide +kernel),vM]
 ·rw [vM]
def iU (c:Addr):Sp:=fun vs H Q _=>∃(x dx:Addr) (v_name v_least v_crest v_berths v_water v_target:V),vs=[.ref x,v_name,v_least,v_crest,v_berths,v_water,v_target]∧H x=some (.ins c dx [])∧∀(H':Hp) (fs:List (Str×V)),Keep x H H'→H' x=some (.ins c dx fs)→lQ fs v_name v_least v_crest v_berths v_water v_target→Q .non H'
def RcAt (cR:Addr) (H:Hp) (x:Addr) (r:RC):Prop:=∃(dx:Addr) (fs:List (Str×V)),H x=some (.ins cR dx fs)∧lQ fs (.str r.name) (.int r.least) (.int r.crest) (.int r.berths) (.int r.water) (.int r.target)
variable {cR:Addr}
theorem RcAt.same {r:RC} (e:Same H H') (h:RcAt cR H x r):RcAt cR H' x r:=by
 obtain ⟨dx,fs,h1,h2⟩:=h;exact ⟨dx,fs,e _ _ h1,h2⟩
theorem yY {X:Cx} (K:W.Frag) (h:X.K=K:=by rfl):yA X (.type "list") (fun xs H Q=>∃p ys,xs=[.ref p]∧(SqL K H p ys∨SqT K H p ys)∧∀l,H l=none→Q (.ref l) (upd H l (.lst ys))):=by subst h;exact CJ
theorem j7 {X:Cx} (K:W.Frag) {e:Expr} {pos:Pos} {ta:TE} (he:PE X e ta) (hb:attributeBase e f X.env (eval e X.env)=eval e X.env) (h:X.K=K:=by rfl):PE X (.Attribute e f pos) (uU K ta f):=by subst h;exact wO he hb
def CanalFld (fs:List (Str×V)) (r l n:V):Prop:=fs.lookup ("reaches":Str)=some r∧fs.lookup ("locks":Str)=some l∧fs.lookup ("nights":Str)=some n∧∀m:Str,¬m="reaches"→¬m="locks"→¬m="nights"→fs.lookup m=none
theorem DH (r l n:V):CanalFld (jF "nights" n (jF "locks" l (jF "reaches" r []))) r l n:=by
 refine ⟨?_,?_,?_,fun m h1 h2 h3=>?_⟩
 ·rw [jY (f:="nights") (g:="reaches") (by decide +kernel),jY (f:="locks") (g:="reaches") (by decide +kernel),vM]
 ·rw [jY (f:="nights") (g:="locks") (by decide +kernel),vM]
 ·rw [vM]
 ·rw [jY h3,jY h2,jY h1];rfl
theorem CanalFld.no {r l n:V} (h:CanalFld fs r l n) (h1:¬m="reaches") (h2:¬m="locks") (h3:¬m="nights"):fs.lookup m=none:=h.2.2.2 m h1 h2 h3
def RcO (cR:Addr) (H:Hp) (v:V) (r:RC):Prop:=∃x,v=.ref x∧RcAt cR H x r
def LkO (cs:Kd→Addr) (H:Hp) (v:V) (l:LC):Prop:=∃x,v=.ref x∧LockAt cs H x l.kd (.str l.name) (.int l.high) (.int l.low) l.room l.extra
theorem RcO.same (e:Same H H') (v:V) (r:RC):RcO cR H v r→RcO cR H' v r:=fun ⟨x,h1,h2⟩=>⟨x,h1,h2.same e⟩
theorem LkO.same (e:Same H H') (v:V) (l:LC):LkO cs H v l→LkO cs H' v l:=fun ⟨x,h1,h2⟩=>⟨x,h1,h2.same e⟩
variable {y:Addr}
theorem RcO.keep (k:Keep y H H') (hy:H y=some (.lst ys)) (v:V) (r:RC):RcO cR H v r→RcO cR H' v r:=fun ⟨x,h1,dx,fs,h2,h3⟩=>⟨x,h1,dx,fs,k _ _ (qF h2 hy (fun z=>nomatch z)) h2,h3⟩
theorem LkO.keep (k:Keep y H H') (hy:H y=some (.lst ys)) (v:V) (l:LC):LkO cs H v l→LkO cs H' v l:=fun ⟨x,h1,dx,h2⟩=>⟨x,h1,dx,k _ _ (qF h2 hy (fun z=>nomatch z)) h2⟩
variable {c:Addr}
theorem RcO.keepI (k:Keep y H H') (hy:H y=some (.ins c d [])) (v:V) (r:RC):RcO cR H v r→RcO cR H' v r:=fun ⟨x,h1,dx,fs,h2,h3⟩=>⟨x,h1,dx,fs,k _ _ (fun z=>by rw [z,hy] at h2;cases h2;cases h3.1) h2,h3⟩
theorem LkO.keepI (k:Keep y H H') (hy:H y=some (.ins c d [])) (v:V) (l:LC):LkO cs H v l→LkO cs H' v l:=fun ⟨x,h1,dx,h2⟩=>⟨x,h1,dx,k _ _ (fun z=>by
 rw [z,hy] at h2;have e:=dU l.kd (.str l.name) (.int l.high) (.int l.low) (.int l.room) (.int l.extra);injection h2 with h2;injection h2 with h2 h3 h4
 rw [← h4] at e;cases e) h2⟩
theorem QAt.keep (k:Keep y H H') (hy:H y=some o) (ho:∀xs,o≠.tup xs) (v:V) (p:Int×Int):QAt H v p→QAt H' v p:=fun ⟨t,h1,h2⟩=>⟨t,h1,k _ _ (fun z=>by rw [z,hy] at h2;exact ho _ (az h2)) h2⟩
def CnAt (cs:Kd→Addr) (cR cN:Addr) (D:List Addr) (H:Hp) (x:Addr) (R:List RC) (L:List LC) (N:List (List (Int×Int))):Prop:=∃(dx rl ll nl:Addr) (fs:List (Str×V)) (rs ls ns:List V),H x=some (.ins cN dx fs)∧CanalFld fs (.ref rl) (.ref ll) (.ref nl)∧H rl=some (.lst rs)∧H ll=some (.lst ls)∧H nl=some (.lst ns)∧AllAt (RcO cR H) rs R∧AllAt (LkO cs H) ls L∧AllAt (NAt D H) ns N∧rl∉D∧ll∉D∧nl∉D
variable {cN:Addr} {R:List RC} {L:List LC} {N:List (List (Int×Int))}
theorem CnAt.same (e:Same H H') (h:CnAt cs cR cN D H x R L N):CnAt cs cR cN D H' x R L N:=by
 obtain ⟨dx,rl,ll,nl,fs,rs,ls,ns,h1,h2,h3,h4,h5,h6,h7,h8,h9⟩:=h;exact ⟨dx,rl,ll,nl,fs,rs,ls,ns,e _ _ h1,h2,e _ _ h3,e _ _ h4,e _ _ h5,h6.mono (RcO.same e),h7.mono (LkO.same e),h8.mono (NAt.same e),h9⟩
def IU (H:Hp) (nv:V) (N:List (List (Int×Int))):Prop:=(nv=.non∧N=[])∨∃(nl:Addr) (ns:List V),nv=.ref nl∧H nl=some (.lst ns)∧AllAt (NAt [] H) ns N∧ns.length≤100
def iV (cs:Kd→Addr) (cR cN:Addr):Sp:=fun vs H Q _=>∃(x dx rl ll:Addr) (nv:V) (rs ls:List V) (R:List RC) (L:List LC) (N:List (List (Int×Int))),vs=[.ref x,.ref rl,.ref ll,nv]∧H x=some (.ins cN dx [])∧H rl=some (.lst rs)∧H ll=some (.lst ls)∧AllAt (RcO cR H) rs R∧AllAt (LkO cs H) ls L∧IU H nv N∧
 ∀H',Keep x H H'→(∀D:List Addr,(∀d∈D,H d≠none)→CnAt cs cR cN D H' x R L N)→Q .non H'
def QV (cs:Kd→Addr) (cR cN:Addr) (F:Nat→Nat→Int):Sp:=fun vs H Q _=>∃(x:Addr) (D:List Addr) (R:List RC) (L:List LC) (N:List (List (Int×Int))),vs=[.ref x]∧CnAt cs cR cN D H x R L N∧Q (.int (F R.length L.length)) H
def zG (sea:Int) (r:RC):Int×Int:=(r.crest,if r.target = -1 then sea else r.target)
def y7 (n m:Nat):Int:=(n:Int)+2*(m:Int)
def uV (n m:Nat):Int:=(n:Int)+2*(m:Int)+1
def eP (n m:Nat):Int:=(n:Int)+2*(m:Int)+1+1
def rN (cs:Kd→Addr) (cR cN:Addr):Sp:=fun vs H Q _=>∃(x:Addr) (D:List Addr) (R:List RC) (L:List LC) (N:List (List (Int×Int))),vs=[.ref x]∧CnAt cs cR cN D H x R L N∧R.length≤100∧
 ∀(l:Addr) (ws:List V) (H':Hp),Same H H'→H l=none→H' l=some (.lst ws)→AllAt (QAt H') ws (R.map (zG (y7 R.length L.length)))→Q (.ref l) H'
structure Drawn (R:List RC) (L:List LC) (N:List (List (Int×Int))):Prop where
 r8:R.length≤8
 r1:1≤R.length
 l8:L.length≤8
 n6:N.length≤6
 good:∀(i:Nat) (r:RC),R[i]?=some r→r.good i
 lock:∀(i:Nat) (l:LC),L[i]?=some l→l.good R.length
 night:∀p∈N,p.length=R.length
variable {o':HO}
theorem bG {dx:Addr} (nx:H x=none) (ndx:H dx=none):Same H (upd (upd H dx o) x o'):=fun b u e=>by rw [jL (kE e nx),jL (kE e ndx)];exact e
theorem bD {H1 H2:Hp} (nx:H x=none) (u:Same H H1) (k:Keep x H1 H2):Same H H2:=fun b o e=>k b o (kE e nx) (u b o e)
def mP (sea:Nat) (r:RC):Int×Nat:=(r.crest,if r.target = -1 then sea else r.target.toNat)
def qY (R:List RC) (m:Nat):List (Int×Nat):=R.map (mP (R.length+2*m))
def qZ (R:List RC) (m:Nat):List Int:=R.map (·.water)++List.replicate (2*m+2) 0
theorem i3 (R:List RC) (m:Nat):(qY R m).length=R.length:=ad _
theorem dB (R:List RC) (m:Nat):(qZ R m).length=R.length+2*m+2:=by
 unfold qZ;rw [aj,ad,aZ];omega
def JW (R:List RC):Prop:=∀(i:Nat) (r:RC),R[i]?=some r→-1≤r.target∧r.target<(i:Int)
theorem oX {m:Nat} (h:JW R):eX (qY R m).length (qY R m):=by
 intro i c t hi;rw [i3];unfold qY at hi;rw [ax] at hi;cases hr:R[i]? with
 |none=>rw [hr] at hi;cases hi
 |some r =>
  rw [hr] at hi;have e:mP (R.length+2*m) r=(c,t):=az hi;obtain ⟨h1,h2⟩:=h i r hr;unfold mP at e;have e2:(if r.target = -1 then R.length+2*m else r.target.toNat)=t:=bw Prod.snd e
  by_cases ht:r.target = -1
  ·rw [if_pos ht] at e2;omega
  ·rw [if_neg ht] at e2;omega
theorem EL {ws:List V} {m:Nat} (hT:JW R) (h:AllAt (QAt H) ws (R.map (zG (y7 R.length m)))):WeirsAt K H ws (qY R m) (qZ R m).length:=by
 refine ⟨by rw [h.1,ad,i3],fun i v hv=>?_⟩;obtain ⟨p,hp,t,rfl,ht⟩:=h.2 i v hv;rw [ax] at hp;cases hr:R[i]? with
 |none=>rw [hr] at hp;cases hp
 |some r =>
  rw [hr] at hp;cases hp;obtain ⟨h1,h2⟩:=hT i r hr;have hi:i<R.length:=(ag.mp hr).1;refine ⟨t,r.crest,if r.target = -1 then R.length+2*m else r.target.toNat,rfl,?_,?_,?_⟩
  ·unfold qY;rw [ax,hr];rfl
  ·have e:(((if r.target = -1 then R.length+2*m else r.target.toNat):Nat):Int)=(zG (y7 R.length m) r).2:=by
    unfold zG y7
    by_cases ht:r.target = -1
    ·rw [if_pos ht,if_pos ht];omega
    ·rw [if_neg ht,if_neg ht];omega
   rw [e];exact SqT.of ht
  ·rw [dB];split<;>omega
def lI (cs:Kd→Addr) (cR cN:Addr):Sp:=fun vs H Q _=>∃(x:Addr) (D:List Addr) (R:List RC) (L:List LC) (N:List (List (Int×Int))),vs=[.ref x]∧CnAt cs cR cN D H x R L N∧R.length≤100∧L.length≤100∧JW R∧
 ∀(r:Addr) (H':Hp) (gs:List Int),Same H H'→H r=none→H' r=some (.tup ((y6 (qZ R L.length) (qY R L.length) gs).map V.int))→Spl (qY R L.length) (qZ R L.length) gs→Q (.ref r) H'
theorem o6 (h:Drawn R L N):JW R:=fun i r hr=>by
 obtain ⟨g1,g2,g3,g4,g5,g6,g7,g8,g9⟩:=h.good i r hr;exact ⟨g8,g9⟩
def JF (K:W.Frag):Sp:=fun vs H Q _=>∃(s:Addr) (ns:List Int) (k:Int) (m:Int),vs=[.ref s,.int k,.int m]∧SqL K H s (ns.map V.int)∧ns.length≤63∧0≤k∧k≤100000∧1≤m∧∀z:Int,0≤z→z<m→Q (.int z) H
def tR (K:W.Frag):Sp:=fun vs H Q _=>∃(s:Addr) (ns:List Int),vs=[.ref s]∧SqL K H s (ns.map V.int)∧ns.length≤63∧∀z:Int,1≤z→z≤10000000000→Q (.int z) H
theorem IF {k:Int} (h0:0≤k) (h1:k≤100000):0≤k*k∧k*k≤10000000000:=by
 refine ⟨Int.mul_nonneg h0 h0,?_⟩;have:=Int.mul_le_mul h1 h1 h0 (by decide:(0:Int)≤100000);omega
def pS (K:W.Frag):Sp:=fun vs H Q _=>∃(s:Addr) (ns:List Int) (k n:Nat) (u:Int),vs=[.ref s,.int (k:Int),.int (n:Int),.int u]∧SqL K H s (ns.map V.int)∧ns.length≤63∧k<6∧n≤8∧1≤u∧u≤10000000000∧∀(l:Addr) (p:List (Int×Int)) (H':Hp),p.length=n→Same H H'→H l=none→NAt [] H' (.ref l) p→Q (.ref l) H'
theorem mO (zs:List Int) {i:Int} (h0:0≤i) (h:i<(zs.length:Int)):∃z∈zs,qU (zs.map V.int) i=some (.int z):=by
 have hl:i.toNat<zs.length:=by omega
 have:=qN (xs:=zs.map V.int) (j:=i.toNat) (v:=.int zs[i.toNat]) (by rw [ax,aa hl];rfl);rw [show ((i.toNat:Nat):Int)=i by omega] at this;exact ⟨_,cb hl,this⟩
theorem eA {a u:Int} {m:Int} (h0:0≤a) (h1:a≤m) (u0:1≤u) (u1:u≤10000000000) (hm:0≤m):0≤a*u∧a*u≤m*10000000000:=by
 refine ⟨Int.mul_nonneg h0 (by omega),?_⟩;exact Int.mul_le_mul h1 u1 (by omega) hm
def vX (b:Bool):Str:=if b then "up" else "down"
def vB (L:List LC) (p:Nat×Bool):Int×Int:=match L[p.1]? with
 |some l=>if p.2 then (l.low,l.high) else (l.high,l.low)
 |none=>(0,0)
theorem JD {l:LC} (h:L[k]?=some l):vB L (k,true)=(l.low,l.high):=by unfold vB;rw [h];rfl
theorem JA {l:LC} (h:L[k]?=some l):vB L (k,false)=(l.high,l.low):=by unfold vB;rw [h];rfl
def PAt (H:Hp) (v:V) (p:Nat×Bool):Prop:=∃t,v=.ref t∧H t=some (.tup [.int (p.1:Int),.str (vX p.2)])
theorem PAt.same (e:Same H H') (v:V) (p:Nat×Bool):PAt H v p→PAt H' v p:=fun ⟨t,h1,h2⟩=>⟨t,h1,e _ _ h2⟩
theorem PAt.put (hd:H d=some (.lst ys)) (v:V) (p:Nat×Bool):PAt H v p→PAt (upd H d o) v p:=fun ⟨t,h1,h2⟩=>⟨t,h1,by rw [jL (fun z=>by rw [z,hd] at h2;cases h2)];exact h2⟩
def qC (L:List LC) (s:Int) (ps:List (Nat×Bool)):List Int:=s::ps.map fun p=>(vB L p).2
def vV (L:List LC) (s:Int) (ps:List (Nat×Bool)):Prop:=∀(j:Nat) (p:Nat×Bool),ps[j]?=some p→(qC L s ps)[j]?=some (vB L p).1
theorem dH (L:List LC) (s:Int) (ps:List (Nat×Bool)) (p:Nat×Bool):qC L s (ps++[p])=qC L s ps++[(vB L p).2]:=by unfold qC;rw [aL];rfl
theorem QK (L:List LC) (s:Int) (ps:List (Nat×Bool)):(qC L s ps).length=ps.length+1:=by unfold qC;rw [bq,ad]
theorem ED (L:List LC) (s:Int) (ps:List (Nat×Bool)) (i:Nat):(qC L s ps).take (i+1)=qC L s (ps.take i):=by unfold qC;rw [take_succ_cons,map_take]
theorem tJ {s:Int} {ps:List (Nat×Bool)} {j:Nat} (h:j<ps.length+1):(qC L s ps)[j]?=(qC L s (ps.take j))[j]?:=by
 rw [← ED,List.getElem?_take,if_pos (by omega)]
variable {p:Nat×Bool}
theorem pI (d:Drawn R L N) (h:p.1<L.length):∃l,L[p.1]?=some l∧l.good R.length:=⟨_,aa h,d.lock _ _ (aa h)⟩
def JT (L:List LC) (r:Int) (k:Nat):List (Nat×Bool):=match L[k]? with
 |some l=>(if l.low=r then [(k,true)] else [])++(if l.high=r then [(k,false)] else [])
 |none=>[]
def JP (L:List LC) (r:Int) (n:Nat):List (Nat×Bool):=(List.range n).flatMap (JT L r)
def dQ (L:List LC) (r:Int):List (Nat×Bool):=JP L r L.length
theorem iS (L:List LC) (r:Int) (n:Nat):JP L r (n+1)=JP L r n++JT L r n:=by unfold JP;rw [range_succ,flatMap_append];simp
variable {r:Int}
theorem turnK_mem:p∈JT L r k↔p.1=k∧k<L.length∧(vB L p).1=r:=by
 unfold JT
 by_cases hk:k<L.length
 ·rw [aa hk];show p∈(if L[k].low=r then [(k,true)] else [])++(if L[k].high=r then [(k,false)] else [])↔_;rw [bc];have e1:=JD (aa hk);have e2:=JA (aa hk);obtain ⟨pk,pb⟩:=p;constructor
  ·rintro (h|h)
   ·split at h
    ·cases aX.mp h;rw [e1];exact ⟨rfl,hk,by assumption⟩
    ·cases h
   ·split at h
    ·cases aX.mp h;rw [e2];exact ⟨rfl,hk,by assumption⟩
    ·cases h
  ·rintro ⟨h1,_,h3⟩;have h1:pk=k:=h1;subst h1;cases pb
   ·rw [e2] at h3;exact .inr (by rw [if_pos h3];simp)
   ·rw [e1] at h3;exact .inl (by rw [if_pos h3];simp)
 ·rw [bn (by omega)];constructor
  ·intro h;cases h
  ·intro h;omega
theorem turns_mem:p∈dQ L r↔p.1<L.length∧(vB L p).1=r:=by
 unfold dQ JP;rw [mem_flatMap];constructor
 ·rintro ⟨k,hk,h⟩;obtain ⟨h1,h2,h3⟩:=turnK_mem.mp h;exact ⟨by omega,h3⟩
 ·rintro ⟨h1,h2⟩;exact ⟨p.1,mem_range.mpr h1,turnK_mem.mpr ⟨rfl,h1,h2⟩⟩
theorem DN (L:List LC) (r:Int) (k:Nat):(JT L r k).length≤2:=by
 unfold JT
 split
 ·rw [aj];split<;>split<;>simp
 ·exact aG _
theorem CL (L:List LC) (r:Int) (n:Nat):(JP L r n).length≤2*n:=by
 induction n with
 |zero=>exact ai _
 |succ n ih=>rw [iS,aj];have:=DN L r n;omega
def sN (cs:Kd→Addr) (cR cN:Addr):Sp:=fun vs H Q _=>∃(x:Addr) (r:Int) (D:List Addr) (R:List RC) (L:List LC) (N:List (List (Int×Int))),vs=[.ref x,.int r]∧CnAt cs cR cN D H x R L N∧L.length≤8∧∀(l:Addr) (us:List V) (H':Hp),Same H H'→H l=none→H' l=some (.lst us)→AllAt (PAt H') us (dQ L r)→Q (.ref l) H'
def tU (cs:Kd→Addr):Sp:=fun vs H Q _=>∃(y:Addr) (l:LC) (b:Bool),vs=[.ref y,.str (vX b)]∧LkO cs H (.ref y) l∧∀(t:Addr) (H':Hp),Same H H'→H t=none→H' t=some (.tup [.int (if b then l.low else l.high),.int (if b then l.high else l.low)])→Q (.ref t) H'
theorem uD (b:Bool):decide (V.str (vX b)=V.str "up")=b:=by
 cases b
 ·exact aK fun h=>absurd (V.str.inj h) (by decide +kernel)
 ·exact aO rfl
theorem atI_last (hn:xs.length=n+1) (h:xs[n]?=some v):qU xs (-1)=some v:=by
 have e:yU xs.length (-1)=some n:=by
  unfold yU;rw [if_neg (by decide),if_pos (by omega)]
  congr 1
  omega
 unfold qU;rw [e];exact h
def lJ (K:W.Frag) (cs:Kd→Addr) (cR cN eL:Addr):Sp:=fun vs H Q E=>∃(x st:Addr) (s:Int) (us:List V) (ps:List (Nat×Bool)) (D:List Addr) (R:List RC) (L:List LC) (N:List (List (Int×Int))),vs=[.ref x,.int s,.ref st]∧CnAt cs cR cN D H x R L N∧H st=some (.tup us)∧AllAt (PAt H) us ps∧(∀p∈ps,p.1<L.length)∧ps.length≤100∧
 (vV L s ps→∀(r:Addr) (H':Hp),Same H H'→H r=none→H' r=some (.lst ((qC L s ps).map V.int))→Q (.ref r) H')∧(¬vV L s ps→∀H',Same H H'→E (.ref eL) none H')
theorem rY {s:Int} {ps:List (Nat×Bool)} {a:Int} (h:(qC L s ps)[ps.length]?=some a):vV L s (ps++[p])↔vV L s ps∧(vB L p).1=a:=by
 have e:∀j,j≤ps.length→(qC L s (ps++[p]))[j]?=(qC L s ps)[j]?:=fun j hj=>by
  rw [dH,aJ (by rw [QK];omega)]
 constructor
 ·intro ok;refine ⟨fun j q hq=>?_,?_⟩
  ·have hj:j<ps.length:=(ag.mp hq).1;have:=ok j q (by rw [aJ hj];exact hq)
   rwa [e j (by omega)] at this
  ·have:=ok ps.length p (by rw [aE (ai _),fu];rfl);rw [e _ (ai _),h] at this;exact (az this).symm
 ·rintro ⟨ok,ha⟩ j q hq
  by_cases hj:j<ps.length
  ·rw [aJ hj] at hq;rw [e j (by omega)];exact ok j q hq
  ·rw [aE (by omega)] at hq;have hz:j - ps.length=0:=by
    have:=(ag.mp hq).1;rw [bf] at this;omega
   rw [hz] at hq;cases hq;rw [show j=ps.length by omega,e _ (ai _),h,ha]
theorem pF (zs:List Int):(zs.map V.int).all qG=true:=by
 rw [br];intro x hx;obtain ⟨z,_,rfl⟩:=mem_map.mp hx;rfl
def lD (K:W.Frag) (cs:Kd→Addr) (cR cN:Addr):Sp:=fun vs H Q _=>∃(x st:Addr) (s:Int) (us:List V) (ps:List (Nat×Bool)) (D:List Addr) (R:List RC) (L:List LC) (N:List (List (Int×Int))),vs=[.ref x,.int s,.ref st]∧CnAt cs cR cN D H x R L N∧H st=some (.tup us)∧AllAt (PAt H) us ps∧(∀p∈ps,p.1<L.length)∧ps.length≤100∧vV L s ps∧
 ∀(r:Addr) (H':Hp),Same H H'→H r=none→H' r=some (.lst ((qC L s ps).map V.int))→Q (.ref r) H'
theorem C9 {eL:Addr}:∀vs H Q E,lD K cs cR cN vs H Q E→lJ K cs cR cN eL vs H Q (fun _ _ _=>False):=by
 rintro vs H Q E ⟨x,st,s,us,ps,D,R,L,N,e,h1,h2,h3,h4,h5,h6,q⟩;exact ⟨x,st,s,us,ps,D,R,L,N,e,h1,h2,h3,h4,h5,fun _=>q,fun hno=>absurd h6 hno⟩
abbrev jR:=Int×List (Nat×Bool)
def WyAt (H:Hp) (v:V) (y:jR):Prop:=∃(t st:Addr) (us:List V),v=.ref t∧H t=some (.tup [.int y.1,.ref st])∧H st=some (.tup us)∧AllAt (PAt H) us y.2
theorem WyAt.same (e:Same H H') (v:V) (y:jR):WyAt H v y→WyAt H' v y:=fun ⟨t,st,us,h1,h2,h3,h4⟩=>⟨t,st,us,h1,e _ _ h2,e _ _ h3,h4.mono (PAt.same e)⟩
structure WyOk (L:List LC) (y:jR):Prop where
 lt:∀p∈y.2,p.1<L.length
 ok:vV L y.1 y.2
 le:y.2.length≤8
def QS (L:List LC) (y:jR) (p:Nat):Int:=if p=y.2.length then -1 else (qC L y.1 y.2).getD p 0
def tS:Sp:=fun vs H Q _=>∃(t:Addr) (y:jR) (p:Int),vs=[.ref t,.int p]∧WyAt H (.ref t) y∧Q (.int ((y.2.length:Int) - p)) H
def pV (cs:Kd→Addr) (cR cN:Addr):Sp:=fun vs H Q _=>∃(x t:Addr) (y:jR) (p:Nat) (D:List Addr) (R:List RC) (L:List LC) (N:List (List (Int×Int))),vs=[.ref x,.ref t,.int (p:Int)]∧CnAt cs cR cN D H x R L N∧WyAt H (.ref t) y∧WyOk L y∧p≤y.2.length∧∀H',Same H H'→Q (.int (QS L y p)) H'
def StAt (H:Hp) (t:Addr) (d:Int) (ms:List Int) (pl:List Nat):Prop:=∃wt pt:Addr,H t=some (.tup [.int d,.ref wt,.ref pt])∧H wt=some (.tup (ms.map V.int))∧H pt=some (.tup (pl.map fun (p:Nat)=>V.int (p:Int)))
variable {t:Addr} {pl:List Nat}
theorem StAt.same {d:Int} (e:Same H H') (h:StAt H t d ms pl):StAt H' t d ms pl:=by
 obtain ⟨wt,pt,h1,h2,h3⟩:=h;exact ⟨wt,pt,e _ _ h1,e _ _ h2,e _ _ h3⟩
structure Fleet (L:List LC) (ys:List jR) (pl:List Nat):Prop where
 len:pl.length=ys.length
 n10:ys.length≤10
 ok:∀y∈ys,WyOk L y
 le:∀(i:Nat) (y:jR) (p:Nat),ys[i]?=some y→pl[i]?=some p→p≤y.2.length
def y8 (L:List LC) (ys:List jR) (pl:List Nat):List Int:=(List.range ys.length).map fun i=>QS L (ys.getD i (0,[])) (pl.getD i 0)
def sR (cs:Kd→Addr) (cR cN:Addr):Sp:=fun vs H Q _=>∃(x wl st:Addr) (r:Int) (us:List V) (ys:List jR) (d:Int) (ms:List Int) (pl:List Nat) (D:List Addr) (R:List RC) (L:List LC) (N:List (List (Int×Int))),vs=[.ref x,.ref wl,.ref st,.int r]∧CnAt cs cR cN D H x R L N∧H wl=some (.lst us)∧AllAt (WyAt H) us ys∧StAt H st d ms pl∧Fleet L ys pl∧∀H',Same H H'→Q (.int (((y8 L ys pl).countP fun z=>decide (z=r):Nat):Int)) H'
def sU (cs:Kd→Addr) (cR cN:Addr):Sp:=fun vs H Q _=>∃(x wl:Addr) (us:List V) (D:List Addr) (R:List RC) (L:List LC) (N:List (List (Int×Int))),vs=[.ref x,.ref wl]∧CnAt cs cR cN D H x R L N∧H wl=some (.lst us)∧us.length≤100∧R.length≤100∧L.length≤100∧JW R∧
 ∀(t wt zt:Addr) (H':Hp) (gs:List Int),Same H H'→H' t=some (.tup [.int 0,.ref wt,.ref zt])→H' wt=some (.tup ((y6 (qZ R L.length) (qY R L.length) gs).map V.int))→Spl (qY R L.length) (qZ R L.length) gs→H' zt=some (.tup (List.replicate us.length (.int 0)))→Q (.ref t) H'
def EndAt (L:List LC) (r:Int):Prop:=∃p:Nat×Bool,p.1<L.length∧(vB L p).1=r
theorem EndAt.turns (h:EndAt L r):0<(dQ L r).length:=by
 obtain ⟨p,h1,h2⟩:=h;exact length_pos_of_mem (turns_mem.mpr ⟨h1,h2⟩)
theorem EndAt.next (h:p.1<L.length):EndAt L (vB L p).2:=by
 obtain ⟨pk,pb⟩:=p;have e:=aa h;cases pb
 ·exact ⟨(pk,true),h,by rw [JD e,JA e]⟩
 ·exact ⟨(pk,false),h,by rw [JD e,JA e]⟩
theorem FY (L:List LC) (s:Int):vV L s []:=fun j p hp=>by cases hp
def mY (K:W.Frag) (H:Hp) (v:V) (nm:Str):Prop:=∃(x C dx:Addr) (fs:List (Str×V)),v=.ref x∧H x=some (.ins C dx fs)∧Cls K C∧NoAttr K C "name"∧fs.lookup ("name":Str)=some (.str nm)
def FirstAt (zs:List Str) (nm:Str) (i:Nat):Prop:=zs[i]?=some nm∧∀j:Nat,j<i→zs[j]?≠some nm
def zL (zs:List Str) (nm:Str):Prop:=∀i:Nat,zs[i]?≠some nm
variable {zs:List Str} {nm:Str}
theorem FirstAt.uniq {j:Nat} (h:FirstAt zs nm i) (h':FirstAt zs nm j):i=j:=by
 rcases Nat.lt_trichotomy i j with c|c|c
 ·exact absurd h.1 (h'.2 i c)
 ·exact c
 ·exact absurd h'.1 (h.2 j c)
theorem sC (zs:List Str) (nm:Str):(∃i,FirstAt zs nm i)∨zL zs nm:=by
 have key:∀n:Nat,(∃i,FirstAt zs nm i)∨∀j:Nat,j<n→zs[j]?≠some nm:=by
  intro n
  induction n with
  |zero=>exact .inr fun j hj=>absurd hj (cm j)
  |succ n ih =>
   rcases ih with h|h
   ·exact .inl h
   ·by_cases e:zs[n]?=some nm
    ·exact .inl ⟨n,e,h⟩
    ·refine .inr fun j hj=>?_
     by_cases c:j=n
     ·rw [c];exact e
     ·exact h j (by omega)
 rcases key zs.length with h|h
 ·exact .inl h
 ·refine .inr fun i hi=>h i ?_ hi
  exact (ag.mp hi).1
def lR (K:W.Frag) (eU:Addr):Sp:=fun vs H Q E=>∃(nm:Str) (l:Addr) (us:List V) (zs:List Str),vs=[.str nm,.ref l]∧H l=some (.lst us)∧AllAt (mY K H) us zs∧us.length≤100∧(∀i:Nat,FirstAt zs nm i→∀H',Same H H'→Q (.int (i:Int)) H')∧(zL zs nm→∀H',Same H H'→E (.ref eU) none H')
def d9 (w:Nat) (R:List RC) (L:List LC):List Str:=if w=0 then R.map (·.name) else L.map (·.name)
def QR (cs:Kd→Addr) (cR cN eU:Addr) (w:Nat):Sp:=fun vs H Q E=>∃(x:Addr) (D:List Addr) (R:List RC) (L:List LC) (N:List (List (Int×Int))) (nm:Str),vs=[.ref x,.str nm]∧CnAt cs cR cN D H x R L N∧R.length≤100∧L.length≤100∧(∀i:Nat,FirstAt (d9 w R L) nm i→∀H',Same H H'→Q (.int (i:Int)) H')∧(zL (d9 w R L) nm→∀H',Same H H'→E (.ref eU) none H')
theorem CN (c:Cls K cR) (n:NoAttr K cR "name") (h:AllAt (RcO cR H) rs R):AllAt (mY K H) rs (R.map (·.name)):=by
 refine ⟨by rw [h.1,ad],fun i v hv=>?_⟩;obtain ⟨r,hr,x,rfl,dx,fs,hx,hf⟩:=h.2 i v hv;exact ⟨r.name,by rw [ax,hr];rfl,x,cR,dx,fs,rfl,hx,c,n,hf.1⟩
theorem C4 (c:∀kd,Cls K (cs kd)) (n:∀kd,NoAttr K (cs kd) "name") (h:AllAt (LkO cs H) rs L):AllAt (mY K H) rs (L.map (·.name)):=by
 refine ⟨by rw [h.1,ad],fun i v hv=>?_⟩;obtain ⟨l,hl,x,rfl,dx,hx⟩:=h.2 i v hv;exact ⟨l.name,by rw [ax,hl];rfl,x,_,dx,_,rfl,hx,c _,n _,dU ..⟩
theorem cY (h:n≤1000):n≤sizeLine:=fm (vL h)
def SAt (H:Hp) (v:V) (p:Str×Bool):Prop:=∃t,v=.ref t∧H t=some (.tup [.str p.1,.str (vX p.2)])
theorem SAt.same (e:Same H H') (v:V) (p:Str×Bool):SAt H v p→SAt H' v p:=fun ⟨t,h1,h2⟩=>⟨t,h1,e _ _ h2⟩
theorem SAt.put (hd:H d=some (.lst ys)) (v:V) (p:Str×Bool):SAt H v p→SAt (upd H d o) v p:=fun ⟨t,h1,h2⟩=>⟨t,h1,by rw [jL (fun z=>by rw [z,hd] at h2;cases h2)];exact h2⟩
structure CoE where
 name:Str
 start:Str
 steps:List (Str×Bool)
def CoAt (H:Hp) (t:Addr) (e:CoE):Prop:=∃(st:Addr) (us:List V),H t=some (.tup [.str "come",.str e.name,.str e.start,.ref st])∧H st=some (.tup us)∧AllAt (SAt H) us e.steps
variable {e:CoE}
theorem CoAt.same (s:Same H H') (h:CoAt H t e):CoAt H' t e:=by
 obtain ⟨st,us,h1,h2,h3⟩:=h;exact ⟨st,us,s _ _ h1,s _ _ h2,h3.mono (SAt.same s)⟩
def kS:List Str→Str→Option Nat
 |[],_=>none
 |z::zs,n=>if z=n then some 0 else (kS zs n).map (· + 1)
theorem Z8:∀{zs:List Str} {n:Str} {i:Nat},kS zs n=some i→FirstAt zs n i
 |[],n,i,h=>by cases h
 |z::zs,n,i,h=>by
  unfold kS at h
  split at h
  ·rename_i e;cases h;exact ⟨by rw [e];rfl,fun j hj=>absurd hj (cm j)⟩
  ·rename_i ne;obtain ⟨k,hk,rfl⟩:=bb.mp h;obtain ⟨h1,h2⟩:=Z8 hk;refine ⟨h1,fun j hj=>?_⟩;cases j with
   |zero=>exact fun e=>ne (az e)
   |succ j=>exact h2 j (by omega)
theorem iX:∀{zs:List Str} {n:Str},kS zs n=none→zL zs n
 |[],n,_=>fun i h=>by cases h
 |z::zs,n,h=>by
  unfold kS at h
  split at h
  ·cases h
  ·rename_i ne;have h':=Option.map_eq_none_iff.mp h;intro i hi;cases i with
   |zero=>exact ne (az hi)
   |succ i=>exact iX h' i hi
theorem dG {n:Str} (h:FirstAt zs n i):kS zs n=some i:=by
 cases e:kS zs n with
 |none=>exact absurd h.1 (iX e i)
 |some j=>rw [(Z8 e).uniq h]
theorem bC {n:Str} (h:zL zs n):kS zs n=none:=by
 cases e:kS zs n with
 |none=>rfl
 |some j=>exact absurd (Z8 e).1 (h j)
theorem rC {n:Str} (h:kS zs n=some i):i<zs.length:=(ag.mp (Z8 h).1).1
def qX (zs:List Str):List (Str×Bool)→Option (List (Nat×Bool))
 |[]=>some []
 | (n,b)::r=>match kS zs n with
  |none=>none
  |some k=>(qX zs r).map ((k,b) :: ·)
theorem oZ {zs:List Str} {p:Str×Bool} {k:Nat} (hk:kS zs p.1=some k):∀{l:List (Str×Bool)} {ps:List (Nat×Bool)},qX zs l=some ps→qX zs (l++[p])=some (ps++[(k,p.2)])
 |[],ps,h=>by
  cases h;show (match kS zs p.1 with|none=>none|some k=>(qX zs []).map ((k,p.2) :: ·))=_;rw [hk];rfl
 | (n,b)::r,ps,h=>by
  unfold qX at h;show (match kS zs n with|none=>none|some k=>(qX zs (r++[p])).map ((k,b) :: ·))=_;cases hn:kS zs n with
  |none=>rw [hn] at h;cases h
  |some j =>
   rw [hn] at h;obtain ⟨qs,hq,rfl⟩:=bb.mp h;show (qX zs (r++[p])).map ((j,b) :: ·)=_;rw [oZ hk hq];rfl
theorem i0 {zs:List Str} {p:Str×Bool} (hp:kS zs p.1=none):∀{l:List (Str×Bool)},p∈l→qX zs l=none
 | (n,b)::r,h=>by
  unfold qX
  rcases am.mp h with e|h
  ·cases e;have hp:kS zs n=none:=hp;rw [hp]
  ·cases kS zs n with
   |none=>rfl
   |some k=>show (qX zs r).map _=none;rw [i0 hp h];rfl
theorem ZD {zs:List Str}:∀{l:List (Str×Bool)} {ps:List (Nat×Bool)},qX zs l=some ps→ps.length=l.length∧∀p∈ps,p.1<zs.length
 |[],ps,h=>by cases h;exact ⟨rfl,fun p hp=>by cases hp⟩
 | (n,b)::r,ps,h=>by
  unfold qX at h;cases hn:kS zs n with
  |none=>rw [hn] at h;cases h
  |some k =>
   rw [hn] at h;obtain ⟨qs,hq,rfl⟩:=bb.mp h;obtain ⟨h1,h2⟩:=ZD hq;refine ⟨by rw [bq,h1];rfl,fun p hp=>?_⟩
   rcases am.mp hp with rfl|hp
   ·exact rC hn
   ·exact h2 p hp
def qK (R:List RC) (L:List LC) (e:CoE):Option jR:=match kS (R.map (·.name)) e.start with
 |none=>none
 |some a=>(qX (L.map (·.name)) e.steps).map fun ps=>((a:Int),ps)
def lB (cs:Kd→Addr) (cR cN eU:Addr):Sp:=fun vs H Q E=>∃(x t:Addr) (e:CoE) (D:List Addr) (R:List RC) (L:List LC) (N:List (List (Int×Int))),vs=[.ref x,.ref t]∧CnAt cs cR cN D H x R L N∧R.length≤100∧L.length≤100∧CoAt H t e∧e.steps.length≤100∧
 (∀y,qK R L e=some y→∀(w:Addr) (H':Hp),Same H H'→H w=none→WyAt H' (.ref w) y→Q (.ref w) H')∧(qK R L e=none→∀H',Same H H'→E (.ref eU) none H')
def BkFld (fs:List (Str×V)) (v0 v1 v2 v3 v4 v5 v6:V):Prop:=fs.lookup ("kept_canal":Str)=some v0∧fs.lookup ("kept_names":Str)=some v1∧fs.lookup ("kept_ways":Str)=some v2∧fs.lookup ("kept_state":Str)=some v3∧fs.lookup ("kept_pours":Str)=some v4∧fs.lookup ("kept_words":Str)=some v5∧fs.lookup ("kept_entries":Str)=some v6∧∀m:Str,¬m="kept_canal"→¬m="kept_names"→¬m="kept_ways"→¬m="kept_state"→¬m="kept_pours"→¬m="kept_words"→¬m="kept_entries"→fs.lookup m=none
theorem GS (v0 v1 v2 v3 v4 v5 v6:V):BkFld (jF "kept_entries" v6 (jF "kept_words" v5 (jF "kept_pours" v4 (jF "kept_state" v3 (jF "kept_ways" v2 (jF "kept_names" v1 (jF "kept_canal" v0 []))))))) v0 v1 v2 v3 v4 v5 v6:=by
 refine ⟨?_,?_,?_,?_,?_,?_,?_,fun m n0 n1 n2 n3 n4 n5 n6=>?_⟩
 ·rw [jY (f:="kept_entries") (g:="kept_canal") (by decide +kernel),jY (f:="kept_words") (g:="kept_canal") (by decide +kernel),jY (f:="kept_pours") (g:="kept_canal") (by decide +kernel),jY (f:="kept_state") (g:="kept_canal") (by decide +kernel),jY (f:="kept_ways") (g:="kept_canal") (by decide +kernel),jY (f:="kept_names") (g:="kept_canal") (by decide +kernel),vM]
 ·rw [jY (f:="kept_entries") (g:="kept_names") (by decide +kernel),jY (f:="kept_words") (g:="kept_names") (by decide +kernel),jY (f:="kept_pours") (g:="kept_names") (by decide +kernel),jY (f:="kept_state") (g:="kept_names") (by decide +kernel),jY (f:="kept_ways") (g:="kept_names") (by decide +kernel),vM]
 ·rw [jY (f:="kept_entries") (g:="kept_ways") (by decide +kernel),jY (f:="kept_words") (g:="kept_ways") (by decide +kernel),jY (f:="kept_pours") (g:="kept_ways") (by decide +kernel),jY (f:="kept_state") (g:="kept_ways") (by decide +kernel),vM]
 ·rw [jY (f:="kept_entries") (g:="kept_state") (by decide +kernel),jY (f:="kept_words") (g:="kept_state") (by decide +kernel),jY (f:="kept_pours") (g:="kept_state") (by decide +kernel),vM]
 ·rw [jY (f:="kept_entries") (g:="kept_pours") (by decide +kernel),jY (f:="kept_words") (g:="kept_pours") (by decide +kernel),vM]
 ·rw [jY (f:="kept_entries") (g:="kept_words") (by decide +kernel),vM]
 ·rw [vM]
 ·rw [jY n6,jY n5,jY n4,jY n3,jY n2,jY n1,jY n0];rfl
variable {v0 v1 v2 v3 v4 v5 v6:V}
theorem BkFld.put2 (z:V) (h:BkFld fs v0 v1 v2 v3 v4 v5 v6):BkFld (jF "kept_ways" z fs) v0 v1 z v3 v4 v5 v6:=by
 obtain ⟨h0,h1,h2,h3,h4,h5,h6,hn⟩:=h;refine ⟨?_,?_,?_,?_,?_,?_,?_,fun m n0 n1 n2 n3 n4 n5 n6=>?_⟩
 ·rw [jY (f:="kept_ways") (g:="kept_canal") (by decide +kernel)];exact h0
 ·rw [jY (f:="kept_ways") (g:="kept_names") (by decide +kernel)];exact h1
 ·rw [vM]
 ·rw [jY (f:="kept_ways") (g:="kept_state") (by decide +kernel)];exact h3
 ·rw [jY (f:="kept_ways") (g:="kept_pours") (by decide +kernel)];exact h4
 ·rw [jY (f:="kept_ways") (g:="kept_words") (by decide +kernel)];exact h5
 ·rw [jY (f:="kept_ways") (g:="kept_entries") (by decide +kernel)];exact h6
 ·rw [jY n2];exact hn m n0 n1 n2 n3 n4 n5 n6
theorem BkFld.put3 (z:V) (h:BkFld fs v0 v1 v2 v3 v4 v5 v6):BkFld (jF "kept_state" z fs) v0 v1 v2 z v4 v5 v6:=by
 obtain ⟨h0,h1,h2,h3,h4,h5,h6,hn⟩:=h;refine ⟨?_,?_,?_,?_,?_,?_,?_,fun m n0 n1 n2 n3 n4 n5 n6=>?_⟩
 ·rw [jY (f:="kept_state") (g:="kept_canal") (by decide +kernel)];exact h0
 ·rw [jY (f:="kept_state") (g:="kept_names") (by decide +kernel)];exact h1
 ·rw [jY (f:="kept_state") (g:="kept_ways") (by decide +kernel)];exact h2
 ·rw [vM]
 ·rw [jY (f:="kept_state") (g:="kept_pours") (by decide +kernel)];exact h4
 ·rw [jY (f:="kept_state") (g:="kept_words") (by decide +kernel)];exact h5
 ·rw [jY (f:="kept_state") (g:="kept_entries") (by decide +kernel)];exact h6
 ·rw [jY n3];exact hn m n0 n1 n2 n3 n4 n5 n6
theorem BkFld.no (h:BkFld fs v0 v1 v2 v3 v4 v5 v6) (n0:¬m="kept_canal") (n1:¬m="kept_names") (n2:¬m="kept_ways") (n3:¬m="kept_state") (n4:¬m="kept_pours") (n5:¬m="kept_words") (n6:¬m="kept_entries"):fs.lookup m=none:=h.2.2.2.2.2.2.2 m n0 n1 n2 n3 n4 n5 n6
theorem vT (H:Hp) (A:List Addr):Same (j4 H A) H:=fun a o e=>by
 by_cases h:a∈A
 ·rw [JE h] at e;cases e
 ·rw [qV h] at e;exact e
variable {A:List Addr}
theorem yG (s:Same H H'):Same (j4 H A) (j4 H' A):=fun a o e=>by
 by_cases h:a∈A
 ·rw [JE h] at e;cases e
 ·rw [qV h] at e ⊢;exact s a o e
structure BkRest (cs:Kd→Addr) (cR cN:Addr) (G:Hp) (x wl st:Addr) (R:List RC) (L:List LC) (N:List (List (Int×Int))) (ms:List Int) (ys:List jR):Prop where
 cn:CnAt cs cR cN [] G x R L N
 wy:∃us,G wl=some (.lst us)∧AllAt (WyAt G) us ys
 st:StAt G st 0 ms (List.replicate ys.length 0)
theorem BkRest.same {G G':Hp} {wl st:Addr} {ys:List jR} (s:Same G G') (h:BkRest cs cR cN G x wl st R L N ms ys):BkRest cs cR cN G' x wl st R L N ms ys:=by
 obtain ⟨us,h1,h2⟩:=h.wy;exact ⟨h.cn.same s,⟨us,s _ _ h1,h2.mono (WyAt.same s)⟩,h.st.same s⟩
structure BkAt (cs:Kd→Addr) (cR cN cO:Addr) (D:List Addr) (H:Hp) (b nl pl ql el x:Addr) (R:List RC) (L:List LC) (N:List (List (Int×Int))) (ms:List Int) (zs:List Str) (ys:List jR) (m:Nat):Prop where
 ob:∃(db wl st:Addr) (fs:List (Str×V)),H b=some (.ins cO db fs)∧fs.length≤7+2*m∧BkFld fs (.ref x) (.ref nl) (.ref wl) (.ref st) (.ref pl) (.ref ql) (.ref el)∧BkRest cs cR cN (j4 H (b::nl::pl::ql::el::D)) x wl st R L N ms ys
 na:H nl=some (.lst (zs.map V.str))
 po:H pl=some (.lst [])
 wo:H ql=some (.lst [])
 en:∃es:List V,H el=some (.lst es)∧es.length=m
 nd:[nl,pl,ql,el].Nodup
variable {cO b:Addr}
theorem BkAt.same {nl pl ql el:Addr} {ys:List jR} {m:Nat} (s:Same H H') (h:BkAt cs cR cN cO D H b nl pl ql el x R L N ms zs ys m):BkAt cs cR cN cO D H' b nl pl ql el x R L N ms zs ys m:=by
 obtain ⟨db,wl,st,fs,h1,h2,h3,h4⟩:=h.ob;obtain ⟨es,h5,h6⟩:=h.en;exact ⟨⟨db,wl,st,fs,s _ _ h1,h2,h3,h4.same (yG s)⟩,s _ _ h.na,s _ _ h.po,s _ _ h.wo,⟨es,s _ _ h5,h6⟩,h.nd⟩
theorem lN {B:List Addr} (h:∀a∈B,a∈A):Same (j4 H A) (j4 H B):=fun a o e=>by
 by_cases ha:a∈A
 ·rw [JE ha] at e;cases e
 ·rw [qV ha] at e;rw [qV fun z=>ha (h a z)];exact e
theorem BkAt.none {nl pl ql el:Addr} {ys:List jR} {m:Nat} (h:BkAt cs cR cN cO D H b nl pl ql el x R L N ms zs ys m):BkAt cs cR cN cO [] H b nl pl ql el x R L N ms zs ys m:=by
 obtain ⟨db,wl,st,fs,h1,h2,h3,h4⟩:=h.ob;exact ⟨⟨db,wl,st,fs,h1,h2,h3,h4.same (lN fun a ha=>by simp only [am,aA,bg] at ha ⊢;rcases ha with h|h|h|h|h<;>simp [h])⟩,h.na,h.po,h.wo,h.en,h.nd⟩
structure BkQ (cs:Kd→Addr) (cR cN cO:Addr) (H:Hp) (b x:Addr) (R:List RC) (L:List LC) (N:List (List (Int×Int))) (ms:List Int) (zs:List Str) (ys:List jR):Prop where
 ex:∃(nl pl ql el:Addr),BkAt cs cR cN cO [] H b nl pl ql el x R L N ms zs ys zs.length
 n9:ys.length≤10
 z9:zs.length≤10
 r8:R.length≤8
 l8:L.length≤8
 wok:∀y∈ys,WyOk L y∧1≤y.2.length
 m9:ms.length≤1000
theorem BkQ.same {ys:List jR} (s:Same H H') (h:BkQ cs cR cN cO H b x R L N ms zs ys):BkQ cs cR cN cO H' b x R L N ms zs ys:=by
 obtain ⟨nl,pl,ql,el,hb⟩:=h.ex;exact ⟨⟨nl,pl,ql,el,hb.same s⟩,h.n9,h.z9,h.r8,h.l8,h.wok,h.m9⟩
def q9 (cs:Kd→Addr) (cR cN cO:Addr) (P:Addr→List RC→List LC→List (List (Int×Int))→List Int→List Str→List jR→Hp→VK→Prop):Sp:=fun vs H Q _=>∃(b x:Addr) (R:List RC) (L:List LC) (N:List (List (Int×Int))) (ms:List Int) (zs:List Str) (ys:List jR),vs=[.ref b]∧BkQ cs cR cN cO H b x R L N ms zs ys∧P x R L N ms zs ys H Q
def bL (cs:Kd→Addr) (cR cN:Addr) (x:Addr) (R:List RC) (L:List LC) (N:List (List (Int×Int))) (_:List Int) (_:List Str) (_:List jR) (H:Hp) (Q:VK):Prop:=CnAt cs cR cN [] H x R L N→Q (.ref x) H
def mK (_:Addr) (_:List RC) (_:List LC) (_:List (List (Int×Int))) (_:List Int) (zs:List Str) (_:List jR) (H:Hp) (Q:VK):Prop:=∀(l:Addr) (H':Hp),Same H H'→H l=none→H' l=some (.lst (zs.map V.str))→Q (.ref l) H'
def eQ (_:Addr) (_:List RC) (_:List LC) (_:List (List (Int×Int))) (_:List Int) (_:List Str) (ys:List jR) (H:Hp) (Q:VK):Prop:=∀(l:Addr) (us:List V) (H':Hp),Same H H'→H l=none→H' l=some (.lst us)→AllAt (WyAt H') us ys→Q (.ref l) H'
def eD (_:Addr) (_:List RC) (_:List LC) (_:List (List (Int×Int))) (ms:List Int) (_:List Str) (ys:List jR) (H:Hp) (Q:VK):Prop:=∀st:Addr,StAt H st 0 ms (List.replicate ys.length 0)→Q (.ref st) H
def eR (_:Addr) (_:List RC) (_:List LC) (_:List (List (Int×Int))) (_:List Int) (_:List Str) (_:List jR) (H:Hp) (Q:VK):Prop:=∀(l:Addr) (H':Hp),Same H H'→H l=none→H' l=some (.lst [])→Q (.ref l) H'
def uN (_:Addr) (_:List RC) (_:List LC) (_:List (List (Int×Int))) (_:List Int) (zs:List Str) (_:List jR) (H:Hp) (Q:VK):Prop:=∀(l:Addr) (es:List V) (H':Hp),Same H H'→H l=none→H' l=some (.lst es)→es.length=zs.length→Q (.ref l) H'
def i4 (cs:Kd→Addr) (cR cN cO:Addr):Sp:=fun vs H Q _=>∃(b db x:Addr) (R:List RC) (L:List LC) (N:List (List (Int×Int))),vs=[.ref b,.ref x]∧H b=some (.ins cO db [])∧CnAt cs cR cN [] (j4 H [b]) x R L N∧R.length≤100∧L.length≤100∧JW R∧
 ∀(nl pl ql el:Addr) (gs:List Int) (H':Hp),Spl (qY R L.length) (qZ R L.length) gs→BkAt cs cR cN cO [] H' b nl pl ql el x R L N (y6 (qZ R L.length) (qY R L.length) gs) [] [] 0→Same (j4 H [b]) (j4 H' [b,nl,pl,ql,el])→Q .non H'
theorem yH (h:a∈A):j4 (upd H a o) A=j4 H A:=by
 funext b
 by_cases hb:b∈A
 ·rw [JE hb,JE hb]
 ·rw [qV hb,qV hb,jL (fun z=>hb (by rw [z];exact h))]
theorem GO (h:H a=none):Same (j4 H A) (j4 H (a::A)):=fun b o e=>by
 by_cases hb:b∈A
 ·rw [JE hb] at e;cases e
 ·rw [qV hb] at e;rw [qV fun z=>(am.mp z).elim (fun z=>by rw [z,h] at e;cases e) hb];exact e
theorem dS {Hi:Hp} (hb:b∈A) (h:Hi a=none) (s:Same (j4 H [b]) (j4 Hi A)):Same (j4 H [b]) (j4 (upd (upd Hi a o) b o') (a::A)):=by
 rw [yH (aC _ hb),yH aQ];exact s.trans (GO h)
theorem E3 {Hi:Hp} (hb:b∈A) (h:Hi a=none) (s:Same (j4 H [b]) (j4 Hi A)):Same (j4 H [b]) (j4 (upd (upd Hi a o) b o') A):=by
 rw [yH hb];exact s.trans (yG (jJ h _))
theorem put2 {u:HO} (h:H a=none) (hc:H c=some u) (n:c≠b):upd (upd H a o) b o' c=some u:=by
 rw [jL n,jL (kE hc h)];exact hc
theorem put3 {u:HO} (h:H a=none) (hb:H b=some u):upd (upd H a o) b o' a=some o:=by
 rw [jL (kE hb h).symm];exact jE
theorem StAt.put2 {cl db:Addr} {d:Int} (ha:H a=none) (hb:H b=some (.ins cl db fs)) (h:StAt H t d ms pl):StAt (upd (upd H a o) b o') t d ms pl:=by
 obtain ⟨wt,pt,h1,h2,h3⟩:=h;have k:∀(c:Addr) (l:List V),H c=some (.tup l)→upd (upd H a o) b o' c=some (.tup l):=fun c l e=>My.put2 ha e (qF e hb (fun z=>nomatch z))
 exact ⟨wt,pt,k _ _ h1,k _ _ h2,k _ _ h3⟩
theorem StAt.del {d:Int} (hA:∀a∈A,∀l,H a≠some (.tup l)) (h:StAt H t d ms pl):StAt (j4 H A) t d ms pl:=by
 obtain ⟨wt,pt,h1,h2,h3⟩:=h;have k:∀(a:Addr) (l:List V),H a=some (.tup l)→j4 H A a=some (.tup l):=fun a l e=>by rw [qV fun z=>hA a z l e];exact e
 exact ⟨wt,pt,k _ _ h1,k _ _ h2,k _ _ h3⟩
theorem WyAt.del (hA:∀a∈A,∀l,H a≠some (.tup l)) (v:V) (y:jR) (h:WyAt H v y):WyAt (j4 H A) v y:=by
 have k:∀(a:Addr) (l:List V),H a=some (.tup l)→j4 H A a=some (.tup l):=fun a l e=>by rw [qV fun z=>hA a z l e];exact e
 obtain ⟨t,st,us,e,h1,h2,h3⟩:=h;exact ⟨t,st,us,e,k _ _ h1,k _ _ h2,h3.mono fun v p ⟨t,e,h⟩=>⟨t,e,k _ _ h⟩⟩
def mV (S:Str) (c:Nat):Bool := !(Builtin.Str.occurrences S ⟨#[c]⟩ 0 S.length 1).isEmpty
def J3 (S w:Str) (i:Nat):Bool:=(w.cps.toList.take i).all (mV S)
theorem rL {S w:Str} {c:Nat} (h:w.cps[i]?=some c):J3 S w (i+1)=(J3 S w i&&mV S c):=by
 unfold J3;rw [aN,show w.cps.toList[i]?=some c by rw [Array.getElem?_toList];exact h,all_append];simp
def yJ (S w:Str):Bool:=decide (0<w.length)&&decide (w.length<13)&&J3 S w w.cps.size
theorem QH (zs:List Str):(zs.map V.str).all qG=true:=by rw [all_map,br];intro _ _;rfl
theorem GB (h:zL zs nm):zC (.str nm) (zs.map V.str)=false:=by
 unfold zC;rw [any_map,cg];intro e;obtain ⟨z,hz,e⟩:=any_eq_true.mp e;obtain ⟨i,hi⟩:=dw.mp hz;have e:(z == nm)=true:=e;rw [eq_of_beq e] at hi;exact h i hi
theorem HI:zC (.str nm) (zs.map V.str)=true↔¬zL zs nm:=by
 refine ⟨fun h hn=>?_,fun h=>?_⟩
 ·rw [GB hn] at h;cases h
 ·cases e:zC (.str nm) (zs.map V.str) with
  |true=>rfl
  |false =>
   refine absurd (fun i hi=>?_) h;unfold zC at e;rw [any_map,cg] at e;exact e (any_eq_true.mpr ⟨nm,aP hi,by show (nm == nm)=true;exact cw nm⟩)
open Classical in
def tQ:Sp:=fun vs H Q _=>∃w S:Str,vs=[.str w,.str S]∧w.length≤100∧∀H',Same H H'→Q (.bl (yJ S w)) H'
def rR:Sp:=fun vs H Q _=>∃w:Str,vs=[.str w]∧w.length≤100∧∀H',Same H H'→Q (.bl (yJ vW w)) H'
theorem BkQ.ins {ys:List jR} (h:BkQ cs cR cN cO H b x R L N ms zs ys):∃(db:Addr) (fs:List (Str×V)),H b=some (.ins cO db fs)∧∀m:Str,m∉(["kept_canal","kept_names","kept_ways","kept_state","kept_pours","kept_words","kept_entries"]:List Str)→fs.lookup m=none:=by
 obtain ⟨nl,pl,ql,el,hB⟩:=h.ex;obtain ⟨db,wl,st,fs,hb,_,hf,_⟩:=hB.ob;refine ⟨db,fs,hb,fun m hm=>?_⟩;simp only [am,aA,bg,not_or] at hm;exact hf.no hm.1 hm.2.1 hm.2.2.1 hm.2.2.2.1 hm.2.2.2.2.1 hm.2.2.2.2.2.1 hm.2.2.2.2.2.2
open Classical in
noncomputable def kH (R:List RC) (L:List LC) (zs:List Str) (e:CoE):Nat:=if yJ vW e.name=false then 1 else if e.name∈zs then 2 else if 9≤zs.length then 3 else match qK R L e with
 |none=>4
 |some y=>if vV L y.1 y.2 then 0 else 5
def ZV (eB eT eM eU eL:Addr) (c:Nat):Addr:=if c=1 then eB else if c=2 then eT else if c=3 then eM else if c=4 then eU else eL
def dL (cs:Kd→Addr) (cR cN cO eB eT eM eU eL:Addr):Sp:=fun vs H Q E=>∃(b t x:Addr) (e:CoE) (R:List RC) (L:List LC) (N:List (List (Int×Int))) (ms:List Int) (zs:List Str) (ys:List jR),vs=[.ref b,.ref t]∧BkQ cs cR cN cO H b x R L N ms zs ys∧CoAt H t e∧e.name.length≤100∧e.steps.length≤100∧
 (kH R L zs e=0→∀H',Same H H'→Q .non H')∧(kH R L zs e≠0→∀H',Same H H'→E (.ref (ZV eB eT eM eU eL (kH R L zs e))) none H')
theorem mem_inV:zC (V.str nm) (zs.map V.str)=true↔nm∈zs:=by
 rw [HI];constructor
 ·intro h
  rcases sC zs nm with ⟨i,hi⟩|h'
  ·exact aP hi.1
  ·exact absurd h' h
 ·intro h hn;obtain ⟨i,hi⟩:=dw.mp h;exact hn i hi
def QM (ys:List jR) (a:Int):Nat:=ys.countP fun y=>decide (y.1=a)
def bU (R:List RC) (a:Int):Int:=((R[a.toNat]?).map (·.berths)).getD 0
def yQ (R:List RC) (L:List LC) (ys:List jR) (e:CoE):Bool:=match qK R L e with
 |some y=>decide (bU R y.1≤(QM ys y.1:Int))
 |none=>false
theorem C1 {a:Int}:∀{ys:List jR},(∀y∈ys,1≤y.2.length)→(y8 L ys (List.replicate ys.length 0)).countP (fun z=>decide (z=a))=QM ys a:=by
 intro ys h;have e:y8 L ys (List.replicate ys.length 0)=ys.map (·.1):=by
  unfold y8;refine ext_getElem? fun i=>?_
  rw [ax,ax]
  by_cases hi:i<ys.length
  ·rw [dk hi,aa hi];show some (QS L (ys.getD i (0,[])) ((List.replicate ys.length 0).getD i 0))=some (ys[i]).1;have e1:ys.getD i (0,[])=ys[i]:=by rw [af,aa hi];rfl
   have e2:(List.replicate ys.length 0).getD i 0=0:=by rw [af,cf,if_pos hi];rfl
   rw [e1,e2];have h1:=h _ (cb hi);unfold QS;rw [if_neg (by omega)];rfl
  ·rw [bn (by simpa using hi),bn (by omega)];rfl
 rw [e,countP_map];rfl
theorem i5 {y:jR} (h:qK R L e=some y):∃a:Nat,y.1=(a:Int)∧kS (R.map (·.name)) e.start=some a∧a<R.length∧y.2.length=e.steps.length∧∀p∈y.2,p.1<L.length:=by
 unfold qK at h;cases ha:kS (R.map (·.name)) e.start with
 |none=>rw [ha] at h;cases h
 |some a =>
  rw [ha] at h;obtain ⟨ps,hps,rfl⟩:=bb.mp h;have h1:=rC ha;rw [ad] at h1;obtain ⟨h2,h3⟩:=ZD hps;exact ⟨a,rfl,rfl,h1,h2,fun p hp=>by have:=h3 p hp;rwa [ad] at this⟩
open Classical in
theorem lP {R:List RC} {L:List LC} {zs:List Str} {e:CoE} (h:kH R L zs e=0):∃y,qK R L e=some y∧vV L y.1 y.2∧e.name∉zs∧zs.length<9:=by
 unfold kH at h
 by_cases hg:yJ vW e.name=false
 ·rw [if_pos hg] at h;cases h
 rw [if_neg hg] at h
 by_cases hz:e.name∈zs
 ·rw [if_pos hz] at h;cases h
 rw [if_neg hz] at h
 by_cases h9:9≤zs.length
 ·rw [if_pos h9] at h;cases h
 rw [if_neg h9] at h;cases hy:qK R L e with
 |none=>rw [hy] at h;cases h
 |some y =>
  rw [hy] at h
  by_cases hok:vV L y.1 y.2
  ·exact ⟨y,rfl,hok,hz,by omega⟩
  ·have h:(if vV L y.1 y.2 then 0 else 5)=0:=h;rw [if_neg hok] at h;cases h
theorem BkQ.fleet {ys:List jR} (h:BkQ cs cR cN cO H b x R L N ms zs ys):Fleet L ys (List.replicate ys.length 0) :=
  ⟨by rw [aZ],h.n9,fun y hy=>(h.wok y hy).1,fun i y p _ hp=>by
    rw [cf] at hp
    split at hp
    · cases hp;exact aG _
    · cases hp⟩
def sQ (cs:Kd→Addr) (cR cN:Addr):Sp:=fun vs H Q _=>∃(x wl st:Addr) (b:Nat) (r:RC) (us:List V) (ys:List jR) (d:Int) (ms:List Int) (pl:List Nat) (D:List Addr) (R:List RC) (L:List LC) (N:List (List (Int×Int))),vs=[.ref x,.ref wl,.ref st,.int (b:Int)]∧CnAt cs cR cN D H x R L N∧H wl=some (.lst us)∧AllAt (WyAt H) us ys∧StAt H st d ms pl∧Fleet L ys pl∧R[b]?=some r∧∀H',Same H H'→Q (.bl (decide (r.berths≤(((y8 L ys pl).countP fun z=>decide (z=(b:Int)):Nat):Int)))) H'
def zI (cs:Kd→Addr) (cR cN cO:Addr) (P:List RC→List LC→List Int→List Str→List jR→CoE→Hp→VK→Prop):Sp:=fun vs H Q _=>∃(b t x:Addr) (e:CoE) (R:List RC) (L:List LC) (N:List (List (Int×Int))) (ms:List Int) (zs:List Str) (ys:List jR),vs=[.ref b,.ref t]∧BkQ cs cR cN cO H b x R L N ms zs ys∧CoAt H t e∧e.steps.length≤100∧kH R L zs e=0∧P R L ms zs ys e H Q
def u7 (R:List RC) (L:List LC) (_:List Int) (_:List Str) (ys:List jR) (e:CoE) (H:Hp) (Q:VK):Prop:=∀H',Same H H'→Q (.str (if yQ R L ys e=true then "berth" else "")) H'
def bR (_:List RC) (_:List LC) (_:List Int) (_:List Str) (_:List jR) (_:CoE) (H:Hp) (Q:VK):Prop:=∀(l:Addr) (H':Hp),Same H H'→H l=none→H' l=some (.lst [])→Q (.ref l) H'
def uB (R:List RC) (L:List LC) (_:List Int) (_:List Str) (ys:List jR) (e:CoE) (H:Hp) (Q:VK):Prop:=∀(y:jR) (l:Addr) (us:List V) (H':Hp),qK R L e=some y→Same H H'→H l=none→H' l=some (.lst us)→AllAt (WyAt H') us (ys++[y])→Q (.ref l) H'
def tF (_:List RC) (_:List LC) (ms:List Int) (_:List Str) (ys:List jR) (_:CoE) (H:Hp) (Q:VK):Prop:=∀(st:Addr) (H':Hp),Same H H'→StAt H' st 0 ms (List.replicate (ys.length+1) 0)→Q (.ref st) H'
noncomputable def qJ (R:List RC) (L:List LC) (zs:List Str) (ys:List jR) (e:CoE):Nat:=if kH R L zs e=0 then (if yQ R L ys e=true then 6 else 0) else kH R L zs e
def qB (eB eT eM eU eL eW:Addr) (c:Nat):Addr:=if c=6 then eW else ZV eB eT eM eU eL c
theorem bE (R:List RC) (L:List LC) (zs:List Str) (e:CoE):kH R L zs e≤5:=by
 unfold kH
 split
 ·decide
 split
 ·decide
 split
 ·decide
 split
 ·decide
 split<;>decide
theorem pK {ys:List jR} (h:qJ R L zs ys e=0):kH R L zs e=0:=by
 unfold qJ at h
 by_cases hc:kH R L zs e=0
 ·exact hc
 ·rw [if_neg hc] at h;exact h
def dR (cs:Kd→Addr) (cR cN cO eB eT eM eU eL:Addr):Sp:=fun vs H Q E=>∃(b t x:Addr) (e:CoE) (R:List RC) (L:List LC) (N:List (List (Int×Int))) (ms:List Int) (zs:List Str) (ys:List jR),vs=[.ref b,.ref t]∧BkQ cs cR cN cO H b x R L N ms zs ys∧CoAt H t e∧e.name.length≤100∧e.steps.length≤100∧
 (kH R L zs e=0→∀H',Same H H'→Q (.str (if yQ R L ys e=true then "berth" else "")) H')∧(kH R L zs e≠0→∀H',Same H H'→E (.ref (ZV eB eT eM eU eL (kH R L zs e))) none H')
def dM (cs:Kd→Addr) (cR cN cO eB eT eM eU eL eW:Addr):Sp:=fun vs H Q E=>∃(b t x:Addr) (e:CoE) (R:List RC) (L:List LC) (N:List (List (Int×Int))) (ms:List Int) (zs:List Str) (ys:List jR),vs=[.ref b,.ref t]∧BkQ cs cR cN cO H b x R L N ms zs ys∧CoAt H t e∧e.name.length≤100∧e.steps.length≤100∧
 (qJ R L zs ys e=0→∀(y:jR) (p l st:Addr) (us:List V) (H':Hp),qK R L e=some y→Same H H'→H' p=some (.tup [.ref l,.ref st])→H l=none→H' l=some (.lst us)→AllAt (WyAt H') us (ys++[y])→StAt H' st 0 ms (List.replicate (ys.length+1) 0)→Q (.ref p) H')∧(qJ R L zs ys e≠0→∀H',Same H H'→E (.ref (qB eB eT eM eU eL eW (qJ R L zs ys e))) none H')
def nB (cs:Kd→Addr) (cR cN cO eB eT eM eU eL eW:Addr):Sp:=fun vs H Q E=>∃(b t x nl pl ql el:Addr) (D:List Addr) (e:CoE) (R:List RC) (L:List LC) (N:List (List (Int×Int))) (ms:List Int) (zs:List Str) (ys:List jR),vs=[.ref b,.ref t]∧BkQ cs cR cN cO H b x R L N ms zs ys∧BkAt cs cR cN cO D H b nl pl ql el x R L N ms zs ys zs.length∧(∀d∈D,∃l,H d=some (.lst l))∧CoAt H t e∧e.name.length≤100∧e.steps.length≤100∧
 (qJ R L zs ys e=0→∀(y:jR) (H':Hp),qK R L e=some y→BkAt cs cR cN cO D H' b nl pl ql el x R L N ms (zs++[e.name]) (ys++[y]) (zs.length+1)→Same (j4 H [b,nl,pl,ql,el]) (j4 H' [b,nl,pl,ql,el])→Q .non H')∧(qJ R L zs ys e≠0→∀H',Same H H'→E (.ref (qB eB eT eM eU eL eW (qJ R L zs ys e))) none H')
structure Txt (P:Program) (w:World) (base:Heap) (K:W.Frag) (mg:Str→Option Value) (cP cB cU:Addr) (cR:Addr) (cN:Addr) (tkS:Tok) (eC eB eT eM eU eL eW:Addr) (tkH:Tok) (cO:Addr) (Q9:Tok) (ZB:Tok) (ZA:Tok):Prop where
 xi:mg "list"=none
 xl:mg "tuple"=none
 ja:mg "max"=none
 xk:mg "range"=none
 xh:mg "len"=none
 jb:mg "zip"=none
 xo:mg "enumerate"=none
 jc:mg "all"=none
 ve:mg "int"=none
 xb:mg "isinstance"=none
 xm:mg "ValueError"=none
 cl:∀kd,Cls K ((jH cP cB cU) kd)
 wd:∀kd,NoAttr K ((jH cP cB cU) kd) "name"
 zr:∀kd,NoAttr K ((jH cP cB cU) kd) "high"
 vv:∀kd,NoAttr K ((jH cP cB cU) kd) "low"
 xan:∀kd,NoAttr K ((jH cP cB cU) kd) "room"
 xao:NoAttr K cB "side"
 xap:NoAttr K cU "lift"
 zu:mg "PlainLock"=some (.ref cP)
 vw:mg "BasinLock"=some (.ref cB)
 we:mg "PumpLock"=some (.ref cU)
 clR:Cls K cR
 xy:NoAttr K cR "name"
 zi:NoAttr K cR "least"
 za:NoAttr K cR "crest"
 xp:NoAttr K cR "berths"
 zc:NoAttr K cR "water"
 xq:NoAttr K cR "target"
 xah:mg "Reach"=some (.ref cR)
 clN:Cls K cN
 xf:NoAttr K cN "reaches"
 xc:NoAttr K cN "locks"
 xv:NoAttr K cN "nights"
 xai:mg "Canal"=some (.ref cN)
 xaK:mg "SEA"=some (.int (-1) tkS)
 vf:mg "CanalError"=some (.ref eC)
 wf:mg "BadRow"=some (.ref eB)
 ji:mg "Twice"=some (.ref eT)
 vj:mg "TooMany"=some (.ref eM)
 vk:mg "Unknown"=some (.ref eU)
 zv:mg "NotLinked"=some (.ref eL)
 wg:mg "NotNow"=some (.ref eW)
 jt:QY K eB
 xaj:QY K eT
 jd:QY K eM
 je:QY K eU
 vx:QY K eL
 ju:QY K eW
 at_BadRow:ExcAttr K eB
 jf:(W.clsIn K eB).isSome=true
 exm_BadRow:W.exmOne K (.ref eB) (.ref eC)=some true
 k_BadRow_ValueError:W.kitOne K (.ref eB) (.type "ValueError")=some true
 k_BadRow_BadRow:W.kitOne K (.ref eB) (.ref eB)=some true
 k_BadRow_Twice:W.kitOne K (.ref eB) (.ref eT)=some false
 k_BadRow_TooMany:W.kitOne K (.ref eB) (.ref eM)=some false
 k_BadRow_Unknown:W.kitOne K (.ref eB) (.ref eU)=some false
 k_BadRow_NotLinked:W.kitOne K (.ref eB) (.ref eL)=some false
 k_BadRow_NotNow:W.kitOne K (.ref eB) (.ref eW)=some false
 at_Twice:ExcAttr K eT
 jv:(W.clsIn K eT).isSome=true
 exm_Twice:W.exmOne K (.ref eT) (.ref eC)=some true
 k_Twice_ValueError:W.kitOne K (.ref eT) (.type "ValueError")=some true
 k_Twice_BadRow:W.kitOne K (.ref eT) (.ref eB)=some false
 k_Twice_Twice:W.kitOne K (.ref eT) (.ref eT)=some true
 k_Twice_TooMany:W.kitOne K (.ref eT) (.ref eM)=some false
 k_Twice_Unknown:W.kitOne K (.ref eT) (.ref eU)=some false
 k_Twice_NotLinked:W.kitOne K (.ref eT) (.ref eL)=some false
 k_Twice_NotNow:W.kitOne K (.ref eT) (.ref eW)=some false
 at_TooMany:ExcAttr K eM
 wj:(W.clsIn K eM).isSome=true
 exm_TooMany:W.exmOne K (.ref eM) (.ref eC)=some true
 k_TooMany_ValueError:W.kitOne K (.ref eM) (.type "ValueError")=some true
 k_TooMany_BadRow:W.kitOne K (.ref eM) (.ref eB)=some false
 k_TooMany_Twice:W.kitOne K (.ref eM) (.ref eT)=some false
 k_TooMany_TooMany:W.kitOne K (.ref eM) (.ref eM)=some true
 k_TooMany_Unknown:W.kitOne K (.ref eM) (.ref eU)=some false
 k_TooMany_NotLinked:W.kitOne K (.ref eM) (.ref eL)=some false
 k_TooMany_NotNow:W.kitOne K (.ref eM) (.ref eW)=some false
 at_Unknown:ExcAttr K eU
 wk:(W.clsIn K eU).isSome=true
 exm_Unknown:W.exmOne K (.ref eU) (.ref eC)=some true
 k_Unknown_ValueError:W.kitOne K (.ref eU) (.type "ValueError")=some true
 k_Unknown_BadRow:W.kitOne K (.ref eU) (.ref eB)=some false
 k_Unknown_Twice:W.kitOne K (.ref eU) (.ref eT)=some false
 k_Unknown_TooMany:W.kitOne K (.ref eU) (.ref eM)=some false
 k_Unknown_Unknown:W.kitOne K (.ref eU) (.ref eU)=some true
 k_Unknown_NotLinked:W.kitOne K (.ref eU) (.ref eL)=some false
 k_Unknown_NotNow:W.kitOne K (.ref eU) (.ref eW)=some false
 at_NotLinked:ExcAttr K eL
 vg:(W.clsIn K eL).isSome=true
 exm_NotLinked:W.exmOne K (.ref eL) (.ref eC)=some true
 k_NotLinked_ValueError:W.kitOne K (.ref eL) (.type "ValueError")=some true
 k_NotLinked_BadRow:W.kitOne K (.ref eL) (.ref eB)=some false
 k_NotLinked_Twice:W.kitOne K (.ref eL) (.ref eT)=some false
 k_NotLinked_TooMany:W.kitOne K (.ref eL) (.ref eM)=some false
 k_NotLinked_Unknown:W.kitOne K (.ref eL) (.ref eU)=some false
 k_NotLinked_NotLinked:W.kitOne K (.ref eL) (.ref eL)=some true
 k_NotLinked_NotNow:W.kitOne K (.ref eL) (.ref eW)=some false
 at_NotNow:ExcAttr K eW
 jg:(W.clsIn K eW).isSome=true
 exm_NotNow:W.exmOne K (.ref eW) (.ref eC)=some true
 k_NotNow_ValueError:W.kitOne K (.ref eW) (.type "ValueError")=some true
 k_NotNow_BadRow:W.kitOne K (.ref eW) (.ref eB)=some false
 k_NotNow_Twice:W.kitOne K (.ref eW) (.ref eT)=some false
 k_NotNow_TooMany:W.kitOne K (.ref eW) (.ref eM)=some false
 k_NotNow_Unknown:W.kitOne K (.ref eW) (.ref eU)=some false
 k_NotNow_NotLinked:W.kitOne K (.ref eW) (.ref eL)=some false
 k_NotNow_NotNow:W.kitOne K (.ref eW) (.ref eW)=some true
 xaq:mg "HOME"=some (.int (-1) tkH)
 clO:Cls K cO
 nO_kept_canal:NoAttr K cO "kept_canal"
 nO_kept_names:NoAttr K cO "kept_names"
 nO_kept_ways:NoAttr K cO "kept_ways"
 nO_kept_state:NoAttr K cO "kept_state"
 nO_kept_pours:NoAttr K cO "kept_pours"
 nO_kept_words:NoAttr K cO "kept_words"
 nO_kept_entries:NoAttr K cO "kept_entries"
 xar:mg "Book"=some (.ref cO)
 jh:mg "LETTERS"=some (.str vW Q9)
 vh:mg "MOST_SIGNS"=some (.int 12 ZB)
 vi:mg "MOST_BOATS"=some (.int 9 ZA)
set_option maxHeartbeats 4000000
section
variable {P:Program} {w:World} {K:W.Frag} {mg:Str→Option Value} {base:Heap} {cP cB cU:Addr} {cR:Addr} {cN:Addr} {tkS:Tok} {eC eB eT eM eU eL eW:Addr} {tkH:Tok} {cO:Addr} {Q9:Tok} {ZB:Tok} {ZA:Tok} {f:Addr} {fd:FuncData}
variable (T:Txt P w base K mg cP cB cU cR cN tkS eC eB eT eM eU eL eW tkH cO Q9 ZB ZA)
theorem Z5:jV 2 ["waters","pours","held","source","target","amount"] gZ:=jU
include T in
theorem AI (F:kK K "poured_all" gZ f fd) : FnOk P w K mg base jO 1 f fd ["waters","pours"] (mQ K):=by
 refine F.ok2 Z5 fun vs H Q E h=>?_
 refine y9 h fun w p ws rs qs h=>?_
 refine zJ h fun e_ hW hP hA hn q=>?_
 subst e_;refine ⟨rfl,fun _ _ _ _ hr=>?_⟩;refine ⟨_,(@jG _ _ _ _ _ (jP 2 Z5.nd (qM (yY K) (by rfl) T.xi aI (jB (pv 0) jD)))
   (@jG _ _ _ _ _ (zH bz rfl (yX (pv 1)) (dZ rfl (yM (qD (i:=3) Z5.nd rfl (.inl rfl)) (yM (qD (i:=4) Z5.nd rfl (.inl rfl)) (yM (qD (i:=5) Z5.nd rfl (.inl rfl)) ZI))))
    (@jG _ _ _ _ _ (lV (pv 2) (pv 3) lM (pv 5) HH ZE)
   (@kB _ _ _ (lV (pv 2) (pv 4) lM (pv 5) uC ZE))))
   (jQ (qM (JN K) (by rfl) T.xl ba (jB (pv 2) jD))))),?_⟩
 try dsimp only [jX,jW]
 refine (jA rfl (⟨w,jA rfl (⟨hW,fun l hl=>?_⟩)⟩));have s0:Same H (upd H l (.lst (ws.map V.int))):=jJ hl _;refine ⟨_,rfl,p,rfl,⟨rs,s0.seq hP⟩,sA (K:=K) (a:=p) (xs:=rs) (fun i σ Hi=>∃c3 c4 c5,σ=[some (.ref w),some (.ref p),some (.ref l),c3,c4,c5]∧Hi l=some (.lst ((v8 ws (qs.take i)).map V.int))∧Same H Hi)
  (bW none none none (qS rfl jE s0)) (fun i σ Hi _ ⟨_,_,_,_,_,s⟩=>s.seq hP) ?_ ?_⟩
 ·rintro i x σ Hi hx ⟨c3,c4,c5,rfl,hH,sm⟩;obtain ⟨a,s,t,m,rfl,hq,hT,hs,ht⟩:=hA.2 i x hx;have e0:(v8 ws (qs.take i)).length=ws.length:=cW _ _;refine ⟨a,jA rfl (⟨mR sm hT,rfl,_,jA rfl (⟨_,jA rfl (⟨_,_,rfl,rfl,?_⟩)⟩)⟩)⟩;refine (jA rfl (jA rfl (⟨_,_,_,_,rfl,rfl,so hH,zF (by rw [e0];exact hs),jA rfl (j6 (⟨_,_,_,_,rfl,rfl,hH,ZJ (by rw [ad,e0];exact hs),?_⟩))⟩)))
  try dsimp only
  rw [cZ];refine (jA rfl (jA rfl (⟨_,_,_,_,rfl,rfl,so jE,zF (by rw [aW,e0];exact ht),jA rfl (j6 (⟨_,_,_,_,rfl,rfl,jE,ZJ (by rw [ad,aW,e0];exact ht),?_⟩))⟩)))
  try dsimp only
  rw [cZ];refine ⟨_,_,jA rfl (⟨?_,qI hl (qI hl sm)⟩)⟩;rw [jE,CG ws qs i _ hq];rfl
 ·rintro σ Hi ⟨c3,c4,c5,rfl,hH,sm⟩;refine (jA rfl (⟨_,jA rfl (.inl ⟨so hH,fun r hr=>?_⟩)⟩));refine q r _ (qI (sm.free hr) sm) (sm.free hr) ?_;rw [jE,hA.1,aV]
theorem oP:jV 3 ["weirs","waters","at","crest"] gX:=jU
include T in
theorem AG (F:kK K "over" gX f fd) : FnOk P w K mg base jO 1 f fd ["weirs","waters","at"] (tT K):=by
 refine F.ok2 oP fun vs H Q E h=>?_
 refine QX h fun wq wa rs ws n ms i₁ h=>?_
 refine zA h fun e_ hW hA hM h1 h2 q=>?_
 subst e_;refine ⟨rfl,fun _ _ _ _ hr=>?_⟩;refine ⟨_,(@jG _ _ _ _ _ (jP 3 oP.nd (jK (j3 K) (jK (kI K) (pv 0) (pv 2)) jC))
   (jQ (yW (EH rfl) (by rfl) T.ja PyProof.Rows.boot_max (jB jC (jB (@jI _ _ _ _ _ _ _ _ zM (jK (GF K) (pv 1) (pv 2)) (pv 3)) jD))))),?_⟩
 try dsimp only [jX,jW]
 obtain ⟨ta,hat,hT,_⟩:=dD hA h1;refine (jA rfl (jA rfl (⟨wq,_,_,_,rfl,rfl,hW,hat,ta,_,_,_,rfl,rfl,hT,rfl,?_⟩)));refine (jA rfl (jA rfl (ER hM h2 ?_)));exact (jA rfl (j6 (⟨_,jA rfl (q)⟩)))
theorem BX:jV 1 ["weirs"] gU:=jU
include T in
theorem AC (F:kK K "last_first" gU f fd) : FnOk P w K mg base jO 1 f fd ["weirs"] (mD K):=by
 refine F.ok2 BX fun vs H Q E h=>?_
 obtain ⟨wq,rs,rfl,hW,hn,q⟩:=h;refine ⟨rfl,fun _ _ _ _ hr=>?_⟩;refine ⟨_,(jQ (qM (CB rfl) (by rfl) T.xi aI (jB (qM CP (by rfl) T.xk PyProof.Rows.boot_range (jZ (@jI _ _ _ _ _ _ _ _ zM (vA K T.xh (pv 0)) jC) (mT mC jC) (mT mC jC))) jD))),?_⟩
 try dsimp only [jX,jW]
 refine (jA rfl (⟨wq,jA rfl (⟨.inl hW,_,_,rfl,rfl,jA rfl (jA rfl (⟨_,_,jA rfl (⟨(by decide),(by decide),fun p hp=>?_⟩)⟩))⟩)⟩));refine (zD p _ _ _ rs.length (yD rfl jE (DE hn) (rE _) hn (fun l hl=>?_)));refine q l _ ((jJ hp _).trans (jJ hl _)) ((jJ hp _).free hl) ?_;rw [jE];exact bw (fun x=>some (HO.lst x)) (DD rs.length)
theorem cT:jV 2 ["weirs","waters","held","given","at"] iE:=jU
include T in
theorem AO (F:kK K "spills" iE f fd) (zj:Def P w K mg base 1 "last_first" ["weirs"] [] (mD K)) (xaL:Def P w K mg base 1 "over" ["weirs","waters","at"] [] (tT K)):FnOk P w K mg base jO 2 f fd ["weirs","waters"] (rO K):=by
 refine F.ok2 cT fun vs H Q E h=>?_
 refine y9 h fun wq wa rs ws ms h=>?_
 refine vH h fun e_ hRd q=>?_
 subst e_;refine ⟨rfl,fun _ _ _ _ hr=>?_⟩;refine ⟨_,(@jG _ _ _ _ _ (jP 2 cT.nd (qM (yY K) (by rfl) T.xi aI (jB (pv 1) jD)))
   (@jG _ _ _ _ _ (jP 3 cT.nd (@jI _ _ _ _ _ _ _ _ t6 (kL (jB jC jD)) (vA K T.xh (pv 0))))
   (@jG _ _ _ _ _ (zH bz rfl (yX (jM zj hr rfl (jB (pv 0) jD))) (qD (i:=4) cT.nd rfl (.inl rfl))
    (@jG _ _ _ _ _ (mG (jM xaL hr rfl (jZ (pv 0) (pv 2) (pv 4))) (mH (pv 3) (pv 4) ZE))
   (@kB _ _ _ (lV (pv 2) (jK (j3 K) (jK (kI K) (pv 0) (pv 4)) jC) lM (jK (kI K) (pv 3) (pv 4)) uC ZE))))
   (jQ (pv 3))))),?_⟩
 try dsimp only [jX,jW]
 obtain ⟨hW,hA,hM,hAh,hRn,hn⟩:=id hRd;have hAF:=rM hAh;refine (jA rfl (⟨wa,jA rfl (⟨hM,fun hl hhl=>?_⟩)⟩));have t1:=jJ hhl (.lst (ms.map V.int));refine ⟨zz1,fun lp hlp=>?_⟩;have t2:=jJ hlp (.lst [V.int 0]);refine (jA rfl (⟨wq,jA rfl (⟨.inl ((t1.trans t2).seq hW),lp,_,_,rfl,rfl,jE,by omega,by rw [hA.1];omega,?_,fun gp hgp=>?_⟩)⟩))
 ·rw [aD,bf,Nat.one_mul,hA.1];exact small (by omega)
 rw [aD,rV,hA.1];have t3:=jJ hgp (.lst ((List.replicate ws.length (0:Int)).map V.int));have u3:=(t1.trans t2).trans t3;have hlp':hl≠gp:=kE (t2 _ _ jE) hgp;refine (jA rfl (⟨wq,rs,rfl,u3.seq hW,by rw [hA.1];omega,fun df H1 s1 hdf0 hdf=>?_⟩));have hl1:=s1 _ _ (t3 _ _ (t2 _ _ (jE:upd H hl (.lst (ms.map V.int)) hl=_)));have gp1:=s1 _ _ (jE:upd _ gp (.lst ((List.replicate ws.length (0:Int)).map V.int)) gp=_);have dhl:hl≠df:=kE (t3 _ _ (t2 _ _ jE)) hdf0;have dgp:gp≠df:=kE jE hdf0;have gf:H gp=none:=(t1.trans t2).free hgp;refine ⟨df,rfl,⟨_,so hdf⟩,sA (K:=K) (a:=df) (xs:=(yK rs.length).map fun (i:Nat)=>V.int (i:Int)) (fun k σ Hi=>∃(hs gs:List Int) (c:Option V),σ=[some (.ref wq),some (.ref wa),some (.ref hl),some (.ref gp),c]∧Hi hl=some (.lst (hs.map V.int))∧Hi gp=some (.lst (gs.map V.int))∧
   Hi df=some (.lst ((yK rs.length).map fun (i:Nat)=>V.int (i:Int)))∧SplInv ws ms hs gs k∧Same H Hi)
  ⟨ms,List.replicate ws.length 0,none,rfl,hl1,gp1,hdf,SplInv.start ws ms,u3.trans s1⟩ (fun i σ Hi _ ⟨_,_,_,_,_,_,hd,_⟩=>so hd) ?_ ?_⟩
 ·rintro k x σ Hi hx ⟨hs,gs,c,rfl,hH,hG,hD,hI,sm⟩;obtain ⟨hk,rfl⟩:=sF hx;rw [hA.1] at hk ⊢;obtain ⟨i₁,hi₁⟩:∃i,i=ws.length - 1 - k:=⟨_,rfl⟩;have hi:i₁<ws.length:=by omega
  have hst:=hI.step hAF hRn hk (by rw [← hi₁];exact pL hA i₁ hi);rw [← hi₁] at hst ⊢;obtain ⟨ta,hat,hT,ht⟩:=dD (hA.same sm) hi;have hAl:WeirsAt K Hi rs ws hs.length:=by rw [hI.lh];exact hA.same sm
  refine (jA rfl (jA rfl (jA rfl (⟨wq,hl,rs,ws,_,hs,i₁,rfl,sm.seq hW,hAl,.inl (so hH),hi,by rw [hI.lh];omega,?_⟩))));refine (jA rfl (jA rfl (⟨gp,_,_,_,rfl,rfl,hG,ZJ (by rw [ad,hI.lg];exact hi),?_⟩)));rw [cZ];have k1:∀o,Keep gp Hi (upd Hi gp o):=fun o=>(Keep.refl gp Hi).upd o
  have sG:∀o,Same H (upd Hi gp o):=fun o=>qI gf sm
  have hH':∀o,upd Hi gp o hl=some (.lst (hs.map V.int)):=fun o=>(k1 o) hl _ hlp' hH
  refine (jA rfl (jA rfl (jA rfl (⟨wq,_,_,_,rfl,rfl,(sG _).seq hW,hat,ta,_,_,_,rfl,rfl,(k1 _).sqt hG hT,rfl,kR (so (hH' _)) (zF (by rw [hI.lh];exact ht)) ((jA rfl (jA rfl (kR (so jE) (zF (by rw [aW,hI.lg];exact hi)) (j6 (⟨hl,_,_,_,rfl,rfl,hH' _,ZJ (by rw [ad,hI.lh];exact ht),?_⟩))))))⟩))));rw [cZ];refine ⟨_,_,jA rfl (⟨jE,?_,?_,hst,qI hhl (sG _)⟩)⟩
  ·rw [jL (Ne.symm hlp'),jE]
  ·rw [jL (Ne.symm dhl),jL (Ne.symm dgp),hD,hA.1]
 ·rintro σ Hi ⟨hs,gs,c,rfl,hH,hG,hD,hI,sm⟩;rw [ad,cX,hA.1] at hI;refine (jA rfl (?_));exact q gp Hi gs sm gf hG hI.spl
theorem oR:jV 2 ["weirs","waters","given"] cK:=jU
include T in
theorem AN (F:kK K "spill_pours" cK f fd) (xas:Def P w K mg base 2 "spills" ["weirs","waters"] [] (rO K)) (zj:Def P w K mg base 1 "last_first" ["weirs"] [] (mD K)):FnOk P w K mg base jO 3 f fd ["weirs","waters"] (rP K):=by
 refine F.ok2 oR fun vs H Q E h=>?_
 refine y9 h fun wq wa rs ws ms h=>?_
 refine vH h fun e_ hRd q=>?_
 subst e_;refine ⟨rfl,fun _ _ _ _ hr=>?_⟩;refine ⟨_,(@jG _ _ _ _ _ (jP 2 oR.nd (jM xas hr rfl (jB (pv 0) (jB (pv 1) jD))))
   (jQ (nS ["at","given","weirs"] [2,0] (vP (jT cK)) (yX (jM zj hr rfl (jB (pv 0) jD))) (fun _ _ _ _ _=>(lU (j8 eO (jK (kI K) (pv 1) (pv 0)) jC))) (fun _ _ _ _ _=>(kP (jZ (pv 0) (jK (j3 K) (jK (kI K) (pv 2) (pv 0)) jC) (jK (kI K) (pv 1) (pv 0)))))))),?_⟩
 try dsimp only [jX,jW]
 refine (jA rfl (jA rfl ((zD wq wa rs ws ms (qS rfl hRd (fun gp H1 gs s1 hgp0 hgp hS=>?_))))));obtain ⟨hW,hA,hM,hAh,hRn,hn⟩:=hRd.same s1;refine (jA rfl (⟨wq,rs,rfl,hW,by rw [hA.1];omega,fun df H2 s2 hdf0 hdf=>?_⟩));refine ⟨df,rfl,⟨_,so hdf⟩,fun D hD=>?_⟩;refine zT (K:=K) (a:=df) (xs:=(yK rs.length).map fun (i:Nat)=>V.int (i:Int)) (caps:=[some (.ref gp),some (.ref wq)]) (fun i ys Hi=>PoursH Hi ys (((JB (kZ ws) (fun a=>gs.getD a 0) ws.length).take i).filter yR) ms.length) hD (so hdf) (PoursH.nil _ _) ?_ ?_
 ·rintro i x ys Hi hx hi hle sm hY hR;obtain ⟨hk,rfl⟩:=sF hx;rw [hA.1] at hk ⊢;obtain ⟨i₁,hi₁⟩:∃i',i'=ws.length - 1 - i:=⟨_,rfl⟩;have hi':i₁<ws.length:=by omega
  rw [← hi₁];have s12:=s2.trans sm;obtain ⟨ta,hat,hT,ht⟩:=dD (hA.same s12) hi';have ef:((JB (kZ ws) (fun a=>gs.getD a 0) ws.length).take (i+1)).filter yR=((JB (kZ ws) (fun a=>gs.getD a 0) ws.length).take i).filter yR++[(i₁,kZ ws i₁,gs.getD i₁ 0)].filter yR:=by
   rw [aN,CM hk,← hi₁,filter_append];rfl
  refine (jA rfl (jA rfl (kR (so (s12 _ _ hgp)) (zF (by rw [hS.1];exact hi')) (⟨rfl,jA rfl (?_)⟩))))
  by_cases hz:gs.getD i₁ 0=0
  ·refine uO (bw V.int hz) (lF sm hY hle (Same.refl _) ?_);rw [ef,filter_cons,if_neg (by unfold yR;rw [aO (show gs.getD i₁ 0=0 from hz)];decide)];show PoursH Hi ys (_++[]) _;rw [bx];exact hR
  refine eS (fun e=>hz (V.int.inj e)) ?_;refine (jA rfl (jA rfl (jA rfl (⟨wq,_,_,_,rfl,rfl,s12.seq hW,hat,ta,_,_,_,rfl,rfl,hT,rfl,jA rfl (jA rfl (kR (so (s12 _ _ hgp)) (zF (by rw [hS.1];exact hi')) (⟨zz3,fun tp htp=>?_⟩)))⟩))));have st:=jJ htp (.tup [.int (i₁:Int),.int (kZ ws i₁:Int),.int (gs.getD i₁ 0)]);refine vZ hD sm hY hle (by omega) st ?_;rw [ef,filter_cons,if_pos (by unfold yR;rw [aK (show ¬gs.getD i₁ 0=0 from hz)];rfl)];exact ((hR.same st).snoc jE (by omega) ht).put (st _ _ hY)
 ·intro ys Hf sm hY hle hR;rw [ad,cX,hA.1,take_of_length_le (by unfold JB;rw [ad,cX];exact ai _)] at hR;have s12:=s2.trans sm;exact q D Hf gs ys (s1.trans s12) ((s1.trans s2).free hD) hY hR hS
theorem B1:jV 2 ["weirs","waters"] iD:=jU
include T in
theorem AM (F:kK K "settled" iD f fd) (zk:Def P w K mg base 1 "poured_all" ["waters","pours"] [] (mQ K)) (ux:Def P w K mg base 3 "spill_pours" ["weirs","waters"] [] (rP K)):FnOk P w K mg base jO 4 f fd ["weirs","waters"] (pT K):=by
 refine F.ok2 B1 fun vs H Q E h=>?_
 refine y9 h fun wq wa rs ws ms h=>?_
 refine vH h fun e_ hRd q=>?_
 subst e_;refine ⟨rfl,fun _ _ _ _ hr=>?_⟩;refine ⟨_,(jQ (jM zk hr rfl (jB (pv 1) (jB (jM ux hr rfl (jB (pv 0) (jB (pv 1) jD))) jD)))),?_⟩
 try dsimp only [jX,jW]
 obtain ⟨hW,hA,hM,hAh,hRn,hn⟩:=id hRd;refine (jA rfl (jA rfl (jA rfl ((zD wq wa rs ws ms (qS rfl hRd (fun p H1 gs ys s1 hp0 hp hP hS=>?_)))))));refine ⟨wa,p,ms,ys,jA rfl (⟨hM.same s1,so hp,hP.pa,hn,fun r H' s' hr0 hr=>?_⟩)⟩;rw [CZ (CW hRn (pL hA))] at hr;exact q r H' gs (s1.trans s') (s1.free hr0) hr hS
theorem BP:jV 5 ["self","name","high","low","room"] gC:=jU
include T in
theorem xI (F:Fun K "__init__" "PlainLock.__init__" gC f fd) : FnOk P w K mg base jO 1 f fd ["self","name","high","low","room"] (ZH (jH cP cB cU)):=by
 refine F.ok2 BP fun vs H Q E h=>?_
 refine QX h fun kd x dx n h₁ l r h=>?_
 refine vH h fun e_ hx q=>?_
 subst e_;refine ⟨rfl,fun _ _ _ _ hr=>?_⟩;refine ⟨_,(@jG _ _ _ _ _ (qR (pv 0) (pv 1) rfl)
   (@jG _ _ _ _ _ (qR (pv 0) (pv 2) rfl)
   (@jG _ _ _ _ _ (qR (pv 0) (pv 3) rfl)
   (@kB _ _ _ (qR (pv 0) (pv 4) rfl))))),?_⟩
 try dsimp only [jX,jW]
 refine (jA rfl (jA rfl (⟨x,_,dx,jA rfl (⟨hx,T.cl kd,T.wd kd,(by show 0<1000;decide),?_⟩)⟩)));refine (jA rfl (jA rfl (⟨x,_,dx,jA rfl (⟨jE,T.cl kd,T.zr kd,(by show 1<1000;decide),?_⟩)⟩)));refine (jA rfl (jA rfl (⟨x,_,dx,jA rfl (⟨jE,T.cl kd,T.vv kd,?_,?_⟩)⟩)))
 ·have:=yF "high" h₁ (jF "name" n []);have h2:(jF ("name":Str) n []).length=1:=rfl;omega
 refine (jA rfl (jA rfl (⟨x,_,dx,jA rfl (⟨jE,T.cl kd,T.xan kd,?_,?_⟩)⟩)))
 ·have:=yF "low" l (jF "high" h₁ (jF "name" n []));have h1:=yF "high" h₁ (jF "name" n []);have h2:(jF ("name":Str) n []).length=1:=rfl;omega
 exact q _ (((((Keep.refl x H).upd _).upd _).upd _).upd _) jE
theorem AY:jV 6 ["self","name","high","low","room","side"] fM:=jU
include T in
theorem wT (F:Fun K "__init__" "BasinLock.__init__" fM f fd) (xj:CmD P w K mg base 1 "PlainLock" cP "__init__" ["self","name","high","low","room"] (ZH (jH cP cB cU))):FnOk P w K mg base jO 2 f fd ["self","name","high","low","room","side"] (ZG (jH cP cB cU) .basin):=by
 refine F.ok2 AY fun vs H Q E h=>?_
 refine QX h fun x dx n h₁ l r v h=>?_
 refine vH h fun e_ hx q=>?_
 subst e_;refine ⟨rfl,fun _ _ _ _ hr=>?_⟩;refine ⟨_,(@jG _ _ _ _ _ (qE (sZ xj hr rfl (Q0 (pv 0) (pv 1) (pv 2) (pv 3) (pv 4))))
   (@kB _ _ _ (qR (pv 0) (pv 5) rfl))),?_⟩
 try dsimp only [jX,jW]
 refine (jA rfl (jA rfl (jA rfl (jA rfl (jA rfl (⟨.basin,x,dx,n,h₁,l,r,rfl,hx,fun H' kp hx'=>?_⟩))))));refine (jA rfl (jA rfl (⟨x,_,dx,jA rfl (⟨hx',T.cl .basin,T.xao,pE _ _ _ _,?_⟩)⟩)));exact q _ (kp.upd _) jE
theorem BQ:jV 6 ["self","name","high","low","room","lift"] gD:=jU
include T in
theorem xJ (F:Fun K "__init__" "PumpLock.__init__" gD f fd) (xj:CmD P w K mg base 1 "PlainLock" cP "__init__" ["self","name","high","low","room"] (ZH (jH cP cB cU))):FnOk P w K mg base jO 2 f fd ["self","name","high","low","room","lift"] (ZG (jH cP cB cU) .pump):=by
 refine F.ok2 BQ fun vs H Q E h=>?_
 refine QX h fun x dx n h₁ l r v h=>?_
 refine vH h fun e_ hx q=>?_
 subst e_;refine ⟨rfl,fun _ _ _ _ hr=>?_⟩;refine ⟨_,(@jG _ _ _ _ _ (qE (sZ xj hr rfl (Q0 (pv 0) (pv 1) (pv 2) (pv 3) (pv 4))))
   (@kB _ _ _ (qR (pv 0) (pv 5) rfl))),?_⟩
 try dsimp only [jX,jW]
 refine (jA rfl (jA rfl (jA rfl (jA rfl (jA rfl (⟨.pump,x,dx,n,h₁,l,r,rfl,hx,fun H' kp hx'=>?_⟩))))));refine (jA rfl (jA rfl (⟨x,_,dx,jA rfl (⟨hx',T.cl .pump,T.xap,pE _ _ _ _,?_⟩)⟩)));exact q _ (kp.upd _) jE
theorem BR:jV 7 ["self","name","least","crest","berths","water","target"] gE:=jU
include T in
theorem xK (F:Fun K "__init__" "Reach.__init__" gE f fd) : FnOk P w K mg base jO 1 f fd ["self","name","least","crest","berths","water","target"] (iU cR):=by
 refine F.ok2 BR fun vs H Q E h=>?_
 refine zQ h fun x dx v_name v_least v_crest v_berths v_water v_target h=>?_
 refine vH h fun e_ hx q=>?_
 subst e_;refine ⟨rfl,fun _ _ _ _ hr=>?_⟩;refine ⟨_,(@jG _ _ _ _ _ (qR (pv 0) (pv 1) rfl)
   (@jG _ _ _ _ _ (qR (pv 0) (pv 2) rfl)
   (@jG _ _ _ _ _ (qR (pv 0) (pv 3) rfl)
   (@jG _ _ _ _ _ (qR (pv 0) (pv 4) rfl)
   (@jG _ _ _ _ _ (qR (pv 0) (pv 5) rfl)
   (@kB _ _ _ (qR (pv 0) (pv 6) rfl))))))),?_⟩
 try dsimp only [jX,jW]
 have ln:∀(f:Str) (z:V) (fs:List (Str×V)) (m:Nat),fs.length≤m→(jF f z fs).length≤m+1:=fun f z fs m h=>aR (yF f z fs) (by omega)
 have l0:([]:List (Str×V)).length≤0:=ai _;refine (jA rfl (jA rfl (⟨x,cR,dx,jA rfl (⟨hx,T.clR,T.xy,by omega,?_⟩)⟩)));have l1:=ln "name" v_name _ _ l0;refine (jA rfl (jA rfl (⟨x,cR,dx,jA rfl (⟨jE,T.clR,T.zi,by omega,?_⟩)⟩)));have l2:=ln "least" v_least _ _ l1;refine (jA rfl (jA rfl (⟨x,cR,dx,jA rfl (⟨jE,T.clR,T.za,by omega,?_⟩)⟩)));have l3:=ln "crest" v_crest _ _ l2;refine (jA rfl (jA rfl (⟨x,cR,dx,jA rfl (⟨jE,T.clR,T.xp,by omega,?_⟩)⟩)));have l4:=ln "berths" v_berths _ _ l3;refine (jA rfl (jA rfl (⟨x,cR,dx,jA rfl (⟨jE,T.clR,T.zc,by omega,?_⟩)⟩)));have l5:=ln "water" v_water _ _ l4;refine (jA rfl (jA rfl (⟨x,cR,dx,jA rfl (⟨jE,T.clR,T.xq,by omega,?_⟩)⟩)));have l6:=ln "target" v_target _ _ l5;exact q _ _ (((((((Keep.refl x H).upd _).upd _).upd _).upd _).upd _).upd _) jE (DG _ _ _ _ _ _)
theorem BI:jV 4 ["self","reaches","locks","nights"] QG:=jU
include T in
theorem xA {ds:List Value} (F:FunD K "__init__" "Canal.__init__" QG f fd ds) : FnOk P w K mg base jO 1 f fd ["self","reaches","locks","nights"] (iV (jH cP cB cU) cR cN):=by
 refine F.ok2 BI fun vs H Q E h=>?_
 refine zO h fun x dx rl ll nv rs ls R L N h=>?_
 refine JZ h fun e_ hx hrl hll hR hL hN q=>?_
 subst e_;refine ⟨rfl,fun _ _ _ _ hr=>?_⟩;refine ⟨_,(@jG _ _ _ _ _ (qR (pv 0) (qM (yY K) (by rfl) T.xi aI (jB (pv 1) jD)) rfl)
   (@jG _ _ _ _ _ (qR (pv 0) (qM (yY K) (by rfl) T.xi aI (jB (pv 2) jD)) rfl)
   (@kB _ _ _ (qR (pv 0) (dO (j8 t7 (pv 3) mI) (kL jD) (QW ["night"] [] (vP (jT QG)) (yX (pv 3)) (fun _ _ _ _ _=>(qM (yY K) (by rfl) T.xi aI (jB (pv 0) jD))))) rfl)))),?_⟩
 try dsimp only [jX,jW]
 have ln:∀(f:Str) (z:V) (fs:List (Str×V)) (m:Nat),fs.length≤m→(jF f z fs).length≤m+1:=fun f z fs m h=>aR (yF f z fs) (by omega)
 have nrx:rl≠x:=qF hrl hx (fun z=>nomatch z);have nlx:ll≠x:=qF hll hx (fun z=>nomatch z);refine (jA rfl (⟨rl,jA rfl (⟨.inl (so hrl),fun r2 hr20=>?_⟩)⟩));have s1:=jJ hr20 (.lst rs);have nr2:r2≠x:=(kE hx hr20).symm;refine (jA rfl (⟨x,cN,dx,jA rfl (⟨s1 _ _ hx,T.clN,T.xf,(by show 0<1000;decide),?_⟩)⟩));have k1:Keep x H (upd (upd H r2 (.lst rs)) x (.ins cN dx (jF "reaches" (.ref r2) []))):=(Keep.of s1).upd _;have hr2:upd (upd H r2 (.lst rs)) x (.ins cN dx (jF "reaches" (.ref r2) [])) r2=some (.lst rs):=by rw [jL nr2];exact jE
 have hx1:upd (upd H r2 (.lst rs)) x (.ins cN dx (jF "reaches" (.ref r2) [])) x=some (.ins cN dx (jF "reaches" (.ref r2) [])):=jE;generalize upd (upd H r2 (.lst rs)) x (.ins cN dx (jF "reaches" (.ref r2) []))=H1 at k1 hr2 hx1 ⊢;have l1:=ln "reaches" (.ref r2) [] 0 (ai _);refine (jA rfl (⟨ll,jA rfl (⟨.inl (so (k1 _ _ nlx hll)),fun l2 hl20=>?_⟩)⟩));have s2:=jJ hl20 (.lst ls);have nl2:l2≠x:=(kE hx1 hl20).symm;refine (jA rfl (⟨x,cN,dx,jA rfl (⟨s2 _ _ hx1,T.clN,T.xc,by omega,?_⟩)⟩));have l2':=ln "locks" (.ref l2) _ _ l1;have k2:Keep x H (upd (upd H1 l2 (.lst ls)) x (.ins cN dx (jF "locks" (.ref l2) (jF "reaches" (.ref r2) [])))):=(k1.trans (Keep.of s2)).upd _;have hr2b:upd (upd H1 l2 (.lst ls)) x (.ins cN dx (jF "locks" (.ref l2) (jF "reaches" (.ref r2) []))) r2=some (.lst rs):=by rw [jL nr2];exact s2 _ _ hr2
 have hl2:upd (upd H1 l2 (.lst ls)) x (.ins cN dx (jF "locks" (.ref l2) (jF "reaches" (.ref r2) []))) l2=some (.lst ls):=by rw [jL nl2];exact jE
 have hx2:upd (upd H1 l2 (.lst ls)) x (.ins cN dx (jF "locks" (.ref l2) (jF "reaches" (.ref r2) []))) x=some (.ins cN dx (jF "locks" (.ref l2) (jF "reaches" (.ref r2) []))):=jE;generalize upd (upd H1 l2 (.lst ls)) x (.ins cN dx (jF "locks" (.ref l2) (jF "reaches" (.ref r2) [])))=H2 at k2 hr2b hl2 hx2 ⊢;have frR:∀D:List Addr,(∀d∈D,H d≠none)→r2∉D:=fun D hD z=>hD _ z hr20
 have frL:∀D:List Addr,(∀d∈D,H d≠none)→l2∉D:=fun D hD z=>by
  by_cases e:l2=x
  ·exact nl2 e
  ·cases hh:H l2 with
   |none=>exact hD _ z hh
   |some o=>rw [k1 _ _ e hh] at hl20;cases hl20
 have done:∀(n2:Addr) (ns:List V) (H3:Hp),Keep x H2 H3→H2 n2=none→H3 x=some (.ins cN dx (jF "locks" (.ref l2) (jF "reaches" (.ref r2) [])))→H3 n2=some (.lst ns)→(∀D:List Addr,(∀d∈D,H2 d≠none)→AllAt (NAt D H3) ns N)→Q .non (upd H3 x (.ins cN dx (jF "nights" (.ref n2) (jF "locks" (.ref l2) (jF "reaches" (.ref r2) []))))):=by
  intro n2 ns H3 k3 hn20 hx3 hn2 hNs;have kf:Keep x H (upd H3 x (.ins cN dx (jF "nights" (.ref n2) (jF "locks" (.ref l2) (jF "reaches" (.ref r2) []))))):=(k2.trans k3).upd _;have kl:Keep x H3 (upd H3 x (.ins cN dx (jF "nights" (.ref n2) (jF "locks" (.ref l2) (jF "reaches" (.ref r2) []))))):=(Keep.refl x H3).upd _;have nn2:n2≠x:=fun z=>by rw [z,hx2] at hn20;cases hn20
  have old:∀d,H d≠none→H2 d≠none:=fun d hd=>by
   by_cases e:d=x
   ·rw [e,hx2];exact fun z=>nomatch z
   ·cases hh:H d with
    |none=>exact absurd hh hd
    |some o=>rw [k2 _ _ e hh];exact fun z=>nomatch z
  refine q _ kf fun D hD=>⟨dx,r2,l2,n2,_,rs,ls,ns,jE,DH _ _ _,?_,?_,?_,hR.mono (RcO.keepI kf hx),hL.mono (LkO.keepI kf hx),?_,frR D hD,frL D hD,fun z=>old _ (hD _ z) hn20⟩
  ·rw [jL nr2];exact k3 _ _ nr2 hr2b
  ·rw [jL nl2];exact k3 _ _ nl2 hl2
  ·rw [jL nn2];exact hn2
  ·refine (hNs D (fun d hd=>old d (hD d hd))).mono ?_;rintro v p ⟨l,qs,e1,e2,e3,e4⟩;exact ⟨l,qs,e1,kl _ _ (fun z=>by rw [z,hx3] at e2;cases e2) e2,e3.mono (QAt.keep kl hx3 (fun _ z=>nomatch z)),e4⟩
 refine ⟨_,rfl,rfl,jA rfl (?_)⟩
 rcases hN with ⟨rfl,rfl⟩|⟨nl,ns,rfl,hnl,hN,hnl100⟩
 ·refine qQ rfl ⟨zz0,fun n2 hn20=>?_⟩;have s3:=jJ hn20 (.lst []);refine (jA rfl (⟨x,cN,dx,jA rfl (⟨s3 _ _ hx2,T.clN,T.xv,by omega,?_⟩)⟩));exact done n2 [] _ (Keep.of s3) hn20 (s3 _ _ hx2) jE (fun D _=>AllAt.nil)
 ·have nnx:nl≠x:=qF hnl hx (fun z=>nomatch z);have hnl2:=k2 _ _ nnx hnl;have hN2:AllAt (NAt [] H2) ns N:=hN.mono fun v p=>by
   rintro ⟨l,qs,e1,e2,e3,e4⟩;exact ⟨l,qs,e1,k2 _ _ (qF e2 hx (fun z=>nomatch z)) e2,e3.mono (QAt.keep k2 hx (fun _ z=>nomatch z)),e4⟩
  refine q8 (fun z=>nomatch z) (jA rfl (⟨nl,rfl,⟨_,so hnl2⟩,fun n2 hn20=>?_⟩));refine zT (K:=K) (a:=nl) (xs:=ns) (caps:=[]) (fun i ys Hi=>(∀D:List Addr,n2∈D→(∀d∈D,d≠n2→H2 d≠none)→AllAt (NAt D Hi) ys (N.take i))) hn20 (so hnl2) (fun D _ _=>AllAt.nil) ?_ ?_
  ·rintro i v ys Hi hv hi hle sm hY hI;obtain ⟨p,hp,l,qs,rfl,hl,hq,_⟩:=hN2.2 i v hv;refine yI (qL ?_);refine (jA rfl (⟨l,qs,rfl,.inl (so (sm _ _ hl)),fun c hc0=>?_⟩));have u:=jJ hc0 (.lst qs);refine vZ hn20 sm hY hle (by omega) u ?_;intro D hnD hD;rw [aN,hp];refine (((hI D hnD hD).mono (NAt.same u)).snoc (v:=.ref c) (x:=p) ⟨c,qs,rfl,jE,(hq.mono (QAt.same sm)).mono (QAt.same u),fun z=>?_⟩).mono (NAt.put (u _ _ hY) hnD)
   by_cases e:c=n2
   ·rw [e,hY] at hc0;cases hc0
   ·cases hh:H2 c with
    |none=>exact hD _ z e hh
    |some o=>rw [sm _ _ hh] at hc0;cases hc0
  rintro ys H3 s3 hY hle hI;rw [hN2.1,aV] at hI;refine (jA rfl (⟨x,cN,dx,jA rfl (⟨s3 _ _ hx2,T.clN,T.xv,by omega,?_⟩)⟩));exact done n2 ys H3 (Keep.of s3) hn20 (s3 _ _ hx2) hY (fun D hD=>(hI (n2::D) aQ (fun d hd ne=>(am.mp hd).elim (fun z=>absurd z ne) (hD d))).mono (NAt.less (fun d hd=>aC _ hd)))
theorem BM:jV 1 ["self"] gA:=jU
include T in
theorem xE (F:Fun K "sea" "Canal.sea" gA f fd) : FnOk P w K mg base jO 1 f fd ["self"] (QV (jH cP cB cU) cR cN y7):=by
 refine F.ok2 BM fun vs H Q E h=>?_
 refine y9 h fun x D R L N h=>?_
 refine vH h fun e_ p0_ q=>?_
 subst e_;obtain ⟨dx,rl,ll,nl,fs,rs,ls,ns,hx,hf,hrl,hll,hnl,hR,hL,hN,d1,d2,d3⟩:=p0_;refine ⟨rfl,fun _ _ _ _ hr=>?_⟩;refine ⟨_,(jQ (@jI _ _ _ _ _ _ _ _ kG (vA K T.xh (j7 K (pv 0) rfl)) (@jI _ _ _ _ _ _ _ _ kQ jC (vA K T.xh (j7 K (pv 0) rfl))))),?_⟩
 try dsimp only [jX,jW]
 refine (jA rfl (kC hx (T.clN) (T.xf) (hf.1) (⟨_,jA rfl (⟨.inl (so hrl),jA rfl (kC hx (T.clN) (T.xc) (hf.2.1) (⟨_,jA rfl (⟨.inl (so hll),_,_,rfl,rfl,.inl ⟨by decide,by decide⟩,_,_,rfl,rfl,?_⟩)⟩))⟩)⟩)));rw [hR.1,hL.1];exact q
theorem BN:jV 1 ["self"] gB:=jU
include T in
theorem xF (F:Fun K "sky" "Canal.sky" gB f fd) (zm:MeD P w K mg base 1 cN "sea" ["self"] (QV (jH cP cB cU) cR cN y7)):FnOk P w K mg base jO 2 f fd ["self"] (QV (jH cP cB cU) cR cN uV):=by
 refine F.ok2 BN fun vs H Q E h=>?_
 refine y9 h fun x D R L N h=>?_
 refine vH h fun e_ hc q=>?_
 subst e_;refine ⟨rfl,fun _ _ _ _ hr=>?_⟩;refine ⟨_,(jQ (@jI _ _ _ _ _ _ _ _ kG (qO zm hr (pv 0)) jC)),?_⟩
 try dsimp only [jX,jW]
 have hc0:=hc;obtain ⟨dx,rl,ll,nl,fs,rs,ls,ns,hx,hf,hrl,hll,hnl,hR,hL,hN,d1,d2,d3⟩:=hc;exact (jA rfl (⟨x,dx,jA rfl (⟨hx,hf.no (by decide +kernel) (by decide +kernel) (by decide +kernel),x,D,R,L,N,rfl,hc0,_,_,rfl,rfl,q⟩)⟩))
theorem BK:jV 1 ["self"] fY:=jU
include T in
theorem xC (F:Fun K "many" "Canal.many" fY f fd) (jj:MeD P w K mg base 2 cN "sky" ["self"] (QV (jH cP cB cU) cR cN uV)):FnOk P w K mg base jO 3 f fd ["self"] (QV (jH cP cB cU) cR cN eP):=by
 refine F.ok2 BK fun vs H Q E h=>?_
 refine y9 h fun x D R L N h=>?_
 refine vH h fun e_ hc q=>?_
 subst e_;refine ⟨rfl,fun _ _ _ _ hr=>?_⟩;refine ⟨_,(jQ (@jI _ _ _ _ _ _ _ _ kG (qO jj hr (pv 0)) jC)),?_⟩
 try dsimp only [jX,jW]
 have hc0:=hc;obtain ⟨dx,rl,ll,nl,fs,rs,ls,ns,hx,hf,hrl,hll,hnl,hR,hL,hN,d1,d2,d3⟩:=hc;exact (jA rfl (⟨x,dx,jA rfl (⟨hx,hf.no (by decide +kernel) (by decide +kernel) (by decide +kernel),x,D,R,L,N,rfl,hc0,_,_,rfl,rfl,q⟩)⟩))
theorem BO:jV 1 ["self"] cE:=jU
include T in
theorem xH (F:Fun K "weirs" "Canal.weirs" cE f fd) (zm:MeD P w K mg base 1 cN "sea" ["self"] (QV (jH cP cB cU) cR cN y7)):FnOk P w K mg base jO 2 f fd ["self"] (rN (jH cP cB cU) cR cN):=by
 refine F.ok2 BO fun vs H Q E h=>?_
 refine y9 h fun x D R L N h=>?_
 refine wD h fun e_ hc hR100 q=>?_
 subst e_;refine ⟨rfl,fun _ _ _ _ hr=>?_⟩;refine ⟨_,(jQ (QW ["reach","self"] [0] (vP (jT cE)) (yX (j7 K (pv 0) rfl)) (fun _ _ _ _ _=>(kP (jB (j7 K (pv 0) rfl) (jB (dO (j8 kO (j7 K (pv 0) rfl) (yZ (v:=.int (-1)) rfl T.xaK ⟨_,rfl⟩)) (qO zm hr (pv 1)) (j7 K (pv 0) rfl)) jD)))))),?_⟩
 try dsimp only [jX,jW]
 have hc0:=hc;obtain ⟨dx,rl,ll,nl,fs,rs,ls,ns,hx,hf,hrl,hll,hnl,hR,hL,hN,d1,d2,d3⟩:=hc;refine (jA rfl (kC hx (T.clN) (T.xf) (hf.1) (⟨rl,rfl,⟨_,so hrl⟩,fun wl hwl0=>?_⟩)));refine zT (K:=K) (a:=rl) (xs:=rs) (caps:=[some (.ref x)]) (fun i ys Hi=>AllAt (QAt Hi) ys ((R.take i).map (zG (y7 R.length L.length)))) hwl0 (so hrl) AllAt.nil ?_ ?_
 ·rintro i v ys Hi hv hi hle sm hY hW;obtain ⟨r,hr,y,rfl,dy,gs,hy,hg⟩:=hR.2 i v hv;have hy:=sm _ _ hy;have hi100:i<100:=by rw [hR.1] at hi;omega
  refine yI (qL ?_);refine (jA rfl (kC hy (T.clR) (T.za) (hg.2.2.1) ((jA rfl (kC hy (T.clR) (T.xq) (hg.2.2.2.2.2) (⟨rfl,jA rfl (?_)⟩))))));have put:∀z:Int,z=(zG (y7 R.length L.length) r).2→∀tp,Hi tp=none→∃ys',upd Hi tp (.tup [.int r.crest,.int z]) wl=some (.lst ys')∧ys'.length<sizeLine∧v9 H wl [some (.ref x)] (fun i ys Hi=>AllAt (QAt Hi) ys ((R.take i).map (zG (y7 R.length L.length)))) (i+1) [some (.ref y),some (.ref x)] (upd (upd Hi tp (.tup [.int r.crest,.int z])) wl (.lst (ys'++[.ref tp]))):=by
   intro z hz tp htp;have u:=jJ htp (.tup [V.int r.crest,V.int z]);exact vZ (R:=fun i ys Hi=>AllAt (QAt Hi) ys ((R.take i).map (zG (y7 R.length L.length)))) (c:=some (.ref y)) (caps:=[some (.ref x)]) (v:=.ref tp) hwl0 sm hY hle (by omega) u (by
    rw [aN,hr,aL];exact ((hW.mono (QAt.same u)).snoc (v:=.ref tp) (x:=zG (y7 R.length L.length) r) ⟨tp,rfl,by rw [← hz];exact jE⟩).mono (QAt.put (u _ _ hY)))
  by_cases ht:r.target = -1
  ·refine qQ (bw V.int ht) (jA rfl (⟨x,dx,jA rfl (⟨(sm _ _ hx),hf.no (by decide +kernel) (by decide +kernel) (by decide +kernel),zD x D R L N (Z1 rfl (hc0.same sm) zz2 (fun tp htp=>?_))⟩)⟩));exact put _ (by unfold zG;rw [if_pos ht]) tp htp
  ·refine q8 (fun z=>ht (V.int.inj z)) (jA rfl (kC hy (T.clR) (T.xq) (hg.2.2.2.2.2) (⟨zz2,fun tp htp=>?_⟩)));exact put _ (by unfold zG;rw [if_neg ht]) tp htp
 rintro ys Hf sm hY hle hW;rw [hR.1,aV] at hW;exact q wl ys Hf sm hwl0 hY hW
theorem iL:jV 1 ["self","waters","others"] cD:=jU
include T in
theorem xG (F:Fun K "start" "Canal.start" cD f fd) (uy:MeD P w K mg base 3 cN "many" ["self"] (QV (jH cP cB cU) cR cN eP)) (xak:Def P w K mg base 4 "settled" ["weirs","waters"] [] (pT K)) (wm:MeD P w K mg base 2 cN "weirs" ["self"] (rN (jH cP cB cU) cR cN)):FnOk P w K mg base jO 5 f fd ["self"] (lI (jH cP cB cU) cR cN):=by
 refine F.ok2 iL fun vs H Q E h=>?_
 refine y9 h fun x D R L N h=>?_
 refine zJ h fun e_ hc hR100 hL100 hT q=>?_
 subst e_;refine ⟨rfl,fun _ _ _ _ hr=>?_⟩;refine ⟨_,(@jG _ _ _ _ _ (Z7 (i:=1) ["reach"] (vO 1 []) iL.nd rfl (.inl rfl) rfl (vP (jT cD)) (cps 1 []) (yX (j7 K (pv 0) rfl)) (fun _ _ _ _ _=>(qD (i:=0) (show List.Nodup (["reach"]:List Str) from by decide +kernel) rfl (.inl rfl))) (fun _ _ _ _ _=>zU) (fun _ _ _ _ _=>(j7 K (pv 0) rfl)))
   (@jG _ _ _ _ _ (jP 2 iL.nd (@jI _ _ _ _ _ _ _ _ t6 (kL (jB jC jD)) (@jI _ _ _ _ _ _ _ _ zM (qO uy hr (pv 0)) (vA K T.xh (pv 1)))))
   (jQ (jM xak hr rfl (jB (qO wm hr (pv 0)) (jB (@jI _ _ _ _ _ _ _ _ t9 (pv 1) (pv 2)) jD)))))),?_⟩
 try dsimp only [jX,jW]
 have hc0:=hc;obtain ⟨dx,rl,ll,nl,fs,rs,ls,ns,hx,hf,hrl,hll,hnl,hR,hL,hN,d1,d2,d3⟩:=hc;refine (jA rfl (kC hx (T.clN) (T.xf) (hf.1) (⟨rl,rfl,⟨_,so hrl⟩,fun wl hwl0=>?_⟩)));refine zT (K:=K) (a:=rl) (xs:=rs) (caps:=[]) (fun i ys Hi=>ys=((R.take i).map (·.water)).map V.int) hwl0 (so hrl) rfl ?_ ?_
 ·rintro i v ys Hi hv hi hle sm hY rfl;obtain ⟨r,hr,y,rfl,dy,gs,hy,hg⟩:=hR.2 i v hv;have hy:=sm _ _ hy;have hi100:i<100:=by rw [hR.1] at hi;omega
  refine yI (qL (jA rfl (kC hy (T.clR) (T.zc) (hg.2.2.2.2.1) (vZ hwl0 sm hY hle (by omega) (Same.refl _) ?_))));rw [aN,hr,aL,aL];rfl
 rintro ys H1 s1 hwl hle rfl;rw [hR.1,aV] at hwl;refine ⟨zz1,fun lp hlp=>?_⟩;have s2:=jJ hlp (.lst [V.int 0]);have s12:=s1.trans s2;refine (jA rfl (⟨x,dx,jA rfl (⟨(s12 _ _ hx),hf.no (by decide +kernel) (by decide +kernel) (by decide +kernel),zD x D R L N (qS rfl (hc0.same s12) (jA rfl (⟨wl,jA rfl (⟨.inl (so (s2 _ _ hwl)),_,_,rfl,rfl,?_⟩)⟩)))⟩)⟩));have e1:eP R.length L.length - (((((R.map (·.water)).map V.int).length:Nat)):Int)=((2*L.length+2:Nat):Int):=by
  rw [ad,ad];unfold eP;omega
 try dsimp only
 rw [e1];refine ⟨lp,_,_,rfl,rfl,jE,by omega,by omega,?_,fun gp hgp=>?_⟩
 ·rw [aD,bf,Nat.one_mul];exact small (by omega)
 rw [aD,rV];have s3:=jJ hgp (.lst ((List.replicate (2*L.length+2) (0:Int)).map V.int));have s13:=s12.trans s3;have hgp3:upd (upd H1 lp (.lst [V.int 0])) gp (.lst ((List.replicate (2*L.length+2) (0:Int)).map V.int)) gp=_:=jE;have hwl3:=s3 _ _ (s2 _ _ hwl);generalize upd (upd H1 lp (.lst [V.int 0])) gp (.lst ((List.replicate (2*L.length+2) (0:Int)).map V.int))=H3 at s3 s13 hgp3 hwl3 ⊢;refine (jA rfl (⟨x,dx,jA rfl (⟨(s13 _ _ hx),hf.no (by decide +kernel) (by decide +kernel) (by decide +kernel),zD x D R L N (Z1 rfl (hc0.same s13) hR100 (fun wq ws H4 s4 hwq0 hwq hW=>?_))⟩)⟩));refine (jA rfl (jA rfl (⟨wl,gp,_,_,rfl,rfl,s4 _ _ hwl3,s4 _ _ hgp3,?_,fun al hal=>?_⟩)))
 ·rw [ad,ad,ad,aZ];exact small (by omega)
 have e2:(R.map (·.water)).map V.int++(List.replicate (2*L.length+2) (0:Int)).map V.int=(qZ R L.length).map V.int:=by unfold qZ;rw [aL]
 rw [e2];have s5:=jJ hal (.lst ((qZ R L.length).map V.int));have s15:=(s13.trans s4).trans s5;refine ⟨wq,al,ws,qY R L.length,qZ R L.length,rfl,⟨so (s5 _ _ hwq),EL hT (hW.mono (QAt.same s5)),.inl (so jE),oX hT,by rw [i3,dB];omega,by rw [dB];omega⟩,fun r H' gs s' hr0 hr hSp=>?_⟩;exact q r H' gs (s15.trans s') (s15.free hr0) hr hSp
theorem B2:jV 2 ["lock","side"] iG:=jU
include T in
theorem AR (F:kK K "step_ends" iG f fd) : FnOk P w K mg base jO 1 f fd ["lock","side"] (tU (jH cP cB cU)):=by
 refine F.ok2 B2 fun vs H Q E h=>?_
 refine wA h fun y l b h=>?_
 refine vH h fun e_ p0_ q=>?_
 subst e_;obtain ⟨y₂,e,dl,hl⟩:=p0_;refine ⟨rfl,fun _ _ _ _ hr=>?_⟩;refine ⟨_,(jQ (dO (j8 kO (pv 1) jS) (kP (jB (j7 K (pv 0) rfl) (jB (j7 K (pv 0) rfl) jD))) (kP (jB (j7 K (pv 0) rfl) (jB (j7 K (pv 0) rfl) jD))))),?_⟩
 try dsimp only [jX,jW]
 cases e;refine ⟨_,rfl,rfl,jA rfl (?_)⟩;rw [uD];cases b with
 |true=>exact qL (jA rfl (kC hl (T.cl l.kd) (T.vv l.kd) (ZP l.kd _ _ _ _ _) ((jA rfl (kC hl (T.cl l.kd) (T.zr l.kd) (ZK l.kd _ _ _ _ _) (⟨zz2,fun t ht=>q t _ (jJ ht _) ht jE⟩))))))
 |false=>exact qH (jA rfl (kC hl (T.cl l.kd) (T.zr l.kd) (ZK l.kd _ _ _ _ _) ((jA rfl (kC hl (T.cl l.kd) (T.vv l.kd) (ZP l.kd _ _ _ _ _) (⟨zz2,fun t ht=>q t _ (jJ ht _) ht jE⟩))))))
theorem Z4:jV 3 ["canal","start","steps","along","k","side","ends"] gW:=jU
include T in
theorem AE (F:kK K "linked" gW f fd) (jw:Def P w K mg base 1 "step_ends" ["lock","side"] [] (tU (jH cP cB cU))):FnOk P w K mg base (kF P w) 2 f fd ["canal","start","steps"] (lJ K (jH cP cB cU) cR cN eL):=by
 refine F.okX2 Z4 fun vs H Q E h=>?_
 refine u9 h fun x st s₁ us ps D R L N h=>?_
 refine JZ h fun e_ p0_ hst hP hlt h100 qv qe=>?_
 subst e_;obtain ⟨dx,rl,ll,nl,fs,rs,ls,ns,hx,hf,hrl,hll,hnl,hR,hL,hN,d1,d2,d3⟩:=p0_;refine ⟨rfl,fun _ _ _ _ hr=>?_⟩;refine ⟨_,(@jG _ _ _ _ _ (jP 3 Z4.nd (kL (jB (pv 1) jD)))
   (@jG _ _ _ _ _ (zH t0 rfl (bK (pv 2)) (dZ rfl (yM (qD (i:=4) Z4.nd rfl (.inl rfl)) (yM (qD (i:=5) Z4.nd rfl (.inl rfl)) ZI)))
    (@jG _ _ _ _ _ (jP 6 Z4.nd (jM jw hr rfl (jB (jK (kI K) (j7 K (pv 0) rfl) (pv 4)) (jB (pv 5) jD))))
   (@jG _ _ _ _ _ (j9 (j8 eO (jK (j3 K) (pv 6) jC) (jK (kI K) (pv 3) (mT mC jC))) (@kB _ _ _ (ZF ZC rfl rfl T.zv T.vx (jB jS jD))) kD)
   (@kB _ _ _ (qE (qP ak av aw vC (pv 3) (jB (jK (j3 K) (pv 6) jC) jD)))))))
   (jQ (pv 3)))),?_⟩
 try dsimp only [jX,jW]
 refine (jA rfl (⟨zz1,fun al hal0=>?_⟩));have s1:=jJ hal0 (.lst [V.int s₁]);refine ⟨_,rfl,st,rfl,⟨_,SqT.of (s1 _ _ hst)⟩,tI (K:=K) (a:=st) (xs:=us) (fun i σ Hi=>∃c4 c5 c6:Option V,σ=[some (.ref x),some (.int s₁),some (.ref st),some (.ref al),c4,c5,c6]∧Hi al=some (.lst ((qC L s₁ (ps.take i)).map V.int))∧(∀(j:Nat) (p:Nat×Bool),j<i→ps[j]?=some p→(qC L s₁ ps)[j]?=some (vB L p).1)∧Same H Hi)
  (bW none none none (Z1 rfl jE (fun j p hj=>absurd hj (cm j)) s1)) (fun i σ Hi _ ⟨_,_,_,_,_,_,s⟩=>SqT.of (s _ _ hst)) ?_ ?_⟩
 ·rintro i v σ Hi hv ⟨c4,c5,c6,rfl,hal,hok,sm⟩;obtain ⟨⟨pk,pb⟩,hp,t,rfl,ht⟩:=hP.2 i v hv;have hpl:pk<L.length:=hlt _ (aP hp);have hi:i<ps.length:=(ag.mp hp).1;obtain ⟨l,hl'⟩:∃l,L[pk]?=some l:=⟨_,aa hpl⟩;obtain ⟨w,hw,y,rfl,dl,hl⟩:=hL.get hl';have hdl:(qC L s₁ (ps.take i)).length=i+1:=by rw [QK,cu];omega
  obtain ⟨z,hz⟩:∃z,(qC L s₁ (ps.take i))[i]?=some z:=⟨_,aa (by omega)⟩;have hlast:qU ((qC L s₁ (ps.take i)).map V.int) (-1)=some (.int z):=atI_last (n:=i) (by rw [ad,hdl]) (by rw [ax,hz];rfl);refine ⟨t,jA rfl (⟨SqT.of (sm _ _ ht),rfl,_,jA rfl (⟨_,_,rfl,rfl,?_⟩)⟩)⟩;refine (jA rfl (kC ((sm _ _ hx)) (T.clN) (T.xc) (hf.2.1) ((jA rfl (kR (so (sm _ _ hll)) (qN hw) ((jA rfl ((bW y l pb (qS rfl ⟨y,rfl,dl,sm _ _ hl⟩ (fun te He se hte0 hte=>?_)))))))))));have smE:=sm.trans se;have halE:=se _ _ hal;have ee:vB L (pk,pb)=(if pb then l.low else l.high,if pb then l.high else l.low):=by cases pb;exact JA hl';exact JD hl'
  have hdue:(qC L s₁ ps)[i]?=some z:=by rw [tJ (by omega)];exact hz
  refine (jA rfl (j5 (SqT.of hte) rfl ((jA rfl (jA rfl (kR (so halE) hlast (⟨rfl,jA rfl (?_)⟩)))))))
  by_cases h:(if pb then l.low else l.high)=z
  ·refine uO (bw V.int h) ?_;refine (jA rfl (⟨.inl ⟨rfl,_,so halE⟩,jA rfl (j5 (SqT.of hte) rfl (⟨al,_,_,rfl,rfl,halE,vL (by rw [ad,hdl];omega),?_⟩))⟩));refine ⟨_,_,jA rfl (⟨?_,fun j p hj hpj=>?_,qI hal0 smE⟩)⟩
   ·rw [jE,aN,hp];show _=some (HO.lst ((qC L s₁ (ps.take i++[(pk,pb)])).map V.int));rw [dH,aL,ee];rfl
   ·by_cases c:j=i
    ·subst c;rw [hp] at hpj;cases hpj;rw [hdue,ee,h]
    ·exact hok j p (by omega) hpj
  ·refine eS (fun e=>h (V.int.inj e)) ⟨by show 1≤sizeLine;decide,qe (fun ok=>h ?_) _ smE⟩;have:=ok i _ hp;rw [hdue,ee] at this;exact (az this).symm
 rintro σ Hi ⟨c4,c5,c6,rfl,hal,hok,sm⟩;rw [hP.1,aV] at hal;exact (jA rfl (qv (fun j p hp=>hok j p (by rw [hP.1];exact (ag.mp hp).1) hp) al Hi sm hal0 hal))
theorem B3:jV 2 ["way","place"] iH:=jU
include T in
theorem AS (F:kK K "steps_to_do" iH f fd) : FnOk P w K mg base jO 1 f fd ["way","place"] (tS):=by
 refine F.ok2 B3 fun vs H Q E h=>?_
 refine wA h fun t y p h=>?_
 refine vH h fun e_ p0_ q=>?_
 subst e_;obtain ⟨t₂,st,us,e,h1,h2,h3⟩:=p0_;refine ⟨rfl,fun _ _ _ _ hr=>?_⟩;refine ⟨_,(jQ (@jI _ _ _ _ _ _ _ _ zM (vA K T.xh (jK (j3 K) (pv 0) jC)) (pv 1))),?_⟩
 try dsimp only [jX,jW]
 cases e;refine (jA rfl (j5 (SqT.of h1) rfl (⟨st,jA rfl (⟨.inr (SqT.of h2),jA rfl (j6 (?_))⟩)⟩)));rw [h3.1];exact q
theorem BZ:jV 3 ["canal","way","place"] iA:=jU
include T in
theorem AJ (F:kK K "reach_of" iA f fd) (uz:Def P w K mg base 1 "steps_to_do" ["way","place"] [] (tS)) (xat:Def P w K mg base 2 "linked" ["canal","start","steps"] [] (lD K (jH cP cB cU) cR cN)):FnOk P w K mg base jO 3 f fd ["canal","way","place"] (pV (jH cP cB cU) cR cN):=by
 refine F.ok2 BZ fun vs H Q E h=>?_
 refine zQ h fun x t y p D R L N h=>?_
 refine zJ h fun e_ hc hwy ok hp q=>?_
 subst e_;refine ⟨rfl,fun _ _ _ _ hr=>?_⟩;refine ⟨_,(@jG _ _ _ _ _ (j9 (j8 kO (jM uz hr rfl (jB (pv 1) (jB (pv 2) jD))) jC) (jQ (yZ (v:=.int (-1)) rfl T.xaq ⟨_,rfl⟩)) kD)
   (jQ (jK (kI K) (jM xat hr rfl (jZ (pv 0) (jK (j3 K) (pv 1) jC) (jK (j3 K) (pv 1) jC))) (pv 2)))),?_⟩
 try dsimp only [jX,jW]
 obtain ⟨t₂,st,us,e,h1,h2,h3⟩:=id hwy;cases e;refine (jA rfl (jA rfl (⟨t,y,jA rfl (⟨hwy,rfl,jA rfl (?_)⟩)⟩)))
 by_cases h:p=y.2.length
 ·refine qQ (bw V.int (by omega)) ?_;have:=q H (Same.refl _);rw [show QS L y p = -1 from if_pos h] at this;exact this
 ·refine q8 (fun z=>h (by have:=V.int.inj z;omega)) ?_;have hle:=ok.le;refine (jA rfl (jA rfl (j5 (SqT.of h1) rfl ((jA rfl (j5 (SqT.of h1) rfl ((fG x st y.1 us y.2 D R L N (zE rfl hc h2 h3 ok.lt (by omega) ok.ok (fun r H' s' hr0 hr=>?_))))))))));have hl:p<(qC L y.1 y.2).length:=by rw [QK];omega
  refine (jA rfl (kR (so hr) (zF hl) (?_)));have:=q H' s';rw [show QS L y p=(qC L y.1 y.2).getD p 0 from if_neg h] at this;exact this
theorem BY:jV 4 ["canal","ways","state","reach"] cJ:=jU
include T in
theorem AF (F:kK K "lying" cJ f fd) (xad:Def P w K mg base 3 "reach_of" ["canal","way","place"] [] (pV (jH cP cB cU) cR cN)):FnOk P w K mg base jO 4 f fd ["canal","ways","state","reach"] (sR (jH cP cB cU) cR cN):=by
 refine F.ok2 BY fun vs H Q E h=>?_
 refine IP h fun x wl st r us ys d ms pl D R L N h=>?_
 refine zA h fun e_ hc hwl hA p3_ hfl q=>?_
 subst e_;obtain ⟨wt,pt,hst,hwt,hpt⟩:=p3_;refine ⟨rfl,fun _ _ _ _ hr=>?_⟩;refine ⟨_,(jQ (qP ak PySem.F.slot_list_count PySem.F.type_list_count EZ (dP ["way","place","canal"] (vO 2 [0]) rfl (vP (jT cJ)) (cps 2 [0]) (FN (by rfl) T.jb (jB (pv 1) (jB (jK (j3 K) (pv 2) jC) jD))) (fun _ _ _ _ _=>(lW (n:=2) K rfl (yM (qD (i:=0) (show List.Nodup (["way","place","canal"]:List Str) from by decide +kernel) rfl (.inl rfl)) (yM (qD (i:=1) (show List.Nodup (["way","place","canal"]:List Str) from by decide +kernel) rfl (.inl rfl)) ZI)))) (fun _ _ _ _ _=>zU) (fun _ _ _ _ _=>(jM xad hr rfl (jZ (pv 2) (pv 0) (pv 1))))) (jB (pv 3) jD))),?_⟩
 try dsimp only [jX,jW]
 refine (jA rfl (jA rfl (j5 (SqT.of hst) rfl (⟨wl,pt,rfl,⟨_,so hwl⟩,⟨_,SqT.of hpt⟩,fun D₁ hD₁=>?_⟩))));refine CS (K:=K) (a1:=wl) (a2:=pt) (xs:=us) (ys:=pl.map fun (p:Nat)=>V.int (p:Int)) (fun i σ Hi=>∃c1 c2:Option V,σ=[c1,c2,some (.ref x)]∧Hi D₁=some (.lst (((y8 L ys pl).take i).map V.int))∧Same H Hi)
  ⟨none,none,rfl,by rw [jE,take_zero];rfl,jJ hD₁ _⟩ (fun i σ Hi _ ⟨_,_,_,_,s⟩=>⟨so (s _ _ hwl),SqT.of (s _ _ hpt)⟩) (by rw [hA.1,ad,hfl.len]) ?_ ?_
 ·rintro i v z σ Hi T₁ hv hz ⟨c1,c2,rfl,hY,sm⟩ hT;obtain ⟨y,hy,hwy⟩:=hA.2 i v hv;have hi:i<ys.length:=(ag.mp hy).1;obtain ⟨t,st₂,us₂,rfl,hw1,hw2,hw3⟩:=id hwy;have hip:i<pl.length:=by rw [hfl.len];exact hi
  rw [ax,aa hip] at hz;cases hz;have u:=jJ hT (.tup [V.ref t,V.int ((pl[i]:Nat):Int)]);have smu:=sm.trans u;have hwy2:=WyAt.same smu _ _ hwy;have hp:=hfl.le i y pl[i] hy (aa hip);have hg1:ys.getD i (0,[])=y:=by rw [af,hy];rfl
  have hg2:pl.getD i 0=pl[i]:=by rw [af,aa hip];rfl
  have h10:=hfl.n10;have hYu:=u _ _ hY;refine ⟨T₁,jA rfl (⟨SqT.of jE,rfl,_,jA rfl (⟨_,_,rfl,rfl,?_⟩)⟩)⟩;generalize upd Hi T₁ (.tup [V.ref t,V.int ((pl[i]:Nat):Int)])=Hj at u smu hwy2 hYu ⊢;refine yI (qL ?_);refine (jA rfl (jA rfl (jA rfl (⟨x,t,y,pl[i],ZZ D R L N (yD rfl (hc.same smu) hwy2 (hfl.ok y (aP hy)) hp (fun H' s'=>?_))⟩))));refine ⟨_,s' _ _ hYu,vL (by rw [ad,cu];unfold y8;rw [ad,dh];omega),_,jA rfl (⟨?_,qI hD₁ (smu.trans s')⟩)⟩;rw [jE,aN,show (y8 L ys pl)[i]?=some (QS L y pl[i]) by unfold y8;rw [ax,dk hi,← hg1,← hg2];rfl,aL];rfl
 rintro σ Hf ⟨c1,c2,rfl,hY,sm⟩;rw [hA.1,take_of_length_le (by unfold y8;rw [ad,dh];exact ai _)] at hY;refine ⟨.inl ⟨rfl,_,so hY⟩,jA rfl (⟨D₁,_,_,rfl,rfl,hY,rfl,pF _,?_⟩)⟩;have e:((y8 L ys pl).map V.int).countP (fun z=>qA z (.int r))=(y8 L ys pl).countP fun z=>decide (z=r):=by rw [countP_map];rfl
 rw [e];exact q Hf sm
theorem BU:jV 2 ["canal","ways"] gQ:=jU
include T in
theorem x8 (F:kK K "begun" gQ f fd) (zd:MeD P w K mg base 5 cN "start" ["self"] (lI (jH cP cB cU) cR cN)):FnOk P w K mg base jO 6 f fd ["canal","ways"] (sU (jH cP cB cU) cR cN):=by
 refine F.ok2 BU fun vs H Q E h=>?_
 refine QX h fun x wl us D R L N h=>?_
 refine JZ h fun e_ hc hwl h100 b1 b2 hT q=>?_
 subst e_;refine ⟨rfl,fun _ _ _ _ hr=>?_⟩;refine ⟨_,(jQ (kP (jZ jC (qO zd hr (pv 0)) (@jI _ _ _ _ _ _ _ _ FU (kP (jB jC jD)) (vA K T.xh (pv 1)))))),?_⟩
 try dsimp only [jX,jW]
 have hc0:=hc;obtain ⟨dx,rl,ll,nl,fs,rs,ls,nv,hx,hf,hrl,hll,hnl,hR,hL,hN,d1,d2,d3⟩:=hc;refine (jA rfl (⟨x,dx,jA rfl (⟨hx,hf.no (by decide +kernel) (by decide +kernel) (by decide +kernel),zD x D R L N (yD rfl hc0 b1 b2 hT (fun wt H1 gs s1 hwt0 hwt hSp=>?_))⟩)⟩));refine ⟨zz1,fun p hp=>?_⟩;have s2:=jJ hp (.tup [V.int 0]);refine (jA rfl (⟨wl,jA rfl (⟨.inl (so (s2 _ _ (s1 _ _ hwl))),?_⟩)⟩));have s12:=s1.trans s2;have fin:∀(zt:Addr) (H3:Hp),Same (upd H1 p (.tup [V.int 0])) H3→H3 zt=some (.tup (List.replicate us.length (.int 0)))→(3≤sizeLine∧∀t,H3 t=none→Q (.ref t) (upd H3 t (.tup [.int 0,.ref wt,.ref zt]))):=fun zt H3 s3 hzt=>⟨by decide,fun t ht=>by
  have s4:=jJ ht (.tup [V.int 0,V.ref wt,V.ref zt]);exact q t wt zt _ gs ((s12.trans s3).trans s4) jE (s4 _ _ (s3 _ _ (s2 _ _ hwt))) hSp (s4 _ _ hzt)⟩
 refine ⟨p,.int 0,us.length,rfl,rfl,jE,by omega,fun h1=>?_,fun h1 zt hzt=>?_⟩
 ·exact fin p _ (Same.refl _) (by rw [h1];exact jE)
 ·exact fin zt _ (jJ hzt _) jE
theorem iO:jV 2 ["name","things","place","thing"] gY:=jU
include T in
theorem AH (F:kK K "place_called" gY f fd) : FnOk P w K mg base (kF P w) 1 f fd ["name","things"] (lR K eU):=by
 refine F.okX2 iO fun vs H Q E h=>?_
 refine nG h fun nm l us zs h=>?_
 refine zJ h fun e_ hl hA h100 qv qe=>?_
 subst e_;refine ⟨rfl,fun _ _ _ _ hr=>?_⟩;refine ⟨_,(@jG _ _ _ _ _ (zH t0 rfl (FO (by rfl) T.xo (jB (pv 1) jD)) (dZ rfl (yM (qD (i:=2) iO.nd rfl (.inl rfl)) (yM (qD (i:=3) iO.nd rfl (.inl rfl)) ZI)))
    (@kB _ _ _ (j9 (j8 kO (j7 K (pv 3) rfl) (pv 0)) (jQ (pv 2)) kD)))
   (@kB _ _ _ (ZF ZC rfl rfl T.vk T.je (jB jS jD)))),?_⟩
 try dsimp only [jX,jW]
 refine (jA rfl (⟨l,rfl,⟨_,so hl⟩,E6 (K:=K) (a:=l) (xs:=us) (fun i σ Hi=>∃c2 c3:Option V,σ=[some (.str nm),some (.ref l),c2,c3]∧(∀j:Nat,j<i→zs[j]?≠some nm)∧Same H Hi) ⟨none,none,rfl,fun j hj=>absurd hj (cm j),Same.refl _⟩ (fun i σ Hi _ ⟨_,_,_,_,s⟩=>so (s _ _ hl)) ?_ ?_⟩))
 ·rintro i v σ Hi T₁ hv ⟨c2,c3,rfl,hno,sm⟩ hT;obtain ⟨z,hz,x,C,dx,fs,rfl,hx,cC,nC,lk⟩:=hA.2 i v hv;have u:=jJ hT (.tup [V.int (i:Int),V.ref x]);have smu:=sm.trans u;refine ⟨T₁,jA rfl (⟨SqT.of jE,rfl,_,jA rfl (⟨_,_,rfl,rfl,?_⟩)⟩)⟩;refine (jA rfl (⟨x,C,dx,_,jA rfl (⟨smu _ _ hx,cC,nC,lk,_,rfl,rfl,jA rfl (?_)⟩)⟩))
  by_cases h:z=nm
  ·exact qQ (bw V.str h) (jA rfl (qv i ⟨by rw [← h];exact hz,hno⟩ _ smu))
  ·refine q8 (fun e=>h (V.str.inj e)) ⟨_,jA rfl (⟨fun j hj=>?_,smu⟩)⟩
   by_cases c:j=i
   ·rw [c,hz];exact fun e=>h (az e)
   ·exact hno j (by omega)
 rintro σ Hi ⟨c2,c3,rfl,hno,sm⟩;refine ⟨by show 1≤sizeLine;decide,qe (fun i hi=>?_) _ sm⟩;have hl':i<zs.length:=(ag.mp hi).1;exact hno i (by rw [hA.1];exact hl') hi
theorem BL:jV 2 ["self","name"] fZ:=jU
include T in
theorem xD (F:Fun K "reach_at" "Canal.reach_at" fZ f fd) (xx:DefX P w K mg base 1 "place_called" ["name","things"] [] (lR K eU)):FnOk P w K mg base (kF P w) 2 f fd ["self","name"] (QR (jH cP cB cU) cR cN eU 0):=by
 refine F.okX2 BL fun vs H Q E h=>?_
 refine ZU h fun x D R L N nm h=>?_
 refine zJ h fun e_ p0_ b1 b2 qv qe=>?_
 subst e_;obtain ⟨dx,rl,ll,nl,fs,rs,ls,ns,hx,hf,hrl,hll,hnl,hR,hL,hN,d1,d2,d3⟩:=p0_;refine ⟨rfl,fun _ _ _ _ hr=>?_⟩;refine ⟨_,(jQ (JC xx yN hr rfl (jB (pv 1) (jB (j7 K (pv 0) rfl) jD)))),?_⟩
 try dsimp only [jX,jW]
 exact (jA rfl (jA rfl (kC hx (T.clN) (T.xf) (hf.1) (⟨nm,rl,rs,d9 0 R L,rfl,hrl,CN T.clR T.xy hR,by rw [hR.1];omega,qv,qe⟩))))
theorem BJ:jV 2 ["self","name"] fX:=jU
include T in
theorem xB (F:Fun K "lock_at" "Canal.lock_at" fX f fd) (xx:DefX P w K mg base 1 "place_called" ["name","things"] [] (lR K eU)):FnOk P w K mg base (kF P w) 2 f fd ["self","name"] (QR (jH cP cB cU) cR cN eU 1):=by
 refine F.okX2 BJ fun vs H Q E h=>?_
 refine ZU h fun x D R L N nm h=>?_
 refine zJ h fun e_ p0_ b1 b2 qv qe=>?_
 subst e_;obtain ⟨dx,rl,ll,nl,fs,rs,ls,ns,hx,hf,hrl,hll,hnl,hR,hL,hN,d1,d2,d3⟩:=p0_;refine ⟨rfl,fun _ _ _ _ hr=>?_⟩;refine ⟨_,(jQ (JC xx yN hr rfl (jB (pv 1) (jB (j7 K (pv 0) rfl) jD)))),?_⟩
 try dsimp only [jX,jW]
 exact (jA rfl (jA rfl (kC hx (T.clN) (T.xc) (hf.2.1) (⟨nm,ll,ls,d9 1 R L,rfl,hll,C4 T.cl T.wd hL,by rw [hL.1];omega,qv,qe⟩))))
theorem oS:jV 2 ["canal","entry","start"] cL:=jU
include T in
theorem AT (F:kK K "way_told" cL f fd) (xt:MeX P w K mg base 2 cN "reach_at" ["self","name"] (QR (jH cP cB cU) cR cN eU 0)) (vm:MeX P w K mg base 2 cN "lock_at" ["self","name"] (QR (jH cP cB cU) cR cN eU 1)):FnOk P w K mg base (kF P w) 3 f fd ["canal","entry"] (lB (jH cP cB cU) cR cN eU):=by
 refine F.okX2 oS fun vs H Q E h=>?_
 refine QX h fun x t e D R L N h=>?_
 refine JZ h fun e_ hc b1 b2 p3_ h100 qv qe=>?_
 subst e_;obtain ⟨st,us,h1,h2,h3⟩:=p3_;refine ⟨rfl,fun _ _ _ _ hr=>?_⟩;refine ⟨_,(@jG _ _ _ _ _ (jP 2 oS.nd (JV xt yN hr (pv 0) (jB (jK (j3 K) (pv 1) jC) jD)))
   (jQ (kP (jB (pv 2) (jB (qM (JN K) (by rfl) T.xl ba (jB (EV ["name","side","canal"] (vO 2 [0]) (vP (jT cL)) (cps 2 [0]) (bK (jK (j3 K) (pv 1) jC)) (fun _ _ _ _ _=>(lW (n:=2) K rfl (yM (qD (i:=0) (show List.Nodup (["name","side","canal"]:List Str) from by decide +kernel) rfl (.inl rfl)) (yM (qD (i:=1) (show List.Nodup (["name","side","canal"]:List Str) from by decide +kernel) rfl (.inl rfl)) ZI)))) (fun _ _ _ _ _=>zU) (fun _ _ _ _ _=>(kP (jB (JV vm DB hr (pv 2) (jB (pv 0) jD)) (jB (pv 1) jD))))) jD)) jD))))),?_⟩
 try dsimp only [jX,jW]
 have hc0:=hc;obtain ⟨dx,rl,ll,nl,fs,rs,ls,nv,hx,hf,hrl,hll,hnl,hR,hL,hN,d1,d2,d3⟩:=hc;refine (jA rfl (⟨x,dx,jA rfl (⟨hx,hf.no (by decide +kernel) (by decide +kernel) (by decide +kernel),jA rfl (j5 (SqT.of h1) rfl ((Q1 x D R L N e.start (yD rfl hc0 b1 b2 (fun a ha H1 s1=>?_) (fun hno H1 s1=>qe ?_ H1 s1)))))⟩)⟩))
 case refine_2 =>
  unfold qK;rw [bC (show zL (R.map (·.name)) e.start from hno)]
 have ha:kS (R.map (·.name)) e.start=some a:=dG ha;have hus:=h3.1;refine (jA rfl (jA rfl (j5 (SqT.of (s1 _ _ h1)) rfl (⟨st,rfl,⟨_,SqT.of (s1 _ _ h2)⟩,fun bt hbt=>?_⟩))));refine pO (K:=K) (a:=st) (xs:=us) (fun i σ Hi=>∃(c1 c2:Option V) (zs:List V) (ps:List (Nat×Bool)),σ=[c1,c2,some (.ref x)]∧qX (L.map (·.name)) (e.steps.take i)=some ps∧Hi bt=some (.lst zs)∧AllAt (PAt Hi) zs ps∧Same H Hi) ⟨none,none,[],[],rfl,rfl,jE,AllAt.nil,s1.trans (jJ hbt _)⟩ (fun i σ Hi _ ⟨_,_,_,_,_,_,_,_,s⟩=>SqT.of (s _ _ h2)) ?_ ?_
 ·rintro i v σ Hi hv ⟨c1,c2,zs,ps,rfl,hps,hY,hA,sm⟩;obtain ⟨p,hp,tp,rfl,htp⟩:=h3.2 i v hv;have hi:i<e.steps.length:=(ag.mp hp).1;have ht:e.steps.take (i+1)=e.steps.take i++[p]:=by rw [aN,hp];rfl
  have hpl:=(ZD hps).1;rw [cu] at hpl;refine ⟨tp,jA rfl (⟨SqT.of (sm _ _ htp),rfl,_,jA rfl (⟨_,_,rfl,rfl,?_⟩)⟩)⟩;refine yI (qL (jA rfl (⟨x,dx,jA rfl (⟨(sm _ _ hx),hf.no (by decide +kernel) (by decide +kernel) (by decide +kernel),jA rfl ((Q1 x D R L N p.1 (yD rfl (hc0.same sm) b1 b2 (fun k hk H2 s2=>?_) (fun hno H2 s2=>qe ?_ H2 (sm.trans s2)))))⟩)⟩)))
  case refine_2 =>
   unfold qK;rw [ha];show (qX (L.map (·.name)) e.steps).map _=none;rw [i0 (bC (show zL (L.map (·.name)) p.1 from hno)) (aP hp)];rfl
  have hk:kS (L.map (·.name)) p.1=some k:=dG hk;refine (jA rfl (⟨zz2,fun t2 ht2=>?_⟩));have u:=jJ ht2 (.tup [V.int (k:Int),V.str (vX p.2)]);have hY2:=u _ _ (s2 _ _ hY);refine ⟨zs,hY2,vL (by rw [hA.1];omega),_,_,zs++[.ref t2],ps++[(k,p.2)],rfl,by rw [ht];exact oZ hk hps,jE,?_,qI (s1.free hbt) ((sm.trans s2).trans u)⟩;exact ((hA.mono (PAt.same (s2.trans u))).snoc (v:=.ref t2) (x:=(k,p.2)) ⟨t2,rfl,jE⟩).mono (PAt.put hY2)
 rintro σ Hf ⟨c1,c2,zs,ps,rfl,hps,hY,hA,sm⟩;rw [hus,aV] at hps;refine ⟨bt,zs,rfl,.inl ⟨so hY,fun w1 hw1=>?_⟩⟩;have v1:=jJ hw1 (.tup zs);refine ⟨zz2,fun w2 hw2=>?_⟩;have v2:=jJ hw2 (.tup [V.int (a:Int),V.ref w1]);refine qv ((a:Int),ps) ?_ w2 _ ((sm.trans v1).trans v2) ((sm.trans v1).free hw2) (bW w2 w1 zs (Z1 rfl jE (v2 _ _ jE) (hA.mono (PAt.same (v1.trans v2)))));unfold qK;rw [ha];show (qX (L.map (·.name)) e.steps).map _=_;rw [hps];rfl
theorem BA:jV 1 ["self"] fP:=jU
include T in
theorem wW (F:Fun K "canal" "Book.canal" fP f fd) : FnOk P w K mg base jO 1 f fd ["self"] (q9 (jH cP cB cU) cR cN cO (bL (jH cP cB cU) cR cN)):=by
 refine F.ok2 BA fun vs H Q E h=>?_
 refine zQ h fun b x R L N ms zs ys h=>?_
 refine vH h fun e_ hq q=>?_
 subst e_;refine ⟨rfl,fun _ _ _ _ hr=>?_⟩;refine ⟨_,(jQ (j7 K (pv 0) rfl)),?_⟩
 try dsimp only [jX,jW]
 obtain ⟨nl,pl,ql,el,hB⟩:=hq.ex;obtain ⟨db,wl,st,fs,hb,hfl,hf,hr⟩:=hB.ob;obtain ⟨us,hwl,hA⟩:=hr.wy;have sd:=vT H [b,nl,pl,ql,el];exact (jA rfl (kC hb (T.clO) (T.nO_kept_canal) (hf.1) (q (hr.cn.same sd))))
theorem BG:jV 1 ["self"] fV:=jU
include T in
theorem w8 (F:Fun K "state" "Book.state" fV f fd) : FnOk P w K mg base jO 1 f fd ["self"] (q9 (jH cP cB cU) cR cN cO (eD)):=by
 refine F.ok2 BG fun vs H Q E h=>?_
 refine zQ h fun b x R L N ms zs ys h=>?_
 refine vH h fun e_ hq q=>?_
 subst e_;refine ⟨rfl,fun _ _ _ _ hr=>?_⟩;refine ⟨_,(jQ (j7 K (pv 0) rfl)),?_⟩
 try dsimp only [jX,jW]
 obtain ⟨nl,pl,ql,el,hB⟩:=hq.ex;obtain ⟨db,wl,st,fs,hb,hfl,hf,hr⟩:=hB.ob;obtain ⟨us,hwl,hA⟩:=hr.wy;have sd:=vT H [b,nl,pl,ql,el];exact (jA rfl (kC hb (T.clO) (T.nO_kept_state) (hf.2.2.2.1) (q st (hr.st.same sd))))
theorem BF:jV 1 ["self"] fU:=jU
include T in
theorem w6 (F:Fun K "names" "Book.names" fU f fd) : FnOk P w K mg base jO 1 f fd ["self"] (q9 (jH cP cB cU) cR cN cO (mK)):=by
 refine F.ok2 BF fun vs H Q E h=>?_
 refine zQ h fun b x R L N ms zs ys h=>?_
 refine vH h fun e_ hq q=>?_
 subst e_;refine ⟨rfl,fun _ _ _ _ hr=>?_⟩;refine ⟨_,(jQ (qM (yY K) (by rfl) T.xi aI (jB (j7 K (pv 0) rfl) jD))),?_⟩
 try dsimp only [jX,jW]
 obtain ⟨nl,pl,ql,el,hB⟩:=hq.ex;obtain ⟨db,wl,st,fs,hb,hfl,hf,hr⟩:=hB.ob;obtain ⟨us,hwl,hA⟩:=hr.wy;have sd:=vT H [b,nl,pl,ql,el];exact (jA rfl (kC hb (T.clO) (T.nO_kept_names) (hf.2.1) (⟨nl,jA rfl (⟨.inl (so hB.na),fun l hl=>q l _ (jJ hl _) hl jE⟩)⟩)))
theorem BH:jV 1 ["self"] fW:=jU
include T in
theorem w9 (F:Fun K "ways" "Book.ways" fW f fd) : FnOk P w K mg base jO 1 f fd ["self"] (q9 (jH cP cB cU) cR cN cO (eQ)):=by
 refine F.ok2 BH fun vs H Q E h=>?_
 refine zQ h fun b x R L N ms zs ys h=>?_
 refine vH h fun e_ hq q=>?_
 subst e_;refine ⟨rfl,fun _ _ _ _ hr=>?_⟩;refine ⟨_,(jQ (qM (yY K) (by rfl) T.xi aI (jB (j7 K (pv 0) rfl) jD))),?_⟩
 try dsimp only [jX,jW]
 obtain ⟨nl,pl,ql,el,hB⟩:=hq.ex;obtain ⟨db,wl,st,fs,hb,hfl,hf,hr⟩:=hB.ob;obtain ⟨us,hwl,hA⟩:=hr.wy;have sd:=vT H [b,nl,pl,ql,el];exact (jA rfl (kC hb (T.clO) (T.nO_kept_ways) (hf.2.2.1) (⟨wl,jA rfl (⟨.inl (so (sd _ _ hwl)),fun l hl=>q l _ _ (jJ hl _) hl jE (hA.mono (WyAt.same (sd.trans (jJ hl _))))⟩)⟩)))
theorem BE:jV 1 ["self"] fT:=jU
include T in
theorem w5 (F:Fun K "ledger" "Book.ledger" fT f fd) : FnOk P w K mg base jO 1 f fd ["self"] (q9 (jH cP cB cU) cR cN cO (eR)):=by
 refine F.ok2 BE fun vs H Q E h=>?_
 refine zQ h fun b x R L N ms zs ys h=>?_
 refine vH h fun e_ hq q=>?_
 subst e_;refine ⟨rfl,fun _ _ _ _ hr=>?_⟩;refine ⟨_,(jQ (qM (yY K) (by rfl) T.xi aI (jB (j7 K (pv 0) rfl) jD))),?_⟩
 try dsimp only [jX,jW]
 obtain ⟨nl,pl,ql,el,hB⟩:=hq.ex;obtain ⟨db,wl,st,fs,hb,hfl,hf,hr⟩:=hB.ob;obtain ⟨us,hwl,hA⟩:=hr.wy;have sd:=vT H [b,nl,pl,ql,el];exact (jA rfl (kC hb (T.clO) (T.nO_kept_pours) (hf.2.2.2.2.1) (⟨pl,jA rfl (⟨.inl (so hB.po),fun l hl=>q l _ (jJ hl _) hl jE⟩)⟩)))
theorem BB:jV 1 ["self"] fR:=jU
include T in
theorem wY (F:Fun K "entries" "Book.entries" fR f fd) : FnOk P w K mg base jO 1 f fd ["self"] (q9 (jH cP cB cU) cR cN cO (uN)):=by
 refine F.ok2 BB fun vs H Q E h=>?_
 refine zQ h fun b x R L N ms zs ys h=>?_
 refine vH h fun e_ hq q=>?_
 subst e_;refine ⟨rfl,fun _ _ _ _ hr=>?_⟩;refine ⟨_,(jQ (qM (yY K) (by rfl) T.xi aI (jB (j7 K (pv 0) rfl) jD))),?_⟩
 try dsimp only [jX,jW]
 obtain ⟨nl,pl,ql,el,hB⟩:=hq.ex;obtain ⟨db,wl,st,fs,hb,hfl,hf,hr⟩:=hB.ob;obtain ⟨us,hwl,hA⟩:=hr.wy;have sd:=vT H [b,nl,pl,ql,el];obtain ⟨es,hes,hel⟩:=hB.en;exact (jA rfl (kC hb (T.clO) (T.nO_kept_entries) (hf.2.2.2.2.2.2.1) (⟨el,jA rfl (⟨.inl (so hes),fun l hl=>q l _ _ (jJ hl _) hl jE hel⟩)⟩)))
theorem BD:jV 1 ["self"] cA:=jU
include T in
theorem w4 (F:Fun K "gatework" "Book.gatework" cA f fd) : FnOk P w K mg base jO 1 f fd ["self"] (q9 (jH cP cB cU) cR cN cO (eR)):=by
 refine F.ok2 BD fun vs H Q E h=>?_
 refine zQ h fun b x R L N ms zs ys h=>?_
 refine vH h fun e_ hq q=>?_
 subst e_;refine ⟨rfl,fun _ _ _ _ hr=>?_⟩;refine ⟨_,(jQ (dP ["name","words"] (vO 2 []) rfl (vP (jT cA)) (cps 2 []) (yX (j7 K (pv 0) rfl)) (fun _ _ _ _ _=>(lW (n:=2) K rfl (yM (qD (i:=0) (show List.Nodup (["name","words"]:List Str) from by decide +kernel) rfl (.inl rfl)) (yM (qD (i:=1) (show List.Nodup (["name","words"]:List Str) from by decide +kernel) rfl (.inl rfl)) ZI)))) (fun _ _ _ _ _=>zU) (fun _ _ _ _ _=>(kP (jB (pv 0) (jB (qM (yY K) (by rfl) T.xi aI (jB (pv 1) jD)) jD)))))),?_⟩
 try dsimp only [jX,jW]
 obtain ⟨nl,pl,ql,el,hB⟩:=hq.ex;obtain ⟨db,wl,st,fs,hb,hfl,hf,hr⟩:=hB.ob;obtain ⟨us,hwl,hA⟩:=hr.wy;have sd:=vT H [b,nl,pl,ql,el];refine (jA rfl (kC hb (T.clO) (T.nO_kept_words) (hf.2.2.2.2.2.1) (⟨ql,rfl,⟨_,so hB.wo⟩,fun l hl=>?_⟩)));refine o7 (K:=K) (a:=ql) (xs:=[]) (fun i σ Hi=>Hi=upd H l (.lst [])) rfl (fun i σ Hi _ e=>by rw [e];exact (jJ hl _).seq (so hB.wo)) (fun i v σ Hi hv=>by cases hv) ?_;rintro σ Hf rfl;exact q l _ (jJ hl _) hl jE
theorem AZ:jV 2 ["self","canal"] fN:=jU
include T in
theorem wU (F:Fun K "__init__" "Book.__init__" fN f fd) (xaE:Def P w K mg base 6 "begun" ["canal","ways"] [] (sU (jH cP cB cU) cR cN)):FnOk P w K mg base jO 7 f fd ["self","canal"] (i4 (jH cP cB cU) cR cN cO):=by
 refine F.ok2 AZ fun vs H Q E h=>?_
 refine ZU h fun b db x R L N h=>?_
 refine zA h fun e_ hb hcn r1 l1₀ hT q=>?_
 subst e_;refine ⟨rfl,fun _ _ _ _ hr=>?_⟩;refine ⟨_,(@jG _ _ _ _ _ (qR (pv 0) (pv 1) rfl)
   (@jG _ _ _ _ _ (qR (pv 0) (kL jD) rfl)
   (@jG _ _ _ _ _ (qR (pv 0) (kL jD) rfl)
   (@jG _ _ _ _ _ (qR (pv 0) (jM xaE hr rfl (jB (pv 1) (jB (kL jD) jD))) rfl)
   (@jG _ _ _ _ _ (qR (pv 0) (kL jD) rfl)
   (@jG _ _ _ _ _ (qR (pv 0) (kL jD) rfl)
   (@kB _ _ _ (qR (pv 0) (kL jD) rfl)))))))),?_⟩
 try dsimp only [jX,jW]
 have ln:∀(f:Str) (z:V) (fs:List (Str×V)) (m:Nat),fs.length≤m→(jF f z fs).length≤m+1:=fun f z fs m h=>aR (yF f z fs) (by omega)
 refine (jA rfl (jA rfl (⟨b,cO,db,jA rfl (⟨hb,T.clO,T.nO_kept_canal,(by show 0<1000;decide),?_⟩)⟩)));have l1:=ln "kept_canal" (.ref x) [] 0 (ai _);have b1:upd H b (.ins cO db (jF "kept_canal" (.ref x) [])) b=some (.ins cO db (jF "kept_canal" (.ref x) [])):=jE;have d1:Same (j4 H [b]) (j4 (upd H b (.ins cO db (jF "kept_canal" (.ref x) []))) [b]):=by rw [yH (by simp)];exact Same.refl _
 generalize upd H b (.ins cO db (jF "kept_canal" (.ref x) []))=H1 at b1 d1 ⊢;generalize hf1:jF "kept_canal" (.ref x) []=f1 at b1 l1 ⊢;refine ⟨aG _,fun nl hnl0=>(jA rfl (⟨b,cO,db,jA rfl (⟨(jJ hnl0 _) _ _ b1,T.clO,T.nO_kept_names,by omega,?_⟩)⟩))⟩;have b2:(upd (upd H1 nl (.lst [])) b (.ins cO db (jF "kept_names" (.ref nl) f1))) b=some (.ins cO db (jF "kept_names" (.ref nl) f1)):=jE;have hnl:(upd (upd H1 nl (.lst [])) b (.ins cO db (jF "kept_names" (.ref nl) f1))) nl=some (.lst []):=put3 hnl0 b1;have nnl:nl≠b:=(kE b1 hnl0).symm;have d2:=dS (o:=.lst []) (o':=.ins cO db (jF "kept_names" (.ref nl) f1)) (by simp) hnl0 d1;have l2:=ln "kept_names" (.ref nl) _ _ l1;clear d1;generalize (upd (upd H1 nl (.lst [])) b (.ins cO db (jF "kept_names" (.ref nl) f1)))=H2 at b2 d2 hnl ⊢;clear b1 l1;generalize hf2:jF "kept_names" (.ref nl) f1=f2 at b2 l2 ⊢;refine ⟨aG _,fun wl hwl0=>(jA rfl (⟨b,cO,db,jA rfl (⟨(jJ hwl0 _) _ _ b2,T.clO,T.nO_kept_ways,by omega,?_⟩)⟩))⟩;have b3:(upd (upd H2 wl (.lst [])) b (.ins cO db (jF "kept_ways" (.ref wl) f2))) b=some (.ins cO db (jF "kept_ways" (.ref wl) f2)):=jE;have hwl:(upd (upd H2 wl (.lst [])) b (.ins cO db (jF "kept_ways" (.ref wl) f2))) wl=some (.lst []):=put3 hwl0 b2;have nwl:wl≠b:=(kE b2 hwl0).symm;have nwl_nl:wl≠nl:=(kE hnl hwl0).symm
 replace hnl:(upd (upd H2 wl (.lst [])) b (.ins cO db (jF "kept_ways" (.ref wl) f2))) nl=some _:=put2 hwl0 hnl (by first|exact nnl|exact qF hnl b2 (fun z=>nomatch z))
 have d3:=E3 (o:=.lst []) (o':=.ins cO db (jF "kept_ways" (.ref wl) f2)) (by simp) hwl0 d2;have l3:=ln "kept_ways" (.ref wl) _ _ l2;clear d2;generalize (upd (upd H2 wl (.lst [])) b (.ins cO db (jF "kept_ways" (.ref wl) f2)))=H3 at b3 d3 hwl hnl ⊢;clear b2 l2;generalize hf3:jF "kept_ways" (.ref wl) f2=f3 at b3 l3 ⊢;refine (jA rfl (⟨aG _,fun e0 he0=>?_⟩));have u1:=jJ he0 (.lst []);have hc3:CnAt (jH cP cB cU) cR cN [] (upd H3 e0 (.lst [])) x R L N:=(hcn.same d3).same ((yG u1).trans (vT _ _));refine (bV x e0 ([]) ([]) R L N (zE rfl hc3 jE (aG _) r1 l1₀ hT (fun st wt zt Hs gs s4 g1 g2 hsp g3=>?_)));have hst:StAt Hs st 0 (y6 (qZ R L.length) (qY R L.length) gs) (List.replicate 0 0):=⟨wt,zt,g1,g2,g3⟩;have s34:=u1.trans s4
 replace b3:=s34 _ _ b3
 replace hnl:=s34 _ _ hnl
 replace hwl:=s34 _ _ hwl
 replace d3:=d3.trans (yG s34)
 clear hc3 s34 s4 u1 g1 g2 g3;refine (jA rfl (⟨b,cO,db,jA rfl (⟨b3,T.clO,T.nO_kept_state,by omega,?_⟩)⟩));have l4:=ln "kept_state" (.ref st) _ _ l3;have b4:upd Hs b (.ins cO db (jF "kept_state" (.ref st) f3)) b=some (.ins cO db (jF "kept_state" (.ref st) f3)):=jE;have d4:Same (j4 H [b]) (j4 (upd Hs b (.ins cO db (jF "kept_state" (.ref st) f3))) [nl,b]):=by rw [yH (by simp)];exact d3
 have kp:Keep b Hs (upd Hs b (.ins cO db (jF "kept_state" (.ref st) f3))):=(Keep.refl b Hs).upd _
 replace hnl:=kp _ _ nnl hnl
 replace hwl:=kp _ _ nwl hwl
 replace hst:StAt (upd Hs b (.ins cO db (jF "kept_state" (.ref st) f3))) st 0 (y6 (qZ R L.length) (qY R L.length) gs) (List.replicate 0 0):=by
  obtain ⟨wt,zt,g1,g2,g3⟩:=hst;have k:∀(a:Addr) (l:List V),Hs a=some (.tup l)→_:=fun a l e=>kp a (.tup l) (qF e b3 (fun z=>nomatch z)) e
  exact ⟨wt,zt,k _ _ g1,k _ _ g2,k _ _ g3⟩
 generalize upd Hs b (.ins cO db (jF "kept_state" (.ref st) f3))=H4 at b4 d4 hnl hwl hst ⊢;clear kp b3 d3;generalize hf4:jF "kept_state" (.ref st) f3=f4 at b4 l4 ⊢;refine ⟨aG _,fun pl hpl0=>(jA rfl (⟨b,cO,db,jA rfl (⟨(jJ hpl0 _) _ _ b4,T.clO,T.nO_kept_pours,by omega,?_⟩)⟩))⟩;have b5:(upd (upd H4 pl (.lst [])) b (.ins cO db (jF "kept_pours" (.ref pl) f4))) b=some (.ins cO db (jF "kept_pours" (.ref pl) f4)):=jE;have hpl:(upd (upd H4 pl (.lst [])) b (.ins cO db (jF "kept_pours" (.ref pl) f4))) pl=some (.lst []):=put3 hpl0 b4;have npl:pl≠b:=(kE b4 hpl0).symm;have npl_nl:pl≠nl:=(kE hnl hpl0).symm
 replace hnl:(upd (upd H4 pl (.lst [])) b (.ins cO db (jF "kept_pours" (.ref pl) f4))) nl=some _:=put2 hpl0 hnl (by first|exact nnl|exact qF hnl b4 (fun z=>nomatch z))
 have npl_wl:pl≠wl:=(kE hwl hpl0).symm
 replace hwl:(upd (upd H4 pl (.lst [])) b (.ins cO db (jF "kept_pours" (.ref pl) f4))) wl=some _:=put2 hpl0 hwl (by first|exact nwl|exact qF hwl b4 (fun z=>nomatch z))
 replace hst:=StAt.put2 (o:=.lst []) (o':=.ins cO db (jF "kept_pours" (.ref pl) f4)) hpl0 b4 hst
 have d5:=dS (o:=.lst []) (o':=.ins cO db (jF "kept_pours" (.ref pl) f4)) (by simp) hpl0 d4;have l5:=ln "kept_pours" (.ref pl) _ _ l4;clear d4;generalize (upd (upd H4 pl (.lst [])) b (.ins cO db (jF "kept_pours" (.ref pl) f4)))=H5 at b5 d5 hpl hnl hwl hst ⊢;clear b4 l4;generalize hf5:jF "kept_pours" (.ref pl) f4=f5 at b5 l5 ⊢;refine ⟨aG _,fun ql hql0=>(jA rfl (⟨b,cO,db,jA rfl (⟨(jJ hql0 _) _ _ b5,T.clO,T.nO_kept_words,by omega,?_⟩)⟩))⟩;have b6:(upd (upd H5 ql (.lst [])) b (.ins cO db (jF "kept_words" (.ref ql) f5))) b=some (.ins cO db (jF "kept_words" (.ref ql) f5)):=jE;have hql:(upd (upd H5 ql (.lst [])) b (.ins cO db (jF "kept_words" (.ref ql) f5))) ql=some (.lst []):=put3 hql0 b5;have nql:ql≠b:=(kE b5 hql0).symm;have nql_nl:ql≠nl:=(kE hnl hql0).symm
 replace hnl:(upd (upd H5 ql (.lst [])) b (.ins cO db (jF "kept_words" (.ref ql) f5))) nl=some _:=put2 hql0 hnl (by first|exact nnl|exact qF hnl b5 (fun z=>nomatch z))
 have nql_wl:ql≠wl:=(kE hwl hql0).symm
 replace hwl:(upd (upd H5 ql (.lst [])) b (.ins cO db (jF "kept_words" (.ref ql) f5))) wl=some _:=put2 hql0 hwl (by first|exact nwl|exact qF hwl b5 (fun z=>nomatch z))
 have nql_pl:ql≠pl:=(kE hpl hql0).symm
 replace hpl:(upd (upd H5 ql (.lst [])) b (.ins cO db (jF "kept_words" (.ref ql) f5))) pl=some _:=put2 hql0 hpl (by first|exact npl|exact qF hpl b5 (fun z=>nomatch z))
 replace hst:=StAt.put2 (o:=.lst []) (o':=.ins cO db (jF "kept_words" (.ref ql) f5)) hql0 b5 hst
 have d6:=dS (o:=.lst []) (o':=.ins cO db (jF "kept_words" (.ref ql) f5)) (by simp) hql0 d5;have l6:=ln "kept_words" (.ref ql) _ _ l5;clear d5;generalize (upd (upd H5 ql (.lst [])) b (.ins cO db (jF "kept_words" (.ref ql) f5)))=H6 at b6 d6 hql hnl hwl hpl hst ⊢;clear b5 l5;generalize hf6:jF "kept_words" (.ref ql) f5=f6 at b6 l6 ⊢;refine ⟨aG _,fun el hel0=>(jA rfl (⟨b,cO,db,jA rfl (⟨(jJ hel0 _) _ _ b6,T.clO,T.nO_kept_entries,by omega,?_⟩)⟩))⟩;have b7:(upd (upd H6 el (.lst [])) b (.ins cO db (jF "kept_entries" (.ref el) f6))) b=some (.ins cO db (jF "kept_entries" (.ref el) f6)):=jE;have hel:(upd (upd H6 el (.lst [])) b (.ins cO db (jF "kept_entries" (.ref el) f6))) el=some (.lst []):=put3 hel0 b6;have nel:el≠b:=(kE b6 hel0).symm;have nel_nl:el≠nl:=(kE hnl hel0).symm
 replace hnl:(upd (upd H6 el (.lst [])) b (.ins cO db (jF "kept_entries" (.ref el) f6))) nl=some _:=put2 hel0 hnl (by first|exact nnl|exact qF hnl b6 (fun z=>nomatch z))
 have nel_wl:el≠wl:=(kE hwl hel0).symm
 replace hwl:(upd (upd H6 el (.lst [])) b (.ins cO db (jF "kept_entries" (.ref el) f6))) wl=some _:=put2 hel0 hwl (by first|exact nwl|exact qF hwl b6 (fun z=>nomatch z))
 have nel_pl:el≠pl:=(kE hpl hel0).symm
 replace hpl:(upd (upd H6 el (.lst [])) b (.ins cO db (jF "kept_entries" (.ref el) f6))) pl=some _:=put2 hel0 hpl (by first|exact npl|exact qF hpl b6 (fun z=>nomatch z))
 have nel_ql:el≠ql:=(kE hql hel0).symm
 replace hql:(upd (upd H6 el (.lst [])) b (.ins cO db (jF "kept_entries" (.ref el) f6))) ql=some _:=put2 hel0 hql (by first|exact nql|exact qF hql b6 (fun z=>nomatch z))
 replace hst:=StAt.put2 (o:=.lst []) (o':=.ins cO db (jF "kept_entries" (.ref el) f6)) hel0 b6 hst
 have d7:=dS (o:=.lst []) (o':=.ins cO db (jF "kept_entries" (.ref el) f6)) (by simp) hel0 d6;have l7:=ln "kept_entries" (.ref el) _ _ l6;clear d6;generalize (upd (upd H6 el (.lst [])) b (.ins cO db (jF "kept_entries" (.ref el) f6)))=H7 at b7 d7 hel hnl hwl hpl hql hst ⊢;clear b6 l6;generalize hf7:jF "kept_entries" (.ref el) f6=f7 at b7 l7 ⊢;have F:=GS (.ref x) (.ref nl) (.ref wl) (.ref st) (.ref pl) (.ref ql) (.ref el);rw [hf1,hf2,hf3,hf4,hf5,hf6,hf7] at F;have p5:∀a∈[b,nl,pl,ql,el],a∈[el,ql,pl,nl,b]:=fun a h=>by simp only [am,aA,bg] at h ⊢;rcases h with h|h|h|h|h<;>simp [h]
 have d8:=d7.trans (lN p5);have nT:∀a∈[b,nl,pl,ql,el],∀l,H7 a≠some (.tup l):=fun a h l e=>by
  simp only [am,aA,bg] at h
  rcases h with rfl|rfl|rfl|rfl|rfl
  ·rw [b7] at e;cases e
  ·rw [hnl] at e;cases e
  ·rw [hpl] at e;cases e
  ·rw [hql] at e;cases e
  ·rw [hel] at e;cases e
 have hwl':j4 H7 [b,nl,pl,ql,el] wl=some (.lst []):=by
  rw [qV]
  ·exact hwl
  ·simp only [am,aA,bg,not_or];exact ⟨nwl,nwl_nl,npl_wl.symm,nql_wl.symm,nel_wl.symm⟩
 refine q nl pl ql el gs H7 hsp ⟨⟨db,wl,st,f7,b7,by omega,F,hcn.same d8,⟨[],hwl',AllAt.nil⟩,StAt.del nT hst⟩,hnl,hpl,hql,⟨[],hel,rfl⟩,?_⟩ d8;simp only [du,am,aA,bg,not_or,not_false_eq_true,nodup_nil,and_true];exact ⟨⟨npl_nl.symm,nql_nl.symm,nel_nl.symm⟩,⟨nql_pl.symm,nel_pl.symm⟩,nel_ql.symm⟩
theorem B6:jV 2 ["word","signs"] cM:=jU
include T in
theorem AX (F:kK K "written_with" cM f fd) : FnOk P w K mg base jO 1 f fd ["word","signs"] (tQ):=by
 refine F.ok2 B6 fun vs H Q E h=>?_
 obtain ⟨w,S,rfl,hw,q⟩:=h;refine ⟨rfl,fun _ _ _ _ hr=>?_⟩;refine ⟨_,(jQ (tZ (rX bO bO jC (yW oY (by rfl) T.xh PySem.boot_len (jB (pv 0) jD)) (yZ (v:=.int 12) rfl T.vh ⟨_,rfl⟩)) (tY (yW (EI rfl) (by rfl) T.jc PyProof.Rows.boot_all (jB (QW ["sign","signs"] [1] (vP (jT cM)) (tX (pv 0)) (fun _ _ _ _ _=>(JL pW (pv 0) (pv 1)))) jD))))),?_⟩
 try dsimp only [jX,jW]
 have hws:w.length≤sizeLine:=small (by omega);refine (jA rfl (⟨w,rfl,hws,_,_,rfl,rfl,jA rfl (?_)⟩));have bad:∀H':Hp,Same H H'→yJ S w=false→Q (.bl false) H':=fun H' s e=>by
  have:=q H' s;rw [e] at this;exact this
 by_cases h1:(1:Int)≤((w.length:Nat):Int)
 ·refine qQ h1 ⟨_,_,rfl,rfl,jA rfl (?_)⟩
  by_cases h2:((w.length:Nat):Int)≤12
  ·refine qQ h2 (jA rfl (⟨w,rfl,fun D hD=>?_⟩));refine EF (z:=w) (caps:=[some (.str S)]) (fun i ys Hi=>∃bs:List Bool,ys=bs.map V.bl∧bs.length=i∧bs.all id=J3 S w i) hD ⟨[],rfl,rfl,rfl⟩ ?_ ?_
   ·rintro i c ys Hi hc hle sm hY ⟨bs,rfl,hbl,hba⟩;have hi:i<w.length:=(cq.mp hc).1;refine yI (qL (jA rfl (jA rfl (⟨(⟨#[c]⟩:Str),S,rfl,rfl,?_⟩))));refine vZ hD sm hY hle (by omega) (Same.refl _) ⟨bs++[mV S c],by rw [aL];rfl,by rw [aj,hbl];rfl,?_⟩;rw [rL hc,all_append,hba];simp
   ·rintro ys Hf sm hY hle ⟨bs,rfl,hbl,hba⟩;refine ⟨D,bs,rfl,so hY,?_⟩;have e:bs.all id=yJ S w:=by
     unfold yJ;rw [hba,aO (show 0<w.length by omega),aO (show w.length<13 by omega)];rfl
    rw [e];exact q Hf sm
  ·refine q8 h2 (bad H (Same.refl _) ?_);unfold yJ;rw [aK (show ¬w.length<13 by omega),Bool.and_false];rfl
 ·refine q8 h1 (jA rfl (qH (bad H (Same.refl _) ?_)));unfold yJ;rw [aK (show ¬0<w.length by omega)];rfl
theorem BW:jV 1 ["word"] gT:=jU
include T in
theorem AB (F:kK K "is_name" gT f fd) (wn:Def P w K mg base 1 "written_with" ["word","signs"] [] (tQ)):FnOk P w K mg base jO 2 f fd ["word"] (rR):=by
 refine F.ok2 BW fun vs H Q E h=>?_
 obtain ⟨w,rfl,hw,q⟩:=h;refine ⟨rfl,fun _ _ _ _ hr=>?_⟩;refine ⟨_,(jQ (jM wn hr rfl (jB (pv 0) (jB (yZ (v:=.str vW) rfl T.jh ⟨_,rfl⟩) jD)))),?_⟩
 try dsimp only [jX,jW]
 exact (jA rfl (⟨w,vW,rfl,hw,q⟩))
theorem oQ:jV 2 ["book","entry","way"] iC:=jU
include T in
theorem AL (F:kK K "refuse_wrong_come" iC f fd) (xal:Def P w K mg base 2 "is_name" ["word"] [] (rR)) (xw:MeD P w K mg base 1 cO "names" ["self"] (q9 (jH cP cB cU) cR cN cO (mK))) (zw:DefX P w K mg base 3 "way_told" ["canal","entry"] [] (lB (jH cP cB cU) cR cN eU)) (xg:MeD P w K mg base 1 cO "canal" ["self"] (q9 (jH cP cB cU) cR cN cO (bL (jH cP cB cU) cR cN))) (xam:DefX P w K mg base 2 "linked" ["canal","start","steps"] [] (lJ K (jH cP cB cU) cR cN eL)):FnOk P w K mg base (kF P w) 4 f fd ["book","entry"] (dL (jH cP cB cU) cR cN cO eB eT eM eU eL):=by
 refine F.okX2 oQ fun vs H Q E h=>?_
 refine zO h fun b t x e R L N ms zs ys h=>?_
 refine zA h fun e_ hq hco hl1 hl2 qv qe=>?_
 subst e_;refine ⟨rfl,fun _ _ _ _ hr=>?_⟩;refine ⟨_,(@jG _ _ _ _ _ (j9 (ZL (yO (jM xal hr rfl (jB (jK (j3 K) (pv 1) jC) jD)))) (@kB _ _ _ (ZF ZC rfl rfl T.wf T.jt (jB jS jD))) kD)
   (@jG _ _ _ _ _ (j9 (j8 (pC K) (jK (j3 K) (pv 1) jC) (qO xw hr (pv 0))) (@kB _ _ _ (ZF ZC rfl rfl T.ji T.xaj (jB jS jD))) kD)
   (@jG _ _ _ _ _ (j9 (j8 mU (vA K T.xh (qO xw hr (pv 0))) (yZ (v:=.int 9) rfl T.vi ⟨_,rfl⟩)) (@kB _ _ _ (ZF ZC rfl rfl T.vj T.jd (jB jS jD))) kD)
   (@jG _ _ _ _ _ (jP 2 oQ.nd (JC zw yN hr rfl (jB (qO xg hr (pv 0)) (jB (pv 1) jD))))
   (@kB _ _ _ (qE (JC xam yN hr rfl (jZ (qO xg hr (pv 0)) (jK (j3 K) (pv 2) jC) (jK (j3 K) (pv 2) jC))))))))),?_⟩
 try dsimp only [jX,jW]
 obtain ⟨st,us,h1,h2,h3⟩:=id hco;obtain ⟨db,fs,hb,hno⟩:=hq.ins;have r8:=hq.r8;have l8:=hq.l8;have bad:∀(n:Nat) (H':Hp),Same H H'→kH R L zs e=n→n≠0→E (.ref (ZV eB eT eM eU eL n)) none H':=fun n H' s h1 h2=>by
  rw [← h1];exact qe (by rw [h1];exact h2) H' s
 refine (jA rfl (j5 (SqT.of h1) rfl (⟨e.name,rfl,hl1,fun H1 s1=>(jA rfl (?_))⟩)));cases hg:yJ vW e.name with
 |false =>
  have hc:kH R L zs e=1:=by unfold kH;rw [if_pos hg]
  exact qL ⟨by show 1≤sizeLine;decide,bad 1 H1 s1 hc (by decide)⟩
 |true =>
  have hg':¬yJ vW e.name=false:=by rw [hg];decide
  refine qH (jA rfl (j5 (SqT.of (s1 _ _ h1)) rfl ((jA rfl (⟨b,db,jA rfl (⟨(s1 _ _ hb),hno _ (by decide +kernel),vF b x R L N ms zs ys (qS rfl (hq.same s1) (fun l H2 s2 hl0 hl=>?_))⟩)⟩)))));have s12:=s1.trans s2;refine ⟨l,jA rfl (⟨.inl (so hl),rfl,QH zs,jA rfl (?_)⟩)⟩;show if zC (V.str e.name) (zs.map V.str)=true then _ else _
  by_cases hz:e.name∈zs
  ·have hc:kH R L zs e=2:=by unfold kH;rw [if_neg hg',if_pos hz]
   rw [mem_inV.mpr hz];exact qL ⟨by show 1≤sizeLine;decide,bad 2 H2 s12 hc (by decide)⟩
  rw [cg.mpr fun h=>hz (mem_inV.mp h)];refine qH (jA rfl (⟨b,db,jA rfl (⟨(s12 _ _ hb),hno _ (by decide +kernel),vF b x R L N ms zs ys (qS rfl (hq.same s12) (fun l2 H3 s3 hl20 hl2'=>?_))⟩)⟩));have s13:=s12.trans s3;refine ⟨l2,jA rfl (⟨.inl (so hl2'),_,_,rfl,rfl,jA rfl (?_)⟩)⟩;rw [ad]
  by_cases h9:9≤zs.length
  ·have hc:kH R L zs e=3:=by unfold kH;rw [if_neg hg',if_neg hz,if_pos h9]
   exact qQ (by omega) ⟨by show 1≤sizeLine;decide,bad 3 H3 s13 hc (by decide)⟩
  refine q8 (by omega) (jA rfl (⟨b,db,jA rfl (⟨(s13 _ _ hb),hno _ (by decide +kernel),vF b x R L N ms zs ys (qS rfl (hq.same s13) (fun hcn=>(jA rfl ((bV x t e ([]) R L N (zE rfl hcn (by omega) (by omega) (hco.same s13) hl2 (fun y hy w1 H4 s4 hw0 hwy=>?_) (fun hn H4 s4=>?_)))))))⟩)⟩))
  case refine_2 =>
   have hc:kH R L zs e=4:=by unfold kH;rw [if_neg hg',if_neg hz,if_neg h9,hn]
   exact bad 4 H4 (s13.trans s4) hc (by decide)
  have s14:=s13.trans s4;obtain ⟨tw,sw,vs,ew,g1,g2,g3⟩:=id hwy;cases ew;have hlt:∀p∈y.2,p.1<L.length:=fun p hp=>by
   unfold qK at hy;cases ha:kS (R.map (·.name)) e.start with
   |none=>rw [ha] at hy;cases hy
   |some a =>
    rw [ha] at hy;obtain ⟨ps,hps,rfl⟩:=bb.mp hy;have:=(ZD hps).2 p hp
    rwa [ad] at this
  have hyl:y.2.length≤100:=by
   unfold qK at hy;cases ha:kS (R.map (·.name)) e.start with
   |none=>rw [ha] at hy;cases hy
   |some a =>
    rw [ha] at hy;obtain ⟨ps,hps,rfl⟩:=bb.mp hy;show ps.length≤100;rw [(ZD hps).1];exact hl2
  refine (jA rfl (⟨b,db,jA rfl (⟨(s14 _ _ hb),hno _ (by decide +kernel),vF b x R L N ms zs ys (qS rfl (hq.same s14) (fun hcn2=>(jA rfl (j5 (SqT.of g1) rfl ((jA rfl (j5 (SqT.of g1) rfl ((fG x sw y.1 vs y.2 ([]) R L N (zE rfl hcn2 g2 g3 hlt hyl (fun hok r H5 s5 hr0 hr=>?_) (fun hnok H5 s5=>?_)))))))))))⟩)⟩))
  ·have hc:kH R L zs e=0:=by unfold kH;rw [if_neg hg',if_neg hz,if_neg h9,hy];exact if_pos hok
   exact qv hc H5 (s14.trans s5)
  ·have hc:kH R L zs e=5:=by unfold kH;rw [if_neg hg',if_neg hz,if_neg h9,hy];exact if_neg hnok
   exact bad 5 H5 (s14.trans s5) hc (by decide)
theorem B0:jV 2 ["book","entry"] iB:=jU
include T in
theorem AK (F:kK K "refuse_wrong" iB f fd) (zx:DefX P w K mg base 4 "refuse_wrong_come" ["book","entry"] [] (dL (jH cP cB cU) cR cN cO eB eT eM eU eL)):FnOk P w K mg base (kF P w) 5 f fd ["book","entry"] (dL (jH cP cB cU) cR cN cO eB eT eM eU eL):=by
 refine F.okX2 B0 fun vs H Q E h=>?_
 refine zO h fun b t x e R L N ms zs ys h=>?_
 refine zA h fun e_ hq hco hl1 hl2 qv qe=>?_
 subst e_;refine ⟨rfl,fun _ _ _ _ hr=>?_⟩;refine ⟨_,(@kB _ _ _ (j9 (j8 kO (jK (j3 K) (pv 1) jC) jS) (@kB _ _ _ (qE (JC zx yN hr rfl (jB (pv 0) (jB (pv 1) jD))))) QO)),?_⟩
 try dsimp only [jX,jW]
 obtain ⟨st,us,h1,h2,h3⟩:=id hco;exact (jA rfl (j5 (SqT.of h1) rfl (⟨rfl,jA rfl (qQ rfl (jA rfl (jA rfl ((yS b t x e R L N ms zs ys (vY rfl hq hco hl1 hl2 qv qe))))))⟩)))
theorem BV:jV 4 ["canal","ways","state","reach"] gS:=jU
include T in
theorem AA (F:kK K "has_no_berth" gS f fd) (xaF:Def P w K mg base 4 "lying" ["canal","ways","state","reach"] [] (sR (jH cP cB cU) cR cN)):FnOk P w K mg base jO 5 f fd ["canal","ways","state","reach"] (sQ (jH cP cB cU) cR cN):=by
 refine F.ok2 BV fun vs H Q E h=>?_
 refine IO h fun x wl st b r us ys d ms pl D R L N h=>?_
 refine JZ h fun e_ hc hwl hA hst hfl hrc q=>?_
 subst e_;refine ⟨rfl,fun _ _ _ _ hr=>?_⟩;refine ⟨_,(jQ (JL mU (jM xaF hr rfl (yC (pv 0) (pv 1) (pv 2) (pv 3))) (j7 K (jK (kI K) (j7 K (pv 0) rfl) (pv 3)) rfl))),?_⟩
 try dsimp only [jX,jW]
 have hc0:=hc;obtain ⟨dx,rl,ll,nl,fs,rs,ls,nv,hx,hf,hrl,hll,hnl,hR,hL,hN,d1,d2,d3⟩:=hc;obtain ⟨z,hz,yr,rfl,dy,gs,hyr,hg⟩:=hR.get hrc;refine (jA rfl (jA rfl (jA rfl (jA rfl ((KU x wl st _ us ys d ms pl D R L N (vY rfl hc0 hwl hA hst hfl (fun H3 s3=>?_))))))));exact (jA rfl (kC ((s3 _ _ hx)) (T.clN) (T.xf) (hf.1) ((jA rfl (kR (so (s3 _ _ hrl)) (qN hz) (kC (s3 _ _ hyr) (T.clR) (T.xp) (hg.2.2.2.1) (j6 (q H3 s3))))))))
theorem oU:jV 2 ["book","entry","start"] iJ:=jU
include T in
theorem AV (F:kK K "why_no_entry" iJ f fd) (xt:MeX P w K mg base 2 cN "reach_at" ["self","name"] (QR (jH cP cB cU) cR cN eU 0)) (xg:MeD P w K mg base 1 cO "canal" ["self"] (q9 (jH cP cB cU) cR cN cO (bL (jH cP cB cU) cR cN))) (wp:Def P w K mg base 5 "has_no_berth" ["canal","ways","state","reach"] [] (sQ (jH cP cB cU) cR cN)) (xu:MeD P w K mg base 1 cO "ways" ["self"] (q9 (jH cP cB cU) cR cN cO (eQ))) (xn:MeD P w K mg base 1 cO "state" ["self"] (q9 (jH cP cB cU) cR cN cO (eD))):FnOk P w K mg base (kF P w) 6 f fd ["book","entry"] (zI (jH cP cB cU) cR cN cO u7):=by
 refine F.okX2 oU fun vs H Q E h=>?_
 refine zO h fun b t x e R L N ms zs ys h=>?_
 refine zJ h fun e_ hq hco hl2 hc0 q=>?_
 subst e_;refine ⟨rfl,fun _ _ _ _ hr=>?_⟩;refine ⟨_,(@jG _ _ _ _ _ (j9 (j8 kO (jK (j3 K) (pv 1) jC) jS) (@jG _ _ _ _ _ (jP 2 oU.nd (JV xt yN hr (qO xg hr (pv 0)) (jB (jK (j3 K) (pv 1) jC) jD)))
   (jQ (dO (yO (jM wp hr rfl (yC (qO xg hr (pv 0)) (qO xu hr (pv 0)) (qO xn hr (pv 0)) (pv 2)))) jS jS))) kD)
   QO),?_⟩
 try dsimp only [jX,jW]
 obtain ⟨st0,J9,h1,h2,h3⟩:=id hco;obtain ⟨db,fs,hb,hno⟩:=hq.ins;have r8:=hq.r8;have l8:=hq.l8;obtain ⟨y,hy,hok,hnz,h9⟩:=lP hc0;obtain ⟨a,ha,hfa,haR,hyl,hlt⟩:=i5 hy;obtain ⟨r,hr⟩:∃r,R[a]?=some r:=⟨_,aa haR⟩;refine (jA rfl (j5 (SqT.of h1) rfl (⟨rfl,jA rfl (qQ rfl ?_)⟩)));refine (jA rfl (⟨b,db,jA rfl (⟨hb,hno _ (by decide +kernel),vF b x R L N ms zs ys (qS rfl hq (fun hcn=>?_))⟩)⟩));obtain ⟨dx,rl,ll,nl,gs,rs,ls,nv,hx,hf,hrl,hll,hnl,hR,hL,hN,d1,d2,d3⟩:=id hcn;refine ⟨x,dx,jA rfl (⟨hx,hf.no (by decide +kernel) (by decide +kernel) (by decide +kernel),jA rfl (j5 (SqT.of h1) rfl ((Q1 x ([]) R L N e.start (yD rfl hcn (by omega) (by omega) (fun i hi H1 s1=>?_) (fun hn=>absurd (bC (show zL (R.map (·.name)) e.start from hn)) (by rw [hfa];simp))))))⟩)⟩;have hi:kS (R.map (·.name)) e.start=some i:=dG hi;rw [hfa] at hi;cases hi;refine (jA rfl (⟨b,db,jA rfl (⟨(s1 _ _ hb),hno _ (by decide +kernel),vF b x R L N ms zs ys (qS rfl (hq.same s1) (fun hcn1=>(jA rfl (⟨b,db,jA rfl (⟨(s1 _ _ hb),hno _ (by decide +kernel),vF b x R L N ms zs ys (qS rfl (hq.same s1) (fun wl us H2 s2 hwl0 hwl hA=>?_))⟩)⟩))))⟩)⟩));have s12:=s1.trans s2;refine (jA rfl (⟨b,db,jA rfl (⟨(s12 _ _ hb),hno _ (by decide +kernel),vF b x R L N ms zs ys (qS rfl (hq.same s12) (fun st hst=>(jA rfl ((KT x wl st a r us ys 0 ms _ ([]) R L N (zE rfl (hcn1.same s2) hwl hA hst hq.fleet hr (fun H3 s3=>(jA rfl (?_)))))))))⟩)⟩));rw [C1 fun y hy=>(hq.wok y hy).2];have hb2:yQ R L ys e=decide (r.berths≤((QM ys (a:Int):Nat):Int)):=by
  unfold yQ;rw [hy];show decide (bU R y.1≤(QM ys y.1:Int))=_;rw [ha];unfold bU;rw [aD,hr];rfl
 have q:=q H3 (s12.trans s3);rw [hb2] at q;cases hd:decide (r.berths≤((QM ys (a:Int):Nat):Int)) with
 |true=>rw [hd] at q;exact qL q
 |false=>rw [hd] at q;exact qH q
theorem oO:jV 2 ["book","entry","canal","fallen"] gR:=jU
include T in
theorem x9 (F:kK K "entry_pours" gR f fd) (xg:MeD P w K mg base 1 cO "canal" ["self"] (q9 (jH cP cB cU) cR cN cO (bL (jH cP cB cU) cR cN))):FnOk P w K mg base jO 2 f fd ["book","entry"] (zI (jH cP cB cU) cR cN cO bR):=by
 refine F.ok2 oO fun vs H Q E h=>?_
 refine zO h fun b t x e R L N ms zs ys h=>?_
 refine zJ h fun e_ hq hco hl2 hc0 q=>?_
 subst e_;refine ⟨rfl,fun _ _ _ _ hr=>?_⟩;refine ⟨_,(@jG _ _ _ _ _ (jP 2 oO.nd (qO xg hr (pv 0)))
   (@jG _ _ _ _ _ (j9 (j8 kO (jK (j3 K) (pv 1) jC) jS) (jQ (kL jD)) kD)
   QO)),?_⟩
 try dsimp only [jX,jW]
 obtain ⟨st0,J9,h1,h2,h3⟩:=id hco;obtain ⟨db,fs,hb,hno⟩:=hq.ins;have r8:=hq.r8;have l8:=hq.l8;exact (jA rfl (⟨b,db,jA rfl (⟨hb,hno _ (by decide +kernel),vF b x R L N ms zs ys (qS rfl hq (fun hcn=>(jA rfl (j5 (SqT.of h1) rfl (⟨rfl,jA rfl (qQ rfl ⟨aG _,fun l hl=>q l _ (jJ hl _) hl jE⟩)⟩)))))⟩)⟩))
theorem B5:jV 2 ["book","entry"] iK:=jU
include T in
theorem AW (F:kK K "words_worked" iK f fd) : FnOk P w K mg base jO 2 f fd ["book","entry"] (zI (jH cP cB cU) cR cN cO bR):=by
 refine F.ok2 B5 fun vs H Q E h=>?_
 refine zO h fun b t x e R L N ms zs ys h=>?_
 refine zJ h fun e_ hq hco hl2 hc0 q=>?_
 subst e_;refine ⟨rfl,fun _ _ _ _ hr=>?_⟩;refine ⟨_,(@jG _ _ _ _ _ (j9 (j8 kO (jK (j3 K) (pv 1) jC) jS) QO kD)
   (@jG _ _ _ _ _ (j9 (j8 kO (jK (j3 K) (pv 1) jC) jS) QO kD)
   (jQ (kL jD)))),?_⟩
 try dsimp only [jX,jW]
 obtain ⟨st0,J9,h1,h2,h3⟩:=id hco;obtain ⟨db,fs,hb,hno⟩:=hq.ins;have r8:=hq.r8;have l8:=hq.l8;exact (jA rfl (j5 (SqT.of h1) rfl (⟨rfl,jA rfl (q8 (fun e=>absurd (V.str.inj e) (by decide +kernel)) (jA rfl (j5 (SqT.of h1) rfl (⟨rfl,jA rfl (q8 (fun e=>absurd (V.str.inj e) (by decide +kernel)) ⟨aG _,fun l hl=>q l _ (jJ hl _) hl jE⟩)⟩))))⟩)))
theorem B4:jV 2 ["book","entry"] iI:=jU
include T in
theorem AU (F:kK K "ways_behind" iI f fd) (xu:MeD P w K mg base 1 cO "ways" ["self"] (q9 (jH cP cB cU) cR cN cO (eQ))) (zw:DefX P w K mg base 3 "way_told" ["canal","entry"] [] (lB (jH cP cB cU) cR cN eU)) (xg:MeD P w K mg base 1 cO "canal" ["self"] (q9 (jH cP cB cU) cR cN cO (bL (jH cP cB cU) cR cN))):FnOk P w K mg base (kF P w) 4 f fd ["book","entry"] (zI (jH cP cB cU) cR cN cO uB):=by
 refine F.okX2 B4 fun vs H Q E h=>?_
 refine zO h fun b t x e R L N ms zs ys h=>?_
 refine zJ h fun e_ hq hco hl2 hc0 q=>?_
 subst e_;refine ⟨rfl,fun _ _ _ _ hr=>?_⟩;refine ⟨_,(@jG _ _ _ _ _ (j9 (j8 kO (jK (j3 K) (pv 1) jC) jS) (jQ (@jI _ _ _ _ _ _ _ _ t9 (qO xu hr (pv 0)) (kL (jB (JC zw yN hr rfl (jB (qO xg hr (pv 0)) (jB (pv 1) jD))) jD)))) kD)
   QO),?_⟩
 try dsimp only [jX,jW]
 obtain ⟨st0,J9,h1,h2,h3⟩:=id hco;obtain ⟨db,fs,hb,hno⟩:=hq.ins;have r8:=hq.r8;have l8:=hq.l8;obtain ⟨y,hy,hok,hnz,h9⟩:=lP hc0;have n9:=hq.n9;refine (jA rfl (j5 (SqT.of h1) rfl (⟨rfl,jA rfl (qQ rfl (jA rfl (⟨b,db,jA rfl (⟨hb,hno _ (by decide +kernel),vF b x R L N ms zs ys (qS rfl hq (fun wl us H1 s1 hwl0 hwl hA=>?_))⟩)⟩)))⟩)));refine (jA rfl (⟨b,db,jA rfl (⟨(s1 _ _ hb),hno _ (by decide +kernel),vF b x R L N ms zs ys (qS rfl (hq.same s1) (fun hcn=>(jA rfl ((bV x t e ([]) R L N (zE rfl hcn (by omega) (by omega) (hco.same s1) hl2 (fun y' hy' w1 H2 s2 hw0 hwy=>?_) (fun hn=>absurd hn (by rw [hy];simp))))))))⟩)⟩));rw [hy] at hy';cases hy';refine ⟨zz1,fun l2 hl20=>?_⟩;have u:=jJ hl20 (.lst [V.ref w1]);have hul:=hA.1;refine ⟨wl,l2,_,_,rfl,rfl,u _ _ (s2 _ _ hwl),jE,cY (by rw [bf];omega),fun p hp=>?_⟩;have v:=jJ hp (.lst (us++[V.ref w1]));have w2:=(s2.trans u).trans v;exact q y p _ _ hy ((s1.trans s2).trans (u.trans v)) (((s1.trans s2).trans u).free hp) jE ((hA.mono (WyAt.same w2)).snoc (WyAt.same (u.trans v) _ _ hwy))
theorem iP:jV 2 ["book","entry","state","waters"] iF:=jU
include T in
theorem AQ (F:kK K "state_behind" iF f fd) (xn:MeD P w K mg base 1 cO "state" ["self"] (q9 (jH cP cB cU) cR cN cO (eD))) (zk:Def P w K mg base 1 "poured_all" ["waters","pours"] [] (mQ K)) (zf:Def P w K mg base 2 "entry_pours" ["book","entry"] [] (zI (jH cP cB cU) cR cN cO bR)):FnOk P w K mg base jO 3 f fd ["book","entry"] (zI (jH cP cB cU) cR cN cO tF):=by
 refine F.ok2 iP fun vs H Q E h=>?_
 refine zO h fun b t x e R L N ms zs ys h=>?_
 refine zJ h fun e_ hq hco hl2 hc0 q=>?_
 subst e_;refine ⟨rfl,fun _ _ _ _ hr=>?_⟩;refine ⟨_,(@jG _ _ _ _ _ (jP 2 iP.nd (qO xn hr (pv 0)))
   (@jG _ _ _ _ _ (jP 3 iP.nd (jM zk hr rfl (jB (jK (j3 K) (pv 2) jC) (jB (jM zf hr rfl (jB (pv 0) (jB (pv 1) jD))) jD))))
   (@jG _ _ _ _ _ (j9 (j8 kO (jK (j3 K) (pv 1) jC) jS) (jQ (kP (jZ (jK (j3 K) (pv 2) jC) (pv 3) (@jI _ _ _ _ _ _ _ _ EW (jK (j3 K) (pv 2) jC) (kP (jB jC jD)))))) kD)
   QO))),?_⟩
 try dsimp only [jX,jW]
 obtain ⟨st0,J9,h1,h2,h3⟩:=id hco;obtain ⟨db,fs,hb,hno⟩:=hq.ins;have r8:=hq.r8;have l8:=hq.l8;have n9:=hq.n9;refine (jA rfl (⟨b,db,jA rfl (⟨hb,hno _ (by decide +kernel),vF b x R L N ms zs ys (qS rfl hq (fun st hst=>?_))⟩)⟩));obtain ⟨wt,pt,g1,g2,g3⟩:=hst;refine (jA rfl (j5 (SqT.of g1) rfl ((jA rfl (jA rfl ((yS b t x e R L N ms zs ys (yD rfl hq hco hl2 hc0 (fun l H1 s1 hl0 hl=>?_)))))))));refine (zD wt l ms ([]) ([]) (yD rfl (.inr (SqT.of (s1 _ _ g2))) (so hl) ⟨rfl,fun i x h=>by cases h⟩ hq.m9 (fun r H2 s2 hr0 hr=>?_)));have s12:=s1.trans s2;refine (jA rfl (j5 (SqT.of (s12 _ _ h1)) rfl (⟨rfl,jA rfl (qQ rfl ?_)⟩)));have g1':=s12 _ _ g1;refine (jA rfl (j5 (SqT.of g1') rfl ((jA rfl (jA rfl (j5 (SqT.of g1') rfl (⟨zz1,fun p hp=>?_⟩)))))));have u:=jJ hp (.tup [V.int 0]);have fin:∀(pt2:Addr) (H3:Hp),Same (upd H2 p (.tup [V.int 0])) H3→H3 pt2=some (.tup ((List.replicate (ys.length+1) 0).map fun (p:Nat)=>V.int (p:Int)))→(3≤sizeLine∧∀t3,H3 t3=none→Q (.ref t3) (upd H3 t3 (.tup [.int 0,.ref r,.ref pt2]))):=fun pt2 H3 s3 h=>⟨by decide,fun t3 ht3=>by
  have v:=jJ ht3 (.tup [V.int 0,V.ref r,V.ref pt2]);exact q t3 _ ((s12.trans u).trans (s3.trans v)) ⟨r,pt2,jE,v _ _ (s3 _ _ (u _ _ hr)),v _ _ h⟩⟩
 refine ⟨pt,p,_,_,rfl,rfl,SqT.of (u _ _ (s12 _ _ g3)),SqT.of jE,(by simp),cY (by rw [ad,aZ];show ys.length+1≤1000;omega),fun hn=>?_,fun hn p2 hp2=>?_⟩
 ·have h0:ys.length=0:=by rw [map_eq_nil_iff,replicate_eq_nil_iff] at hn;exact hn
  exact fin p _ (Same.refl _) (by rw [h0];exact jE)
 ·have v:=jJ hp2 (.tup (((List.replicate ys.length 0).map fun (p:Nat)=>V.int (p:Int))++[V.int 0]));exact fin p2 _ v (by rw [jE,replicate_succ',aL];rfl)
theorem BC:jV 2 ["self","entry"] fS:=jU
include T in
theorem wZ (F:Fun K "fault" "Book.fault" fS f fd) (vz:DefX P w K mg base 5 "refuse_wrong" ["book","entry"] [] (dL (jH cP cB cU) cR cN cO eB eT eM eU eL)) (wb:DefX P w K mg base 6 "why_no_entry" ["book","entry"] [] (zI (jH cP cB cU) cR cN cO u7)):FnOk P w K mg base (kF P w) 7 f fd ["self","entry"] (dR (jH cP cB cU) cR cN cO eB eT eM eU eL):=by
 refine F.okX2 BC fun vs H Q E h=>?_
 refine zO h fun b t x e R L N ms zs ys h=>?_
 refine zA h fun e_ hq hco hl1 hl2 qv qe=>?_
 subst e_;refine ⟨rfl,fun _ _ _ _ hr=>?_⟩;refine ⟨_,(@jG _ _ _ _ _ (qE (JC vz yN hr rfl (jB (pv 0) (jB (pv 1) jD))))
   (jQ (JC wb yN hr rfl (jB (pv 0) (jB (pv 1) jD))))),?_⟩
 try dsimp only [jX,jW]
 refine (jA rfl (jA rfl ((yS b t x e R L N ms zs ys (vY rfl hq hco hl1 hl2 (fun h0 H1 s1=>?_) qe)))));exact (jA rfl (jA rfl ((yS b t x e R L N ms zs ys (yD rfl (hq.same s1) (hco.same s1) hl2 h0 (fun H2 s2=>qv h0 H2 (s1.trans s2)))))))
theorem oI:jV 2 ["self","entry","word"] fO:=jU
include T in
theorem wV (F:Fun K "behind" "Book.behind" fO f fd) (zg:MeX P w K mg base 7 cO "fault" ["self","entry"] (dR (jH cP cB cU) cR cN cO eB eT eM eU eL)) (wr:Def P w K mg base 3 "state_behind" ["book","entry"] [] (zI (jH cP cB cU) cR cN cO tF)) (wu:DefX P w K mg base 4 "ways_behind" ["book","entry"] [] (zI (jH cP cB cU) cR cN cO uB)):FnOk P w K mg base (kF P w) 8 f fd ["self","entry"] (dM (jH cP cB cU) cR cN cO eB eT eM eU eL eW):=by
 refine F.okX2 oI fun vs H Q E h=>?_
 refine zO h fun b t x e R L N ms zs ys h=>?_
 refine zA h fun e_ hq hco hl1 hl2 qv qe=>?_
 subst e_;refine ⟨rfl,fun _ _ _ _ hr=>?_⟩;refine ⟨_,(@jG _ _ _ _ _ (jP 2 oI.nd (JV zg yN hr (pv 0) (jB (pv 1) jD)))
   (@jG _ _ _ _ _ (j9 (j8 eO (pv 2) jS) (@kB _ _ _ (ZF ZC rfl rfl T.wg T.ju (jB (pv 2) jD))) kD)
   (jQ (kP (jB (JC wu yN hr rfl (jB (pv 0) (jB (pv 1) jD))) (jB (jM wr hr rfl (jB (pv 0) (jB (pv 1) jD))) jD)))))),?_⟩
 try dsimp only [jX,jW]
 obtain ⟨db,fs,hb,hno⟩:=hq.ins;refine (jA rfl (⟨b,db,jA rfl (⟨hb,hno _ (by decide +kernel),jA rfl ((yS b t x e R L N ms zs ys (vY rfl hq hco hl1 hl2 (fun h0 H1 s1=>?_) (fun hc H1 s1=>?_))))⟩)⟩))
 case refine_2 =>
  have hD:qJ R L zs ys e=kH R L zs e:=if_neg hc;have hE:qB eB eT eM eU eL eW (kH R L zs e)=ZV eB eT eM eU eL (kH R L zs e):=if_neg (by have:=bE R L zs e;omega);have:=qe (by rw [hD];exact hc) H1 s1;rw [hD,hE] at this;exact this
 by_cases hbt:yQ R L ys e=true
 ·have hD:qJ R L zs ys e=6:=by unfold qJ;rw [if_pos h0,if_pos hbt]
  rw [if_pos hbt];have:=qe (by rw [hD];decide) H1 s1;rw [hD] at this;exact ⟨_,rfl,rfl,jA rfl (eS (fun z=>absurd (V.str.inj z) (by decide +kernel)) (jA rfl (⟨by show 1≤sizeLine;decide,this⟩)))⟩
 have hD:qJ R L zs ys e=0:=by unfold qJ;rw [if_pos h0,if_neg hbt]
 rw [if_neg hbt];refine ⟨_,rfl,rfl,jA rfl (qH ?_)⟩;refine (jA rfl (jA rfl ((yS b t x e R L N ms zs ys (yD rfl (hq.same s1) (hco.same s1) hl2 h0 (fun y l us H2 hy s2 hl0 hl hA=>?_))))));have s12:=s1.trans s2;refine (jA rfl (jA rfl ((yS b t x e R L N ms zs ys (yD rfl (hq.same s12) (hco.same s12) hl2 h0 (fun st H3 s3 hst=>?_))))));refine ⟨zz2,fun p hp=>?_⟩;have u:=jJ hp (.tup [V.ref l,V.ref st]);have s3u:=s3.trans u;exact qv hD y p l st us _ hy (s12.trans s3u) jE (s1.free hl0) (s3u _ _ hl) (hA.mono (WyAt.same s3u)) (hst.same u)
theorem cQ:jV 2 ["self","entry","come_to","poured","worked"] fQ:=jU
include T in
theorem wX (F:Fun K "do" "Book.do" fQ f fd) (ze:MeX P w K mg base 8 cO "behind" ["self","entry"] (dM (jH cP cB cU) cR cN cO eB eT eM eU eL eW)) (zf:Def P w K mg base 2 "entry_pours" ["book","entry"] [] (zI (jH cP cB cU) cR cN cO bR)) (ww:Def P w K mg base 2 "words_worked" ["book","entry"] [] (zI (jH cP cB cU) cR cN cO bR)):FnOk P w K mg base (kF P w) 9 f fd ["self","entry"] (nB (jH cP cB cU) cR cN cO eB eT eM eU eL eW):=by
  refine F.okX2 cQ fun vs H Q E h=>?_
  refine IN h fun b t x nl pl ql el D e R L N ms zs ys h=>?_
  refine eZ h fun e_ hq hB hDl hco hl1 hl2 qv qe=>?_
  subst e_;refine ⟨rfl,fun _ _ _ _ hr=>?_⟩;refine ⟨_,(@jG _ _ _ _ _ (jP 2 cQ.nd (JV ze yN hr (pv 0) (jB (pv 1) jD)))
      (@jG _ _ _ _ _ (jP 3 cQ.nd (jM zf hr rfl (jB (pv 0) (jB (pv 1) jD))))
      (@jG _ _ _ _ _ (jP 4 cQ.nd (jM ww hr rfl (jB (pv 0) (jB (pv 1) jD))))
      (@jG _ _ _ _ _ (j9 (j8 kO (jK (j3 K) (pv 1) jC) jS) (@kB _ _ _ (qE (qP ak av aw vC (j7 K (pv 0) rfl) (jB (jK (j3 K) (pv 1) jC) jD)))) kD)
      (@jG _ _ _ _ _ (qR (pv 0) (jK (j3 K) (pv 2) jC) rfl)
      (@jG _ _ _ _ _ (qR (pv 0) (jK (j3 K) (pv 2) jC) rfl)
      (@jG _ _ _ _ _ (qE (qP ak PySem.F.slot_list_extend PySem.F.type_list_extend pX (j7 K (pv 0) rfl) (jB (pv 3) jD)))
      (@jG _ _ _ _ _ (qE (qP ak PySem.F.slot_list_extend PySem.F.type_list_extend pX (j7 K (pv 0) rfl) (jB (pv 4) jD)))
      (@kB _ _ _ (qE (qP ak av aw vC (j7 K (pv 0) rfl) (jB (pv 1) jD)))))))))))),?_⟩
  try dsimp only [jX,jW]
  obtain ⟨st0,J9,h1,h2,h3⟩:=id hco;obtain ⟨db,fs0,hb0,hno⟩:=hq.ins;have z9:=hq.z9;refine (jA rfl (⟨b,db,jA rfl (⟨hb0,hno _ (by decide +kernel),jA rfl ((yS b t x e R L N ms zs ys (vY rfl hq hco hl1 hl2 (fun hD y p l st us H1 hy s1 hp hl0 hl hA hst=>?_) qe)))⟩)⟩));have h0:=pK hD;refine (jA rfl (jA rfl ((yS b t x e R L N ms zs ys (yD rfl (hq.same s1) (hco.same s1) hl2 h0 (fun l1 H2 s2 hl10 hl1'=>?_))))));have s12:=s1.trans s2;refine (jA rfl (jA rfl ((yS b t x e R L N ms zs ys (yD rfl (hq.same s12) (hco.same s12) hl2 h0 (fun l2 H3 s3 hl20 hl2'=>?_))))));have s13:=s12.trans s3;have s23:=s2.trans s3
  replace hl1':=s3 _ _ hl1'
  replace hp:=s23 _ _ hp
  replace hl:=s23 _ _ hl
  replace hA:=hA.mono (WyAt.same s23)
  replace hst:=hst.same s23
  have hB3:=hB.same s13;obtain ⟨w1,wl,stt,fs,hb,hfl,hf,hr⟩:=hB3.ob;have h1':=s13 _ _ h1;refine (jA rfl (j5 (SqT.of h1') rfl (⟨rfl,jA rfl (qQ rfl ?_)⟩)));refine (jA rfl (kC hb (T.clO) (T.nO_kept_names) (hf.2.1) (⟨.inl ⟨rfl,_,so hB3.na⟩,?_⟩)));have nnb:nl≠b:=qF hB3.na hb (fun z=>nomatch z);have npb:pl≠b:=qF hB3.po hb (fun z=>nomatch z);have nqb:ql≠b:=qF hB3.wo hb (fun z=>nomatch z);obtain ⟨es,hen,hem⟩:=hB3.en;have neb:el≠b:=qF hen hb (fun z=>nomatch z);have nd:=hB3.nd;simp only [du,am,aA,bg,not_or,not_false_eq_true,nodup_nil,and_true] at nd;obtain ⟨⟨n12,n13,n14⟩,⟨n23,n24⟩,n34⟩:=nd;have np:p≠nl:=qF hp hB3.na (fun z=>nomatch z);have npB:p≠b:=qF hp hb (fun z=>nomatch z);refine (jA rfl (j5 (SqT.of h1') rfl (⟨nl,_,_,rfl,rfl,hB3.na,vL (by rw [ad];omega),?_⟩)));refine (jA rfl (j5 (SqT.of (by rw [jL np];exact hp)) rfl ((jA rfl ((ZZ b cO w1 fs (yD rfl (by rw [jL nnb.symm];exact hb) T.clO T.nO_kept_ways (by omega) (?_))))))));refine (jA rfl (j5 (SqT.of (by rw [jL npB,jL np];exact hp)) rfl ((jA rfl (⟨b,cO,w1,jF "kept_ways" (.ref l) fs,rfl,jE,T.clO,T.nO_kept_state,(by have:=yF "kept_ways" (.ref l) fs;omega),?_⟩)))));have F:=(hf.put2 (.ref l)).put3 (.ref st);have hb6:upd (upd (upd H3 nl (.lst (zs.map V.str++[.str e.name]))) b (.ins cO w1 (jF "kept_ways" (.ref l) fs))) b (.ins cO w1 (jF "kept_state" (.ref st) (jF "kept_ways" (.ref l) fs))) b=some (.ins cO w1 (jF "kept_state" (.ref st) (jF "kept_ways" (.ref l) fs))):=jE;have g6:∀a,a≠nl→a≠b→upd (upd (upd H3 nl (.lst (zs.map V.str++[.str e.name]))) b (.ins cO w1 (jF "kept_ways" (.ref l) fs))) b (.ins cO w1 (jF "kept_state" (.ref st) (jF "kept_ways" (.ref l) fs))) a=H3 a:=fun a h1 h2=>by rw [jL h2,jL h2,jL h1]
  have n6:upd (upd (upd H3 nl (.lst (zs.map V.str++[.str e.name]))) b (.ins cO w1 (jF "kept_ways" (.ref l) fs))) b (.ins cO w1 (jF "kept_state" (.ref st) (jF "kept_ways" (.ref l) fs))) nl=some (.lst (zs.map V.str++[.str e.name])):=by rw [jL nnb,jL nnb];exact jE
  have d6:∀A:List Addr,nl∈A→b∈A→j4 (upd (upd (upd H3 nl (.lst (zs.map V.str++[.str e.name]))) b (.ins cO w1 (jF "kept_ways" (.ref l) fs))) b (.ins cO w1 (jF "kept_state" (.ref st) (jF "kept_ways" (.ref l) fs)))) A=j4 H3 A:=fun A h1 h2=>by rw [yH h2,yH h2,yH h1]
  generalize upd (upd (upd H3 nl (.lst (zs.map V.str++[.str e.name]))) b (.ins cO w1 (jF "kept_ways" (.ref l) fs))) b (.ins cO w1 (jF "kept_state" (.ref st) (jF "kept_ways" (.ref l) fs)))=H6 at hb6 g6 n6 d6 ⊢;have lf:(jF "kept_state" (.ref st) (jF "kept_ways" (.ref l) fs)).length≤7+2*(zs.length+1):=by
    have h1:=yF "kept_ways" (.ref l) fs;have h2:=yF "kept_state" (.ref st) (jF "kept_ways" (.ref l) fs);omega
  generalize jF "kept_state" (.ref st) (jF "kept_ways" (.ref l) fs)=fs6 at hb6 F lf;have old:∀(a c:Addr) (o:HO) (G:Hp),H a=some o→Same H G→G c=none→c≠a:=fun a c o G h s hc=>(kE (s _ _ h) hc).symm
  have hNl:=hB.na;have hPl:=hB.po;have hQl:=hB.wo;obtain ⟨es0,hEl,_⟩:=hB.en;have p6:H6 pl=some (.lst []):=by rw [g6 pl (Ne.symm n12) npb];exact hB3.po
  refine (jA rfl (kC hb6 (T.clO) (T.nO_kept_pours) (F.2.2.2.2.1) (⟨.inl ⟨rfl,_,so p6⟩,jA rfl (⟨pl,l1,[],[],rfl,rfl,p6,by rw [g6 l1 (old _ _ _ _ hNl s1 hl10) (old _ _ _ _ hb0 s1 hl10)];exact hl1',by show 0≤sizeLine;decide,?_⟩)⟩)));have q7:upd H6 pl (.lst ([]++[])) ql=some (.lst []):=by rw [jL (Ne.symm n23),g6 ql (Ne.symm n13) nqb];exact hB3.wo
  refine (jA rfl (kC (by rw [jL (Ne.symm npb)];exact hb6) (T.clO) (T.nO_kept_words) (F.2.2.2.2.2.1) (⟨.inl ⟨rfl,_,so q7⟩,jA rfl (⟨ql,l2,[],[],rfl,rfl,q7,by rw [jL (old _ _ _ _ hPl s12 hl20),g6 l2 (old _ _ _ _ hNl s12 hl20) (old _ _ _ _ hb0 s12 hl20)];exact hl2',by show 0≤sizeLine;decide,?_⟩)⟩)));have e8:upd (upd H6 pl (.lst ([]++[]))) ql (.lst ([]++[])) el=some (.lst es):=by rw [jL (Ne.symm n34),jL (Ne.symm n24),g6 el (Ne.symm n14) neb];exact hen
  refine (jA rfl (kC (by rw [jL (Ne.symm nqb),jL (Ne.symm npb)];exact hb6) (T.clO) (T.nO_kept_entries) (F.2.2.2.2.2.2.1) (⟨.inl ⟨rfl,_,so e8⟩,jA rfl (⟨el,_,_,rfl,rfl,e8,vL (by omega),?_⟩)⟩)));have hA9:∀A:List Addr,b∈A→nl∈A→pl∈A→ql∈A→el∈A→j4 (upd (upd (upd H6 pl (.lst ([]++[]))) ql (.lst ([]++[]))) el (.lst (es++[.ref t]))) A=j4 H3 A:=fun A h1 h2 h3 h4 h5=>by rw [yH h5,yH h4,yH h3,d6 A h2 h1]
  have nT:∀a∈b::nl::pl::ql::el::D,∀l',H3 a≠some (.tup l'):=fun a h l' e=>by
    simp only [am] at h
    rcases h with rfl|rfl|rfl|rfl|rfl|h
    · rw [hb] at e;cases e
    · rw [hB3.na] at e;cases e
    · rw [hB3.po] at e;cases e
    · rw [hB3.wo] at e;cases e
    · rw [hen] at e;cases e
    · obtain ⟨l'',h'⟩:=hDl a h
      rw [s13 _ _ h'] at e;cases e
  have lA:l∉b::nl::pl::ql::el::D:=fun h=>by
    simp only [am] at h
    rcases h with rfl|rfl|rfl|rfl|rfl|h
    · rw [hb0] at hl0;cases hl0
    · rw [hNl] at hl0;cases hl0
    · rw [hPl] at hl0;cases hl0
    · rw [hQl] at hl0;cases hl0
    · rw [hEl] at hl0;cases hl0
    · obtain ⟨l'',h'⟩:=hDl l h
      rw [h'] at hl0;cases hl0
  refine qv hD y _ hy ⟨⟨w1,l,st,fs6,?_,lf,F,?_⟩,?_,?_,?_,⟨_,jE,by rw [aj,hem];rfl⟩,hB3.nd⟩ ?_
  · rw [jL (Ne.symm neb),jL (Ne.symm nqb),jL (Ne.symm npb)];exact hb6
  · rw [hA9 _ (by simp) (by simp) (by simp) (by simp) (by simp)]
    exact ⟨hr.cn,⟨us,by rw [qV lA];exact hl,hA.mono (WyAt.del nT)⟩,by rw [aj];exact StAt.del nT hst⟩
  · rw [jL n14,jL n13,jL n12,n6,aL];rfl
  · rw [jL n24,jL n23];exact jE
  · rw [jL n34];exact jE
  · rw [hA9 _ (by simp) (by simp) (by simp) (by simp) (by simp)]
    exact yG s13
def lC (K:W.Frag):Sp:=fun vs H Q _=>∃(s:Addr) (ns:List Int) (k:Int) (m:Nat),vs=[.ref s,.int k,.int (m:Int)]∧SqL K H s (ns.map V.int)∧ns.length≤63∧0≤k∧k≤90000∧m≤12∧∀(l:Addr) (zs:List Str) (H':Hp),Same H H'→H l=none→H' l=some (.lst (zs.map V.str))→zs.length=m→(∀z∈zs,z.length≤50)→Q (.ref l) H'
theorem sW {i:Int} (h0:0≤i) (h1:i<26):∃c,qU ("abcdefghijklmnopqrstuvwxyz":Str).cps.toList i=some c:=by
 obtain ⟨k,rfl⟩:∃k:Nat,i=(k:Int):=⟨i.toNat,by omega⟩;have hl:k<("abcdefghijklmnopqrstuvwxyz":Str).cps.toList.length:=by
  have:("abcdefghijklmnopqrstuvwxyz":Str).cps.toList.length=26:=by decide +kernel
  omega
 exact ⟨_,qN (aa hl)⟩
theorem o8 (a b:Str):(a++b).length=a.length+b.length:=by
 show (a.cps++b.cps).size=a.cps.size+b.cps.size;exact Array.size_append
def rQ (K:W.Frag) (cR:Addr):Sp:=fun vs H Q _=>∃(s:Addr) (ns:List Int) (k:Nat) (u:Int) (nm:Str),vs=[.ref s,.int (k:Int),.int u,.str nm]∧SqL K H s (ns.map V.int)∧ns.length≤63∧k<8∧1≤u∧u≤10000000000∧∀(x:Addr) (r:RC) (H':Hp),r.good k→Same H H'→H x=none→RcAt cR H' x r→Q (.ref x) H'
def sS (K:W.Frag) (cs:Kd→Addr):Sp:=fun vs H Q _=>∃(s:Addr) (ns:List Int) (k n:Nat) (u:Int) (nm:Str),vs=[.ref s,.int (k:Int),.int (n:Int),.int u,.str nm]∧SqL K H s (ns.map V.int)∧ns.length≤63∧k<4∧2≤n∧n≤8∧1≤u∧u≤10000000000∧∀(x:Addr) (l:LC) (H':Hp),l.good n→Same H H'→H x=none→LkO cs H' (.ref x) l→Q (.ref x) H'
def rT (K:W.Frag) (cs:Kd→Addr) (cR cN:Addr):Sp:=fun vs H Q _=>∃(s:Addr) (ns:List Int) (mr ml mn:Nat),vs=[.ref s,.int (mr:Int),.int (ml:Int),.int (mn:Int)]∧SqL K H s (ns.map V.int)∧ns.length≤63∧2≤mr∧mr≤8∧1≤ml∧ml≤4∧mn≤5∧∀(x:Addr) (R:List RC) (L:List LC) (N:List (List (Int×Int))) (H':Hp),Drawn R L N→R.length≤mr→L.length≤ml→N.length≤mn→2≤R.length→1≤L.length→Same H H'→H x=none→CnAt cs cR cN [] H' x R L N→Q (.ref x) H'
theorem EE {zs:List Str} {c:Nat} (h:c≤zs.length):ZW (zs.map V.str) none (some (c:Int))=(zs.take c).map V.str:=by
 unfold ZW;rw [ad,HT.sIx_none,HT.sIx_nat,Nat.min_eq_left h,drop_zero,Nat.sub_zero,map_take]
def sM (K:W.Frag) (cs:Kd→Addr) (cR cN:Addr):Sp:=fun vs H Q _=>∃(s x:Addr) (ns:List Int) (k:Nat) (D:List Addr) (R:List RC) (L:List LC) (N:List (List (Int×Int))),vs=[.ref s,.int (k:Int),.ref x,.int 8]∧SqL K H s (ns.map V.int)∧ns.length≤63∧k<20∧CnAt cs cR cN D H x R L N∧Drawn R L N∧1≤L.length∧∀(t:Addr) (y:jR) (H':Hp),WyOk L y→1≤y.2.length→(∃a:Nat,y.1=(a:Int)∧a<R.length)→Same H H'→H t=none→WyAt H' (.ref t) y→Q (.ref t) H'
theorem EC {R:List RC} {L:List LC} {N:List (List (Int×Int))} (d:Drawn R L N) {a:Int} (h:EndAt L a):∃n:Nat,a=(n:Int)∧n<R.length:=by
 obtain ⟨⟨k,b⟩,h1,h2⟩:=h;obtain ⟨l,hl,hg⟩:=pI d h1;have hl:L[k]?=some l:=hl;obtain ⟨g1,g2,g3,g4,_⟩:=hg;cases b
 ·rw [JA hl] at h2;have h2:l.high=a:=h2;exact ⟨a.toNat,by omega,by omega⟩
 ·rw [JD hl] at h2;have h2:l.low=a:=h2;exact ⟨a.toNat,by omega,by omega⟩
def ZN (L:List LC) (k:Nat):Str:=((L[k]?).map (·.name)).getD ""
def tV (R:List RC) (k:Nat):Str:=((R[k]?).map (·.name)).getD ""
def rS (cs:Kd→Addr) (cR cN:Addr):Sp:=fun vs H Q _=>∃(x t:Addr) (nm:Str) (y:jR) (a:Nat) (D:List Addr) (R:List RC) (L:List LC) (N:List (List (Int×Int))),vs=[.ref x,.str nm,.ref t]∧CnAt cs cR cN D H x R L N∧WyAt H (.ref t) y∧WyOk L y∧y.1=(a:Int)∧a<R.length∧
 ∀(e:Addr) (H':Hp),Same H H'→H e=none→CoAt H' e ⟨nm,tV R a,y.2.map fun p=>(ZN L p.1,p.2)⟩→Q (.ref e) H'
def zR (c:Nat):Str:=if c=1 then "BadRow" else if c=2 then "Twice" else if c=3 then "TooMany" else if c=4 then "Unknown" else if c=5 then "NotLinked" else "NotNow"
def AnsAt (H:Hp) (r:Addr) (c:Nat):Prop:=(c=0∧H r=some (.tup [.str "told",.str ""]))∨(c=7∧H r=some (.tup [.str "told",.str "berth"]))∨(1≤c∧c≤6∧∃l,H r=some (.tup [.str "refused",.ref l])∧H l=some (.lst [.str (zR c)]))
structure Seen (K:W.Frag) (eB eT eM eU eL eW:Addr) (c:Nat):Prop where
 at_:ExcAttr K (qB eB eT eM eU eL eW c)
 cl:(W.clsIn K (qB eB eT eM eU eL eW c)).isSome=true
 kv:W.kitOne K (.ref (qB eB eT eM eU eL eW c)) (.type "ValueError")=some true
 k:∀i,1≤i→i≤6→W.kitOne K (.ref (qB eB eT eM eU eL eW c)) (.ref (qB eB eT eM eU eL eW i))=some (decide (c=i))
def pU (eB eT eM eU eL eW:Addr):Sp:=fun vs H Q _=>∃(x:Addr) (c:Nat),vs=[.ref x]∧H x=some (J4 x (qB eB eT eM eU eL eW c))∧1≤c∧c≤6∧∀(r:Addr) (H':Hp),Same H H'→AnsAt H' r c→Q (.ref r) H'
theorem QA {c:Nat} (h1:1≤c) (h2:c≤6):c=1∨c=2∨c=3∨c=4∨c=5∨c=6:=by omega
noncomputable def vN (R:List RC) (L:List LC) (zs:List Str) (ys:List jR) (e:CoE):Nat:=if kH R L zs e=0 then (if yQ R L ys e=true then 7 else 0) else kH R L zs e
def sV (cs:Kd→Addr) (cR cN cO:Addr):Sp:=fun vs H Q _=>∃(b t x nl pl ql el:Addr) (D:List Addr) (e:CoE) (w:Nat) (R:List RC) (L:List LC) (N:List (List (Int×Int))) (ms:List Int) (zs:List Str) (ys:List jR),vs=[.ref b,.ref t,.int (w:Int)]∧w≤2∧BkQ cs cR cN cO H b x R L N ms zs ys∧BkAt cs cR cN cO D H b nl pl ql el x R L N ms zs ys zs.length∧(∀d∈D,∃l,H d=some (.lst l))∧CoAt H t e∧e.name.length≤100∧e.steps.length≤100∧
 (w=0→∀(r:Addr) (H':Hp),Same H H'→AnsAt H' r (vN R L zs ys e)→Q (.ref r) H')∧(w=1→∀(r:Addr) (H':Hp),Same H H'→AnsAt H' r (qJ R L zs ys e)→Q (.ref r) H')∧
 (w=2→qJ R L zs ys e≠0→∀(r:Addr) (H':Hp),Same H H'→AnsAt H' r (qJ R L zs ys e)→Q (.ref r) H')∧
 (w=2→qJ R L zs ys e=0→∀(y:jR) (r:Addr) (H1 H':Hp),qK R L e=some y→BkAt cs cR cN cO D H1 b nl pl ql el x R L N ms (zs++[e.name]) (ys++[y]) (zs.length+1)→Same (j4 H [b,nl,pl,ql,el]) (j4 H1 [b,nl,pl,ql,el])→Same H1 H'→AnsAt H' r 0→Q (.ref r) H')
theorem sJ (R:List RC) (L:List LC) (zs:List Str) (ys:List jR) (e:CoE):qJ R L zs ys e≤6:=by
 unfold qJ;have:=bE R L zs e
 split
 ·split<;>decide
 ·omega
theorem IS (eB eT eM eU eL eW:Addr) {R:List RC} {L:List LC} {zs:List Str} {e:CoE}:ZV eB eT eM eU eL (kH R L zs e)=qB eB eT eM eU eL eW (kH R L zs e):=by
 unfold qB;have:=bE R L zs e;rw [if_neg (by omega)]
theorem tN (zs:List Str) {d:Int} (h0:0≤d) (h1:d<(zs.length:Int)):∃z,z∈zs∧qU (zs.map V.str) d=some (.str z):=by
 obtain ⟨k,rfl⟩:∃k:Nat,d=(k:Int):=⟨d.toNat,by omega⟩;have hk:k<zs.length:=by omega
 exact ⟨zs[k],cb hk,qN (by rw [ax,aa hk];rfl)⟩
theorem AllAt.setI {α:Type} {P:V→α→Prop} {us:List V} {ss:List α} {v:V} {p:α} (h:AllAt P us ss) (i:Nat) (hv:P v p):AllAt P (us.set i v) (ss.set i p):=by
 refine ⟨by rw [aW,aW];exact h.1,fun j z hz=>?_⟩
 by_cases e:i=j
 ·subst e;have hi:i<us.length:=by have:=(ag.mp hz).1;rwa [aW] at this
  rw [bu hi] at hz;cases hz;exact ⟨p,bu (by rw [← h.1];exact hi),hv⟩
 ·rw [cc e] at hz;obtain ⟨x,hx,px⟩:=h.2 j z hz;exact ⟨x,by rw [cc e];exact hx,px⟩
def sO (K:W.Frag):Sp:=fun vs H Q _=>∃(s t tl:Addr) (ns:List Int) (e:CoE) (zs:List Str),vs=[.ref s,.ref t,.ref tl]∧SqL K H s (ns.map V.int)∧ns.length≤63∧CoAt H t e∧e.name.length≤100∧1≤e.steps.length∧e.steps.length≤100∧H tl=some (.lst (zs.map V.str))∧zs.length≤100∧(∀z∈zs,z.length≤100)∧
 ∀(t':Addr) (e':CoE) (H':Hp),Same H H'→CoAt H' t' e'→e'.name.length≤100→e'.steps.length=e.steps.length→Q (.ref t') H'
theorem pZ {zs:List Str} {nm:Str} {j:Nat} (h:FirstAt zs nm j):j<(zs.map V.str).length∧qA ((zs.map V.str).getD j .non) (.str nm)=true∧∀i,i<j→qA ((zs.map V.str).getD i .non) (.str nm)=false:=by
 have hj:=(ag.mp h.1).1;refine ⟨by rw [ad];exact hj,?_,fun i hi=>?_⟩
 ·rw [af,ax,h.1];show (nm == nm)=true;exact cw nm
 ·have hz:zs[i]?=some zs[i]:=aa (by omega);rw [af,ax,hz];show (zs[i] == nm)=false;exact bv.mpr fun e=>h.2 i hi (by rw [hz,e])
theorem o9 {zs:List Str}:∀{l:List (Str×Bool)},(∀p∈l,p.1∈zs)→∃ps,qX zs l=some ps
 |[],_=>⟨[],rfl⟩
 | (n,b)::r,h=>by
  obtain ⟨ps,hp⟩:=o9 (l:=r) fun p hp=>h p (aC _ hp)
  have hn:n∈zs:=h (n,b) aQ;cases hk:kS zs n with
  |none =>
   obtain ⟨i,hi⟩:=dw.mp hn;exact absurd hi (iX hk i)
  |some k =>
   refine ⟨(k,b)::ps,?_⟩;show (match kS zs n with|none=>none|some k=>(qX zs r).map ((k,b) :: ·))=_;rw [hk,hp];rfl
theorem pR {zs:List Str}:∀{l:List (Str×Bool)} {ps:List (Nat×Bool)},qX zs l=some ps→∀(i:Nat) (q:Str×Bool),l[i]?=some q→∃k,kS zs q.1=some k∧ps[i]?=some (k,q.2)
 |[],ps,h,i,q,hq=>by cases hq
 | (n,b)::r,ps,h,i,q,hq=>by
  unfold qX at h;cases hn:kS zs n with
  |none=>rw [hn] at h;cases h
  |some k =>
   rw [hn] at h;obtain ⟨qs,hqs,rfl⟩:=bb.mp h;cases i with
   |zero=>cases hq;exact ⟨k,hn,rfl⟩
   |succ i=>exact pR hqs i q hq
def K4 (R:List RC) (L:List LC) (e:CoE) (v:V) (H:Hp):Prop:=(qK R L e=none∧v=.non)∨(∃y l,qK R L e=some y∧¬vV L y.1 y.2∧v=.ref l∧H l=some (.lst []))∨(∃y l st us,qK R L e=some y∧vV L y.1 y.2∧v=.ref l∧H l=some (.lst [.int y.1,.ref st])∧H st=some (.tup us)∧AllAt (PAt H) us y.2)
def lS (cs:Kd→Addr) (cR cN:Addr):Sp:=fun vs H Q _=>∃(x t:Addr) (e:CoE) (D:List Addr) (R:List RC) (L:List LC) (N:List (List (Int×Int))),vs=[.ref x,.ref t]∧CnAt cs cR cN D H x R L N∧R.length≤100∧L.length≤100∧CoAt H t e∧e.steps.length≤100∧
 ∀(v:V) (H':Hp),Same H H'→K4 R L e v H'→Q v H'
theorem DZ {n:Nat} {H:Hp} {Q:VK} (h:Q (.bl (decide (0<n)&&decide (n<13))) H):JK (fun i j=>V.bl (decide (i≤j))) (.int 1) (.int (n:Int)) H fun z H3=>∃k,z=.bl k∧(if k=true then JK (fun i j=>V.bl (decide (i≤j))) (.int (n:Int)) (.int 12) H3 Q else Q (.bl false) H3):=by
 refine ⟨_,_,rfl,rfl,_,rfl,?_⟩
 by_cases h1:(1:Int)≤(n:Int)
 ·refine qQ h1 ⟨_,_,rfl,rfl,?_⟩;rw [aO (show 0<n by omega),Bool.true_and] at h;show Q (V.bl (decide ((n:Int)≤12))) H;rw [show decide ((n:Int)≤12)=decide (n<13) from decide_eq_decide.mpr (by omega)];exact h
 ·refine q8 h1 ?_;rw [aK (show ¬0<n by omega),Bool.false_and] at h;exact h
def sT (cs:Kd→Addr) (cR cN:Addr):Sp:=fun vs H Q _=>∃(x nl sl t:Addr) (e:CoE) (zs:List Str) (ys:List jR) (D:List Addr) (R:List RC) (L:List LC) (N:List (List (Int×Int))),vs=[.ref x,.ref nl,.ref sl,.ref t]∧CnAt cs cR cN D H x R L N∧R.length≤100∧L.length≤100∧CoAt H t e∧e.name.length≤100∧e.steps.length≤100∧H nl=some (.lst (zs.map V.str))∧zs.length≤9∧H sl=some (.lst (ys.map fun y=>V.int y.1))∧ys.length≤100∧
 ∀(r:Addr) (H':Hp),Same H H'→AnsAt H' r (vN R L zs ys e)→Q (.ref r) H'
def QU:List GK→GK
 |[]=>.nil
 |k::ks=>.cons k (QU ks)
def eN (p:Nat×Bool):GK:=.cons (.i (p.1:Int)) (.cons (.s (vX p.2)) .nil)
def mZ (y:jR):GK:=.cons (.i y.1) (.cons (QU (y.2.map eN)) .nil)
theorem tH:∀{ks:List GK} {n:Nat},0<n→(∀k∈ks,gd k≤n)→gd (QU ks)≤n+1
 |[],n,_,_=>by show 1≤n+1;omega
 |k::ks,n,h0,h=>by
  have h1:=h k aQ;have h2:=tH h0 fun k' hk=>h k' (aC _ hk)
  show max (gd k+1) (gd (QU ks))≤n+1;omega
theorem GI (y:jR):gd (mZ y)≤8:=by
 have h:=tH (ks:=y.2.map eN) (n:=2) (by decide) fun k hk=>by
  obtain ⟨p,_,rfl⟩:=mem_map.mp hk;exact ai 2
 show max 2 (max (gd (QU (y.2.map eN))+1) 1)≤8;omega
theorem AllAt.uncons {α:Type} {P:V→α→Prop} {v:V} {vs:List V} {x:α} {xs:List α} (h:AllAt P (v::vs) (x::xs)):P v x∧AllAt P vs xs :=
 ⟨by obtain ⟨y,hy,p⟩:=h.2 0 v rfl;cases hy;exact p,⟨by have:=h.1;simpa using this,fun i u hu=>h.2 (i+1) u hu⟩⟩
theorem wH {H:Hp}:∀{us:List V} {ks:List GK},AllAt (fun v k=>(GV H k).1 v) us ks→(GV H (QU ks)).2 us
 |[],[],_=>rfl
 |v::us,k::ks,h=>⟨v,us,rfl,h.uncons.1,wH h.uncons.2⟩
 |[],k::ks,h=>absurd h.1 (by simp)
 |v::us,[],h=>absurd h.1 (by simp)
theorem LG {H:Hp} {a:Addr} {us:List V} {ks:List GK} (ha:H a=some (.tup us)) (h:AllAt (fun v k=>(GV H k).1 v) us ks):(GV H (QU ks)).1 (.ref a):=by
 cases ks with
 |nil=>obtain rfl:us=[]:=length_eq_zero_iff.mp h.1;exact ⟨a,rfl,ha⟩
 |cons k ks=>exact ⟨a,us,rfl,ha,wH h⟩
theorem FF {H:Hp} {v:V} {y:jR} (h:WyAt H v y):(GV H (mZ y)).1 v:=by
 obtain ⟨t,st,us,rfl,h1,h2,h3⟩:=h;refine ⟨t,_,rfl,h1,_,_,rfl,rfl,_,_,rfl,LG h2 ⟨by rw [ad];exact h3.1,fun i v hv=>?_⟩,rfl⟩;obtain ⟨p,hp,tp,rfl,htp⟩:=h3.2 i v hv;exact ⟨eN p,by rw [ax,hp];rfl,tp,_,rfl,htp,_,_,rfl,rfl,_,_,rfl,rfl,rfl⟩
theorem CV (zs:List Str):(zs.map V.str).all mX=true:=by rw [all_map];exact br.mpr fun z _=>rfl
theorem sI {K:W.Frag} {H:Hp} {a b:Addr} {xs:List V} (fx:xs.all qG=true) (ha:H a=some (.tup xs)) (hb:H b=some (.tup xs)):DEq K H (.ref a) (.ref b) true:=by
 by_cases h:a=b
 ·rw [h];exact .same b
 ·have:=DEq.tup (K:=K) h (SqT.of ha) (SqT.of hb) fx fx;rw [sE fx] at this;exact this
theorem E9 {K:W.Frag} {H:Hp} (d:Int):DEq K H (.int d) (.int d) true:=by
 have:=DEq.flat (K:=K) (H:=H) (x:=.int d) (y:=.int d) rfl rfl;rw [QJ rfl] at this;exact this
def pB (cs:Kd→Addr) (cR cN cO:Addr):Sp:=fun vs H Q _=>∃(b x na wa:Addr) (us:List V) (gs:List Int) (R:List RC) (L:List LC) (N:List (List (Int×Int))) (ms:List Int) (zs:List Str) (ys:List jR),vs=[.ref b,.ref x,.ref na,.ref wa]∧BkQ cs cR cN cO H b x R L N ms zs ys∧H na=some (.lst (zs.map V.str))∧H wa=some (.lst us)∧AllAt (WyAt H) us ys∧ms=y6 (qZ R L.length) (qY R L.length) gs∧Spl (qY R L.length) (qZ R L.length) gs∧JW R∧∀H',Same H H'→Q (.bl true) H'
theorem eF {K:W.Frag} {H:Hp} {r r':Addr} {c:Nat} {Q:VK} (h:AnsAt H r c) (h':AnsAt H r' c) (q:Q (.bl false) H):mS K (.ref r) (.ref r') H Q:=by
 have ds:∀z:Str,DEq K H (.str z) (.str z) true:=fun z=>by
  have:=DEq.flat (K:=K) (H:=H) (x:=.str z) (y:=.str z) rfl rfl;rw [QJ rfl] at this;exact this
 have two:∀(a b:V) (xs ys:List V),xs=[a,b]→∀(c d:V),ys=[c,d]→H r=some (.tup xs)→H r'=some (.tup ys)→DEq K H a c true→DEq K H b d true→mS K (.ref r) (.ref r') H Q:=fun a b xs ys e1 c d e2 h1 h2 d1 d2=>by
  subst e1 e2;refine ⟨r,r',_,_,[true,true],rfl,rfl,SqT.of h1,SqT.of h2,rfl,rfl,fun j hj=>?_,q⟩
  match j,hj with
  |0,_=>exact d1
  |1,_=>exact d2
 rcases h with ⟨c0,h1⟩|⟨c7,h1⟩|⟨c1,c6,l,h1,h2⟩
 ·rcases h' with ⟨_,g1⟩|⟨g7,_⟩|⟨g1,_⟩
  ·exact two _ _ _ _ rfl _ _ rfl h1 g1 (ds _) (ds _)
  ·omega
  ·omega
 ·rcases h' with ⟨_,g1⟩|⟨_,g1⟩|⟨_,g1,_⟩
  ·omega
  ·exact two _ _ _ _ rfl _ _ rfl h1 g1 (ds _) (ds _)
  ·omega
 ·rcases h' with ⟨_,g1⟩|⟨g7,_⟩|⟨_,_,l',g1,g2⟩
  ·omega
  ·omega
  ·refine two _ _ _ _ rfl _ _ rfl h1 g1 (ds _) ?_
   by_cases e:l=l'
   ·rw [e];exact .same l'
   ·have:=DEq.lst (K:=K) e (so h2) (so g2) (by rfl) (by rfl);rw [sE (by rfl)] at this;exact this
theorem EJ {K:W.Frag} {H:Hp} {r b:Addr} {c:Nat} {Q:VK} (h:AnsAt H r c) (hb:H b=some (.tup [V.str "told",V.str "berth"])) (q:Q (.bl (decide (c=7))) H):uK K (.ref r) (.ref b) H Q:=by
 have fl:∀x y:Str,DEq K H (.str x) (.str y) (qA (.str x) (.str y)):=fun x y=>.flat rfl rfl
 rcases h with ⟨c0,h1⟩|⟨c7,h1⟩|⟨c1,c6,l,h1,h2⟩
 ·refine ⟨r,b,_,_,[qA (.str "told") (.str "told"),qA (.str "") (.str "berth")],rfl,rfl,SqT.of h1,SqT.of hb,rfl,rfl,fun j hj=>.inl ?_,?_⟩
  ·match j,hj with
   |0,_=>exact fl _ _
   |1,_=>exact fl _ _
  ·rw [c0] at q;exact q
 ·refine ⟨r,b,_,_,[qA (.str "told") (.str "told"),qA (.str "berth") (.str "berth")],rfl,rfl,SqT.of h1,SqT.of hb,rfl,rfl,fun j hj=>.inl ?_,?_⟩
  ·match j,hj with
   |0,_=>exact fl _ _
   |1,_=>exact fl _ _
  ·rw [c7] at q;exact q
 ·refine ⟨r,b,_,_,[qA (.str "refused") (.str "told"),false],rfl,rfl,SqT.of h1,SqT.of hb,rfl,rfl,fun j hj=>?_,?_⟩
  ·match j,hj with
   |0,_=>exact .inl (fl _ _)
   |1,_=>exact .inr ⟨l,_,_,rfl,so h2,rfl,rfl⟩
  ·rw [aK (by omega)] at q;exact q
theorem AnsAt.same {H H':Hp} {r:Addr} {c:Nat} (s:Same H H') (h:AnsAt H r c):AnsAt H' r c:=by
 rcases h with ⟨c0,h1⟩|⟨c7,h1⟩|⟨c1,c6,l,h1,h2⟩
 ·exact .inl ⟨c0,s _ _ h1⟩
 ·exact .inr (.inl ⟨c7,s _ _ h1⟩)
 ·exact .inr (.inr ⟨c1,c6,l,s _ _ h1,s _ _ h2⟩)
structure OneAt (cs:Kd→Addr) (cR cN cO:Addr) (H:Hp) (b x na wa nl pl ql el:Addr) (R:List RC) (L:List LC) (N:List (List (Int×Int))) (ms:List Int) (zs:List Str) (ys:List jR):Prop where
 bk:BkAt cs cR cN cO [na,wa] H b nl pl ql el x R L N ms zs ys zs.length
 nm:H na=some (.lst (zs.map V.str))
 ws:∃us,H wa=some (.lst us)∧AllAt (WyAt H) us ys
 ap:na≠wa∧na∉[b,nl,pl,ql,el]∧wa∉[b,nl,pl,ql,el]
 z9:zs.length≤9
 zy:zs.length=ys.length
 wok:∀y∈ys,WyOk L y∧1≤y.2.length
 nl:∀z∈zs,z.length≤100
structure StaAt (R:List RC) (L:List LC) (ms gs:List Int):Prop where
 r8:R.length≤8
 l8:L.length≤8
 m9:ms.length≤1000
 hms:ms=y6 (qZ R L.length) (qY R L.length) gs
 spl:Spl (qY R L.length) (qZ R L.length) gs
 tgt:JW R
theorem OneAt.q {cs:Kd→Addr} {cR cN cO:Addr} {H:Hp} {b x na wa nl pl ql el:Addr} {R:List RC} {L:List LC} {N:List (List (Int×Int))} {ms gs:List Int} {zs:List Str} {ys:List jR} (h:OneAt cs cR cN cO H b x na wa nl pl ql el R L N ms zs ys) (S:StaAt R L ms gs):BkQ cs cR cN cO H b x R L N ms zs ys :=
 ⟨⟨nl,pl,ql,el,h.bk.none⟩,by have:=h.z9;have:=h.zy;omega,by have:=h.z9;omega,S.r8,S.l8,h.wok,S.m9⟩
theorem OneAt.same {cs:Kd→Addr} {cR cN cO:Addr} {H H':Hp} {b x na wa nl pl ql el:Addr} {R:List RC} {L:List LC} {N:List (List (Int×Int))} {ms:List Int} {zs:List Str} {ys:List jR} (s:Same H H') (h:OneAt cs cR cN cO H b x na wa nl pl ql el R L N ms zs ys):OneAt cs cR cN cO H' b x na wa nl pl ql el R L N ms zs ys:=by
 obtain ⟨us,h1,h2⟩:=h.ws;exact ⟨h.bk.same s,s _ _ h.nm,⟨us,s _ _ h1,h2.mono (WyAt.same s)⟩,h.ap,h.z9,h.zy,h.wok,h.nl⟩
def sP (cs:Kd→Addr) (cR cN cO:Addr):Sp:=fun vs H Q _=>∃(b x t na wa nl pl ql el:Addr) (e:CoE) (R:List RC) (L:List LC) (N:List (List (Int×Int))) (ms gs:List Int) (zs:List Str) (ys:List jR),vs=[.ref b,.ref x,.ref t,.ref na,.ref wa]∧OneAt cs cR cN cO H b x na wa nl pl ql el R L N ms zs ys∧StaAt R L ms gs∧CoAt H t e∧e.name.length≤100∧1≤e.steps.length∧e.steps.length≤8∧
 ∀(zs':List Str) (ys':List jR) (H':Hp),OneAt cs cR cN cO H' b x na wa nl pl ql el R L N ms zs' ys'→Same (j4 H [b,nl,pl,ql,el,na,wa]) (j4 H' [b,nl,pl,ql,el,na,wa])→Q (.bl true) H'
theorem BkAt.putD {cs:Kd→Addr} {cR cN cO:Addr} {D:List Addr} {H:Hp} {b nl pl ql el x d:Addr} {o:HO} {R:List RC} {L:List LC} {N:List (List (Int×Int))} {ms:List Int} {zs:List Str} {ys:List jR} {m:Nat} (h:BkAt cs cR cN cO D H b nl pl ql el x R L N ms zs ys m) (hd:d∈D) (hn:d∉[b,nl,pl,ql,el]):BkAt cs cR cN cO D (upd H d o) b nl pl ql el x R L N ms zs ys m:=by
 obtain ⟨db,wl,st,fs,h1,h2,h3,h4⟩:=h.ob;obtain ⟨es,h5,h6⟩:=h.en;simp only [am,aA,bg,not_or] at hn;obtain ⟨n1,n2,n3,n4,n5⟩:=hn;exact ⟨⟨db,wl,st,fs,by rw [jL (Ne.symm n1)];exact h1,h2,h3,by rw [yH (by simp [hd])];exact h4⟩,by rw [jL (Ne.symm n2)];exact h.na,by rw [jL (Ne.symm n3)];exact h.po,by rw [jL (Ne.symm n4)];exact h.wo,⟨es,by rw [jL (Ne.symm n5)];exact h5,h6⟩,h.nd⟩
theorem BkAt.notup {cs:Kd→Addr} {cR cN cO:Addr} {D:List Addr} {H:Hp} {b nl pl ql el x:Addr} {R:List RC} {L:List LC} {N:List (List (Int×Int))} {ms:List Int} {zs:List Str} {ys:List jR} {m:Nat} (h:BkAt cs cR cN cO D H b nl pl ql el x R L N ms zs ys m) {a:Addr} {l:List V} (e:H a=some (.tup l)):a∉[b,nl,pl,ql,el]:=fun z=>by
 obtain ⟨db,wl,st,fs,h1,_⟩:=h.ob;obtain ⟨es,h5,h6⟩:=h.en;simp only [am,aA,bg] at z
 rcases z with rfl|rfl|rfl|rfl|rfl
 ·rw [h1] at e;cases e
 ·rw [h.na] at e;cases e
 ·rw [h.po] at e;cases e
 ·rw [h.wo] at e;cases e
 ·rw [h5] at e;cases e
theorem CoAt.tup {H H':Hp} {t:Addr} {e:CoE} (k:∀a l,H a=some (.tup l)→H' a=some (.tup l)) (h:CoAt H t e):CoAt H' t e:=by
 obtain ⟨st,us,h1,h2,h3⟩:=h;exact ⟨st,us,k _ _ h1,k _ _ h2,h3.mono fun v p ⟨t,e,h⟩=>⟨t,e,k _ _ h⟩⟩
theorem WyAt.tup {H H':Hp} (k:∀a l,H a=some (.tup l)→H' a=some (.tup l)) (v:V) (y:jR) (h:WyAt H v y):WyAt H' v y:=by
 obtain ⟨t,st,us,e,h1,h2,h3⟩:=h;exact ⟨t,st,us,e,k _ _ h1,k _ _ h2,h3.mono fun v p ⟨t,e,h⟩=>⟨t,e,k _ _ h⟩⟩
theorem FA {H H':Hp} {A B:List Addr} (h:∀a∈A,a∈B) (s:Same (j4 H A) (j4 H' A)):Same (j4 H B) (j4 H' B):=fun a o e=>by
 by_cases hb:a∈B
 ·rw [JE hb] at e;cases e
 ·have ha:a∉A:=fun z=>hb (h a z)
  rw [qV hb] at e ⊢;have:=s a o (by rw [qV ha];exact e)
  rwa [qV ha] at this
theorem fault_come {R:List RC} {L:List LC} {zs:List Str} {ys:List jR} {e:CoE}:(vN R L zs ys e=7→qJ R L zs ys e=6)∧(vN R L zs ys e≠7→qJ R L zs ys e=vN R L zs ys e):=by
 unfold vN qJ;have:=bE R L zs e
 by_cases hc:kH R L zs e=0
 ·rw [if_pos hc,if_pos hc]
  by_cases hb:yQ R L ys e=true
  ·rw [if_pos hb,if_pos hb];exact ⟨fun _=>rfl,fun h=>absurd rfl h⟩
  ·rw [if_neg hb,if_neg hb];exact ⟨fun h=>absurd h (by decide),fun _=>rfl⟩
 ·rw [if_neg hc,if_neg hc];exact ⟨fun h=>by omega,fun _=>rfl⟩
theorem BkAt.addD {cs:Kd→Addr} {cR cN cO:Addr} {D:List Addr} {H:Hp} {b nl pl ql el x d:Addr} {o:HO} {R:List RC} {L:List LC} {N:List (List (Int×Int))} {ms:List Int} {zs:List Str} {ys:List jR} {m:Nat} (h:BkAt cs cR cN cO D H b nl pl ql el x R L N ms zs ys m) (hd:H d=Option.none):BkAt cs cR cN cO (d::D) (upd H d o) b nl pl ql el x R L N ms zs ys m:=by
 obtain ⟨db,wl,st,fs,h1,h2,h3,h4⟩:=h.ob;obtain ⟨es,h5,h6⟩:=h.en;have s:=jJ hd o;refine ⟨⟨db,wl,st,fs,s _ _ h1,h2,h3,h4.same fun a u e=>?_⟩,s _ _ h.na,s _ _ h.po,s _ _ h.wo,⟨es,s _ _ h5,h6⟩,h.nd⟩
 by_cases ha:a∈b::nl::pl::ql::el::D
 ·rw [JE ha] at e;cases e
 ·rw [qV ha] at e;have ne:=kE e hd;rw [qV,jL ne]
  ·exact e
  ·simp only [am,not_or] at ha ⊢;exact ⟨ha.1,ha.2.1,ha.2.2.1,ha.2.2.2.1,ha.2.2.2.2.1,ne,ha.2.2.2.2.2⟩
theorem BkAt.less {cs:Kd→Addr} {cR cN cO:Addr} {D D':List Addr} {H:Hp} {b nl pl ql el x:Addr} {R:List RC} {L:List LC} {N:List (List (Int×Int))} {ms:List Int} {zs:List Str} {ys:List jR} {m:Nat} (hD:∀d∈D',d∈D) (h:BkAt cs cR cN cO D H b nl pl ql el x R L N ms zs ys m):BkAt cs cR cN cO D' H b nl pl ql el x R L N ms zs ys m:=by
 obtain ⟨db,wl,st,fs,h1,h2,h3,h4⟩:=h.ob;refine ⟨⟨db,wl,st,fs,h1,h2,h3,h4.same (lN fun a ha=>?_)⟩,h.na,h.po,h.wo,h.en,h.nd⟩;simp only [am] at ha ⊢
 rcases ha with h|h|h|h|h|h
 ·simp [h]
 ·simp [h]
 ·simp [h]
 ·simp [h]
 ·simp [h]
 ·simp [hD a h]
theorem BkAt.here {cs:Kd→Addr} {cR cN cO:Addr} {D:List Addr} {H:Hp} {b nl pl ql el x d:Addr} {R:List RC} {L:List LC} {N:List (List (Int×Int))} {ms:List Int} {zs:List Str} {ys:List jR} {m:Nat} (h:BkAt cs cR cN cO D H b nl pl ql el x R L N ms zs ys m) (hd:H d=Option.none):d∉[b,nl,pl,ql,el]:=fun z=>by
 obtain ⟨db,wl,st,fs,h1,_⟩:=h.ob;obtain ⟨es,h5,h6⟩:=h.en;simp only [am,aA,bg] at z
 rcases z with rfl|rfl|rfl|rfl|rfl
 ·rw [h1] at hd;cases hd
 ·rw [h.na] at hd;cases hd
 ·rw [h.po] at hd;cases hd
 ·rw [h.wo] at hd;cases hd
 ·rw [h5] at hd;cases hd
theorem oM:jV 3 ["script","k","many","cell"] gG:=jU
include T in
theorem xP (F:kK K "_law_draw" gG f fd) : FnOk P w K mg base jO 1 f fd ["script","k","many"] (JF K):=by
 refine F.ok2 oM fun vs H Q E h=>?_
 refine nG h fun s ns k m h=>?_
 refine zA h fun e_ hS h63 hk0 hk1 hm q=>?_
 subst e_;refine ⟨rfl,fun _ _ _ _ hr=>?_⟩;refine ⟨_,(@jG _ _ _ _ _ (j9 (j8 kO (vA K T.xh (pv 0)) jC) (jQ (@jI _ _ _ _ _ _ _ _ QP (@jI _ _ _ _ _ _ _ _ kG (@jI _ _ _ _ _ _ _ _ kQ (@jI _ _ _ _ _ _ _ _ kQ (pv 1) (pv 1)) jC) (@jI _ _ _ _ _ _ _ _ kQ jC (pv 1))) (pv 2))) kD)
   (@jG _ _ _ _ _ (jP 3 oM.nd (@jI _ _ _ _ _ _ _ _ QP (jK (kI K) (pv 0) (@jI _ _ _ _ _ _ _ _ QP (pv 1) (vA K T.xh (pv 0)))) jC))
   (jQ (@jI _ _ _ _ _ _ _ _ QP (@jI _ _ _ _ _ _ _ _ QP (@jI _ _ _ _ _ _ _ _ kG (@jI _ _ _ _ _ _ _ _ kQ (pv 3) (@jI _ _ _ _ _ _ _ _ kG (@jI _ _ _ _ _ _ _ _ kQ (pv 1) (pv 1)) jC)) (@jI _ _ _ _ _ _ _ _ kQ (pv 1) jC)) jC) (pv 2))))),?_⟩
 try dsimp only [jX,jW]
 have hml:(ns.map V.int).length=ns.length:=ad _;obtain ⟨kk0,kk1⟩:=IF hk0 hk1;have hm0:(0:Int)<m:=by omega
 refine (jA rfl (⟨s,jA rfl (⟨.inl hS,rfl,jA rfl (?_)⟩)⟩))
 by_cases h0:ns.length=0
 ·refine qQ (by rw [hml,h0];rfl) ?_;refine (jA rfl (jA rfl (j6 (⟨.inl ⟨by omega,by omega⟩,_,_,rfl,rfl,.inr ⟨by decide,by decide⟩,jA rfl (j6 (⟨.inl ⟨by decide,by decide⟩,_,_,rfl,rfl,jA rfl (j6 (⟨hm0,?_⟩))⟩))⟩))));exact q _ (dv _ (by omega)) (dc _ hm0)
 refine q8 (fun z=>h0 (by have:=V.int.inj z;rw [hml] at this;omega)) ?_;have hl0:(0:Int)<(((ns.map V.int).length:Nat):Int):=by rw [hml];omega
 obtain ⟨j,ej,lj⟩:=DO (a:=k) hl0;have lj:j<ns.length:=by rw [hml] at lj;omega
 refine (jA rfl (jA rfl (jA rfl (⟨s,jA rfl (⟨.inl hS,_,_,rfl,rfl,hl0,?_⟩)⟩))))
 try dsimp only
 rw [ej];refine ⟨s,_,_,_,rfl,rfl,hS,zF lj,_,_,rfl,rfl,(by show (0:Int)<1000003;decide),?_⟩;have c0:=dv (ns.getD j 0) (by decide:(1000003:Int)≠0);have c1:=dc (ns.getD j 0) (by decide:(0:Int)<1000003)
 try dsimp only
 generalize ns.getD j 0%1000003=cell at c0 c1 ⊢;refine (jA rfl (jA rfl (jA rfl (j6 (⟨.inl ⟨by omega,by omega⟩,_,_,rfl,rfl,_,_,rfl,rfl,.inl ⟨by omega,by omega⟩,jA rfl (j6 (⟨.inr ⟨by decide,by decide⟩,_,_,rfl,rfl,_,_,rfl,rfl,(by show (0:Int)<2147483647;decide),jA rfl (j6 (⟨hm0,?_⟩))⟩))⟩)))));exact q _ (dv _ (by omega)) (dc _ hm0)
theorem BT:jV 1 ["script"] gN:=jU
include T in
theorem xZ (F:kK K "_law_unit" gN f fd) : FnOk P w K mg base jO 1 f fd ["script"] (tR K):=by
 refine F.ok2 BT fun vs H Q E h=>?_
 obtain ⟨s,ns,rfl,hS,h63,q⟩:=h;refine ⟨rfl,fun _ _ _ _ hr=>?_⟩;refine ⟨_,(@jG _ _ _ _ _ (j9 (j8 kO (vA K T.xh (pv 0)) jC) (jQ jC) kD)
   (jQ (@jI _ _ _ _ _ _ _ _ kG jC (@jI _ _ _ _ _ _ _ _ QP (jK (kI K) (pv 0) jC) (@jI _ _ _ _ _ _ _ _ G3 jC jC))))),?_⟩
 try dsimp only [jX,jW]
 have hml:(ns.map V.int).length=ns.length:=ad _;refine (jA rfl (⟨s,jA rfl (⟨.inl hS,rfl,jA rfl (?_)⟩)⟩))
 by_cases h0:ns.length=0
 ·exact qQ (by rw [hml,h0];rfl) (q 1 (by decide) (by decide))
 refine q8 (fun z=>h0 (by have:=V.int.inj z;rw [hml] at this;omega)) ?_;have e10:(10:Int) ^ Int.toNat 10=10000000000:=by decide +kernel
 have u0:=dv (ns.getD 0 0) (show (10:Int) ^ Int.toNat 10≠0 from by decide +kernel);have u1:=dc (ns.getD 0 0) (show (0:Int)<10 ^ Int.toNat 10 from by decide +kernel);refine (jA rfl (⟨s,_,_,_,rfl,rfl,hS,zF (s:=0) (by omega),_,_,rfl,rfl,⟨by decide,by decide,by decide⟩,_,_,rfl,rfl,(show (0:Int)<10 ^ Int.toNat 10 from by decide +kernel),_,_,rfl,rfl,?_⟩));rw [e10] at u0 u1
 try dsimp only
 rw [e10];exact q _ (by omega) (by omega)
theorem JM:jV 3 ["script","k","many","signs","size","at","letter","some","j","sign"] gI:=jU
include T in
theorem xS (F:kK K "_law_names" gI f fd) (xa:Def P w K mg base 1 "_law_draw" ["script","k","many"] [] (JF K)):FnOk P w K mg base jO 2 f fd ["script","k","many"] (lC K):=by
 refine F.ok2 JM fun vs H Q E h=>?_
 refine nG h fun s ns k m h=>?_
 refine zA h fun e_ hS h63 hk0 hk1 hm q=>?_
 subst e_;refine ⟨rfl,fun _ _ _ _ hr=>?_⟩;refine ⟨_,(@jG _ _ _ _ _ (jP 3 JM.nd jS)
   (@jG _ _ _ _ _ (jP 4 JM.nd (@jI _ _ _ _ _ _ _ _ kG jC (jM xa hr rfl (jZ (pv 0) (pv 1) jC))))
   (@jG _ _ _ _ _ (jP 5 JM.nd (jM xa hr rfl (jZ (pv 0) (@jI _ _ _ _ _ _ _ _ kG (pv 1) jC) (pv 4))))
   (@jG _ _ _ _ _ (jP 6 JM.nd (jK mL (pv 3) (jM xa hr rfl (jZ (pv 0) (@jI _ _ _ _ _ _ _ _ kG (pv 1) jC) jC))))
   (@jG _ _ _ _ _ (jP 7 JM.nd (kL jD))
   (@jG _ _ _ _ _ (zH bz rfl (JO (by rfl) T.xk (jB (pv 2) jD)) (qD (i:=8) JM.nd rfl (.inl rfl))
    (@kB _ _ _ (j9 (j8 kO (jM xa hr rfl (jZ (pv 0) (@jI _ _ _ _ _ _ _ _ kG (pv 1) jC) jC)) jC) (@kB _ _ _ (qE (qP ak av aw vC (pv 7) (jB (@jI _ _ _ _ _ _ _ _ lX (pv 6) (@jI _ _ _ _ _ _ _ _ kG (pv 8) jC)) jD)))) (@jG _ _ _ _ _ (jP 9 JM.nd (jK mL (pv 3) (@jI _ _ _ _ _ _ _ _ QP (@jI _ _ _ _ _ _ _ _ kG (jM xa hr rfl (jZ (pv 0) (@jI _ _ _ _ _ _ _ _ kG (pv 1) jC) jC)) (pv 8)) jC)))
   (@kB _ _ _ (qE (qP ak av aw vC (pv 7) (jB (@jI _ _ _ _ _ _ _ _ pD (@jI _ _ _ _ _ _ _ _ pD (@jI _ _ _ _ _ _ _ _ lX (pv 6) (pv 5)) (pv 9)) (@jI _ _ _ _ _ _ _ _ lX (pv 6) (@jI _ _ _ _ _ _ _ _ zM (@jI _ _ _ _ _ _ _ _ zM (pv 4) jC) (pv 5)))) jD))))))))
   (jQ (pv 7)))))))),?_⟩
 try dsimp only [jX,jW]
 refine (jA rfl (jA rfl (⟨s,ns,_,jA rfl (⟨hS,h63,by omega,by omega,by omega,fun sz sz0 sz1=>⟨_,_,rfl,rfl,?_⟩⟩)⟩)));refine (jA rfl (jA rfl (j6 ((jA rfl (⟨s,ns,_,jA rfl (⟨hS,h63,by omega,by omega,by omega,fun a a0 a1=>?_⟩)⟩))))));refine (jA rfl (jA rfl (jA rfl (j6 (⟨s,ns,_,jA rfl (⟨hS,h63,by omega,by omega,by omega,fun c c0 c1=>?_⟩)⟩)))));obtain ⟨ch,hch⟩:=sW c0 c1;refine ⟨_,_,ch,rfl,rfl,(by decide +kernel),hch,aG _,fun l hl0=>?_⟩;have l1:(⟨#[ch]⟩:Str).length=1:=rfl;refine (jA rfl (jA rfl (⟨by omega,by omega,bA (n:=((m:Nat):Int).toNat) (fun i σ Hi=>∃(zs:List Str) (c8 c9:Option V),σ=[some (.ref s),some (.int k),some (.int (m:Int)),some (.str "abcdefghijklmnopqrstuvwxyz"),some (.int (1+sz)),some (.int a),some (.str ⟨#[ch]⟩),some (.ref l),c8,c9]∧Hi l=some (.lst (zs.map V.str))∧zs.length=i∧(∀z∈zs,z.length≤50)∧Same H Hi) ⟨[],none,none,rfl,jE,rfl,(fun z hz=>by cases hz),jJ hl0 _⟩ ?_ ?_⟩)))
 ·rintro i σ Hi hi ⟨zs,c8,c9,rfl,hl,hzl,hz,sm⟩;rw [aD] at hi;rw [dz];have put:∀z:Str,z.length≤50→∀x∈zs++[z],x.length≤50:=fun z h x hx=>(bc.mp hx).elim (hz x) fun e=>by rw [aX.mp e];exact h
  refine (jA rfl (jA rfl (j6 (⟨s,ns,_,jA rfl (⟨sm.seq hS,h63,by omega,by omega,by omega,fun d d0 d1=>⟨rfl,jA rfl (vE (fun _=>?_) (fun _=>?_))⟩⟩)⟩))))
  ·refine (jA rfl (⟨.inl ⟨rfl,_,so hl⟩,jA rfl (jA rfl (j6 (⟨(⟨#[ch]⟩:Str),_,rfl,rfl,by omega,by omega,by rw [l1];decide,?_⟩)))⟩));refine ⟨l,_,_,rfl,rfl,hl,vL (by rw [ad];omega),zs++[vG ⟨#[ch]⟩ ((i:Int)+1).toNat],_,jA rfl (⟨?_,by rw [aj,hzl];rfl,put _ ?_,qI hl0 sm⟩)⟩
   ·rw [jE,aL];rfl
   ·rw [dN,l1];omega
  refine (jA rfl (jA rfl (jA rfl (j6 (⟨s,ns,_,jA rfl (⟨sm.seq hS,h63,by omega,by omega,by omega,fun e e0 e1=>(jA rfl (j6 (j6 (⟨(show (0:Int)<26 from by decide),?_⟩))))⟩)⟩)))));obtain ⟨c2,hc2⟩:=sW (dv (e+(i:Int)) (by decide:(26:Int)≠0)) (dc (e+(i:Int)) (by decide:(0:Int)<26));have l2:(⟨#[c2]⟩:Str).length=1:=rfl;have r1:(vG ⟨#[ch]⟩ a.toNat).length=a.toNat:=by rw [dN,l1,Nat.mul_one]
  have r2:(vG ⟨#[ch]⟩ (1+sz - 1 - a).toNat).length=(1+sz - 1 - a).toNat:=by rw [dN,l1,Nat.mul_one]
  have w1:(vG ⟨#[ch]⟩ a.toNat++(⟨#[c2]⟩:Str)).length=a.toNat+1:=by rw [o8,r1,l2]
  refine ⟨_,_,c2,rfl,rfl,(by decide +kernel),hc2,?_⟩;refine (jA rfl (⟨.inl ⟨rfl,_,so hl⟩,jA rfl (jA rfl (⟨(⟨#[ch]⟩:Str),_,rfl,rfl,by omega,by omega,by rw [l1];decide,jA rfl (⟨(vG ⟨#[ch]⟩ a.toNat),_,rfl,rfl,cY (by rw [r1,l2];omega),jA rfl (jA rfl (j6 ((jA rfl (j6 (⟨(⟨#[ch]⟩:Str),_,rfl,rfl,by omega,by omega,by rw [l1];decide,(vG ⟨#[ch]⟩ a.toNat++(⟨#[c2]⟩:Str)),_,rfl,rfl,cY (by rw [w1,r2];omega),?_⟩))))))⟩)⟩))⟩));refine ⟨l,_,_,rfl,rfl,hl,vL (by rw [ad];omega),zs++[vG ⟨#[ch]⟩ a.toNat++(⟨#[c2]⟩:Str)++vG ⟨#[ch]⟩ (1+sz - 1 - a).toNat],_,jA rfl (⟨?_,by rw [aj,hzl];rfl,put _ ?_,qI hl0 sm⟩)⟩
  ·rw [jE,aL];rfl
  ·rw [o8,w1,r2];omega
 rintro σ Hi ⟨zs,c8,c9,rfl,hl,hzl,hz,sm⟩;rw [aD] at hzl;exact (jA rfl (q l zs Hi sm hl0 hl hzl hz))
theorem Q8:jV 4 ["script","k","unit","named","least","crest","water","berths"] gJ:=jU
include T in
theorem xU (F:kK K "_law_reach" gJ f fd) (xa:Def P w K mg base 1 "_law_draw" ["script","k","many"] [] (JF K)) (xaG:MkD P w K mg base 1 "Reach" cR ["self","name","least","crest","berths","water","target"] (iU cR)):FnOk P w K mg base jO 3 f fd ["script","k","unit","named"] (rQ K cR):=by
 refine F.ok2 Q8 fun vs H Q E h=>?_
 refine y9 h fun s ns k u nm h=>?_
 refine zA h fun e_ hS h63 hk hv0 hv1 q=>?_
 subst e_;refine ⟨rfl,fun _ _ _ _ hr=>?_⟩;refine ⟨_,(@jG _ _ _ _ _ (jP 4 Q8.nd (@jI _ _ _ _ _ _ _ _ kQ (jM xa hr rfl (jZ (pv 0) (@jI _ _ _ _ _ _ _ _ kG (@jI _ _ _ _ _ _ _ _ kQ jC (pv 1)) jC) jC)) (pv 2)))
   (@jG _ _ _ _ _ (jP 5 Q8.nd (@jI _ _ _ _ _ _ _ _ kG (@jI _ _ _ _ _ _ _ _ kG (pv 4) (@jI _ _ _ _ _ _ _ _ kQ (jM xa hr rfl (jZ (pv 0) (@jI _ _ _ _ _ _ _ _ kG (@jI _ _ _ _ _ _ _ _ kQ jC (pv 1)) jC) jC)) (pv 2))) (jM xa hr rfl (jZ (pv 0) (@jI _ _ _ _ _ _ _ _ kG (@jI _ _ _ _ _ _ _ _ kQ jC (pv 1)) jC) jC))))
   (@jG _ _ _ _ _ (jP 6 Q8.nd (@jI _ _ _ _ _ _ _ _ kG (@jI _ _ _ _ _ _ _ _ kQ (jM xa hr rfl (jZ (pv 0) (@jI _ _ _ _ _ _ _ _ kG (@jI _ _ _ _ _ _ _ _ kQ jC (pv 1)) jC) jC)) (pv 2)) (jM xa hr rfl (jZ (pv 0) (@jI _ _ _ _ _ _ _ _ kG (@jI _ _ _ _ _ _ _ _ kQ jC (pv 1)) jC) jC))))
   (@jG _ _ _ _ _ (jP 7 Q8.nd (jK (kI K) (kL (yC jC jC jC jC)) (jM xa hr rfl (jZ (pv 0) (@jI _ _ _ _ _ _ _ _ kG (@jI _ _ _ _ _ _ _ _ kQ jC (pv 1)) jC) jC))))
   (v7 (j9 (j8 kO (jM xa hr rfl (jZ (pv 0) jC jC)) jC) (@kB _ _ _ (jP 7 Q8.nd jC)) kD)
   (jQ (ZR xaG hr rfl (LF (pv 3) (pv 4) (pv 5) (pv 7) (pv 6) (@jI _ _ _ _ _ _ _ _ zM (jM xa hr rfl (jZ (pv 0) (@jI _ _ _ _ _ _ _ _ kG (@jI _ _ _ _ _ _ _ _ kQ jC (pv 1)) jC) (@jI _ _ _ _ _ _ _ _ kG (pv 1) jC))) jC))))))))),?_⟩
 try dsimp only [jX,jW]
 refine (jA rfl (jA rfl (j6 (⟨.inl ⟨by decide,by decide⟩,_,_,rfl,rfl,s,ns,_,jA rfl (⟨hS,h63,by omega,by omega,by omega,fun d1 d10 d11=>?_⟩)⟩))));obtain ⟨a1,a2⟩:=eA d10 (show d1≤3 by omega) hv0 hv1 (by decide);refine (jA rfl (j6 (⟨.inl ⟨by omega,by omega⟩,?_⟩)))
 try dsimp only
 generalize d1*u=le at a1 a2 ⊢;refine (jA rfl (jA rfl (jA rfl (j6 (⟨.inl ⟨by decide,by decide⟩,_,_,rfl,rfl,s,ns,_,jA rfl (⟨hS,h63,by omega,by omega,by omega,fun d2 d20 d21=>?_⟩)⟩)))));obtain ⟨b1,b2⟩:=eA d20 (show d2≤15 by omega) hv0 hv1 (by decide);refine (jA rfl (j6 (⟨.inl ⟨by omega,by omega⟩,_,_,rfl,rfl,?_⟩)))
 try dsimp only
 generalize d2*u=cr at b1 b2 ⊢;refine (jA rfl (jA rfl (j6 (⟨.inl ⟨by decide,by decide⟩,_,_,rfl,rfl,s,ns,_,jA rfl (⟨hS,h63,by omega,by omega,by omega,fun d3 d30 d31=>?_⟩)⟩))));refine ⟨_,_,rfl,rfl,?_⟩;refine (jA rfl (jA rfl (j6 (⟨.inl ⟨by decide,by decide⟩,_,_,rfl,rfl,s,ns,_,jA rfl (⟨hS,h63,by omega,by omega,by omega,fun d4 d40 d41=>?_⟩)⟩))));obtain ⟨c1,c2⟩:=eA d40 (show d4≤24 by omega) hv0 hv1 (by decide);refine (jA rfl (j6 (⟨.inl ⟨by omega,by omega⟩,?_⟩)))
 try dsimp only
 generalize d4*u=wa at c1 c2 ⊢;refine (jA rfl (jA rfl (j6 (⟨.inl ⟨by decide,by decide⟩,_,_,rfl,rfl,s,ns,_,jA rfl (⟨hS,h63,by omega,by omega,by omega,fun d5 d50 d51=>?_⟩)⟩))));refine ⟨_,_,rfl,rfl,?_⟩;refine ⟨zz4,fun p2 hp2=>?_⟩;have s2:=jJ hp2 (.lst ([(1:Int),2,2,9].map V.int));have hS2:=s2.seq hS;refine (jA rfl (jA rfl (j6 (⟨.inl ⟨by decide,by decide⟩,_,_,rfl,rfl,s,ns,_,jA rfl (⟨hS2,h63,by omega,by omega,by omega,fun d6 d60 d61=>?_⟩)⟩))));obtain ⟨be,hbe,hat⟩:=mO [(1:Int),2,2,9] d60 d61;refine (kR (so jE) hat (?_));have hbe':1≤be∧be≤9:=by
  simp only [am,aA,bg] at hbe
  rcases hbe with rfl|rfl|rfl|rfl<;>decide
 refine ⟨fun σ Hj=>∃be:Int,1≤be∧be≤9∧σ=[some (.ref s),some (.int (k:Int)),some (.int u),some (.str nm),some (.int le),some (.int (le+cr+d3)),some (.int (wa+d5)),some (.int be)]∧SqL K Hj s (ns.map V.int)∧Same H Hj,?_,?_⟩
 ·refine (jA rfl (⟨s,ns,_,jA rfl (⟨hS2,h63,by decide,by decide,by decide,fun d d0 d1=>⟨rfl,jA rfl (vE (fun _=>⟨9,by decide,by decide,rfl,hS2,s2⟩) (fun _=>⟨be,hbe'.1,hbe'.2,rfl,hS2,s2⟩))⟩⟩)⟩))
 clear hbe' hat hbe;rintro σ Hj ⟨be,hb1,hb2,rfl,hS3,s3⟩;refine (jA rfl (jA rfl (jA rfl (jA rfl (jA rfl (?_))))));refine (jA rfl (jA rfl (j6 (⟨.inl ⟨by decide,by decide⟩,_,_,rfl,rfl,jA rfl (j6 (⟨s,ns,_,jA rfl (⟨hS3,h63,by omega,by omega,by omega,fun d7 d70 d71=>?_⟩)⟩))⟩))));refine ⟨_,_,rfl,rfl,?_⟩;intro x dx nx ndx nex;refine ⟨x,dx,_,_,_,_,_,jA rfl (⟨jE,fun H' fs kp hx hfl=>⟨rfl,?_⟩⟩)⟩;exact q x ⟨nm,le,le+cr+d3,be,wa+d5,d7 - 1⟩ H' ⟨a1,by show le≤le+cr+d3;omega,by show le+cr+d3≤999999999999;omega,hb1,hb2,by show 0≤wa+d5;omega,by show wa+d5≤999999999999;omega,by show -1≤d7 - 1;omega,by show d7 - 1<(k:Int);omega⟩ (s3.trans (bD nx (bG nx ndx) kp)) (s3.free nx) ⟨dx,fs,hx,hfl⟩
theorem Q7:jV 5 ["script","k","reaches","unit","named","high","low","room","part","made"] gH:=jU
include T in
theorem xR (F:kK K "_law_lock" gH f fd) (xa:Def P w K mg base 1 "_law_draw" ["script","k","many"] [] (JF K)) (jx:MkD P w K mg base 2 "BasinLock" cB ["self","name","high","low","room","side"] (ZG (jH cP cB cU) .basin)) (xae:MkD P w K mg base 2 "PumpLock" cU ["self","name","high","low","room","lift"] (ZG (jH cP cB cU) .pump)) (jy:MkD P w K mg base 1 "PlainLock" cP ["self","name","high","low","room"] (ZH (jH cP cB cU))):FnOk P w K mg base jO 4 f fd ["script","k","reaches","unit","named"] (sS K (jH cP cB cU)):=by
 refine F.ok2 Q7 fun vs H Q E h=>?_
 refine ZU h fun s ns k n u nm h=>?_
 refine eZ h fun e_ hS h63 hk hn2 hn8 hv0 hv1 q=>?_
 subst e_;refine ⟨rfl,fun _ _ _ _ hr=>?_⟩;refine ⟨_,(@jG _ _ _ _ _ (jP 5 Q7.nd (@jI _ _ _ _ _ _ _ _ kG jC (jM xa hr rfl (jZ (pv 0) (@jI _ _ _ _ _ _ _ _ kG jC (@jI _ _ _ _ _ _ _ _ kQ jC (pv 1))) (@jI _ _ _ _ _ _ _ _ zM (pv 2) jC)))))
   (@jG _ _ _ _ _ (jP 6 Q7.nd (jM xa hr rfl (jZ (pv 0) (@jI _ _ _ _ _ _ _ _ kG jC (@jI _ _ _ _ _ _ _ _ kQ jC (pv 1))) (pv 5))))
   (@jG _ _ _ _ _ (jP 7 Q7.nd (@jI _ _ _ _ _ _ _ _ kG (@jI _ _ _ _ _ _ _ _ kQ (@jI _ _ _ _ _ _ _ _ kG jC (jM xa hr rfl (jZ (pv 0) (@jI _ _ _ _ _ _ _ _ kG jC (@jI _ _ _ _ _ _ _ _ kQ jC (pv 1))) jC))) (pv 3)) (jM xa hr rfl (jZ (pv 0) (@jI _ _ _ _ _ _ _ _ kG jC (@jI _ _ _ _ _ _ _ _ kQ jC (pv 1))) jC))))
   (@jG _ _ _ _ _ (jP 8 Q7.nd (jK (kI K) (kL (yC jC (pv 7) (@jI _ _ _ _ _ _ _ _ kG jC (@jI _ _ _ _ _ _ _ _ lZ (pv 7) jC)) (@jI _ _ _ _ _ _ _ _ zM (pv 7) (@jI _ _ _ _ _ _ _ _ lZ (pv 7) jC)))) (jM xa hr rfl (jZ (pv 0) (@jI _ _ _ _ _ _ _ _ kG jC (@jI _ _ _ _ _ _ _ _ kQ jC (pv 1))) jC))))
   (@jG _ _ _ _ _ (jP 9 Q7.nd (jM xa hr rfl (jZ (pv 0) (@jI _ _ _ _ _ _ _ _ kG jC (@jI _ _ _ _ _ _ _ _ kQ jC (pv 1))) jC)))
   (@jG _ _ _ _ _ (j9 (j8 kO (pv 9) jC) (jQ (ZR jx hr rfl (Q0 (pv 4) (pv 5) (pv 6) (pv 7) (pv 8)))) kD)
   (@jG _ _ _ _ _ (j9 (j8 kO (pv 9) jC) (jQ (ZR xae hr rfl (Q0 (pv 4) (pv 5) (pv 6) (pv 7) (pv 8)))) kD)
   (jQ (ZR jy hr rfl (yC (pv 4) (pv 5) (pv 6) (pv 7))))))))))),?_⟩
 try dsimp only [jX,jW]
 refine (jA rfl (jA rfl (j6 (⟨.inl ⟨by decide,by decide⟩,_,_,rfl,rfl,jA rfl (j6 (⟨s,ns,_,jA rfl (⟨hS,h63,by omega,by omega,by omega,fun h1 h10 h11=>?_⟩)⟩))⟩))));refine ⟨_,_,rfl,rfl,?_⟩;refine (jA rfl (jA rfl (j6 (⟨.inl ⟨by decide,by decide⟩,_,_,rfl,rfl,jA rfl (⟨s,ns,_,jA rfl (⟨hS,h63,by omega,by omega,by omega,fun lo lo0 lo1=>?_⟩)⟩)⟩))));refine (jA rfl (jA rfl (j6 (⟨.inl ⟨by decide,by decide⟩,_,_,rfl,rfl,s,ns,_,jA rfl (⟨hS,h63,by omega,by omega,by omega,fun d2 d20 d21=>?_⟩)⟩))));obtain ⟨b1,b2⟩:=eA (a:=1+d2) (by omega) (show 1+d2≤4 by omega) hv0 hv1 (by decide);refine ⟨_,_,rfl,rfl,jA rfl (j6 (⟨.inl ⟨by omega,by omega⟩,?_⟩))⟩;have b3:1≤(1+d2)*u:=by
  have:=Int.mul_le_mul (show (1:Int)≤1+d2 by omega) hv0 (by decide) (by omega);omega
 try dsimp only
 generalize (1+d2)*u=r0 at b1 b2 b3 ⊢;refine (jA rfl (jA rfl (j6 (⟨.inl ⟨by decide,by decide⟩,_,_,rfl,rfl,s,ns,_,jA rfl (⟨hS,h63,by omega,by omega,by omega,fun d3 d30 d31=>?_⟩)⟩))));refine ⟨_,_,rfl,rfl,?_⟩;have ro1:1≤r0+d3:=by omega
 have ro2:r0+d3≤999999999999:=by omega
 try dsimp only
 generalize r0+d3=ro at ro1 ro2 ⊢;refine (jA rfl (jA rfl (j6 (⟨⟨by decide,by decide⟩,_,_,rfl,rfl,jA rfl (jA rfl (j6 (⟨⟨by decide,by decide⟩,_,_,rfl,rfl,zz4,fun p2 hp2=>?_⟩)))⟩))));have s2:=jJ hp2 (.lst ([(1:Int),ro,1+ro / 2,ro - ro / 3].map V.int));have hS2:=s2.seq hS;refine (jA rfl (jA rfl (j6 (⟨.inl ⟨by decide,by decide⟩,_,_,rfl,rfl,s,ns,_,jA rfl (⟨hS2,h63,by omega,by omega,by omega,fun d4 d40 d41=>?_⟩)⟩))));obtain ⟨pa,hpa,hat⟩:=mO [(1:Int),ro,1+ro / 2,ro - ro / 3] d40 d41;refine (kR (so jE) hat (?_));have hpa:1≤pa∧pa≤ro:=by
  simp only [am,aA,bg] at hpa
  rcases hpa with rfl|rfl|rfl|rfl<;>omega
 refine (jA rfl (jA rfl (j6 (⟨.inl ⟨by decide,by decide⟩,_,_,rfl,rfl,s,ns,_,jA rfl (⟨hS2,h63,by omega,by omega,by omega,fun d5 d50 d51=>?_⟩)⟩))));have w12:=s2;refine ⟨_,rfl,rfl,jA rfl (vE (fun _=>?_) (fun _=>?_))⟩
 ·refine (jA rfl (jA rfl (jA rfl (jA rfl (jA rfl (?_))))));intro x dx nx ndx nex;refine ⟨x,dx,_,_,_,_,jA rfl (⟨jE,fun H' kp hx=>⟨rfl,?_⟩⟩)⟩;refine q x ⟨nm,1+h1,lo,ro,.basin,pa⟩ H' ⟨by show 1≤1+h1;omega,by show 1+h1<(n:Int);omega,lo0,by show lo<1+h1;omega,ro1,ro2,(fun z=>nomatch z),fun _=>hpa⟩ (w12.trans (bD nx (bG nx ndx) kp)) (w12.free nx) ⟨x,rfl,dx,hx⟩
 refine ⟨_,rfl,rfl,jA rfl (vE (fun _=>?_) (fun _=>?_))⟩
 ·refine (jA rfl (jA rfl (jA rfl (jA rfl (jA rfl (?_))))));intro x dx nx ndx nex;refine ⟨x,dx,_,_,_,_,jA rfl (⟨jE,fun H' kp hx=>⟨rfl,?_⟩⟩)⟩;refine q x ⟨nm,1+h1,lo,ro,.pump,pa⟩ H' ⟨by show 1≤1+h1;omega,by show 1+h1<(n:Int);omega,lo0,by show lo<1+h1;omega,ro1,ro2,(fun z=>nomatch z),fun _=>hpa⟩ (w12.trans (bD nx (bG nx ndx) kp)) (w12.free nx) ⟨x,rfl,dx,hx⟩
 refine (jA rfl (jA rfl (jA rfl (jA rfl (?_)))));intro x dx nx ndx nex;refine ⟨.plain,x,dx,_,_,_,jA rfl (⟨jE,fun H' kp hx=>⟨rfl,?_⟩⟩)⟩;refine q x ⟨nm,1+h1,lo,ro,.plain,0⟩ H' ⟨by show 1≤1+h1;omega,by show 1+h1<(n:Int);omega,lo0,by show lo<1+h1;omega,ro1,ro2,fun _=>rfl,fun z=>absurd rfl z⟩ (w12.trans (bD nx (bG nx ndx) kp)) (w12.free nx) ⟨x,rfl,dx,hx⟩
theorem cS:jV 4 ["script","k","reaches","unit","some","r","comes"] gP:=jU
include T in
theorem x6 (F:kK K "_law_weather" gP f fd) (xa:Def P w K mg base 1 "_law_draw" ["script","k","many"] [] (JF K)):FnOk P w K mg base jO 2 f fd ["script","k","reaches","unit"] (pS K):=by
 refine F.ok2 cS fun vs H Q E h=>?_
 refine y9 h fun s ns k n u h=>?_
 refine JZ h fun e_ hS h63 hk hn8 hv0 hv1 q=>?_
 subst e_;refine ⟨rfl,fun _ _ _ _ hr=>?_⟩;refine ⟨_,(@jG _ _ _ _ _ (jP 4 cS.nd (kL jD))
   (@jG _ _ _ _ _ (zH bz rfl (JO (by rfl) T.xk (jB (pv 2) jD)) (qD (i:=5) cS.nd rfl (.inl rfl))
    (@jG _ _ _ _ _ (jP 6 cS.nd (@jI _ _ _ _ _ _ _ _ kQ (jM xa hr rfl (jZ (pv 0) (@jI _ _ _ _ _ _ _ _ kG (@jI _ _ _ _ _ _ _ _ kG jC (@jI _ _ _ _ _ _ _ _ kQ jC (pv 1))) (@jI _ _ _ _ _ _ _ _ kQ jC (pv 5))) jC)) (pv 3)))
   (@kB _ _ _ (qE (qP ak av aw vC (pv 4) (jB (kP (jB (pv 6) (jB (@jI _ _ _ _ _ _ _ _ lZ (@jI _ _ _ _ _ _ _ _ kQ (jM xa hr rfl (jZ (pv 0) (@jI _ _ _ _ _ _ _ _ kG (@jI _ _ _ _ _ _ _ _ kG jC (@jI _ _ _ _ _ _ _ _ kQ jC (pv 1))) (@jI _ _ _ _ _ _ _ _ kQ jC (pv 5))) jC)) (pv 3)) jC) jD))) jD))))))
   (jQ (pv 4)))),?_⟩
 try dsimp only [jX,jW]
 refine ⟨zz0,fun l hl0=>?_⟩;refine ⟨_,rfl,_,rfl,by omega,by omega,bA (n:=((n:Nat):Int).toNat) (fun i σ Hi=>∃(us:List V) (p:List (Int×Int)) (c5 c6:Option V),σ=[some (.ref s),some (.int (k:Int)),some (.int (n:Int)),some (.int u),some (.ref l),c5,c6]∧Hi l=some (.lst us)∧AllAt (QAt Hi) us p∧p.length=i∧Same H Hi)
  ⟨[],[],none,none,rfl,jE,AllAt.nil,rfl,jJ hl0 _⟩ ?_ ?_⟩
 ·rintro i σ Hi hi ⟨us,p,c5,c6,rfl,hl,hA,hp,sm⟩;rw [aD] at hi;rw [dz];have hSi:=sm.seq hS;refine (jA rfl (jA rfl (j6 (⟨.inl ⟨by decide,by decide⟩,_,_,rfl,rfl,jA rfl (j6 (⟨.inl ⟨by decide,by decide⟩,_,_,rfl,rfl,s,ns,_,jA rfl (⟨hSi,h63,by omega,by omega,by omega,fun d1 d10 d11=>?_⟩)⟩))⟩))));refine (jA rfl (j6 (⟨.inl ⟨by omega,by omega⟩,?_⟩)));refine (jA rfl (⟨.inl ⟨rfl,_,so hl⟩,jA rfl (jA rfl (jA rfl (j6 (⟨.inl ⟨by decide,by decide⟩,_,_,rfl,rfl,jA rfl (j6 (⟨.inl ⟨by decide,by decide⟩,_,_,rfl,rfl,s,ns,_,jA rfl (⟨hSi,h63,by omega,by omega,by omega,fun d2 d20 d21=>?_⟩)⟩))⟩))))⟩));refine (jA rfl (j6 (⟨.inl ⟨by omega,by omega⟩,_,_,rfl,rfl,⟨by decide,by decide⟩,zz2,fun tp htp=>?_⟩)));have v:=jJ htp (.tup [V.int (d1*u),V.int (d2*u / 2)]);refine ⟨l,_,_,rfl,rfl,v _ _ hl,vL (by rw [hA.1];omega),?_⟩;refine ⟨us++[.ref tp],p++[(d1*u,d2*u / 2)],_,jA rfl (⟨jE,?_,by rw [aj,hp];rfl,qI hl0 (sm.trans v)⟩)⟩;exact ((hA.mono (QAt.same v)).snoc (v:=.ref tp) (x:=(d1*u,d2*u / 2)) ⟨tp,rfl,jE⟩).mono (QAt.put (v _ _ hl))
 rintro σ Hi ⟨us,p,c5,c6,rfl,hl,hA,hp,sm⟩;rw [aD] at hp;exact (jA rfl (q l p Hi hp sm hl0 ⟨l,us,rfl,hl,hA,by simp⟩))
theorem zX:jV 4 ["script","most_reaches","most_locks","most_nights","unit","many","locks","called","named","nights","reaches"] Q6:=jU
include T in
theorem xN (F:kK K "_law_canal" Q6 f fd) (jz:Def P w K mg base 1 "_law_unit" ["script"] [] (tR K)) (xa:Def P w K mg base 1 "_law_draw" ["script","k","many"] [] (JF K)) (xz:Def P w K mg base 2 "_law_names" ["script","k","many"] [] (lC K)) (wx:Def P w K mg base 2 "_law_weather" ["script","k","reaches","unit"] [] (pS K)) (jk:Def P w K mg base 3 "_law_reach" ["script","k","unit","named"] [] (rQ K cR)) (xaH:MkD P w K mg base 1 "Canal" cN ["self","reaches","locks","nights"] (iV (jH cP cB cU) cR cN)) (xaa:Def P w K mg base 4 "_law_lock" ["script","k","reaches","unit","named"] [] (sS K (jH cP cB cU))):FnOk P w K mg base jO 6 f fd ["script","most_reaches","most_locks","most_nights"] (rT K (jH cP cB cU) cR cN):=by
 refine F.ok2 zX fun vs H Q E h=>?_
 refine y9 h fun s ns mr ml mn h=>?_
 refine eZ h fun e_ hS h63 hr2 hr8 hl1 hl4 hn5 q=>?_
 subst e_;refine ⟨rfl,fun _ _ _ _ hr=>?_⟩;refine ⟨_,(@jG _ _ _ _ _ (jP 4 zX.nd (jM jz hr rfl (jB (pv 0) jD)))
   (@jG _ _ _ _ _ (jP 5 zX.nd (@jI _ _ _ _ _ _ _ _ kG jC (jM xa hr rfl (jZ (pv 0) jC (@jI _ _ _ _ _ _ _ _ zM (pv 1) jC)))))
   (@jG _ _ _ _ _ (jP 6 zX.nd (@jI _ _ _ _ _ _ _ _ kG jC (jM xa hr rfl (jZ (pv 0) jC (pv 2)))))
   (@jG _ _ _ _ _ (jP 7 zX.nd (jM xz hr rfl (jZ (pv 0) jC (pv 5))))
   (@jG _ _ _ _ _ (jP 8 zX.nd (jM xz hr rfl (jZ (pv 0) jC (pv 6))))
   (v7 (j9 (PW.pt (tW (j8 bO (pv 6) (pv 5)) (sY (j8 kO (jM xa hr rfl (jZ (pv 0) jC jC)) jC)))) (@kB _ _ _ (jP 8 zX.nd (ET (EN K) (pv 7) FM (wQ (pv 6))))) kD)
   (@jG _ _ _ _ _ (Z7 (i:=9) ["k","script","many","unit"] (vO 1 [0,5,4]) zX.nd rfl (.inl rfl) rfl (vP (jT Q6)) (cps 1 [0,5,4]) (JO (by rfl) T.xk (jB (jM xa hr rfl (jZ (pv 0) jC (@jI _ _ _ _ _ _ _ _ kG (pv 3) jC))) jD)) (fun _ _ _ _ _=>(qD (i:=0) (show List.Nodup (["k","script","many","unit"]:List Str) from by decide +kernel) rfl (.inl rfl))) (fun _ _ _ _ _=>zU) (fun _ _ _ _ _=>(jM wx hr rfl (yC (pv 1) (pv 0) (pv 2) (pv 3)))))
   (@jG _ _ _ _ _ (Z7 (i:=10) ["k","script","unit","called"] (vO 1 [0,4,7]) zX.nd rfl (.inl rfl) rfl (vP (jT Q6)) (cps 1 [0,4,7]) (JO (by rfl) T.xk (jB (pv 5) jD)) (fun _ _ _ _ _=>(qD (i:=0) (show List.Nodup (["k","script","unit","called"]:List Str) from by decide +kernel) rfl (.inl rfl))) (fun _ _ _ _ _=>zU) (fun _ _ _ _ _=>(jM jk hr rfl (yC (pv 1) (pv 0) (pv 2) (jK (kI K) (pv 3) (pv 0))))))
   (jQ (ZR xaH hr rfl (jZ (pv 10) (QW ["k","script","many","unit","named"] [0,5,4,8] (vP (jT Q6)) (JO (by rfl) T.xk (jB (pv 6) jD)) (fun _ _ _ _ _=>(jM xaa hr rfl (Q0 (pv 1) (pv 0) (pv 2) (pv 3) (jK (kI K) (pv 4) (pv 0)))))) (pv 9)))))))))))),?_⟩
 try dsimp only [jX,jW]
 refine (jA rfl (⟨s,ns,rfl,hS,h63,fun u hv0 hv1=>?_⟩));refine (jA rfl (jA rfl (j6 (⟨s,ns,_,jA rfl (⟨hS,h63,by omega,by omega,by omega,fun m0 m00 m01=>⟨_,_,rfl,rfl,?_⟩⟩)⟩))));obtain ⟨n,hn⟩:∃n:Nat,2+m0=(n:Int):=⟨(2+m0).toNat,by omega⟩
 try dsimp only
 rw [hn];have hn2:2≤n:=by omega
 have hn8:n≤8:=by omega
 refine (jA rfl (jA rfl (⟨s,ns,_,jA rfl (⟨hS,h63,by omega,by omega,by omega,fun m1 m10 m11=>⟨_,_,rfl,rfl,?_⟩⟩)⟩)));obtain ⟨m,hm⟩:∃m:Nat,1+m1=(m:Int):=⟨(1+m1).toNat,by omega⟩
 try dsimp only
 rw [hm];refine (jA rfl (jA rfl ((ZZ s ns _ n (vY rfl hS h63 (by decide) (by decide) (by omega) (fun cl cs H1 s1 hcl0 hcl hcsl hcs50=>?_))))));refine (jA rfl (jA rfl ((ZZ s ns _ m (vY rfl (s1.seq hS) h63 (by decide) (by decide) (by omega) (fun n0 z0 H2 s2 hn00 hn0 hz0l hz050=>?_))))));have s12:=s1.trans s2;refine ⟨fun σ Hj=>∃(na:Addr) (zs:List Str),σ=[some (.ref s),some (.int (mr:Int)),some (.int (ml:Int)),some (.int (mn:Int)),some (.int u),some (.int (n:Int)),some (.int (m:Int)),some (.ref cl),some (.ref na),none,none]∧Hj na=some (.lst (zs.map V.str))∧zs.length=m∧Hj cl=some (.lst (cs.map V.str))∧Same H Hj,?_,?_⟩
 ·refine (jA rfl (jA rfl (j6 ((jA rfl (vE (fun c=>?_) (fun c=>⟨n0,z0,rfl,hn0,hz0l,s2 _ _ hcl,s12⟩)))))));have hle:m≤n:=by have:(m:Int)≤(n:Int):=bo c;omega
  refine (jA rfl (⟨s,ns,_,jA rfl (⟨s12.seq hS,h63,by decide,by decide,by decide,fun d d0 d1=>⟨rfl,jA rfl (vE (fun c=>?_) (fun c=>⟨n0,z0,rfl,hn0,hz0l,s2 _ _ hcl,s12⟩))⟩⟩)⟩));refine (jA rfl (jA rfl (jA rfl (⟨cl,jA rfl (⟨so (s2 _ _ hcl),fun p hp=>?_⟩)⟩))));rw [EE (show m≤cs.length by omega)];have u:=jJ hp (.lst ((cs.take m).map V.str));exact ⟨p,cs.take m,rfl,jE,by rw [cu];omega,u _ _ (s2 _ _ hcl),s12.trans u⟩
 rintro σ H3 ⟨na,zs,rfl,hna,hzl,hcl3,s3⟩;refine (jA rfl (jA rfl (j6 (⟨s,ns,_,jA rfl (⟨s3.seq hS,h63,by omega,by omega,by omega,fun m2 m20 m21=>?_⟩)⟩))));obtain ⟨c,hc⟩:∃c:Nat,m2=(c:Int):=⟨m2.toNat,by omega⟩;rw [hc];refine (jA rfl (⟨by omega,by omega,fun nl hnl0=>?_⟩));refine iY (n:=((c:Nat):Int).toNat) (caps:=[some (.ref s),some (.int (n:Int)),some (.int u)]) (fun i ys Hi=>∃N:List (List (Int×Int)),AllAt (NAt [nl] Hi) ys N∧N.length=i∧∀p∈N,p.length=n) hnl0 ⟨[],AllAt.nil,rfl,fun l hl=>by cases hl⟩ ?_ ?_
 ·rintro i ys Hi hi hle sm hY ⟨N,hN,hNl,hNg⟩;rw [aD] at hi;rw [dz];refine yI (qL (jA rfl (jA rfl (jA rfl (jA rfl ((zD s ns i n u (zE rfl ((s3.trans sm).seq hS) h63 (by omega) hn8 hv0 hv1 (fun l p H' hg s' hl0 hl=>vZ hnl0 sm hY hle (by omega) s' ?_)))))))));obtain ⟨l',qs,e,h1,h2,_⟩:=hl;cases e;refine ⟨N++[p],((hN.mono (NAt.same s')).snoc (v:=.ref l) (x:=p) ⟨l,qs,rfl,h1,h2,fun z=>kE hY hl0 (aX.mp z).symm⟩).mono (NAt.put (s' _ _ hY) (by simp)),by rw [aj,hNl];rfl,fun p' hp'=>?_⟩
  rcases bc.mp hp' with hp'|hp'
  ·exact hNg p' hp'
  ·rw [aX.mp hp'];exact hg
 rintro nv H4 s4 hnl hle3 ⟨N,hN,hNl,hNg⟩;rw [aD] at hNl;have s34:=s3.trans s4;refine (jA rfl (jA rfl (⟨by omega,by omega,fun rl hrl0=>?_⟩)));refine iY (n:=((n:Nat):Int).toNat) (caps:=[some (.ref s),some (.int u),some (.ref cl)]) (fun i ys Hi=>∃R:List RC,AllAt (RcO cR Hi) ys R∧R.length=i∧∀(j:Nat) (r:RC),R[j]?=some r→r.good j) hrl0 ⟨[],AllAt.nil,rfl,fun j r hj=>by cases hj⟩ ?_ ?_
 ·rintro i ys Hi hi hle sm hY ⟨R,hR,hRl,hRg⟩;rw [aD] at hi;rw [dz];obtain ⟨nm,hnm⟩:∃nm,(cs.map V.str)[i]?=some (.str nm):=⟨_,by rw [ax,aa (show i<cs.length by omega)];rfl⟩;refine yI (qL (jA rfl (jA rfl (jA rfl (jA rfl (jA rfl (kR (so (sm _ _ (s4 _ _ hcl3))) (qN hnm) ((zD s ns i u nm (vY rfl ((s34.trans sm).seq hS) h63 (by omega) hv0 hv1 (fun x r H' hg s' hx0 hx=>vZ hrl0 sm hY hle (by omega) s' ?_)))))))))));refine ⟨R++[r],((hR.mono (RcO.same s')).snoc (v:=.ref x) (x:=r) ⟨x,rfl,hx⟩).mono (RcO.keep ((Keep.refl rl H').upd _) (s' _ _ hY)),by rw [aj,hRl];rfl,fun j r' hj=>?_⟩
  by_cases hl:j<R.length
  ·rw [aJ hl] at hj;exact hRg j r' hj
  ·rw [aE (by omega)] at hj;have hz:j - R.length=0:=by
    have:=(ag.mp hj).1;rw [bf] at this;omega
   rw [hz] at hj;cases hj;rw [show j=i by omega];exact hg
 rintro rs H5 s5 hrl hle1 ⟨R,hR,hRl,hRg⟩;rw [aD] at hRl;have s45:=s4.trans s5;have s35:=s3.trans s45;refine (jA rfl (jA rfl (jA rfl (⟨by omega,by omega,fun ll hll0=>?_⟩))));refine iY (n:=((m:Nat):Int).toNat) (caps:=[some (.ref s),some (.int (n:Int)),some (.int u),some (.ref na)]) (fun i ys Hi=>∃L:List LC,AllAt (LkO (jH cP cB cU) Hi) ys L∧L.length=i∧∀l∈L,l.good n) hll0 ⟨[],AllAt.nil,rfl,fun l hl=>by cases hl⟩ ?_ ?_
 ·rintro i ys Hi hi hle sm hY ⟨L,hL,hLl,hLg⟩;rw [aD] at hi;rw [dz];obtain ⟨nm,hnm⟩:∃nm,(zs.map V.str)[i]?=some (.str nm):=⟨_,by rw [ax,aa (show i<zs.length by omega)];rfl⟩;refine yI (qL (jA rfl (jA rfl (jA rfl (jA rfl (jA rfl (jA rfl (kR (so (sm _ _ (s45 _ _ hna))) (qN hnm) ((Q1 s ns i n u nm (bX rfl ((s35.trans sm).seq hS) h63 (by omega) hn2 hn8 hv0 hv1 (fun x l H' hg s' hx0 hx=>vZ hll0 sm hY hle (by omega) s' ?_))))))))))));refine ⟨L++[l],((hL.mono (LkO.same s')).snoc (v:=.ref x) (x:=l) hx).mono (LkO.keep ((Keep.refl ll H').upd _) (s' _ _ hY)),by rw [aj,hLl];rfl,fun l' hl'=>?_⟩
  rcases bc.mp hl' with hl'|hl'
  ·exact hLg l' hl'
  ·rw [aX.mp hl'];exact hg
 rintro ls H6 s6 hll hle2 ⟨L,hL,hLl,hLg⟩;rw [aD] at hLl;refine (jA rfl (?_));intro x dx nx ndx nex;have v:=fun o o'=>bG (o:=o) (o':=o') nx ndx
 refine (yS x dx rl ll _ rs ls R L N (zE rfl jE (v _ _ _ _ (s6 _ _ hrl)) (v _ _ _ _ hll) ((hR.mono (RcO.same s6)).mono (RcO.same (v _ _))) (hL.mono (LkO.same (v _ _))) (.inr ⟨nl,nv,rfl,v _ _ _ _ (s6 _ _ (s5 _ _ hnl)),(hN.mono (NAt.same (s5.trans s6))).mono (NAt.same (v _ _)) |>.mono (NAt.less (by simp)),by rw [hN.1];omega⟩) (fun H' kp hC=>⟨rfl,?_⟩)));have w:=s35.trans s6;exact q x R L N H' ⟨by omega,by omega,by omega,by omega,hRg,fun i l hl=>by rw [hRl];exact hLg l (aP hl),fun p hp=>by rw [hRl];exact hNg p hp⟩ (by omega) (by omega) (by omega) (by omega) (by omega) (w.trans (bD nx (v _ _) kp)) (w.free nx) (hC [] (fun d hd=>nomatch hd))
theorem iN:jV 2 ["canal","reach","some","k"] gM:=jU
include T in
theorem xY (F:kK K "_law_turns" gM f fd) : FnOk P w K mg base jO 1 f fd ["canal","reach"] (sN (jH cP cB cU) cR cN):=by
 refine F.ok2 iN fun vs H Q E h=>?_
 refine ZU h fun x r D R L N h=>?_
 refine wD h fun e_ p0_ b8 q=>?_
 subst e_;obtain ⟨dx,rl,ll,nl,fs,rs,ls,ns,hx,hf,hrl,hll,hnl,hR,hL,hN,d1,d2,d3⟩:=p0_;refine ⟨rfl,fun _ _ _ _ hr=>?_⟩;refine ⟨_,(@jG _ _ _ _ _ (jP 2 iN.nd (kL jD))
   (@jG _ _ _ _ _ (zH bz rfl (JO (by rfl) T.xk (jB (vA K T.xh (j7 K (pv 0) rfl)) jD)) (qD (i:=3) iN.nd rfl (.inl rfl))
    (v7 (j9 (j8 kO (j7 K (jK (kI K) (j7 K (pv 0) rfl) (pv 3)) rfl) (pv 1)) (@kB _ _ _ (qE (qP ak av aw vC (pv 2) (jB (kP (jB (pv 3) (jB jS jD))) jD)))) kD)
   (@kB _ _ _ (j9 (j8 kO (j7 K (jK (kI K) (j7 K (pv 0) rfl) (pv 3)) rfl) (pv 1)) (@kB _ _ _ (qE (qP ak av aw vC (pv 2) (jB (kP (jB (pv 3) (jB jS jD))) jD)))) kD))))
   (jQ (pv 2)))),?_⟩
 try dsimp only [jX,jW]
 refine ⟨zz0,fun ol hol0=>?_⟩;have s1:=jJ hol0 (.lst []);refine ⟨_,rfl,x,cN,dx,_,_,rfl,(s1 _ _ hx),T.clN,T.xc,hf.2.1,ll,_,rfl,.inl (so (s1 _ _ hll)),_,rfl,by omega,by rw [hL.1];omega,bA (n:=((ls.length:Nat):Int).toNat) (fun i σ Hi=>∃(us:List V) (c:Option V),σ=[some (.ref x),some (.int r),some (.ref ol),c]∧Hi ol=some (.lst us)∧AllAt (PAt Hi) us (JP L r i)∧Same H Hi)
  ⟨[],none,rfl,jE,AllAt.nil,s1⟩ ?_ ?_⟩
 ·rintro i σ Hi hi ⟨us,c,rfl,hol,hA,sm⟩;rw [aD,hL.1] at hi;rw [dz];obtain ⟨l,hl'⟩:∃l,L[i]?=some l:=⟨_,aa hi⟩;obtain ⟨v,hv,y,rfl,dl,hl⟩:=hL.get hl';have hlen:=CL L r i;have ek:JT L r i=(if l.low=r then [(i,true)] else [])++(if l.high=r then [(i,false)] else []):=by unfold JT;rw [hl']
  refine ⟨fun σ' H'=>∃us:List V,σ'=[some (.ref x),some (.int r),some (.ref ol),some (.int (i:Int))]∧H' ol=some (.lst us)∧AllAt (PAt H') us (JP L r i++(if l.low=r then [(i,true)] else []))∧Same H H',?_,?_⟩
  ·refine (jA rfl (kC ((sm _ _ hx)) (T.clN) (T.xc) (hf.2.1) ((jA rfl (kR (so (sm _ _ hll)) (qN hv) (kC ((sm _ _ hl)) (T.cl l.kd) (T.vv l.kd) (ZP l.kd _ _ _ _ _) (⟨_,rfl,rfl,jA rfl (?_)⟩)))))))
   by_cases h:l.low=r
   ·refine qQ (bw V.int h) (jA rfl (⟨.inl ⟨rfl,_,so hol⟩,jA rfl (⟨zz2,fun tp htp=>?_⟩)⟩));have u:=jJ htp (.tup [V.int (i:Int),V.str "up"]);refine ⟨ol,_,_,rfl,rfl,u _ _ hol,vL (by rw [hA.1];omega),jA rfl (⟨jE,?_,qI hol0 (sm.trans u)⟩)⟩;rw [if_pos h];exact ((hA.mono (PAt.same u)).snoc (v:=.ref tp) (x:=(i,true)) ⟨tp,rfl,jE⟩).mono (PAt.put (u _ _ hol))
   ·refine q8 (fun z=>h (V.int.inj z)) ⟨us,rfl,hol,?_,sm⟩;rw [if_neg h,bx];exact hA
  rintro σ' H' ⟨us,rfl,hol,hA,sm⟩;have hl2:(if l.low=r then [(i,true)] else ([]:List (Nat×Bool))).length≤1:=by split<;>simp
  refine (jA rfl (kC ((sm _ _ hx)) (T.clN) (T.xc) (hf.2.1) ((jA rfl (kR (so (sm _ _ hll)) (qN hv) (kC ((sm _ _ hl)) (T.cl l.kd) (T.zr l.kd) (ZK l.kd _ _ _ _ _) (⟨_,rfl,rfl,jA rfl (?_)⟩)))))))
  by_cases h:l.high=r
  ·refine qQ (bw V.int h) (jA rfl (⟨.inl ⟨rfl,_,so hol⟩,jA rfl (⟨zz2,fun tp htp=>?_⟩)⟩));have u:=jJ htp (.tup [V.int (i:Int),V.str "down"]);refine ⟨ol,_,_,rfl,rfl,u _ _ hol,vL (by rw [hA.1,aj];omega),_,jA rfl (⟨jE,?_,qI hol0 (sm.trans u)⟩)⟩;rw [iS,ek,if_pos h,← append_assoc];exact ((hA.mono (PAt.same u)).snoc (v:=.ref tp) (x:=(i,false)) ⟨tp,rfl,jE⟩).mono (PAt.put (u _ _ hol))
  ·refine q8 (fun z=>h (V.int.inj z)) ⟨us,jA rfl (⟨hol,?_,sm⟩)⟩;rw [iS,ek,if_neg h,bx];exact hA
 rintro σ Hi ⟨us,c,rfl,hol,hA,sm⟩;rw [aD,hL.1] at hA;exact (jA rfl (q ol us Hi sm hol0 hol hA))
theorem zZ:jV 4 ["script","k","canal","most","lock","at","start","steps","j","some","step"] gO:=jU
include T in
theorem x0 (F:kK K "_law_way" gO f fd) (xa:Def P w K mg base 1 "_law_draw" ["script","k","many"] [] (JF K)) (jl:Def P w K mg base 1 "_law_turns" ["canal","reach"] [] (sN (jH cP cB cU) cR cN)):FnOk P w K mg base jO 2 f fd ["script","k","canal","most"] (sM K (jH cP cB cU) cR cN):=by
 refine F.ok2 zZ fun vs H Q E h=>?_
 refine zQ h fun s x ns k D R L N h=>?_
 refine JZ h fun e_ hS h63 hk hc hdr b1 q=>?_
 subst e_;refine ⟨rfl,fun _ _ _ _ hr=>?_⟩;refine ⟨_,(@jG _ _ _ _ _ (jP 4 zZ.nd (jK (kI K) (j7 K (pv 2) rfl) (jM xa hr rfl (jZ (pv 0) (@jI _ _ _ _ _ _ _ _ kG jC (@jI _ _ _ _ _ _ _ _ kQ jC (pv 1))) (vA K T.xh (j7 K (pv 2) rfl))))))
   (@jG _ _ _ _ _ (jP 5 zZ.nd (jK (kI K) (kL (jB (j7 K (pv 4) rfl) (jB (j7 K (pv 4) rfl) jD))) (jM xa hr rfl (jZ (pv 0) (@jI _ _ _ _ _ _ _ _ kG jC (@jI _ _ _ _ _ _ _ _ kQ jC (pv 1))) jC))))
   (@jG _ _ _ _ _ (jP 6 zZ.nd (pv 5))
   (@jG _ _ _ _ _ (jP 7 zZ.nd (kL jD))
   (@jG _ _ _ _ _ (zH bz rfl (JO (by rfl) T.xk (jB (@jI _ _ _ _ _ _ _ _ kG jC (jM xa hr rfl (jZ (pv 0) (@jI _ _ _ _ _ _ _ _ kG jC (@jI _ _ _ _ _ _ _ _ kQ jC (pv 1))) (pv 3)))) jD)) (qD (i:=8) zZ.nd rfl (.inl rfl))
    (@jG _ _ _ _ _ (jP 9 zZ.nd (jM jl hr rfl (jB (pv 2) (jB (pv 5) jD))))
   (@jG _ _ _ _ _ (jP 10 zZ.nd (jK (kI K) (pv 9) (jM xa hr rfl (jZ (pv 0) (@jI _ _ _ _ _ _ _ _ kG (@jI _ _ _ _ _ _ _ _ kG jC (@jI _ _ _ _ _ _ _ _ kQ jC (pv 1))) (pv 8)) (vA K T.xh (pv 9))))))
   (@jG _ _ _ _ _ (qE (qP ak av aw vC (pv 7) (jB (pv 10) jD)))
   (@kB _ _ _ (jP 5 zZ.nd (jK (kI K) (kL (jB (j7 K (jK (kI K) (j7 K (pv 2) rfl) (jK (j3 K) (pv 10) jC)) rfl) (jB (j7 K (jK (kI K) (j7 K (pv 2) rfl) (jK (j3 K) (pv 10) jC)) rfl) jD))) (qM dJ (by rfl) T.ve ec (jB (JL kO (jK (j3 K) (pv 10) jC) jS) jD)))))))))
   (jQ (kP (jB (pv 6) (jB (qM (JN K) (by rfl) T.xl ba (jB (pv 7) jD)) jD))))))))),?_⟩
 try dsimp only [jX,jW]
 have hc0:=hc;obtain ⟨dx,rl,ll,nl,fs,rs,ls,nv,hx,hf,hrl,hll,hnl,hR,hL,hN,d1,d2,d3⟩:=hc;have b8:=hdr.l8;refine (jA rfl (kC hx (T.clN) (T.xc) (hf.2.1) ((jA rfl (jA rfl (j6 (⟨.inl ⟨by decide,by decide⟩,_,_,rfl,rfl,jA rfl (kC hx (T.clN) (T.xc) (hf.2.1) (⟨ll,jA rfl (⟨.inl (so hll),s,ns,_,jA rfl (⟨hS,h63,by omega,by omega,by rw [hL.1];omega,fun d1 d10 d11=>?_⟩)⟩)⟩))⟩)))))));obtain ⟨k1,hk1⟩:∃k1:Nat,d1=(k1:Int):=⟨d1.toNat,by omega⟩;subst hk1;have hk1L:k1<L.length:=by rw [hL.1] at d11;omega
 obtain ⟨l0,hl0⟩:∃l,L[k1]?=some l:=⟨_,aa hk1L⟩;obtain ⟨v,hv,yl,rfl,dl,hl⟩:=hL.get hl0;refine (kR (so hll) (qN hv) (?_));refine (jA rfl (kC hl (T.cl l0.kd) (T.vv l0.kd) (ZP l0.kd _ _ _ _ _) ((jA rfl (kC hl (T.cl l0.kd) (T.zr l0.kd) (ZK l0.kd _ _ _ _ _) (⟨zz2,fun p1 hp1=>?_⟩))))));have s1:=jJ hp1 (.lst [V.int l0.low,V.int l0.high]);refine (jA rfl (jA rfl (j6 (⟨.inl ⟨by decide,by decide⟩,_,_,rfl,rfl,s,ns,_,jA rfl (⟨s1.seq hS,h63,by omega,by omega,by omega,fun d2 d20 d21=>?_⟩)⟩))));obtain ⟨a0,hat,hend⟩:∃a0:Int,qU [V.int l0.low,V.int l0.high] d2=some (.int a0)∧EndAt L a0:=by
  obtain ⟨k2,hk2⟩:∃k2:Nat,d2=(k2:Int):=⟨d2.toNat,by omega⟩;subst hk2
  rcases k2 with _|_|k2
  ·exact ⟨l0.low,rfl,(k1,true),hk1L,by rw [JD hl0]⟩
  ·exact ⟨l0.high,rfl,(k1,false),hk1L,by rw [JA hl0]⟩
  ·omega
 refine (kR (so jE) hat (?_));refine (jA rfl (⟨zz0,fun sp hsp0=>?_⟩));have s2:=jJ hsp0 (.lst []);have s12:=s1.trans s2;have hsp:upd (upd H p1 (.lst [V.int l0.low,V.int l0.high])) sp (.lst []) sp=some (.lst []):=jE;have hspf:=s1.free hsp0;generalize upd (upd H p1 (.lst [V.int l0.low,V.int l0.high])) sp (.lst [])=H2 at s2 s12 hsp ⊢;refine (jA rfl (jA rfl (j6 (⟨.inl ⟨by decide,by decide⟩,_,_,rfl,rfl,jA rfl (⟨s,ns,_,jA rfl (⟨s12.seq hS,h63,by omega,by omega,by omega,fun m0 m00 m01=>?_⟩)⟩)⟩))));obtain ⟨n,hn⟩:∃n:Nat,1+m0=(n:Int):=⟨(1+m0).toNat,by omega⟩;refine ⟨_,_,rfl,rfl,(n:Int),(by show [V.int (1+m0)]=_;rw [hn]),by omega,by omega,?_⟩;refine bA (n:=((n:Nat):Int).toNat) (fun i σ Hi=>∃(a:Int) (ps:List (Nat×Bool)) (us:List V) (c8 c9 c10:Option V),σ=[some (.ref s),some (.int (k:Int)),some (.ref x),some (.int 8),some (.ref yl),some (.int a),some (.int a0),some (.ref sp),c8,c9,c10]∧Hi sp=some (.lst us)∧AllAt (PAt Hi) us ps∧(∀p∈ps,p.1<L.length)∧ps.length=i∧(qC L a0 ps)[ps.length]?=some a∧vV L a0 ps∧EndAt L a∧Same H Hi)
  ⟨a0,[],[],none,none,none,rfl,hsp,AllAt.nil,fun p hp=>(by cases hp),rfl,rfl,FY _ _,hend,s12⟩ ?_ ?_
 ·rintro i σ Hi hi ⟨a,ps,us,c8,c9,c10,rfl,hsp,hA,hlt,hpl,hlast,hok,hen,sm⟩;rw [aD] at hi;rw [dz];refine (jA rfl (jA rfl ((Q1 x a _ R L N (Z1 rfl (hc0.same sm) b8 (fun sOo tus H4 s4 hso0 hso hTA=>?_))))));have sm4:=sm.trans s4;have htl:=hen.turns;refine (jA rfl (jA rfl (jA rfl (j6 (⟨.inl ⟨by decide,by decide⟩,_,_,rfl,rfl,jA rfl (j6 ((jA rfl (⟨sOo,jA rfl (⟨.inl (so hso),s,ns,_,jA rfl (⟨sm4.seq hS,h63,by omega,by omega,by rw [hTA.1];omega,fun d4 d40 d41=>?_⟩)⟩)⟩))))⟩)))));obtain ⟨m,hm⟩:∃m:Nat,d4=(m:Int):=⟨d4.toNat,by omega⟩;subst hm;have hml:m<tus.length:=by omega
  obtain ⟨p,hp,t,et,ht⟩:=hTA.2 m _ (aa hml);obtain ⟨hpL,hpe⟩:=turns_mem.mp (aP hp);refine (kR (so hso) (qN (v:=.ref t) (by rw [aa hml,et])) (?_));have hsp4:=s4 _ _ hsp;refine (jA rfl (⟨.inl ⟨rfl,_,so hsp4⟩,jA rfl (⟨sp,_,_,rfl,rfl,hsp4,vL (by rw [hA.1];omega),?_⟩)⟩));have hA5:AllAt (PAt (upd H4 sp (.lst (us++[.ref t])))) (us++[.ref t]) (ps++[p]):=((hA.mono (PAt.same s4)).snoc ⟨t,rfl,ht⟩).mono (PAt.put hsp4);have sm5:Same H (upd H4 sp (.lst (us++[.ref t]))):=qI hspf sm4;have hsp5:upd H4 sp (.lst (us++[.ref t])) sp=some (.lst (us++[.ref t])):=jE;have ht:upd H4 sp (.lst (us++[.ref t])) t=some (.tup [.int (p.1:Int),.str (vX p.2)]):=by rw [jL (fun z=>by rw [z,hsp4] at ht;cases ht)];exact ht
  generalize upd H4 sp (.lst (us++[.ref t]))=H5 at hA5 sm5 hsp5 ht ⊢;obtain ⟨l,hl',hlg⟩:=pI hdr hpL;obtain ⟨w,hw,y,rfl,dl,hl⟩:=hL.get hl';refine (jA rfl (kC ((sm5 _ _ hx)) (T.clN) (T.xc) (hf.2.1) ((jA rfl (j5 (SqT.of ht) rfl (kR (so (sm5 _ _ hll)) (qN hw) (kC ((sm5 _ _ hl)) (T.cl l.kd) (T.vv l.kd) (ZP l.kd _ _ _ _ _) ((jA rfl (kC ((sm5 _ _ hx)) (T.clN) (T.xc) (hf.2.1) ((jA rfl (j5 (SqT.of ht) rfl (kR (so (sm5 _ _ hll)) (qN hw) (kC ((sm5 _ _ hl)) (T.cl l.kd) (T.zr l.kd) (ZK l.kd _ _ _ _ _) (⟨zz2,fun pl hpl0=>?_⟩))))))))))))))));have u:=jJ hpl0 (.lst [V.int l.low,V.int l.high]);refine (jA rfl (j5 (SqT.of (u _ _ ht)) rfl (⟨rfl,.inr (jA rfl (?_))⟩)));rw [uD];have hat:qU [V.int l.low,V.int l.high] (if p.2=true then 1 else 0)=some (.int (vB L p).2):=by
   obtain ⟨pk,pb⟩:=p;cases pb
   ·rw [JA hl'];rfl
   ·rw [JD hl'];rfl
  refine (kR (so jE) hat (?_));refine ⟨_,ps++[p],us++[.ref t],_,_,jA rfl (⟨u _ _ hsp5,hA5.mono (PAt.same u),fun p' hp'=>?_,by rw [aj,hpl];rfl,?_,(rY hlast).mpr ⟨hok,hpe⟩,EndAt.next hpL,sm5.trans u⟩)⟩
  ·rcases bc.mp hp' with h|h
   ·exact hlt p' h
   ·rw [aX.mp h];exact hpL
  ·rw [dH,aj,aE (by rw [QK];exact ai _),QK];show [(vB L p).2][ps.length+1 - (ps.length+1)]?=_;rw [fu];rfl
 rintro σ Hi ⟨a,ps,us,c8,c9,c10,rfl,hsp,hA,hlt,hpl,hlast,hok,hen,sm⟩;rw [aD] at hpl;refine (jA rfl (jA rfl (⟨sp,us,rfl,.inl ⟨so hsp,fun st hst0=>?_⟩⟩)));have v1:=jJ hst0 (.tup us);refine ⟨zz2,fun t ht0=>?_⟩;have v2:=jJ ht0 (.tup [V.int a0,V.ref st]);have w:=(sm.trans v1).trans v2;exact q t (a0,ps) _ ⟨hlt,hok,by show ps.length≤8;omega⟩ (by show 1≤ps.length;omega) (EC hdr hend) w ((sm.trans v1).free ht0) (bW t st us (Z1 rfl jE (v2 _ _ jE) (hA.mono (PAt.same (v1.trans v2)))))
theorem oK:jV 3 ["canal","name","way","steps"] cF:=jU
include T in
theorem xO (F:kK K "_law_come" cF f fd) : FnOk P w K mg base jO 1 f fd ["canal","name","way"] (rS (jH cP cB cU) cR cN):=by
 refine F.ok2 oK fun vs H Q E h=>?_
 refine u9 h fun x t nm y a D R L N h=>?_
 refine zA h fun e_ hc p1_ ok ha haR q=>?_
 subst e_;obtain ⟨t₂,st,us,e,h1,h2,h3⟩:=p1_;refine ⟨rfl,fun _ _ _ _ hr=>?_⟩;refine ⟨_,(@jG _ _ _ _ _ (Z7 (i:=3) ["step","canal"] (vO 1 [0]) oK.nd rfl (.inl rfl) rfl (vP (jT cF)) (cps 1 [0]) (bK (jK (j3 K) (pv 2) jC)) (fun _ _ _ _ _=>(qD (i:=0) (show List.Nodup (["step","canal"]:List Str) from by decide +kernel) rfl (.inl rfl))) (fun _ _ _ _ _=>zU) (fun _ _ _ _ _=>(kP (jB (j7 K (jK (kI K) (j7 K (pv 1) rfl) (jK (j3 K) (pv 0) jC)) rfl) (jB (jK (j3 K) (pv 0) jC) jD)))))
   (jQ (kP (yC jS (pv 1) (j7 K (jK (kI K) (j7 K (pv 0) rfl) (jK (j3 K) (pv 2) jC)) rfl) (qM (JN K) (by rfl) T.xl ba (jB (pv 3) jD)))))),?_⟩
 try dsimp only [jX,jW]
 cases e;have hc0:=hc;obtain ⟨dx,rl,ll,nl,fs,rs,ls,nv,hx,hf,hrl,hll,hnl,hR,hL,hN,d1,d2,d3⟩:=hc;have hus:=h3.1;have h8:=ok.le;refine (jA rfl (j5 (SqT.of h1) rfl (⟨st,rfl,⟨_,SqT.of h2⟩,fun bt hbt=>?_⟩)));refine rF (K:=K) (a:=st) (xs:=us) (caps:=[some (.ref x)]) (fun i zs Hi=>AllAt (SAt Hi) zs ((y.2.take i).map fun p=>(ZN L p.1,p.2))) hbt h2 AllAt.nil ?_ ?_
 ·rintro i v zs Hi hv hi hle sm hY hR0;obtain ⟨p,hp,tp,rfl,htp⟩:=h3.2 i v hv;obtain ⟨l,hl'⟩:∃l,L[p.1]?=some l:=⟨_,aa (ok.lt p (aP hp))⟩;obtain ⟨w,hw,yl,rfl,dl,hl⟩:=hL.get hl';refine yI (qL (jA rfl (kC ((sm _ _ hx)) (T.clN) (T.xc) (hf.2.1) ((jA rfl (j5 (SqT.of (sm _ _ htp)) rfl (kR (so (sm _ _ hll)) (qN hw) (kC ((sm _ _ hl)) (T.cl l.kd) (T.wd l.kd) (dU l.kd _ _ _ _ _) ((jA rfl (j5 (SqT.of (sm _ _ htp)) rfl (⟨zz2,fun t3 ht3=>?_⟩))))))))))));have u:=jJ ht3 (.tup [V.str l.name,V.str (vX p.2)]);refine vZ hbt sm hY hle (by omega) u ?_;rw [aN,hp,aL];refine ((hR0.mono (SAt.same u)).snoc (v:=.ref t3) (x:=(ZN L p.1,p.2)) ⟨t3,rfl,?_⟩).mono (SAt.put (u _ _ hY));rw [jE];unfold ZN;rw [hl'];rfl
 rintro zs Hg sg hbg hleg hR0;rw [hus,aV] at hR0;obtain ⟨r,hr⟩:∃r,R[a]?=some r:=⟨_,aa haR⟩;obtain ⟨w,hw,xr,rfl,dr,gs,hxr,hg⟩:=hR.get hr;refine (jA rfl (jA rfl (kC ((sg _ _ hx)) (T.clN) (T.xf) (hf.1) ((jA rfl (j5 (SqT.of (sg _ _ h1)) rfl (⟨rl,_,_,jA rfl (⟨by rw [ha],so (sg _ _ hrl),qN hw,kC (sg _ _ hxr) (T.clR) (T.xy) (hg.1) ((jA rfl (⟨bt,zs,rfl,.inl ⟨so hbg,fun s2 hs2=>?_⟩⟩)))⟩)⟩)))))));have u1:=jJ hs2 (.tup zs);refine ⟨zz4,fun t4 ht4=>?_⟩;have u2:=jJ ht4 (.tup [V.str "come",V.str nm,V.str r.name,V.ref s2]);have w2:=(sg.trans u1).trans u2;refine q t4 _ w2 ((sg.trans u1).free ht4) ⟨s2,zs,?_,u2 _ _ jE,(hR0.mono (SAt.same u1)).mono (SAt.same u2)⟩;rw [jE];unfold tV;rw [hr];rfl
theorem oN:jV 1 ["e","some"] gK:=jU
include T in
theorem xV (F:kK K "_law_refusal" gK f fd) : FnOkH P w K mg base 1 f fd ["e"] (pU eB eT eM eU eL eW):=by
 refine F.okH2 oN fun vs H Q E h=>?_
 obtain ⟨x,c,rfl,hx,c1,c6,q⟩:=h;refine ⟨rfl,fun _ _ _ _ hr=>?_⟩;refine ⟨_,(@jG _ _ _ _ _ (jP 1 oN.nd (kL jD))
   (@jG _ _ _ _ _ (j9 (ZL (yO (yW (QL (K:=K)) (by rfl) T.xb aU (jB (pv 0) (jB (FT (v:=.ty "ValueError") rfl T.xm PyProof.Rows.Boot.«ValueError» rfl) jD))))) (@kB _ _ _ (qE (qP ak av aw vC (pv 1) (jB jS jD)))) kD)
   (v7 (j9 (yO (yW (QL (K:=K)) (by rfl) T.xb aU (jB (pv 0) (jB (yZ (v:=.ref eB) rfl T.wf rfl) jD)))) (@kB _ _ _ (qE (qP ak av aw vC (pv 1) (jB jS jD)))) kD)
   (v7 (j9 (yO (yW (QL (K:=K)) (by rfl) T.xb aU (jB (pv 0) (jB (yZ (v:=.ref eT) rfl T.ji rfl) jD)))) (@kB _ _ _ (qE (qP ak av aw vC (pv 1) (jB jS jD)))) kD)
   (v7 (j9 (yO (yW (QL (K:=K)) (by rfl) T.xb aU (jB (pv 0) (jB (yZ (v:=.ref eM) rfl T.vj rfl) jD)))) (@kB _ _ _ (qE (qP ak av aw vC (pv 1) (jB jS jD)))) kD)
   (v7 (j9 (yO (yW (QL (K:=K)) (by rfl) T.xb aU (jB (pv 0) (jB (yZ (v:=.ref eU) rfl T.vk rfl) jD)))) (@kB _ _ _ (qE (qP ak av aw vC (pv 1) (jB jS jD)))) kD)
   (v7 (j9 (yO (yW (QL (K:=K)) (by rfl) T.xb aU (jB (pv 0) (jB (yZ (v:=.ref eL) rfl T.zv rfl) jD)))) (@kB _ _ _ (qE (qP ak av aw vC (pv 1) (jB jS jD)))) kD)
   (v7 (j9 (yO (yW (QL (K:=K)) (by rfl) T.xb aU (jB (pv 0) (jB (yZ (v:=.ref eW) rfl T.wg rfl) jD)))) (@kB _ _ _ (qE (qP ak av aw vC (pv 1) (jB jS jD)))) kD)
   (jQ (kP (jB jS (jB (pv 1) jD)))))))))))),?_⟩
 try dsimp only [jX,jW]
 have S:Seen K eB eT eM eU eL eW c:=by
  rcases QA c1 c6 with rfl|rfl|rfl|rfl|rfl|rfl
  ·exact ⟨T.at_BadRow,T.jf,T.k_BadRow_ValueError,fun i g1 g2=>by rcases QA g1 g2 with rfl|rfl|rfl|rfl|rfl|rfl;exact T.k_BadRow_BadRow;exact T.k_BadRow_Twice;exact T.k_BadRow_TooMany;exact T.k_BadRow_Unknown;exact T.k_BadRow_NotLinked;exact T.k_BadRow_NotNow⟩
  ·exact ⟨T.at_Twice,T.jv,T.k_Twice_ValueError,fun i g1 g2=>by rcases QA g1 g2 with rfl|rfl|rfl|rfl|rfl|rfl;exact T.k_Twice_BadRow;exact T.k_Twice_Twice;exact T.k_Twice_TooMany;exact T.k_Twice_Unknown;exact T.k_Twice_NotLinked;exact T.k_Twice_NotNow⟩
  ·exact ⟨T.at_TooMany,T.wj,T.k_TooMany_ValueError,fun i g1 g2=>by rcases QA g1 g2 with rfl|rfl|rfl|rfl|rfl|rfl;exact T.k_TooMany_BadRow;exact T.k_TooMany_Twice;exact T.k_TooMany_TooMany;exact T.k_TooMany_Unknown;exact T.k_TooMany_NotLinked;exact T.k_TooMany_NotNow⟩
  ·exact ⟨T.at_Unknown,T.wk,T.k_Unknown_ValueError,fun i g1 g2=>by rcases QA g1 g2 with rfl|rfl|rfl|rfl|rfl|rfl;exact T.k_Unknown_BadRow;exact T.k_Unknown_Twice;exact T.k_Unknown_TooMany;exact T.k_Unknown_Unknown;exact T.k_Unknown_NotLinked;exact T.k_Unknown_NotNow⟩
  ·exact ⟨T.at_NotLinked,T.vg,T.k_NotLinked_ValueError,fun i g1 g2=>by rcases QA g1 g2 with rfl|rfl|rfl|rfl|rfl|rfl;exact T.k_NotLinked_BadRow;exact T.k_NotLinked_Twice;exact T.k_NotLinked_TooMany;exact T.k_NotLinked_Unknown;exact T.k_NotLinked_NotLinked;exact T.k_NotLinked_NotNow⟩
  ·exact ⟨T.at_NotNow,T.jg,T.k_NotNow_ValueError,fun i g1 g2=>by rcases QA g1 g2 with rfl|rfl|rfl|rfl|rfl|rfl;exact T.k_NotNow_BadRow;exact T.k_NotNow_Twice;exact T.k_NotNow_TooMany;exact T.k_NotNow_Unknown;exact T.k_NotNow_NotLinked;exact T.k_NotNow_NotNow⟩
 refine ⟨aG _,fun l hl0=>?_⟩;have sm:=jJ hl0 (.lst []);have hl:upd H l (.lst []) l=some (.lst (if c≤0 then [V.str (zR c)] else [])):=by rw [if_neg (by omega)];exact jE
 generalize upd H l (.lst [])=Hi at sm hl ⊢;refine (jA rfl (⟨x,qB eB eT eM eU eL eW c,.ty "ValueError",true,rfl,sm _ _ hx,S.at_,S.cl,.inl (jA rfl (S.kv)),jA rfl (qH ?_)⟩));refine ⟨fun σ Hi=>σ=[some (.ref x),some (.ref l)]∧Hi l=some (.lst (if c≤1 then [V.str (zR c)] else []))∧Same H Hi,?_,?_⟩
 ·refine (jA rfl (⟨x,qB eB eT eM eU eL eW c,.ref (qB eB eT eM eU eL eW 1),decide (c=1),rfl,sm _ _ hx,S.at_,S.cl,.inl (jA rfl (S.k 1 (by decide) (by decide))),jA rfl (vE (fun z=>?_) (fun z=>⟨rfl,?_,sm⟩))⟩))
  ·obtain rfl:=bo z;have hl':Hi l=some (.lst []):=hl;exact (jA rfl (⟨.inl ⟨rfl,_,so hl'⟩,l,_,_,rfl,rfl,hl',(by show 0<sizeLine;decide),rfl,jE,qI hl0 sm⟩))
  ·have z:¬c=1:=fun h=>z (aO h)
   rw [hl]
   by_cases h:c≤0
   ·rw [if_pos h,if_pos (show c≤1 by omega)]
   ·rw [if_neg h,if_neg (show ¬c≤1 by omega)]
 rintro σ Hi ⟨rfl,hl,sm⟩;refine ⟨fun σ Hi=>σ=[some (.ref x),some (.ref l)]∧Hi l=some (.lst (if c≤2 then [V.str (zR c)] else []))∧Same H Hi,?_,?_⟩
 ·refine (jA rfl (⟨x,qB eB eT eM eU eL eW c,.ref (qB eB eT eM eU eL eW 2),decide (c=2),rfl,sm _ _ hx,S.at_,S.cl,.inl (jA rfl (S.k 2 (by decide) (by decide))),jA rfl (vE (fun z=>?_) (fun z=>⟨rfl,?_,sm⟩))⟩))
  ·obtain rfl:=bo z;have hl':Hi l=some (.lst []):=hl;exact (jA rfl (⟨.inl ⟨rfl,_,so hl'⟩,l,_,_,rfl,rfl,hl',(by show 0<sizeLine;decide),rfl,jE,qI hl0 sm⟩))
  ·have z:¬c=2:=fun h=>z (aO h)
   rw [hl]
   by_cases h:c≤1
   ·rw [if_pos h,if_pos (show c≤2 by omega)]
   ·rw [if_neg h,if_neg (show ¬c≤2 by omega)]
 rintro σ Hi ⟨rfl,hl,sm⟩;refine ⟨fun σ Hi=>σ=[some (.ref x),some (.ref l)]∧Hi l=some (.lst (if c≤3 then [V.str (zR c)] else []))∧Same H Hi,?_,?_⟩
 ·refine (jA rfl (⟨x,qB eB eT eM eU eL eW c,.ref (qB eB eT eM eU eL eW 3),decide (c=3),rfl,sm _ _ hx,S.at_,S.cl,.inl (jA rfl (S.k 3 (by decide) (by decide))),jA rfl (vE (fun z=>?_) (fun z=>⟨rfl,?_,sm⟩))⟩))
  ·obtain rfl:=bo z;have hl':Hi l=some (.lst []):=hl;exact (jA rfl (⟨.inl ⟨rfl,_,so hl'⟩,l,_,_,rfl,rfl,hl',(by show 0<sizeLine;decide),rfl,jE,qI hl0 sm⟩))
  ·have z:¬c=3:=fun h=>z (aO h)
   rw [hl]
   by_cases h:c≤2
   ·rw [if_pos h,if_pos (show c≤3 by omega)]
   ·rw [if_neg h,if_neg (show ¬c≤3 by omega)]
 rintro σ Hi ⟨rfl,hl,sm⟩;refine ⟨fun σ Hi=>σ=[some (.ref x),some (.ref l)]∧Hi l=some (.lst (if c≤4 then [V.str (zR c)] else []))∧Same H Hi,?_,?_⟩
 ·refine (jA rfl (⟨x,qB eB eT eM eU eL eW c,.ref (qB eB eT eM eU eL eW 4),decide (c=4),rfl,sm _ _ hx,S.at_,S.cl,.inl (jA rfl (S.k 4 (by decide) (by decide))),jA rfl (vE (fun z=>?_) (fun z=>⟨rfl,?_,sm⟩))⟩))
  ·obtain rfl:=bo z;have hl':Hi l=some (.lst []):=hl;exact (jA rfl (⟨.inl ⟨rfl,_,so hl'⟩,l,_,_,rfl,rfl,hl',(by show 0<sizeLine;decide),rfl,jE,qI hl0 sm⟩))
  ·have z:¬c=4:=fun h=>z (aO h)
   rw [hl]
   by_cases h:c≤3
   ·rw [if_pos h,if_pos (show c≤4 by omega)]
   ·rw [if_neg h,if_neg (show ¬c≤4 by omega)]
 rintro σ Hi ⟨rfl,hl,sm⟩;refine ⟨fun σ Hi=>σ=[some (.ref x),some (.ref l)]∧Hi l=some (.lst (if c≤5 then [V.str (zR c)] else []))∧Same H Hi,?_,?_⟩
 ·refine (jA rfl (⟨x,qB eB eT eM eU eL eW c,.ref (qB eB eT eM eU eL eW 5),decide (c=5),rfl,sm _ _ hx,S.at_,S.cl,.inl (jA rfl (S.k 5 (by decide) (by decide))),jA rfl (vE (fun z=>?_) (fun z=>⟨rfl,?_,sm⟩))⟩))
  ·obtain rfl:=bo z;have hl':Hi l=some (.lst []):=hl;exact (jA rfl (⟨.inl ⟨rfl,_,so hl'⟩,l,_,_,rfl,rfl,hl',(by show 0<sizeLine;decide),rfl,jE,qI hl0 sm⟩))
  ·have z:¬c=5:=fun h=>z (aO h)
   rw [hl]
   by_cases h:c≤4
   ·rw [if_pos h,if_pos (show c≤5 by omega)]
   ·rw [if_neg h,if_neg (show ¬c≤5 by omega)]
 rintro σ Hi ⟨rfl,hl,sm⟩;refine ⟨fun σ Hi=>σ=[some (.ref x),some (.ref l)]∧Hi l=some (.lst (if c≤6 then [V.str (zR c)] else []))∧Same H Hi,?_,?_⟩
 ·refine (jA rfl (⟨x,qB eB eT eM eU eL eW c,.ref (qB eB eT eM eU eL eW 6),decide (c=6),rfl,sm _ _ hx,S.at_,S.cl,.inl (jA rfl (S.k 6 (by decide) (by decide))),jA rfl (vE (fun z=>?_) (fun z=>⟨rfl,?_,sm⟩))⟩))
  ·obtain rfl:=bo z;have hl':Hi l=some (.lst []):=hl;exact (jA rfl (⟨.inl ⟨rfl,_,so hl'⟩,l,_,_,rfl,rfl,hl',(by show 0<sizeLine;decide),rfl,jE,qI hl0 sm⟩))
  ·have z:¬c=6:=fun h=>z (aO h)
   rw [hl]
   by_cases h:c≤5
   ·rw [if_pos h,if_pos (show c≤6 by omega)]
   ·rw [if_neg h,if_neg (show ¬c≤6 by omega)]
 rintro σ Hi ⟨rfl,hl,sm⟩;refine (jA rfl (⟨zz2,fun t ht=>?_⟩));have u:=jJ ht (.tup [V.str "refused",V.ref l]);rw [if_pos c6] at hl;exact q t _ (sm.trans u) (.inr (.inr ⟨c1,c6,l,jE,u _ _ hl⟩))
theorem oJ:jV 3 ["book","entry","way","e"] gF:=jU
include T in
theorem xM (F:kK K "_law_asked" gF f fd) (zg:MeX P w K mg base 7 cO "fault" ["self","entry"] (dR (jH cP cB cU) cR cN cO eB eT eM eU eL)) (ze:MeX P w K mg base 8 cO "behind" ["self","entry"] (dM (jH cP cB cU) cR cN cO eB eT eM eU eL eW)) (xaf:MeX P w K mg base 9 cO "do" ["self","entry"] (nB (jH cP cB cU) cR cN cO eB eT eM eU eL eW)) (wz:DefH P w K mg base 1 "_law_refusal" ["e"] (pU eB eT eM eU eL eW)):FnOk P w K mg base jO 10 f fd ["book","entry","way"] (sV (jH cP cB cU) cR cN cO):=by
 refine F.ok2 oJ fun vs H Q E h=>?_
 refine IM h fun b t x nl pl ql el D e w₁ R L N ms zs ys h=>?_
 refine uQ h fun e_ hw hq hB hDl hco hl1 hl2 q0 q1 q2 q3=>?_
 subst e_;refine ⟨rfl,fun _ _ _ _ hr=>?_⟩;refine ⟨_,(@jG _ _ _ _ _ (ES (i:=3) rfl rfl rfl oJ.nd rfl rfl rfl T.vf (fun _ _ hx=>(@jG _ _ _ _ _ (j9 (j8 kO (pv 2) jC) (kB (@oF _ _ _ _ (kP (jB jS (jB (JV zg hx hr (pv 0) (jB (pv 1) jD)) jD))))) kD)
   (kB (j9 (j8 kO (pv 2) jC) (kB (qE (JV ze hx hr (pv 0) (jB (pv 1) jD)))) (kB (qE (JV xaf hx hr (pv 0) (jB (pv 1) jD)))))))) (fun _=>(jQ (FQ wz (hr.hand _) rfl (jB (pv 3) jD)))))
   (jQ (kP (jB jS (jB jS jD))))),?_⟩
 try dsimp only [jX,jW]
 obtain ⟨db,fs,hb,hno⟩:=hq.ins;refine ⟨fun σ' k H'=>∃c,σ'=[some (.ref b),some (.ref t),some (.int (w₁:Int)),none]∧k=.ref (qB eB eT eM eU eL eW c)∧1≤c∧c≤6∧Same H H'∧(w₁=0→c=vN R L zs ys e)∧(w₁≠0→c=qJ R L zs ys e),?_,?_⟩
 ·have hw0:∀n:Nat,n≠0→n≤6→(1≤n∧n≤6):=fun n h1 h2=>by omega
  have ans0:∀(r:Addr) (G:Hp),AnsAt (upd G r (.tup [V.str "told",V.str ""])) r 0:=fun r G=>.inl ⟨rfl,jE⟩
  refine ⟨_,rfl,rfl,jA rfl (?_)⟩
  by_cases w0:w₁=0
  ·subst w0;refine qQ rfl (jA rfl (⟨b,db,jA rfl (⟨hb,hno _ (by decide +kernel),jA rfl ((yS b t x e R L N ms zs ys (vY rfl hq hco hl1 hl2 (fun h0 H1 s1=>⟨zz2,fun r hr=>?_⟩) (fun h0 H1 s1=>?_))))⟩)⟩))
   ·have u:=jJ hr (.tup [V.str "told",V.str (if yQ R L ys e=true then "berth" else "")]);refine q0 rfl r _ (s1.trans u) ?_;unfold vN;rw [if_pos h0]
    by_cases hbt:yQ R L ys e=true
    ·rw [if_pos hbt,if_pos hbt];exact .inr (.inl ⟨rfl,jE⟩)
    ·rw [if_neg hbt,if_neg hbt];exact .inl ⟨rfl,jE⟩
   ·obtain ⟨g1,g2⟩:=hw0 _ h0 (Nat.le_succ_of_le (bE R L zs e));exact ⟨kH R L zs e,rfl,by rw [IS eB eT eM eU eL eW],g1,g2,s1,fun _=>by unfold vN;rw [if_neg h0],fun h=>absurd rfl h⟩
  refine q8 (fun z=>w0 (by have:=V.int.inj z;omega)) ⟨_,rfl,rfl,jA rfl (?_)⟩;have bad:qJ R L zs ys e≠0→∀H',Same H H'→∃c,[some (.ref b),some (.ref t),some (.int (w₁:Int)),none]=[some (V.ref b),some (V.ref t),some (V.int (w₁:Int)),none]∧Value.ref (qB eB eT eM eU eL eW (qJ R L zs ys e))=.ref (qB eB eT eM eU eL eW c)∧1≤c∧c≤6∧Same H H'∧(w₁=0→c=vN R L zs ys e)∧(w₁≠0→c=qJ R L zs ys e):=fun h0 H1 s1=>by
   obtain ⟨g1,g2⟩:=hw0 _ h0 (sJ R L zs ys e);exact ⟨_,rfl,rfl,g1,g2,s1,fun h=>absurd h w0,fun _=>rfl⟩
  by_cases w1:w₁=1
  ·subst w1;refine qQ rfl (jA rfl (⟨b,db,jA rfl (⟨hb,hno _ (by decide +kernel),jA rfl ((yS b t x e R L N ms zs ys (vY rfl hq hco hl1 hl2 (fun h0 y p l st us H1 hy s1 hp hl0 hl hA hst=>⟨zz2,fun r hr=>?_⟩) bad)))⟩)⟩));exact q1 rfl r _ (s1.trans (jJ hr _)) (by rw [h0];exact ans0 r H1)
  obtain rfl:w₁=2:=by omega
  refine q8 (fun z=>nomatch z) (jA rfl (⟨b,db,jA rfl (⟨hb,hno _ (by decide +kernel),jA rfl ((KS b t x nl pl ql el D e R L N ms zs ys (bX rfl hq hB hDl hco hl1 hl2 (fun h0 y H1 hy hB1 hd1=>⟨zz2,fun r hr=>?_⟩) bad)))⟩)⟩));exact q3 rfl h0 y r H1 _ hy hB1 hd1 (jJ hr _) (ans0 r H1)
 rintro σ' k H' ⟨c,rfl,rfl,c1,c6,sm,e0,e1⟩;refine ⟨qB eB eT eM eU eL eW c,rfl,?_,fun ex hex=>?_⟩
 ·rcases QA c1 c6 with rfl|rfl|rfl|rfl|rfl|rfl
  ·exact T.exm_BadRow
  ·exact T.exm_Twice
  ·exact T.exm_TooMany
  ·exact T.exm_Unknown
  ·exact T.exm_NotLinked
  ·exact T.exm_NotNow
 have u:=jJ hex (J4 ex (qB eB eT eM eU eL eW c));refine (jA rfl (⟨ex,c,rfl,jE,c1,c6,fun r H2 s2 ha=>?_⟩));have sm2:=(sm.trans u).trans s2
 by_cases w0:w₁=0
 ·exact q0 w0 r H2 sm2 (e0 w0▸ha)
 have e1:=e1 w0;rw [e1] at ha
 by_cases w1:w₁=1
 ·exact q1 w1 r H2 sm2 ha
 ·exact q2 (by omega) (by omega) r H2 sm2 ha
theorem zY:jV 3 ["script","entry","taken","bad","name","start","steps","at"] gL:=jU
include T in
theorem xW (F:kK K "_law_spoiled" gL f fd) (xa:Def P w K mg base 1 "_law_draw" ["script","k","many"] [] (JF K)):FnOk P w K mg base jO 2 f fd ["script","entry","taken"] (sO K):=by
 refine F.ok2 zY fun vs H Q E h=>?_
 refine ZU h fun s t tl ns e zs h=>?_
 refine IT h fun e_ hS h63 hco hl1 hl0 hl2 htl hzl hz q=>?_
 subst e_;refine ⟨rfl,fun _ _ _ _ hr=>?_⟩;refine ⟨_,(@jG _ _ _ _ _ (j9 (j8 kO (jM xa hr rfl (jZ (pv 0) jC jC)) jC) (jQ (pv 1)) kD)
   (@jG _ _ _ _ _ (@oH _ _ 3 _ _ _ _ zY.nd rfl (.inl rfl) (jK (kI K) (kL (@jB _ _ _ _ _ jS (@jB _ _ _ _ _ jS (@jB _ _ _ _ _ jS (@jB _ _ _ _ _ jS (@jB _ _ _ _ _ jS (@jB _ _ _ _ _ jS (@jB _ _ _ _ _ jS (@jB _ _ _ _ _ jS (@jB _ _ _ _ _ jS jD (by rfl)) (by rfl)) (by rfl)) (by rfl)) (by rfl)) (by rfl)) (by rfl)) (by rfl)) (by rfl))) (jM xa hr rfl (jZ (pv 0) jC jC))) (by rfl) (by first|exact .inl rfl|exact .inr rfl|assumption))
   (@jG _ _ _ _ _ (jP 4 zY.nd (jK (j3 K) (pv 1) jC))
   (@jG _ _ _ _ _ (jP 5 zY.nd (jK (j3 K) (pv 1) jC))
   (@jG _ _ _ _ _ (jP 6 zY.nd (qM (yY K) (by rfl) T.xi aI (jB (jK (j3 K) (pv 1) jC) jD)))
   (v7 (j9 (PW.pt (tW (j8 uL (vA K T.xh (pv 2)) jC) (sY (j8 kO (jM xa hr rfl (jZ (pv 0) jC jC)) jC)))) (@kB _ _ _ (jP 4 zY.nd (jK (kI K) (pv 2) (jM xa hr rfl (jZ (pv 0) jC (vA K T.xh (pv 2))))))) kD)
   (v7 (j9 (j8 kO (jM xa hr rfl (jZ (pv 0) jC jC)) jC) (@kB _ _ _ (jP 4 zY.nd (pv 3))) kD)
   (v7 (j9 (j8 kO (jM xa hr rfl (jZ (pv 0) jC jC)) jC) (@kB _ _ _ (jP 5 zY.nd jS)) kD)
   (@jG _ _ _ _ _ (jP 7 zY.nd (jM xa hr rfl (jZ (pv 0) jC (vA K T.xh (pv 6)))))
   (v7 (j9 (j8 kO (jM xa hr rfl (jZ (pv 0) jC jC)) jC) (@kB _ _ _ (mG (kP (jB jS (jB (jK (j3 K) (jK (kI K) (pv 6) (pv 7)) jC) jD))) (mH (pv 6) (pv 7) ZE))) kD)
   (v7 (j9 (j8 kO (jM xa hr rfl (jZ (pv 0) jC jC)) jC) (@kB _ _ _ (mG (kP (jB (jK (j3 K) (jK (kI K) (pv 6) (pv 7)) jC) (jB (jK (kI K) (kL (jB jS (jB jS jD))) (qM dJ (by rfl) T.ve ec (jB (JL kO (jK (j3 K) (jK (kI K) (pv 6) (pv 7)) jC) jS) jD))) jD))) (mH (pv 6) (pv 7) ZE))) kD)
   (jQ (kP (yC jS (pv 4) (pv 5) (qM (JN K) (by rfl) T.xl ba (jB (pv 6) jD)))))))))))))))),?_⟩
 try dsimp only [jX,jW]
 obtain ⟨st,us,h1,h2,h3⟩:=id hco;have hus:=h3.1;refine (jA rfl (⟨s,ns,_,jA rfl (⟨hS,h63,by decide,by decide,by decide,fun d d0 d1=>⟨rfl,jA rfl (vE (fun _=>(jA rfl (q t e H (Same.refl _) hco hl1 rfl))) (fun _=>?_))⟩⟩)⟩));refine ⟨zz9,fun p0 hp0=>?_⟩;have u0:=jJ hp0 (.lst [V.str "",V.str "aaaaaaaaaaaaa",V.str "aB",V.str "a1",V.str "a b",V.str "a-",V.str " a",V.str "a ",V.str "A"]);refine (jA rfl (⟨s,ns,_,jA rfl (⟨u0.seq hS,h63,by decide,by decide,by decide,fun d d0 d1=>?_⟩)⟩));obtain ⟨bd,hbd,hat⟩:=tN ["","aaaaaaaaaaaaa","aB","a1","a b","a-"," a","a ","A"] d0 d1;have hbl:bd.length≤100:=(show ∀z∈(["","aaaaaaaaaaaaa","aB","a1","a b","a-"," a","a ","A"]:List Str),z.length≤100 by decide +kernel) bd hbd;refine (kR (so jE) hat (?_));clear hat hbd d0 d1;generalize upd H p0 (.lst [V.str "",V.str "aaaaaaaaaaaaa",V.str "aB",V.str "a1",V.str "a b",V.str "a-",V.str " a",V.str "a ",V.str "A"])=H1 at u0 ⊢;refine (jA rfl (j5 (SqT.of (u0 _ _ h1)) rfl ((jA rfl (j5 (SqT.of (u0 _ _ h1)) rfl ((jA rfl (j5 (SqT.of (u0 _ _ h1)) rfl (⟨st,us,rfl,.inr (SqT.of (u0 _ _ h2)),fun sl hsl0=>?_⟩)))))))));have u1:=u0.trans (jJ hsl0 (.lst us));have hsl:upd H1 sl (.lst us) sl=some (.lst us):=jE;have hA:=h3.mono (SAt.same u1);have fr:=u0.free hsl0;generalize upd H1 sl (.lst us)=H2 at u1 hsl hA ⊢;have hS2:=u1.seq hS;have htl2:=u1 _ _ htl;have hml:(zs.map V.str).length=zs.length:=ad _;refine ⟨fun σ Hj=>∃nm:Str,nm.length≤100∧σ=[some (.ref s),some (.ref t),some (.ref tl),some (.str bd),some (.str nm),some (.str e.start),some (.ref sl),none]∧H2=Hj,?_,?_⟩
 ·refine (jA rfl (⟨tl,jA rfl (⟨.inl (so htl2),_,_,rfl,rfl,jA rfl (vE (fun c=>?_) (fun c=>⟨e.name,hl1,rfl,rfl⟩))⟩)⟩));have c:=bo c;rw [hml] at c;refine (jA rfl (⟨s,ns,_,jA rfl (⟨hS2,h63,by decide,by decide,by decide,fun d d0 d1=>⟨rfl,jA rfl (vE (fun c2=>?_) (fun c2=>⟨e.name,hl1,rfl,rfl⟩))⟩⟩)⟩));refine (jA rfl (jA rfl (jA rfl (⟨tl,jA rfl (⟨.inl (so htl2),s,ns,_,jA rfl (⟨hS2,h63,by decide,by decide,by rw [hml];omega,fun d2 d20 d21=>?_⟩)⟩)⟩))));rw [hml] at d21;obtain ⟨z,hzm,hat⟩:=tN zs d20 d21;exact (kR (so htl2) hat (⟨z,hz z hzm,rfl,rfl⟩))
 rintro σ Hj ⟨nm,hnm,rfl,rfl⟩;refine ⟨fun σ Hj=>∃nm:Str,nm.length≤100∧σ=[some (.ref s),some (.ref t),some (.ref tl),some (.str bd),some (.str nm),some (.str e.start),some (.ref sl),none]∧H2=Hj,?_,?_⟩
 ·exact (jA rfl (⟨s,ns,_,jA rfl (⟨hS2,h63,by decide,by decide,by decide,fun d d0 d1=>⟨rfl,jA rfl (vE (fun c2=>(jA rfl (⟨bd,hbl,rfl,rfl⟩))) (fun c2=>⟨nm,hnm,rfl,rfl⟩))⟩⟩)⟩))
 clear hnm nm;rintro σ Hj ⟨nm,hnm,rfl,rfl⟩;refine ⟨fun σ Hj=>∃sn:Str,σ=[some (.ref s),some (.ref t),some (.ref tl),some (.str bd),some (.str nm),some (.str sn),some (.ref sl),none]∧H2=Hj,?_,?_⟩
 ·exact (jA rfl (⟨s,ns,_,jA rfl (⟨hS2,h63,by decide,by decide,by decide,fun d d0 d1=>⟨rfl,jA rfl (vE (fun c2=>⟨"xyz",rfl,rfl⟩) (fun c2=>⟨e.start,rfl,rfl⟩))⟩⟩)⟩))
 rintro σ Hj ⟨sn,rfl,rfl⟩;refine (jA rfl (jA rfl (⟨sl,jA rfl (⟨.inl (so hsl),s,ns,_,jA rfl (⟨hS2,h63,by decide,by decide,by omega,fun at0 at00 at01=>?_⟩)⟩)⟩)));obtain ⟨i,rfl⟩:∃i:Nat,at0=(i:Int):=⟨at0.toNat,by omega⟩;have hi:i<us.length:=by omega
 have set1:∀(G:Hp) (vs:List V) (ss:List (Str×Bool)) (t2:Addr) (q:Str×Bool),G sl=some (.lst vs)→AllAt (SAt G) vs ss→Same H G→G t2=none→upd (upd G t2 (.tup [.str q.1,.str (vX q.2)])) sl (.lst (vs.set i (.ref t2))) sl=some (.lst (vs.set i (.ref t2)))∧AllAt (SAt (upd (upd G t2 (.tup [.str q.1,.str (vX q.2)])) sl (.lst (vs.set i (.ref t2))))) (vs.set i (.ref t2)) (ss.set i q)∧Same H (upd (upd G t2 (.tup [.str q.1,.str (vX q.2)])) sl (.lst (vs.set i (.ref t2)))):=fun G vs ss t2 q hG hA' sG h2=>by
  have v2:=jJ h2 (.tup [.str q.1,.str (vX q.2)]);exact ⟨jE,(((hA'.mono (SAt.same v2)).setI i (v:=.ref t2) (p:=q) ⟨t2,rfl,jE⟩).mono (SAt.put (v2 _ _ hG))),qI fr (sG.trans v2)⟩
 refine ⟨fun σ Hj=>∃(vs:List V) (ss:List (Str×Bool)),ss.length=e.steps.length∧σ=[some (.ref s),some (.ref t),some (.ref tl),some (.str bd),some (.str nm),some (.str sn),some (.ref sl),some (.int (i:Int))]∧Hj sl=some (.lst vs)∧AllAt (SAt Hj) vs ss∧Same H Hj,?_,?_⟩
 ·refine (jA rfl (⟨s,ns,_,jA rfl (⟨hS2,h63,by decide,by decide,by decide,fun d d0 d1=>⟨rfl,jA rfl (vE (fun c2=>?_) (fun c2=>⟨us,e.steps,rfl,rfl,hsl,hA,u1⟩))⟩⟩)⟩));obtain ⟨v,hv⟩:∃v,us[i]?=some v:=⟨_,aa hi⟩;obtain ⟨p,hp,tp,rfl,htp⟩:=hA.2 i v hv;refine (jA rfl (jA rfl (kR (so hsl) (qN hv) (j5 (SqT.of htp) rfl (⟨zz2,fun t2 ht2=>?_⟩)))));have v2:=jJ ht2 (.tup [V.str "xyz",V.str (vX p.2)]);obtain ⟨g1,g2,g3⟩:=set1 H2 us e.steps t2 ("xyz",p.2) hsl hA u1 ht2;exact (jA rfl (jA rfl (⟨sl,us,_,i,rfl,rfl,v2 _ _ hsl,ZJ hi,_,_,by rw [aW],rfl,g1,g2,g3⟩)))
 rintro σ Hj ⟨vs,ss,hss,rfl,hvl,hB,sm⟩;have hS3:=sm.seq hS;have hi2:i<vs.length:=by rw [hB.1,hss,← hus];exact hi
 refine ⟨fun σ Hj=>∃(vs:List V) (ss:List (Str×Bool)),ss.length=e.steps.length∧σ=[some (.ref s),some (.ref t),some (.ref tl),some (.str bd),some (.str nm),some (.str sn),some (.ref sl),some (.int (i:Int))]∧Hj sl=some (.lst vs)∧AllAt (SAt Hj) vs ss∧Same H Hj,?_,?_⟩
 ·refine (jA rfl (⟨s,ns,_,jA rfl (⟨hS3,h63,by decide,by decide,by decide,fun d d0 d1=>⟨rfl,jA rfl (vE (fun c2=>?_) (fun c2=>⟨vs,ss,hss,rfl,hvl,hB,sm⟩))⟩⟩)⟩));obtain ⟨v,hv⟩:∃v,vs[i]?=some v:=⟨_,aa hi2⟩;obtain ⟨p,hp,tp,rfl,htp⟩:=hB.2 i v hv;refine (jA rfl (jA rfl (kR (so hvl) (qN hv) (j5 (SqT.of htp) rfl (⟨zz2,fun lp hlp=>?_⟩)))));have w1:=jJ hlp (.lst [V.str "up",V.str "down"]);refine (jA rfl (jA rfl (kR (so (w1 _ _ hvl)) (qN hv) (j5 (SqT.of (w1 _ _ htp)) rfl (⟨rfl,.inr (jA rfl (?_))⟩)))));refine ⟨lp,_,_,.str (vX !p.2),rfl,rfl,so jE,by cases p.2<;>rfl,zz2,fun t2 ht2=>?_⟩;have w2:=jJ ht2 (.tup [V.str p.1,V.str (vX !p.2)]);obtain ⟨g1,g2,g3⟩:=set1 _ vs ss t2 (p.1,!p.2) (w1 _ _ hvl) (hB.mono (SAt.same w1)) (sm.trans w1) ht2;exact (jA rfl (jA rfl (⟨sl,vs,_,i,rfl,rfl,w2 _ _ (w1 _ _ hvl),ZJ hi2,_,_,by rw [aW];exact hss,rfl,g1,g2,g3⟩)))
 clear hS3 hi2 hvl hB sm hss vs ss;rintro σ Hj ⟨vs,ss,hss,rfl,hvl,hB,sm⟩;refine (jA rfl (jA rfl (jA rfl (⟨sl,vs,rfl,.inl ⟨so hvl,fun s2 hs2=>?_⟩⟩))));have y1:=jJ hs2 (.tup vs);refine ⟨zz4,fun t4 ht4=>?_⟩;have y2:=jJ ht4 (.tup [V.str "come",V.str nm,V.str sn,V.ref s2]);exact q t4 ⟨nm,sn,ss⟩ _ ((sm.trans y1).trans y2) ⟨s2,vs,jE,y2 _ _ jE,hB.mono (SAt.same (y1.trans y2))⟩ hnm hss
theorem zW:jV 2 ["canal","entry","called","named","at","steps","step","k","ends"] Q5:=jU
include T in
theorem xL (F:kK K "_law_along" Q5 f fd) : FnOk P w K mg base jO 1 f fd ["canal","entry"] (lS (jH cP cB cU) cR cN):=by
 refine F.ok2 zW fun vs H Q E h=>?_
 refine QX h fun x t e D R L N h=>?_
 refine zA h fun e_ hc b1 b2 hco h100 q=>?_
 subst e_;refine ⟨rfl,fun _ _ _ _ hr=>?_⟩;refine ⟨_,(@jG _ _ _ _ _ (Z7 (i:=2) ["reach"] (vO 1 []) zW.nd rfl (.inl rfl) rfl (vP (jT Q5)) (cps 1 []) (yX (j7 K (pv 0) rfl)) (fun _ _ _ _ _=>(qD (i:=0) (show List.Nodup (["reach"]:List Str) from by decide +kernel) rfl (.inl rfl))) (fun _ _ _ _ _=>zU) (fun _ _ _ _ _=>(j7 K (pv 0) rfl)))
   (@jG _ _ _ _ _ (jP 3 zW.nd (QW ["lock"] [] (vP (jT Q5)) (yX (j7 K (pv 0) rfl)) (fun _ _ _ _ _=>(j7 K (pv 0) rfl))))
   (@jG _ _ _ _ _ (j9 (PW.pt (bN (j8 (oW K) (jK (j3 K) (pv 1) jC) (pv 2)) (mF (j8 uL (vA K T.xh (nS ["step","named"] [3] (vP (jT Q5)) (bK (jK (j3 K) (pv 1) jC)) (fun _ _ _ _ _=>(lU (j8 (oW K) (jK (j3 K) (pv 0) jC) (pv 1)))) (fun _ _ _ _ _=>(pv 0)))) jC)))) (jQ mI) kD)
   (@jG _ _ _ _ _ (jP 4 zW.nd (qP ak fh fi lL (pv 2) (jB (jK (j3 K) (pv 1) jC) jD)))
   (@jG _ _ _ _ _ (jP 5 zW.nd (kL jD))
   (@jG _ _ _ _ _ (zH bz rfl (bK (jK (j3 K) (pv 1) jC)) (qD (i:=6) zW.nd rfl (.inl rfl))
    (@jG _ _ _ _ _ (jP 7 zW.nd (qP ak fh fi lL (pv 3) (jB (jK (j3 K) (pv 6) jC) jD)))
   (@jG _ _ _ _ _ (jP 8 zW.nd (kL (jB (j7 K (jK (kI K) (j7 K (pv 0) rfl) (pv 7)) rfl) (jB (j7 K (jK (kI K) (j7 K (pv 0) rfl) (pv 7)) rfl) jD))))
   (@jG _ _ _ _ _ (j9 (j8 eO (pv 4) (jK (kI K) (pv 8) (qM dJ (by rfl) T.ve ec (jB (JL kO (jK (j3 K) (pv 6) jC) jS) jD)))) (jQ (kL jD)) kD)
   (@jG _ _ _ _ _ (jP 4 zW.nd (jK (kI K) (pv 8) (qM dJ (by rfl) T.ve ec (jB (JL kO (jK (j3 K) (pv 6) jC) jS) jD))))
   (@kB _ _ _ (qE (qP ak av aw vC (pv 5) (jB (kP (jB (pv 7) (jB (jK (j3 K) (pv 6) jC) jD))) jD)))))))))
   (jQ (kL (jB (qP ak fh fi lL (pv 2) (jB (jK (j3 K) (pv 1) jC) jD)) (jB (qM (JN K) (by rfl) T.xl ba (jB (pv 5) jD)) jD)))))))))),?_⟩
 try dsimp only [jX,jW]
 have q0:qK R L e=none→∀H',Same H H'→Q .non H':=fun h H' s=>q _ H' s (.inl ⟨h,rfl⟩)
 have q1:∀y,qK R L e=some y→¬vV L y.1 y.2→∀(l:Addr) (H':Hp),Same H H'→H' l=some (.lst [])→Q (.ref l) H':=fun y h1 h2 l H' s h3=>q _ H' s (.inr (.inl ⟨y,l,h1,h2,rfl,h3⟩))
 have q2:∀y,qK R L e=some y→vV L y.1 y.2→∀(l st:Addr) (us:List V) (H':Hp),Same H H'→H' l=some (.lst [.int y.1,.ref st])→H' st=some (.tup us)→AllAt (PAt H') us y.2→Q (.ref l) H':=fun y h1 h2 l st us H' s h3 h4 h5=>q _ H' s (.inr (.inr ⟨y,l,st,us,h1,h2,rfl,h3,h4,h5⟩))
 obtain ⟨dx,rl,ll,nl,fs,rs,ls,nv,hx,hf,hrl,hll,hnl,hR,hL,hN,d1,d2,d3⟩:=hc;obtain ⟨st,us,h1,h2,h3⟩:=id hco;have hus:=h3.1;refine (jA rfl (kC hx (T.clN) (T.xf) (hf.1) (⟨rl,rfl,⟨_,so hrl⟩,fun cl hcl0=>?_⟩)));refine zT (K:=K) (a:=rl) (xs:=rs) (caps:=[]) (fun i ys Hi=>ys=((R.take i).map (·.name)).map V.str) hcl0 (so hrl) rfl ?_ ?_
 ·rintro i v ys Hi hv hi hle sm hY rfl;obtain ⟨r,hr,y,rfl,dy,gs,hy,hg⟩:=hR.2 i v hv;have hi100:i<100:=by rw [hR.1] at hi;omega
  refine yI (qL (jA rfl (⟨y,cR,dy,gs,jA rfl (⟨sm _ _ hy,T.clR,T.xy,hg.1,vZ hcl0 sm hY hle (by omega) (Same.refl _) ?_⟩)⟩)));rw [aN,hr,aL,aL];rfl
 rintro ys H1 s1 hcl hlecl rfl;rw [hR.1,aV] at hcl;refine (jA rfl (kC ((s1 _ _ hx)) (T.clN) (T.xc) (hf.2.1) (⟨ll,rfl,⟨_,so (s1 _ _ hll)⟩,fun na hna0=>?_⟩)));refine zT (K:=K) (a:=ll) (xs:=ls) (caps:=[]) (fun i ys Hi=>ys=((L.take i).map (·.name)).map V.str) hna0 (so (s1 _ _ hll)) rfl ?_ ?_
 ·rintro i v ys Hi hv hi hle sm hY rfl;obtain ⟨r,hr,y,rfl,dy,hy⟩:=hL.2 i v hv;have hi100:i<100:=by rw [hL.1] at hi;omega
  refine yI (qL (jA rfl (kC ((sm _ _ (s1 _ _ hy))) (T.cl r.kd) (T.wd r.kd) (dU r.kd _ _ _ _ _) (vZ hna0 sm hY hle (by omega) (Same.refl _) ?_))));rw [aN,hr,aL,aL];rfl
 rintro ys H2 s2 hna hlena rfl;rw [hL.1,aV] at hna;have s12:=s1.trans s2
 replace hcl:=s2 _ _ hcl
 replace h1:=s12 _ _ h1
 replace h2:=s12 _ _ h2
 replace h3:=h3.mono (SAt.same s12)
 have hx2:=s12 _ _ hx;have hll2:=s12 _ _ hll;have hL2:=hL.mono (LkO.same s12);have noS:(R.map (·.name)).length=R.length:=ad _;have noL:(L.map (·.name)).length=L.length:=ad _;generalize hRN:R.map (·.name)=RN at hcl noS;generalize hLN:L.map (·.name)=LN at hna noL;refine (jA rfl (j5 (SqT.of h1) rfl ((jA rfl (⟨cl,jA rfl (⟨.inl (so hcl),rfl,QH _,jA rfl (?_)⟩)⟩)))));show if (!zC (V.str e.start) (RN.map V.str))=true then _ else _
 by_cases hs:e.start∈RN
 case neg =>
  rw [cg.mpr fun h=>hs (mem_inV.mp h)];refine qL (q0 ?_ H2 s12);unfold qK;rw [hRN,bC (fun i hi=>hs (aP hi))]
 rw [mem_inV.mpr hs];refine qH (jA rfl (j5 (SqT.of h1) rfl (⟨st,rfl,⟨_,SqT.of h2⟩,fun bt hbt=>?_⟩)));refine rF (K:=K) (a:=st) (xs:=us) (caps:=[some (.ref na)]) (fun i zs Hi=>zs=[]↔∀p∈e.steps.take i,p.1∈LN) hbt h2 ⟨fun _=>fun p hp=>(nomatch (show p∈([]:List (Str×Bool)) from hp)),fun _=>rfl⟩ ?_ ?_
 ·rintro i v zs Hi hv hi hle sm hY hI;obtain ⟨p,hp,tp,rfl,htp⟩:=h3.2 i v hv;have tk:∀{P:Str×Bool→Prop},(∀z∈e.steps.take (i+1),P z)↔((∀z∈e.steps.take i,P z)∧P p):=fun {P}=>by
   rw [aN,hp];simp only [bc,Option.mem_toList,Option.some.injEq];exact ⟨fun h=>⟨fun z hz=>h z (.inl hz),h p (.inr rfl)⟩,fun h z hz=>hz.elim (h.1 z) fun e=>by rw [← e];exact h.2⟩
  refine (jA rfl (j5 (SqT.of (sm _ _ htp)) rfl ((jA rfl (⟨na,jA rfl (⟨.inl (so (sm _ _ hna)),rfl,QH _,jA rfl (?_)⟩)⟩)))));show if (!zC (V.str p.1) (LN.map V.str))=true then _ else _
  by_cases hpn:p.1∈LN
  ·rw [mem_inV.mpr hpn];refine qH (lF sm hY hle (Same.refl _) ?_);rw [hI,tk];exact ⟨fun h=>⟨h,hpn⟩,fun h=>h.1⟩
  ·rw [cg.mpr fun h=>hpn (mem_inV.mp h)];refine qL (jA rfl (vZ hbt sm hY hle (by omega) (Same.refl _) ?_));rw [tk];exact ⟨fun h=>absurd h (by simp),fun h=>absurd h.2 hpn⟩
 rintro zs Hg sg hbg hleg hI;rw [hus,aV] at hI;have sH:=s12.trans sg
 replace h1:=sg _ _ h1
 replace h2:=sg _ _ h2
 replace h3:=h3.mono (SAt.same sg)
 replace hx2:=sg _ _ hx2
 replace hll2:=sg _ _ hll2
 replace hL2:=hL2.mono (LkO.same sg)
 replace hcl:=sg _ _ hcl
 replace hna:=sg _ _ hna
 refine ⟨bt,zs,rfl,.inl (so hbg),_,_,rfl,rfl,jA rfl (?_)⟩
 by_cases hz:zs=[]
 case neg =>
  refine qQ (by cases zs with|nil=>exact absurd rfl hz|cons a b=>simp) (q0 ?_ Hg sH);have:¬∀p∈e.steps,p.1∈LN:=fun h=>hz (hI.mpr h)
  simp only [Classical.not_forall] at this;obtain ⟨p,hp,hn⟩:=this;unfold qK;cases kS (R.map (·.name)) e.start with
  |none=>rfl
  |some a=>show (qX (L.map (·.name)) e.steps).map _=none;rw [hLN,i0 (bC (fun i hi=>hn (aP hi))) hp];rfl
 obtain ⟨ps,hps⟩:=o9 (hI.mp hz);subst hz;obtain ⟨a,ha⟩:∃a,FirstAt RN e.start a:=(sC RN e.start).resolve_right fun h=>by obtain ⟨i,hi⟩:=dw.mp hs;exact h i hi
 have hway:qK R L e=some ((a:Int),ps):=by
  unfold qK;rw [hRN,hLN,dG ha];show (qX LN e.steps).map _=_;rw [hps];rfl
 obtain ⟨hpl,hplt⟩:=ZD hps;obtain ⟨f1,f2,f3⟩:=pZ ha;rw [ad] at f1;refine q8 (by simp) (jA rfl (⟨.inl ⟨rfl,_,so hcl⟩,jA rfl (j5 (SqT.of h1) rfl (⟨cl,_,_,a,rfl,rfl,hcl,rfl,QH _,by rw [ad];exact f1,by omega,f2,f3,?_⟩))⟩));refine ⟨aG _,fun sp hsp0=>?_⟩;have hfr:=sH.free hsp0;have w0:=jJ hsp0 (.lst []);refine (jA rfl (j5 (SqT.of (w0 _ _ h1)) rfl (⟨st,rfl,⟨_,SqT.of (w0 _ _ h2)⟩,tI (K:=K) (a:=st) (xs:=us) (fun i σ Hi=>∃(at₀:Int) (c6 c7 c8:Option V) (vs:List V),σ=[some (.ref x),some (.ref t),some (.ref cl),some (.ref na),some (.int at₀),some (.ref sp),c6,c7,c8]∧(qC L a (ps.take i))[i]?=some at₀∧vV L a (ps.take i)∧Hi sp=some (.lst vs)∧AllAt (PAt Hi) vs (ps.take i)∧Same Hg Hi) ⟨a,none,none,none,[],rfl,rfl,(fun j p hp=>by cases hp),jE,AllAt.nil,w0⟩ (fun i σ Hi _ ⟨_,_,_,_,_,_,_,_,_,_,s⟩=>SqT.of (s _ _ h2)) ?_ ?_⟩)))
 ·rintro i v σ Hi hv ⟨at₀,c6,c7,c8,vs,rfl,hat,hok,hvl,hA,sm⟩;obtain ⟨p,hp,tp,rfl,htp⟩:=h3.2 i v hv;obtain ⟨k,hk,hpi⟩:=pR hps i p hp;obtain ⟨g1,g2,g3⟩:=pZ (Z8 hk);rw [ad] at g1;have hil:i<ps.length:=(ag.mp hpi).1;obtain ⟨l,hl⟩:∃l,L[k]?=some l:=⟨_,aa (by omega)⟩;obtain ⟨wv,hw,yl,rfl,dl,hyl⟩:=hL2.get hl;have hna':=sm _ _ hna;have htp':=sm _ _ htp;refine (jA rfl (⟨.inl ⟨rfl,_,so hna'⟩,jA rfl (j5 (SqT.of htp') rfl (⟨na,_,_,k,rfl,rfl,hna',rfl,QH _,by rw [ad];exact g1,by omega,g2,g3,?_⟩))⟩));refine (jA rfl (kC ((sm _ _ hx2)) (T.clN) (T.xc) (hf.2.1) ((jA rfl (kR (so (sm _ _ hll2)) (qN hw) (kC ((sm _ _ hyl)) (T.cl l.kd) (T.vv l.kd) (ZP l.kd _ _ _ _ _) ((jA rfl (kC ((sm _ _ hx2)) (T.clN) (T.xc) (hf.2.1) ((jA rfl (kR (so (sm _ _ hll2)) (qN hw) (kC ((sm _ _ hyl)) (T.cl l.kd) (T.zr l.kd) (ZK l.kd _ _ _ _ _) (⟨zz2,fun en hen=>?_⟩))))))))))))));have w1:=jJ hen (.lst [V.int l.low,V.int l.high]);have hE1:(vB L (k,p.2)).1=if p.2=true then l.low else l.high:=by cases p.2 with|true=>rw [JD hl];rfl|false=>rw [JA hl];rfl
  have hE2:(vB L (k,p.2)).2=if p.2=true then l.high else l.low:=by cases p.2 with|true=>rw [JD hl];rfl|false=>rw [JA hl];rfl
  refine (jA rfl (jA rfl (jA rfl (j5 (SqT.of (w1 _ _ htp')) rfl (⟨rfl,.inr (jA rfl (⟨en,_,_,.int (vB L (k,p.2)).1,rfl,rfl,so jE,?_,rfl,jA rfl (?_)⟩))⟩)))))
  ·rw [hE1];cases p.2<;>rfl
  by_cases hne:at₀=(vB L (k,p.2)).1
  case neg =>
   refine eS (fun z=>hne (V.int.inj z)) ⟨aG _,fun r hr=>q1 _ hway (fun ok=>hne ?_) r _ ((sH.trans sm).trans (w1.trans (jJ hr _))) jE⟩;have:=ok i _ hpi;rw [show (qC L a ps)[i]?=_ from tJ (by omega)] at this;exact az (hat.symm.trans this)
  rw [aO (bw V.int hne)];refine qH (jA rfl (jA rfl (j5 (SqT.of (w1 _ _ htp')) rfl (⟨rfl,.inr (jA rfl (⟨en,_,_,.int (vB L (k,p.2)).2,rfl,rfl,so jE,?_,?_⟩))⟩))))
  ·rw [hE2];cases p.2<;>rfl
  refine (jA rfl (⟨.inl ⟨rfl,_,so (w1 _ _ hvl)⟩,jA rfl (jA rfl (j5 (SqT.of (w1 _ _ htp')) rfl (⟨zz2,fun t3 ht3=>?_⟩)))⟩));have w2:=w1.trans (jJ ht3 (.tup [V.int (k:Int),V.str (vX p.2)]));have htk:ps.take (i+1)=ps.take i++[(k,p.2)]:=by rw [aN,hpi];rfl
  have hlt:(ps.take i).length=i:=by rw [cu];omega
  have hvle:vs.length≤100:=by rw [hA.1,hlt];omega
  refine ⟨sp,_,_,rfl,rfl,w2 _ _ hvl,vL (by omega),_,_,_,_,jA rfl (⟨?_,?_,jE,?_,qI hsp0 (sm.trans w2)⟩)⟩
  ·rw [htk,dH,aE (by rw [QK,hlt];exact ai _),QK,hlt,fu];rfl
  ·rw [htk];exact (rY (by rw [hlt];exact hat)).mpr ⟨hok,hne.symm⟩
  ·rw [htk];exact ((hA.mono (PAt.same w2)).snoc (v:=.ref t3) (x:=(k,p.2)) ⟨t3,rfl,jE⟩).mono (PAt.put (w2 _ _ hvl))
 rintro σ Hf ⟨at₀,c6,c7,c8,vs,rfl,hat,hok,hvl,hA,sm⟩;rw [hus,← hpl,aV] at hok hA;refine (jA rfl (⟨.inl ⟨rfl,_,so (sm _ _ hcl)⟩,jA rfl (j5 (SqT.of (sm _ _ h1)) rfl (⟨cl,_,_,a,rfl,rfl,sm _ _ hcl,rfl,QH _,by rw [ad];exact f1,by omega,f2,f3,?_⟩))⟩));refine (jA rfl (⟨sp,vs,rfl,.inl ⟨so hvl,fun s2 hs2=>?_⟩⟩));have y1:=jJ hs2 (.tup vs);refine ⟨zz2,fun r hr=>?_⟩;have y2:=jJ hr (.lst [V.int (a:Int),V.ref s2]);exact q2 _ hway hok r s2 vs _ ((sH.trans sm).trans (y1.trans y2)) jE (y2 _ _ jE) (hA.mono (PAt.same (y1.trans y2)))
theorem Z3:jV 4 ["canal","names","starts","entry","good","sign","along"] cG:=jU
include T in
theorem xQ (F:kK K "_law_due" cG f fd) (zn:Def P w K mg base 1 "_law_along" ["canal","entry"] [] (lS (jH cP cB cU) cR cN)):FnOk P w K mg base jO 2 f fd ["canal","names","starts","entry"] (sT (jH cP cB cU) cR cN):=by
 refine F.ok2 Z3 fun vs H Q E h=>?_
 refine IR h fun x nl sl t e zs ys D R L N h=>?_
 refine uQ h fun e_ hc b1 b2 hco hl1 hl2 hnl hz9 hsl hyl q=>?_
 subst e_;refine ⟨rfl,fun _ _ _ _ hr=>?_⟩;have hu:_<cLine:=hr.units0;refine ⟨_,(@jG _ _ _ _ _ (jP 4 Z3.nd (rX bO bO jC (yW oY (by rfl) T.xh PySem.boot_len (jB (jK (j3 K) (pv 3) jC) jD)) jC))
   (@jG _ _ _ _ _ (zH bz rfl (tX (jK (j3 K) (pv 3) jC)) (qD (i:=5) Z3.nd rfl (.inl rfl))
    (@kB _ _ _ (jP 4 Z3.nd (tZ (pv 4) (tY (JL pW (pv 5) jS))))))
   (@jG _ _ _ _ _ (jP 6 Z3.nd (jM zn hr rfl (jB (pv 0) (jB (pv 3) jD))))
   (@jG _ _ _ _ _ (j9 (ZL (yO (pv 4))) (jQ (kP (jB jS (jB (kL (jB jS jD)) jD)))) kD)
   (@jG _ _ _ _ _ (j9 (j8 (pC K) (jK (j3 K) (pv 3) jC) (pv 1)) (jQ (kP (jB jS (jB (kL (jB jS jD)) jD)))) kD)
   (@jG _ _ _ _ _ (j9 (j8 kO (vA K T.xh (pv 1)) jC) (jQ (kP (jB jS (jB (kL (jB jS jD)) jD)))) kD)
   (@jG _ _ _ _ _ (j9 (j8 t7 (pv 6) mI) (jQ (kP (jB jS (jB (kL (jB jS jD)) jD)))) kD)
   (@jG _ _ _ _ _ (j9 (j8 (G5 hu) (pv 6) (kL jD)) (jQ (kP (jB jS (jB (kL (jB jS jD)) jD)))) kD)
   (@jG _ _ _ _ _ (j9 (j8 mU (vA K T.xh (nS ["at","along"] [6] (vP (jT cG)) (yX (pv 2)) (fun _ _ _ _ _=>(lU (j8 kO (pv 0) (jK (kI K) (pv 1) jC)))) (fun _ _ _ _ _=>(pv 0)))) (j7 K (jK (kI K) (j7 K (pv 0) rfl) (jK (kI K) (pv 6) jC)) rfl)) (jQ (kP (jB jS (jB jS jD)))) kD)
   (jQ (kP (jB jS (jB jS jD))))))))))))),?_⟩
 try dsimp only [jX,jW]
 have hc0:=hc;obtain ⟨dx,rl,ll,nl₀,fs,rs,ls,nv,hx,hf,hrl,hll,hnl₀₀,hR,hL,hN,d1,d2,d3⟩:=hc;obtain ⟨st,us,h1,h2,h3⟩:=id hco;refine (jA rfl (j5 (SqT.of h1) rfl (⟨e.name,rfl,aR hl1 (by decide),?_⟩)));refine DZ (Q:=fun v H'=>zN 4 v _ H' _) ?_;refine (jA rfl (j5 (SqT.of h1) rfl (⟨e.name,rfl,GL (z:=e.name) (fun i σ Hi=>∃c5,σ=[some (.ref x),some (.ref nl),some (.ref sl),some (.ref t),some (.bl (decide (0<e.name.length)&&decide (e.name.length<13)&&J3 vW e.name i)),c5,none]∧H=Hi) ⟨none,by rw [show J3 vW e.name 0=true from rfl,ge];rfl,rfl⟩ ?_ ?_⟩)))
 ·rintro i c σ Hi hc ⟨c5,rfl,rfl⟩;rw [rL hc,← Bool.and_assoc];generalize (decide (0<e.name.length)&&decide (e.name.length<13)&&J3 vW e.name i)=g;refine (jA rfl (jA rfl (?_)));cases g with
  |false=>exact qH ⟨_,rfl,rfl⟩
  |true=>exact qL (jA rfl (⟨(⟨#[c]⟩:Str),vW,rfl,rfl,_,rfl,rfl⟩))
 rintro σ Hi ⟨c5,rfl,rfl⟩;refine (jA rfl (jA rfl ((bV x t e D R L N (vY rfl hc0 b1 b2 hco hl2 (fun v H1 s1 hal=>?_))))));have ref:∀(n:Nat) (w:Str) (G:Hp),1≤n→n≤6→zR n=w→vN R L zs ys e=n→Same H G→(1≤sizeLine∧∀l,G l=none→(2≤sizeLine∧∀r,upd G l (.lst [V.str w]) r=none→Q (.ref r) (upd (upd G l (.lst [V.str w])) r (.tup [V.str "refused",V.ref l])))):=fun n w G n1 n6 hw hn sG=>⟨by decide,fun l hl=>⟨by decide,fun r hr=>by
  subst hw;have u:=jJ hl (.lst [V.str (zR n)]);have v:=jJ hr (.tup [V.str "refused",V.ref l]);exact q r _ ((sG.trans u).trans v) (.inr (.inr (by rw [hn];exact ⟨n1,n6,l,jE,v _ _ jE⟩)))⟩⟩
 have h1':=s1 _ _ h1;refine (jA rfl (jA rfl (?_)));show if (!yJ vW e.name)=true then _ else _
 cases hg:yJ vW e.name with
 |false=>exact qL (ref 1 _ H1 (by decide) (by decide) rfl (by unfold vN kH;rw [if_neg (by rw [if_pos hg];decide),if_pos hg]) s1)
 |true =>
  have hg':¬yJ vW e.name=false:=by rw [hg];decide
  refine qH (jA rfl (j5 (SqT.of h1') rfl ((jA rfl (⟨nl,jA rfl (⟨.inl (so (s1 _ _ hnl)),rfl,QH _,jA rfl (?_)⟩)⟩)))));show if zC (V.str e.name) (zs.map V.str)=true then _ else _
  by_cases hz:e.name∈zs
  ·rw [mem_inV.mpr hz];exact qL (ref 2 _ H1 (by decide) (by decide) rfl (by unfold vN kH;rw [if_neg (by rw [if_neg hg',if_pos hz];decide),if_neg hg',if_pos hz]) s1)
  rw [cg.mpr fun h=>hz (mem_inV.mp h)];refine qH (jA rfl (⟨nl,jA rfl (⟨.inl (so (s1 _ _ hnl)),rfl,jA rfl (?_)⟩)⟩));rw [ad]
  by_cases h9:zs.length=9
  ·exact qQ (by rw [h9];rfl) (ref 3 _ H1 (by decide) (by decide) rfl (by unfold vN kH;rw [if_neg (by rw [if_neg hg',if_neg hz,if_pos (by omega)];decide),if_neg hg',if_neg hz,if_pos (by omega)]) s1)
  have n9:¬9≤zs.length:=by omega
  refine q8 (fun z=>h9 (by have:=V.int.inj z;omega)) ⟨_,rfl,rfl,jA rfl (?_)⟩
  rcases hal with ⟨hn,rfl⟩|⟨y,l,hy,hnok,rfl,hl⟩|⟨y,l,st2,yL,hy,hok,rfl,hl,_,_⟩
  ·have c4:kH R L zs e=4:=by unfold kH;rw [if_neg hg',if_neg hz,if_neg n9,hn]
   exact qQ rfl (ref 4 _ H1 (by decide) (by decide) rfl (by unfold vN;rw [if_neg (by rw [c4];decide),c4]) s1)
  ·have c5:kH R L zs e=5:=by unfold kH;rw [if_neg hg',if_neg hz,if_neg n9,hy];exact if_neg hnok
   refine q8 (fun z=>nomatch z) (jA rfl (⟨aG _,fun p hp=>?_⟩));have u:=jJ hp (.lst []);exact ⟨l,p,[],rfl,rfl,so (u _ _ hl),so jE,jA rfl (qL (ref 5 _ _ (by decide) (by decide) rfl (by unfold vN;rw [if_neg (by rw [c5];decide),c5]) (s1.trans u)))⟩
  have c0:kH R L zs e=0:=by unfold kH;rw [if_neg hg',if_neg hz,if_neg n9,hy];exact if_pos hok
  obtain ⟨a,ha,hfa,haR,_,_⟩:=i5 hy;obtain ⟨rc,hrc⟩:∃r,R[a]?=some r:=⟨_,aa haR⟩;obtain ⟨wv,hwv,xr,rfl,dr,gr,hxr,hgr⟩:=hR.get hrc;refine q8 (fun z=>nomatch z) (jA rfl (⟨aG _,fun p hp=>?_⟩));have u:=jJ hp (.lst []);have s2:=s1.trans u;have hl2':=u _ _ hl;refine ⟨l,p,_,rfl,rfl,so hl2',so jE,jA rfl (qH ?_)⟩;generalize upd H1 p (.lst [])=H2 at u s2 hl2' ⊢;refine (jA rfl (⟨sl,rfl,⟨_,so (s2 _ _ hsl)⟩,fun bt hbt=>?_⟩));refine zT (K:=K) (a:=sl) (xs:=ys.map fun y=>V.int y.1) (caps:=[some (.ref l)]) (fun i ws Hi=>ws.length=(ys.take i).countP fun w=>decide (w.1=y.1)) hbt (so (s2 _ _ hsl)) rfl ?_ ?_
  ·rintro i v ws Hi hv hi hle sm hY hI;rw [ax] at hv;obtain ⟨y2,hy2,rfl⟩:=bb.mp hv;have hi100:i<100:=by rw [ad] at hi;omega
   have tk:(ys.take (i+1)).countP (fun w=>decide (w.1=y.1))=(ys.take i).countP (fun w=>decide (w.1=y.1))+if decide (y2.1=y.1)=true then 1 else 0:=by
    rw [aN,hy2,countP_append];show _+List.countP _ [y2]=_;rw [countP_singleton]
   refine (jA rfl (jA rfl (kR (so (sm _ _ hl2')) rfl (⟨rfl,jA rfl (?_)⟩))))
   by_cases hc:y2.1=y.1
   ·refine qQ (bw V.int hc) (jA rfl (vZ hbt sm hY hle (by omega) (Same.refl _) ?_));rw [tk,if_pos (aO hc),aj,hI];rfl
   ·refine q8 (fun z=>hc (V.int.inj z)) (lF sm hY hle (Same.refl _) ?_);rw [tk,if_neg (by simp [hc]),hI];rfl
  rintro ws Hg sg hbg hleg hI;rw [ad,aV] at hI;have s3:=s2.trans sg;refine ⟨bt,ws,rfl,.inl (so hbg),jA rfl (kC ((s3 _ _ hx)) (T.clN) (T.xf) (hf.1) ((jA rfl (kR (so (sg _ _ hl2')) rfl (⟨rl,_,_,jA rfl (⟨by rw [ha],so (s3 _ _ hrl),qN hwv,kC (s3 _ _ hxr) (T.clR) (T.xp) (hgr.2.2.2.1) (j6 ((jA rfl (?_))))⟩)⟩)))))⟩;have hb2:yQ R L ys e=decide (rc.berths≤((ws.length:Nat):Int)):=by
   unfold yQ;rw [hy];show decide (bU R y.1≤(QM ys y.1:Int))=_;unfold QM bU;rw [← hI,ha,aD,hrc];rfl
  have hfc:vN R L zs ys e=if yQ R L ys e=true then 7 else 0:=by unfold vN;rw [if_pos c0]
  rw [hfc,hb2] at q;cases hd:decide (rc.berths≤((ws.length:Nat):Int)) with
  |true =>
   rw [hd] at q;exact qL ⟨by show 2≤sizeLine;decide,fun r hr=>q r _ (s3.trans (jJ hr _)) (.inr (.inl ⟨rfl,jE⟩))⟩
  |false =>
   rw [hd] at q;exact qH ⟨by show 2≤sizeLine;decide,fun r hr=>q r _ (s3.trans (jJ hr _)) (.inl ⟨rfl,jE⟩)⟩
theorem BS:jV 4 ["book","canal","names","ways"] cI:=jU
include T in
theorem xX (F:kK K "_law_stands" cI f fd) (vn:MeD P w K mg base 1 cO "gatework" ["self"] (q9 (jH cP cB cU) cR cN cO (eR))) (ua:MeD P w K mg base 1 cO "ledger" ["self"] (q9 (jH cP cB cU) cR cN cO (eR))) (xu:MeD P w K mg base 1 cO "ways" ["self"] (q9 (jH cP cB cU) cR cN cO (eQ))) (xw:MeD P w K mg base 1 cO "names" ["self"] (q9 (jH cP cB cU) cR cN cO (mK))) (xn:MeD P w K mg base 1 cO "state" ["self"] (q9 (jH cP cB cU) cR cN cO (eD))) (zd:MeD P w K mg base 5 cN "start" ["self"] (lI (jH cP cB cU) cR cN)):FnOk P w K mg base jO 6 f fd ["book","canal","names","ways"] (pB (jH cP cB cU) cR cN cO):=by
 refine F.ok2 BS fun vs H Q E h=>?_
 refine IQ h fun b x na wa us gs R L N ms zs ys h=>?_
 refine eZ h fun e_ hq hna hwa hA hms hSp hT q=>?_
 subst e_;refine ⟨rfl,fun _ _ _ _ hr=>?_⟩;have hu:_<cLine:=hr.units0;have hu1:=uP hr;have hu9:=HJ hr;have hu10:=GG hr;refine ⟨_,(@jG _ _ _ _ _ (j9 (PW.pt (bN (j8 (mJ hu) (qO xw hr (pv 0)) (pv 2)) (bN (j8 (G4 hu10) (qO xu hr (pv 0)) (pv 3)) (bN (j8 (mJ hu) (qO ua hr (pv 0)) (kL jD)) (mF (j8 (mJ hu) (qO vn hr (pv 0)) (kL jD))))))) (jQ ZS) kD)
   (jQ (JL (FV hu1) (qO xn hr (pv 0)) (kP (jZ jC (qO zd hr (pv 1)) (qM (JN K) (by rfl) T.xl ba (jB (QW ["way"] [] (vP (jT cI)) (yX (pv 3)) (fun _ _ _ _ _=>jC)) jD))))))),?_⟩
 try dsimp only [jX,jW]
 obtain ⟨db,fs,hb,hno⟩:=hq.ins;have r8:=hq.r8;have l8:=hq.l8;have n9:=hq.n9;have hul:=hA.1;refine (jA rfl (⟨b,db,jA rfl (⟨hb,hno _ (by decide +kernel),vF b x R L N ms zs ys (qS rfl hq (fun l1 H1 s1 hl10 hl1=>(jA rfl (⟨l1,na,_,rfl,rfl,so hl1,so (s1 _ _ hna),CV _,jA rfl (qH ?_)⟩))))⟩)⟩));refine (jA rfl (⟨b,db,jA rfl (⟨(s1 _ _ hb),hno _ (by decide +kernel),vF b x R L N ms zs ys (qS rfl (hq.same s1) (fun l2 yL H2 s2 hl20 hl2 hA2=>(jA rfl (⟨l2,wa,yL,us,rfl,rfl,so hl2,so (s2 _ _ (s1 _ _ hwa)),by rw [hA2.1,hul],fun j hj=>?_,jA rfl (qH ?_)⟩))))⟩)⟩))
 ·refine ⟨mZ (ys.getD j (0,[])),?_,?_,GI _⟩
  all_goals
   apply FF;have hj':j<ys.length:=by rw [← hA2.1];exact hj
   rw [af,af,aa (by omega),aa hj']
  ·obtain ⟨y,hy,p⟩:=hA2.2 j _ (aa hj);rw [aa hj'] at hy;cases hy;exact p
  ·obtain ⟨y,hy,p⟩:=hA.2 j _ (aa (by omega));rw [aa hj'] at hy;cases hy;exact WyAt.same (s1.trans s2) _ _ p
 have s12:=s1.trans s2;refine (jA rfl (⟨b,db,jA rfl (⟨(s12 _ _ hb),hno _ (by decide +kernel),vF b x R L N ms zs ys (qS rfl (hq.same s12) (fun l3 H3 s3 hl30 hl3=>⟨aG _,fun p3 hp3=>⟨l3,p3,[],rfl,rfl,so ((jJ hp3 _) _ _ hl3),so jE,rfl,jA rfl (qH ?_)⟩⟩))⟩)⟩));have s13:=(s12.trans s3).trans (jJ hp3 (.lst []));refine (jA rfl (⟨b,db,jA rfl (⟨(s13 _ _ hb),hno _ (by decide +kernel),vF b x R L N ms zs ys (qS rfl (hq.same s13) (fun l4 H4 s4 hl40 hl4=>⟨aG _,fun p4 hp4=>⟨l4,p4,[],rfl,rfl,so ((jJ hp4 _) _ _ hl4),so jE,rfl,jA rfl (qH ?_)⟩⟩))⟩)⟩));have s14:=(s13.trans s4).trans (jJ hp4 (.lst []));generalize upd H4 p4 (.lst [])=H5 at s14 ⊢;refine (jA rfl (⟨b,db,jA rfl (⟨(s14 _ _ hb),hno _ (by decide +kernel),vF b x R L N ms zs ys (qS rfl (hq.same s14) (fun st hst=>?_))⟩)⟩));obtain ⟨wt,pt,g1,g2,g3⟩:=hst;obtain ⟨nl,pl,ql,el,hB⟩:=(hq.same s14).ex;obtain ⟨_,wl,st₀,fs₀,_,_,_,hr⟩:=hB.ob;have hcn:=hr.cn.same (vT _ _);obtain ⟨dx,rl,ll,nn,gx,rs,ls,nv,hx,hf,hrl,hll,hnl,hR,hL,hN,e1,e2,e3⟩:=id hcn;refine (jA rfl (⟨x,dx,jA rfl (⟨hx,hf.no (by decide +kernel) (by decide +kernel) (by decide +kernel),zD x ([]) R L N (yD rfl hcn (by omega) (by omega) hT (fun w2 H6 gs2 s6 hw20 hw2 hSp2=>?_))⟩)⟩));have eg:=Spl.unique (rM (oX (m:=L.length) hT)) hSp hSp2;subst eg;rw [← hms] at hw2;have s16:=s14.trans s6;refine (jA rfl (⟨wa,rfl,⟨_,so (s16 _ _ hwa)⟩,fun bt hbt=>?_⟩));refine zT (K:=K) (a:=wa) (xs:=us) (caps:=[]) (fun i vs _=>vs=List.replicate i (V.int 0)) hbt (so (s16 _ _ hwa)) rfl ?_ ?_
 ·rintro i v vs Hi hv hi hle sm hY rfl;refine yI (qL (vZ hbt sm hY hle (by omega) (Same.refl _) ?_));exact replicate_succ'.symm
 rintro vs Hg sg hbg hleg rfl;refine ⟨bt,jA rfl (.inl ⟨so hbg,fun t2 ht2=>?_⟩)⟩;have y1:=jJ ht2 (.tup (List.replicate us.length (V.int 0)));refine ⟨zz3,fun t3 ht3=>?_⟩;have y2:=jJ ht3 (.tup [V.int 0,V.ref w2,V.ref t2]);have y:=(s6.trans sg).trans (y1.trans y2);have f3:=y _ _ g3;rw [map_replicate,← hul] at f3;have F0:=y _ _ g1;refine ⟨st,t3,_,_,[true,true,true],rfl,rfl,SqT.of F0,SqT.of jE,rfl,rfl,fun j hj=>?_,q _ ((s14.trans y))⟩
 match j,hj with
 |0,_=>exact E9 0
 |1,_=>exact sI (pF ms) (y _ _ g2) ((sg.trans (y1.trans y2)) _ _ hw2)
 |2,_=>exact sI (by rw [all_replicate];simp [qG]) f3 (y2 _ _ jE)
theorem iM:jV 5 ["book","canal","entry","names","ways","due"] cH:=jU
include T in
theorem xT (F:kK K "_law_one" cH f fd) (xag:Def P w K mg base 2 "_law_due" ["canal","names","starts","entry"] [] (sT (jH cP cB cU) cR cN)) (zo:Def P w K mg base 10 "_law_asked" ["book","entry","way"] [] (sV (jH cP cB cU) cR cN cO)) (zz:Def P w K mg base 6 "_law_stands" ["book","canal","names","ways"] [] (pB (jH cP cB cU) cR cN cO)) (zn:Def P w K mg base 1 "_law_along" ["canal","entry"] [] (lS (jH cP cB cU) cR cN)):FnOk P w K mg base jO 11 f fd ["book","canal","entry","names","ways"] (sP (jH cP cB cU) cR cN cO):=by
 refine F.ok2 iM fun vs H Q E h=>?_
 refine IL h fun b x t na wa nl pl ql el e R L N ms gs zs ys h=>?_
 refine JZ h fun e_ hO S hco hl1 hl0 hl2 q=>?_
 subst e_;refine ⟨rfl,fun _ _ _ _ hr=>?_⟩;have hu1:=uP hr;refine ⟨_,(@jG _ _ _ _ _ (jP 5 iM.nd (jM xag hr rfl (yC (pv 1) (pv 3) (QW ["way"] [] (vP (jT cH)) (yX (pv 4)) (fun _ _ _ _ _=>(jK (j3 K) (pv 0) jC))) (pv 2))))
   (@jG _ _ _ _ _ (j9 (j8 (lY hu1) (jM zo hr rfl (jZ (pv 0) (pv 2) jC)) (pv 5)) (jQ ZS) kD)
   (v7 (j9 (j8 (FW hu1) (pv 5) (kP (jB jS (jB jS jD)))) (@kB _ _ _ (jP 5 iM.nd (kP (jB jS (jB (kL (jB jS jD)) jD))))) kD)
   (@jG _ _ _ _ _ (j9 (PW.pt (bN (j8 (lY hu1) (jM zo hr rfl (jZ (pv 0) (pv 2) jC)) (pv 5)) (mF (ZL (yO (jM zz hr rfl (yC (pv 0) (pv 1) (pv 3) (pv 4)))))))) (jQ ZS) kD)
   (@jG _ _ _ _ _ (j9 (j8 (lY hu1) (jM zo hr rfl (jZ (pv 0) (pv 2) jC)) (pv 5)) (jQ ZS) kD)
   (@jG _ _ _ _ _ (j9 (j8 kO (jK (j3 K) (pv 5) jC) jS) (@jG _ _ _ _ _ (qE (qP ak av aw vC (pv 3) (jB (jK (j3 K) (pv 2) jC) jD)))
   (@kB _ _ _ (qE (qP ak av aw vC (pv 4) (jB (qM (JN K) (by rfl) T.xl ba (jB (jM zn hr rfl (jB (pv 1) (jB (pv 2) jD))) jD)) jD))))) kD)
   (jQ (jM zz hr rfl (yC (pv 0) (pv 1) (pv 3) (pv 4)))))))))),?_⟩
 try dsimp only [jX,jW]
 obtain ⟨us,hwa,hA⟩:=hO.ws;have hul:=hA.1;have z9:=hO.z9;have zy:=hO.zy;have r8:=S.r8;have l8:=S.l8;have hDl:∀G,Same H G→∀d∈[na,wa],∃l,G d=some (.lst l):=fun G s d hd=>by
  simp only [am,aA,bg] at hd
  rcases hd with rfl|rfl
  ·exact ⟨_,s _ _ hO.nm⟩
  ·exact ⟨_,s _ _ hwa⟩
 have hcn:CnAt (jH cP cB cU) cR cN [] H x R L N:=by
  obtain ⟨_,_,_,_,_,_,_,hr⟩:=hO.bk.ob;exact hr.cn.same (vT _ _)
 obtain ⟨st,J9,h1,h2,h3⟩:=id hco;refine (jA rfl (jA rfl (jA rfl (⟨wa,rfl,⟨_,so hwa⟩,fun sl hsl0=>?_⟩))));refine zT (K:=K) (a:=wa) (xs:=us) (caps:=[]) (fun i vs _=>vs=(ys.take i).map fun y=>V.int y.1) hsl0 (so hwa) rfl ?_ ?_
 ·rintro i v vs Hi hv hi hle sm hY rfl;obtain ⟨y,hy,tw,sw,uw,rfl,g1,_⟩:=hA.2 i v hv;refine yI (qL (jA rfl (j5 (SqT.of (sm _ _ g1)) rfl (vZ hsl0 sm hY hle (by omega) (Same.refl _) ?_))));rw [aN,hy,aL];rfl
 rintro vs H1 s1 hsl hlel rfl;rw [hul,aV] at hsl;refine (jA rfl ((KW x na sl t e zs ys ([]) R L N (e9 rfl (hcn.same s1) (by omega) (by omega) (hco.same s1) hl1 (by omega) (s1 _ _ hO.nm) z9 hsl (by omega) (fun r0 H2 s2 ha0=>?_)))));have s12:=s1.trans s2;refine (jA rfl (jA rfl ((nH b t x nl pl ql el ([na,wa]) e 0 R L N ms zs ys (e9 rfl (by decide) ((hO.same s12).q S) ((hO.same s12).bk) (hDl _ s12) (hco.same s12) hl1 (by omega) (fun _ r1 H3 s3 ha1=>?_) (fun h=>absurd h (by decide)) (fun h=>absurd h (by decide)) (fun h=>absurd h (by decide)))))));refine (jA rfl (eF (K:=K) ha1 (ha0.same s3) (jA rfl (qH ?_))));have s13:=s12.trans s3;have ha3:=ha0.same s3;refine ⟨fun σ Hj=>∃r,σ=[some (.ref b),some (.ref x),some (.ref t),some (.ref na),some (.ref wa),some (.ref r)]∧AnsAt Hj r (qJ R L zs ys e)∧Same H Hj,?_,?_⟩
 ·refine (jA rfl (⟨zz2,fun bt hbt=>?_⟩));have u:=jJ hbt (.tup [V.str "told",V.str "berth"]);refine EJ (K:=K) (ha3.same u) jE (jA rfl (vE (fun c=>?_) (fun c=>⟨r0,rfl,?_,s13.trans u⟩)))
  ·have c:=bo c;refine ⟨zz1,fun l hl=>⟨zz2,fun r hr=>⟨r,rfl,?_,((s13.trans u).trans (jJ hl _)).trans (jJ hr _)⟩⟩⟩;rw [fault_come.1 c];exact .inr (.inr ⟨by decide,by decide,l,jE,(jJ hr _) _ _ jE⟩)
  ·rw [fault_come.2 fun h=>c (aO h)];exact ha3.same u
 rintro σ H4 ⟨rd,rfl,had,s4⟩;refine (jA rfl (jA rfl ((nH b t x nl pl ql el ([na,wa]) e 1 R L N ms zs ys (e9 rfl (by decide) ((hO.same s4).q S) ((hO.same s4).bk) (hDl _ s4) (hco.same s4) hl1 (by omega) (fun h=>absurd h (by decide)) (fun _ r1 H5 s5 ha5=>?_) (fun h=>absurd h (by decide)) (fun h=>absurd h (by decide)))))));refine (jA rfl (eF (K:=K) ha5 (had.same s5) (jA rfl (qH ?_))));have s45:=s4.trans s5;refine (jA rfl (jA rfl (jA rfl (jA rfl ((wC b x na wa us gs R L N ms zs ys (bX rfl ((hO.same s45).q S) (s45 _ _ hO.nm) (s45 _ _ hwa) (hA.mono (WyAt.same s45)) S.hms S.spl S.tgt (fun H6 s6=>(jA rfl (qH ?_))))))))));have s46:=s45.trans s6;have had6:=(had.same s5).same s6;refine (jA rfl (jA rfl ((nH b t x nl pl ql el ([na,wa]) e 2 R L N ms zs ys (e9 rfl (by decide) ((hO.same s46).q S) ((hO.same s46).bk) (hDl _ s46) (hco.same s46) hl1 (by omega) (fun h=>absurd h (by decide)) (fun h=>absurd h (by decide)) (fun _ hne r2 H7 s7 ha7=>?_) (fun _ h0 y r2 H8 H9 hy hB8 hd8 s89 ha9=>?_))))))
 ·refine (jA rfl (eF (K:=K) ha7 (had6.same s7) (jA rfl (qH ?_))));have s47:=s46.trans s7
  rcases had6.same s7 with ⟨c0,_⟩|⟨c7,_⟩|⟨_,_,l,g1,g2⟩
  ·exact absurd c0 hne
  ·have:=sJ R L zs ys e;omega
  refine (jA rfl (j5 (SqT.of g1) rfl (⟨rfl,jA rfl (q8 (fun e=>absurd (V.str.inj e) (by decide +kernel)) ?_)⟩)));exact (jA rfl (jA rfl (jA rfl (jA rfl ((wC b x na wa us gs R L N ms zs ys (bX rfl ((hO.same s47).q S) (s47 _ _ hO.nm) (s47 _ _ hwa) (hA.mono (WyAt.same s47)) S.hms S.spl S.tgt (fun H' s'=>q zs ys H' (hO.same (s47.trans s')) (yG (s47.trans s'))))))))))
 obtain ⟨y',hy',hok,hnz,h9⟩:=lP (pK h0);rw [hy] at hy';cases hy';obtain ⟨a,ha,hfa,haR,hyl,hylt⟩:=i5 hy;have wy:WyOk L y:=⟨hylt,hok,by omega⟩;have hB6:=(hO.same s46).bk;have k69:∀(a:Addr) (u:HO),H6 a=some u→a∉[b,nl,pl,ql,el]→H9 a=some u:=fun a u e hn=>s89 _ _ (vT _ _ _ _ (hd8 _ _ (by rw [qV hn];exact e)))
 have t69:∀(a:Addr) (l:List V),H a=some (.tup l)→H9 a=some (.tup l):=fun a l e=>k69 a _ (s46 _ _ e) (hB6.notup (s46 _ _ e))
 have hna9:=k69 _ _ (s46 _ _ hO.nm) hO.ap.2.1;have hwa9:=k69 _ _ (s46 _ _ hwa) hO.ap.2.2;have hB9:=hB8.same s89;obtain ⟨hrd,_⟩:H6 rd=some (.tup [V.str "told",V.str ""])∧True:=by
  rcases had6 with ⟨_,g⟩|⟨c7,_⟩|⟨c1,_⟩
  ·exact ⟨g,trivial⟩
  ·omega
  ·omega
 have hrd9:=k69 _ _ hrd (hB6.notup hrd);refine (jA rfl (eF (K:=K) (c:=0) ha9 (.inl ⟨rfl,hrd9⟩) (jA rfl (qH ?_))));refine (jA rfl (j5 (SqT.of hrd9) rfl (⟨rfl,jA rfl (qQ rfl ?_)⟩)));refine (jA rfl (⟨.inl ⟨rfl,_,so hna9⟩,jA rfl (j5 (SqT.of (t69 _ _ h1)) rfl (⟨na,_,_,rfl,rfl,hna9,vL (by rw [ad];omega),?_⟩))⟩));have t10:∀(a:Addr) (l:List V),H a=some (.tup l)→upd H9 na (.lst (zs.map V.str++[V.str e.name])) a=some (.tup l):=fun a l e=>by rw [jL (qF (t69 _ _ e) hna9 (fun z=>nomatch z))];exact t69 _ _ e
 have hB10:=hB9.putD (o:=.lst (zs.map V.str++[V.str e.name])) (d:=na) (by simp) hO.ap.2.1;have hna10:upd H9 na (.lst (zs.map V.str++[V.str e.name])) na=some (.lst (zs.map V.str++[V.str e.name])):=jE;have hwa10:upd H9 na (.lst (zs.map V.str++[V.str e.name])) wa=some (.lst us):=by rw [jL (Ne.symm hO.ap.1)];exact hwa9
 have d10:Same (j4 H [b,nl,pl,ql,el,na,wa]) (j4 (upd H9 na (.lst (zs.map V.str++[V.str e.name]))) [b,nl,pl,ql,el,na,wa]):=by
  rw [yH (by simp)];exact (FA (A:=[b,nl,pl,ql,el]) (fun a h=>by simp only [am,aA,bg] at h ⊢;rcases h with h|h|h|h|h<;>simp [h]) ((yG s46).trans (hd8.trans (yG s89))))
 generalize upd H9 na (.lst (zs.map V.str++[V.str e.name]))=H10 at t10 hB10 hna10 hwa10 d10 ⊢;have hcn10:CnAt (jH cP cB cU) cR cN [] H10 x R L N:=by
  obtain ⟨_,_,_,_,_,_,_,hr⟩:=hB10.ob;exact hr.cn.same (vT _ _)
 refine (jA rfl (⟨.inl ⟨rfl,_,so hwa10⟩,jA rfl (jA rfl ((bV x t e ([]) R L N (vY rfl hcn10 (by omega) (by omega) (hco.tup t10) (by omega) (fun v H11 s11 hal=>?_)))))⟩))
 rcases hal with ⟨hn,_⟩|⟨y2,l,hy2,hnok,_⟩|⟨y2,l,st2,yL,hy2,hok2,rfl,hl,hst2,hA2⟩
 ·rw [hy] at hn;cases hn
 ·rw [hy] at hy2;cases hy2;exact absurd hok hnok
 rw [hy] at hy2;cases hy2;refine ⟨l,jA rfl (.inl ⟨so hl,fun t5 ht5=>?_⟩)⟩;have u5:=jJ ht5 (.tup [V.int y.1,V.ref st2]);have s12':=s11.trans u5;refine ⟨wa,_,_,rfl,rfl,s12' _ _ hwa10,vL (by omega),?_⟩;have hWy:WyAt (upd H11 t5 (.tup [V.int y.1,V.ref st2])) (.ref t5) y:=⟨t5,st2,yL,rfl,jE,u5 _ _ hst2,hA2.mono (PAt.same u5)⟩;have hA12:AllAt (WyAt (upd H11 t5 (.tup [V.int y.1,V.ref st2]))) (us++[V.ref t5]) (ys++[y]):=(hA.mono (WyAt.tup fun a l e=>s12' _ _ (t10 a l e))).snoc hWy;have hB12:=hB10.same s12';have hna12:=s12' _ _ hna10;have hwa12:=s12' _ _ hwa10;have d12:=d10.trans (yG s12');generalize upd H11 t5 (.tup [V.int y.1,V.ref st2])=H12 at hA12 hB12 hna12 hwa12 d12 ⊢;have kT:∀(a:Addr) (l:List V),H12 a=some (.tup l)→upd H12 wa (.lst (us++[V.ref t5])) a=some (.tup l):=fun a l e=>by rw [jL (qF e hwa12 (fun z=>nomatch z))];exact e
 have hO13:OneAt (jH cP cB cU) cR cN cO (upd H12 wa (.lst (us++[V.ref t5]))) b x na wa nl pl ql el R L N ms (zs++[e.name]) (ys++[y]):=by
  refine ⟨?_,?_,⟨_,jE,hA12.mono (WyAt.tup kT)⟩,hO.ap,by rw [aj];show zs.length+1≤9;omega,by rw [aj,aj];show zs.length+1=ys.length+1;omega,fun y' hy'=>?_,fun z hz=>(bc.mp hz).elim (hO.nl z) fun h=>by rw [aX.mp h];exact hl1⟩
  ·rw [aj];exact hB12.putD (by simp) hO.ap.2.2
  ·rw [jL hO.ap.1,aL];exact hna12
  ·rcases bc.mp hy' with h|h
   ·exact hO.wok y' h
   ·rw [aX.mp h];exact ⟨wy,by omega⟩
 have d13:Same (j4 H [b,nl,pl,ql,el,na,wa]) (j4 (upd H12 wa (.lst (us++[V.ref t5]))) [b,nl,pl,ql,el,na,wa]):=by rw [yH (by simp)];exact d12
 generalize upd H12 wa (.lst (us++[V.ref t5]))=H13 at hO13 d13 ⊢;obtain ⟨ZY,hwa3,hA3⟩:=hO13.ws;exact (jA rfl (jA rfl (jA rfl (jA rfl (⟨b,x,na,wa,ZY,gs,R,L,N,ms,_,jA rfl (⟨hO13.q S,hO13.nm,hwa3,hA3,S.hms,S.spl,S.tgt,fun H' s'=>q _ _ H' (hO13.same s') (d13.trans (yG s'))⟩)⟩)))))
theorem zK:jV 1 ["script","canal","book","called","names","ways","many","k","entry"] zV:=jU
include T in
theorem AD (F:kK K "law" zV f fd) (jm:Def P w K mg base 6 "_law_canal" ["script","most_reaches","most_locks","most_nights"] [] (rT K (jH cP cB cU) cR cN)) (xaM:MkD P w K mg base 7 "Book" cO ["self","canal"] (i4 (jH cP cB cU) cR cN cO)) (xz:Def P w K mg base 2 "_law_names" ["script","k","many"] [] (lC K)) (xa:Def P w K mg base 1 "_law_draw" ["script","k","many"] [] (JF K)) (vy:Def P w K mg base 1 "_law_come" ["canal","name","way"] [] (rS (jH cP cB cU) cR cN)) (ud:Def P w K mg base 2 "_law_way" ["script","k","canal","most"] [] (sM K (jH cP cB cU) cR cN)) (ue:Def P w K mg base 11 "_law_one" ["book","canal","entry","names","ways"] [] (sP (jH cP cB cU) cR cN cO)) (uf:Def P w K mg base 2 "_law_spoiled" ["script","entry","taken"] [] (sO K)) (wc:MeD P w K mg base 1 cO "entries" ["self"] (q9 (jH cP cB cU) cR cN cO (uN))):FnOk P w K mg base jO 12 f fd ["script"] (eJ K):=by
 refine F.ok2 zK fun vs H Q E h=>?_
 obtain ⟨s,ns,rfl,hS,h63,q⟩:=h;refine ⟨rfl,fun _ _ _ _ hr=>?_⟩;refine ⟨_,(@jG _ _ _ _ _ (jP 1 zK.nd (jM jm hr rfl (yC (pv 0) jC jC jC)))
   (@jG _ _ _ _ _ (jP 2 zK.nd (ZR xaM hr rfl (jB (pv 1) jD)))
   (@jG _ _ _ _ _ (jP 3 zK.nd (jM xz hr rfl (jZ (pv 0) jC jC)))
   (@jG _ _ _ _ _ (jP 4 zK.nd (kL jD))
   (@jG _ _ _ _ _ (jP 5 zK.nd (kL jD))
   (@jG _ _ _ _ _ (jP 6 zK.nd (jK (kI K) (kL (jZ (jM xa hr rfl (jZ (pv 0) jC jC)) jC jC)) (jM xa hr rfl (jZ (pv 0) jC jC))))
   (@jG _ _ _ _ _ (zH bz rfl (JO (by rfl) T.xk (jB (pv 6) jD)) (qD (i:=7) zK.nd rfl (.inl rfl))
    (@jG _ _ _ _ _ (jP 8 zK.nd (jM vy hr rfl (jZ (pv 1) (jK (kI K) (pv 3) (pv 7)) (jM ud hr rfl (yC (pv 0) (pv 7) (pv 1) jC)))))
   (@kB _ _ _ (j9 (ZL (yO (jM ue hr rfl (Q0 (pv 2) (pv 1) (pv 8) (pv 4) (pv 5))))) (jQ ZS) kD))))
   (@jG _ _ _ _ _ (jP 8 zK.nd (jM vy hr rfl (jZ (pv 1) (jK (kI K) (pv 3) jC) (jM ud hr rfl (yC (pv 0) jC (pv 1) jC)))))
   (@jG _ _ _ _ _ (j9 (ZL (yO (jM ue hr rfl (Q0 (pv 2) (pv 1) (jM uf hr rfl (jZ (pv 0) (pv 8) (qM (yY K) (by rfl) T.xi aI (jB (pv 4) jD)))) (pv 4) (pv 5))))) (jQ ZS) kD)
   (jQ (JL kO (vA K T.xh (qO wc hr (pv 2))) (vA K T.xh (pv 4))))))))))))),?_⟩
 try dsimp only [jX,jW]
 refine (jA rfl ((zD s ns 4 3 0 (bX rfl hS h63 (by decide) (by decide) (by decide) (by decide) (by decide) (fun x R L N H1 hdr hR4 hL3 hN0 hr2 hl1 s1 hx0 hcn=>?_)))));refine (jA rfl (?_));intro b db nb ndb neb;have m1:Same H1 (j4 (upd (upd H1 db (.own b)) b (.ins cO db [])) [b]):=fun a o e=>by
  rw [qV (fun z=>kE e nb (aX.mp z)),jL (kE e nb),jL (kE e ndb)];exact e
 refine (Q1 b db x R L N (vY rfl jE (hcn.same m1) (by omega) (by omega) (o6 hdr) (fun nl pl ql el gs H2 hSp hB hd=>⟨rfl,?_⟩)));have s12:=s1.trans (m1.trans (hd.trans (vT _ _)));refine (jA rfl ((ZZ s ns _ 11 (vY rfl (s12.seq hS) h63 (by decide) (by decide) (by decide) (fun cl cs H3 s3 hcl0 hcl hcsl hcs50=>?_)))));refine ⟨aG _,fun na hna0=>⟨aG _,fun wa hwa0=>?_⟩⟩;have hB3:=hB.same s3;have hB4:=hB3.addD (o:=.lst []) hna0;have hB5:=hB4.addD (o:=.lst []) hwa0;have na5:=hB3.here hna0;have wa5:=hB4.here hwa0;have cl5:=hB.here hcl0;have naw:na≠wa:=kE (jE (H:=H3) (a:=na)) hwa0;have u4:=jJ hna0 (.lst []);have u5:=jJ hwa0 (.lst []);have n7:∀a o,H3 a=some o→a∉[b,nl,pl,ql,el]→a∉[b,nl,pl,ql,el,na,wa]:=fun a o e h z=>by
  have c1:=kE e hna0;have c2:=kE (u4 _ _ e) hwa0;simp only [am,aA,bg,not_or] at h z
  rcases z with z|z|z|z|z|z|z
  ·exact h.1 z
  ·exact h.2.1 z
  ·exact h.2.2.1 z
  ·exact h.2.2.2.1 z
  ·exact h.2.2.2.2 z
  ·exact c1 z
  ·exact c2 z
 have m3:Same (j4 H3 [b,nl,pl,ql,el]) (j4 (upd (upd H3 na (.lst [])) wa (.lst [])) [b,nl,pl,ql,el,na,wa]):=fun a o e=>by
  by_cases h:a∈[b,nl,pl,ql,el]
  ·rw [JE h] at e;cases e
  ·rw [qV h] at e;rw [qV (n7 a o e h)];exact u5 _ _ (u4 _ _ e)
 have sc:Same H (j4 (upd (upd H3 na (.lst [])) wa (.lst [])) [b,nl,pl,ql,el,na,wa]):=s1.trans (m1.trans (hd.trans ((yG s3).trans m3)));have hclG:j4 (upd (upd H3 na (.lst [])) wa (.lst [])) [b,nl,pl,ql,el,na,wa] cl=some (.lst (cs.map V.str)):=by rw [qV (n7 _ _ hcl cl5)];exact u5 _ _ (u4 _ _ hcl)
 have hO:OneAt (jH cP cB cU) cR cN cO (upd (upd H3 na (.lst [])) wa (.lst [])) b x na wa nl pl ql el R L N (y6 (qZ R L.length) (qY R L.length) gs) [] []:=⟨hB5.less (fun d h=>by simp only [am,aA,bg] at h ⊢;rcases h with h|h<;>simp [h]),by rw [jL naw];exact jE,⟨[],jE,AllAt.nil⟩,⟨naw,na5,wa5⟩,by simp,rfl,(fun y hy=>by cases hy),(fun z hz=>by cases hz)⟩;have S:StaAt R L (y6 (qZ R L.length) (qY R L.length) gs) gs:=⟨by omega,by omega,by unfold y6;rw [cW,dB];omega,rfl,hSp,o6 hdr⟩;generalize y6 (qZ R L.length) (qY R L.length) gs=ms at hO S;generalize upd (upd H3 na (.lst [])) wa (.lst [])=H5 at sc hclG hO ⊢;clear m3 n7 u4 u5 naw cl5 wa5 na5 hB5 hB4 hB3 hB hd s12 m1;have hS5:=(sc.trans (vT _ _)).seq hS;refine (jA rfl (⟨s,ns,_,jA rfl (⟨hS5,h63,by decide,by decide,by decide,fun d d0 d1=>⟨zz3,fun lm hlm=>?_⟩⟩)⟩));have u6:=jJ hlm (.lst ([d,9,10].map V.int));refine (jA rfl (⟨s,ns,_,jA rfl (⟨u6.seq hS5,h63,by decide,by decide,by decide,fun d2 d20 d21=>?_⟩)⟩));obtain ⟨m,hm,hat⟩:=mO [d,9,10] d20 d21;have hm10:0≤m∧m≤10:=by
  simp only [am,aA,bg] at hm
  rcases hm with rfl|rfl|rfl<;>omega
 refine (kR (so jE) hat (?_));have hO6:=hO.same u6;have sc6:=sc.trans (yG u6);have hcl6:=(yG u6) _ _ hclG;generalize hG:j4 (upd H5 lm (.lst ([d,9,10].map V.int))) [b,nl,pl,ql,el,na,wa]=G at sc6 hcl6;have step:∀(i:Nat) (Hi:Hp),i≤10→Same G (j4 Hi [b,nl,pl,ql,el,na,wa])→SqL K Hi s (ns.map V.int)∧∃nm,nm.length≤50∧Hi cl=some (.lst (cs.map V.str))∧(cs.map V.str)[i]?=some (.str nm):=fun i Hi hi sG=>by
  refine ⟨((sc6.trans sG).trans (vT _ _)).seq hS,cs[i]'(by omega),hcs50 _ (cb _),(sG.trans (vT _ _)) _ _ hcl6,?_⟩;rw [ax,aa (by omega)];rfl
 have cnO:∀(Hi:Hp) (zs:List Str) (ys:List jR),OneAt (jH cP cB cU) cR cN cO Hi b x na wa nl pl ql el R L N ms zs ys→CnAt (jH cP cB cU) cR cN [] Hi x R L N:=fun Hi zs ys h=>by
  obtain ⟨_,_,_,_,_,_,_,hr⟩:=h.bk.ob;exact hr.cn.same (vT _ _)
 refine (jA rfl (jA rfl (⟨by omega,by omega,bA (n:=m.toNat) (fun i σ Hi=>∃(zs:List Str) (ys:List jR) (c7 c8:Option V),σ=[some (.ref s),some (.ref x),some (.ref b),some (.ref cl),some (.ref na),some (.ref wa),some (.int m),c7,c8]∧OneAt (jH cP cB cU) cR cN cO Hi b x na wa nl pl ql el R L N ms zs ys∧Same G (j4 Hi [b,nl,pl,ql,el,na,wa])) (ZZ ([]) ([]) none none (qS rfl hO6 (fun a o e=>by rw [← hG] at e;exact e))) ?_ ?_⟩)))
 ·rintro i σ Hi hi ⟨zs,ys,c7,c8,rfl,hOi,sG⟩;rw [dz];obtain ⟨hSi,nm,hnm,hcli,hnmi⟩:=step i Hi (by omega) sG;refine (jA rfl (jA rfl (jA rfl (kR (so hcli) (qN hnmi) ((jA rfl (jA rfl (jA rfl ((vF s x ns i ([]) R L N (zE rfl hSi h63 (by omega) (cnO _ _ _ hOi) hdr hl1 (fun t y H7 hyo hy1 hya s7 ht0 hwy=>?_))))))))))));obtain ⟨a,ha,haR⟩:=hya;refine (fG x t nm y a ([]) R L N (vY rfl ((cnO _ _ _ hOi).same s7) hwy hyo ha haR (fun e H8 s8 he0 hco=>?_)));have s78:=s7.trans s8;have hyl:((y.2.map fun p=>(ZN L p.1,p.2)).length)=y.2.length:=ad _;refine (jA rfl (jA rfl (jA rfl (jA rfl (jA rfl ((wB b x e na wa nl pl ql el _ R L N ms gs zs ys (zE rfl (hOi.same s78) S hco (by show nm.length≤100;omega) (by show 1≤_;rw [hyl];exact hy1) (by show _≤8;rw [hyl];exact hyo.le) (fun zs' ys' H9 hO9 hd9=>(jA rfl (qH ?_)))))))))));exact ⟨zs',ys',_,jA rfl (⟨hO9,(sG.trans (yG s78)).trans hd9⟩)⟩
 rintro σ Hi ⟨zs,ys,c7,c8,rfl,hOi,sG⟩;obtain ⟨hSi,nm,hnm,hcli,hnmi⟩:=step 10 Hi (by omega) sG;refine (jA rfl (jA rfl (kR (so hcli) (qN hnmi) ((jA rfl (jA rfl ((vF s x ns 10 ([]) R L N (zE rfl hSi h63 (by omega) (cnO _ _ _ hOi) hdr hl1 (fun t y H7 hyo hy1 hya s7 ht0 hwy=>?_))))))))));obtain ⟨a,ha,haR⟩:=hya;refine (fG x t nm y a ([]) R L N (vY rfl ((cnO _ _ _ hOi).same s7) hwy hyo ha haR (fun e H8 s8 he0 hco=>?_)));have s78:=s7.trans s8;have hyl:((y.2.map fun p=>(ZN L p.1,p.2)).length)=y.2.length:=ad _;have hy8:=hyo.le;have hz9:=hOi.z9;refine (jA rfl (jA rfl (jA rfl (jA rfl (jA rfl (⟨na,jA rfl (⟨.inl (so (s78 _ _ hOi.nm)),fun tl htl0=>?_⟩)⟩))))));have u:=jJ htl0 (.lst (zs.map V.str));have s79:=s78.trans u;refine (Q1 s e tl ns _ zs (KZ rfl (s79.seq hSi) h63 (hco.same u) (by show nm.length≤100;omega) (by show 1≤_;rw [hyl];exact hy1) (by show _≤100;rw [hyl];omega) jE (by omega) hOi.nl (fun t' e' H9 s9 hco' hn' hs'=>?_)));have hs':e'.steps.length=y.2.length:=hs'.trans hyl;have s89:=s79.trans s9;refine (jA rfl (jA rfl ((wB b x t' na wa nl pl ql el e' R L N ms gs zs ys (zE rfl (hOi.same s89) S hco' hn' (by omega) (by omega) (fun zs' ys' Ha hOa hda=>(jA rfl (qH ?_))))))));have hqa:=hOa.q S;obtain ⟨db',fs,hb,hno⟩:=hqa.ins;refine (jA rfl (⟨b,db',jA rfl (⟨hb,hno _ (by decide +kernel),vF b x R L N ms zs' ys' (qS rfl hqa (fun l es Hb sb hl0 hl hel=>?_))⟩)⟩));refine ⟨l,jA rfl (⟨.inl (so hl),jA rfl (⟨na,jA rfl (⟨.inl (so (sb _ _ hOa.nm)),rfl,?_⟩)⟩)⟩)⟩;rw [aO (by rw [hel,ad])];exact q _
end
theorem all_mk {l:W.OpenLaw} {w:World} {h:Heap} {mg:Str→Option Value} {fa f6 f7 f8 f9 f10 f64:Addr} {cP cB cU:Addr} {dn0:Nat} {tkS:Tok} {eC eB eT eM eU eL eW:Addr} {cd_eB:ClassData} {cd_eT:ClassData} {cd_eM:ClassData} {cd_eU:ClassData} {cd_eL:ClassData} {cd_eW:ClassData} {tkH:Tok} {Q9:Tok} {ZB:Tok} {ZA:Tok} (X:K.In h) (G:h.Ns mainGlobals mg) (hfa:mg "law"=some (.ref fa))
 {od10 an10 od64 an64:Option Addr} {sl10 sl64:Array (Option Value)} {oc10 kV10 dc10 pm10 cd10 ct10 oc64 kV64 dc64 pm64 cd64 ct64:Value} {T10:Addr} {oT10:Obj}
  (xaN:kX K "PlainLock" (some (.ref cP)))
  (xaO:kX K "BasinLock" (some (.ref cB)))
  (xaP:kX K "PumpLock" (some (.ref cU)))
  (xaQ:kX K "Reach" (some (.ref cR)))
  (xaR:kX K "Canal" (some (.ref cN)))
  (zh:kX K "CanalError" (some (.ref eC)))
  (vo:kX K "BadRow" (some (.ref eB)))
  (ug:kX K "Twice" (some (.ref eT)))
  (va:kX K "TooMany" (some (.ref eM)))
  (vb:kX K "Unknown" (some (.ref eU)))
  (zp:kX K "NotLinked" (some (.ref eL)))
  (vp:kX K "NotNow" (some (.ref eW)))
  (xaS:kX K "Book" (some (.ref cO)))
  (p0:kJ K "poured_all" gZ)
  (p1:kJ K "over" gX)
  (p2:kJ K "last_first" gU)
  (p3:kJ K "spills" iE)
  (p4:kJ K "spill_pours" cK)
  (p5:kJ K "settled" iD)
  (a6:j0 K cP "__init__" (some (.ref f6)))
  (i6:W.isFn K (.ref f6)=true)
  (ac6:W.findCls K (.ref cP) (.type "type") "__init__"=some (.val (.ref f6)))
  (p6:fL K "__init__" "PlainLock.__init__" gC f6)
  (a7:j0 K cB "__init__" (some (.ref f7)))
  (i7:W.isFn K (.ref f7)=true)
  (p7:fL K "__init__" "BasinLock.__init__" fM f7)
  (a8:j0 K cU "__init__" (some (.ref f8)))
  (i8:W.isFn K (.ref f8)=true)
  (p8:fL K "__init__" "PumpLock.__init__" gD f8)
  (a9:j0 K cR "__init__" (some (.ref f9)))
  (i9:W.isFn K (.ref f9)=true)
  (p9:fL K "__init__" "Reach.__init__" gE f9)
  (a10:j0 K cN "__init__" (some (.ref f10)))
  (i10:W.isFn K (.ref f10)=true)
  (l10:K.lookup f10=some ⟨oc10,od10,.func (W.fnOf "__init__" "Canal.__init__" (qW QG) (kY QG) (jT QG) (.ref T10) kV10 dc10 pm10 an10 cd10 ct10),sl10⟩)
  (c10:W.codeIn K cd10 "Canal.__init__"=true)
  (k10:W.keepIn K (.ref f10)=true)
  (lT10:K.lookup T10=some oT10)
  (dT10:oT10.data=.seq ([.none]:List Value).toArray dn0)
  (p11:vJ K cN "sea" "Canal.sea" gA)
  (p12:vJ K cN "sky" "Canal.sky" gB)
  (p13:vJ K cN "many" "Canal.many" fY)
  (p14:vJ K cN "weirs" "Canal.weirs" cE)
  (p15:vJ K cN "start" "Canal.start" cD)
  (p16:kJ K "step_ends" iG)
  (p17:kJ K "linked" gW)
  (p18:kJ K "steps_to_do" iH)
  (p19:kJ K "reach_of" iA)
  (p20:kJ K "lying" cJ)
  (p21:kJ K "begun" gQ)
  (p22:kJ K "place_called" gY)
  (p23:vJ K cN "reach_at" "Canal.reach_at" fZ)
  (p24:vJ K cN "lock_at" "Canal.lock_at" fX)
  (p25:kJ K "way_told" cL)
  (p26:vJ K cO "canal" "Book.canal" fP)
  (p27:vJ K cO "state" "Book.state" fV)
  (p28:vJ K cO "names" "Book.names" fU)
  (p29:vJ K cO "ways" "Book.ways" fW)
  (p30:vJ K cO "ledger" "Book.ledger" fT)
  (p31:vJ K cO "entries" "Book.entries" fR)
  (p32:vJ K cO "gatework" "Book.gatework" cA)
  (p33:vJ K cO "__init__" "Book.__init__" fN)
  (p34:kJ K "written_with" cM)
  (p35:kJ K "is_name" gT)
  (p36:kJ K "refuse_wrong_come" iC)
  (p37:kJ K "refuse_wrong" iB)
  (p38:kJ K "has_no_berth" gS)
  (p39:kJ K "why_no_entry" iJ)
  (p40:kJ K "entry_pours" gR)
  (p41:kJ K "words_worked" iK)
  (p42:kJ K "ways_behind" iI)
  (p43:kJ K "state_behind" iF)
  (p44:vJ K cO "fault" "Book.fault" fS)
  (p45:vJ K cO "behind" "Book.behind" fO)
  (p46:vJ K cO "do" "Book.do" fQ)
  (p47:kJ K "_law_draw" gG)
  (p48:kJ K "_law_unit" gN)
  (p49:kJ K "_law_names" gI)
  (p50:kJ K "_law_reach" gJ)
  (p51:kJ K "_law_lock" gH)
  (p52:kJ K "_law_weather" gP)
  (p53:kJ K "_law_canal" Q6)
  (p54:kJ K "_law_turns" gM)
  (p55:kJ K "_law_way" gO)
  (p56:kJ K "_law_come" cF)
  (p57:kJ K "_law_refusal" gK)
  (p58:kJ K "_law_asked" gF)
  (p59:kJ K "_law_spoiled" gL)
  (p60:kJ K "_law_along" Q5)
  (p61:kJ K "_law_due" cG)
  (p62:kJ K "_law_stands" cI)
  (p63:kJ K "_law_one" cH)
  (a64:kX K "law" (some (.ref f64)))
  (l64:K.lookup f64=some ⟨oc64,od64,.func (W.fnOf "law" "law" (qW zV) (kY zV) (jT zV) .none kV64 dc64 pm64 an64 cd64 ct64),sl64⟩)
  (c64:W.codeIn K cd64 "law"=true)
  (k64:W.keepIn K (.ref f64)=true)
  (xi:kX K "list" none)
  (xl:kX K "tuple" none)
  (ja:kX K "max" none)
  (xk:kX K "range" none)
  (xh:kX K "len" none)
  (jb:kX K "zip" none)
  (xo:kX K "enumerate" none)
  (jc:kX K "all" none)
  (ve:kX K "int" none)
  (xb:kX K "isinstance" none)
  (xm:kX K "ValueError" none)
  (xaT:W.plainGet K cP Str.empty=true)
  (xau:W.hasDictIn K cP=true)
  (xaU:W.plainOver K cP=true)
  (xaV:j0 K cP "__setattr__" (some (.builtin "object.__setattr__")))
  (xaW:W.makesIn K cP=true)
  (xaX:W.keepIn K (.ref cP)=true)
  (uh:j0 K cP "name" none)
  (ui:j0 K cP "high" none)
  (jn:j0 K cP "low" none)
  (uj:j0 K cP "room" none)
  (xaY:W.plainGet K cB Str.empty=true)
  (xav:W.hasDictIn K cB=true)
  (xaZ:W.plainOver K cB=true)
  (xa0:j0 K cB "__setattr__" (some (.builtin "object.__setattr__")))
  (xa1:W.makesIn K cB=true)
  (xa2:W.keepIn K (.ref cB)=true)
  (uk:j0 K cB "name" none)
  (ul:j0 K cB "high" none)
  (jo:j0 K cB "low" none)
  (um:j0 K cB "room" none)
  (uo:j0 K cB "side" none)
  (xa3:W.plainGet K cU Str.empty=true)
  (xaw:W.hasDictIn K cU=true)
  (xa4:W.plainOver K cU=true)
  (xa5:j0 K cU "__setattr__" (some (.builtin "object.__setattr__")))
  (xa6:W.makesIn K cU=true)
  (xa7:W.keepIn K (.ref cU)=true)
  (uq:j0 K cU "name" none)
  (ur:j0 K cU "high" none)
  (jp:j0 K cU "low" none)
  (ut:j0 K cU "room" none)
  (uu:j0 K cU "lift" none)
  (g1:W.specialIn K (.ref cP) "__getattribute__"=some (some (.builtin "type.__getattribute__")))
  (g2:W.readsIn K cP (.type "type")=true)
  (xa8:W.plainGet K cR Str.empty=true)
  (xax:W.hasDictIn K cR=true)
  (xa9:W.plainOver K cR=true)
  (xba:j0 K cR "__setattr__" (some (.builtin "object.__setattr__")))
  (xbb:W.makesIn K cR=true)
  (xbc:W.keepIn K (.ref cR)=true)
  (xy:j0 K cR "name" none)
  (zi:j0 K cR "least" none)
  (za:j0 K cR "crest" none)
  (xp:j0 K cR "berths" none)
  (zc:j0 K cR "water" none)
  (xq:j0 K cR "target" none)
  (xbd:W.plainGet K cN Str.empty=true)
  (xay:W.hasDictIn K cN=true)
  (xbe:W.plainOver K cN=true)
  (xbf:j0 K cN "__setattr__" (some (.builtin "object.__setattr__")))
  (xbg:W.makesIn K cN=true)
  (xbh:W.keepIn K (.ref cN)=true)
  (xf:j0 K cN "reaches" none)
  (xc:j0 K cN "locks" none)
  (xv:j0 K cN "nights" none)
  (gSEA:kX K "SEA" (some (.int (-1) tkS)))
  (vq:W.excIn K eB [.type "ValueError",.type "Exception",.type "BaseException",.type "object"] "ValueError.__new__"=true)
  (uv:W.excIn K eT [.type "ValueError",.type "Exception",.type "BaseException",.type "object"] "ValueError.__new__"=true)
  (vc:W.excIn K eM [.type "ValueError",.type "Exception",.type "BaseException",.type "object"] "ValueError.__new__"=true)
  (vd:W.excIn K eU [.type "ValueError",.type "Exception",.type "BaseException",.type "object"] "ValueError.__new__"=true)
  (zq:W.excIn K eL [.type "ValueError",.type "Exception",.type "BaseException",.type "object"] "ValueError.__new__"=true)
  (vt:W.excIn K eW [.type "ValueError",.type "Exception",.type "BaseException",.type "object"] "ValueError.__new__"=true)
  (eg_eB:j0 K eB "__getattribute__" (some (.builtin "BaseException.__getattribute__")))
  (en_eB:j0 K eB "__getattr__" none)
  (ec_eB:j0 K eB "__class__" (some (.builtin "object.__class__")))
  (eo_eB:W.mroIn K eB (.type "object")=some true)
  (eb_eB:W.subIn K (.ref eB) (.type "BaseException")=some true)
  (cX_eB:W.clsIn K eB=some cd_eB)
  (exmX_eB:W.exmOne K (.ref eB) (.ref eC)=some true)
  (kX_eB_0:W.kitOne K (.ref eB) (.type "ValueError")=some true)
  (kX_eB_1:W.kitOne K (.ref eB) (.ref eB)=some true)
  (kX_eB_2:W.kitOne K (.ref eB) (.ref eT)=some false)
  (kX_eB_3:W.kitOne K (.ref eB) (.ref eM)=some false)
  (kX_eB_4:W.kitOne K (.ref eB) (.ref eU)=some false)
  (kX_eB_5:W.kitOne K (.ref eB) (.ref eL)=some false)
  (kX_eB_6:W.kitOne K (.ref eB) (.ref eW)=some false)
  (eg_eT:j0 K eT "__getattribute__" (some (.builtin "BaseException.__getattribute__")))
  (en_eT:j0 K eT "__getattr__" none)
  (ec_eT:j0 K eT "__class__" (some (.builtin "object.__class__")))
  (eo_eT:W.mroIn K eT (.type "object")=some true)
  (eb_eT:W.subIn K (.ref eT) (.type "BaseException")=some true)
  (cX_eT:W.clsIn K eT=some cd_eT)
  (exmX_eT:W.exmOne K (.ref eT) (.ref eC)=some true)
  (kX_eT_0:W.kitOne K (.ref eT) (.type "ValueError")=some true)
  (kX_eT_1:W.kitOne K (.ref eT) (.ref eB)=some false)
  (kX_eT_2:W.kitOne K (.ref eT) (.ref eT)=some true)
  (kX_eT_3:W.kitOne K (.ref eT) (.ref eM)=some false)
  (kX_eT_4:W.kitOne K (.ref eT) (.ref eU)=some false)
  (kX_eT_5:W.kitOne K (.ref eT) (.ref eL)=some false)
  (kX_eT_6:W.kitOne K (.ref eT) (.ref eW)=some false)
  (eg_eM:j0 K eM "__getattribute__" (some (.builtin "BaseException.__getattribute__")))
  (en_eM:j0 K eM "__getattr__" none)
  (ec_eM:j0 K eM "__class__" (some (.builtin "object.__class__")))
  (eo_eM:W.mroIn K eM (.type "object")=some true)
  (eb_eM:W.subIn K (.ref eM) (.type "BaseException")=some true)
  (cX_eM:W.clsIn K eM=some cd_eM)
  (exmX_eM:W.exmOne K (.ref eM) (.ref eC)=some true)
  (kX_eM_0:W.kitOne K (.ref eM) (.type "ValueError")=some true)
  (kX_eM_1:W.kitOne K (.ref eM) (.ref eB)=some false)
  (kX_eM_2:W.kitOne K (.ref eM) (.ref eT)=some false)
  (kX_eM_3:W.kitOne K (.ref eM) (.ref eM)=some true)
  (kX_eM_4:W.kitOne K (.ref eM) (.ref eU)=some false)
  (kX_eM_5:W.kitOne K (.ref eM) (.ref eL)=some false)
  (kX_eM_6:W.kitOne K (.ref eM) (.ref eW)=some false)
  (eg_eU:j0 K eU "__getattribute__" (some (.builtin "BaseException.__getattribute__")))
  (en_eU:j0 K eU "__getattr__" none)
  (ec_eU:j0 K eU "__class__" (some (.builtin "object.__class__")))
  (eo_eU:W.mroIn K eU (.type "object")=some true)
  (eb_eU:W.subIn K (.ref eU) (.type "BaseException")=some true)
  (cX_eU:W.clsIn K eU=some cd_eU)
  (exmX_eU:W.exmOne K (.ref eU) (.ref eC)=some true)
  (kX_eU_0:W.kitOne K (.ref eU) (.type "ValueError")=some true)
  (kX_eU_1:W.kitOne K (.ref eU) (.ref eB)=some false)
  (kX_eU_2:W.kitOne K (.ref eU) (.ref eT)=some false)
  (kX_eU_3:W.kitOne K (.ref eU) (.ref eM)=some false)
  (kX_eU_4:W.kitOne K (.ref eU) (.ref eU)=some true)
  (kX_eU_5:W.kitOne K (.ref eU) (.ref eL)=some false)
  (kX_eU_6:W.kitOne K (.ref eU) (.ref eW)=some false)
  (eg_eL:j0 K eL "__getattribute__" (some (.builtin "BaseException.__getattribute__")))
  (en_eL:j0 K eL "__getattr__" none)
  (ec_eL:j0 K eL "__class__" (some (.builtin "object.__class__")))
  (eo_eL:W.mroIn K eL (.type "object")=some true)
  (eb_eL:W.subIn K (.ref eL) (.type "BaseException")=some true)
  (cX_eL:W.clsIn K eL=some cd_eL)
  (exmX_eL:W.exmOne K (.ref eL) (.ref eC)=some true)
  (kX_eL_0:W.kitOne K (.ref eL) (.type "ValueError")=some true)
  (kX_eL_1:W.kitOne K (.ref eL) (.ref eB)=some false)
  (kX_eL_2:W.kitOne K (.ref eL) (.ref eT)=some false)
  (kX_eL_3:W.kitOne K (.ref eL) (.ref eM)=some false)
  (kX_eL_4:W.kitOne K (.ref eL) (.ref eU)=some false)
  (kX_eL_5:W.kitOne K (.ref eL) (.ref eL)=some true)
  (kX_eL_6:W.kitOne K (.ref eL) (.ref eW)=some false)
  (eg_eW:j0 K eW "__getattribute__" (some (.builtin "BaseException.__getattribute__")))
  (en_eW:j0 K eW "__getattr__" none)
  (ec_eW:j0 K eW "__class__" (some (.builtin "object.__class__")))
  (eo_eW:W.mroIn K eW (.type "object")=some true)
  (eb_eW:W.subIn K (.ref eW) (.type "BaseException")=some true)
  (cX_eW:W.clsIn K eW=some cd_eW)
  (exmX_eW:W.exmOne K (.ref eW) (.ref eC)=some true)
  (kX_eW_0:W.kitOne K (.ref eW) (.type "ValueError")=some true)
  (kX_eW_1:W.kitOne K (.ref eW) (.ref eB)=some false)
  (kX_eW_2:W.kitOne K (.ref eW) (.ref eT)=some false)
  (kX_eW_3:W.kitOne K (.ref eW) (.ref eM)=some false)
  (kX_eW_4:W.kitOne K (.ref eW) (.ref eU)=some false)
  (kX_eW_5:W.kitOne K (.ref eW) (.ref eL)=some false)
  (kX_eW_6:W.kitOne K (.ref eW) (.ref eW)=some true)
  (gHOME:kX K "HOME" (some (.int (-1) tkH)))
  (xbi:W.plainGet K cO Str.empty=true)
  (xaz:W.hasDictIn K cO=true)
  (xbj:W.plainOver K cO=true)
  (xbk:j0 K cO "__setattr__" (some (.builtin "object.__setattr__")))
  (xbl:W.makesIn K cO=true)
  (xbm:W.keepIn K (.ref cO)=true)
  (nO_kept_canal:j0 K cO "kept_canal" none)
  (nO_kept_names:j0 K cO "kept_names" none)
  (nO_kept_ways:j0 K cO "kept_ways" none)
  (nO_kept_state:j0 K cO "kept_state" none)
  (nO_kept_pours:j0 K cO "kept_pours" none)
  (nO_kept_words:j0 K cO "kept_words" none)
  (nO_kept_entries:j0 K cO "kept_entries" none)
  (gLETTERS:kX K "LETTERS" (some (.str vW Q9)))
  (gMOST_SIGNS:kX K "MOST_SIGNS" (some (.int 12 ZB)))
  (gMOST_BOATS:kX K "MOST_BOATS" (some (.int 9 ZA))) :
  ∃fd:FuncData,(∀(s:Shared) (v:Value),BindsTo s fd ⟨[v],[]⟩ [("script",v)])∧∀base:Heap,K.In base→base.Ns mainGlobals mg→FnOk l.prog w K mg base jO 12 fa fd ["script"] (eJ K):=by
 have e:=hfa.symm.trans (aF X G a64);cases e;obtain ⟨_,_,a0,F0⟩:=p0;obtain ⟨_,_,a1,F1⟩:=p1;obtain ⟨_,_,a2,F2⟩:=p2;obtain ⟨_,_,a3,F3⟩:=p3;obtain ⟨_,_,a4,F4⟩:=p4;obtain ⟨_,_,a5,F5⟩:=p5;obtain ⟨_,F6⟩:=p6;have k6:=F6.kp;have b6:=F6.binds (ps:=["self","name","high","low","room"]) fun _ _ _ _ _ _=>nO fun _ _ _ _ _=>rfl
 obtain ⟨_,F7⟩:=p7;have k7:=F7.kp;have b7:=F7.binds (ps:=["self","name","high","low","room","side"]) fun _ _ _ _ _ _=>nN fun _ _ _ _ _ _=>rfl
 obtain ⟨_,F8⟩:=p8;have k8:=F8.kp;have b8:=F8.binds (ps:=["self","name","high","low","room","lift"]) fun _ _ _ _ _ _=>nN fun _ _ _ _ _ _=>rfl
 obtain ⟨_,F9⟩:=p9;have k9:=F9.kp;have b9:=F9.binds (ps:=["self","name","least","crest","berths","water","target"]) fun _ _ _ _ _ _=>K5 fun _ _ _ _ _ _ _=>rfl
 have F10:=GJ (st:=QG) (ds:=[.none]) (n:=dn0) l10 c10 k10 lT10 (by first|exact dT10|rfl);have b10:Binds K _ ["self","reaches","locks","nights"] []:=F10.binds [] 4 rfl fun _ _ _ _ _ _ _=>nP fun _ _ _ _=>⟨_,rfl,rfl⟩
 have b10_1:Binds K _ ["self","reaches","locks","nights"] [.none]:=F10.binds [.none] 3 rfl fun _ _ _ _ _ _ _=>ZY fun _ _ _=>⟨_,rfl,rfl⟩
 obtain ⟨_,_,a11,i11,F11⟩:=p11;obtain ⟨_,_,a12,i12,F12⟩:=p12;obtain ⟨_,_,a13,i13,F13⟩:=p13;obtain ⟨_,_,a14,i14,F14⟩:=p14;obtain ⟨_,_,a15,i15,F15⟩:=p15;obtain ⟨_,_,a16,F16⟩:=p16;obtain ⟨_,_,a17,F17⟩:=p17;obtain ⟨_,_,a18,F18⟩:=p18;obtain ⟨_,_,a19,F19⟩:=p19;obtain ⟨_,_,a20,F20⟩:=p20;obtain ⟨_,_,a21,F21⟩:=p21;obtain ⟨_,_,a22,F22⟩:=p22;obtain ⟨_,_,a23,i23,F23⟩:=p23;have k23:=F23.kp;have b23:=F23.binds (ps:=["self","name"]) fun _ _ _ _ _ _=>yL fun _ _=>rfl
 obtain ⟨_,_,a24,i24,F24⟩:=p24;have k24:=F24.kp;have b24:=F24.binds (ps:=["self","name"]) fun _ _ _ _ _ _=>yL fun _ _=>rfl
 obtain ⟨_,_,a25,F25⟩:=p25;obtain ⟨_,_,a26,i26,F26⟩:=p26;obtain ⟨_,_,a27,i27,F27⟩:=p27;obtain ⟨_,_,a28,i28,F28⟩:=p28;obtain ⟨_,_,a29,i29,F29⟩:=p29;obtain ⟨_,_,a30,i30,F30⟩:=p30;obtain ⟨_,_,a31,i31,F31⟩:=p31;obtain ⟨_,_,a32,i32,F32⟩:=p32;obtain ⟨_,_,a33,i33,F33⟩:=p33;have b33:=F33.binds (ps:=["self","canal"]) fun _ _ _ _ _ _=>yL fun _ _=>rfl
 obtain ⟨_,_,a34,F34⟩:=p34;obtain ⟨_,_,a35,F35⟩:=p35;obtain ⟨_,_,a36,F36⟩:=p36;obtain ⟨_,_,a37,F37⟩:=p37;obtain ⟨_,_,a38,F38⟩:=p38;obtain ⟨_,_,a39,F39⟩:=p39;obtain ⟨_,_,a40,F40⟩:=p40;obtain ⟨_,_,a41,F41⟩:=p41;obtain ⟨_,_,a42,F42⟩:=p42;obtain ⟨_,_,a43,F43⟩:=p43;obtain ⟨_,_,a44,i44,F44⟩:=p44;have k44:=F44.kp;have b44:=F44.binds (ps:=["self","entry"]) fun _ _ _ _ _ _=>yL fun _ _=>rfl
 obtain ⟨_,_,a45,i45,F45⟩:=p45;have k45:=F45.kp;have b45:=F45.binds (ps:=["self","entry"]) fun _ _ _ _ _ _=>yL fun _ _=>rfl
 obtain ⟨_,_,a46,i46,F46⟩:=p46;have k46:=F46.kp;have b46:=F46.binds (ps:=["self","entry"]) fun _ _ _ _ _ _=>yL fun _ _=>rfl
 obtain ⟨_,_,a47,F47⟩:=p47;obtain ⟨_,_,a48,F48⟩:=p48;obtain ⟨_,_,a49,F49⟩:=p49;obtain ⟨_,_,a50,F50⟩:=p50;obtain ⟨_,_,a51,F51⟩:=p51;obtain ⟨_,_,a52,F52⟩:=p52;obtain ⟨_,_,a53,F53⟩:=p53;obtain ⟨_,_,a54,F54⟩:=p54;obtain ⟨_,_,a55,F55⟩:=p55;obtain ⟨_,_,a56,F56⟩:=p56;obtain ⟨_,_,a57,F57⟩:=p57;obtain ⟨_,_,a58,F58⟩:=p58;obtain ⟨_,_,a59,F59⟩:=p59;obtain ⟨_,_,a60,F60⟩:=p60;obtain ⟨_,_,a61,F61⟩:=p61;obtain ⟨_,_,a62,F62⟩:=p62;obtain ⟨_,_,a63,F63⟩:=p63;have F64:=b0 (st:=zV) l64 c64 k64;have b64:=F64.binds (ps:=["script"]) fun _ _ _ _ _ _=>bT fun _=>rfl
 refine ⟨W.fnOf "law" "law" (qW zV) (kY zV) (jT zV) .none kV64 dc64 pm64 an64 cd64 ct64,fun s v=>.of_eq rfl,fun base _ _=>?_⟩;have T:Txt l.prog w base K mg cP cB cU cR cN tkS eC eB eT eM eU eL eW tkH cO Q9 ZB ZA:={xi:=aY X G xi,xl:=aY X G xl,ja:=aY X G ja,xk:=aY X G xk,xh:=aY X G xh,jb:=aY X G jb,xo:=aY X G xo,jc:=aY X G jc,ve:=aY X G ve,xb:=aY X G xb,xm:=aY X G xm,cl:=fun kd=>match kd with|.plain=>⟨xaT,xau,xaU,xaV⟩|.basin=>⟨xaY,xav,xaZ,xa0⟩|.pump=>⟨xa3,xaw,xa4,xa5⟩,wd:=fun kd=>match kd with|.plain=>uh|.basin=>uk|.pump=>uq,zr:=fun kd=>match kd with|.plain=>ui|.basin=>ul|.pump=>ur,vv:=fun kd=>match kd with|.plain=>jn|.basin=>jo|.pump=>jp,xan:=fun kd=>match kd with|.plain=>uj|.basin=>um|.pump=>ut,xao:=uo,xap:=uu,zu:=aF X G xaN,vw:=aF X G xaO,we:=aF X G xaP,clR:=⟨xa8,xax,xa9,xba⟩,xy:=xy,zi:=zi,za:=za,xp:=xp,zc:=zc,xq:=xq,xah:=aF X G xaQ,clN:=⟨xbd,xay,xbe,xbf⟩,xf:=xf,xc:=xc,xv:=xv,xai:=aF X G xaR,xaK:=aF X G gSEA,vf:=aF X G zh,wf:=aF X G vo,ji:=aF X G ug,vj:=aF X G va,vk:=aF X G vb,zv:=aF X G zp,wg:=aF X G vp,jt:=vq,xaj:=uv,jd:=vc,je:=vd,vx:=zq,ju:=vt,at_BadRow:=⟨eg_eB,en_eB,ec_eB,eo_eB,eb_eB⟩,jf:=by rw [cX_eB];rfl,exm_BadRow:=exmX_eB,k_BadRow_ValueError:=kX_eB_0,k_BadRow_BadRow:=kX_eB_1,k_BadRow_Twice:=kX_eB_2,k_BadRow_TooMany:=kX_eB_3,k_BadRow_Unknown:=kX_eB_4,k_BadRow_NotLinked:=kX_eB_5,k_BadRow_NotNow:=kX_eB_6,at_Twice:=⟨eg_eT,en_eT,ec_eT,eo_eT,eb_eT⟩,jv:=by rw [cX_eT];rfl,exm_Twice:=exmX_eT,k_Twice_ValueError:=kX_eT_0,k_Twice_BadRow:=kX_eT_1,k_Twice_Twice:=kX_eT_2,k_Twice_TooMany:=kX_eT_3,k_Twice_Unknown:=kX_eT_4,k_Twice_NotLinked:=kX_eT_5,k_Twice_NotNow:=kX_eT_6,at_TooMany:=⟨eg_eM,en_eM,ec_eM,eo_eM,eb_eM⟩,wj:=by rw [cX_eM];rfl,exm_TooMany:=exmX_eM,k_TooMany_ValueError:=kX_eM_0,k_TooMany_BadRow:=kX_eM_1,k_TooMany_Twice:=kX_eM_2,k_TooMany_TooMany:=kX_eM_3,k_TooMany_Unknown:=kX_eM_4,k_TooMany_NotLinked:=kX_eM_5,k_TooMany_NotNow:=kX_eM_6,at_Unknown:=⟨eg_eU,en_eU,ec_eU,eo_eU,eb_eU⟩,wk:=by rw [cX_eU];rfl,exm_Unknown:=exmX_eU,k_Unknown_ValueError:=kX_eU_0,k_Unknown_BadRow:=kX_eU_1,k_Unknown_Twice:=kX_eU_2,k_Unknown_TooMany:=kX_eU_3,k_Unknown_Unknown:=kX_eU_4,k_Unknown_NotLinked:=kX_eU_5,k_Unknown_NotNow:=kX_eU_6,at_NotLinked:=⟨eg_eL,en_eL,ec_eL,eo_eL,eb_eL⟩,vg:=by rw [cX_eL];rfl,exm_NotLinked:=exmX_eL,k_NotLinked_ValueError:=kX_eL_0,k_NotLinked_BadRow:=kX_eL_1,k_NotLinked_Twice:=kX_eL_2,k_NotLinked_TooMany:=kX_eL_3,k_NotLinked_Unknown:=kX_eL_4,k_NotLinked_NotLinked:=kX_eL_5,k_NotLinked_NotNow:=kX_eL_6,at_NotNow:=⟨eg_eW,en_eW,ec_eW,eo_eW,eb_eW⟩,jg:=by rw [cX_eW];rfl,exm_NotNow:=exmX_eW,k_NotNow_ValueError:=kX_eW_0,k_NotNow_BadRow:=kX_eW_1,k_NotNow_Twice:=kX_eW_2,k_NotNow_TooMany:=kX_eW_3,k_NotNow_Unknown:=kX_eW_4,k_NotNow_NotLinked:=kX_eW_5,k_NotNow_NotNow:=kX_eW_6,xaq:=aF X G gHOME,clO:=⟨xbi,xaz,xbj,xbk⟩,nO_kept_canal:=nO_kept_canal,nO_kept_names:=nO_kept_names,nO_kept_ways:=nO_kept_ways,nO_kept_state:=nO_kept_state,nO_kept_pours:=nO_kept_pours,nO_kept_words:=nO_kept_words,nO_kept_entries:=nO_kept_entries,xar:=aF X G xaS,jh:=aF X G gLETTERS,vh:=aF X G gMOST_SIGNS,vi:=aF X G gMOST_BOATS}
 have D0:=yV X G a0 F0 (AI T F0);have D1:=QC X G a1 F1 (AG T F1);have D2:=nV X G a2 F2 (AC T F2);have D3:=yV X G a3 F3 (AO T F3 D2 D1);have D4:=yV X G a4 F4 (AN T F4 D3 D2);have D5:=yV X G a5 F5 (AM T F5 D0 D4);have G6:=xI T F6;have jq:MkD l.prog w K mg base 1 "PlainLock" cP ["self","name","high","low","room"] (ZH (jH cP cB cU)):=⟨T.zu,_,_,⟨xaW,a6,i6,xaX⟩,G6,b6⟩;have CM6:CmD l.prog w K mg base 1 "PlainLock" cP "__init__" ["self","name","high","low","room"] (ZH (jH cP cB cU)):=⟨T.zu,_,_,⟨g1,g2,ac6,k6⟩,G6,b6⟩;have G7:=wT T F7 CM6;have jr:MkD l.prog w K mg base 2 "BasinLock" cB ["self","name","high","low","room","side"] (ZG (jH cP cB cU) .basin):=⟨T.vw,_,_,⟨xa1,a7,i7,xa2⟩,G7,b7⟩;have G8:=xJ T F8 CM6;have xab:MkD l.prog w K mg base 2 "PumpLock" cU ["self","name","high","low","room","lift"] (ZG (jH cP cB cU) .pump):=⟨T.we,_,_,⟨xa6,a8,i8,xa7⟩,G8,b8⟩;have G9:=xK T F9;have xaA:MkD l.prog w K mg base 1 "Reach" cR ["self","name","least","crest","berths","water","target"] (iU cR):=⟨T.xah,_,_,⟨xbb,a9,i9,xbc⟩,G9,b9⟩;have G10:=xA T F10;have xaB:MkD l.prog w K mg base 1 "Canal" cN ["self","reaches","locks","nights"] (iV (jH cP cB cU) cR cN):=⟨T.xai,_,_,⟨xbg,a10,i10,xbh⟩,G10,b10⟩;have G11:=xE T F11;have xaC:=zB T.clN a11 i11 F11 G11;have G12:=xF T F12 xaC;have xbn:=zB T.clN a12 i12 F12 G12;have G13:=xC T F13 xbn;have xaI:=zB T.clN a13 i13 F13 G13;have G14:=xH T F14 xaC;have xaD:=zB T.clN a14 i14 F14 G14;have G15:=xG T F15 xaI D5 xaD;have xac:=zB T.clN a15 i15 F15 G15;have D16:=yV X G a16 F16 (AR T F16);have GX17:=(AE T F17 D16);have DX17:=LH X G a17 F17 GX17;have D17:=QC X G a17 F17 (GX17.noX (sp':=lD K (jH cP cB cU) cR cN) C9);have D18:=yV X G a18 F18 (AS T F18);have D19:=QC X G a19 F19 (AJ T F19 D18 D17);have D20:=QB X G a20 F20 (AF T F20 D19);have D21:=yV X G a21 F21 (x8 T F21 xac);have GX22:=(AH T F22);have DX22:=Z0 X G a22 F22 GX22;have G23:=xD T F23 DX22;have GX23:=G23;have MXN_reach_at:MeX l.prog w K mg base 2 cN "reach_at" ["self","name"] (QR (jH cP cB cU) cR cN eU 0):=⟨T.clN,_,_,⟨a23,i23,k23⟩,GX23,b23⟩;have G24:=xB T F24 DX22;have GX24:=G24;have MXN_lock_at:MeX l.prog w K mg base 2 cN "lock_at" ["self","name"] (QR (jH cP cB cU) cR cN eU 1):=⟨T.clN,_,_,⟨a24,i24,k24⟩,GX24,b24⟩;have GX25:=(AT T F25 MXN_reach_at MXN_lock_at);have DX25:=Z0 X G a25 F25 GX25;have G26:=wW T F26;have MB_canal:=zB T.clO a26 i26 F26 G26;have G27:=w8 T F27;have MB_state:=zB T.clO a27 i27 F27 G27;have G28:=w6 T F28;have MB_names:=zB T.clO a28 i28 F28 G28;have G29:=w9 T F29;have MB_ways:=zB T.clO a29 i29 F29 G29;have G30:=w5 T F30;have MB_ledger:=zB T.clO a30 i30 F30 G30;have G31:=wY T F31;have MB_entries:=zB T.clO a31 i31 F31 G31;have G32:=w4 T F32;have MB_gatework:=zB T.clO a32 i32 F32 G32;have G33:=wU T F33 D21;have xaJ:MkD l.prog w K mg base 7 "Book" cO ["self","canal"] (i4 (jH cP cB cU) cR cN cO):=⟨T.xar,_,_,⟨xbl,a33,i33,xbm⟩,G33,b33⟩;have D34:=yV X G a34 F34 (AX T F34);have D35:=nV X G a35 F35 (AB T F35 D34);have GX36:=(AL T F36 D35 MB_names DX25 MB_canal DX17);have DX36:=Z0 X G a36 F36 GX36
 have GX37:=(AK T F37 DX36);have DX37:=Z0 X G a37 F37 GX37;have D38:=QB X G a38 F38 (AA T F38 D20);have GX39:=(AV T F39 MXN_reach_at MB_canal D38 MB_ways MB_state);have DX39:=Z0 X G a39 F39 GX39;have D40:=yV X G a40 F40 (x9 T F40 MB_canal);have D41:=yV X G a41 F41 (AW T F41);have GX42:=(AU T F42 MB_ways DX25 MB_canal);have DX42:=Z0 X G a42 F42 GX42;have D43:=yV X G a43 F43 (AQ T F43 MB_state D0 D40);have G44:=wZ T F44 DX37 DX39;have GX44:=G44;have MXB_fault:MeX l.prog w K mg base 7 cO "fault" ["self","entry"] (dR (jH cP cB cU) cR cN cO eB eT eM eU eL):=⟨T.clO,_,_,⟨a44,i44,k44⟩,GX44,b44⟩;have G45:=wV T F45 MXB_fault D43 DX42;have GX45:=G45;have MXB_behind:MeX l.prog w K mg base 8 cO "behind" ["self","entry"] (dM (jH cP cB cU) cR cN cO eB eT eM eU eL eW):=⟨T.clO,_,_,⟨a45,i45,k45⟩,GX45,b45⟩;have G46:=wX T F46 MXB_behind D40 D41;have GX46:=G46;have MXB_do:MeX l.prog w K mg base 9 cO "do" ["self","entry"] (nB (jH cP cB cU) cR cN cO eB eT eM eU eL eW):=⟨T.clO,_,_,⟨a46,i46,k46⟩,GX46,b46⟩;have D47:=QC X G a47 F47 (xP T F47);have D48:=nV X G a48 F48 (xZ T F48);have D49:=QC X G a49 F49 (xS T F49 D47);have D50:=QB X G a50 F50 (xU T F50 D47 xaA);have D51:=wI X G a51 F51 (xR T F51 D47 jr xab jq);have D52:=QB X G a52 F52 (x6 T F52 D47);have D53:=QB X G a53 F53 (xN T F53 D48 D47 D49 D52 D50 xaB D51);have D54:=yV X G a54 F54 (xY T F54);have D55:=QB X G a55 F55 (x0 T F55 D47 D54);have D56:=QC X G a56 F56 (xO T F56);have D57:=LI X G a57 F57 (xV T F57);have D58:=QC X G a58 F58 (xM T F58 MXB_fault MXB_behind MXB_do D57);have D59:=QC X G a59 F59 (xW T F59 D47);have D60:=yV X G a60 F60 (xL T F60);have D61:=QB X G a61 F61 (xQ T F61 D60);have D62:=QB X G a62 F62 (xX T F62 MB_gatework MB_ledger MB_ways MB_names MB_state xac);have D63:=wI X G a63 F63 (xT T F63 D61 D58 D62 D60);have G64:=AD T F64 D53 xaJ D49 D47 D56 D55 D63 D59 MB_entries;exact G64
theorem walk {l:W.OpenLaw} {q:Program} {loose:List Str} {XP:(Str→Option Value)→Heap→Prop} {YP:World→Heap→Prop} {d:DefRec} {K:Params→W.Frag} (hn:l.most=some 63) (hdf:d.params.defaults=[])
  (hY:∀(w:World) (h:Heap),YP w h→(K w.params).In h)
  (F:∀(w:World) (mg:Str→Option Value) (fa:Addr) (h:Heap),(K w.params).In h→h.Ns mainGlobals mg→mg d.name=some (.ref fa)→
   ∃fd:FuncData,(∀(s:Shared) (u:Value),BindsTo s fd ⟨[u],[]⟩ [("script",u)])∧∀base:Heap,(K w.params).In base→base.Ns mainGlobals mg→FnOk l.prog w (K w.params) mg base jO 12 fa fd ["script"] (eJ (K w.params))) :
  W.WalkO q loose XP YP l.row.toRowW d [] (fun f vs=>PySem.call f vs) :=
 L2.walk_of (n:=63) (k:=12) (x:="script") (CX:=fun _=>jO) (sp:=fun w=>eJ (K w.params)) hn (by decide) hdf ⟨rfl,by decide,by decide⟩ hY F (fun _ _ a ns hl _ hS=>⟨a,ns,rfl,hS,hl,fun _=>rfl⟩) fun _ _ _ _ _ z=>z
end My
/- These names are taken here so that the head below leaves out its twins of whole states (they are not needed,and make the compiled file larger than a hand-in may be). -/
namespace PySem.W.Fast
def tw6301661979424163850:Nat:=0
def tw16930381544704970328:Nat:=0
def tw10045684417467726484:Nat:=0
def tw14095588897900424731:Nat:=0
def tw2481106117174610829:Nat:=0
def tw2606610847114911355:Nat:=0
def tw3601541398153412750:Nat:=0
def tw1133123512893708457:Nat:=0
def tw156698828202650447:Nat:=0
def tw13647891302410714312:Nat:=0
def tw8642284551148895339:Nat:=0
def tw7290981351295015684:Nat:=0
def tw11638266327939976089:Nat:=0
def tw3391142525239103398:Nat:=0
def tw9137651094783023028:Nat:=0
def tw8212866526857677932:Nat:=0
def tw18232727754981400223:Nat:=0
def tw12331520267716000234:Nat:=0
def tw16680612516538238311:Nat:=0
def tw3029459547451982306:Nat:=0
def tw7828534070516350722:Nat:=0
def tw2537899641076982571:Nat:=0
def tw1773595079345901885:Nat:=0
def tw6283679812090814297:Nat:=0
def tw11598226720284350635:Nat:=0
def tw15382577469479097887:Nat:=0
def tw16963410362206608065:Nat:=0
def tw8512509282930217106:Nat:=0
def tw7687489707301332791:Nat:=0
def tw12389271691961206302:Nat:=0
def tw15923136833624178497:Nat:=0
def tw9338609318285414734:Nat:=0
def tw2698039771632778674:Nat:=0
def tw8212279526855957514:Nat:=0
def tw6671990386044560134:Nat:=0
def tw11804982195310693011:Nat:=0
def tw1958543777099312534:Nat:=0
def tw10031419213502614427:Nat:=0
def tw11101998004482895083:Nat:=0
def tw15290294690566392198:Nat:=0
def tw33602883280355480:Nat:=0
def tw5825530091129535109:Nat:=0
def tw15464632748003871122:Nat:=0
def tw10227758043798191522:Nat:=0
def tw852690742951806648:Nat:=0
def tw14482613110773328660:Nat:=0
def tw11734425941566067569:Nat:=0
def tw5489964785139470719:Nat:=0
def tw6388151625907481897:Nat:=0
def tw12386767747659902981:Nat:=0
def tw7537712429105048456:Nat:=0
def tw6630034543543218206:Nat:=0
def tw16369471463628008623:Nat:=0
def tw16497087848746967855:Nat:=0
def tw11633568018855868233:Nat:=0
def tw12609170726990444019:Nat:=0
def tw387218386681471319:Nat:=0
def tw7198823849817530162:Nat:=0
def tw444860884876249997:Nat:=0
def tw1300572165905139960:Nat:=0
def tw3776651701572083822:Nat:=0
def tw8903088711032762885:Nat:=0
def tw10639586484482272091:Nat:=0
def tw12701770784581119002:Nat:=0
def tw7528059728514171195:Nat:=0
def tw1868913887589117745:Nat:=0
def tw2954307270720579288:Nat:=0
def tw7873601595405399564:Nat:=0
def tw10715435527913654312:Nat:=0
def tw5763268327792393452:Nat:=0
def tw10924397602416652120:Nat:=0
def tw8445671403609956463:Nat:=0
def tw11356560163920452625:Nat:=0
def tw11364303608762614125:Nat:=0
def tw12387515427748698452:Nat:=0
def tw8372717665257335429:Nat:=0
def tw5669414570586535326:Nat:=0
def tw7986005531147820318:Nat:=0
def tw7180079741772813385:Nat:=0
def tw16419052580104580013:Nat:=0
def tw128512743538468727:Nat:=0
def tw2609536069132455661:Nat:=0
def tw16617955324364234440:Nat:=0
def tw18053505588975839987:Nat:=0
def tw1768016614055092175:Nat:=0
def tw4478598585178430202:Nat:=0
def tw1224892071012033741:Nat:=0
def tw7776976476785287372:Nat:=0
def tw5956775068413901146:Nat:=0
def tw2006187336164926439:Nat:=0
def tw5057925173401739675:Nat:=0
def tw8535199660664722644:Nat:=0
def tw3107152857377448225:Nat:=0
def tw3636268667535356000:Nat:=0
def tw346507073527002476:Nat:=0
def tw7861442861106343084:Nat:=0
def tw8296266106297948240:Nat:=0
def tw5025879969709094488:Nat:=0
def tw17594651600101870446:Nat:=0
def tw12002316903049978746:Nat:=0
def tw15068676455601739734:Nat:=0
def tw10682731058989278546:Nat:=0
def tw10224266080963934282:Nat:=0
def tw5666370341022573545:Nat:=0
def tw16963196683817220724:Nat:=0
def tw6371763307927644155:Nat:=0
def tw15711550029720889039:Nat:=0
def tw12697138829866204853:Nat:=0
def tw4283073956721432769:Nat:=0
def tw13781907276406853261:Nat:=0
def tw18363753474373263265:Nat:=0
def tw11919369934685066245:Nat:=0
def tw11156917088003305271:Nat:=0
def tw16286262350788642613:Nat:=0
def tw17755792938983071058:Nat:=0
def tw11551406812968408295:Nat:=0
def tw3926922555037297566:Nat:=0
def tw4709315917943426972:Nat:=0
def tw14642009901042358511:Nat:=0
def tw12130521411364066322:Nat:=0
def tw14332509213364535037:Nat:=0
def tw8669652303450069378:Nat:=0
def tw9504123043996364139:Nat:=0
def tw8596082392675756041:Nat:=0
def tw14128724406592724759:Nat:=0
def tw7178508925801088808:Nat:=0
def tw11836191775000724874:Nat:=0
def tw14863503560380079821:Nat:=0
def tw14134413344291441462:Nat:=0
def tw4554438085668638788:Nat:=0
def tw14177457003039259733:Nat:=0
def tw2165984227288899291:Nat:=0
def tw7484263895854219271:Nat:=0
def tw15610402793394225461:Nat:=0
def tw5213079849147670356:Nat:=0
def tw14871029708768731307:Nat:=0
def tw1769082681380297275:Nat:=0
def tw2548558448178155691:Nat:=0
def tw8316142455889626231:Nat:=0
def tw17820027810138639242:Nat:=0
def tw6729076029783257150:Nat:=0
def tw15184572082145107736:Nat:=0
def tw11947448926528951745:Nat:=0
def tw17728382556151413445:Nat:=0
def tw15468387667413579225:Nat:=0
def tw3016174261827666185:Nat:=0
def tw747848881495630255:Nat:=0
def tw11209646853132384542:Nat:=0
def tw4603435202349944847:Nat:=0
def tw31379868017234750:Nat:=0
def tw9591881214709063456:Nat:=0
def tw2825509643442233684:Nat:=0
def tw6461956825091520483:Nat:=0
def tw4347213875526454522:Nat:=0
def tw2197319535470459116:Nat:=0
def tw15907492284416000988:Nat:=0
def tw2276540025016147615:Nat:=0
def tw6556769969450300278:Nat:=0
def tw408921187001547358:Nat:=0
def tw6785325909776584626:Nat:=0
def tw13637822674701662585:Nat:=0
def tw4882241047560829857:Nat:=0
def tw13152473249261511213:Nat:=0
def tw6180794366785803421:Nat:=0
def tw16000007410443214889:Nat:=0
def tw9002597575147483292:Nat:=0
def tw17099078456845417155:Nat:=0
def tw9523480450749336112:Nat:=0
def tw15202120351757311135:Nat:=0
def tw16140375395815658012:Nat:=0
def tw1732220806478138542:Nat:=0
def tw17310934227964808343:Nat:=0
def tw13021922159660069368:Nat:=0
def tw10669626774513942962:Nat:=0
def tw4327674818018839888:Nat:=0
def tw2220680930156849483:Nat:=0
def tw3331142487348261656:Nat:=0
def tw17515941889395324018:Nat:=0
def tw8605297093072626088:Nat:=0
def tw17958123878905500787:Nat:=0
def tw5461661036782629863:Nat:=0
def tw18376161445063983667:Nat:=0
def tw9627480803865225807:Nat:=0
def tw11201276037955972141:Nat:=0
def tw12365852826757860669:Nat:=0
def tw14138391167216863952:Nat:=0
def tw18017432442907955411:Nat:=0
def tw12090673431814994371:Nat:=0
def tw5922192359692378983:Nat:=0
def tw17216170582724360861:Nat:=0
def tw16821623653291358633:Nat:=0
def tw17612256650441654323:Nat:=0
def tw14573343863951560988:Nat:=0
def tw16576691376877104275:Nat:=0
def tw9550072102348377884:Nat:=0
def tw543317862060078698:Nat:=0
def tw1333136488232983075:Nat:=0
def tw8453791665265133290:Nat:=0
def tw13473287290986167899:Nat:=0
def tw902211625232214527:Nat:=0
def tw9107657605347175600:Nat:=0
def tw13224897710070414246:Nat:=0
def tw3268535079319124310:Nat:=0
def tw4368876462901679618:Nat:=0
def tw14971438420372563005:Nat:=0
def tw5809620691631180002:Nat:=0
def tw10573775315876469867:Nat:=0
def tw15123099942793808358:Nat:=0
def tw3550591524100692193:Nat:=0
def tw9992416946194763522:Nat:=0
def tw9556673097246647632:Nat:=0
def tw716582924928477956:Nat:=0
def tw6430208278246727551:Nat:=0
def tw16430552779227345271:Nat:=0
def tw13236531212686897345:Nat:=0
def tw623032875598065895:Nat:=0
def tw11949822780738230072:Nat:=0
def tw17210477836176039240:Nat:=0
def tw10097866061757993773:Nat:=0
def tw6590755792934543322:Nat:=0
def tw2620596931105372335:Nat:=0
def tw3946688831977112220:Nat:=0
def tw16753743641961841996:Nat:=0
def tw9658506034915941619:Nat:=0
def tw15998730812137463799:Nat:=0
def tw12290135795064087207:Nat:=0
def tw11195037251165998614:Nat:=0
def tw7709849298512526718:Nat:=0
def tw2190942532243844330:Nat:=0
def tw18279431429870815462:Nat:=0
def tw8146174358157850394:Nat:=0
def tw10963446644055650488:Nat:=0
def tw6100353917055825268:Nat:=0
def tw1537334260294250584:Nat:=0
def tw9129558629396589088:Nat:=0
def tw9938881284244120922:Nat:=0
def tw4560468265513794178:Nat:=0
def tw17149558360133910236:Nat:=0
def tw15213271059596549638:Nat:=0
def tw5832010581722867826:Nat:=0
def tw14463107757968347673:Nat:=0
def tw892228345008975968:Nat:=0
def tw12398414459713811181:Nat:=0
def tw7187539723275851472:Nat:=0
end PySem.W.Fast
open PySem PySem.W PyProof.Rows
set_option maxRecDepth 100000 in
set_option maxHeartbeats 0 in
theorem PySem.Challenge.cw_lockhouse_k61_a_boat_comes_holds : PySem.Challenge.rw_lockhouse_k61_a_boat_comes.Holds := by
 w_on;o_law;k_head;(case hw=>w_witness2)
 k_fill
 refine My.walk (l:=PySem.Challenge.rw_lockhouse_k61_a_boat_comes) rfl rfl (fun w h Y=>PySem.W.kIn_of Y) ?F
 case F =>
  intro w mg fa h KX G hmg
  refine' My.all_mk KX G hmg ?xaN ?xaO ?xaP ?xaQ ?xaR ?zh ?vo ?ug ?va ?vb ?zp ?vp ?xaS ?p0 ?p1 ?p2 ?p3 ?p4 ?p5 ?a6 ?i6 ?ac6 ?p6 ?a7 ?i7 ?p7 ?a8 ?i8 ?p8 ?a9 ?i9 ?p9 ?a10 ?i10 ?l10 ?c10 ?k10 ?lT10 ?dT10 ?p11 ?p12 ?p13 ?p14 ?p15 ?p16 ?p17 ?p18 ?p19 ?p20 ?p21 ?p22 ?p23 ?p24 ?p25 ?p26 ?p27 ?p28 ?p29 ?p30 ?p31 ?p32 ?p33 ?p34 ?p35 ?p36 ?p37 ?p38 ?p39 ?p40 ?p41 ?p42 ?p43 ?p44 ?p45 ?p46 ?p47 ?p48 ?p49 ?p50 ?p51 ?p52 ?p53 ?p54 ?p55 ?p56 ?p57 ?p58 ?p59 ?p60 ?p61 ?p62 ?p63 ?a64 ?l64 ?c64 ?k64 ?xi ?xl ?ja ?xk ?xh ?jb ?xo ?jc ?ve ?xb ?xm ?xaT ?xau ?xaU ?xaV ?xaW ?xaX ?uh ?ui ?jn ?uj ?xaY ?xav ?xaZ ?xa0 ?xa1 ?xa2 ?uk ?ul ?jo ?um ?uo ?xa3 ?xaw ?xa4 ?xa5 ?xa6 ?xa7 ?uq ?ur ?jp ?ut ?uu ?g1 ?g2 ?xa8 ?xax ?xa9 ?xba ?xbb ?xbc ?xy ?zi ?za ?xp ?zc ?xq ?xbd ?xay ?xbe ?xbf ?xbg ?xbh ?xf ?xc ?xv ?gSEA ?vq ?uv ?vc ?vd ?zq ?vt ?eg_eB ?en_eB ?ec_eB ?eo_eB ?eb_eB ?cX_eB ?exmX_eB ?kX_eB_0 ?kX_eB_1 ?kX_eB_2 ?kX_eB_3 ?kX_eB_4 ?kX_eB_5 ?kX_eB_6 ?eg_eT ?en_eT ?ec_eT ?eo_eT ?eb_eT ?cX_eT ?exmX_eT ?kX_eT_0 ?kX_eT_1 ?kX_eT_2 ?kX_eT_3 ?kX_eT_4 ?kX_eT_5 ?kX_eT_6 ?eg_eM ?en_eM ?ec_eM ?eo_eM ?eb_eM ?cX_eM ?exmX_eM ?kX_eM_0 ?kX_eM_1 ?kX_eM_2 ?kX_eM_3 ?kX_eM_4 ?kX_eM_5 ?kX_eM_6 ?eg_eU ?en_eU ?ec_eU ?eo_eU ?eb_eU ?cX_eU ?exmX_eU ?kX_eU_0 ?kX_eU_1 ?kX_eU_2 ?kX_eU_3 ?kX_eU_4 ?kX_eU_5 ?kX_eU_6 ?eg_eL ?en_eL ?ec_eL ?eo_eL ?eb_eL ?cX_eL ?exmX_eL ?kX_eL_0 ?kX_eL_1 ?kX_eL_2 ?kX_eL_3 ?kX_eL_4 ?kX_eL_5 ?kX_eL_6 ?eg_eW ?en_eW ?ec_eW ?eo_eW ?eb_eW ?cX_eW ?exmX_eW ?kX_eW_0 ?kX_eW_1 ?kX_eW_2 ?kX_eW_3 ?kX_eW_4 ?kX_eW_5 ?kX_eW_6 ?gHOME ?xbi ?xaz ?xbj ?xbk ?xbl ?xbm ?nO_kept_canal ?nO_kept_names ?nO_kept_ways ?nO_kept_state ?nO_kept_pours ?nO_kept_words ?nO_kept_entries ?gLETTERS ?gMOST_SIGNS ?gMOST_BOATS
  (case xaN|xaO|xaP|xaQ|xaR|zh|vo|ug|va|vb|zp|vp|xaS|a64|xi|xl|ja|xk|xh|jb|xo|jc|ve|xb|xm|gSEA|gHOME|gLETTERS|gMOST_SIGNS|gMOST_BOATS=>refine' L2.nsP_mk ?_;first|k_is|k_exc|kit_is|kts_exm|rfl)
  (case a6|a7|a8|a9|a10|xaV|uh|ui|jn|uj|xa0|uk|ul|jo|um|uo|xa5|uq|ur|jp|ut|uu|xba|xy|zi|za|xp|zc|xq|xbf|xf|xc|xv|eg_eB|en_eB|ec_eB|eg_eT|en_eT|ec_eT|eg_eM=>refine' L2.fnP_mk ?_;first|k_is|k_exc|kit_is|kts_exm|rfl)
  (case en_eM|ec_eM|eg_eU|en_eU|ec_eU|eg_eL|en_eL|ec_eL|eg_eW|en_eW|ec_eW|xbk|nO_kept_canal|nO_kept_names|nO_kept_ways|nO_kept_state|nO_kept_pours|nO_kept_words|nO_kept_entries=>refine' L2.fnP_mk ?_;first|k_is|k_exc|kit_is|kts_exm|rfl)
  (case i6|ac6|i7|i8|i9|i10|l10|c10|k10|lT10|dT10|l64|c64|k64|xaT|xau|xaU|xaW|xaX|xaY|xav|xaZ|xa1|xa2|xa3|xaw|xa4|xa6|xa7|g1|g2|xa8|xax|xa9|xbb|xbc|xbd|xay|xbe|xbg=>first|k_is|k_exc|kit_is|kts_exm|rfl)
  (case xbh|vq|uv|vc|vd|zq|vt|eo_eB|eb_eB|cX_eB|exmX_eB|kX_eB_0|kX_eB_1|kX_eB_2|kX_eB_3|kX_eB_4|kX_eB_5|kX_eB_6|eo_eT|eb_eT|cX_eT|exmX_eT|kX_eT_0|kX_eT_1|kX_eT_2|kX_eT_3|kX_eT_4|kX_eT_5|kX_eT_6|eo_eM|eb_eM|cX_eM|exmX_eM|kX_eM_0|kX_eM_1|kX_eM_2|kX_eM_3|kX_eM_4|kX_eM_5|kX_eM_6=>first|k_is|k_exc|kit_is|kts_exm|rfl)
  (case eo_eU|eb_eU|cX_eU|exmX_eU|kX_eU_0|kX_eU_1|kX_eU_2|kX_eU_3|kX_eU_4|kX_eU_5|kX_eU_6|eo_eL|eb_eL|cX_eL|exmX_eL|kX_eL_0|kX_eL_1|kX_eL_2|kX_eL_3|kX_eL_4|kX_eL_5|kX_eL_6|eo_eW|eb_eW|cX_eW|exmX_eW|kX_eW_0|kX_eW_1|kX_eW_2|kX_eW_3|kX_eW_4|kX_eW_5|kX_eW_6|xbi|xaz|xbj|xbl|xbm=>first|k_is|k_exc|kit_is|kts_exm|rfl)
  (case p6|p7|p8|p9=>refine' ⟨_,L2.b0 ?l ?c ?k⟩;(case l=>k_is);(case c=>k_is);(case k=>k_is))
  (case p0|p1|p2|p3|p4|p5|p16|p17|p18|p19|p20|p21|p22|p25|p34|p35|p36|p37|p38|p39|p40|p41|p42|p43|p47|p48|p49|p50|p51|p52|p53|p54|p55|p56|p57|p58|p59|p60|p61|p62=>refine' L2.fnT_mk ?a ?l ?c ?k;(case a=>k_is);(case l=>k_is);(case c=>k_is);(case k=>k_is))
  (case p63=>refine' L2.fnT_mk ?a ?l ?c ?k;(case a=>k_is);(case l=>k_is);(case c=>k_is);(case k=>k_is))
  (case p11|p12|p13|p14|p15|p23|p24|p26|p27|p28|p29|p30|p31|p32|p33|p44|p45|p46=>refine' L2.fnC_mk ?a ?i ?l ?c ?k;(case a=>k_is);(case i=>first|k_is|rfl);(case l=>k_is);(case c=>k_is);(case k=>k_is))
