import PyProof.Rows.All
import Wide.All
import OpenK.AllK
import Wide.FinOn
import Lean
import PyProof.EqAt
import PyProof.EqKinds
import PyProof.TupleCall
import PyProof.NeKinds
import OpenK.KOwn
import KE.KTryMore
import KE.RegKTryMore
import PyProof.NsDelKeeps
import KE.KIntText
import PySem.Challenge.RW_lockhouse_k57_knots
set_option Elab.async false
set_option linter.all false
set_option maxRecDepth 100000
namespace L2
abbrev aa:=@List.getElem?_eq_getElem
abbrev ac:=@PySem.wpAny_bind
abbrev ad:=@List.getElem?_eq_some_iff
abbrev ae:=@List.length_map
abbrev af:=@List.getD_eq_getElem?_getD
abbrev ag:=@List.length_append
abbrev ai:=@List.mem_of_getElem?
abbrev aj:=@PySem.Heap.get?_push_of_some
abbrev ak:=@List.size_toArray
abbrev am:=@PySem.wpAny_pure
abbrev ao:=@Nat.lt_of_lt_of_le
abbrev ap:=@List.getElem?_append_right
abbrev aq:=@List.getElem?_append_left
abbrev ar:=@Nat.le_refl
abbrev au:=@PySem.Heap.lt_size
abbrev av:=@List.getElem?_map
abbrev aw:=@List.mem_map
abbrev ax:=@List.mem_cons
abbrev ay:=@List.mem_cons_of_mem
abbrev az:=@PySem.Heap.get?_push_size
abbrev aA:=@List.mem_singleton
abbrev aB:=@Int.toNat_natCast
abbrev aC:=@List.take_add_one
abbrev aD:=@Bool.false_ne_true
abbrev aE:=@Option.some.inj
abbrev aF:=@Nat.ne_of_lt
abbrev aG:=@Nat.le_trans
abbrev aH:=@List.mem_cons_self
abbrev aI:=@decide_eq_false
abbrev aJ:=@List.map_append
abbrev aK:=@decide_eq_true
abbrev aL:=@List.take_length
abbrev aM:=@List.mem_nil_iff
abbrev aN:=@List.length_singleton
abbrev aO:=@List.mem_filter
abbrev aP:=@List.filter_cons
abbrev aQ:=@List.mem_iff_getElem?
abbrev aR:=@List.mem_append
abbrev aS:=@List.lookup_cons
abbrev aT:=@List.filter_append
abbrev aU:=@List.mem_append_right
abbrev aV:=@Nat.lt_irrefl
abbrev aW:=@PyProof.Rows.boot_list
abbrev aX:=@PySem.PassesOwn.never
abbrev aY:=@Nat.zero_le
abbrev aZ:=@List.length_cons
abbrev ba:=@PySem.W.mg_of
abbrev bb:=@PySem.F.plainAttrs_list
abbrev bc:=@List.nodup_cons
abbrev bd:=@List.length_filter_le
abbrev bf:=@List.map_cons
abbrev bg:=@List.length_range
abbrev bh:=@PySem.W.mg_none_of
abbrev bi:=@PySem.mem_of_lookup
abbrev bj:=@PySem.F.slot_list_append
abbrev bn:=@PySem.F.type_list_append
abbrev bo:=@beq_eq_false_iff_ne
abbrev bp:=@PyProof.Rows.boot_isinstance
abbrev bq:=@PyProof.Rows.callWith_type1
abbrev br:=@List.append_nil
abbrev bu:=@of_decide_eq_true
abbrev bv:=@PySem.wpAny_mono
abbrev bw:=@Array.length_toList
abbrev bx:=@PySem.wpAny_callSpecial?_slot
abbrev bz:=@List.mem_append_left
abbrev cb:=@PySem.wpAny_holding
abbrev cf:=@List.getElem?_range
abbrev cg:=@PySem.Heap.size_push
abbrev ci:=@beq_self_eq_true
abbrev cm:=@PyProof.Rows.boot_tuple
abbrev cp:=@congrArg
abbrev cq:=@PySem.wpAny_Call_Name_kw
abbrev cu:=@List.take_of_length_le
abbrev cw:=@PySem.W.kia_one
abbrev cx:=@List.length_set
abbrev cy:=@List.find?_cons
abbrev da:=@List.getElem?_eq_none
abbrev db:=@List.length_take
abbrev dg:=@Int.zero_add
abbrev dh:=@or_false
abbrev di:=@PySem.wpAny_truthy_bool
abbrev dk:=@List.replicate_succ
abbrev dq:=@List.length_reverse
abbrev du:=@List.mem_range
abbrev dw:=@PySem.wpAny_seqItems
abbrev dz:=@Array.getElem?_eq_getElem
abbrev ec:=@Nat.ne_of_gt
abbrev eh:=@List.length_replicate
abbrev ei:=@PySem.W.callWith_K
abbrev ek:=@Nat.lt_succ_self
abbrev en:=@PySem.wpAny_call_entry
abbrev eo:=@PySem.wpAny_field
abbrev fb:=@List.any_eq_true
abbrev ff:=@decide_eq_true_eq
abbrev fg:=@PySem.Heap.SameBut.update
abbrev fh:=@PySem.F.slot_tuple_iterator_next
abbrev fi:=@PySem.Around.in1_units
abbrev fj:=@PySem.W.methodCall_KW
abbrev fk:=@PySem.Heap.get?_update_self
abbrev fm:=@List.getElem?_reverse
abbrev fq:=@PySem.wpAny_setField_rec
abbrev ft:=@PySem.wpAny_passesOwn
abbrev fu:=@Bool.eq_iff_iff
abbrev fv:=@Nat.not_lt_zero
abbrev fw:=@List.nodup_append
abbrev fz:=@List.foldl_append
abbrev ga:=@List.getElem?_replicate
abbrev gb:=@Bool.and_eq_true
abbrev gc:=@List.eq_nil_of_length_eq_zero
abbrev ge:=@Option.map_eq_some_iff
abbrev gg:=@Int.emod_lt_of_pos
abbrev gj:=@Nat.le_of_lt
abbrev gk:=@List.forIn_cons
abbrev gm:=@List.flatten_cons
abbrev gn:=@Bool.eq_false_iff
abbrev gq:=@Array.getElem_toList
abbrev gr:=@List.all_eq_true
abbrev gt:=@List.getElem_mem
abbrev gu:=@List.filterMap_cons
abbrev gv:=@Nat.add_le_add_left
abbrev gw:=@List.length_take_le
abbrev gx:=@PySem.codeAny_mono
abbrev gy:=@PySem.wpAny_rule
abbrev gz:=@PySem.AutoSeq1.wpAny_loadPart'
abbrev hU:=@Nat.succ.inj
abbrev hV:=@PySem.wpAny_execs_nil
abbrev hX:=@PySem.wpAny_pyIter_tuple
abbrev ia:=@List.mem_filterMap
abbrev ib:=@PySem.SeqAt.EqAt.same
abbrev ic:=@List.range_succ
abbrev ie:=@List.any_cons
abbrev ig:=@PySem.wpAny_specialOf
abbrev ii:=@PySem.SeqAt.EqAt.of_refs
abbrev ij:=@Int.emod_nonneg
abbrev ik:=@of_decide_eq_false
abbrev il:=@List.getElem?_set_self
abbrev im:=@PySem.W.cellsFrom_some
abbrev io:=@PySem.Heap.get?_update_other
abbrev ip:=@List.length_pos_of_mem
abbrev iq:=@beq_iff_eq
abbrev ir:=@List.take_sublist
abbrev iu:=@List.append_assoc
abbrev iw:=@PySem.wpAny_pyIter_enum
abbrev ix:=@PySem.codeAny_call_function
abbrev iy:=@PyProof.Rows.boot_sum
abbrev iz:=@PySem.wpAny_execs_cons
abbrev ka:=@PySem.wpAny_isInstance
abbrev kc:=@PySem.wpAny_forIn_list
abbrev ke:=@List.getElem?_set_ne
abbrev kg:=@Array.mem_toList_iff
abbrev kh:=@PySem.wpAny_updateSeq_pair
abbrev km:=@PySem.wpAny_newFunctionEnv
abbrev kn:=@PySem.Paired.length
abbrev ko:=@PySem.wpAny_standAt
abbrev kr:=@PySem.sizeLine_eq
abbrev kt:=@Nat.le_succ
abbrev ku:=@List.of_mem_zip
abbrev ky:=@PySem.F.slot_zip_next
abbrev kz:=@PySem.wpAny_dictEpoch
abbrev lf:=@PySem.wpAny_ite_split
abbrev li:=@Nat.sub_self
abbrev lm:=@List.map_map
open PySem PySem.Spec PyProof.Rows
abbrev kF:=Sum Int Str
def dZ:kF→Value→Bool
 |.inl k,v=>Value.isInt k v
 |.inr x,v=>Value.isStrOf x v
def WD (w:World):kF→Int
 |.inl k=>hashInt k
 |.inr x=>hashStr w x
theorem Q6:∀{k:kF} {v:Value},dZ k v=true→(∃i t,k=Sum.inl i∧v=Value.int i t)∨(∃x t,k=Sum.inr x∧v=Value.str x t)
 |.inl i,v,h=>by
  obtain ⟨t,e⟩:=Value.isInt_shape (k:=i) (v:=v) h;exact .inl ⟨i,t,rfl,e⟩
 |.inr x,v,h=>by
  obtain ⟨t,e⟩:=Value.isStrOf_shape (x:=x) (v:=v) h;exact .inr ⟨x,t,rfl,e⟩
theorem O1 (i:Int) (t:Tok):dZ (.inl i) (.int i t)=true:=by simp [dZ,Value.isInt]
theorem O0 (x:Str) (t:Tok):dZ (.inr x) (.str x t)=true:=by simp [dZ,Value.isStrOf]
theorem UE (a b:Int):decide ((Sum.inl a:kF)=Sum.inl b)=(a == b):=by
 by_cases e:a=b
 ·subst e;simp
 ·have h:¬(Sum.inl a:kF)=Sum.inl b:=fun q=>e (Sum.inl.inj q)
  rw [aI h];exact (bo.mpr e).symm
theorem UB (a b:Str):decide ((Sum.inr a:kF)=Sum.inr b)=decide (a=b):=by
 by_cases e:a=b
 ·subst e;simp
 ·have h:¬(Sum.inr a:kF)=Sum.inr b:=fun q=>e (Sum.inr.inj q)
  rw [aI h,aI e]
theorem UD (a:Int) (b:Str):decide ((Sum.inl a:kF)=Sum.inr b)=false:=aI (fun q=>nomatch q)
theorem UC (a:Str) (b:Int):decide ((Sum.inr a:kF)=Sum.inl b)=false:=aI (fun q=>nomatch q)
def zJ (prog:Program) (w:World):PySem.KeyKind prog w kF where
 is:=dZ
 hash:=WD w
 inj:=fun v a b ha hb=>by
  rcases Q6 ha with ⟨i,t,rfl,rfl⟩|⟨x,t,rfl,rfl⟩
  ·rcases Q6 hb with ⟨j,u,rfl,e⟩|⟨y,u,rfl,e⟩
   ·injection e with e1 _;rw [e1]
   ·exact nomatch e
  ·rcases Q6 hb with ⟨j,u,rfl,e⟩|⟨y,u,rfl,e⟩
   ·exact nomatch e
   ·injection e with e1 _;rw [e1]
 byValue:=fun k v h=>by
  rcases Q6 h with ⟨i,t,rfl,rfl⟩|⟨x,t,rfl,rfl⟩<;>rfl
 pyHash:=fun hv h=>by
  rcases Q6 hv with ⟨i,t,rfl,rfl⟩|⟨x,t,rfl,rfl⟩
  ·exact wpAny_pyHash_int h
  ·exact wpAny_pyHash_str h
 eqBool:=fun hu hv h=>by
  rcases Q6 hu with ⟨i,t,rfl,rfl⟩|⟨x,t,rfl,rfl⟩
  ·rcases Q6 hv with ⟨j,u,rfl,rfl⟩|⟨y,u,rfl,rfl⟩
   ·rw [UE] at h;exact wpAny_eqBool_int h
   ·rw [UD] at h;exact SeqAt.EqAt.int_str i t y u _ _ _ _ h
  ·rcases Q6 hv with ⟨j,u,rfl,rfl⟩|⟨y,u,rfl,rfl⟩
   ·rw [UC] at h;exact SeqAt.EqAt.str_int x t j u _ _ _ _ h
   ·rw [UB] at h;exact wpAny_eqBool_str h
 «strs»:=fun k x t v h=>by
  rcases Q6 h with ⟨i,u,rfl,e⟩|⟨y,u,rfl,e⟩
  ·exact nomatch e
  ·injection e with e1 _
   subst e1;cases v<;>rfl
theorem M7 (prog:Program) (w:World) (i:Int) (t:Tok):(zJ prog w).is (.inl i) (.int i t)=true:=O1 i t
theorem M6 (prog:Program) (w:World) (x:Str) (t:Tok):(zJ prog w).is (.inr x) (.str x t)=true:=O0 x t
inductive V where
 |non|bl (b:Bool)|int (i:Int)|str (x:Str)|byt (b:Array UInt8)|flt (b:UInt64)|ref (a:Addr)|ty (n:String)
 deriving DecidableEq
def RelV:V→Value→Prop
 |.non,u=>u=Value.none
 |.bl b,u=>u=Value.bool b
 |.int i,u=>∃t,u=Value.int i t
 |.str x,u=>∃t,u=Value.str x t
 |.byt b,u=>∃t,u=Value.bytes b t
 |.flt b,u=>∃t,u=Value.float b t
 |.ref a,u=>u=Value.ref a
 |.ty n,u=>u=Value.type n
abbrev Vals:List V→List Value→Prop:=Paired RelV
theorem Vals.length {xs:List V} {us:List Value} (r:Vals xs us):xs.length=us.length:=kn r
theorem Vals.get:∀{xs:List V} {us:List Value} {i:Nat} {x:V},Vals xs us→xs[i]?=some x→∃u,us[i]?=some u∧RelV x u
 |_,_,_,_,.nil,e=>by simp at e
 |_,_,0,_,.cons r _,e=>by simp at e;subst e;exact ⟨_,rfl,r⟩
 |_,_,i+1,x,.cons _ t,e=>by
  obtain ⟨u,h1,h2⟩:=Vals.get (i:=i) (x:=x) t (by simpa using e);exact ⟨u,by simpa using h1,h2⟩
theorem Vals.set {x:V} {u:Value} (r:RelV x u):∀{xs:List V} {us:List Value} (i:Nat),Vals xs us→Vals (xs.set i x) (us.set i u)
 |_,_,_,.nil=>.nil
 |_,_,0,.cons _ t=>.cons r t
 |_,_,i+1,.cons q t=>.cons q (Vals.set r i t)
theorem Vals.append:∀{xs ys:List V} {us ws:List Value},Vals xs us→Vals ys ws→Vals (xs++ys) (us++ws)
 |_,_,_,_,.nil,s=>s
 |_,_,_,_,.cons r t,s=>.cons r (Vals.append t s)
def RelO:Option V→Option Value→Prop
 |some v,some u=>RelV v u
 |none,none=>True
 |_,_=>False
def KV {κ:Type}:List (κ×V)→List (κ×Value)→Prop:=Paired fun (p:κ×V) (q:κ×Value)=>p.1=q.1∧RelV p.2 q.2
def kV:kF→V
 |.inl i=>.int i
 |.inr x=>.str x
inductive HO where
 /-- a list -/
 |lst (xs:List V)
 /-- a tuple (never changes) -/
 |tup (xs:List V)
 /-- a dict whose keys are ints and texts;one whose keys are tuples of ints and texts (the empty one is both) -/
 |dK (kvs:List (kF×V))|dT (kvs:List (List kF×V))
 /-- a set of ints: its members,its size -/
 |set (S:Int→Bool) (n:Nat)
 /-- an instance of the class at C,its dict at dx,its attributes -/
 |ins (C dx:Addr) (fs:List (Str×V))
 /-- the dict of the instance at x -/
 |own (x:Addr)
 /-- the dict of an exception -/
 |xd (fs:List (Str×V))
 /-- a bound method,f of x -/
 |met (f x:Addr)
 /-- a range object lo,lo+1,.. below hi -/
 |rng (lo hi:Int)
 /-- a thing that is known to the object (the script;a dict while a loop walks it): read,never written while it is so -/
 |frz (o:Obj) (u:HO)
 /-- a code object's table -/
 |tbl (ps:Array Value)
 /-- any other thing,by what is true of its one object (a def of one's own: SetO a S n:=HO.ext fun h=>..) -/
 |ext (φ:Heap→Prop)
abbrev Hp:=Addr→Option HO
def upd (H:Hp) (a:Addr) (o:HO):Hp:=fun b=>if b=a then some o else H b
variable {H:Hp} {a:Addr} {o:HO}
theorem jD:upd H a o a=some o:=by unfold upd;rw [if_pos rfl]
variable {b:Addr}
theorem jH (h:b≠a):upd H a o b=H b:=by unfold upd;rw [if_neg h]
variable {u:HO}
theorem QZ (h:H a=some o) (h':H b=some u) (d:o≠u):a≠b:=by
 intro e;subst e;rw [h] at h';exact d (aE h')
theorem q8 (h:H a=some o) (h':H b=none):a≠b:=by
 intro e;subst e;rw [h] at h';cases h'
section
variable (P:Program) (w:World)
def ObjOk (H:Hp) (h:Heap) (a:Addr):HO→Prop
 |.lst xs=>xs.length≤sizeLine∧∃(its:List Value) (n:Nat),Vals xs its∧h.get? a=some {cls:=.type "list",data:=.seq its.toArray n}
 |.tup xs=>xs.length≤sizeLine∧∃its:List Value,Vals xs its∧IsTup h a its.toArray
 |.dK kvs=>kvs.length≤sizeLine∧(a == sysModules)=false∧∃vs,KV kvs vs∧h.DictOf (zJ P w) a vs
 |.dT kvs=>kvs.length≤sizeLine∧(a == sysModules)=false∧∃xs:List (List kF×Addr×Value),
   Paired (fun (p:List kF×V) (q:List kF×Addr×Value)=>p.1=q.1∧H q.2.1=some (.tup (p.1.map kV))∧RelV p.2 q.2.2) kvs xs∧
   ∃o es ep,h.get? a=some o∧o.ExactDict∧o.data=.dict es ep∧es.toList=xs.map (entryOfKey (tupleKind (zJ P w)))∧(xs.map (·.1)).Nodup
 |.set S n=>h.SetOf (intKind P w) a S n
 |.ins C dx fs=>H dx=some (.own a)∧fs.length≤1000∧dx≠a∧h.get? a=some (PySem.W.instObj C dx)∧
   ∃mA,h.Ns1 dx mA∧(∀f,RelO (fs.lookup f) (mA f))∧PySem.Within mA (fs.map (·.1))
 |.own _=>∃o,h.get? a=some o
 |.xd fs=>∃mA,h.Ns1 a mA∧∀f,RelO (fs.lookup f) (mA f)
 |.rng lo hi=>∃t u v,h.get? a=some {cls:=.type "range",data:=.fields #[.int lo t,.int hi u,.int 1 v]}
 |.frz o u=>h.get? a=some o∧ObjOk H h a u
 |.tbl ps=>h.get? a=some {cls:=.none,data:=.fields ps}
 |.met f x=>h.get? a=some (PySem.W.methodObj (.ref f) (.ref x))
 |.ext φ=>φ h∧(∃o,h.get? a=some o)∧∀h1 h2:Heap,φ h1→(∀o,h1.get? a=some o→h2.get? a=some o)→φ h2
def HOk (H:Hp) (h:Heap):Prop:=∀a o,H a=some o→ObjOk P w H h a o
end
section
variable {P:Program} {w:World} {H H':Hp} {h h':Heap} {a:Addr} {o:HO}
theorem ObjOk.lt (x:ObjOk P w H h a o):a<h.objs.size:=by
 cases o with
 |lst xs=>obtain ⟨_,_,_,_,e⟩:=x;exact au e
 |tup xs=>obtain ⟨_,_,_,p⟩:=x;exact p.lt
 |dK kvs=>obtain ⟨_,_,_,_,o,_,_,e,_⟩:=x;exact au e
 |dT kvs=>obtain ⟨_,_,_,_,o,_,_,e,_⟩:=x;exact au e
 |set S n=>obtain ⟨o,_,_,_,e,_⟩:=x;exact au e
 |ins C dx fs=>obtain ⟨_,_,_,e,_⟩:=x;exact au e
 |own y=>obtain ⟨_,e⟩:=x;exact au e
 |xd fs=>obtain ⟨_,⟨_,_,_,e,_⟩,_⟩:=x;exact au e
 |rng lo hi=>obtain ⟨_,_,_,e⟩:=x;exact au e
 |frz ob u=>obtain ⟨e,_⟩:=x;exact au e
 |tbl ps=>exact au (show h.get? a=some _ from x)
 |met f y=>exact au (show h.get? a=some _ from x)
 |ext φ=>obtain ⟨_,⟨_,e⟩,_⟩:=x;exact au e
theorem Paired.mapP {α β:Type} {F G:α→β→Prop}:∀{l₁:List α} {l₂:List β},Paired F l₁ l₂→(∀a b,F a b→G a b)→Paired G l₁ l₂
 |_,_,.nil,_=>.nil
 |_,_,.cons r t,f=>.cons (f _ _ r) (Paired.mapP t f)
theorem ObjOk.stay (x:ObjOk P w H h a o) (k:∀b u,(b=a∨H b=some (.own a))→h.get? b=some u→h'.get? b=some u)
  (ho:∀b,H b=some (.own a)→H' b=some (.own a)) (ht:∀b xs,H b=some (.tup xs)→H' b=some (.tup xs)):ObjOk P w H' h' a o:=by
 induction o with
 |lst xs=>obtain ⟨z,its,n,r,e⟩:=x;exact ⟨z,its,n,r,k _ _ (.inl rfl) e⟩
 |tup xs=>obtain ⟨z,its,r,ob,e,c⟩:=x;exact ⟨z,its,r,ob,k _ _ (.inl rfl) e,c⟩
 |dK kvs=>obtain ⟨z,y,vs,r,ob,es,ep,e,c⟩:=x;exact ⟨z,y,vs,r,ob,es,ep,k _ _ (.inl rfl) e,c⟩
 |dT kvs =>
  obtain ⟨z,y,xs,r,ob,es,ep,e,c⟩:=x;exact ⟨z,y,xs,Paired.mapP r fun p q z=>⟨z.1,ht _ _ z.2.1,z.2.2⟩,ob,es,ep,k _ _ (.inl rfl) e,c⟩
 |set S n=>obtain ⟨ob,es,ep,t,e,c⟩:=x;exact ⟨ob,es,ep,t,k _ _ (.inl rfl) e,c⟩
 |ins C dx fs =>
  obtain ⟨d,z,ne,e,mA,⟨od,es,ep,e2,c⟩,r⟩:=x;exact ⟨ho _ d,z,ne,k _ _ (.inl rfl) e,mA,⟨od,es,ep,k _ _ (.inr d) e2,c⟩,r⟩
 |own y=>obtain ⟨ob,e⟩:=x;exact ⟨ob,k _ _ (.inl rfl) e⟩
 |xd fs=>obtain ⟨mA,⟨od,es,ep,e,c⟩,r⟩:=x;exact ⟨mA,⟨od,es,ep,k _ _ (.inl rfl) e,c⟩,r⟩
 |rng lo hi=>obtain ⟨t,u,v,e⟩:=x;exact ⟨t,u,v,k _ _ (.inl rfl) e⟩
 |frz ob u ih=>obtain ⟨e,q⟩:=x;exact ⟨k _ _ (.inl rfl) e,ih q⟩
 |tbl ps =>
  have e:h.get? a=some {cls:=.none,data:=.fields ps}:=x;show h'.get? a=some {cls:=.none,data:=.fields ps};exact k a _ (.inl rfl) e
 |met f y =>
  have e:h.get? a=some (PySem.W.methodObj (.ref f) (.ref y)):=x;show h'.get? a=some (PySem.W.methodObj (.ref f) (.ref y));exact k a _ (.inl rfl) e
 |ext φ=>obtain ⟨p,⟨o,e⟩,st⟩:=x;exact ⟨st _ _ p fun o q=>k _ _ (.inl rfl) q,⟨o,k _ _ (.inl rfl) e⟩,st⟩
theorem HOk.lt (x:HOk P w H h) (e:H a=some o):a<h.objs.size:=(x a o e).lt
theorem HOk.fresh (x:HOk P w H h) (e:h.objs.size≤a):H a=none:=by
 cases q:H a with
 |none=>rfl
 |some u=>exact absurd (ao (x.lt q) e) (aV _)
theorem HOk.kept (x:HOk P w H h) (k:∀b u,h.get? b=some u→h'.get? b=some u):HOk P w H h':=fun a o e =>
 (x a o e).stay (fun b u _ q=>k b u q) (fun _ q=>q) fun _ _ q=>q
theorem HOk.laid (x:HOk P w H h) (k:∀b u,h.get? b=some u→h'.get? b=some u) (hp:h.objs.size≤a) (new:ObjOk P w (upd H a o) h' a o):HOk P w (upd H a o) h':=fun b u e=>by
 have hn:=x.fresh hp
 by_cases hb:b=a
 ·subst hb;rw [jD] at e;cases e;exact new
 ·rw [jH hb] at e;exact (x b u e).stay (fun c v _ q=>k c v q) (fun c q=>by rw [jH (q8 q hn)];exact q) fun c xs q=>by rw [jH (q8 q hn)];exact q
end
def Rd (H:Hp) (a:Addr) (u:HO):Prop:=H a=some u∨∃o,H a=some (.frz o u)
theorem Rd.of (h:H a=some u):Rd H a u:=.inl h
variable {h:Heap}
theorem Rd.ok {P:Program} {w:World} (r:Rd H a u) (x:HOk P w H h):ObjOk P w H h a u:=by
 rcases r with r|⟨o,r⟩
 ·exact x a u r
 ·obtain ⟨_,q⟩:=x a _ r;exact q
def gU:Option HO→Prop
 |some (.lst _)=>True
 |some (.dK _)=>True
 |some (.dT _)=>True
 |some (.set _ _)=>True
 |some (.ins _ _ _)=>True
 |some (.ext _)=>True
 |_=>False
section
variable {P:Program} {w:World} {H:Hp} {h h':Heap} {x e:Addr} {o':HO}
theorem HOk.write (ok:HOk P w H h) (mu:gU (H x)) (he:e=x∨H e=some (.own x)) (k:∀b u,b≠e→h.get? b=some u→h'.get? b=some u) (heo:∃u,h'.get? e=some u)
  (new:ObjOk P w (upd H x o') h' x o'):HOk P w (upd H x o') h':=fun b u q=>by
 have nown:∀c y,H c=some (.own y)→c≠x:=fun c y r z=>by subst z;rw [r] at mu;exact mu
 have ntup:∀c xs,H c=some (.tup xs)→c≠x:=fun c xs r z=>by subst z;rw [r] at mu;exact mu
 by_cases hb:b=x
 ·subst hb;rw [jD] at q;cases q;exact new
 ·rw [jH hb] at q
  by_cases hbe:b=e
  ·have q':H b=some (.own x):=by
    rcases he with z|z
    ·exact absurd (hbe.trans z) hb
    ·rw [hbe];exact z
   rw [q] at q';cases q'
   obtain ⟨v,hv⟩:=heo;exact ⟨v,by rw [hbe];exact hv⟩
  ·refine (ok b u q).stay (fun c v hc r=>k c v ?_ r) (fun c r=>by rw [jH (nown c b r)];exact r) fun c xs r=>by rw [jH (ntup c xs r)];exact r
   rcases hc with rfl|hc
   ·exact hbe
   ·rintro rfl
    rcases he with z|z
    ·exact nown c b hc z
    ·rw [hc] at z;cases z;exact hb rfl
end
structure Un (fs ex:List Addr) (H H':Hp) (h h':Heap):Prop where
 keep:∀b o,h.get? b=some o→H b=none→b∉fs→b∉ex→h'.get? b=some o
 slot:∀b o,h.get? b=some o→H b=none→b∈fs→b∉ex→∃sl,h'.get? b=some {o with slots:=sl}
 free:∀b o,h.get? b=some o→H b=none→b∉ex→H' b=none
 there:∀b o,h.get? b=some o→b∉ex→∃o',h'.get? b=some o'
 tups:∀b xs,H b=some (.tup xs)→H' b=some (.tup xs)
 frzs:∀b o u,H b=some (.frz o u)→H' b=some (.frz o u)
 tbls:∀b ps,H b=some (.tbl ps)→∃more,H' b=some (.tbl (ps++more))
section
variable {fs fs' ex ex':List Addr} {H H1 H2:Hp} {h h1 h2 h':Heap} {a x e:Addr} {o:HO}
theorem Un.any (u:Un fs ex H H1 h h1) {b:Addr} {ob:Obj} (q:h.get? b=some ob) (n:H b=none) (hx:b∉ex):∃sl,h1.get? b=some {ob with slots:=sl}:=by
 by_cases hb:b∈fs
 ·exact u.slot b ob q n hb hx
 ·exact ⟨ob.slots,u.keep b ob q n hb hx⟩
theorem Un.kept (k:∀b u,h.get? b=some u→h'.get? b=some u):Un fs ex H H h h' :=
 ⟨fun b ob q _ _ _=>k b ob q,fun b ob q _ _ _=>⟨ob.slots,k b ob q⟩,fun _ _ _ n _=>n,fun b ob q _=>⟨ob,k b ob q⟩,fun _ _ q=>q,fun _ _ _ q=>q,fun _ ps q=>⟨#[],by rw [q];simp⟩⟩
theorem Un.refl:Un fs ex H H h h:=Un.kept fun _ _ q=>q
theorem Un.laid (k:∀b u,h.get? b=some u→h'.get? b=some u) (hp:h.objs.size≤a) (hn:H a=none):Un fs ex H (upd H a o) h h' where
 keep:=fun b u q _ _ _=>k b u q
 slot:=fun b u q _ _ _=>⟨u.slots,k b u q⟩
 free:=fun b u q n _=>by rw [jH (aF (ao (au q) hp))];exact n
 there:=fun b u q _=>⟨u,k b u q⟩
 tups:=fun b xs q=>by rw [jH (q8 q hn)];exact q
 frzs:=fun b u xs q=>by rw [jH (q8 q hn)];exact q
 tbls:=fun b ps q=>⟨#[],by rw [jH (q8 q hn),q];simp⟩
theorem Un.write (mu:gU (H x)) (he:e=x∨H e=some (.own x)) (k:∀b u,b≠e→h.get? b=some u→h'.get? b=some u) (heo:∃u,h'.get? e=some u):Un fs ex H (upd H x o) h h':=by
 have hx:∀b,H b=none→b≠x:=fun b n z=>by subst z;rw [n] at mu;exact mu
 have hb:∀b,H b=none→b≠e:=fun b n z=>by
  subst z
  rcases he with r|r
  ·exact hx b n r
  ·rw [n] at r;cases r
 have hm:∀b u,H b=some u→¬gU (some u)→b≠x:=fun b u q nm z=>by subst z;rw [q] at mu;exact nm mu
 refine ⟨fun b u q n _ _=>k b u (hb b n) q,fun b u q n _ _=>⟨u.slots,k b u (hb b n) q⟩,fun b u q n _=>by rw [jH (hx b n)];exact n,fun b u q _=>?_,
  fun b xs q=>by rw [jH (hm b _ q fun z=>z)];exact q,fun b u xs q=>by rw [jH (hm b _ q fun z=>z)];exact q,fun b ps q=>⟨#[],by rw [jH (hm b _ q fun z=>z),q];simp⟩⟩
 by_cases hbe:b=e
 ·subst hbe;exact heo
 ·exact ⟨u,k b u hbe q⟩
end
def JX (h:Heap) (H:Hp):List Addr:=(List.range h.objs.size).filter fun a=>(H a).isSome
def Q2 (h:Heap) (H:Hp):Heap:=PySem.W.hideAll h (JX h H)
theorem O3 (h:Heap) (H:Hp):(Q2 h H).objs.size=h.objs.size:=PySem.W.hideAll_size _ _
theorem lL {o:Obj} (e:h.get? b=some o) (n:H b=none):(Q2 h H).get? b=some o :=
 PySem.W.hideAll_get _ e fun hm=>by
  have q:(H b).isSome=true:=(aO.mp hm).2;rw [n] at q;simp at q
theorem SS {o:Obj} (e:(Q2 h H).get? b=some o):h.get? b=some o∧H b=none:=by
 have e':h.get? b=some o:=PySem.W.of_hideAll (JX h H) e;refine ⟨e',?_⟩;cases q:H b with
 |none=>rfl
 |some x =>
  have hm:b∈JX h H:=aO.mpr ⟨du.mpr (au e'),by simp [q]⟩;have z:(Q2 h H).get? b=none:=PySem.W.hideAll_none (JX h H) hm;rw [z] at e;cases e
def TF (g h:Heap) (L:Addr):List (Addr×Obj):=(List.range h.objs.size).filterMap fun a=>if a=L∨(g.get? a).isSome=true then none else (h.get? a).map fun o=>(a,o)
def rest (g h:Heap) (L d:Addr):List (Addr×Obj):=(TF g h L).filter fun p=>decide (p.1≠d)
end L2
namespace L2
open PySem PySem.Spec PyProof.Rows
structure Mod (K:PySem.W.Frag) (mg:Str→Option Value) (base:Heap):Prop where
 kin:K.In base
 glob:base.Ns mainGlobals mg
 blt:∃mb,base.Ns builtinsNs mb∧∀x:Str,x≠"__name__"→mb x=bootBuiltins x
 nolimit:base.NoLimit
structure Cx where
 prog:Program
 w:World
 K:PySem.W.Frag
 mg:Str→Option Value
 base:Heap
 A:Around
 N:List Str
 s₀:Shared
 H₀:Hp
 env:Env
 outer:List Env
 stack:List Env
 ex:List Addr
 fn:Str→Bool
 calm:Bool
 pn:List (Addr×Obj)
 xe:Value→Shared→Prop
def kO (l:List Env):List Addr:=l.filterMap (·.frame)
abbrev Cx.fs (X:Cx):List Addr:=kO X.outer
def eN (sc:Scope) (x:Str):Prop:=sc.names.lookup x=some .local∨sc.names.lookup x=some .cell∨sc.names.lookup x=some .free
def cS (sc:Scope) (x:Str):Prop:=sc.names.lookup x=some .local∨sc.names.lookup x=some .cell
def WL (env:Env) (h:Heap) (m:Str→Option Value) (x:Str) (u:Value):Prop :=
 (env.kindOf x=some .local∧m x=some u)∨((env.kindOf x=some .cell∨env.kindOf x=some .free)∧∃c,env.cells.lookup x=some c∧h.IsCell c (some u))
structure Cx.Ok (X:Cx):Prop where
 mod:Mod X.K X.mg X.base
 kind:X.env.scope.kind=.function
 glob:X.env.globals=mainGlobals
 blt:X.env.builtins=builtinsNs
 above:X.s₀.heap.objs.size≤X.env.locals
 inj:∀x y c,X.env.cells.lookup x=some c→X.env.cells.lookup y=some c→x=y
 has:∀x,(X.env.kindOf x=some .cell∨X.env.kindOf x=some .free)→∃c,X.env.cells.lookup x=some c
 cab:∀x c,X.fn x=true→X.env.cells.lookup x=some c→X.s₀.heap.objs.size≤c
 hd:X.calm=true→X.A.handled=none
 frames:X.A.frames=some X.stack
 stk:X.stack=X.outer∨(X.stack=X.env::X.outer∧X.env.frame=some X.env.locals)
 exf:∀b∈X.ex,b≠X.env.locals∧∀x c,X.env.cells.lookup x=some c→c≠b
 bs:∀b o,X.base.get? b=some o→X.s₀.heap.get? b=some o∧X.H₀ b=none
 bsz:X.base.objs.size≤X.s₀.heap.objs.size
 noex:∀b o,X.base.get? b=some o→b∉X.ex
 exfs:∀b∈X.ex,b∉X.fs
 funs:X.s₀.heap.FunFrames X.base X.outer
 frf:∀b∈X.fs,X.H₀ b=none
structure Inv (X:Cx) (pins:List (Addr×Obj)) (σ:List (Option V)) (H:Hp) (s:Shared):Prop where
 ok:X.Ok
 os:s.os=X.s₀.os
 bare:AllBare s.gens
 base:Un X.fs X.ex X.H₀ H X.s₀.heap s.heap
 loc:∃m,s.heap.Ns X.env.locals m∧∀(i:Nat) (x:Str) (v:V),X.N[i]?=some x→σ[i]?=some (some v)→eN X.env.scope x→∃u,RelV v u∧WL X.env s.heap m x u
 cell:∀x c,X.env.cells.lookup x=some c→∃v,s.heap.IsCell c v
 free:H X.env.locals=none
 freeC:∀x c,X.env.cells.lookup x=some c→H c=none
 pin:∀p∈X.pn++pins,s.heap.get? p.1=some p.2∧H p.1=none∧p.1≠X.env.locals∧p.1∉X.fs∧∀v,p.2.data≠.cell v
 hok:HOk X.prog X.w H s.heap
 len:σ.length=X.N.length
section
variable {X:Cx} {pins:List (Addr×Obj)} {σ:List (Option V)} {H H':Hp} {s:Shared} {h':Heap}
theorem Cx.Ok.nofr (ok:X.Ok) {b:Addr} {o:Obj} (e:X.base.get? b=some o):b∉X.fs:=fun hb=>by
 have:=(ok.funs.mem hb).1;rw [e] at this;cases this
theorem Inv.bs (I:Inv X pins σ H s):∀b o,X.base.get? b=some o→s.heap.get? b=some o∧H b=none:=fun b o e =>
 ⟨I.base.keep b o (I.ok.bs b o e).1 (I.ok.bs b o e).2 (I.ok.nofr e) (I.ok.noex b o e),I.base.free b o (I.ok.bs b o e).1 (I.ok.bs b o e).2 (I.ok.noex b o e)⟩
theorem Inv.bk (I:Inv X pins σ H s):∀b o,X.base.get? b=some o→s.heap.get? b=some o:=fun b o e=>(I.bs b o e).1
theorem Inv.mod (I:Inv X pins σ H s):Mod X.K X.mg X.base:=I.ok.mod
theorem Inv.kIn (I:Inv X pins σ H s):X.K.In s.heap:=I.ok.mod.kin.keeps I.bk
theorem Inv.lt (I:Inv X pins σ H s):X.env.locals<s.heap.objs.size:=let ⟨_,hn,_⟩:=I.loc;hn.lt
theorem Inv.sz (I:Inv X pins σ H s):X.s₀.heap.objs.size≤s.heap.objs.size:=aG I.ok.above (gj I.lt)
theorem Inv.nofs (I:Inv X pins σ H s) {a:Addr} (h:s.heap.objs.size≤a):a∉X.fs:=fun hb=>by
 obtain ⟨_,o,ho,_⟩:=I.ok.funs.mem hb;exact absurd (ao (au ho) (aG I.sz h)) (aV _)
theorem Inv.cne (I:Inv X pins σ H s):∀x c,X.env.cells.lookup x=some c→c≠X.env.locals:=fun x c e z=>by
 obtain ⟨v,o,ho,hd⟩:=I.cell x c e;obtain ⟨m,⟨o',es,ep,ho',hd',_⟩,_⟩:=I.loc;rw [z,ho'] at ho;cases ho;rw [hd'] at hd;cases hd
theorem Inv.funs (I:Inv X pins σ H s):s.heap.FunFrames X.base X.outer:=by
 have all:∀(l:List Env),(∀b∈kO l,b∈X.fs)→X.s₀.heap.FunFrames X.base l→s.heap.FunFrames X.base l:=by
  intro l
  induction l with
  |nil=>intro _ _;trivial
  |cons env r ih =>
   intro hs hl;obtain ⟨hk,⟨L,o,hf,hn,ho,hd⟩,hr⟩:=hl;have hL:L∈X.fs:=hs L (by unfold kO;rw [gu,hf];exact aH);obtain ⟨sl,e⟩:=I.base.slot L o ho (I.ok.frf L hL) hL fun z=>I.ok.exfs L z hL
   exact ⟨hk,⟨L,_,hf,hn,e,hd⟩,ih (fun b hb=>hs b (by unfold kO;rw [gu,hf];exact ay _ hb)) hr⟩
 exact all X.outer (fun _ hb=>hb) I.ok.funs
theorem Inv.stack (I:Inv X pins σ H s):s.heap.FunFrames X.base X.stack:=by
 rcases I.ok.stk with e|⟨e,hf⟩
 ·rw [e];exact I.funs
 ·rw [e];obtain ⟨m,hn,_⟩:=I.loc;refine .cons (by rw [I.ok.kind];decide) hf hn ?_ I.funs;exact Heap.get?_none_of_le (aG I.ok.bsz I.ok.above)
theorem Inv.stkSub (I:Inv X pins σ H s):∀b∈kO X.stack,b∈X.env.locals::X.fs:=fun b hb=>by
 rcases I.ok.stk with e|⟨e,hf⟩
 ·rw [e] at hb;exact ay _ hb
 ·rw [e] at hb;unfold kO at hb;rw [gu,hf] at hb;exact hb
theorem Inv.stkFree (I:Inv X pins σ H s):∀b∈kO X.stack,H b=none:=fun b hb=>by
 rcases ax.mp (I.stkSub b hb) with e|hb
 ·rw [e];exact I.free
 ·obtain ⟨_,o,ho,_⟩:=I.ok.funs.mem hb;exact I.base.free b o ho (I.ok.frf b hb) fun z=>I.ok.exfs b z hb
theorem Inv.step {g':Array GenState} {t':Nat} {d':Drawn} {ch:List Addr} (I:Inv X pins σ H s)
  (hch:∀b∈ch,(b∈X.ex∨X.s₀.heap.objs.size≤b)∧b≠X.env.locals∧(∀x c,X.env.cells.lookup x=some c→c≠b)∧∀p∈X.pn++pins,p.1≠b)
  (keep:∀b o,b≠X.env.locals→b∉X.fs→b∉ch→s.heap.get? b=some o→H b=none→h'.get? b=some o)
  (slot:∀b o,b≠X.env.locals→b∈X.fs→b∉ch→s.heap.get? b=some o→H b=none→∃sl,h'.get? b=some {o with slots:=sl}) (free:∀b o,b∉ch→s.heap.get? b=some o→H b=none→H' b=none)
  (there:∀b o,b∉ch→s.heap.get? b=some o→∃o',h'.get? b=some o')
  (tups:∀b xs,H b=some (.tup xs)→H' b=some (.tup xs)) (frzs:∀b o u,H b=some (.frz o u)→H' b=some (.frz o u)) (tbls:∀b ps,H b=some (.tbl ps)→∃more,H' b=some (.tbl (ps++more)))
  (ns:∀m,s.heap.Ns X.env.locals m→h'.Ns X.env.locals m) (hok:HOk X.prog X.w H' h') (hg:AllBare g') :
  Inv X pins σ H' {s with heap:=h',gens:=g',drawn:=d',toks:=t'}:=by
 have neL:∀b o,X.s₀.heap.get? b=some o→b≠X.env.locals:=fun b o e=>aF (ao (au e) I.ok.above)
 have neC:∀b o,X.s₀.heap.get? b=some o→b∉X.ex→b∉ch:=fun b o e hx hb=>by
  rcases (hch b hb).1 with z|z
  ·exact hx z
  ·exact absurd (ao (au e) z) (aV _)
 have cellK:∀x c,X.env.cells.lookup x=some c→∀v,s.heap.IsCell c v→h'.IsCell c v:=fun x c e v ⟨o,ho,hd⟩=>by
  have nch:c∉ch:=fun z=>(hch c z).2.2.1 x c e rfl
  by_cases hc:c∈X.fs
  ·obtain ⟨sl,q⟩:=slot c o (I.cne x c e) hc nch ho (I.freeC x c e);exact ⟨_,q,hd⟩
  ·exact ⟨o,keep c o (I.cne x c e) hc nch ho (I.freeC x c e),hd⟩
 refine ⟨I.ok,I.os,hg,⟨fun b o e n hb hx=>?_,fun b o e n hb hx=>?_,fun b o e n hx=>?_,fun b o e hx=>?_,fun b xs e=>tups b xs (I.base.tups b xs e),fun b o xs e=>frzs b o xs (I.base.frzs b o xs e),fun b ps e=>?_⟩,?_,fun x c e=>?_,?_,fun x c e=>?_,fun p hp=>?_,hok,I.len⟩
 ·exact keep b o (neL b o e) hb (neC b o e hx) (I.base.keep b o e n hb hx) (I.base.free b o e n hx)
 ·obtain ⟨sl,e1⟩:=I.base.slot b o e n hb hx;obtain ⟨sl',e2⟩:=slot b _ (neL b o e) hb (neC b o e hx) e1 (I.base.free b o e n hx);exact ⟨sl',e2⟩
 ·obtain ⟨o',e1⟩:=I.base.there b o e hx;exact free b o' (neC b o e hx) e1 (I.base.free b o e n hx)
 ·obtain ⟨o',e1⟩:=I.base.there b o e hx;exact there b o' (neC b o e hx) e1
 ·obtain ⟨m1,e1⟩:=I.base.tbls b ps e;obtain ⟨m2,e2⟩:=tbls b _ e1;exact ⟨m1++m2,by rw [e2,Array.append_assoc]⟩
 ·obtain ⟨m,hn,hl⟩:=I.loc;refine ⟨m,ns m hn,fun i x v e1 e2 e3=>?_⟩;obtain ⟨u,r,l⟩:=hl i x v e1 e2 e3;refine ⟨u,r,?_⟩
  rcases l with l|⟨k,c,e,z⟩
  ·exact .inl l
  ·exact .inr ⟨k,c,e,cellK x c e _ z⟩
 ·obtain ⟨v,z⟩:=I.cell x c e;exact ⟨v,cellK x c e v z⟩
 ·obtain ⟨m,⟨o,_,_,ho,_⟩,_⟩:=I.loc;exact free _ o (fun z=>(hch _ z).2.1 rfl) ho I.free
 ·obtain ⟨v,o,ho,hd⟩:=I.cell x c e;exact free c o (fun z=>(hch c z).2.2.1 x c e rfl) ho (I.freeC x c e)
 ·obtain ⟨e,n,ne,nf,d⟩:=I.pin p hp;have nch:p.1∉ch:=fun z=>(hch p.1 z).2.2.2 p hp rfl
  exact ⟨keep p.1 p.2 ne nf nch e n,free p.1 p.2 nch e n,ne,nf,d⟩
theorem Inv.un {t':Nat} (I:Inv X pins σ H s) (u:Un X.fs [] H H' s.heap h') (hok:HOk X.prog X.w H' h'):Inv X pins σ H' {s with heap:=h',toks:=t'}:=by
  obtain ⟨m,⟨o,es,ep,ho,r⟩,_⟩:=id I.loc;obtain ⟨sl,hL⟩:=u.any ho I.free (by simp);exact I.step (g':=s.gens) (d':=s.drawn) (ch:=[]) (fun _ z=>nomatch z) (fun b o _ hb _ e n=>u.keep b o e n hb (by simp)) (fun b o _ hb _ e n=>u.slot b o e n hb (by simp)) (fun b o _ e n=>u.free b o e n (by simp)) (fun b o _ e=>u.there b o e (by simp)) u.tups u.frzs u.tbls (fun m' hm=>by
    obtain ⟨o',es',ep',ho',r'⟩:=hm;rw [ho] at ho';cases ho'
    exact ⟨_,es',ep',hL,r'⟩) hok I.bare
theorem Inv.call {g':Array GenState} {t':Nat} {d':Drawn} {ch:List Addr} (I:Inv X pins σ H s) (u:Un (kO X.stack) ch H H' s.heap h') (hok:HOk X.prog X.w H' h') (hg:AllBare g')
  (hch:∀b∈ch,(b∈X.ex∨X.s₀.heap.objs.size≤b)∧b≠X.env.locals∧(∀x c,X.env.cells.lookup x=some c→c≠b)∧∀p∈X.pn++pins,p.1≠b) :
  Inv X pins σ H' {s with heap:=h',gens:=g',drawn:=d',toks:=t'}:=by
 obtain ⟨m,⟨o,es,ep,ho,r⟩,_⟩:=id I.loc;obtain ⟨sl,hL⟩:=u.any ho I.free fun z=>(hch _ z).2.1 rfl
 exact I.step (ch:=ch) hch (fun b o hL hb hc e n=>u.keep b o e n (fun z=>(ax.mp (I.stkSub b z)).elim hL hb) hc) (fun b o _ _ hc e n=>u.any e n hc) (fun b o hc e n=>u.free b o e n hc) (fun b o hc e=>u.there b o e hc) u.tups u.frzs u.tbls (fun m' hm=>by
  obtain ⟨o',es',ep',ho',r'⟩:=hm;rw [ho] at ho';cases ho'
  exact ⟨_,es',ep',hL,r'⟩) hok hg
theorem Inv.turned {t':Nat} {it:Addr} (I:Inv X pins σ H s) (k:∀b o,b≠it→s.heap.get? b=some o→h'.get? b=some o) (hn:H it=none) (hL:it≠X.env.locals)
    (h1:it∈X.ex∨X.s₀.heap.objs.size≤it) (h2:∀x c,X.env.cells.lookup x=some c→c≠it) (h3:∀p∈X.pn++pins,p.1≠it):Inv X pins σ H {s with heap:=h',toks:=t'}:=by
  have nit:∀b u,H b=some u→b≠it:=fun b u e z=>by rw [z,hn] at e;cases e
  refine I.step (g':=s.gens) (d':=s.drawn) (ch:=[it]) (fun b hb=>?_) (fun b o _ _ hc e _=>k b o (fun z=>hc (by simp [z])) e) (fun b o _ _ hc e _=>⟨o.slots,k b o (fun z=>hc (by simp [z])) e⟩) (fun _ _ _ _ n=>n)
    (fun b o hc e=>⟨o,k b o (fun z=>hc (by simp [z])) e⟩) (fun _ _ e=>e) (fun _ _ _ e=>e) (fun b ps e=>⟨#[],by rw [e];simp⟩) (fun m hm=>?_) (fun b u e=>?_) I.bare
  · have e:b=it:=by simpa using hb
    subst e;exact ⟨h1,hL,h2,h3⟩
  · obtain ⟨o,es,ep,ho,r⟩:=hm
    exact ⟨o,es,ep,k _ o (Ne.symm hL) ho,r⟩
  · refine (I.hok b u e).stay (fun c v hc q=>k c v ?_ q) (fun _ q=>q) fun _ _ q=>q
    rcases hc with z|z
    · rw [z];exact nit b u e
    · exact nit c _ z
theorem Inv.tok (I:Inv X pins σ H s) (t:Nat):Inv X pins σ H {s with toks:=t}:=I.un (h':=s.heap) (t':=t) Un.refl I.hok
theorem Inv.kept {t':Nat} (I:Inv X pins σ H s) (k:∀b u,s.heap.get? b=some u→h'.get? b=some u):Inv X pins σ H {s with heap:=h',toks:=t'}:=I.un (Un.kept k) (I.hok.kept k)
theorem Inv.laid {a:Addr} {o:HO} {t':Nat} (I:Inv X pins σ H s) (k:∀b u,s.heap.get? b=some u→h'.get? b=some u) (hp:s.heap.objs.size≤a) (new:ObjOk X.prog X.w (upd H a o) h' a o) :
  Inv X pins σ (upd H a o) {s with heap:=h',toks:=t'}:=I.un (Un.laid k hp (I.hok.fresh hp)) (I.hok.laid k hp new)
theorem Inv.write {x e:Addr} {o:HO} {t':Nat} (I:Inv X pins σ H s) (mu:gU (H x)) (he:e=x∨H e=some (.own x)) (k:∀b u,b≠e→s.heap.get? b=some u→h'.get? b=some u) (heo:∃u,h'.get? e=some u)
  (new:ObjOk X.prog X.w (upd H x o) h' x o):Inv X pins σ (upd H x o) {s with heap:=h',toks:=t'}:=I.un (Un.write mu he k heo) (I.hok.write mu he k heo new)
theorem Inv.pins_of {pins':List (Addr×Obj)} (I:Inv X pins σ H s) (h:∀p∈pins',s.heap.get? p.1=some p.2∧H p.1=none∧p.1≠X.env.locals∧p.1∉X.fs∧∀v,p.2.data≠.cell v):Inv X pins' σ H s :=
 ⟨I.ok,I.os,I.bare,I.base,I.loc,I.cell,I.free,I.freeC,fun p hp=>(aR.mp hp).elim (fun z=>I.pin p (bz _ z)) (h p),I.hok,I.len⟩
theorem CF {N:List Str} (hN:N.Nodup) {i j:Nat} {x:Str} (a:N[i]?=some x) (b:N[j]?=some x):i=j:=by
 obtain ⟨h1,e1⟩:=ad.mp a;obtain ⟨h2,e2⟩:=ad.mp b;exact (List.getElem_inj hN).mp (e1.trans e2.symm)
theorem AL {M:Model} {A:Around} {E:Value→Shared→Prop} {i:Nat} {x:Str} {v:V} {u:Value} {Q:Unit→Shared→Prop} (I:Inv X pins σ H s) (hN:X.N.Nodup) (hi:X.N[i]?=some x) (hx:cS X.env.scope x) (r:RelV v u)
  (h:∀s',Inv X pins (σ.set i (some v)) H s'→(∃a,Heap.SameBut a s.heap s'.heap∧(a=X.env.locals∨X.env.cells.lookup x=some a))→Q () s') (hf:X.fn x=true∨X.env.scope.names.lookup x=some .local:=by first|exact .inl rfl|exact .inr rfl|assumption):wpAny M A (storeName X.env x u) Q E s:=by
 obtain ⟨m,hn,hl⟩:=id I.loc;have hcls:(X.env.scope.kind == .class||(X.env.scope.kind == .module&&X.env.locals != X.env.globals))=false:=by rw [I.ok.kind];rfl
 have hiσ:i<σ.length:=by rw [I.len];exact (ad.mp hi).1
 have cne:=I.cne;have tracked:∀{a:Addr} {h':Heap},(∃o,s.heap.get? a=some o∧H a=none)→Heap.SameBut a s.heap h'→HOk X.prog X.w H h':=fun {a h'} ha hs b ob e=>by
  obtain ⟨_,_,hfree⟩:=ha;refine (I.hok b ob e).stay (fun c w' hc q=>(hs.2 c ?_).trans q) (fun _ q=>q) fun _ _ q=>q
  rintro rfl
  rcases hc with rfl|hc
  ·rw [hfree] at e;cases e
  ·rw [hfree] at hc;cases hc
 rcases hx with hk|hk
 ·refine wpAny_storeName_local hk hn (fun h' hn' hs=>?_) hcls;obtain ⟨oL,_,_,hoL,_⟩:=id hn;refine h _ ⟨I.ok,I.os,I.bare,⟨fun b o e n hb hx=>?_,fun b o e n hb hx=>?_,I.base.free,fun b o e hx=>?_,I.base.tups,I.base.frzs,I.base.tbls⟩,⟨_,hn',fun j y v' e1 e2 e3=>?_⟩,fun y c e=>?_,I.free,I.freeC,fun p hp=>?_,tracked ⟨oL,hoL,I.free⟩ hs,by simpa using I.len⟩ ⟨_,hs,.inl rfl⟩
  ·exact (hs.2 b (aF (ao (au e) I.ok.above))).trans (I.base.keep b o e n hb hx)
  ·obtain ⟨sl,e1⟩:=I.base.slot b o e n hb hx;exact ⟨sl,(hs.2 b (aF (ao (au e) I.ok.above))).trans e1⟩
  ·obtain ⟨o',e1⟩:=I.base.there b o e hx;exact ⟨o',(hs.2 b (aF (ao (au e) I.ok.above))).trans e1⟩
  ·by_cases hj:j=i
   ·subst hj;rw [hi] at e1;cases e1
    rw [il hiσ] at e2;cases e2;exact ⟨u,r,.inl ⟨hk,by simp⟩⟩
   ·rw [ke (Ne.symm hj)] at e2;obtain ⟨u',r',q⟩:=hl j y v' e1 e2 e3;refine ⟨u',r',?_⟩
    rcases q with ⟨k,e⟩|⟨k,c,e,z⟩
    ·refine .inl ⟨k,?_⟩;have:y≠x:=fun e=>hj (CF hN e1 (e▸hi))
     simp [this,e]
    ·exact .inr ⟨k,c,e,z.sameBut hs (cne y c e)⟩
  ·obtain ⟨w',z⟩:=I.cell y c e;exact ⟨w',z.sameBut hs (cne y c e)⟩
  ·obtain ⟨e,n,ne,nf,d⟩:=I.pin p hp;exact ⟨(hs.2 p.1 ne).trans e,n,ne,nf,d⟩
 ·have hfn:X.fn x=true:=by
   rcases hf with z|z
   ·exact z
   ·rw [z] at hk;cases hk
  obtain ⟨c,hc⟩:=I.ok.has x (.inl hk);obtain ⟨w',z⟩:=I.cell x c hc;refine wpAny_storeName_cell I.ok.kind hk hc z (fun h' hc' hs=>?_);obtain ⟨oc,hoc,hocd⟩:=id z;refine h {s with heap:=h'} ⟨I.ok,I.os,I.bare,⟨fun b o e n hb hx=>?_,fun b o e n hb hx=>?_,I.base.free,fun b o e hx=>?_,I.base.tups,I.base.frzs,I.base.tbls⟩,⟨m,hn.sameBut hs (Ne.symm (cne x c hc)),fun j y v' e1 e2 e3=>?_⟩,fun y c' e=>?_,I.free,I.freeC,fun p hp=>?_,tracked ⟨oc,hoc,I.freeC x c hc⟩ hs,by simpa using I.len⟩ ⟨c,hs,.inr hc⟩
  ·exact (hs.2 b (aF (ao (au e) (I.ok.cab x c hfn hc)))).trans (I.base.keep b o e n hb hx)
  ·obtain ⟨sl,e1⟩:=I.base.slot b o e n hb hx;exact ⟨sl,(hs.2 b (aF (ao (au e) (I.ok.cab x c hfn hc)))).trans e1⟩
  ·obtain ⟨o',e1⟩:=I.base.there b o e hx;exact ⟨o',(hs.2 b (aF (ao (au e) (I.ok.cab x c hfn hc)))).trans e1⟩
  ·by_cases hj:j=i
   ·subst hj;rw [hi] at e1;cases e1
    rw [il hiσ] at e2;cases e2;exact ⟨u,r,.inr ⟨.inl hk,c,hc,hc'⟩⟩
   ·rw [ke (Ne.symm hj)] at e2;obtain ⟨u',r',q⟩:=hl j y v' e1 e2 e3;refine ⟨u',r',?_⟩
    rcases q with q|⟨k,c',e,z'⟩
    ·exact .inl q
    ·refine .inr ⟨k,c',e,z'.sameBut hs ?_⟩;rintro rfl;exact hj (CF hN e1 (I.ok.inj _ _ _ e hc▸hi))
  ·by_cases hcc:c'=c
   ·subst hcc;exact ⟨_,hc'⟩
   ·obtain ⟨w2,z2⟩:=I.cell y c' e;exact ⟨w2,z2.sameBut hs hcc⟩
  ·obtain ⟨e,n,ne,nf,d⟩:=I.pin p hp;refine ⟨(hs.2 p.1 ?_).trans e,n,ne,nf,d⟩;intro q;rw [q,hoc] at e;have q':oc=p.2:=aE e;exact d w' (by rw [← q'];exact hocd)
theorem sK {M:Model} {A:Around} {E:Value→Shared→Prop} {i:Nat} {x:Str} {v:V} {u:Value} {Q:Unit→Shared→Prop} (I:Inv X pins σ H s) (hN:X.N.Nodup) (hi:X.N[i]?=some x) (hx:cS X.env.scope x) (r:RelV v u)
  (h:∀s',Inv X pins (σ.set i (some v)) H s'→Q () s') (hf:X.fn x=true∨X.env.scope.names.lookup x=some .local:=by first|exact .inl rfl|exact .inr rfl|assumption):wpAny M A (storeName X.env x u) Q E s :=
 AL I hN hi hx r (fun s' I' _=>h s' I') hf
theorem Inv.call' {s':Shared} {ch:List Addr} (I:Inv X pins σ H s) (ho:s'.os=s.os) (u:Un (kO X.stack) ch H H' s.heap s'.heap) (hok:HOk X.prog X.w H' s'.heap) (hg:AllBare s'.gens)
  (hch:∀b∈ch,(b∈X.ex∨X.s₀.heap.objs.size≤b)∧b≠X.env.locals∧(∀x c,X.env.cells.lookup x=some c→c≠b)∧∀p∈X.pn++pins,p.1≠b):Inv X pins σ H' s':=by
 obtain ⟨h',g',d',t',o'⟩:=s';have e:o'=s.os:=ho;subst e;exact I.call (g':=g') (t':=t') (d':=d') u hok hg hch
end
abbrev XK:=Value→Option Addr→Hp→Prop
abbrev St:=List (Option V)
abbrev VK:=V→Hp→Prop
abbrev TE:=St→Hp→VK→Prop
abbrev TT:=St→Hp→(Bool→Hp→Prop)→Prop
abbrev TA:=St→Hp→(List V→Hp→Prop)→Prop
structure Ends where
 nx:St→Hp→Prop
 rt:VK
 bk:St→Hp→Prop:=fun _ _=>False
 ct:St→Hp→Prop:=fun _ _=>False
abbrev TS:=Ends→St→Hp→Prop
def EP (X:Cx) (pins:List (Addr×Obj)) (σ:St) (Q:VK) (u:Value) (s':Shared):Prop:=∃v H',Inv X pins σ H' s'∧RelV v u∧Q v H'
def TP (X:Cx) (pins:List (Addr×Obj)) (σ:St) (Q:Bool→Hp→Prop) (b:Bool) (s':Shared):Prop:=∃H',Inv X pins σ H' s'∧Q b H'
def AP (X:Cx) (pins:List (Addr×Obj)) (σ:St) (Q:List V→Hp→Prop) (us:List Value) (s':Shared):Prop:=∃vs H',Inv X pins σ H' s'∧Vals vs us∧Q vs H'
def SP (X:Cx) (pins:List (Addr×Obj)) (D:Ends) (f:Flow) (s':Shared):Prop :=
 match f with
 |.next=>∃σ' H',Inv X pins σ' H' s'∧D.nx σ' H'
 |.brk=>∃σ' H',Inv X pins σ' H' s'∧D.bk σ' H'
 |.cont=>∃σ' H',Inv X pins σ' H' s'∧D.ct σ' H'
 |.ret u=>∃v σ' H',Inv X pins σ' H' s'∧RelV v u∧D.rt v H'
def PE (X:Cx) (e:Expr) (t:TE):Prop :=
 ∀(pins:List (Addr×Obj)) (s:Shared) (σ:St) (H:Hp) (Q:VK),Inv X pins σ H s→t σ H Q→wpAny (model X.prog X.w) X.A (eval e X.env) (EP X pins σ Q) X.xe s
def PT (X:Cx) (e:Expr) (t:TT):Prop :=
 ∀(pins:List (Addr×Obj)) (s:Shared) (σ:St) (H:Hp) (Q:Bool→Hp→Prop),Inv X pins σ H s→t σ H Q→wpAny (model X.prog X.w) X.A (isTrue e X.env (eval e X.env)) (TP X pins σ Q) X.xe s
def PW (X:Cx) (e:Expr) (t:TT):Prop :=
 ∀(whole:Sem Value) (pins:List (Addr×Obj)) (s:Shared) (σ:St) (H:Hp) (Q:Bool→Hp→Prop),Inv X pins σ H s→t σ H Q→wpAny (model X.prog X.w) X.A (isTrue e X.env whole) (TP X pins σ Q) X.xe s
theorem PW.pt {X:Cx} {e:Expr} {t:TT} (h:PW X e t):PT X e t:=h _
def PA (X:Cx) (es:List Expr) (t:TA):Prop :=
 ∀(pos:Pos) (pins:List (Addr×Obj)) (s:Shared) (σ:St) (H:Hp) (Q:List V→Hp→Prop),Inv X pins σ H s→t σ H Q→wpAny (model X.prog X.w) X.A (spliced (backTo pos (starEach es X.env))) (AP X pins σ Q) X.xe s
def PS (X:Cx) (st:Stmt) (t:TS):Prop :=
 ∀(pins:List (Addr×Obj)) (s:Shared) (σ:St) (H:Hp) (D:Ends),Inv X pins σ H s→t D σ H→wpAny (model X.prog X.w) X.A (exec st X.env) (SP X pins D) X.xe s
def PSs (X:Cx) (st:List Stmt) (t:TS):Prop :=
 ∀(pins:List (Addr×Obj)) (s:Shared) (σ:St) (H:Hp) (D:Ends),Inv X pins σ H s→t D σ H→wpAny (model X.prog X.w) X.A (execs st X.env) (SP X pins D) X.xe s
theorem jN {α:Type} {t:Sem α} {Q Q':α→Shared→Prop} {M:Model} {A:Around} {E:Value→Shared→Prop} {s:Shared} (h:wpAny M A t Q E s) (hQ:∀a s,Q a s→Q' a s):wpAny M A t Q' E s:=bv h hQ fun _ _ x=>x
section
variable {X:Cx}
def FN (i:Nat):TE:=fun σ H Q=>∃v,σ[i]?=some (some v)∧Q v H
def tC (v:V):TE:=fun _ H Q=>Q v H
theorem uB {i:Nat} {x:Str} {pos:Pos} (hN:X.N[i]?=some x) (hv:eN X.env.scope x) (hd:(x == ("__debug__":Str))=false:=by decide) (hcd:(x == ("__classdict__":Str))=false:=by decide):PE X (.Name x pos) (FN i):=by
 intro pins s σ H Q I h;obtain ⟨v,e,h⟩:=h;obtain ⟨m,hn,hl⟩:=I.loc;obtain ⟨u,r,l⟩:=hl i x v hN e hv;have fin:EP X pins σ Q u s:=⟨v,H,I,r,h⟩
 rcases l with ⟨hk,hm⟩|⟨hk,c,hc,hcell⟩
 ·exact wpAny_Name (wpAny_loadName_local I.ok.kind hk hn hm fin) hd
 ·rcases hk with hk|hk
  ·exact wpAny_Name (wpAny_loadName_cell I.ok.kind hk hc hcell fin) hd
  ·exact wpAny_Name (wpAny_loadName_free I.ok.kind hk hc hcell fin hcd) hd
theorem jC {i j pos}:PE X (.Constant (.int i) j pos) (tC (.int i)):=fun _ _ _ H _ I h=>wpAny_Constant_int ⟨.int i,H,I.tok _,⟨_,rfl⟩,h⟩
theorem yT {b j pos}:PE X (.Constant (.bool b) j pos) (tC (.bl b)):=fun _ _ _ H _ I h=>Constant_bool ⟨.bl b,H,I,rfl,h⟩
theorem ZC {j pos}:PE X (.Constant .none j pos) (tC .non):=fun _ _ _ H _ I h=>Constant_none ⟨.non,H,I,rfl,h⟩
theorem j6 {x j pos}:PE X (.Constant (.str x) j pos) (tC (.str x)):=fun _ _ _ H _ I h=>Calls.Constant_str ⟨.str x,H,I.tok _,⟨_,rfl⟩,h⟩
def Gl (X:Cx) (x:Str):Prop:=X.env.kindOf x=some .globalImplicit
theorem bR {E:Value→Shared→Prop} {pins:List (Addr×Obj)} {s:Shared} {σ:St} {H:Hp} {x:Str} {u:Value} {pos:Pos} {Q:Value→Shared→Prop} (I:Inv X pins σ H s) (hg:Gl X x) (hm:X.mg x=some u) (h:Q u s)
  (hd:(x == ("__debug__":Str))=false:=by decide):wpAny (model X.prog X.w) X.A (eval (.Name x pos) X.env) Q E s :=
 Calls.Name_function_global I.ok.kind hg (Calls.loadGlobal_global (by rw [I.ok.glob];exact I.mod.glob.keeps I.bk) hm h) hd
theorem ZF {E:Value→Shared→Prop} {pins:List (Addr×Obj)} {s:Shared} {σ:St} {H:Hp} {x:Str} {u:Value} {pos:Pos} {Q:Value→Shared→Prop} (I:Inv X pins σ H s) (hg:Gl X x) (hm:X.mg x=none) (hv:bootBuiltins x=some u) (h:Q u s)
  (hn:x≠"__name__":=by decide) (hd:(x == ("__debug__":Str))=false:=by decide):wpAny (model X.prog X.w) X.A (eval (.Name x pos) X.env) Q E s:=by
 obtain ⟨mb,h1,h2⟩:=I.mod.blt;exact Calls.Name_function_global I.ok.kind hg (Calls.loadGlobal_builtin (by rw [I.ok.glob];exact I.mod.glob.keeps I.bk) hm (by rw [I.ok.blt];exact h1.keeps I.bk) ((h2 x hn).trans hv) h) hd
theorem fS {x:Str} {v:V} {u:Value} {pos:Pos} (hg:Gl X x) (hm:X.mg x=some u) (r:RelV v u) (hd:(x == ("__debug__":Str))=false:=by decide):PE X (.Name x pos) (tC v) :=
 fun _ _ _ H _ I h=>bR I hg hm ⟨v,H,I,r,h⟩ hd
theorem bQ {x:Str} {v:V} {u:Value} {pos:Pos} (hg:Gl X x) (hm:X.mg x=none) (hv:bootBuiltins x=some u) (r:RelV v u) (hn:x≠"__name__":=by decide) (hd:(x == ("__debug__":Str))=false:=by decide):PE X (.Name x pos) (tC v) :=
 fun _ _ _ H _ I h=>ZF I hg hm hv ⟨v,H,I,r,h⟩ hn hd
variable {a b:Expr} {ta tb:TE} {pos:Pos}
def PC (X:Cx) (op:CmpOp) (a b:Expr) (t:TE):Prop :=
 ∀(pins:List (Addr×Obj)) (s:Shared) (σ:St) (H:Hp) (Q:VK),Inv X pins σ H s→t σ H Q→
  wpAny (model X.prog X.w) X.A (eval a X.env) (fun v s₁=>wpAny (model X.prog X.w) X.A (eval b X.env) (fun u s₂=>wpAny (model X.prog X.w) X.A (compareOp op v u) (EP X pins σ Q) X.xe s₂) X.xe s₁) X.xe s
theorem P7 (b:Expr) {op:CmpOp} (h:op≠.In) (h2:op≠.NotIn):behindInMarks op b=false:=by
 have e1:(op == CmpOp.In)=false:=by cases op<;>first|rfl|exact absurd rfl h
 have e2:(op == CmpOp.NotIn)=false:=by cases op<;>first|rfl|exact absurd rfl h2
 cases b<;>simp [behindInMarks,e1,e2]
def tB (t:TE):TT:=fun σ H Q=>t σ H fun x H1=>∃c,x=.bl c∧Q c H1
theorem ES {op:CmpOp} {t:TE} (h:PC X op a b t) (h1:behindInMarks op b=false:=by first|exact P7 _ (by decide) (by decide)|rfl):PT X (.Compare a [op] [b] pos) (tB t):=by
 intro pins s σ H Q I hw;refine wpAny_isTrue_Compare1 (jN (h pins s σ H _ I hw) fun v s1 h1=>jN h1 fun u s2 h2=>jN h2 fun c s3 ⟨x,H1,I1,r1,q1⟩=>?_) h1;obtain ⟨d,rfl,q⟩:=q1;cases r1;exact di ⟨H1,I1,q⟩
theorem yA {e:Expr} {t:TE} (h:PE X e t) (he:∀whole,isTrue e X.env whole=(do let v ← whole;standAt e.pos;holding [v] (truthy v)):=by intro _;rfl):PT X e (tB t):=by
 intro pins s σ H Q I hw;refine isTrue_plain (jN (h pins s σ H _ I hw) fun v s1 ⟨x,H1,I1,r1,q1⟩=>?_) (he _);obtain ⟨d,rfl,q⟩:=q1;cases r1;exact di ⟨H1,I1,q⟩
variable {tA tB':TT} {rest:List Expr}
def V2 (t u:TT):TT:=fun σ H Q=>t σ H fun c H1=>if c=true then u σ H1 Q else Q false H1
def WT (t u:TT):TT:=fun σ H Q=>t σ H fun c H1=>if c=true then Q true H1 else u σ H1 Q
def VU (t:TT):TT:=fun σ H Q=>t σ H fun c H1=>Q (!c) H1
theorem SH (ha:PT X a tA):PW X (.BoolOp .And [a] pos) tA:=by
 intro wh pins s σ H Q I h;refine isTrue_and (jN (ha pins s σ H Q I h) fun c s1 e=>?_);cases c with
 |true=>exact isTrue_and_nil e
 |false=>exact e
theorem bU (ha:PT X a tA):PW X (.BoolOp .Or [a] pos) tA:=by
 intro wh pins s σ H Q I h;refine isTrue_or (jN (ha pins s σ H Q I h) fun c s1 e=>?_);cases c with
 |false=>exact isTrue_or_nil e
 |true=>exact e
theorem TV (ha:PT X a tA) (hb:PW X (.BoolOp .And (b::rest) pos) tB'):PW X (.BoolOp .And (a::b::rest) pos) (V2 tA tB'):=by
 intro wh pins s σ H Q I h;refine isTrue_and (jN (ha pins s σ H _ I h) fun c s1 ⟨H1,I1,q1⟩=>?_);cases c with
 |true=>exact hb wh pins s1 σ H1 Q I1 q1
 |false=>exact ⟨H1,I1,q1⟩
theorem QV (ha:PT X a tA) (hb:PW X (.BoolOp .Or (b::rest) pos) tB'):PW X (.BoolOp .Or (a::b::rest) pos) (WT tA tB'):=by
 intro wh pins s σ H Q I h;refine isTrue_or (jN (ha pins s σ H _ I h) fun c s1 ⟨H1,I1,q1⟩=>?_);cases c with
 |true=>exact ⟨H1,I1,q1⟩
 |false=>exact hb wh pins s1 σ H1 Q I1 q1
theorem J8 (ha:PT X a tA):PT X (.UnaryOp .Not a pos) (VU tA):=by
 intro pins s σ H Q I h;exact isTrue_not (ha pins s σ H (fun c H1=>Q (!c) H1) I h)
def UZ (ta tb:TE):TE:=fun σ H Q=>ta σ H fun x H1=>∃c,x=.bl c∧if c=true then tb σ H1 Q else Q (.bl false) H1
def UR (ta:TE):TE:=fun σ H Q=>ta σ H fun x H1=>∃c,x=.bl c∧Q (.bl (!c)) H1
theorem fY {op} {t:TE} (h:PE X a t):PE X (.BoolOp op [a] pos) t:=fun pins s σ H Q I hw=>BoolOp_one (h pins s σ H Q I hw)
theorem fZ (ha:PE X a ta) (hb:PE X (.BoolOp .And (b::rest) pos) tb):PE X (.BoolOp .And (a::b::rest) pos) (UZ ta tb):=by
 intro pins s σ H Q I h;refine BoolOp_and (jN (ha pins s σ H _ I h) fun v s1 ⟨x,H1,I1,r1,q1⟩=>?_);obtain ⟨c,rfl,q1⟩:=q1;cases r1;refine di ?_;cases c with
 |true=>exact hb pins s1 σ H1 Q I1 q1
 |false=>exact ⟨.bl false,H1,I1,rfl,q1⟩
theorem EU (ha:PE X a ta):PE X (.UnaryOp .Not a pos) (UR ta):=by
 intro pins s σ H Q I h;refine UnaryOp_ (jN (ha pins s σ H _ I h) fun v s1 ⟨x,H1,I1,r1,q1⟩=>?_);obtain ⟨c,rfl,q1⟩:=q1;cases r1;exact not_of (di ⟨.bl (!c),H1,I1,rfl,q1⟩)
def WU (t:TT) (ta tb:TE):TE:=fun σ H Q=>t σ H fun c H1=>if c=true then ta σ H1 Q else tb σ H1 Q
theorem Q8 {c:Expr} (hc:PT X c tA) (ha:PE X a ta) (hb:PE X b tb):PE X (.IfExp c a b pos) (WU tA ta tb):=by
 intro pins s σ H Q I h;refine wpAny_IfExp (jN (hc pins s σ H _ I h) fun d s1 ⟨H1,I1,q1⟩=>?_);cases d with
 |true=>exact ha pins s1 σ H1 Q I1 q1
 |false=>exact hb pins s1 σ H1 Q I1 q1
end
def SqL (K:PySem.W.Frag) (H:Hp) (a:Addr) (xs:List V):Prop :=
 Rd H a (.lst xs)∨
  ∃(o:Obj) (its:Array Value) (n:Nat),K.lookup a=some o∧o.cls=.type "list"∧o.dict=none∧o.data=.seq its n∧its.size≤sizeLine∧Vals xs its.toList
def SqT (K:PySem.W.Frag) (H:Hp) (a:Addr) (xs:List V):Prop :=
 Rd H a (.tup xs)∨
  ∃(o:Obj) (its:Array Value) (n:Nat),K.lookup a=some o∧o.cls=.type "tuple"∧o.data=.seq its n∧its.size≤sizeLine∧Vals xs its.toList
def WJ:Value→Option V
 |.none=>some .non
 |.bool b=>some (.bl b)
 |.int i _=>some (.int i)
 |.str x _=>some (.str x)
 |.bytes b _=>some (.byt b)
 |.float b _=>some (.flt b)
 |.ref a=>some (.ref a)
 |.type n=>some (.ty n)
 |_=>none
variable {u:Value}
theorem RelV.abs {x:V} (r:RelV x u):WJ u=some x:=by
 cases x with
 |non=>cases r;rfl
 |bl _=>cases r;rfl
 |int _=>obtain ⟨t,rfl⟩:=r;rfl
 |str _=>obtain ⟨t,rfl⟩:=r;rfl
 |byt _=>obtain ⟨t,rfl⟩:=r;rfl
 |flt _=>obtain ⟨t,rfl⟩:=r;rfl
 |ref _=>cases r;rfl
 |ty _=>cases r;rfl
theorem RelV.inj {x y:V} (r:RelV x u) (q:RelV y u):x=y:=aE (r.abs.symm.trans q.abs)
theorem Vals.inj:∀{xs ys:List V} {us:List Value},Vals xs us→Vals ys us→xs=ys
 |_,_,_,.nil,.nil=>rfl
 |_,_,_,.cons r t,.cons r' t'=>by rw [r.inj r',Vals.inj t t']
section
variable {X:Cx} {pins:List (Addr×Obj)} {σ:St} {H:Hp} {s:Shared} {a:Addr} {xs ys:List V}
theorem SqL.of {K:PySem.W.Frag} (h:H a=some (.lst xs)):SqL K H a xs:=.inl (.inl h)
theorem SqT.of {K:PySem.W.Frag} (h:H a=some (.tup xs)):SqT K H a xs:=.inl (.inl h)
theorem Inv.list (I:Inv X pins σ H s) (h:SqL X.K H a xs):∃its:List Value,Vals xs its∧PlainL s.heap a its.toArray∧xs.length≤sizeLine:=by
 rcases h with h|⟨o,its,n,hk,hc,hd,hs,hz,r⟩
 ·obtain ⟨z,its,n,r,e⟩:=h.ok I.hok;exact ⟨its,r,⟨_,n,e,rfl,rfl,rfl⟩,z⟩
 ·refine ⟨its.toList,r,⟨o,n,I.kIn a o hk,hc,hd,by simpa using hs⟩,?_⟩;have e:=r.length;simp only [bw] at e;omega
theorem Inv.tuple (I:Inv X pins σ H s) (h:SqT X.K H a xs):∃its:List Value,Vals xs its∧IsTup s.heap a its.toArray∧xs.length≤sizeLine:=by
 rcases h with h|⟨o,its,n,hk,hc,hs,hz,r⟩
 ·obtain ⟨z,its,r,p⟩:=h.ok I.hok;exact ⟨its,r,p,z⟩
 ·refine ⟨its.toList,r,⟨o,I.kIn a o hk,hc,n,by simpa using hs⟩,?_⟩;have e:=r.length;simp only [bw] at e;omega
theorem Inv.list_inj (I:Inv X pins σ H s) (h:SqL X.K H a xs) (h':SqL X.K H a ys):xs=ys:=by
 obtain ⟨its,r,⟨o,n,e,_,_,d⟩,_⟩:=I.list h;obtain ⟨its',r',⟨o',n',e',_,_,d'⟩,_⟩:=I.list h';rw [e] at e';cases e'
 rw [d] at d';injection d' with d1 _
 have:its=its':=by simpa using cp Array.toList d1
 subst this;exact r.inj r'
theorem Inv.tuple_inj (I:Inv X pins σ H s) (h:SqT X.K H a xs) (h':SqT X.K H a ys):xs=ys:=by
 obtain ⟨its,r,⟨o,e,_,n,d⟩,_⟩:=I.tuple h;obtain ⟨its',r',⟨o',e',_,n',d'⟩,_⟩:=I.tuple h';rw [e] at e';cases e'
 rw [d] at d';injection d' with d1 _
 have:its=its':=by simpa using cp Array.toList d1
 subst this;exact r.inj r'
end
abbrev Cx.wish (X:Cx) (E:Value→Shared→Prop):Cx:={X with xe:=E}
abbrev Cx.nox (X:Cx):Cx:=X.wish fun _ _=>False
variable {X:Cx}
theorem Cx.Ok.wish (ok:X.Ok) (E:Value→Shared→Prop):(X.wish E).Ok :=
 ⟨ok.mod,ok.kind,ok.glob,ok.blt,ok.above,ok.inj,ok.has,ok.cab,ok.hd,ok.frames,ok.stk,ok.exf,ok.bs,ok.bsz,ok.noex,ok.exfs,ok.funs,ok.frf⟩
theorem Cx.Ok.unwish {E:Value→Shared→Prop} (ok:(X.wish E).Ok):X.Ok :=
 ⟨ok.mod,ok.kind,ok.glob,ok.blt,ok.above,ok.inj,ok.has,ok.cab,ok.hd,ok.frames,ok.stk,ok.exf,ok.bs,ok.bsz,ok.noex,ok.exfs,ok.funs,ok.frf⟩
section
variable {X:Cx} {pins:List (Addr×Obj)} {σ:St} {H:Hp} {s:Shared} {E:Value→Shared→Prop}
theorem Inv.wish (I:Inv X pins σ H s) (E:Value→Shared→Prop):Inv (X.wish E) pins σ H s:=⟨I.ok.wish E,I.os,I.bare,I.base,I.loc,I.cell,I.free,I.freeC,I.pin,I.hok,I.len⟩
theorem Inv.unwish (I:Inv (X.wish E) pins σ H s):Inv X pins σ H s:=⟨I.ok.unwish,I.os,I.bare,I.base,I.loc,I.cell,I.free,I.freeC,I.pin,I.hok,I.len⟩
theorem SP.unwish {D:Ends} {f:Flow} {s':Shared} (h:SP (X.wish E) pins D f s'):SP X pins D f s':=by
 cases f with
 |next=>obtain ⟨σ',H',I,q⟩:=h;exact ⟨σ',H',I.unwish,q⟩
 |brk=>obtain ⟨σ',H',I,q⟩:=h;exact ⟨σ',H',I.unwish,q⟩
 |cont=>obtain ⟨σ',H',I,q⟩:=h;exact ⟨σ',H',I.unwish,q⟩
 |ret u=>obtain ⟨v,σ',H',I,r,q⟩:=h;exact ⟨v,σ',H',I.unwish,r,q⟩
theorem PE.nox {e:Expr} {t:TE} (h:PE X.nox e t):PE X e t:=fun pins s σ H Q I hw =>
 bv (h pins s σ H Q (I.wish _) hw) (fun _ _ ⟨v,H',I',r,q⟩=>⟨v,H',I'.unwish,r,q⟩) fun _ _ z=>False.elim z
theorem PSs.nox {st:List Stmt} {t:TS} (h:PSs X.nox st t):PSs X st t:=fun pins s σ H D I hw =>
 bv (h pins s σ H D (I.wish _) hw) (fun _ _ q=>q.unwish) fun _ _ z=>False.elim z
end
section
variable {X:Cx} {st:Stmt} {rest:List Stmt} {t u:TS} {e:Expr} {te:TE} {pos:Pos}
def US:TS:=fun D σ H=>D.nx σ H
def VT (t u:TS):TS:=fun D σ H=>t {D with nx:=u D} σ H
theorem kS:PSs X [] US:=fun _ _ σ H _ I h=>hV ⟨σ,H,I,h⟩
theorem jG (h1:PS X st t) (h2:PSs X rest u):PSs X (st::rest) (VT t u):=by
 intro pins s σ H D I h;refine iz (jN (h1 pins s σ H {D with nx:=u D} I h) fun f s1 q=>?_);cases f with
 |next =>
  obtain ⟨σ',H',I',q⟩:=q;exact h2 pins s1 σ' H' D I' q
 |ret v=>exact q
 |brk=>exact q
 |cont=>exact q
theorem kX (h1:PS X st t):PSs X [st] t:=by
 intro pins s σ H D I h;refine iz (jN (h1 pins s σ H D I h) fun f s1 q=>?_);cases f with
 |next=>exact hV q
 |ret v=>exact q
 |brk=>exact q
 |cont=>exact q
theorem Inv.quiet {pins:List (Addr×Obj)} {σ:St} {H:Hp} {s:Shared} (I:Inv X pins σ H s):interactive X.env=false:=by simp [interactive,I.ok.kind]
def UU (te:TE):TS:=fun D σ H=>te σ H fun _ H1=>D.nx σ H1
theorem JJ (he:PE X e te) (hs:swapsWith e none pos.line X.env=pure false:=by rfl):PS X (.Expr e pos) (UU te):=by
 intro pins s σ H D I h;exact wpAny_Expr_any (jN (he pins s σ H _ I h) fun v s1 ⟨x,H1,I1,r1,q1⟩=>⟨σ,H1,I1,q1⟩) I.quiet hs
def FO (te:TE):TS:=fun D σ H=>te σ H D.rt
theorem GL (he:PE X e te):PS X (.Return (some e) pos) (FO te):=by
 intro pins s σ H D I h;exact wpAny_Return_some (jN (he pins s σ H _ I h) fun v s1 ⟨x,H1,I1,r1,q1⟩=>⟨x,σ,H1,I1,r1,q1⟩)
def VY (c:TT) (t u:TS):TS:=fun D σ H=>c σ H fun b H1=>if b=true then t D σ H1 else u D σ H1
theorem kT {c:Expr} {a b:List Stmt} {tc:TT} (hc:PT X c tc) (ha:PSs X a t) (hb:PSs X b u):PS X (.If c a b pos) (VY tc t u):=by
 intro pins s σ H D I h;refine wpAny_If (jN (hc pins s σ H _ I h) fun d s1 ⟨H1,I1,q1⟩=>?_);cases d with
 |true=>exact ha pins s1 σ H1 D I1 q1
 |false=>exact hb pins s1 σ H1 D I1 q1
end
abbrev TG:=V→St→Hp→(St→Hp→Prop)→Prop
abbrev bE:=List V→St→Hp→(St→Hp→Prop)→Prop
def PG (X:Cx) (target:Expr) (t:TG):Prop :=
 ∀(pins:List (Addr×Obj)) (s:Shared) (σ:St) (H:Hp) (v:V) (u:Value) (Q:St→Hp→Prop),Inv X pins σ H s→RelV v u→t v σ H Q→
  wpAny (model X.prog X.w) X.A (assign target X.env u) (fun _ s'=>∃σ' H',Inv X pins σ' H' s'∧Q σ' H') X.xe s
def gT (X:Cx) (ts:List Expr) (t:bE):Prop :=
 ∀(pins:List (Addr×Obj)) (s:Shared) (σ:St) (H:Hp) (vs:List V) (us:List Value) (Q:St→Hp→Prop),Inv X pins σ H s→Vals vs us→t vs σ H Q→
  wpAny (model X.prog X.w) X.A (assignInOrder ((assignEach ts X.env).map (·.2)) us) (fun _ s'=>∃σ' H',Inv X pins σ' H' s'∧Q σ' H') X.xe s
abbrev gM:=V→V→V→Hp→(Hp→Prop)→Prop
def wA (X:Cx) (t:gM):Prop :=
 ∀(pins:List (Addr×Obj)) (s:Shared) (σ:St) (H:Hp) (o i v:V) (ov iv u:Value) (Q:Hp→Prop),Inv X pins σ H s→RelV o ov→RelV i iv→RelV v u→t o i v H Q→
  wpAny (model X.prog X.w) X.A (setItem ov iv u) (fun _ s'=>∃H',Inv X pins σ H' s'∧Q H') X.xe s
abbrev nM:=V→V→Hp→VK→Prop
def wP (X:Cx) (op:Operator) (t:nM):Prop :=
 ∀(pins:List (Addr×Obj)) (s:Shared) (σ:St) (H:Hp) (x y:V) (v u:Value) (Q:VK),Inv X pins σ H s→RelV x v→RelV y u→t x y H Q→
  wpAny (model X.prog X.w) X.A (inplaceOp op v u) (EP X pins σ Q) X.xe s
section
variable {X:Cx} {pos:Pos}
def b7 (i:Nat):TG:=fun v σ H Q=>Q (σ.set i (some v)) H
theorem kC {i:Nat} {x:Str} (hN:X.N.Nodup) (hi:X.N[i]?=some x) (hx:cS X.env.scope x) (hf:X.fn x=true∨X.env.scope.names.lookup x=some .local:=by first|exact .inl rfl|exact .inr rfl|assumption):PG X (.Name x pos) (b7 i):=by
 intro pins s σ H v u Q I r h;exact wpAny_assign_Name (sK I hN hi hx r (fun s' I'=>⟨_,H,I',h⟩) hf)
def WG:bE:=fun vs σ H Q=>vs=[]∧Q σ H
def VI (t:TG) (u:bE):bE:=fun vs σ H Q=>∃v r,vs=v::r∧t v σ H fun σ' H'=>u r σ' H' Q
theorem JD:gT X [] WG:=by
 intro pins s σ H vs us Q I r h;obtain ⟨e,h⟩:=h;subst e;cases r;exact assignInOrder_nil ⟨σ,H,I,h⟩
theorem qW {e:Expr} {es:List Expr} {t:TG} {u:bE} (h1:PG X e t) (h2:gT X es u)
  (hs:(assignEach (e::es) X.env).map (·.2)=assign e X.env::(assignEach es X.env).map (·.2):=by rfl):gT X (e::es) (VI t u):=by
 intro pins s σ H vs us Q I r h;obtain ⟨v,vr,e1,h⟩:=h;subst e1;cases r with
 |cons r rr =>
  rw [hs];refine assignInOrder_cons (jN (h1 pins s σ H _ _ _ I r h) fun _ s1 ⟨σ1,H1,I1,q1⟩=>?_);exact h2 pins s1 σ1 H1 _ _ Q I1 rr q1
def FU (K:PySem.W.Frag) (n:Nat) (t:bE):TG:=fun v σ H Q=>∃a xs,v=.ref a∧SqT K H a xs∧xs.length=n∧t xs σ H Q
theorem l9 {es:List Expr} {k:Nat} {t:bE} {n:Nat} (hc:X.calm=true) (h:gT X es t)
  (hn:(assignEach es X.env).length=n:=by rfl) (hst:(assignEach es X.env).findIdx? (·.1)=none:=by rfl):PG X (.Tuple es k pos) (FU X.K n t):=by
 intro pins s σ H v u Q I r hw;obtain ⟨a,xs,e1,hq,hl,hw⟩:=hw;subst e1;cases r;obtain ⟨its,rv,ht,hz⟩:=I.tuple hq;refine assign_Tuple_tuple (I.ok.hd hc) ht (by simp [hn,← hl,rv.length]) hst fun h' hx=>?_
 have I1:Inv X pins σ H {s with heap:=h'}:=I.kept (t':=s.toks) fun b o e=>hx b o (aF (au e)) e
 exact h pins _ σ H xs _ Q I1 (by simpa using rv) hw
def WF (to ti:TE) (t:gM):TG:=fun v σ H Q=>to σ H fun o H1=>ti σ H1 fun i H2=>t o i v H2 fun H3=>Q σ H3
theorem t9 {o i:Expr} {to ti:TE} {t:gM} (ho:PE X o to) (hi:PE X i ti) (hs:wA X t)
  (ha:∀v,assign (.Subscript o i pos) X.env v=(do
   let ov ← holding [v] (eval o X.env)
   let iv ← holding [v,ov] (eval i X.env)
   standAt pos
   holding [v,ov,iv] (setItem ov iv v)
   release [v,ov,iv] []):=by intro _;rfl):PG X (.Subscript o i pos) (WF to ti t):=by
 intro pins s σ H v u Q I r h;rw [ha];refine ac (cb (jN (ho pins s σ H _ I h) fun ov s1 ⟨x,H1,I1,r1,q1⟩=>?_));refine ac (cb (jN (hi pins s1 σ H1 _ I1 q1) fun iv s2 ⟨y,H2,I2,r2,q2⟩=>?_));refine ac (ko (ac (cb (jN (hs pins s2 σ H2 x y v ov iv u _ I2 r1 r2 r q2) fun _ s3 ⟨H3,I3,q3⟩=>?_))));exact wpAny_release ⟨σ,H3,I3,q3⟩
def uV (te:TE) (g:TG):TS:=fun D σ H=>te σ H fun x H1=>g x σ H1 D.nx
theorem t7 {tg e:Expr} {te:TE} {g:TG} (he:PE X e te) (hg:PG X tg g) (hs:swapsWithSole [tg] e pos.line X.env=pure false:=by rfl) (hw:swappedStores [tg] e X.env=pure none:=by rfl)
  (h1:(assignEach [tg] X.env).map (·.2)=[assign tg X.env]:=by rfl):PS X (.Assign [tg] e pos) (uV te g):=by
 intro pins s σ H D I h;refine wpAny_Assign_stores (jN (he pins s σ H _ I h) fun v s1 ⟨x,H1,I1,r1,q1⟩=>?_) hs hw;rw [h1];exact jN (hg pins s1 σ H1 x v _ I1 r1 q1) fun _ s2 q=>q
theorem GM {i:Nat} {x:Str} {e:Expr} {te:TE} {pos':Pos} (hN:X.N.Nodup) (hi:X.N[i]?=some x) (hx:cS X.env.scope x) (he:PE X e te) (hs:swapsWith e (some (.Name x pos')) pos.line X.env=pure false:=by rfl) (hf:X.fn x=true∨X.env.scope.names.lookup x=some .local:=by first|exact .inl rfl|exact .inr rfl|assumption) :
  PS X (.Assign [.Name x pos'] e pos) (uV te (b7 i)):=by
 intro pins s σ H D I h;refine wpAny_Assign_Name (jN (he pins s σ H _ I h) fun v s1 ⟨y,H1,I1,r1,q1⟩=>?_) hs;exact sK I1 hN hi hx r1 (fun s2 I2=>⟨_,H1,I2,q1⟩) hf
def UY (to ti te:TE) (tget:V→V→Hp→VK→Prop) (tip:nM) (tset:gM):TS:=fun D σ H=>to σ H fun o H1=>ti σ H1 fun i H2=>tget o i H2 fun x H3=>te σ H3 fun y H4=>tip x y H4 fun z H5=>tset o i z H5 fun H6=>D.nx σ H6
def FZ (X:Cx) (t:V→V→Hp→VK→Prop):Prop :=
 ∀(pins:List (Addr×Obj)) (s:Shared) (σ:St) (H:Hp) (o i:V) (ov iv:Value) (Q:VK),Inv X pins σ H s→RelV o ov→RelV i iv→t o i H Q→
  wpAny (model X.prog X.w) X.A (getItem ov iv) (EP X pins σ Q) X.xe s
theorem tN {o i e:Expr} {to ti te:TE} {tget:V→V→Hp→VK→Prop} {tip:nM} {tset:gM} {op:Operator} {tpos:Pos} (ho:PE X o to) (hi:PE X i ti) (hg:FZ X tget) (he:PE X e te) (hp:wP X op tip) (hs:wA X tset)
  (ha:∀ov iv new,augStore i ov iv new=(do holding [new,ov,iv] (setItem ov iv new);release [new,ov,iv] [];pure .next):=by intros;rfl):PS X (.AugAssign (.Subscript o i tpos) op e pos) (UY to ti te tget tip tset):=by
 intro pins s σ H D I h;refine wpAny_AugAssign_SubscriptAny (jN (ho pins s σ H _ I h) fun ov s1 ⟨x1,H1,I1,r1,q1⟩=>?_) ha;refine jN (hi pins s1 σ H1 _ I1 q1) fun iv s2 ⟨x2,H2,I2,r2,q2⟩=>?_
 refine jN (hg pins s2 σ H2 x1 x2 ov iv _ I2 r1 r2 q2) fun old s3 ⟨x3,H3,I3,r3,q3⟩=>?_
 refine jN (he pins s3 σ H3 _ I3 q3) fun v s4 ⟨x4,H4,I4,r4,q4⟩=>?_
 refine jN (hp pins s4 σ H4 x3 x4 old v _ I4 r3 r4 q4) fun new s5 ⟨x5,H5,I5,r5,q5⟩=>?_
 exact jN (hs pins s5 σ H5 x1 x2 x5 ov iv new _ I5 r1 r2 r5 q5) fun _ s6 ⟨H6,I6,q6⟩=>⟨σ,H6,I6,q6⟩
def GD (f:Int→Int→Int):nM:=fun x y H Q=>∃i j,x=.int i∧y=.int j∧Q (.int (f i j)) H
theorem E2:wP X .Add (GD fun i j=>i+j):=by
 intro pins s σ H x y v u Q I r1 r2 h;obtain ⟨i,j,e1,e2,q⟩:=h;subst e1;subst e2
 obtain ⟨t,rfl⟩:=r1;obtain ⟨t',rfl⟩:=r2;exact iadd_int ⟨.int _,H,I.tok _,⟨_,rfl⟩,q⟩
theorem UH:wP X .Sub (GD fun i j=>i - j):=by
 intro pins s σ H x y v u Q I r1 r2 h;obtain ⟨i,j,e1,e2,q⟩:=h;subst e1;subst e2
 obtain ⟨t,rfl⟩:=r1;obtain ⟨t',rfl⟩:=r2;exact isub_int ⟨.int _,H,I.tok _,⟨_,rfl⟩,q⟩
def TJ (c:TT) (tb:TS):TS:=fun D σ H=>∃W:Nat→St→Hp→Prop,(∃m,W m σ H)∧∀m σ H,W m σ H→
 c σ H fun b H1=>if b=true then ∃N:St→Hp→Prop,(∀σ' H',N σ' H'→∃m',m'<m∧W m' σ' H')∧tb {D with nx:=N,ct:=N,bk:=D.nx} σ H1 else D.nx σ H1
theorem sO {c:Expr} {body:List Stmt} {tc:TT} {tb:TS} (hp:PassesOwn (model X.prog X.w) X.A X.env X.xe) (hc:PT X c tc) (hb:PSs X body tb):PS X (.While c body [] pos) (TJ tc tb):=by
 intro pins s σ H D I h;obtain ⟨W,⟨m0,w0⟩,turn⟩:=h;refine wpAny_While (codeAny_whileLoop (fun n s'=>∃σ' H',Inv X pins σ' H' s'∧W n σ' H') ?_ m0 ⟨σ,H,I,w0⟩);rintro n s1 ⟨σ1,H1,I1,w1⟩;refine ft hp (jN (hc pins s1 σ1 H1 _ I1 (turn n σ1 H1 w1)) fun b s2 ⟨H2,I2,q2⟩=>?_);cases b with
 |true =>
  obtain ⟨N,hN,q2⟩:=q2;rw [if_pos rfl];refine ft hp (jN (hb pins s2 σ1 H2 _ I2 q2) fun f s3 q3=>?_);cases f with
  |next =>
   obtain ⟨σ3,H3,I3,n3⟩:=q3;obtain ⟨m',hm,w3⟩:=hN σ3 H3 n3;exact ⟨m',hm,σ3,H3,I3,w3⟩
  |cont =>
   obtain ⟨σ3,H3,I3,n3⟩:=q3;obtain ⟨m',hm,w3⟩:=hN σ3 H3 n3;exact ⟨m',hm,σ3,H3,I3,w3⟩
  |brk=>exact q3
  |ret v=>exact q3
 |false =>
  rw [if_neg aD];exact hV ⟨σ1,H2,I2,q2⟩
end
structure It where
 go:Nat→Hp→Prop
 yld:Nat→Hp→V→Hp→Prop
 stop:Nat→Hp→Prop
def JW (X:Cx) (pins:List (Addr×Obj)) (H:Hp) (b:Addr):Prop :=
 H b=none∧b≠X.env.locals∧b∉X.fs∧(b∈X.ex∨X.s₀.heap.objs.size≤b)∧(∀x c,X.env.cells.lookup x=some c→c≠b)∧∀p∈X.pn++pins,p.1≠b
theorem Inv.fpOk {pins:List (Addr×Obj)} {σ:St} {H H':Hp} {s:Shared} {b:Addr} (I:Inv X pins σ H s) (hb:s.heap.objs.size≤b) (hn:H' b=none):JW X pins H' b:=by
 refine ⟨hn,ec (ao I.lt hb),I.nofs hb,.inr (aG I.sz hb),fun x c e z=>?_,fun p hp z=>?_⟩
 ·obtain ⟨v,q⟩:=I.cell x c e;exact absurd (ao q.lt (by rw [z];exact hb)) (aV _)
 ·exact absurd (ao (au (I.pin p hp).1) (by rw [z];exact hb)) (aV _)
structure Turn (P:Program) (w:World) (K:PySem.W.Frag) (tg:Expr) (J:It) (fp:List Addr) (it:Addr) (tn:Nat→Heap→Prop):Prop where
 mem:it∈fp
 obj:∀i h,tn i h→∀b∈fp,∃o,h.get? b=some o∧∀v,o.data≠.cell v
 keep:∀i h h',tn i h→(∀b∈fp,∀o,h.get? b=some o→h'.get? b=some o)→tn i h'
 item:∀(X:Cx),X.prog=P→X.w=w→X.K=K→X.calm=true→∀(i:Nat) (pins:List (Addr×Obj)) (s:Shared) (σ:St) (H:Hp) (E:Value→Shared→Prop),Inv X pins σ H s→(∀b∈fp,JW X pins H b)→tn i s.heap→J.go i H→
  wpAny (model P w) X.A (pyNext (.ref it)) (fun r s1=>∃u,r=some u∧
   wpAny (model P w) X.A (letOwnedTupleGo tg (.ref it) u) (fun _ s2=>∃x H',Inv X pins σ H' s2∧RelV x u∧J.yld i H x H'∧tn (i+1) s2.heap∧∀b∈fp,H' b=none) E s1) E s
 done:∀(X:Cx),X.prog=P→X.w=w→X.K=K→X.calm=true→∀(i:Nat) (pins:List (Addr×Obj)) (s:Shared) (σ:St) (H:Hp) (E:Value→Shared→Prop),Inv X pins σ H s→(∀b∈fp,JW X pins H b)→tn i s.heap→J.stop i H→
  wpAny (model P w) X.A (pyNext (.ref it)) (fun r s1=>r=none∧Inv X pins σ H s1) E s
 self:∀(A:Around) (i:Nat) (s:Shared) (Q:Value→Shared→Prop) (E:Value→Shared→Prop),tn i s.heap→Q (.ref it) s→wpAny (model P w) A (pyIter (.ref it)) Q E s
abbrev TI:=St→Hp→(It→Hp→Prop)→Prop
def GG (X:Cx) (pins:List (Addr×Obj)) (σ:St) (tg:Expr) (R:It→Hp→Prop) (itv:Value) (s2:Shared):Prop :=
 ∃(it:Addr) (fp:List Addr) (tn:Nat→Heap→Prop) (J:It) (H':Hp),itv=.ref it∧Inv X pins σ H' s2∧Turn X.prog X.w X.K tg J fp it tn∧tn 0 s2.heap∧(∀b∈fp,JW X pins H' b)∧R J H'
def PI (X:Cx) (tg iter:Expr) (wi:TI):Prop :=
 ∀(pins:List (Addr×Obj)) (s:Shared) (σ:St) (H:Hp) (R:It→Hp→Prop),Inv X pins σ H s→wi σ H R→
  wpAny (model X.prog X.w) X.A (eval iter X.env) (fun v s1=>wpAny (model X.prog X.w) X.A (pyIter v) (GG X pins σ tg R) X.xe s1) X.xe s
variable {tg:Expr}
theorem uO {M:Model} {A:Around} {E:Value→Shared→Prop} {s:Shared} {it:Addr} {o:Obj} {n:String} {vs:Array Value} {Q:Unit→Shared→Prop} (ho:s.heap.get? it=some o) (hc:o.cls=.type n) (hd:o.data=.fields vs)
    (hn:["enumerate","zip","dict_itemiterator","dict_reverseitemiterator","odict_iterator","itertools.zip_longest","itertools.pairwise"].contains n=false) (hQ:Q () s):wpAny M A (letOwnedTupleGo tg (.ref it) u) Q E s:=by
  unfold letOwnedTupleGo;cases tg<;>first
    |exact am hQ
    | (cases u<;>first
        |exact am hQ
        | (refine ac (wpAny_load ho ?_)
           rw [hc,hd];show wpAny M A (if (["enumerate","zip","dict_itemiterator","dict_reverseitemiterator","odict_iterator","itertools.zip_longest","itertools.pairwise"].contains n&&vs[0]? == some (rawInt _))=true then _ else _) Q E s;rw [if_neg (by intro h;rw [hn,Bool.false_and] at h;cases h)];exact am hQ))
def cT (K:PySem.W.Frag) (a:Addr):It :=
 ⟨fun i H=>∃xs x,SqL K H a xs∧xs[i]?=some x,fun i H x H'=>H'=H∧∀xs,SqL K H a xs→xs[i]?=some x,fun i H=>∃xs,SqL K H a xs∧xs.length≤i⟩
def gW (K:PySem.W.Frag) (a:Addr):It :=
 ⟨fun i H=>∃xs x,SqT K H a xs∧xs[i]?=some x,fun i H x H'=>H'=H∧∀xs,SqT K H a xs→xs[i]?=some x,fun i H=>∃xs,SqT K H a xs∧xs.length≤i⟩
def bF (lo:Int) (n:Nat):It:=⟨fun i _=>i<n,fun i H x H'=>H'=H∧x=.int (lo+i),fun i _=>n≤i⟩
variable {P:Program} {w:World} {K:PySem.W.Frag}
theorem OG (a it:Addr):Turn P w K tg (cT K a) [it] it (fun i h=>h.IsListIter it a i) where
 mem:=by simp
 obj:=fun i h st b hb=>by
  have e:b=it:=by simpa using hb
  subst e;obtain ⟨o,e,c,d⟩:=st;exact ⟨o,e,fun v z=>by rw [d] at z;cases z⟩
 keep:=fun i h h' st k=>st.at fun o e=>k it (by simp) o e
 item:=by
  intro X hP hw hK hc i pins s σ H E I hf st hg;subst hP hw hK;obtain ⟨xs,x,hq,hx⟩:=hg;obtain ⟨its,rv,p,hz⟩:=I.list hq;obtain ⟨u,hu,ru⟩:=rv.get hx;obtain ⟨f0,f1,f2,f3,f4,f5⟩:=hf it (by simp);refine wpAny_pyNext_list_item st p.isList (x:=u) (by simpa using hu) fun h' st' sb=>?_
  have I1:Inv X pins σ H {s with heap:=h'}:=I.turned (t':=s.toks) (fun b o hb e=>(sb.2 b hb).trans e) f0 f1 f3 f4 f5;obtain ⟨o,e,c,d⟩:=id st';exact ⟨u,rfl,uO (s:={s with heap:=h'}) e c d (by decide) ⟨x,H,I1,ru,⟨rfl,fun ys hy=>by rw [I.list_inj hy hq];exact hx⟩,st',fun b hb=>(hf b hb).1⟩⟩
 done:=by
  intro X hP hw hK hc i pins s σ H E I hf st hg;subst hP hw hK;obtain ⟨xs,hq,hx⟩:=hg;obtain ⟨its,rv,p,hz⟩:=I.list hq;obtain ⟨f0,f1,f2,f3,f4,f5⟩:=hf it (by simp);have hl:=rv.length;exact wpAny_pyNext_list_end (I.ok.hd hc) st p.isList (by simp;omega) fun h' eb=>⟨rfl,I.turned (t':=s.toks) (fun b o hb e=>eb b o hb e) f0 f1 f3 f4 f5⟩
 self:=fun _ _ _ _ _ st h=>wpAny_pyIter_listiter st h
theorem NF (a it:Addr):Turn P w K tg (gW K a) [it] it (fun i h=>h.IsTupleIter it a i) where
 mem:=by simp
 obj:=fun i h st b hb=>by
  have e:b=it:=by simpa using hb
  subst e;obtain ⟨o,e,c,d⟩:=st;exact ⟨o,e,fun v z=>by rw [d] at z;cases z⟩
 keep:=fun i h h' st k=>st.at fun o e=>k it (by simp) o e
 item:=by
  intro X hP hw hK hc i pins s σ H E I hf st hg;subst hP hw hK;obtain ⟨xs,x,hq,hx⟩:=hg;obtain ⟨its,rv,p,hz⟩:=I.tuple hq;obtain ⟨u,hu,ru⟩:=rv.get hx;obtain ⟨f0,f1,f2,f3,f4,f5⟩:=hf it (by simp);refine wpAny_pyNext_tuple_item st (show s.heap.IsTuple a its.toArray from p) (x:=u) (by simpa using hu) fun h' st' sb=>?_
  have I1:Inv X pins σ H {s with heap:=h'}:=I.turned (t':=s.toks) (fun b o hb e=>(sb.2 b hb).trans e) f0 f1 f3 f4 f5;obtain ⟨o,e,c,d⟩:=id st';exact ⟨u,rfl,uO (s:={s with heap:=h'}) e c d (by decide) ⟨x,H,I1,ru,⟨rfl,fun ys hy=>by rw [I.tuple_inj hy hq];exact hx⟩,st',fun b hb=>(hf b hb).1⟩⟩
 done:=by
  intro X hP hw hK hc i pins s σ H E I hf st hg;subst hP hw hK;obtain ⟨xs,hq,hx⟩:=hg;obtain ⟨its,rv,p,hz⟩:=I.tuple hq;obtain ⟨f0,f1,f2,f3,f4,f5⟩:=hf it (by simp);have hl:=rv.length;exact wpAny_pyNext_tuple_end (I.ok.hd hc) st (show s.heap.IsTuple a its.toArray from p) (by simp;omega) fun h' eb=>⟨rfl,I.turned (t':=s.toks) (fun b o hb e=>eb b o hb e) f0 f1 f3 f4 f5⟩
 self:=fun _ _ _ _ _ st h=>wpAny_pyIter_tupleiter st h
theorem NG (it:Addr) (lo:Int) (n:Nat):Turn P w K tg (bF lo n) [it] it (fun i h=>IsRangeIter h it (lo+(i:Nat)*1) ((n:Int) - (i:Nat)) 1) where
 mem:=by simp
 obj:=fun i h st b hb=>by
  have e:b=it:=by simpa using hb
  subst e;exact ⟨_,st,fun v z=>by
   have z':Data.fields _=Data.cell v:=z;cases z'⟩
 keep:=fun i h h' st k=>k it (by simp) _ st
 item:=by
  intro X hP hw hK hc i pins s σ H E I hf st hg;subst hP hw hK;obtain ⟨f0,f1,f2,f3,f4,f5⟩:=hf it (by simp);have W:=Walks.range (prog:=X.prog) (w:=X.w) (I.ok.hd hc) it lo 1 n;refine W.item i s _ _ hg st fun v h' tk hv st' kk=>?_
  obtain ⟨t,rfl⟩:=hv;have I1:Inv X pins σ H {s with heap:=h',toks:=tk}:=I.turned (fun b o hb e=>kk b o (by simpa using hb) e) f0 f1 f3 f4 f5;refine ⟨_,rfl,uO (s:={s with heap:=h',toks:=tk}) (n:="range_iterator") st' rfl rfl (by decide) ⟨.int (lo+i),H,I1,⟨t,?_⟩,⟨rfl,rfl⟩,st',fun b hb=>(hf b hb).1⟩⟩;rw [Int.mul_one]
 done:=by
  intro X hP hw hK hc i pins s σ H E I hf st hg;subst hP hw hK;obtain ⟨f0,f1,f2,f3,f4,f5⟩:=hf it (by simp);exact wpAny_pyNext_range_end (I.ok.hd hc) st (by have:n≤i:=hg;omega) fun h' eb=>⟨rfl,I.turned (t':=s.toks) (fun b o hb e=>eb b o hb e) f0 f1 f3 f4 f5⟩
 self:=fun _ _ _ _ _ st h=>wpAny_pyIter_rangeiter st h
end L2
namespace L2
open PySem PySem.Spec PyProof.Rows
section
variable {X:Cx} {tg:Expr}
def VF (K:PySem.W.Frag) (tl:TE):TI:=fun σ H R=>tl σ H fun x H1=>∃a,x=.ref a∧(∃xs,SqL K H1 a xs)∧R (cT K a) H1
def WE (K:PySem.W.Frag) (tl:TE):TI:=fun σ H R=>tl σ H fun x H1=>∃a,x=.ref a∧(∃xs,SqT K H1 a xs)∧R (gW K a) H1
theorem qV {l:Expr} {tl:TE} (hl:PE X l tl):PI X tg l (VF X.K tl):=by
 intro pins s σ H R I h;refine jN (hl pins s σ H _ I h) fun v s1 ⟨x,H1,I1,r1,q1⟩=>?_
 obtain ⟨a,e,⟨xs,hq⟩,q⟩:=q1;subst e;cases r1;obtain ⟨its,rv,p,hz⟩:=I1.list hq;refine wpAny_pyIter_list p.isList ?_;refine ⟨s1.heap.objs.size,[s1.heap.objs.size],_,_,H1,rfl,I1.kept (t':=s1.toks) fun b o e=>aj _ e,OG a _,⟨_,az _ rfl,rfl,rfl⟩,fun b hb=>?_,q⟩;have e:b=s1.heap.objs.size:=by simpa using hb
 subst e;exact I1.fpOk (ar _) (I1.hok.fresh (ar _))
theorem TY {l:Expr} {tl:TE} (hl:PE X l tl):PI X tg l (WE X.K tl):=by
 intro pins s σ H R I h;refine jN (hl pins s σ H _ I h) fun v s1 ⟨x,H1,I1,r1,q1⟩=>?_
 obtain ⟨a,e,⟨xs,hq⟩,q⟩:=q1;subst e;cases r1;obtain ⟨its,rv,p,hz⟩:=I1.tuple hq;refine hX (show s1.heap.IsTuple a its.toArray from p) ?_;refine ⟨s1.heap.objs.size,[s1.heap.objs.size],_,_,H1,rfl,I1.kept (t':=s1.toks) fun b o e=>aj _ e,NF a _,⟨_,az _ rfl,rfl,rfl⟩,fun b hb=>?_,q⟩;have e:b=s1.heap.objs.size:=by simpa using hb
 subst e;exact I1.fpOk (ar _) (I1.hok.fresh (ar _))
theorem PV {pins:List (Addr×Obj)} {σ:St} {H:Hp} {s:Shared} {R:It→Hp→Prop} {E:Value→Shared→Prop} {lo hi:Int} {t u v:Tok} {tk:Nat} (I:Inv X pins σ H s) (h1 : -(2 ^ 62)≤lo) (h2:lo<2 ^ 62) (h3 : -(2 ^ 62)≤hi) (h4:hi<2 ^ 62)
    (q:R (bF lo (hi - lo).toNat) H):wpAny (model X.prog X.w) X.A (pyIter (.ref s.heap.objs.size)) (GG X pins σ tg R) E {s with heap:=s.heap.push {cls:=.type "range",data:=.fields #[.int lo t,.int hi u,.int 1 v]},toks:=tk}:=by
  refine wpAny_pyIter_range (IsRange.new ..) (small_one h1 h2 h3 h4) ?_;have I1:Inv X pins σ H {s with heap:=s.heap.push {cls:=.type "range",data:=.fields #[.int lo t,.int hi u,.int 1 v]},toks:=tk}:=I.kept fun b o e=>aj _ e
  refine ⟨(s.heap.push {cls:=.type "range",data:=.fields #[.int lo t,.int hi u,.int 1 v]}).objs.size,[(s.heap.push {cls:=.type "range",data:=.fields #[.int lo t,.int hi u,.int 1 v]}).objs.size],_,_,H,rfl,
    I1.kept (t':=tk) fun b o e=>aj _ e,NG _ lo (hi - lo).toNat,?_,fun b hb=>?_,q⟩
  · have e1:lo+((0:Nat):Int)*1=lo:=by simp
    have e2:(((hi - lo).toNat:Nat):Int) - ((0:Nat):Int)=Builtin.Range.rangeSize lo hi 1:=by rw [rangeSize_one];split<;>omega
    show IsRangeIter _ _ (lo+((0:Nat):Int)*1) ((((hi - lo).toNat:Nat):Int) - ((0:Nat):Int)) 1;rw [e1,e2];exact az _ rfl
  · have e:b=(s.heap.push {cls:=.type "range",data:=.fields #[.int lo t,.int hi u,.int 1 v]}).objs.size:=by simpa using hb
    subst e;exact I1.fpOk (ar _) (I1.hok.fresh (ar _))
def VE (ta:TA):TI:=fun σ H R=>ta σ H fun vs H1=>∃j:Int,vs=[.int j]∧-(2 ^ 62)≤j∧j<2 ^ 62∧R (bF 0 j.toNat) H1
theorem JB {a:Expr} {ta:TA} {p pos:Pos} (hg:Gl X "range") (hm:X.mg "range"=none) (ha:PA X [a] ta) (hs:starEach [a] X.env=[(false,eval a X.env)]:=by rfl):PI X tg (.Call (.Name "range" p) [a] [] pos) (VE ta):=by
 intro pins s σ H R I h;refine Call_ (ZF I hg hm boot_range (bq (jN (ha pos pins s σ H _ I h) fun us s1 ⟨vs,H1,I1,r1,q1⟩=>?_) hs rfl));obtain ⟨j,e,q1,q2,q⟩:=q1;subst e;cases r1 with
 |cons r rr =>
  cases rr;obtain ⟨t,rfl⟩:=r;exact call_range_1 (PV I1 (by omega) (by omega) q1 q2 (by simpa using q))
def VZ (wi:TI) (g:TG) (tb:TS):TS:=fun D σ H=>wi σ H fun J H1=>∃W:Nat→Nat→St→Hp→Prop,(∃m,W 0 m σ H1)∧∀i m σ H,W i m σ H→
 (J.stop i H∧D.nx σ H)∨(J.go i H∧∃N:St→Hp→Prop,(∀σ' H',N σ' H'→∃m',m'<m∧W (i+1) m' σ' H')∧∀x H',J.yld i H x H'→g x σ H' fun σ2 H2=>tb {D with nx:=N,ct:=N,bk:=D.nx} σ2 H2)
def fX (fp:List Addr) (h:Heap):List (Addr×Obj):=fp.filterMap fun b=>(h.get? b).map fun o=>(b,o)
theorem i3 {fp:List Addr} {h:Heap} {b:Addr} {o:Obj} (hb:b∈fp) (e:h.get? b=some o):(b,o)∈fX fp h:=ia.mpr ⟨b,hb,by rw [e];rfl⟩
theorem OU {fp:List Addr} {h:Heap} {p:Addr×Obj} (hp:p∈fX fp h):p.1∈fp∧h.get? p.1=some p.2:=by
 obtain ⟨b,hb,e⟩:=ia.mp hp;cases q:h.get? b with
 |none=>rw [q] at e;cases e
 |some o =>
  rw [q] at e;have e':(b,o)=p:=aE e;subst e';exact ⟨hb,q⟩
theorem Inv.pinned {pins:List (Addr×Obj)} {σ:St} {H:Hp} {s:Shared} {fp:List Addr} (I:Inv X pins σ H s) (hf:∀b∈fp,JW X pins H b) (ho:∀b∈fp,∃o,s.heap.get? b=some o∧∀v,o.data≠.cell v):Inv X (pins++fX fp s.heap) σ H s :=
 I.pins_of fun p hp=>(aR.mp hp).elim (fun z=>I.pin p (aU _ z)) fun z=>by
  obtain ⟨hb,e⟩:=OU z;obtain ⟨f0,f1,f2,_⟩:=hf p.1 hb;obtain ⟨o,e',d⟩:=ho p.1 hb;rw [e] at e';cases e'
  exact ⟨e,f0,f1,f2,d⟩
theorem Inv.unpinned {pins pl:List (Addr×Obj)} {σ:St} {H:Hp} {s:Shared} (I:Inv X (pins++pl) σ H s):Inv X pins σ H s:=I.pins_of fun p hp=>I.pin p (aU _ (bz _ hp))
theorem yK {iter:Expr} {body:List Stmt} {wi:TI} {g:TG} {tb:TS} {pos:Pos} (hp:PassesOwn (model X.prog X.w) X.A X.env X.xe) (hc:X.calm=true) (hi:PI X tg iter wi) (hg:PG X tg g) (hb:PSs X body tb)
  (hs:∀x,foldedSetIterable iter X.env x=pure x:=by intro _;rfl):PS X (.For tg iter body [] pos) (VZ wi g tb):=by
 intro pins s σ H D I h;refine wpAny_For (jN (hi pins s σ H _ I h) fun v s1 h1=>jN h1 fun itv s2 h2=>?_) hs;obtain ⟨it,fp,tn,J,H2,e,I2,T,st2,f2,W,⟨m0,w0⟩,turn⟩:=h2;subst e;have stat:∀{H':Hp},(∀b∈fp,H' b=none)→∀b∈fp,JW X pins H' b:=fun hn b hb=>⟨hn b hb,(f2 b hb).2⟩
 refine codeAny_forLoop_any (fun n s'=>∃i σ' H',Inv X pins σ' H' s'∧tn i s'.heap∧(∀b∈fp,H' b=none)∧W i n σ' H') ?_ m0 ⟨0,σ,H2,I2,st2,fun b hb=>(f2 b hb).1,w0⟩;rintro n s3 ⟨i,σ3,H3,I3,st3,fr3,w3⟩
 rcases turn i n σ3 H3 w3 with ⟨stop,qn⟩|⟨go,N,hN,step⟩
 ·refine ft hp (jN (T.done X rfl rfl rfl hc i pins s3 σ3 H3 X.xe I3 (stat fr3) st3 stop) fun r s4 ⟨hr,I4⟩=>?_);subst hr;exact hV ⟨σ3,H3,I4,qn⟩
 ·refine ft hp (jN (T.item X rfl rfl rfl hc i pins s3 σ3 H3 X.xe I3 (stat fr3) st3 go) fun r s4 ⟨u,hr,h4⟩=>?_);subst hr;refine ft hp (jN h4 fun _ s5 ⟨x,H5,I5,r5,y5,st5,fr5⟩=>?_);have I5':=I5.pinned (stat fr5) (T.obj _ _ st5);refine ft hp (jN (hg _ s5 σ3 H5 x u _ I5' r5 (step x H5 y5)) fun _ s6 ⟨σ6,H6,I6,q6⟩=>?_);refine ft hp (jN (hb _ s6 σ6 H6 _ I6 q6) fun f s7 q7=>?_);have again:∀{σ7:St} {H7:Hp},Inv X (pins++fX fp s5.heap) σ7 H7 s7→N σ7 H7→∃m,m<n∧∃i σ' H',Inv X pins σ' H' s7∧tn i s7.heap∧(∀b∈fp,H' b=none)∧W i m σ' H':=fun {σ7 H7} I7 n7=>by
   obtain ⟨m',hm,w7⟩:=hN σ7 H7 n7;refine ⟨m',hm,i+1,σ7,H7,I7.unpinned,T.keep _ _ _ st5 fun b hb o e=>(I7.pin (b,o) (aU _ (aU _ (i3 hb e)))).1,fun b hb=>?_,w7⟩;obtain ⟨o,e,d⟩:=T.obj _ _ st5 b hb;exact (I7.pin (b,o) (aU _ (aU _ (i3 hb e)))).2.1
  cases f with
  |next=>obtain ⟨σ7,H7,I7,n7⟩:=q7;exact again I7 n7
  |cont=>obtain ⟨σ7,H7,I7,n7⟩:=q7;exact again I7 n7
  |brk=>obtain ⟨σ7,H7,I7,q7⟩:=q7;exact ⟨σ7,H7,I7.unpinned,q7⟩
  |ret v=>obtain ⟨x7,σ7,H7,I7,r7,q7⟩:=q7;exact ⟨x7,σ7,H7,I7.unpinned,r7,q7⟩
end
variable {g:TG} {tb:TS} {D:Ends} {σ:St} {H:Hp}
theorem JM {K:PySem.W.Frag} {a:Addr} {xs:List V} (Pv:Nat→St→Hp→Prop) (h0:Pv 0 σ H) (hl:∀i σ H,i≤xs.length→Pv i σ H→SqL K H a xs)
    (hs:∀i x σ H,xs[i]?=some x→Pv i σ H→g x σ H fun σ2 H2=>tb {D with nx:=Pv (i+1),ct:=Pv (i+1),bk:=D.nx} σ2 H2) (hd:∀σ H,Pv xs.length σ H→D.nx σ H) :
    ∃W:Nat→Nat→St→Hp→Prop,(∃m,W 0 m σ H)∧∀i m σ H,W i m σ H→
      ((cT K a).stop i H∧D.nx σ H)∨((cT K a).go i H∧∃N:St→Hp→Prop,(∀σ' H',N σ' H'→∃m',m'<m∧W (i+1) m' σ' H')∧∀x H',(cT K a).yld i H x H'→g x σ H' fun σ2 H2=>tb {D with nx:=N,ct:=N,bk:=D.nx} σ2 H2):=by
  refine ⟨fun i m σ H=>m=xs.length - i∧i≤xs.length∧Pv i σ H,⟨xs.length,by simp,aY _,h0⟩,?_⟩;rintro i m σ H ⟨rfl,hi,p⟩;have q:=hl i σ H hi p
  by_cases hlt:i<xs.length
  · refine .inr ⟨⟨xs,xs[i],q,by simp [hlt]⟩,Pv (i+1),fun σ' H' p'=>⟨xs.length - (i+1),by omega,rfl,hlt,p'⟩,fun x H' y=>?_⟩
    obtain ⟨e,y⟩:=y;subst e;exact hs i x σ _ (y xs q) p
  · have e:i=xs.length:=by omega
    subst e;exact .inl ⟨⟨xs,q,ar _⟩,hd σ H p⟩
theorem S5 {K:PySem.W.Frag} {a:Addr} {xs:List V} (Pv:Nat→St→Hp→Prop) (h0:Pv 0 σ H) (hl:∀i σ H,i≤xs.length→Pv i σ H→SqT K H a xs)
    (hs:∀i x σ H,xs[i]?=some x→Pv i σ H→g x σ H fun σ2 H2=>tb {D with nx:=Pv (i+1),ct:=Pv (i+1),bk:=D.nx} σ2 H2) (hd:∀σ H,Pv xs.length σ H→D.nx σ H) :
    ∃W:Nat→Nat→St→Hp→Prop,(∃m,W 0 m σ H)∧∀i m σ H,W i m σ H→
      ((gW K a).stop i H∧D.nx σ H)∨((gW K a).go i H∧∃N:St→Hp→Prop,(∀σ' H',N σ' H'→∃m',m'<m∧W (i+1) m' σ' H')∧∀x H',(gW K a).yld i H x H'→g x σ H' fun σ2 H2=>tb {D with nx:=N,ct:=N,bk:=D.nx} σ2 H2):=by
  refine ⟨fun i m σ H=>m=xs.length - i∧i≤xs.length∧Pv i σ H,⟨xs.length,by simp,aY _,h0⟩,?_⟩;rintro i m σ H ⟨rfl,hi,p⟩;have q:=hl i σ H hi p
  by_cases hlt:i<xs.length
  · refine .inr ⟨⟨xs,xs[i],q,by simp [hlt]⟩,Pv (i+1),fun σ' H' p'=>⟨xs.length - (i+1),by omega,rfl,hlt,p'⟩,fun x H' y=>?_⟩
    obtain ⟨e,y⟩:=y;subst e;exact hs i x σ _ (y xs q) p
  · have e:i=xs.length:=by omega
    subst e;exact .inl ⟨⟨xs,q,ar _⟩,hd σ H p⟩
theorem fI {lo:Int} {n:Nat} (Pv:Nat→St→Hp→Prop) (h0:Pv 0 σ H)
  (hs:∀i σ H,i<n→Pv i σ H→g (.int (lo+i)) σ H fun σ2 H2=>tb {D with nx:=Pv (i+1),ct:=Pv (i+1),bk:=D.nx} σ2 H2) (hd:∀σ H,Pv n σ H→D.nx σ H) :
  ∃W:Nat→Nat→St→Hp→Prop,(∃m,W 0 m σ H)∧∀i m σ H,W i m σ H→
   ((bF lo n).stop i H∧D.nx σ H)∨((bF lo n).go i H∧∃N:St→Hp→Prop,(∀σ' H',N σ' H'→∃m',m'<m∧W (i+1) m' σ' H')∧∀x H',(bF lo n).yld i H x H'→g x σ H' fun σ2 H2=>tb {D with nx:=N,ct:=N,bk:=D.nx} σ2 H2):=by
 refine ⟨fun i m σ H=>m=n - i∧i≤n∧Pv i σ H,⟨n,by simp,aY _,h0⟩,?_⟩;rintro i m σ H ⟨rfl,hi,p⟩
 by_cases hlt:i<n
 ·refine .inr ⟨hlt,Pv (i+1),fun σ' H' p'=>⟨n - (i+1),by omega,rfl,hlt,p'⟩,fun x H' y=>?_⟩;obtain ⟨e,y⟩:=y;subst e y;exact hs i σ _ hlt p
 ·have e:i=n:=by omega
  subst e;exact .inl ⟨ar _,hd σ H p⟩
end L2
namespace L2
open PySem PySem.Spec PyProof.Rows
abbrev R2:=V→V→Hp→VK→Prop
def qT (X:Cx) (f:Value→Value→Sem Value) (r:R2):Prop :=
 ∀(pins:List (Addr×Obj)) (s:Shared) (σ:St) (H:Hp) (x y:V) (v u:Value) (Q:VK),Inv X pins σ H s→RelV x v→RelV y u→r x y H Q→
  wpAny (model X.prog X.w) X.A (f v u) (EP X pins σ Q) X.xe s
def wO (X:Cx) (f:Value→Sem Value) (r:V→Hp→VK→Prop):Prop :=
 ∀(pins:List (Addr×Obj)) (s:Shared) (σ:St) (H:Hp) (x:V) (v:Value) (Q:VK),Inv X pins σ H s→RelV x v→r x H Q→
  wpAny (model X.prog X.w) X.A (f v) (EP X pins σ Q) X.xe s
def yV (X:Cx) (f:Value) (r:List V→Hp→VK→Prop):Prop :=
 ∀(pins:List (Addr×Obj)) (s:Shared) (σ:St) (H:Hp) (xs:List V) (us:List Value) (Q:VK),Inv X pins σ H s→Vals xs us→r xs H Q→
  wpAny (model X.prog X.w) X.A (call f us) (EP X pins σ Q) X.xe s
def WK (X:Cx) (r:V→Hp→(Bool→Hp→Prop)→Prop):Prop :=
 ∀(pins:List (Addr×Obj)) (s:Shared) (σ:St) (H:Hp) (x:V) (v:Value) (Q:Bool→Hp→Prop),Inv X pins σ H s→RelV x v→r x H Q→
  wpAny (model X.prog X.w) X.A (truthy v) (TP X pins σ Q) X.xe s
def cO (r:R2) (ta tb:TE):TE:=fun σ H Q=>ta σ H fun x H1=>tb σ H1 fun y H2=>r x y H2 Q
def WR (r:V→Hp→VK→Prop) (ta:TE):TE:=fun σ H Q=>ta σ H fun x H1=>r x H1 Q
def rI (C:Int→Int→Prop) (g:Int→Int→V):R2:=fun x y H Q=>∃i j,x=.int i∧y=.int j∧C i j∧Q (g i j) H
def bA (g:Int→Int→V):R2:=fun x y H Q=>∃i j,x=.int i∧y=.int j∧Q (g i j) H
def rU (g:Int→V):V→Hp→VK→Prop:=fun x H Q=>∃i,x=.int i∧Q (g i) H
section
variable {X:Cx} {a b c:Expr} {ta tb tc:TE} {pos:Pos}
theorem u7 (ha:PE X a ta) (hb:PE X b tb) {pins:List (Addr×Obj)} {s:Shared} {σ:St} {H:Hp} {R:V→V→Hp→Prop} (I:Inv X pins σ H s)
  (h:ta σ H fun x H1=>tb σ H1 fun y H2=>R x y H2) {Q:Value→Shared→Prop} {f:Value→Value→Sem Value}
  (hf:∀v u s2 x y H2,Inv X pins σ H2 s2→RelV x v→RelV y u→R x y H2→wpAny (model X.prog X.w) X.A (f v u) Q X.xe s2) :
  wpAny (model X.prog X.w) X.A (eval a X.env) (fun v s₁=>wpAny (model X.prog X.w) X.A (eval b X.env) (fun u s₂=>wpAny (model X.prog X.w) X.A (f v u) Q X.xe s₂) X.xe s₁) X.xe s:=by
 refine jN (ha pins s σ H _ I h) fun v s1 ⟨x,H1,I1,r1,q1⟩=>?_
 refine jN (hb pins s1 σ H1 _ I1 q1) fun u s2 ⟨y,H2,I2,r2,q2⟩=>?_
 exact hf v u s2 x y H2 I2 r1 r2 q2
theorem jL {op:Operator} {r:R2} (ho:qT X (binaryOp op) r) (ha:PE X a ta) (hb:PE X b tb):PE X (.BinOp a op b pos) (cO r ta tb):=by
 intro pins s σ H Q I h;exact wpAny_BinOp (u7 ha hb I h fun v u s2 x y H2 I2 rx ry q=>ho pins s2 σ H2 x y v u Q I2 rx ry q)
theorem QW {op:UnaryOp} {r:V→Hp→VK→Prop} (ho:wO X (unaryOp op) r) (ha:PE X a ta):PE X (.UnaryOp op a pos) (WR r ta):=by
 intro pins s σ H Q I h;exact UnaryOp_ (jN (ha pins s σ H _ I h) fun v s1 ⟨x,H1,I1,r1,q1⟩=>ho pins s1 σ H1 x v Q I1 r1 q1)
theorem nG {f:Value→Value→Sem Value} {C:Int→Int→Prop} {g:Int→Int→Int}
  (rule:∀(i j:Int) (t u:Tok) (s:Shared) (Q:Value→Shared→Prop) (E:Value→Shared→Prop),C i j→Q (.int (g i j) s.toks) {s with toks:=s.toks+1}→wpAny (model X.prog X.w) X.A (f (.int i t) (.int j u)) Q E s) :
  qT X f (rI C fun i j=>.int (g i j)):=by
 intro pins s σ H x y v u Q I rx ry h;obtain ⟨i,j,rfl,rfl,hc,q⟩:=h;obtain ⟨t,rfl⟩:=rx;obtain ⟨t',rfl⟩:=ry;exact rule i j t t' s _ _ hc ⟨.int (g i j),H,I.tok _,⟨_,rfl⟩,q⟩
theorem FT {f:Value→Value→Sem Value} {g:Int→Int→Int}
  (rule:∀(i j:Int) (t u:Tok) (s:Shared) (Q:Value→Shared→Prop) (E:Value→Shared→Prop),Q (.int (g i j) s.toks) {s with toks:=s.toks+1}→wpAny (model X.prog X.w) X.A (f (.int i t) (.int j u)) Q E s) :
  qT X f (bA fun i j=>.int (g i j)):=by
 intro pins s σ H x y v u Q I rx ry h;obtain ⟨i,j,rfl,rfl,q⟩:=h;obtain ⟨t,rfl⟩:=rx;obtain ⟨t',rfl⟩:=ry;exact rule i j t t' s _ _ ⟨.int (g i j),H,I.tok _,⟨_,rfl⟩,q⟩
theorem mW {f:Value→Value→Sem Value} {g:Int→Int→Bool}
  (rule:∀(i j:Int) (t u:Tok) (s:Shared) (Q:Value→Shared→Prop) (E:Value→Shared→Prop),Q (.bool (g i j)) s→wpAny (model X.prog X.w) X.A (f (.int i t) (.int j u)) Q E s) :
  qT X f (bA fun i j=>.bl (g i j)):=by
 intro pins s σ H x y v u Q I rx ry h;obtain ⟨i,j,rfl,rfl,q⟩:=h;obtain ⟨t,rfl⟩:=rx;obtain ⟨t',rfl⟩:=ry;exact rule i j t t' s _ _ ⟨.bl (g i j),H,I,rfl,q⟩
def WN (i j:Int):Prop:=0<j∧j<1073741824
def WM (i j:Int):Prop:=0≤j∧j≤1000000∧i.natAbs<2 ^ 64
def CMul (i j:Int):Prop:=(-(2 ^ 64)<i∧i<2 ^ 64)∨(-(2 ^ 64)<j∧j<2 ^ 64)
theorem CMul.ok {i j:Int} (h:CMul i j):IntMulOk i j:=by
 rcases h with ⟨h1,h2⟩|⟨h1,h2⟩
 ·exact .of_left (intBits_le_64 h1 h2)
 ·exact .of_right (intBits_le_64 h1 h2)
theorem kL:qT X (binaryOp .Add) (bA fun i j=>.int (i+j)):=FT fun _ _ _ _ _ _ _ q=>add_int q
theorem JE:qT X (binaryOp .Sub) (bA fun i j=>.int (i - j)):=FT fun _ _ _ _ _ _ _ q=>sub_int q
theorem vC:qT X (binaryOp .Mult) (rI CMul fun i j=>.int (i*j)):=nG fun _ _ _ _ _ _ _ hc q=>mul_int q hc.ok
theorem SN:qT X (binaryOp .FloorDiv) (rI WN fun i j=>.int (i / j)):=nG fun i j _ _ _ _ _ hc q=>by
 have h1:(0:Int)<j:=hc.1;have h2:j<1073741824:=hc.2;exact floordiv_int (by omega) (by rw [Int.fdiv_eq_ediv_of_nonneg i (by omega)];exact q) (.inl (PyProof.noPylong_small (by omega)))
theorem dQ:qT X (binaryOp .Mod) (rI (fun _ j=>0<j) fun i j=>.int (i%j)):=nG fun i j _ _ _ _ _ hc q=>by
 have h1:(0:Int)<j:=hc;exact mod_int' (by omega) (by rw [Int.fmod_eq_emod_of_nonneg i (by omega)];exact q)
theorem T2:qT X (binaryOp .Pow) (rI WM fun i j=>.int (i ^ j.toNat)):=nG fun _ _ _ _ _ _ _ hc q=>pow_int_small hc.1 hc.2.1 hc.2.2 q
theorem WQ {f:Value→Sem Value} {g:Int→Int}
  (rule:∀(i:Int) (t:Tok) (s:Shared) (Q:Value→Shared→Prop) (E:Value→Shared→Prop),Q (.int (g i) s.toks) {s with toks:=s.toks+1}→wpAny (model X.prog X.w) X.A (f (.int i t)) Q E s) :
  wO X f (rU fun i=>.int (g i)):=by
 intro pins s σ H x v Q I rx h;obtain ⟨i,rfl,q⟩:=h;obtain ⟨t,rfl⟩:=rx;exact rule i t s _ _ ⟨.int (g i),H,I.tok _,⟨_,rfl⟩,q⟩
theorem QQ:wO X (unaryOp .USub) (rU fun i=>.int (-i)):=WQ fun _ _ _ _ _ q=>neg_int q
end
def FQ:V→V→Bool
 |.non,.non=>true|.non,.int _=>true|.int _,.non=>true|.non,.bl _=>true|.bl _,.non=>true|.non,.str _=>true|.str _,.non=>true
 |.int _,.int _=>true|.bl _,.bl _=>true|.str _,.str _=>true|.byt _,.byt _=>true
 |.int _,.str _=>true|.str _,.int _=>true|.bl _,.str _=>true|.str _,.bl _=>true
 |_,_=>false
def WX:R2:=fun x y H Q=>FQ x y=true∧Q (.bl (decide (x=y))) H
def WW:R2:=fun x y H Q=>FQ x y=true∧Q (.bl (!decide (x=y))) H
theorem D9 {i j:Int}:decide (V.int i=V.int j)=(i == j):=by
 rw [fu];simp
theorem E8 {i j:Bool}:decide (V.bl i=V.bl j)=(i == j):=by
 rw [fu];simp
theorem D8 {i j:Str}:decide (V.str i=V.str j)=(i == j):=by
 rw [fu];simp
theorem EA {i j:Array UInt8}:decide (V.byt i=V.byt j)=(i.toList == j.toList):=by
 rw [fu];cases i;cases j;simp
section
variable {X:Cx} {a b c:Expr} {ta tb tc:TE} {pos:Pos}
theorem qP {pins:List (Addr×Obj)} {σ:St} {H:Hp} {s:Shared} {Q:VK} {k k':Bool} (I:Inv X pins σ H s) (q:Q (.bl k) H) (e:k=k'):EP X pins σ Q (.bool k') s:=by
 subst e;exact ⟨.bl k,H,I,rfl,q⟩
theorem qQ:qT X (compareOp .Eq) WX:=by
 intro pins s σ H x y v u Q I rx ry h;obtain ⟨hs,q⟩:=h;cases x with
 |non =>
  cases rx;cases y with
  |non=>cases ry;exact PySem.EqNone.eq_none_none (qP I q (by simp))
  |bl j=>cases ry;exact PySem.EqNone.eq_none_bool (qP I q (by simp))
  |int j=>obtain ⟨t',rfl⟩:=ry;exact PySem.EqNone.eq_none_int (qP I q (by simp))
  |str j=>obtain ⟨t',rfl⟩:=ry;exact PySem.EqNone.eq_none_str (qP I q (by simp))
  |_=>exact absurd (show false=true from hs) aD
 |bl i =>
  cases rx;cases y with
  |non=>cases ry;exact PySem.EqNone.eq_bool_none (qP I q (by simp))
  |bl j=>cases ry;exact eq_bool (qP I q E8)
  |str j=>obtain ⟨t',rfl⟩:=ry;exact PySem.EqMixed.eq_bool_str (qP I q (by simp))
  |_=>exact absurd (show false=true from hs) aD
 |int i =>
  obtain ⟨t,rfl⟩:=rx;cases y with
  |non=>cases ry;exact PySem.EqNone.eq_int_none (qP I q (by simp))
  |int j=>obtain ⟨t',rfl⟩:=ry;exact eq_int (qP I q D9)
  |str j=>obtain ⟨t',rfl⟩:=ry;exact PySem.EqMixed.eq_int_str (qP I q (by simp))
  |_=>exact absurd (show false=true from hs) aD
 |str i =>
  obtain ⟨t,rfl⟩:=rx;cases y with
  |non=>cases ry;exact PySem.EqNone.eq_str_none (qP I q (by simp))
  |bl j=>cases ry;exact PySem.EqMixed.eq_str_bool (qP I q (by simp))
  |int j=>obtain ⟨t',rfl⟩:=ry;exact PySem.EqMixed.eq_str_int (qP I q (by simp))
  |str j=>obtain ⟨t',rfl⟩:=ry;exact eq_str (qP I q D8)
  |_=>exact absurd (show false=true from hs) aD
 |byt i =>
  obtain ⟨t,rfl⟩:=rx;cases y with
  |byt j=>obtain ⟨t',rfl⟩:=ry;exact PySem.W.eq_bytes (qP I q EA)
  |_=>exact absurd (show false=true from hs) aD
 |_=>cases y<;>exact absurd (show false=true from hs) aD
theorem zM:qT X (compareOp .NotEq) WW:=by
 intro pins s σ H x y v u Q I rx ry h;obtain ⟨hs,q⟩:=h;cases x with
 |non =>
  cases rx;cases y with
  |non=>cases ry;exact PySem.EqNone.ne_none_none (qP I q (by simp))
  |bl j=>cases ry;exact PySem.EqNone.ne_none_bool (qP I q (by simp))
  |int j=>obtain ⟨t',rfl⟩:=ry;exact PySem.EqNone.ne_none_int (qP I q (by simp))
  |str j=>obtain ⟨t',rfl⟩:=ry;exact PySem.EqNone.ne_none_str (qP I q (by simp))
  |_=>exact absurd (show false=true from hs) aD
 |bl i =>
  cases rx;cases y with
  |non=>cases ry;exact PySem.EqNone.ne_bool_none (qP I q (by simp))
  |bl j=>cases ry;exact ne_bool (qP I q (cp not E8))
  |str j=>obtain ⟨t',rfl⟩:=ry;exact PySem.EqMixed.ne_bool_str (qP I q (by simp))
  |_=>exact absurd (show false=true from hs) aD
 |int i =>
  obtain ⟨t,rfl⟩:=rx;cases y with
  |non=>cases ry;exact PySem.EqNone.ne_int_none (qP I q (by simp))
  |int j=>obtain ⟨t',rfl⟩:=ry;exact ne_int (qP I q (cp not D9))
  |str j=>obtain ⟨t',rfl⟩:=ry;exact PySem.EqMixed.ne_int_str (qP I q (by simp))
  |_=>exact absurd (show false=true from hs) aD
 |str i =>
  obtain ⟨t,rfl⟩:=rx;cases y with
  |non=>cases ry;exact PySem.EqNone.ne_str_none (qP I q (by simp))
  |bl j=>cases ry;exact PySem.EqMixed.ne_str_bool (qP I q (by simp))
  |int j=>obtain ⟨t',rfl⟩:=ry;exact PySem.EqMixed.ne_str_int (qP I q (by simp))
  |str j=>obtain ⟨t',rfl⟩:=ry;exact ne_str (qP I q (cp not D8))
  |_=>exact absurd (show false=true from hs) aD
 |byt i =>
  obtain ⟨t,rfl⟩:=rx;cases y with
  |byt j=>obtain ⟨t',rfl⟩:=ry;exact PySem.W.ne_bytes (qP I q (cp not EA))
  |_=>exact absurd (show false=true from hs) aD
 |_=>cases y<;>exact absurd (show false=true from hs) aD
theorem mM:qT X (compareOp .Lt) (bA fun i j=>.bl (decide (i<j))):=mW fun _ _ _ _ _ _ _ q=>lt_int q
theorem U3:qT X (compareOp .LtE) (bA fun i j=>.bl (decide (i≤j))):=mW fun _ _ _ _ _ _ _ q=>le_int q
theorem FF:qT X (compareOp .Gt) (bA fun i j=>.bl (decide (j<i))):=mW fun _ _ _ _ _ _ _ q=>gt_int q
theorem U4:qT X (compareOp .GtE) (bA fun i j=>.bl (decide (j≤i))):=mW fun _ _ _ _ _ _ _ q=>ge_int q
theorem uC:qT X (compareOp .Is) (fun x y H Q=>y=.non∧Q (.bl (decide (x=.non))) H):=by
 intro pins s σ H x y v u Q I rx ry h;obtain ⟨rfl,q⟩:=h;cases ry;refine is_none_gen (qP I q ?_);cases x<;>first
  | (cases rx;rfl)
  | (obtain ⟨t,rfl⟩:=rx;rfl)
theorem DP:qT X (compareOp .IsNot) (fun x y H Q=>y=.non∧Q (.bl (!decide (x=.non))) H):=by
 intro pins s σ H x y v u Q I rx ry h;obtain ⟨rfl,q⟩:=h;cases ry;refine isnot_none_gen (qP I q ?_);cases x<;>first
  | (cases rx;rfl)
  | (obtain ⟨t,rfl⟩:=rx;rfl)
theorem wU (b:Expr) {op:CmpOp} (h:op≠.In:=by decide) (h2:op≠.NotIn:=by decide):behindInMarks op b=false:=by
 have e1:(op == CmpOp.In)=false:=by cases op<;>first|rfl|exact absurd rfl h
 have e2:(op == CmpOp.NotIn)=false:=by cases op<;>first|rfl|exact absurd rfl h2
 cases b<;>simp [behindInMarks,e1,e2]
theorem SL {op:CmpOp} {r:R2} (ho:qT X (compareOp op) r) (ha:PE X a ta) (hb:PE X b tb) (hm:behindInMarks op b=false):PE X (.Compare a [op] [b] pos) (cO r ta tb):=by
 intro pins s σ H Q I h;exact wpAny_Compare1 (u7 ha hb I h fun v u s2 x y H2 I2 rx ry q=>ho pins s2 σ H2 x y v u Q I2 rx ry q) hm
def FA (t:TE):TT:=fun σ H Q=>t σ H fun x H'=>∃k,x=.bl k∧Q k H'
theorem GI {op:CmpOp} {r:R2} (ho:qT X (compareOp op) r) (ha:PE X a ta) (hb:PE X b tb) (hm:behindInMarks op b=false):PT X (.Compare a [op] [b] pos) (FA (cO r ta tb)):=by
 intro pins s σ H Q I h;refine wpAny_isTrue_Compare1 (jN (ha pins s σ H _ I h) fun v s1 ⟨x,H1,I1,r1,q1⟩=>jN (hb pins s1 σ H1 _ I1 q1) fun u s2 ⟨y,H2,I2,r2,q2⟩ =>
  jN (ho pins s2 σ H2 x y v u _ I2 r1 r2 q2) fun c s3 ⟨z,H3,I3,r3,k,e,q3⟩=>?_) hm
 subst e;cases r3;exact di ⟨H3,I3,q3⟩
def FY (K:PySem.W.Frag) (x:V) (H:Hp) (k:Bool):Prop :=
 match x with
 |.non=>k=false
 |.bl b=>k=b
 |.int i=>k=(i != 0)
 |.str y=>y.length≤sizeLine∧k=((y.length:Int) != 0)
 |.byt y=>y.size≤sizeLine∧k=((y.size:Int) != 0)
 |.ref p=>(∃xs,SqL K H p xs∧k = !xs.isEmpty)∨(∃xs,SqT K H p xs∧k = !xs.isEmpty)∨∃kvs,H p=some (.dK kvs)∧k = !kvs.isEmpty
 |_=>False
theorem N0 {κ:Type} {kvs:List (κ×V)} {vs:List (κ×Value)} (r:KV kvs vs):(!vs.isEmpty) = !kvs.isEmpty:=by
 cases r<;>rfl
theorem xY {xs:List V} {its:List Value} (r:Vals xs its):(!its.toArray.isEmpty) = !xs.isEmpty:=by
 cases r<;>simp
theorem ZV:(sizeLine:Nat)<2 ^ 63:=by rw [kr];decide
theorem TH:WK X (fun x H Q=>∃k,FY X.K x H k∧Q k H):=by
 intro pins s σ H x v Q I rx h;obtain ⟨k,e,q⟩:=h;have hl:=ZV;have hs:sizeLine=16777216:=kr;cases x with
 |non =>
  cases rx;have e':k=false:=e;subst e';exact truthy_none ⟨H,I,q⟩
 |bl b =>
  cases rx;have e':k=b:=e;subst e';exact di ⟨H,I,q⟩
 |int i =>
  obtain ⟨t,rfl⟩:=rx;have e':k=(i != 0):=e;subst e';exact PySem.P.truthy_int ⟨H,I,q⟩
 |str y =>
  obtain ⟨t,rfl⟩:=rx;obtain ⟨hy,e'⟩:y.length≤sizeLine∧k=((y.length:Int) != 0):=e;subst e';exact PySem.P.truthy_str (by omega) ⟨H,I.tok _,q⟩
 |byt y =>
  obtain ⟨t,rfl⟩:=rx;obtain ⟨hy,e'⟩:y.size≤sizeLine∧k=((y.size:Int) != 0):=e;subst e';exact PySem.W.truthy_bytes (by omega) ⟨H,I.tok _,q⟩
 |ref p =>
  cases rx;have e':(∃xs,SqL X.K H p xs∧k = !xs.isEmpty)∨(∃xs,SqT X.K H p xs∧k = !xs.isEmpty)∨∃kvs,H p=some (.dK kvs)∧k = !kvs.isEmpty:=e
  rcases e' with ⟨xs,hx,e'⟩|⟨xs,hx,e'⟩|⟨kvs,hx,e'⟩
  ·subst e';obtain ⟨its,r,pl,hz⟩:=I.list hx;have hlen:=r.length;exact wpAny_truthy_list pl.isList (by simp only [ak];omega) ⟨H,I.tok _,by rw [xY r];exact q⟩
  ·subst e';obtain ⟨its,r,pl,hz⟩:=I.tuple hx;have hlen:=r.length;exact truthy_tuple pl (by simp only [ak];omega) ⟨H,I.tok _,by rw [xY r];exact q⟩
  ·subst e';obtain ⟨hz,hS,vs,r,m⟩:kvs.length≤sizeLine∧(p == sysModules)=false∧∃vs,KV kvs vs∧s.heap.DictOf (zJ X.prog X.w) p vs:=I.hok p _ hx;have hlen:kvs.length=vs.length:=kn r;exact wpAny_truthy_dict hS m (by omega) ⟨H,I.tok _,by rw [N0 r];exact q⟩
 |_=>exact (show False from e).elim
theorem CC (ha:PE X a ta) (he:∀whole,isTrue a X.env whole=(do let v ← whole;standAt a.pos;holding [v] (truthy v))) :
  PT X a (fun σ H Q=>ta σ H fun x H'=>∃k,FY X.K x H' k∧Q k H'):=by
 intro pins s σ H Q I h;exact isTrue_plain (jN (ha pins s σ H _ I h) fun v s1 ⟨x,H1,I1,r1,q1⟩=>TH pins s1 σ H1 x v Q I1 r1 q1) (he _)
theorem rJ:qT X (binaryOp .Add) (fun x y H Q=>∃i j,x=.str i∧y=.str j∧i.length+j.length≤sizeLine∧Q (.str (i++j)) H):=by
 intro pins s σ H x y v u Q I rx ry h;obtain ⟨i,j,rfl,rfl,hz,q⟩:=h;obtain ⟨t,rfl⟩:=rx;obtain ⟨t',rfl⟩:=ry;exact add_str (fun t' tk=>⟨.str (i++j),H,I.tok _,⟨_,rfl⟩,q⟩) hz
theorem ZI {x:V} {us:List Value} (r:Vals [x] us):∃u,us=[u]∧RelV x u:=by
 cases r with
 |cons r1 r2=>cases r2;exact ⟨_,rfl,r1⟩
theorem uJ {x y:V} {us:List Value} (r:Vals [x,y] us):∃u w',us=[u,w']∧RelV x u∧RelV y w':=by
 cases r with
 |cons r1 r2 =>
  cases r2 with
  |cons r3 r4=>cases r4;exact ⟨_,_,rfl,r1,r3⟩
theorem BL (hc:X.calm=true):yV X (.builtin "max") (fun xs H Q=>∃i j,xs=[.int i,.int j]∧Q (.int (if j>i then j else i)) H):=by
 intro pins s σ H xs us Q I r h;obtain ⟨i,j,rfl,q⟩:=h;obtain ⟨u,w',rfl,⟨t,rfl⟩,⟨t',rfl⟩⟩:=uJ r;refine max_two_ints (I.ok.hd hc) fun h' tk k=>⟨_,H,I.kept k,?_,q⟩
 by_cases hj:j>i
 ·rw [if_pos hj,if_pos hj];exact ⟨_,rfl⟩
 ·rw [if_neg hj,if_neg hj];exact ⟨_,rfl⟩
theorem PJ (hc:X.calm=true):yV X (.builtin "min") (fun xs H Q=>∃i j,xs=[.int i,.int j]∧Q (.int (if j<i then j else i)) H):=by
 intro pins s σ H xs us Q I r h;obtain ⟨i,j,rfl,q⟩:=h;obtain ⟨u,w',rfl,⟨t,rfl⟩,⟨t',rfl⟩⟩:=uJ r;refine min_two_ints (I.ok.hd hc) fun h' tk k=>⟨_,H,I.kept k,?_,q⟩
 by_cases hj:j<i
 ·rw [if_pos hj,if_pos hj];exact ⟨_,rfl⟩
 ·rw [if_neg hj,if_neg hj];exact ⟨_,rfl⟩
theorem PK:yV X (.type "int") (fun xs H Q=>(∃i,xs=[.int i]∧Q (.int i) H)∨∃k,xs=[.bl k]∧Q (.int (if k then 1 else 0)) H):=by
 intro pins s σ H xs us Q I r h
 rcases h with ⟨i,rfl,q⟩|⟨k,rfl,q⟩
 ·obtain ⟨u,rfl,t,rfl⟩:=ZI r;exact call_int_int ⟨.int i,H,I,⟨_,rfl⟩,q⟩
 ·obtain ⟨u,rfl,r1⟩:=ZI r;cases r1;exact call_int_bool ⟨.int (if k then 1 else 0),H,I.tok _,⟨_,rfl⟩,q⟩
end
structure ObjM (h:Heap) (x dx C:Addr) (mA:Str→Option Value):Prop where
 obj:h.get? x=some (PySem.W.instObj C dx)
 ns:h.Ns1 dx mA
 ne:dx≠x
theorem OX {h:Heap} {dx:Addr} {mA:Str→Option Value} (n:h.Ns1 dx mA):∃od,h.get? dx=some od∧∀name,PySem.W.lookIn name od=some (mA name):=by
 obtain ⟨o,es,ep,ho,hd,hk,_,hm⟩:=n;refine ⟨o,ho,fun name=>?_⟩;have e:=hm name;unfold nsFind findBy at e;rw [← Array.find?_toList] at e;unfold PySem.W.lookIn;rw [hd]
 dsimp only
 split
 ·rename_i y q;rw [q] at e;exact cp some e
 ·rename_i q;rw [q] at e;have a:es.toList.any (·.refKey)=false:=by
   rw [List.any_eq_false];intro y hy;obtain ⟨z,t,hkey⟩:=hk y (kg.mp hy);simp [DictEntry.refKey,hkey]
  have a':¬es.toList.any (·.refKey)=true:=by rw [a];exact aD
  rw [if_neg a'];exact cp some e
variable {C:Addr}
theorem ObjM.look {h:Heap} {x dx:Addr} {mA:Str→Option Value} (I:ObjM h x dx C mA):∃od,PySem.W.InstAt h x (PySem.W.instObj C dx) C (some od)∧∀name,PySem.W.lookIn name od=some (mA name) :=
 let ⟨od,ho,hl⟩:=OX I.ns
 ⟨od,⟨I.obj,rfl,rfl,ho⟩,hl⟩
section
variable {prog:Program} {w:World} {A:Around} {E:Value→Shared→Prop} {s:Shared} {K:PySem.W.Frag} {x dx C f:Addr} {mA:Str→Option Value} {name:Str} {v:Value}
theorem S2 {expr:Bool} {Q:Value→Shared→Prop} (X:K.In s.heap) (I:ObjM s.heap x dx C mA) (hg:PySem.W.plainGet K C name=true) (hh:PySem.W.hasDictIn K C=true)
  (ha:PySem.W.findIn K (.ref C) name=some none) (hv:mA name=some v) (hv':PySem.W.handedIn v=true) (h:Q v {s with toks:=s.toks+1}) :
  wpAny (model prog w) A (getAttr (.ref x) name expr) Q E s:=by
 obtain ⟨od,J,hl⟩:=I.look;exact PySem.W.get_value X J (PySem.W.plainGet_of hg).1 (PySem.W.findObj_own hh ha rfl (by rw [hl,hv])) hv' h
theorem RK {pl:Sem Bool} {Q:Value×List Value→Shared→Prop} (X:K.In s.heap) (I:ObjM s.heap x dx C mA) (hg:PySem.W.plainGet K C name=true)
  (hf:PySem.W.findIn K (.ref C) name=some (some (.ref f))) (ht:PySem.W.isFn K (.ref f)=true) (hv:mA name=none) (h:Q (.ref f,[.ref x]) s) :
  wpAny (model prog w) A (getMethod (.ref x) name pl) Q E s:=by
 obtain ⟨od,J,hl⟩:=I.look;exact PySem.W.method_fn X J (PySem.W.plainGet_of hg).1 (PySem.W.plainGet_of hg).2 hf (iq.mp ht) (by show (PySem.W.lookIn name od).map (·.isSome)=some false;rw [hl,hv];rfl) h
theorem SB {ns:List Str} {Q:Unit→Shared→Prop} (X:K.In s.heap) (I:ObjM s.heap x dx C mA)
  (hs:PySem.W.findIn K (.ref C) "__setattr__"=some (some (.builtin "object.__setattr__"))) (hp:PySem.W.plainOver K C=true) (ht:PySem.W.takerIn K C name=some none) (hh:PySem.W.hasDictIn K C=true)
  (hw:PySem.Within mA ns) (hsz:ns.length≤sizeLine)
  (h:∀h',ObjM h' x dx C (fun y=>if y=name then some v else mA y)→Heap.SameBut dx s.heap h'→Q () {s with heap:=h',toks:=s.toks+2}) :
  wpAny (model prog w) A (setAttr (.ref x) name v) Q E s:=by
 obtain ⟨od,J,hl⟩:=I.look;refine PySem.W.set_plain X J hs (PySem.W.osa_open (s:={s with toks:=s.toks+1}) (r:=none) X J hp ht fun b=>?_);obtain ⟨cd,hc,hd'⟩:=PySem.W.any_some hh;have hx:s.heap.get? x=some ⟨.ref C,some dx,.plain,#[]⟩:=I.obj;refine ac (am (ac (ac (wpAny_loadPart hx (ac (PySem.W.Looks.here (s:={s with toks:=s.toks+1}) (PySem.W.looks_clsIn X hc) ?_))))));rw [hd'];refine am (a:=some dx) (ac (am (ac ?_)));refine wpAny_nsSet1 (s:={s with toks:=s.toks+1}) I.ns fun h' hn2 hs2=>?_
 obtain ⟨oD,esD,epD,hoD,hdD,hcD⟩:=hn2.count (PySem.Within.cons name v hw);refine ac (wpAny_lookBehind hoD (by rw [hdD];exact pastItsLine_dict (aG hcD (by rw [aZ];omega))) ?_);exact am (h _ ⟨(hs2.2 _ (Ne.symm I.ne)).trans I.obj,hn2,I.ne⟩ hs2)
theorem RG {R:Result→Shared→Prop} {vs:List Value} {kw:List (Str×Value)} (X:K.In s.heap) (hm:PySem.W.makesIn K C=true)
  (hi:PySem.W.findIn K (.ref C) "__init__"=some (some (.ref f))) (hf:PySem.W.typeIn K (.ref f)=some (.type "function"))
  (h:codeAny (model prog w) (A.under (.builtin "type.__call__" ⟨.ref C::vs,kw⟩)) (.call (.ref f) ⟨.ref (s.heap.objs.size+1)::vs,kw⟩) (PySem.W.InitBack (s.heap.objs.size+1) R)
   {s with heap:=(s.heap.push PySem.W.emptyDict).push (PySem.W.instObj C s.heap.objs.size)}) :
  codeAny (model prog w) A (.call (.ref C) ⟨vs,kw⟩) R s:=by
 obtain ⟨hh,g,d,t,os⟩:=s;exact PySem.W.make_core (PySem.W.makes_of X hm) (PySem.W.looks_findIn X hi) (fun self=>PySem.W.bind_fn X self hf) (.inl rfl) h
end
def jW (f:Str) (v:V):List (Str×V)→List (Str×V)
 |[]=>[(f,v)]
 | (g,x)::r=>if g=f then (g,v)::r else (g,x)::jW f v r
theorem v9 (f g:Str) (v:V):∀fs:List (Str×V),(jW f v fs).lookup g=if g=f then some v else fs.lookup g
 |[]=>by
  show List.lookup g [(f,v)]=_
  by_cases h:g=f
  ·have hb:(g == f)=true:=iq.mpr h;simp only [List.lookup,hb,if_pos h]
  ·have hb:(g == f)=false:=bo.mpr h;simp only [List.lookup,hb,if_neg h]
 | (k,x)::r=>by
  have ih:=v9 f g v r;rw [show jW f v ((k,x)::r)=(if k=f then (k,v)::r else (k,x)::jW f v r) from rfl]
  by_cases hk:k=f
  ·rw [if_pos hk]
   by_cases h:g=k
   ·have hb:(g == k)=true:=iq.mpr h;simp only [List.lookup,hb,if_pos (h.trans hk)]
   ·have hb:(g == k)=false:=bo.mpr h;simp only [List.lookup,hb,if_neg (fun e:g=f=>h (e.trans hk.symm))]
  ·rw [if_neg hk]
   by_cases h:g=k
   ·have hb:(g == k)=true:=iq.mpr h;simp only [List.lookup,hb,if_neg (fun e:g=f=>hk (h.symm.trans e))]
   ·have hb:(g == k)=false:=bo.mpr h;simp only [List.lookup,hb];exact ih
theorem rV (f:Str) (v:V):∀fs:List (Str×V),f∈(jW f v fs).map (·.1)∧∀g,g∈fs.map (·.1)→g∈(jW f v fs).map (·.1)
 |[]=>⟨by simp [jW],fun g h=>by simp at h⟩
 | (k,x)::r=>by
  obtain ⟨i1,i2⟩:=rV f v r;rw [show jW f v ((k,x)::r)=(if k=f then (k,v)::r else (k,x)::jW f v r) from rfl]
  by_cases hk:k=f
  ·rw [if_pos hk];subst hk;exact ⟨by simp,fun g h=>by simpa using h⟩
  ·rw [if_neg hk];refine ⟨?_,fun g h=>?_⟩
   ·rw [bf];exact ay _ i1
   ·rw [bf] at h ⊢
    rcases ax.mp h with e|e
    ·exact ax.mpr (.inl e)
    ·exact ay _ (i2 g e)
theorem QI (f:Str) (v:V):∀fs:List (Str×V),(jW f v fs).length≤fs.length+1
 |[]=>by simp [jW]
 | (k,x)::r=>by
  have ih:=QI f v r;rw [show jW f v ((k,x)::r)=(if k=f then (k,v)::r else (k,x)::jW f v r) from rfl]
  by_cases hk:k=f
  ·rw [if_pos hk,aZ,aZ];omega
  ·rw [if_neg hk,aZ,aZ];omega
theorem RelO.some_of {v:V} {o:Option Value} (r:RelO (some v) o):∃u,o=some u∧RelV v u:=by
 cases o with
 |none=>exact (show False from r).elim
 |some u=>exact ⟨u,rfl,r⟩
theorem RelO.none_of {o:Option Value} (r:RelO none o):o=none:=by
 cases o with
 |none=>rfl
 |some u=>exact (show False from r).elim
theorem O5 {v:V} {u:Value} (r:RelV v u):PySem.W.handedIn u=true:=by
 cases v with
 |non=>cases (show u=Value.none from r);rfl
 |bl b=>cases (show u=Value.bool b from r);rfl
 |int i=>obtain ⟨t,e⟩:=(show ∃t,u=Value.int i t from r);cases e;rfl
 |str x=>obtain ⟨t,e⟩:=(show ∃t,u=Value.str x t from r);cases e;rfl
 |byt b=>obtain ⟨t,e⟩:=(show ∃t,u=Value.bytes b t from r);cases e;rfl
 |flt b=>obtain ⟨t,e⟩:=(show ∃t,u=Value.float b t from r);cases e;rfl
 |ref a=>cases (show u=Value.ref a from r);rfl
 |ty n=>cases (show u=Value.type n from r);rfl
section
variable {P:Program} {w:World} {H H':Hp} {h h':Heap} {a C dx:Addr} {fs fs':List (Str×V)}
theorem lU (hok:HOk P w H h) (e:H a=some (.ins C dx fs)):∃mA,ObjM h a dx C mA∧(∀f,RelO (fs.lookup f) (mA f))∧PySem.Within mA (fs.map (·.1))∧fs.length≤1000∧H dx=some (.own a):=by
 obtain ⟨d,z,ne,ob,mA,n,r,q⟩:=(show ObjOk P w H h a (.ins C dx fs) from hok a _ e);exact ⟨mA,⟨ob,n,ne⟩,r,q,z,d⟩
end
structure Cls (K:PySem.W.Frag) (C:Addr):Prop where
 pg:PySem.W.plainGet K C Str.empty=true
 hd:PySem.W.hasDictIn K C=true
 po:PySem.W.plainOver K C=true
 sa:PySem.W.findIn K (.ref C) "__setattr__"=some (some (.builtin "object.__setattr__"))
theorem Cls.get {K:PySem.W.Frag} (c:Cls K C) (f:Str):PySem.W.plainGet K C f=true:=c.pg
def NoAttr (K:PySem.W.Frag) (C:Addr) (f:Str):Prop:=PySem.W.findIn K (.ref C) f=some none
theorem NoAttr.taker {K:PySem.W.Frag} {f:Str} (n:NoAttr K C f):PySem.W.takerIn K C f=some none:=by
 unfold PySem.W.takerIn;rw [show PySem.W.findIn K (.ref C) f=some none from n];rfl
structure Meth (K:PySem.W.Frag) (C:Addr) (m:Str) (f:Addr):Prop where
 at_:PySem.W.findIn K (.ref C) m=some (some (.ref f))
 fn:PySem.W.isFn K (.ref f)=true
 kp:PySem.W.keepIn K (.ref f)=true
section
variable {X:Cx} {pins:List (Addr×Obj)} {σ:St} {H:Hp} {s:Shared} {a C dx:Addr} {fs:List (Str×V)} {f:Str} {v:V} {A:Around} {E:Value→Shared→Prop}
theorem N2 {b:Bool} {Q:Value→Shared→Prop} (I:Inv X pins σ H s) (e:H a=some (.ins C dx fs)) (c:Cls X.K C) (n:NoAttr X.K C f) (l:fs.lookup f=some v)
  (h:∀u s',Inv X pins σ H s'→RelV v u→Q u s'):wpAny (model X.prog X.w) A (getAttr (.ref a) f b) Q E s:=by
 obtain ⟨mA,O,r,_,_,_⟩:=lU I.hok e;obtain ⟨u,hu,ru⟩:=RelO.some_of (v:=v) (o:=mA f) (by rw [← l];exact r f);exact S2 I.kIn O (c.get f) c.hd n hu (O5 ru) (h u _ (I.tok _) ru)
theorem i4 {m:Str} {g:Addr} {pl:Sem Bool} {Q:Value×List Value→Shared→Prop} (I:Inv X pins σ H s) (e:H a=some (.ins C dx fs)) (c:Cls X.K C) (k:Meth X.K C m g) (l:fs.lookup m=none)
  (h:Q (.ref g,[.ref a]) s):wpAny (model X.prog X.w) A (getMethod (.ref a) m pl) Q E s:=by
 obtain ⟨mA,O,r,_,_,_⟩:=lU I.hok e;have hn:mA m=none:=RelO.none_of (by rw [← l];exact r m);exact RK I.kIn O (c.get m) k.at_ k.fn hn h
theorem NK {y:V} {u:Value} {Q:Unit→Shared→Prop} (I:Inv X pins σ H s) (e:H a=some (.ins C dx fs)) (c:Cls X.K C) (n:NoAttr X.K C f) (hl:fs.length<1000) (ry:RelV y u)
  (h:∀s',Inv X pins σ (upd H a (.ins C dx (jW f y fs))) s'→Q () s'):wpAny (model X.prog X.w) A (setAttr (.ref a) f u) Q E s:=by
 obtain ⟨mA,O,r,wi,_,ho⟩:=lU I.hok e;have hz:(fs.map (·.1)).length≤sizeLine:=by rw [ae,kr];omega
 refine SB I.kIn O c.sa c.po n.taker c.hd wi hz fun h' O' sb=>h _ ?_
 have hd:∃o,h'.get? dx=some o:=let ⟨o,_,_,e',_⟩:=O'.ns;⟨o,e'⟩
 refine I.write (x:=a) (e:=dx) (by rw [e];exact True.intro) (.inr ho) (fun b q hb z=>(sb.2 b hb).trans z) hd ?_;refine ⟨by rw [jH O.ne];exact ho,?_,O.ne,O'.obj,_,O'.ns,fun g=>?_,fun g hg=>?_⟩
 ·have:=QI f y fs;omega
 ·show RelO ((jW f y fs).lookup g) (if g=f then some u else mA g);rw [v9]
  by_cases q:g=f
  ·rw [if_pos q,if_pos q];exact ry
  ·rw [if_neg q,if_neg q];exact r g
 ·by_cases q:g=f
  ·rw [q];exact (rV f y fs).1
  ·refine (rV f y fs).2 g (wi g fun z=>hg ?_);show (if g=f then some u else mA g)=none;rw [if_neg q];exact z
theorem Inv.made (I:Inv X pins σ H s):Inv X pins σ (upd (upd H s.heap.objs.size (.own (s.heap.objs.size+1))) (s.heap.objs.size+1) (.ins C s.heap.objs.size []))
  {s with heap:=(s.heap.push PySem.W.emptyDict).push (PySem.W.instObj C s.heap.objs.size)}:=by
 have e1:(s.heap.push PySem.W.emptyDict).get? s.heap.objs.size=some PySem.W.emptyDict:=az s.heap rfl;have e2:((s.heap.push PySem.W.emptyDict).push (PySem.W.instObj C s.heap.objs.size)).get? (s.heap.objs.size+1)=some (PySem.W.instObj C s.heap.objs.size):=by
  have:=az (s.heap.push PySem.W.emptyDict) (o:=PySem.W.instObj C s.heap.objs.size) rfl
  rwa [cg] at this
 have e3:(s.heap.push PySem.W.emptyDict).Ns s.heap.objs.size (fun _=>none):=⟨PySem.W.emptyDict,#[],_,e1,rfl,(fun e he=>absurd he (by simp)),fun _=>rfl⟩;have I1:=I.laid (a:=s.heap.objs.size) (o:=.own (s.heap.objs.size+1)) (h':=s.heap.push PySem.W.emptyDict) (t':=s.toks) (fun b u q=>aj _ q) (ar _) ⟨_,e1⟩;refine I1.laid (a:=s.heap.objs.size+1) (o:=.ins C s.heap.objs.size []) (t':=s.toks) (fun b u q=>aj _ q) (Nat.le_of_eq (cg _ _)) ?_;have ne:s.heap.objs.size≠s.heap.objs.size+1:=aF (ek _);refine ⟨by rw [jH ne,jD],aY _,ne,e2,fun _=>none,(Heap.Ns1.of_empty e3).at fun o q=>aj _ q,fun _=>True.intro,fun y hy=>absurd rfl hy⟩
theorem TD {prog:Program} {w:World} {env:Env} {e:Expr} {f:Str} {pos:Pos} {s:Shared} {Q:Value→Shared→Prop} (hb:attributeBase e f env (eval e env)=eval e env)
  (h:wpAny (model prog w) A (eval e env) (fun o s₁=>wpAny (model prog w) A (getAttr o f true) Q E s₁) E s):wpAny (model prog w) A (eval (.Attribute e f pos) env) Q E s :=
 Attribute_any_ h (by rw [arm_eval_Attribute,hb])
end
def FP (K:PySem.W.Frag) (ta:TE) (f:Str):TE:=fun σ H Q=>ta σ H fun x H1=>∃a C dx fs v,x=.ref a∧H1 a=some (.ins C dx fs)∧Cls K C∧NoAttr K C f∧fs.lookup f=some v∧Q v H1
def V3 (K:PySem.W.Frag) (ta tv:TE) (f:Str):TS:=fun D σ H=>tv σ H fun y H1=>ta σ H1 fun x H2=>∃a C dx fs,x=.ref a∧H2 a=some (.ins C dx fs)∧Cls K C∧NoAttr K C f∧fs.length<1000∧
 D.nx σ (upd H2 a (.ins C dx (jW f y fs)))
section
variable {X:Cx} {o e value:Expr} {f:Str} {pos pos' tpos:Pos} {ta tv:TE}
theorem GN (he:PE X e ta) (hb:attributeBase e f X.env (eval e X.env)=eval e X.env):PE X (.Attribute e f pos) (FP X.K ta f):=by
 intro pins s σ H Q I h;refine TD hb (jN (he pins s σ H _ I h) fun u s1 ⟨x,H1,I1,rx,a,C,dx,fs,v,ex,ea,c,n,l,q⟩=>?_);subst ex;obtain rfl:u=Value.ref a:=rx;exact N2 I1 ea c n l fun u' s2 I2 ru=>⟨v,H1,I2,ru,q⟩
theorem zL (ha:PE X o ta) (hv:PE X value tv) (hs:swapsWith value (some (.Attribute o f pos')) pos.line X.env=pure false):PS X (.Assign [.Attribute o f pos'] value pos) (V3 X.K ta tv f):=by
 intro pins s σ H D I h;refine plainObj_wpAny_Assign_Attribute (jN (hv pins s σ H _ I h) fun u s1 ⟨y,H1,I1,ry,q⟩=>jN (ha pins s1 σ H1 _ I1 q) fun ov s2 ⟨x,H2,I2,rx,a,C,dx,fs,ex,ea,c,n,l,q2⟩=>?_) hs;subst ex;obtain rfl:ov=Value.ref a:=rx;exact NK I2 ea c n l ry fun s3 I3=>⟨σ,_,I3,q2⟩
end
section
variable {X:Cx} {pins:List (Addr×Obj)} {σ:St} {H:Hp} {s:Shared} {A:Around} {E:Value→Shared→Prop} {Q:Value→Shared→Prop} {c:Value} {b:Bool}
inductive TyOf (K:PySem.W.Frag) (H:Hp):V→Value→Prop where
 |non:TyOf K H .non (.type "NoneType")
 |bl (x:Bool):TyOf K H (.bl x) (.type "bool")
 |int (i:Int):TyOf K H (.int i) (.type "int")
 |str (x:Str):TyOf K H (.str x) (.type "str")
 |flt (x:UInt64):TyOf K H (.flt x) (.type "float")
 |lst {a:Addr} {xs:List V} (e:H a=some (.lst xs)):TyOf K H (.ref a) (.type "list")
 |frz {a:Addr} {o:Obj} {xs:List V} (e:H a=some (.frz o (.lst xs))):TyOf K H (.ref a) (.type "list")
 |tup {a:Addr} {xs:List V} (e:H a=some (.tup xs)):TyOf K H (.ref a) (.type "tuple")
 |dK {a:Addr} {kvs:List (kF×V)} (e:H a=some (.dK kvs)):TyOf K H (.ref a) (.type "dict")
 |dT {a:Addr} {kvs:List (List kF×V)} (e:H a=some (.dT kvs)):TyOf K H (.ref a) (.type "dict")
 |ins {a C dx:Addr} {fs:List (Str×V)} (e:H a=some (.ins C dx fs)) (cl:Cls K C) (ha:PySem.W.findIn K (.ref C) "__class__"=some (some (.builtin "object.__class__")))
   (hn:PySem.W.specialIn K (.builtin "object.__class__") "__get__"=some (some (.builtin "getset_descriptor.__get__"))) (htk:PySem.W.takesIn K (.builtin "object.__class__")=some true)
   (hm:PySem.W.mroIn K C (.type "object")=some true):TyOf K H (.ref a) (.ref C)
theorem O2 {x:V} {u t:Value} (I:Inv X pins σ H s) (rx:RelV x u) (ty:TyOf X.K H x t) (e:PySem.W.kitOne X.K t c=some b) (h:∀tk,Q (.bool b) {s with toks:=tk}) :
  wpAny (model X.prog X.w) A (call (.builtin "isinstance") [u,c]) Q E s:=by
 cases ty with
 |non=>cases (show u=Value.none from rx);exact cw PySem.W.kitx_none I.kIn True.intro e (fun z=>nomatch z) h
 |bl y=>cases (show u=Value.bool y from rx);exact cw PySem.W.kitx_bool I.kIn True.intro e (fun z=>nomatch z) h
 |int i=>obtain ⟨t,q⟩:=(show ∃t,u=Value.int i t from rx);cases q;exact cw PySem.W.kitx_int I.kIn True.intro e (fun z=>nomatch z) h
 |str y=>obtain ⟨t,q⟩:=(show ∃t,u=Value.str y t from rx);cases q;exact cw PySem.W.kitx_str I.kIn True.intro e (fun z=>nomatch z) h
 |flt y=>obtain ⟨t,q⟩:=(show ∃t,u=Value.float y t from rx);cases q;exact cw PySem.W.kitx_float I.kIn True.intro e (fun z=>nomatch z) h
 |@lst a xs ea =>
  cases (show u=Value.ref a from rx);obtain ⟨_,_,n,_,h1⟩:=(show ObjOk X.prog X.w H s.heap a (.lst xs) from I.hok a _ ea);exact cw PySem.W.kitx_list I.kIn ⟨_,h1,rfl⟩ e (fun z=>nomatch z) h
 |@frz a ob xs ea =>
  cases (show u=Value.ref a from rx);obtain ⟨_,_,_,n,_,h1⟩:=(show ObjOk X.prog X.w H s.heap a (.frz ob (.lst xs)) from I.hok a _ ea);exact cw PySem.W.kitx_list I.kIn ⟨_,h1,rfl⟩ e (fun z=>nomatch z) h
 |@tup a xs ea =>
  cases (show u=Value.ref a from rx);obtain ⟨_,_,_,p⟩:=(show ObjOk X.prog X.w H s.heap a (.tup xs) from I.hok a _ ea);obtain ⟨o,h1,h2,_⟩:=p;exact cw PySem.W.kitx_tuple I.kIn ⟨o,h1,h2⟩ e (fun z=>nomatch z) h
 |@dK a kvs ea =>
  cases (show u=Value.ref a from rx);obtain ⟨_,_,vs,_,p⟩:=(show ObjOk X.prog X.w H s.heap a (.dK kvs) from I.hok a _ ea);obtain ⟨o,es,ep,h1,h2,_⟩:=p;exact cw PySem.W.kitx_dict I.kIn ⟨o,h1,h2.1⟩ e (fun z=>nomatch z) h
 |@dT a kvs ea =>
  cases (show u=Value.ref a from rx);obtain ⟨_,_,xs,_,o,es,ep,h1,h2,_⟩:=(show ObjOk X.prog X.w H s.heap a (.dT kvs) from I.hok a _ ea);exact cw PySem.W.kitx_dict I.kIn ⟨o,h1,h2.1⟩ e (fun z=>nomatch z) h
 |@ins a C dx fs ea cl ha hn htk hm =>
  cases (show u=Value.ref a from rx);obtain ⟨mA,O,_⟩:=lU I.hok ea;obtain ⟨od,J,_⟩:=O.look;exact cw (PySem.W.kitx_own (cl.get _) cl.hd ha hn htk hm) I.kIn J e (fun z=>nomatch z) h
end
end L2
namespace L2
open PySem PySem.Spec PyProof.Rows
structure Room (k:Nat) (A:Around):Prop where
 hd:A.handled=none
 dp:A.depth+3*k+5<recursionLimit
 un:A.units+16*k+200<cLine
variable {k:Nat} {A:Around}
theorem Room.mono {j:Nat} (r:Room k A) (h:j≤k):Room j A:=⟨r.hd,by have:=r.dp;omega,by have:=r.un;omega⟩
theorem Room.deeper (r:Room (k+1) A) (env:Env):Room k (A.deeper env) :=
 ⟨r.hd,by have:=r.dp;show A.depth+1+3*k+5<_;omega,by have:=r.un;show A.units+3+16*k+200<_;omega⟩
variable {us:List Value}
theorem NV {C:Addr} {kw:List (Str×Value)}:(A.under (.builtin "type.__call__" ⟨.ref C::us,kw⟩)).depth=A.depth+1:=by
 first|rfl|simp [Around.under,Code.weight,Code.isCreation,Code.isGuard,Code.isCaller,Code.frames,Code.isFrame,guardIds]
theorem NU {C:Addr} {kw:List (Str×Value)}:(A.under (.builtin "type.__call__" ⟨.ref C::us,kw⟩)).units=A.units+1:=by
 first|rfl|simp [Around.under,Code.cUnits,Code.frames,Code.isFrame]
theorem Room.make (r:Room (k+1) A) (C:Addr) (us:List Value) (kw:List (Str×Value)):Room k (A.under (.builtin "type.__call__" ⟨.ref C::us,kw⟩)) :=
 ⟨r.hd,by have:=r.dp;rw [NV];omega,by have:=r.un;rw [NU];omega⟩
theorem Room.depth (r:Room k A):A.depth<recursionLimit:=by have:=r.dp;omega
theorem Room.units (r:Room k A):A.units+64<cLine:=by have:=r.un;omega
theorem Room.units0 (r:Room k A):A.units<cLine:=by have:=r.un;omega
def QD:TA:=fun _ H Q=>Q [] H
def yB (ta:TE) (tr:TA):TA:=fun σ H Q=>ta σ H fun x H1=>tr σ H1 fun xs H2=>Q (x::xs) H2
section
variable {X:Cx} {e:Expr} {es:List Expr} {te:TE} {t:TA} {pos:Pos}
theorem jE:PA X [] QD:=fun _ _ _ _ H Q I h=>Calls.spliced_nil ⟨[],H,I,.nil,h⟩
theorem jB (ha:PE X e te) (hr:PA X es t) (hs:starEach (e::es) X.env=(false,eval e X.env)::starEach es X.env:=by rfl):PA X (e::es) (yB te t):=by
 intro pos pins s σ H Q I h;rw [hs];show wpAny _ _ (spliced ((false,eval e X.env)::backTo pos (starEach es X.env))) _ _ s;refine Calls.spliced_cons (jN (ha pins s σ H _ I h) fun u s1 ⟨x,H1,I1,r1,q1⟩=>?_);exact jN (hr pos pins s1 σ H1 _ I1 q1) fun us s2 ⟨xs,H2,I2,r2,q2⟩=>⟨x::xs,H2,I2,.cons r1 r2,q2⟩
def VR (t:TA):TE:=fun σ H Q=>t σ H fun xs H1=>xs.length≤sizeLine∧∀p,H1 p=none→Q (.ref p) (upd H1 p (.tup xs))
def VW (t:TA):TE:=fun σ H Q=>t σ H fun xs H1=>xs.length≤sizeLine∧∀p,H1 p=none→Q (.ref p) (upd H1 p (.lst xs))
theorem qA {x1} (h:PA X es t):PE X (.Tuple es x1 pos) (VR t):=by
 intro pins s σ H Q I hq;refine wpAny_Tuple_spliced (jN (h pos pins s σ H _ I hq) fun us s1 ⟨xs,H1,I1,r,z,q⟩=>⟨by rw [← r.length];exact z,?_⟩);have hf:H1 s1.heap.objs.size=none:=I1.hok.fresh (ar _);refine ⟨.ref s1.heap.objs.size,upd H1 s1.heap.objs.size (.tup xs),I1.laid (t':=s1.toks) (fun b u e=>aj _ e) (ar _) ?_,rfl,q _ hf⟩;exact ⟨z,us,r,⟨_,az _ rfl,rfl,_,rfl⟩⟩
theorem qJ (h:PA X es t):PE X (.List es pos) (VW t):=by
 intro pins s σ H Q I hq;refine wpAny_List_spliced (jN (h pos pins s σ H _ I hq) fun us s1 ⟨xs,H1,I1,r,z,q⟩=>⟨by rw [← r.length];exact z,?_⟩);have hf:H1 s1.heap.objs.size=none:=I1.hok.fresh (ar _);refine ⟨.ref s1.heap.objs.size,upd H1 s1.heap.objs.size (.lst xs),I1.laid (t':=s1.toks) (fun b u e=>aj _ e) (ar _) ?_,rfl,q _ hf⟩;exact ⟨z,us,0,r,az _ rfl⟩
end
abbrev Sp:=List V→Hp→VK→XK→Prop
abbrev vS:=List Env→Hp→Shared→XK→Value→Shared→Prop
structure Env0 (P:Program) (w:World) (K:PySem.W.Frag) (mg:Str→Option Value) (base:Heap) (A:Around) (outer:List Env) (s:Shared) (H:Hp):Prop where
 frames:A.frames=some outer
 mod:Mod K mg base
 bs:∀b o,base.get? b=some o→s.heap.get? b=some o∧H b=none
 bsz:base.objs.size≤s.heap.objs.size
 funs:s.heap.FunFrames base outer
 frf:∀b∈kO outer,H b=none
 hok:HOk P w H s.heap
 bare:AllBare s.gens
def CE (outer:List Env) (P:Program) (w:World) (H:Hp) (s:Shared) (Q:VK) (u:Value) (s':Shared):Prop :=
 ∃v H',s'.os=s.os∧AllBare s'.gens∧Un (kO outer) [] H H' s.heap s'.heap∧HOk P w H' s'.heap∧RelV v u∧Q v H'
def CR (CX:vS) (outer:List Env) (P:Program) (w:World) (H:Hp) (s:Shared) (Q:VK) (E:XK) (r:Result) (s':Shared):Prop :=
 match r with
 |.ok (.ret u)=>CE outer P w H s Q u s'
 |.ok _=>False
 |.error e=>CX outer H s E e s'
structure FnOk (P:Program) (w:World) (K:PySem.W.Frag) (mg:Str→Option Value) (base:Heap) (CX:vS) (k:Nat) (f:Addr) (fd:FuncData) (ps:List Str) (sp:Sp):Prop where
 len:∀vs H Q E,sp vs H Q E→vs.length=ps.length
 run:∀(A:Around) (outer:List Env) (s:Shared) (H:Hp) (args:Args) (us:List Value) (vs:List V) (Q:VK) (E:XK),Room k A→Env0 P w K mg base A outer s H→BindsTo s fd args (ps.zip us)→Vals vs us→sp vs H Q E→
  codeAny (model P w) A (.call (.ref f) args) (CR CX outer P w H s Q E) s
variable {P:Program} {w:World} {K:PySem.W.Frag} {mg:Str→Option Value} {base:Heap} {CX:vS} {f:Addr} {ps:List Str}
theorem FnOk.imp {fd:FuncData} {sp sp':Sp} (F:FnOk P w K mg base CX k f fd ps sp)
  (h:∀vs H Q E,sp' vs H Q E→sp vs H Q E):FnOk P w K mg base CX k f fd ps sp' :=
 ⟨fun vs H Q E q=>F.len vs H Q E (h _ _ _ _ q),fun A outer s H args us vs Q E hr he hb hv hs=>F.run A outer s H args us vs Q E hr he hb hv (h _ _ _ _ hs)⟩
theorem Env0.make {outer:List Env} {s:Shared} {H:Hp} (e:Env0 P w K mg base A outer s H) (C:Addr) (us:List Value) (kw:List (Str×Value)) :
  Env0 P w K mg base (A.under (.builtin "type.__call__" ⟨.ref C::us,kw⟩)) outer s H:=⟨by first|exact e.frames|(simpa [Around.under,Code.envs,Code.isFrame,pushEnvs] using e.frames),e.mod,e.bs,e.bsz,e.funs,e.frf,e.hok,e.bare⟩
section
variable {X:Cx} {pins:List (Addr×Obj)} {σ:St} {H:Hp} {s s':Shared}
theorem Inv.env0 (I:Inv X pins σ H s):Env0 X.prog X.w X.K X.mg X.base X.A X.stack s H :=
 ⟨I.ok.frames,I.ok.mod,I.bs,aG I.ok.bsz I.sz,I.stack,I.stkFree,I.hok,I.bare⟩
theorem Inv.after {Q:VK} {u:Value} (I:Inv X pins σ H s) (h:CE X.stack X.prog X.w H s Q u s'):EP X pins σ Q u s':=by
 obtain ⟨v,H',os,bare,un,hok,r,q⟩:=h;obtain ⟨hh,g,d,t,os'⟩:=s';obtain rfl:os'=s.os:=os;exact ⟨v,H',I.call (h':=hh) (g':=g) (d':=d) (t':=t) (ch:=[]) un hok bare (fun b z=>absurd z (by simp)),r,q⟩
end
def uL (sp:Sp) (dvs:List V) (E:XK) (t:TA):TE:=fun σ H Q=>t σ H fun vs H1=>sp (vs++dvs) H1 Q E
def mJ (C:Addr) (m:Str) (sp:Sp) (dvs:List V) (E:XK) (ta:TE) (t:TA):TE:=fun σ H Q=>ta σ H fun x H1=>∃a dx fs,x=.ref a∧H1 a=some (.ins C dx fs)∧fs.lookup m=none∧
 t σ H1 fun vs H2=>sp (x::(vs++dvs)) H2 Q E
def FB (C:Addr) (sp:Sp) (dvs:List V) (E:XK) (t:TA):TE:=fun σ H Q=>t σ H fun vs H1=>∀x dx,H1 x=none→H1 dx=none→dx≠x→
 sp (.ref x::(vs++dvs)) (upd (upd H1 dx (.own x)) x (.ins C dx [])) (fun v H2=>v=.non∧Q (.ref x) H2) E
def Binds (K:PySem.W.Frag) (fd:FuncData) (ps:List Str) (ds:List Value):Prop :=
 ∀(s:Shared) (us:List Value),K.In s.heap→(us++ds).length=ps.length→BindsTo s fd ⟨us,[]⟩ (ps.zip (us++ds))
theorem Binds.all {fd:FuncData} (h:∀us:List Value,us.length=ps.length→bindArgs fd ⟨us,[]⟩=pure (ps.zip us)):Binds K fd ps []:=fun s us _ hl=>by
 rw [br] at hl ⊢;exact .of_eq (h us hl)
def ZX (CX:vS) (X:Cx) (E:XK):Prop:=∀(pins:List (Addr×Obj)) (σ:St) (H:Hp) (s:Shared) (e:Value) (s':Shared),Inv X pins σ H s→CX X.stack H s E e s'→X.xe e s'
section
variable {X:Cx} {CX:vS} {k:Nat} {f C:Addr} {fd:FuncData} {ps:List Str} {sp:Sp} {dvs:List V} {ds:List Value} {E:XK} {x m:Str} {p pos apos:Pos} {e o:Expr} {es:List Expr} {ta:TE} {t:TA}
theorem dP {pins:List (Addr×Obj)} {σ:St} {H:Hp} {s:Shared} {Q:VK} {us:List Value} {vs:List V} (F:FnOk X.prog X.w X.K X.mg X.base CX k f fd ps sp) (hr:Room k X.A) (hb:Binds X.K fd ps ds) (hd:Vals dvs ds) (hx:ZX CX X E)
  (I:Inv X pins σ H s) (r:Vals vs us) (h:sp (vs++dvs) H Q E):wpAny (model X.prog X.w) X.A (call (.ref f) us) (EP X pins σ Q) X.xe s:=by
 have r2:Vals (vs++dvs) (us++ds):=r.append hd;have hl:(us++ds).length=ps.length:=by rw [← r2.length];exact F.len _ _ _ _ h
 refine wpAny_call (gx (F.run X.A X.stack s H ⟨us,[]⟩ (us++ds) (vs++dvs) Q E hr I.env0 (hb s us I.kIn hl) r2 h) fun r s' hq=>?_);cases r with
 |error e=>exact hx pins σ H s e s' I hq
 |ok fl =>
  cases fl with
  |ret u=>exact I.after hq
  |next=>exact False.elim hq
  |brk=>exact False.elim hq
  |cont=>exact False.elim hq
theorem SM (F:FnOk X.prog X.w X.K X.mg X.base CX k f fd ps sp) (hr:Room k X.A) (hg:Gl X x) (hm:X.mg x=some (.ref f)) (hk:PySem.W.keepIn X.K (.ref f)=true) (hb:Binds X.K fd ps ds) (hd:Vals dvs ds) (hx:ZX CX X E)
  (ha:PA X (e::es) t) (hdb:(x == ("__debug__":Str))=false:=by decide) (he:starEach (e::es) X.env=(false,eval e X.env)::starEach es X.env:=by rfl) (hpl:(backTo pos (starEach es X.env)).any (·.1)=false:=by rfl) :
  PE X (.Call (.Name x p) (e::es) [] pos) (uL sp dvs E t):=by
 intro pins s σ H Q I h;refine cq (bR I hg hm ?_ hdb);refine ei (h₀:=X.base) I.ok.mod.kin hk (jN (ha pos pins s σ H _ I h) fun us s1 ⟨vs,H1,I1,r,q⟩=>⟨I1.kIn,?_⟩) he hpl;exact dP F hr hb hd hx I1 r q
theorem SI {pl:Sem Bool} (he:PE X o ta) (c:Cls X.K C) (hm:Meth X.K C m f) (F:FnOk X.prog X.w X.K X.mg X.base CX k f fd ps sp) (hr:Room k X.A) (hb:Binds X.K fd ps ds) (hd:Vals dvs ds) (hx:ZX CX X E) (ha:PA X (e::es) t)
  (hst:starEach (e::es) X.env=(false,eval e X.env)::starEach es X.env:=by rfl) (hpl:(backTo pos (starEach es X.env)).any (·.1)=false:=by rfl)
  (ht:eval (.Call (.Attribute o m apos) (e::es) [] pos) X.env=(do
   let ov ← eval o X.env
   standAt apos.atName
   let (f,first) ← holding [ov] (getMethod ov m pl)
   callWith pos f first (backTo pos (starEach (e::es) X.env)) (backToKw pos (keywordEach [] X.env))):=by rfl) :
  PE X (.Call (.Attribute o m apos) (e::es) [] pos) (mJ C m sp dvs E ta t):=by
 intro pins s σ H Q I h;refine fj (pl:=pl) (jN (he pins s σ H _ I h) fun u s1 ⟨x,H1,I1,rx,a,dx,fs,ex,ea,l,q⟩=>?_) ht;subst ex;obtain rfl:u=Value.ref a:=rx;refine i4 I1 ea c hm l ?_;refine ei (first:=[.ref a]) (h₀:=X.base) I.ok.mod.kin hm.kp (jN (ha pos pins s1 σ H1 _ I1 q) fun us s2 ⟨vs,H2,I2,r,q2⟩=>⟨I2.kIn,?_⟩) hst hpl;exact dP (us:=.ref a::us) (vs:=.ref a::vs) F hr hb hd hx I2 (.cons rfl r) q2
theorem PZ {pl:Sem Bool} (he:PE X o ta) (c:Cls X.K C) (hm:Meth X.K C m f) (F:FnOk X.prog X.w X.K X.mg X.base CX k f fd ps sp) (hr:Room k X.A) (hb:Binds X.K fd ps ds) (hd:Vals dvs ds) (hx:ZX CX X E)
  (ht:eval (.Call (.Attribute o m apos) [] [] pos) X.env=(do
   let ov ← eval o X.env
   standAt apos.atName
   let (f,first) ← holding [ov] (getMethod ov m pl)
   callWith pos f first (backTo pos (starEach [] X.env)) (backToKw pos (keywordEach [] X.env))):=by rfl) :
  PE X (.Call (.Attribute o m apos) [] [] pos) (mJ C m sp dvs E ta QD):=by
 intro pins s σ H Q I h;refine fj (pl:=pl) (jN (he pins s σ H _ I h) fun u s1 ⟨x,H1,I1,rx,a,dx,fs,ex,ea,l,q⟩=>?_) ht;subst ex;obtain rfl:u=Value.ref a:=rx;refine i4 I1 ea c hm l ?_;exact PySem.W.callWith_K0 (first:=[.ref a]) I1.kIn hm.kp (dP (us:=[.ref a]) (vs:=[.ref a]) F hr hb hd hx I1 (.cons rfl .nil) q)
structure Mk (K:PySem.W.Frag) (C f:Addr):Prop where
 makes:PySem.W.makesIn K C=true
 init:PySem.W.findIn K (.ref C) "__init__"=some (some (.ref f))
 fn:PySem.W.isFn K (.ref f)=true
 kp:PySem.W.keepIn K (.ref C)=true
theorem PU {pins:List (Addr×Obj)} {σ:St} {H:Hp} {s:Shared} {Q:VK} {us:List Value} {vs:List V} (M:Mk X.K C f) (F:FnOk X.prog X.w X.K X.mg X.base CX k f fd ps sp) (hr:Room (k+1) X.A) (hb:Binds X.K fd ps ds) (hd:Vals dvs ds)
  (hx:ZX CX X E) (I:Inv X pins σ H s) (r:Vals vs us)
  (h:∀x dx,H x=none→H dx=none→dx≠x→sp (.ref x::(vs++dvs)) (upd (upd H dx (.own x)) x (.ins C dx [])) (fun v H2=>v=.non∧Q (.ref x) H2) E) :
  wpAny (model X.prog X.w) X.A (call (.ref C) us) (EP X pins σ Q) X.xe s:=by
 have hq:=h (s.heap.objs.size+1) s.heap.objs.size (I.hok.fresh (kt _)) (I.hok.fresh (ar _)) (aF (ek _));have I2:=Inv.made (C:=C) I;have r2:Vals (V.ref (s.heap.objs.size+1)::(vs++dvs)) (Value.ref (s.heap.objs.size+1)::(us++ds)):=.cons rfl (r.append hd);have hl:(Value.ref (s.heap.objs.size+1)::us++ds).length=ps.length:=by
  have e:=r2.length;rw [F.len _ _ _ _ hq] at e;exact e.symm
 refine wpAny_call (RG (f:=f) I.kIn M.makes M.init (iq.mp M.fn) (gx (F.run _ X.stack _ _ ⟨Value.ref (s.heap.objs.size+1)::us,[]⟩ (Value.ref (s.heap.objs.size+1)::(us++ds)) _ _ E (hr.make C us [])
  (I2.env0.make C us []) (hb _ (Value.ref (s.heap.objs.size+1)::us) I2.kIn hl) r2 hq) fun r s' hq'=>?_))
 cases r with
 |error e=>exact hx pins σ _ _ e s' I2 hq'
 |ok fl =>
  cases fl with
  |ret u =>
   obtain ⟨v,H',I3,rv,ev,q3⟩:=I2.after hq';subst ev;exact ⟨rv,⟨V.ref (s.heap.objs.size+1),H',I3,rfl,q3⟩⟩
  |next=>exact False.elim hq'
  |brk=>exact False.elim hq'
  |cont=>exact False.elim hq'
theorem SJ (M:Mk X.K C f) (F:FnOk X.prog X.w X.K X.mg X.base CX k f fd ps sp) (hr:Room (k+1) X.A) (hg:Gl X x) (hm:X.mg x=some (.ref C)) (hb:Binds X.K fd ps ds) (hd:Vals dvs ds) (hx:ZX CX X E)
  (ha:PA X (e::es) t) (hdb:(x == ("__debug__":Str))=false:=by decide) (he:starEach (e::es) X.env=(false,eval e X.env)::starEach es X.env:=by rfl) (hpl:(backTo pos (starEach es X.env)).any (·.1)=false:=by rfl) :
  PE X (.Call (.Name x p) (e::es) [] pos) (FB C sp dvs E t):=by
 intro pins s σ H Q I h;refine cq (bR I hg hm ?_ hdb);refine ei (h₀:=X.base) I.ok.mod.kin M.kp (jN (ha pos pins s σ H _ I h) fun us s1 ⟨vs,H1,I1,r,q⟩=>⟨I1.kIn,?_⟩) he hpl;exact PU M F hr hb hd hx I1 r q
end
section
variable {X:Cx} {CX:vS} {k:Nat} {f C:Addr} {fd:FuncData} {ps ks:List Str} {sp:Sp} {E:XK} {x m:Str} {p pos apos kpos:Pos} {e o:Expr} {es:List Expr} {kws:List Keyword} {te ta:TE} {t tk:TA} {nm:Option Str}
variable {g:List Value→List Value→List Value} {gV:List V→List V→List V}
end
structure FnScope (N P:List Str) (sc:Scope):Prop where
 kind:sc.kind=.function
 co:sc.isCoroutine=false
 gen:sc.isGenerator=false
 nd:N.Nodup
 pre:N.take P.length=P
 par:∀x∈P,sc.names.lookup x=some .local∨sc.names.lookup x=some .cell
 nofree:∀y∈sc.names,y.2≠.free
theorem BM {kindOf:Str→Option NameKind} {x:Str}:∀{binds:List (Str×Value)} {m:Str→Option Value},(∀v,(x,v)∉binds)→bindL kindOf binds m x=m x
 |[],_,_=>rfl
 | (n,v)::r,m,h=>by
  unfold bindL;rw [BM fun w hw=>h w (ay _ hw)]
  split
  ·have:x≠n:=by rintro rfl;exact h v aH
   simp [this]
  ·rfl
theorem BO {kindOf:Str→Option NameKind} {x:Str}:∀{binds:List (Str×Value)} {m:Str→Option Value},(∀v,(x,v)∉binds)→bindC kindOf binds m x=m x
 |[],_,_=>rfl
 | (n,v)::r,m,h=>by
  unfold bindC;rw [BO fun w hw=>h w (ay _ hw)]
  split
  ·rfl
  ·have:x≠n:=by rintro rfl;exact h v aH
   simp [this]
theorem BN {kindOf:Str→Option NameKind} {x:Str} {v:Value}:∀{P:List Str} {vs:List Value} {i:Nat} {m:Str→Option Value},P.Nodup→P[i]?=some x→vs[i]?=some v→kindOf x=some .local→
  bindL kindOf (P.zip vs) m x=some v
 |[],_,_,_,_,h,_,_=>by simp at h
 |_::_,[],_,_,_,_,h,_=>by simp at h
 |p::P,w::vs,0,m,nd,h1,h2,hk=>by
  simp at h1 h2;subst h1;subst h2
  show bindL kindOf ((p,w)::P.zip vs) m p=_;unfold bindL;rw [BM fun v hv=>(bc.mp nd).1 (ku hv).1,if_pos hk];simp
 |p::P,w::vs,i+1,m,nd,h1,h2,hk=>by
  show bindL kindOf ((p,w)::P.zip vs) m x=_;unfold bindL;exact BN (i:=i) (bc.mp nd).2 (by simpa using h1) (by simpa using h2) hk
theorem BP {kindOf:Str→Option NameKind} {x:Str} {v:Value}:∀{P:List Str} {vs:List Value} {i:Nat} {m:Str→Option Value},P.Nodup→P[i]?=some x→vs[i]?=some v→kindOf x≠some .local→
  bindC kindOf (P.zip vs) m x=some v
 |[],_,_,_,_,h,_,_=>by simp at h
 |_::_,[],_,_,_,_,h,_=>by simp at h
 |p::P,w::vs,0,m,nd,h1,h2,hk=>by
  simp at h1 h2;subst h1;subst h2
  show bindC kindOf ((p,w)::P.zip vs) m p=_;unfold bindC;rw [BO fun v hv=>(bc.mp nd).1 (ku hv).1,if_neg hk];simp
 |p::P,w::vs,i+1,m,nd,h1,h2,hk=>by
  show bindC kindOf ((p,w)::P.zip vs) m x=_;unfold bindC;exact BP (i:=i) (bc.mp nd).2 (by simpa using h1) (by simpa using h2) hk
def start (N:List Str) (vs:List V):St:=vs.map some++List.replicate (N.length - vs.length) none
def vR (CX:vS) (P:Program) (w:World) (K:PySem.W.Frag) (mg:Str→Option Value) (base:Heap) (N:List Str) (qual:Str) (scope:Scope) (f:Addr) (cd:Value) (A:Around) (outer:List Env) (s:Shared) (H:Hp) (E:XK):Cx where
 prog:=P
 w:=w
 K:=K
 mg:=mg
 base:=base
 A:=A.deeper (envOfC qual scope s.heap.objs.size f cd)
 N:=N
 s₀:=s
 H₀:=H
 env:=envOfC qual scope s.heap.objs.size f cd
 outer:=outer
 stack:=envOfC qual scope s.heap.objs.size f cd::outer
 ex:=[]
 calm:=true
 fn:=fun _=>true
 pn:=[]
 xe:=fun e s'=>wpAny (model P w) (A.deeper (envOfC qual scope s.heap.objs.size f cd)) (leaving (envOfC qual scope s.heap.objs.size f cd) e) (fun _ s''=>CX outer H s E e s'') (fun e' s''=>CX outer H s E e' s'') s'
theorem CV {sc:Scope} {n:Nat} {x:Str} (h:sc.names.lookup x=some .cell):∃c,(cellsFrom n sc.names []).lookup x=some c:=by
 have q:=im sc.names n [] (.inl h);exact Option.isSome_iff_exists.mp q
theorem BC {N:List Str} {qual:Str} {scope:Scope} {cd:Value} {outer:List Env} {s s1:Shared} {H:Hp} {E:XK} {vs:List V}
  (S:FnScope N ps scope) (hd:A.handled=none) (e0:Env0 P w K mg base A outer s H) (hl:vs.length=ps.length) (r:Vals vs us)
  (x:InCallC s s.heap.objs.size (bindL (envOfC qual scope s.heap.objs.size f cd).kindOf (ps.zip us) fun _=>none) (cellsFrom (s.heap.objs.size+1) scope.names []) (bindC (envOfC qual scope s.heap.objs.size f cd).kindOf (ps.zip us) fun _=>none) s1) :
  Inv (vR CX P w K mg base N qual scope f cd A outer s H E) [] (start N vs) H s1:=by
 have hpl:ps.length≤N.length:=by have:=cp List.length S.pre;rw [db] at this;omega
 obtain ⟨h1,tk,rfl,hk⟩:=x.done;have noA:∀b:Addr,b∉(vR CX P w K mg base N qual scope f cd A outer s H E).ex:=fun b z=>absurd (show b∈([]:List Addr) from z) (by simp)
 refine ⟨⟨e0.mod,S.kind,rfl,rfl,ar _,fun y z c h1 h2=>?_,fun y hy=>?_,fun y c _ h=>?_,fun _=>hd,Around.frames_deeper e0.frames,.inr ⟨rfl,rfl⟩,fun b z=>absurd z (noA b),e0.bs,e0.bsz,fun b _ _=>noA b,fun b z=>absurd z (noA b),e0.funs,e0.frf⟩,
  rfl,e0.bare,Un.kept hk,⟨_,x.toInCall.ns,fun i y v h1 h2 h3=>?_⟩,fun y c h=>⟨_,x.cell y c h⟩,e0.hok.fresh (ar _),fun y c h=>?_,fun p hp=>absurd (show p∈([]:List (Addr×Obj)) from hp) (by simp),e0.hok.kept hk,?_⟩
 ·exact name_of_addr x.apart (bi h1) (bi h2)
 ·have hy:scope.names.lookup y=some .cell∨scope.names.lookup y=some .free:=hy
  rcases hy with hy|hy
  ·exact CV hy
  ·exact absurd rfl (S.nofree _ (bi hy))
 ·exact gj (x.above y c (bi h))
 ·have hi:i<vs.length:=by
   unfold start at h2
   by_cases hi:i<vs.length
   ·exact hi
   ·rw [ap (by simpa using hi)] at h2;rw [ga] at h2
    split at h2<;>cases h2
  have ha:vs[i]?=some v:=by
   unfold start at h2;rw [aq (by simpa using hi),av] at h2;cases e:vs[i]? with
   |none=>rw [e] at h2;cases h2
   |some a=>rw [e] at h2;cases h2;rfl
  obtain ⟨u,hu,rv⟩:=r.get ha;have hp:ps[i]?=some y:=by
   rw [← S.pre,List.getElem?_take_of_lt (by omega)];exact h1
  have ndP:ps.Nodup:=by rw [← S.pre];exact S.nd.sublist (ir _ _)
  refine ⟨u,rv,?_⟩
  rcases S.par y (ai hp) with k|k
  ·exact .inl ⟨k,BN ndP hp hu k⟩
  ·obtain ⟨c,e⟩:=CV (n:=s.heap.objs.size+1) k;refine .inr ⟨.inl k,c,e,?_⟩;have q:=x.cell y c e;rw [BP ndP hp hu (by show scope.names.lookup y≠_;rw [k];decide)] at q;exact q
 ·exact e0.hok.fresh (gj (x.above y c (bi h)))
 ·unfold start;show _=N.length;rw [ag,ae,eh];omega
theorem mR {name qual:Str} {params:Arguments} {body:List Stmt} {scope:Scope} {dV kV doc pm cdv ct oc:Value} {an od:Option Addr}
  {osl:Array (Option Value)} {N:List Str} {sp:Sp} (lk:K.lookup f=some ⟨oc,od,.func (PySem.W.fnOf name qual params body scope dV kV doc pm an cdv ct),osl⟩) (hcd:PySem.W.codeIn K cdv qual=true) (S:FnScope N ps scope)
  (len:∀vs H Q E,sp vs H Q E→vs.length=ps.length)
  (hbody:∀(A:Around) (outer:List Env) (s:Shared) (H:Hp) (vs:List V) (Q:VK) (E:XK),Room k (A.deeper (envOfC qual scope s.heap.objs.size f cdv))→sp vs H Q E→
   ∃t,PSs (vR CX P w K mg base N qual scope f cdv A outer s H E) body t∧t {nx:=fun _ H'=>Q .non H',rt:=Q} (start N vs) H) :
  FnOk P w K mg base CX (k+1) f (PySem.W.fnOf name qual params body scope dV kV doc pm an cdv ct) ps sp:=by
 refine ⟨len,fun A outer s H args us vs Q E hr e0 hb r hsp=>?_⟩;have hl:=len _ _ _ _ hsp;have KX:K.In s.heap:=e0.mod.kin.keeps fun b o e=>(e0.bs b o e).1
 have lim:s.heap.NoLimit:=e0.mod.nolimit.keeps fun b o e=>(e0.bs b o e).1
 have hkind:∀y∈ps.zip us,scope.names.lookup y.1=some .local∨(scope.names.lookup y.1=some .cell∧((cellsFrom (s.heap.objs.size+1) scope.names []).lookup y.1).isSome=true):=fun ⟨n,v⟩ hy=>by
  rcases S.par n (ku hy).1 with q|q
  ·exact .inl q
  ·exact .inr ⟨q,im _ _ _ (.inl q)⟩
 refine ix hr.depth (KX _ _ lk) rfl S.co S.gen rfl (PySem.W.codeRec_of KX hcd) (hb _ _ _ _ ?_);refine wpAny_newFunctionEnv_cells S.kind hkind fun env he s1 x=>?_
 subst he;refine ⟨lim.keeps x.toInCall.keep,codeAny_func ?_⟩;obtain ⟨t,ht,hq⟩:=hbody A outer s H vs Q E (hr.deeper _) hsp;have I:Inv (vR CX P w K mg base N qual scope f cdv A outer s H E) [] (start N vs) H s1:=BC S hr.hd e0 hl r x;refine bv (ht [] s1 (start N vs) H _ I hq) (fun fl s' hs=>?_) fun e s' hs=>hs
 have fin:∀{σ':St} {H':Hp} {v:V} {u:Value},Inv (vR CX P w K mg base N qual scope f cdv A outer s H E) [] σ' H' s'→RelV v u→Q v H'→CE outer P w H s Q u s' :=
  fun {σ' H' v u} J rv q=>⟨v,H',J.os,J.bare,J.base,J.hok,rv,q⟩
 cases fl with
 |ret u =>
  obtain ⟨v,σ',H',J,rv,q⟩:=hs;exact fin J rv q
 |next =>
  obtain ⟨σ',H',J,q⟩:=hs;exact fin (v:=V.non) (u:=Value.none) J rfl q
 |brk =>
  obtain ⟨_,_,_,q⟩:=hs;exact False.elim q
 |cont =>
  obtain ⟨_,_,_,q⟩:=hs;exact False.elim q
end L2
namespace L2
open PySem PySem.Spec PyProof.Rows
section
variable {X:Cx} {x:Str} {p pos:Pos} {e:Expr} {es:List Expr} {t:TA} {id T:String} {r:List V→Hp→VK→Prop}
def wI (r:List V→Hp→VK→Prop) (t:TA):TE:=fun σ H Q=>t σ H fun vs H1=>r vs H1 Q
theorem y6 (hc:yV X (.builtin id) r) (hg:Gl X x) (hm:X.mg x=none) (hv:bootBuiltins x=some (.builtin id)) (ha:PA X (e::es) t) (hn:x≠"__name__":=by decide) (hdb:(x == ("__debug__":Str))=false:=by decide)
  (he:starEach (e::es) X.env=(false,eval e X.env)::starEach es X.env:=by rfl) (hpl:(backTo pos (starEach es X.env)).any (·.1)=false:=by rfl):PE X (.Call (.Name x p) (e::es) [] pos) (wI r t):=by
 intro pins s σ H Q I h;refine cq (ZF I hg hm hv ?_ hn hdb);exact PyProof.Rows.callWith_builtin1 (jN (ha pos pins s σ H _ I h) fun us s1 ⟨vs,H1,I1,r1,q1⟩=>hc pins s1 σ H1 vs us Q I1 r1 q1) he hpl
theorem zE (hc:yV X (.type T) r) (hg:Gl X x) (hm:X.mg x=none) (hv:bootBuiltins x=some (.type T)) (ha:PA X (e::es) t) (hn:x≠"__name__":=by decide) (hdb:(x == ("__debug__":Str))=false:=by decide)
  (he:starEach (e::es) X.env=(false,eval e X.env)::starEach es X.env:=by rfl) (hpl:(backTo pos (starEach es X.env)).any (·.1)=false:=by rfl):PE X (.Call (.Name x p) (e::es) [] pos) (wI r t):=by
 intro pins s σ H Q I h;refine cq (ZF I hg hm hv ?_ hn hdb);exact bq (jN (ha pos pins s σ H _ I h) fun us s1 ⟨vs,H1,I1,r1,q1⟩=>hc pins s1 σ H1 vs us Q I1 r1 q1) he hpl
end
end L2
namespace HT
open PySem PyProof.Rows
section
open PySem.SeqAt
open PySem.AutoSeq1 (wpAny_loadPart')
open PySem.MeetsSeq PySem.MeetsSeq2 PySem.MeetsSeq3
end
section
variable {prog:Program} {w:World} {A:Around} {E:Value→Shared→Prop} {s:Shared}
end
end HT
namespace L2
open PySem PySem.Spec PyProof.Rows
abbrev TO:=St→Hp→(Option Int→Hp→Prop)→Prop
def PO (X:Cx) (e:Option Expr) (t:TO):Prop :=
 ∀(pins:List (Addr×Obj)) (s:Shared) (σ:St) (H:Hp) (Q:Option Int→Hp→Prop),Inv X pins σ H s→t σ H Q→
  wpAny (model X.prog X.w) X.A (evalPart e X.env) (fun u s'=>∃o H',Inv X pins σ H' s'∧IsPart u o∧Q o H') X.xe s
def R6:TO:=fun _ H Q=>Q none H
def UQ (t:TE):TO:=fun σ H Q=>t σ H fun x H1=>∃i,x=.int i∧Q (some i) H1
section
variable {X:Cx} {e:Expr} {te:TE} {lo hi:Option Expr} {tl th:TO} {pos p2:Pos}
theorem lR:PO X none R6:=by
 intro pins s σ H Q I h;rw [evalPart_none];exact am ⟨none,H,I,.none,h⟩
theorem gY (h:PE X e te):PO X (some e) (UQ te):=by
 intro pins s σ H Q I hw;rw [evalPart_some];refine jN (h pins s σ H _ I hw) fun u s1 ⟨x,H1,I1,r1,q1⟩=>?_
 obtain ⟨i,rfl,q⟩:=q1;obtain ⟨t,rfl⟩:=r1;exact ⟨some i,H1,I1,.int i t,q⟩
def GF (X:Cx) (r:V→Option Int→Option Int→Hp→VK→Prop):Prop :=
 ∀(pins:List (Addr×Obj)) (s:Shared) (σ:St) (H:Hp) (x:V) (v vl vu:Value) (lo hi:Option Int) (sl:Addr) (Q:VK),Inv X pins σ H s→RelV x v→s.heap.IsSliceOf sl vl vu .none→IsPart vl lo→IsPart vu hi→r x lo hi H Q→
  ∃T id,typeLookup (.type T) "__getitem__"=pure (some (.builtin id))∧s.TypeIs v T∧wpAny (model X.prog X.w) X.A (getItem v (.ref sl)) (EP X pins σ Q) X.xe s
def WS (r:V→Option Int→Option Int→Hp→VK→Prop) (te:TE) (tl th:TO):TE:=fun σ H Q=>te σ H fun x H1=>tl σ H1 fun l H2=>th σ H2 fun u H3=>r x l u H3 Q
theorem lJ {r:V→Option Int→Option Int→Hp→VK→Prop} (hr:GF X r) (he:PE X e te) (hl:PO X lo tl) (hu:PO X hi th):PE X (.Subscript e (.Slice lo hi none p2) pos) (WS r te tl th):=by
 intro pins s σ H Q I h;refine Subscript_ (jN (he pins s σ H _ I h) fun v s1 ⟨x,H1,I1,r1,q1⟩=>?_);refine wpAny_Slice (jN (hl pins s1 σ H1 _ I1 q1) fun vl s2 ⟨l,H2,I2,pl,q2⟩=>jN (hu pins s2 σ H2 _ I2 q2) fun vu s3 ⟨u,H3,I3,pu,q3⟩=>?_);rw [evalPart_none];refine am ?_;have I4:Inv X pins σ H3 {s3 with heap:=s3.heap.push {cls:=.type "slice",data:=.fields #[vl,vu,.none]}}:=I3.kept (t':=s3.toks) fun b ob q=>aj _ q
 obtain ⟨T,id,hT,ht,hg⟩:=hr pins {s3 with heap:=s3.heap.push {cls:=.type "slice",data:=.fields #[vl,vu,.none]}} σ H3 x v vl vu l u s3.heap.objs.size Q I4 r1 (Heap.IsSliceOf.new ..) pl pu q3;show wpAny (model X.prog X.w) X.A (subscriptTail e (.Slice lo hi none p2) v (.ref s3.heap.objs.size)) (EP X pins σ Q) X.xe {s3 with heap:=s3.heap.push {cls:=.type "slice",data:=.fields #[vl,vu,.none]}};exact tail_any (ops:=[.ref s3.heap.objs.size,v]) ht hT hg (by with_unfolding_all rfl)
end
def zQ (n:Nat) (i:Int):Option Nat:=if 0≤i then (if i<n then some i.toNat else none) else if -(n:Int)≤i then some (i+n).toNat else none
def vF {α:Type} (xs:List α) (i:Int):Option α:=(zQ xs.length i).bind fun j=>xs[j]?
theorem DQ {n:Nat} {i:Int} {j:Nat} (h:zQ n i=some j):seqIndex? i n=some j∧j<n∧-(n:Int)≤i∧i<n:=by
 unfold zQ at h
 by_cases h0:0≤i
 ·rw [if_pos h0] at h
  by_cases h1:i<n
  ·rw [if_pos h1] at h;have e:i.toNat=j:=aE h;exact ⟨by rw [seqIndex_of h0 h1,e],by omega,by omega,h1⟩
  ·rw [if_neg h1] at h;cases h
 ·rw [if_neg h0] at h
  by_cases h1 : -(n:Int)≤i
  ·rw [if_pos h1] at h;have e:(i+n).toNat=j:=aE h;exact ⟨by rw [seqIndex_neg (by omega) h1,e],by omega,h1,by omega⟩
  ·rw [if_neg h1] at h;cases h
variable {α:Type}
theorem lY {xs:List α} {i:Int} {v:α} (h:vF xs i=some v):∃j,seqIndex? i xs.length=some j∧xs[j]?=some v∧j<xs.length∧-(xs.length:Int)≤i∧i<xs.length:=by
 unfold vF at h;cases e:zQ xs.length i with
 |none=>rw [e] at h;cases h
 |some j =>
  rw [e] at h;obtain ⟨h1,h2,h3,h4⟩:=DQ e;exact ⟨j,h1,h,h2,h3,h4⟩
theorem qB {xs:List α} {j:Nat} {v:α} (h:xs[j]?=some v):vF xs (j:Int)=some v:=by
 have hj:j<xs.length:=(ad.mp h).1;have e:zQ xs.length (j:Int)=some j:=by
  unfold zQ;rw [if_pos (by omega),if_pos (by omega)];simp
 unfold vF;rw [e];exact h
theorem atI_last (xs:List α) (v:α):vF (xs++[v]) (-1)=some v:=by
 have hl:(xs++[v]).length=xs.length+1:=by simp
 have e:zQ (xs++[v]).length (-1)=some xs.length:=by
  unfold zQ;rw [hl,if_neg (by decide),if_pos (by omega)]
  congr 1
  omega
 unfold vF;rw [e];show (xs++[v])[xs.length]?=some v;simp
def EE (b:Expr):Prop:=∀o i,subscripted b false o i=operate [o,i] (getItem o i)
def IxR (X:Cx) (r:R2):Prop :=
 ∀(value slice:Expr) (pins:List (Addr×Obj)) (s:Shared) (σ:St) (H:Hp) (x y:V) (v u:Value) (Q:VK),Inv X pins σ H s→RelV x v→RelV y u→r x y H Q→
  subscripted slice false v u=operate [v,u] (getItem v u)→wpAny (model X.prog X.w) X.A (subscriptTail value slice v u) (EP X pins σ Q) X.xe s
def wQ (X:Cx) (id:String) (r:V→List V→Hp→VK→Prop):Prop :=
 ∀(pins:List (Addr×Obj)) (s:Shared) (σ:St) (H:Hp) (x:V) (xs:List V) (v:Value) (us:List Value) (Q:VK),Inv X pins σ H s→RelV x v→Vals xs us→r x xs H Q→
  wpAny (model X.prog X.w) X.A (call (.builtin id) (v::us)) (EP X pins σ Q) X.xe s
section
variable {X:Cx} {a b:Expr} {ta tb:TE} {pos:Pos}
theorem IxR.or {r r':R2} (h:IxR X r) (h':IxR X r'):IxR X (fun x y H Q=>r x y H Q∨r' x y H Q):=by
 intro value slice pins s σ H x y v u Q I rx ry q hs
 rcases q with q|q
 ·exact h value slice pins s σ H x y v u Q I rx ry q hs
 ·exact h' value slice pins s σ H x y v u Q I rx ry q hs
theorem GJ {r:R2} (hr:IxR X r) (ha:PE X a ta) (hb:PE X b tb) (hs:EE b):PE X (.Subscript a b pos) (cO r ta tb):=by
 intro pins s σ H Q I h;exact Subscript_ (u7 ha hb I h fun v u s2 x y H2 I2 rx ry q=>hr a b pins s2 σ H2 x y v u Q I2 rx ry q (hs _ _))
def mV (K:PySem.W.Frag):R2:=fun x y H Q=>∃p xs i v,x=.ref p∧y=.int i∧SqL K H p xs∧vF xs i=some v∧Q v H
def uZ (K:PySem.W.Frag):R2:=fun x y H Q=>∃p xs i v,x=.ref p∧y=.int i∧SqT K H p xs∧vF xs i=some v∧Q v H
def FR:R2:=fun x y H Q=>∃z i c,x=.str z∧y=.int i∧z.length≤sizeLine∧vF z.cps.toList i=some c∧Q (.str ⟨#[c]⟩) H
theorem wT:IxR X (mV X.K):=by
 intro value slice pins s σ H x y v u Q I rx ry h hs;obtain ⟨p,xs,i,z,rfl,rfl,hq,he,q⟩:=h;cases rx;obtain ⟨t,rfl⟩:=ry;obtain ⟨its,r,pl,hz⟩:=I.list hq;obtain ⟨j,h1,h2,h3,h4,h5⟩:=lY he;obtain ⟨w,ew,rw'⟩:=r.get h2;have hl:=r.length;have hn:=ZV;have fin:EP X pins σ Q w s:=⟨z,H,I,rw',q⟩
 by_cases h0:0≤i
 ·have hj:i.toNat=j:=by
   rw [seqIndex_of h0 h5] at h1;exact aE h1
  exact item_listR pl.isList h0 (by omega) (by rw [hj];simpa using ew) fin hs
 ·have hj:(i+(its.toArray.size:Int)).toNat=j:=by
   rw [seqIndex_neg (by omega) h4] at h1;rw [ak,← hl];exact aE h1
  exact subscriptTail_builtinR (x:=w) pl.isList.typeIs slot_list_getitem.lookup
   (wpAny_getItem_list_neg (Q:=fun r s'=>r=w∧EP X pins σ Q r s') pl.isList (by omega) (by rw [ak]<;>omega) (by omega) (by rw [hj];simpa using ew) ⟨rfl,fin⟩) hs
theorem ix_tup:IxR X (uZ X.K):=by
 intro value slice pins s σ H x y v u Q I rx ry h hs;obtain ⟨p,xs,i,z,rfl,rfl,hq,he,q⟩:=h;cases rx;obtain ⟨t,rfl⟩:=ry;obtain ⟨its,r,pl,hz⟩:=I.tuple hq;obtain ⟨j,h1,h2,h3,h4,h5⟩:=lY he;obtain ⟨w,ew,rw'⟩:=r.get h2;have hl:=r.length;have hn:=ZV;have fin:EP X pins σ Q w s:=⟨z,H,I,rw',q⟩;exact subscriptTail_builtinR (x:=w) pl.typeIs slot_tuple_getitem.lookup
  (getItem_tuple (j:=j) (Q:=fun r s'=>r=w∧EP X pins σ Q r s') pl (by omega) (by omega) (by rw [ak,← hl];exact h1) (by simpa using ew) ⟨rfl,fin⟩) hs
theorem UF:IxR X FR:=by
 intro value slice pins s σ H x y v u Q I rx ry h hs;obtain ⟨z,i,c,rfl,rfl,hz,he,q⟩:=h;obtain ⟨t,rfl⟩:=rx;obtain ⟨t',rfl⟩:=ry;obtain ⟨j,h1,h2,h3,h4,h5⟩:=lY he;have hl:z.cps.toList.length=z.length:=by simp [Str.length]
 rw [hl] at h1 h4 h5;have hn:=ZV;exact tail_any (typeIs_str s z t) slot_str_getitem.lookup (getItem_str (c:=c) (by
  have e1:decide (i < -(2 ^ 63:Int))=false:=aI (by omega);have e2:decide (i≥2 ^ 63)=false:=aI (by omega);rw [e1,e2,Bool.or_false]) (by rw [h1];simpa using h2) ⟨.str ⟨#[c]⟩,H,I.tok _,⟨_,rfl⟩,q⟩) hs
def wJ (K:PySem.W.Frag):R2:=fun x y H Q=>mV K x y H Q∨uZ K x y H Q∨FR x y H Q
theorem UG:IxR X (wJ X.K):=wT.or (ix_tup.or UF)
theorem NT (its:List Value) (n j:Nat) (u:Value):Obj.mapSeq (·.setIfInBounds j u) {cls:=.type "list",data:=.seq its.toArray n}={cls:=.type "list",data:=.seq (its.set j u).toArray n}:=by
 simp [Obj.mapSeq]
theorem Inv.lst {pins:List (Addr×Obj)} {σ:St} {H:Hp} {s:Shared} {p:Addr} {xs:List V} (I:Inv X pins σ H s) (h:H p=some (.lst xs)) :
  ∃(its:List Value) (n:Nat),Vals xs its∧s.heap.get? p=some {cls:=.type "list",data:=.seq its.toArray n}∧xs.length≤sizeLine:=by
 obtain ⟨z,its,n,r,e⟩:=I.hok p _ h;exact ⟨its,n,r,e,z⟩
theorem Inv.lstUpd {pins:List (Addr×Obj)} {σ:St} {H:Hp} {s:Shared} {p:Addr} {xs ys:List V} {its its':List Value} {n n':Nat} {f:Obj→Obj} (I:Inv X pins σ H s) (h:H p=some (.lst xs))
  (ho:s.heap.get? p=some {cls:=.type "list",data:=.seq its.toArray n}) (hf:f {cls:=.type "list",data:=.seq its.toArray n}={cls:=.type "list",data:=.seq its'.toArray n'}) (r:Vals ys its') (hz:ys.length≤sizeLine) (t:Nat) :
  Inv X pins σ (upd H p (.lst ys)) {s with heap:=s.heap.update p f,toks:=t}:=by
 have e:(s.heap.update p f).get? p=some {cls:=.type "list",data:=.seq its'.toArray n'}:=by
  rw [fk f ho (by rw [hf]<;>rfl),hf]
 refine I.write (x:=p) (e:=p) (by rw [h];trivial) (.inl rfl) (fun b u hb q=>(io _ _ (Ne.symm hb)).trans q) ⟨_,e⟩ ?_;exact ⟨hz,its',n',r,e⟩
def U1:V→V→V→Hp→(Hp→Prop)→Prop:=fun o i v H Q=>∃p xs k j,o=.ref p∧i=.int k∧H p=some (.lst xs)∧zQ xs.length k=some j∧Q (upd H p (.lst (xs.set j v)))
theorem dF:wA X U1:=by
 intro pins s σ H o i v ov iv u Q I ro ri rv h;obtain ⟨p,xs,k,j,rfl,rfl,hp,hj,q⟩:=h;cases ro;obtain ⟨t,rfl⟩:=ri;obtain ⟨its,n,r,ho,hz⟩:=I.lst hp;obtain ⟨h1,h2,h3,h4⟩:=DQ hj;have hl:=r.length;have hn:=ZV;have I':Inv X pins σ (upd H p (.lst (xs.set j v))) {s with heap:=s.heap.update p (Obj.mapSeq (·.setIfInBounds j u))} :=
  I.lstUpd hp ho (NT its n j u) (r.set rv j) (by rw [cx];exact hz) s.toks
 by_cases h0:0≤k
 ·have hk:k.toNat=j:=by
   rw [seqIndex_of h0 h4] at h1;exact aE h1
  exact PySem.W.ki_setAt ho h0 (by omega) (by rw [ak,← hl];exact h4) (by rw [hk];exact ⟨_,I',q⟩)
 ·have hk:(k+(its.toArray.size:Int)).toNat=j:=by
   rw [seqIndex_neg (by omega) h3] at h1;rw [ak,← hl];exact aE h1
  exact PySem.W.ki_setBack ho (by omega) (by rw [ak,← hl];exact h3) (by omega) (by rw [hk];exact ⟨_,I',q⟩)
def yU:V→Bool
 |.non=>true
 |.bl _=>true
 |.int _=>true
 |.str _=>true
 |_=>false
def zD:V→V→Bool
 |.non,.non=>true
 |.bl a,.bl b=>a == b
 |.bl a,.int b=>(if a then 1 else 0) == b
 |.int a,.bl b=>a == (if b then 1 else 0)
 |.int a,.int b=>a == b
 |.str a,.str b=>a == b
 |_,_=>false
theorem mG {A:Around} {s:Shared} {y x:V} {u v:Value} (ry:RelV y u) (rx:RelV x v) (fy:yU y=true) (fx:yU x=true):SeqAt.EqAt A s u v (zD y x):=by
 cases y with
 |non =>
  cases ry;cases x with
  |non=>cases rx;exact ib _
  |bl b=>cases rx;exact SeqAt.EqAt.none_bool b
  |int b=>obtain ⟨t,rfl⟩:=rx;exact SeqAt.EqAt.none_int b t
  |str b=>obtain ⟨t,rfl⟩:=rx;exact SeqAt.EqAt.none_str b t
  |_=>exact absurd (show false=true from fx) aD
 |bl a =>
  cases ry;cases x with
  |non=>cases rx;exact SeqAt.EqAt.bool_none a
  |bl b=>cases rx;exact SeqAt.EqAt.bool_bool a b
  |int b=>obtain ⟨t,rfl⟩:=rx;exact SeqAt.EqAt.bool_int a b t
  |str b=>obtain ⟨t,rfl⟩:=rx;exact SeqAt.EqAt.bool_str a b t
  |_=>exact absurd (show false=true from fx) aD
 |int a =>
  obtain ⟨t',rfl⟩:=ry;cases x with
  |non=>cases rx;exact SeqAt.EqAt.int_none a t'
  |bl b=>cases rx;exact SeqAt.EqAt.int_bool a t' b
  |int b=>obtain ⟨t,rfl⟩:=rx;exact SeqAt.EqAt.int_int a t' b t
  |str b=>obtain ⟨t,rfl⟩:=rx;exact SeqAt.EqAt.int_str a t' b t
  |_=>exact absurd (show false=true from fx) aD
 |str a =>
  obtain ⟨t',rfl⟩:=ry;cases x with
  |non=>cases rx;exact SeqAt.EqAt.str_none a t'
  |bl b=>cases rx;exact SeqAt.EqAt.str_bool a t' b
  |int b=>obtain ⟨t,rfl⟩:=rx;exact SeqAt.EqAt.str_int a t' b t
  |str b=>obtain ⟨t,rfl⟩:=rx;exact SeqAt.EqAt.str_str a t' b t
  |_=>exact absurd (show false=true from fx) aD
 |_=>exact absurd (show false=true from fy) aD
def nK (x:V) (u:Value):Bool:=match u with
 |.none=>zD .non x
 |.bool b=>zD (.bl b) x
 |.int i _=>zD (.int i) x
 |.str z _=>zD (.str z) x
 |_=>false
theorem E5 {x y:V} {u:Value} (r:RelV y u) (f:yU y=true):nK x u=zD y x:=by
 cases y with
 |non=>cases r;rfl
 |bl b=>cases r;rfl
 |int i=>obtain ⟨t,rfl⟩:=r;rfl
 |str z=>obtain ⟨t,rfl⟩:=r;rfl
 |_=>exact absurd (show false=true from f) aD
theorem CH {A:Around} {s:Shared} {x:V} {v:Value} (rx:RelV x v) (fx:yU x=true):∀{xs:List V} {us:List Value},Vals xs us→xs.all yU=true→∀u∈us,SeqAt.EqAt A s u v (nK x u)
 |_,_,.nil,_=>fun u hu=>by cases hu
 |y::xs,u::us,.cons r t,f=>fun u' hu=>by
  rw [List.all_cons,gb] at f
  rcases ax.mp hu with rfl|hu
  ·rw [E5 r f.1];exact mG r rx f.1 fx
  ·exact CH rx fx t f.2 u' hu
theorem GS:yV X (.builtin "len") (fun xs H Q=>∃p ys,xs=[.ref p]∧(SqL X.K H p ys∨SqT X.K H p ys)∧Q (.int ys.length) H):=by
 intro pins s σ H xs us Q I r h;obtain ⟨p,ys,rfl,hq,q⟩:=h;obtain ⟨u,rfl,rx⟩:=ZI r;cases rx;have hn:=ZV
 rcases hq with hq|hq
 ·obtain ⟨its,r',pl,hz⟩:=I.list hq;have hlen:=r'.length;exact Calls.call_len_list pl.isList (by simp only [ak]<;>omega) ⟨.int ys.length,H,I.tok _,⟨s.toks+1,by rw [ak,hlen]⟩,q⟩
 ·obtain ⟨its,r',pl,hz⟩:=I.tuple hq;have hlen:=r'.length;exact len_tuple pl (by simp only [ak]<;>omega) ⟨.int ys.length,H,I.tok _,⟨s.toks+1,by rw [ak,hlen]⟩,q⟩
theorem MY:yV X (.type "list") (fun xs H Q=>∃p ys,xs=[.ref p]∧(SqL X.K H p ys∨SqT X.K H p ys)∧∀l,H l=none→Q (.ref l) (upd H l (.lst ys))):=by
 intro pins s σ H xs us Q I r h;obtain ⟨p,ys,rfl,hq,q⟩:=h;obtain ⟨u,rfl,rx⟩:=ZI r;cases rx;have fin:∀(its:List Value),Vals ys its→ys.length≤sizeLine→∀(h':Heap) (c':Nat),(∀b o',s.heap.get? b=some o'→h'.get? b=some o')→
   h'.get? s.heap.objs.size=some {cls:=.type "list",dict:=none,data:=.seq its.toArray c',slots := #[]}→EP X pins σ Q (.ref s.heap.objs.size) {s with heap:=h'}:=fun its r' hz h' c' kp e =>
  ⟨.ref s.heap.objs.size,_,I.laid (t':=s.toks) kp (ar _) (show ObjOk X.prog X.w _ h' _ (.lst ys) from ⟨hz,its,c',r',e⟩),rfl,q _ (I.hok.fresh (ar _))⟩
 rcases hq with hq|hq
 ·obtain ⟨its,r',pl,hz⟩:=I.list hq;have hlen:=r'.length;obtain ⟨o,ho,hc,n,hd⟩:=pl.isList;exact call_list_seq p (.inl rfl) ho hc hd (fun h' c' kp e=>fin its r' hz h' c' kp e) (by simp only [ak]<;>omega)
 ·obtain ⟨its,r',pl,hz⟩:=I.tuple hq;have hlen:=r'.length;obtain ⟨o,ho,hc,n,hd⟩:=pl;exact call_list_seq p (.inr rfl) ho hc hd (fun h' c' kp e=>fin its r' hz h' c' kp e) (by simp only [ak]<;>omega)
theorem MR:yV X (.type "tuple") (fun xs H Q=>∃p ys,xs=[.ref p]∧((SqL X.K H p ys∧∀l,H l=none→Q (.ref l) (upd H l (.tup ys)))∨(SqT X.K H p ys∧Q (.ref p) H))):=by
 intro pins s σ H xs us Q I r h;obtain ⟨p,ys,rfl,h⟩:=h;obtain ⟨u,rfl,rx⟩:=ZI r;cases rx
 rcases h with ⟨hq,q⟩|⟨hq,q⟩
 ·obtain ⟨its,r',pl,hz⟩:=I.list hq;have hlen:=r'.length;refine call_tuple_list pl.isList (fun h' kp=>?_) (by simp only [ak]<;>omega);have I1:Inv X pins σ H {s with heap:=h'}:=I.kept (t':=s.toks) kp;have I2:Inv X pins σ (upd H h'.objs.size (.tup ys)) {s with heap:=h'.push {cls:=.type "tuple",data:=.seq its.toArray}} :=
   I1.laid (t':=s.toks) (fun b o e=>aj _ e) (ar _) (show ObjOk X.prog X.w _ _ _ (.tup ys) from ⟨hz,its,r',IsTup.new _ _⟩)
  exact ⟨.ref h'.objs.size,_,I2,rfl,q _ (I1.hok.fresh (ar _))⟩
 ·obtain ⟨its,r',pl,hz⟩:=I.tuple hq;exact call_tuple_same pl ⟨.ref p,H,I,rfl,q⟩
def wH (K:PySem.W.Frag) (T:String) (x:V) (H:Hp):Prop:=match x with
 |.str _=>T="str"
 |.int _=>T="int"
 |.ref p=>(T="list"∧∃xs,SqL K H p xs)∨(T="tuple"∧∃o,K.lookup p=some o∧o.cls=.type "tuple"∧o.dict=none)∨
   (T="dict"∧((∃kvs,H p=some (.dK kvs))∨∃kvs,H p=some (.dT kvs)))∨(T="set"∧∃S n,H p=some (.set S n))
 |_=>False
theorem EG {pins:List (Addr×Obj)} {σ:St} {H:Hp} {s:Shared} {T:String} {x:V} {v:Value} (I:Inv X pins σ H s) (r:RelV x v) (ty:wH X.K T x H) :
  s.TypeIs v T∧∀a,v=.ref a→∃ob,s.heap.get? a=some ob∧ob.dict=none:=by
 cases x with
 |str z =>
  obtain ⟨t,rfl⟩:=r;cases (show T="str" from ty);exact ⟨typeIs_str s z t,fun _ e=>nomatch e⟩
 |int i =>
  obtain ⟨t,rfl⟩:=r;cases (show T="int" from ty);exact ⟨typeIs_int s i t,fun _ e=>nomatch e⟩
 |ref p =>
  cases r
  rcases ty with ⟨rfl,xs,hq⟩|⟨rfl,o,hk,hc,hd⟩|⟨rfl,hk⟩|⟨rfl,S,n,hk⟩
  ·obtain ⟨its,_,pl,_⟩:=I.list hq;refine ⟨pl.isList.typeIs,fun a e=>?_⟩;cases e;obtain ⟨o,n,e,c,hd,_⟩:=pl;exact ⟨o,e,hd⟩
  ·refine ⟨⟨o,I.kIn p o hk,hc⟩,fun a e=>?_⟩;cases e;exact ⟨o,I.kIn _ o hk,hd⟩
  ·have z:∃o,s.heap.get? p=some o∧o.ExactDict:=by
    rcases hk with ⟨kvs,hk⟩|⟨kvs,hk⟩
    ·obtain ⟨_,_,_,_,o,_,_,e,ex,_⟩:=I.hok p _ hk;exact ⟨o,e,ex⟩
    ·obtain ⟨_,_,_,_,o,_,_,e,ex,_⟩:=I.hok p _ hk;exact ⟨o,e,ex⟩
   obtain ⟨o,e,ex⟩:=z;refine ⟨⟨o,e,ex.1⟩,fun a e2=>?_⟩;cases e2;exact ⟨o,e,ex.2.1⟩
  ·obtain ⟨o,_,_,_,e,ex,_⟩:=I.hok p _ hk;refine ⟨⟨o,e,ex.1⟩,fun a e2=>?_⟩;cases e2;exact ⟨o,e,ex.2.1⟩
 |_=>exact False.elim ty
def V1 (K:PySem.W.Frag) (T:String) (r:V→List V→Hp→VK→Prop) (to:TE):TE:=fun σ H Q=>to σ H fun x H1=>wH K T x H1∧r x [] H1 Q
def WV (K:PySem.W.Frag) (T:String) (r:V→List V→Hp→VK→Prop) (to:TE) (t:TA):TE:=fun σ H Q=>to σ H fun x H1=>wH K T x H1∧t σ H1 fun xs H2=>r x xs H2 Q
variable {o e:Expr} {es:List Expr} {to:TE} {t:TA} {name:Str} {apos cpos:Pos} {T id:String} {r:V→List V→Hp→VK→Prop}
theorem T1 (pa:PlainAttrs T) (slot:Slot T name id) (hty:typeOf (.builtin id)=pure (.type "method_descriptor")) (hm:wQ X id r) (ho:PE X o to)
  (hbase:attributeBase o name X.env (eval o X.env)=eval o X.env:=by rfl) (hline:(apos.endLine == cpos.line)=true:=by rfl):PE X (.Call (.Attribute o name apos) [] [] cpos) (V1 X.K T r to):=by
 intro pins s σ H Q I h;refine wpAny_Call_method0_late hbase hline (jN (ho pins s σ H _ I h) fun v s1 ⟨x,H1,I1,r1,ty,q1⟩=>?_);obtain ⟨h1,h2⟩:=EG I1 r1 ty;exact ⟨T,id,pa,slot,hty,h1,h2,Calls.callWith_builtin rfl (PySem.evalArgs_none (hm pins s1 σ H1 x [] v [] Q I1 r1 .nil q1))⟩
theorem QX (pa:PlainAttrs T) (slot:Slot T name id) (hty:typeOf (.builtin id)=pure (.type "method_descriptor")) (hm:wQ X id r) (ho:PE X o to) (ha:PA X (e::es) t)
  (hbase:attributeBase o name X.env (eval o X.env)=eval o X.env:=by rfl)
  (hfew:((backTo cpos (starEach (e::es) X.env)).all (fun x => !x.1)&&(backToKw cpos (keywordEach [] X.env)).all (fun x=>x.1.isSome)
   && decide ((e::es).length+([]:List Keyword).length+(if ([]:List Keyword).isEmpty then 0 else 1)<30))=true:=by rfl)
  (hline:(apos.endLine == cpos.line)=true:=by rfl) (hs:starEach (e::es) X.env=(false,eval e X.env)::starEach es X.env:=by rfl) (hplain:(backTo cpos (starEach es X.env)).any (·.1)=false:=by rfl) :
  PE X (.Call (.Attribute o name apos) (e::es) [] cpos) (WV X.K T r to t):=by
 intro pins s σ H Q I h;refine wpAny_Call_method_late hbase hfew hline rfl (jN (ho pins s σ H _ I h) fun v s1 ⟨x,H1,I1,r1,ty,q1⟩=>?_);obtain ⟨h1,h2⟩:=EG I1 r1 ty;refine ⟨T,id,pa,slot,hty,h1,h2,?_⟩;have hA:=ha cpos pins s1 σ H1 _ I1 q1;rw [hs] at hA ⊢;refine Calls.callWith_builtin (by show (false||(backTo cpos (starEach es X.env)).any (·.1))=false;rw [hplain]<;>rfl) (Calls.evalArgs_plain ?_);exact jN hA fun us s2 ⟨vs,H2,I2,r2,q2⟩=>hm pins s2 σ H2 x vs v us Q I2 r1 r2 q2
/- xs.append(e),list.index on a module's tuple .. are wQ facts of 06m -/
end
end L2
namespace L2
open PySem PySem.Spec PyProof.Rows
def wR (X:Cx) (id:String) (r:V→List V→Hp→VK→Prop):Prop :=
 ∀(pins:List (Addr×Obj)) (s:Shared) (σ:St) (H:Hp) (x:V) (xs:List V) (v:Value) (us:List Value) (Q:VK),Inv X pins σ H s→RelV x v→Vals xs us→r x xs H Q→
  wpAny (model X.prog X.w) X.A (call (.builtin id) (v::us)) (EP X pins σ Q) X.xe s
theorem Vals.one:∀{x:V} {us:List Value},Vals [x] us→∃u,us=[u]∧RelV x u
 |_,_,.cons r .nil=>⟨_,rfl,r⟩
theorem Vals.zero:∀{us:List Value},Vals [] us→us=[]
 |_,.nil=>rfl
theorem Vals.reverse {xs:List V} {us:List Value} (h:Vals xs us):Vals xs.reverse us.reverse:=by
 induction h with
 |nil=>exact .nil
 |cons r t ih=>rw [List.reverse_cons,List.reverse_cons];exact Vals.append ih (.cons r .nil)
theorem Vals.rep {xs:List V} {us:List Value} (h:Vals xs us):∀k:Nat,Vals (List.replicate k xs).flatten (List.replicate k us).flatten
 |0=>.nil
 |k+1=>by
  rw [dk,dk,gm,gm];exact Vals.append h (Vals.rep h k)
theorem BF (its:List Value):∀(k:Nat) (acc:List Value),
  List.foldl (fun x1 x2=>x1++x2) acc.toArray (List.replicate k its.toArray)=(acc++(List.replicate k its).flatten).toArray
 |0,acc=>by simp
 |k+1,acc=>by
  have e:acc.toArray++its.toArray=(acc++its).toArray:=by simp
  have e2:(acc++its)++(List.replicate k its).flatten=acc++(List.replicate (k+1) its).flatten:=by
   rw [dk,gm,iu]
  rw [← e2,← BF its k (acc++its),← e,dk,List.foldl_cons]
section
variable {X:Cx} {pins:List (Addr×Obj)} {σ:St} {H:Hp} {s:Shared} {l b:Addr} {xs ys zs:List V}
theorem Inv.lset {its its':List Value} {n:Nat} {f:Array Value→Array Value} {t':Nat} (I:Inv X pins σ H s) (hH:H l=some (.lst xs))
  (e:s.heap.get? l=some {cls:=.type "list",data:=.seq its.toArray n}) (hf:f its.toArray=its'.toArray) (hv:Vals ys its') (hz:ys.length≤sizeLine) :
  Inv X pins σ (upd H l (.lst ys)) {s with heap:=s.heap.update l (Obj.mapSeq f),toks:=t'}:=by
 have q:=PySem.IsL.update e f;rw [hf] at q;refine I.write (x:=l) (e:=l) (by rw [hH];exact trivial) (.inl rfl) (fun b' u hb hu=>(io s.heap (Obj.mapSeq f) (Ne.symm hb)).trans hu) ⟨_,q⟩ ?_;exact ⟨hz,its',_,hv,q⟩
theorem Inv.lnew {its:List Value} {t':Nat} (I:Inv X pins σ H s) (hv:Vals ys its) (hz:ys.length≤sizeLine) :
  Inv X pins σ (upd H s.heap.objs.size (.lst ys)) {s with heap:=s.heap.push {cls:=.type "list",data:=.seq its.toArray},toks:=t'} :=
 I.laid (fun _ _ q=>aj _ q) (ar _) ⟨hz,its,0,hv,az _ rfl⟩
theorem Inv.fresh (I:Inv X pins σ H s):H s.heap.objs.size=none:=I.hok.fresh (ar _)
theorem Inv.lstM (I:Inv X pins σ H s) (hH:H l=some (.lst xs)):xs.length≤sizeLine∧∃(its:List Value) (n:Nat),Vals xs its∧xs.length=its.length∧s.heap.get? l=some {cls:=.type "list",data:=.seq its.toArray n}:=by
 obtain ⟨z,its,n,r,e⟩:=I.hok l _ hH;exact ⟨z,its,n,r,r.length,e⟩
theorem P5 {n:Nat} (h:n≤sizeLine):Builtin.List.listTooLong n=false:=by
 unfold Builtin.List.listTooLong;exact aI (by omega)
end
section
variable {X:Cx}
def SG:V→List V→Hp→VK→Prop:=fun x vs H Q=>∃l xs y,x=.ref l∧vs=[y]∧H l=some (.lst xs)∧xs.length<sizeLine∧Q .non (upd H l (.lst (xs++[y])))
theorem QK:wR X "list.append" SG:=by
 intro pins s σ H x vs v us Q I rx rv h;obtain ⟨l,xs,y,rfl,rfl,hH,hz,q⟩:=h;cases rx;obtain ⟨u,rfl,ru⟩:=rv.one;obtain ⟨z,its,n,r,hl,e⟩:=I.lstM hH;refine call_meets F.slot_list_append ⟨_,e,rfl⟩ F.entry_list_append (F.args_list_append_2 _ _) (PySem.list_append l its.toArray n u (by rw [ak];omega)) ⟨e,?_⟩;refine ⟨.non,_,I.lset (its':=its++[u]) hH e (by simp) (r.append (.cons ru .nil)) ?_,rfl,q⟩;rw [ag,aN];omega
def TU:V→List V→Hp→VK→Prop:=fun x vs H Q=>∃l xs,x=.ref l∧vs=[]∧H l=some (.lst xs)∧Q .non (upd H l (.lst []))
theorem RE:wR X "list.clear" TU:=by
 intro pins s σ H x vs v us Q I rx rv h;obtain ⟨l,xs,rfl,rfl,hH,q⟩:=h;cases rx;have hus:=rv.zero;subst hus;obtain ⟨z,its,n,r,hl,e⟩:=I.lstM hH;refine call_meets F.slot_list_clear ⟨_,e,rfl⟩ F.entry_list_clear (F.args_list_clear_1 _) (AutoSeq1.list_clear_list_0 l its.toArray n (by rw [ak];omega)) ⟨e,?_⟩;exact ⟨.non,_,I.lset (its':=[]) (ys:=[]) hH e rfl .nil (aY _),rfl,q⟩
def WB:R2:=fun x y H Q=>∃l b xs zs,x=.ref l∧y=.ref b∧H l=some (.lst xs)∧H b=some (.lst zs)∧xs.length+zs.length≤sizeLine∧∀p,H p=none→Q (.ref p) (upd H p (.lst (xs++zs)))
theorem ZU:qT X (binaryOp .Add) WB:=by
 intro pins s σ H x y v u Q I rx ry h;obtain ⟨l,b,xs,zs,rfl,rfl,hH,hB,hz,q⟩:=h;cases rx;cases ry;obtain ⟨z,its,n,r,hl,e⟩:=I.lstM hH;obtain ⟨z2,its2,n2,r2,hl2,e2⟩:=I.lstM hB;refine PySem.P.add_list e e2 ?_ (by rw [ak,ak];omega);have ea:its.toArray++its2.toArray=(its++its2).toArray:=by simp
 rw [ea];exact ⟨.ref _,_,I.lnew (t':=s.toks) (r.append r2) (by rw [ag];omega),rfl,q _ I.fresh⟩
def V5:R2:=fun x y H Q=>∃l k xs,x=.ref l∧y=.int k∧H l=some (.lst xs)∧-(2 ^ 63)≤k∧k<2 ^ 63∧xs.length*k.toNat≤sizeLine∧
 ∀p,H p=none→Q (.ref p) (upd H p (.lst (List.replicate k.toNat xs).flatten))
theorem SX {α:Type} (xs:List α) (k:Nat):(List.replicate k xs).flatten.length=k*xs.length:=by
 induction k with
 |zero=>simp
 |succ k ih=>rw [dk,gm,ag,ih,Nat.succ_mul,Nat.add_comm]
theorem EY:qT X (binaryOp .Mult) V5:=by
 intro pins s σ H x y v u Q I rx ry h;obtain ⟨l,k,xs,rfl,rfl,hH,h1,h2,hz,q⟩:=h;cases rx;obtain ⟨t,rfl⟩:=ry;obtain ⟨z,its,n,r,hl,e⟩:=I.lstM hH;have hlen:its.toArray.size*k.toNat≤sizeLine:=by rw [ak,← hl];exact hz
 have hcap:¬its.toArray.size*k.toNat>(2 ^ 63 - 1) / 8:=by
  have:(sizeLine:Nat)≤(2 ^ 63 - 1) / 8:=by decide
  omega
 have hfit:¬(!Builtin.List.listFitsIndex k)=true:=by
  rw [fitsIndex_both h1 h2];exact aD
 have hlong:¬Builtin.List.listTooLong (its.toArray.size*k.toNat)=true:=by
  rw [P5 hlen];exact aD
 have hnew:List.foldl (fun x1 x2=>x1++x2) #[] (List.replicate (if its.toArray.isEmpty=true then 0 else k.toNat) its.toArray)=(List.replicate k.toNat its).flatten.toArray:=by
  have f0:∀m:Nat,List.foldl (fun x1 x2=>x1++x2) #[] (List.replicate m its.toArray)=(List.replicate m its).flatten.toArray:=fun m=>by
   have:=BF its m [];rw [List.nil_append] at this;exact this
  rw [f0];cases its with
  |nil=>simp
  |cons a r'=>rw [if_neg (by simp)]
 refine wpAny_binaryOp_repeat_ref (T:="list") (U:="int") (by decide) ⟨_,e,rfl⟩ (fun s'=>typeIs_int s' k t) noFill_list_mul F.fills_int_mul F.slot_int_rmul repeat_list F.slot_int_index.lookup
  (call_meets F.slot_int_rmul (typeIs_int s k t) F.entry_int_rmul (F.args_int_rmul_2 _ _) (int___rmul___int_list k t l its.toArray n)
   ⟨e,rfl,⟨_,e,rfl⟩,call_meets F.slot_list_mul ⟨_,e,rfl⟩ F.entry_list_mul (F.args_list_mul_2 _ _) (AutoListH.list___mul___list_int_3 l its.toArray n k t hfit hcap hlong) ⟨e,?_⟩⟩)
 rw [hnew];exact ⟨.ref _,_,I.lnew (t':=s.toks) (r.rep k.toNat) (by rw [SX,Nat.mul_comm];exact hz),rfl,q _ I.fresh⟩
end
section
variable {prog:Program} {w:World} {A:Around} {E:Value→Shared→Prop} {s:Shared}
end
section
variable {X:Cx}
end
end L2
namespace Att
open PySem PySem.W PySem.Calls PyProof.Rows
theorem MM {P:Params} {h:Heap}:∀(ns:List Int) (vs:List Value),WellAll P h vs (ns.map WData.int)→IntsAre vs ns:=by
 intro ns
 induction ns with
 |nil =>
  intro vs w;rw [List.map_nil] at w;cases w;exact .nil
 |cons n ns ih =>
  intro vs w;rw [List.map_cons] at w;cases w with
  |cons a b =>
   cases a;exact .cons _ _ (ih _ b)
theorem ON {l:OpenLaw} {n:Nat} (hn:l.most=some n) {P:Params} {h:Heap} {args:List WData} {vals:List Value}
  (hpre:l.row.toRowW.claim.pre args=true) (hwl:WellAll P h vals args) :
  ∃a vs ns,vals=[Value.ref a]∧args=[WData.list (ns.map WData.int)]∧h.get? a=some {cls:=.type "list",data:=.seq vs.toArray}∧IntsAre vs ns∧ns.length≤n:=by
 have hsh:WShape.hasAll [] args [.list .int]=true:=(pre_splitW hpre).1;have hc:l.pre.holds [] {args:=args}=true:=(pre_splitW hpre).2;obtain ⟨d,r,rfl,h1,h2⟩:=hasAllW_cons hsh;obtain rfl:=hasAllW_nil h2;obtain ⟨xs,rfl,h3⟩:=hasW_list h1;obtain ⟨ns,rfl⟩:=items_int h3;have hlen:ns.length≤n:=by
  unfold OpenLaw.pre at hc;have h4:(WTm.not (.lt (.lit (.int (n:Int))) (.len (.arg 0)))).holds [] {args:=[.list (ns.map .int)]}=true:=by
   have h4:=(holds_andW hc).1;rw [hn] at h4;exact h4
  have h5:=condW_of h4 (w_not (w_lt w_lit (w_len_list (w_arg rfl))));rw [List.length_map] at h5;refine Nat.le_of_not_lt fun q=>?_
  have q':(n:Int)<((ns.length:Nat):Int):=by omega
  first
   | (rw [decide_eq_true q'] at h5;exact absurd h5 (by decide))
   | (simp at h5;omega)
 cases hwl with
 |cons w1 w2 =>
  cases w2;cases w1 with
  |list ho hall=>exact ⟨_,_,ns,rfl,rfl,ho,MM ns _ hall,hlen⟩
theorem OQ (l:OpenLaw) (args:List WData):l.row.toRowW.claim.post args (.bool true) args=true :=
 postW_of (r:=l.row.toRowW) (X:=(true == true))
  (show WShape.has [] (.bool true) .bool=true by first|rfl|decide|simp [WShape.has,WShape.arms,WShape.armsAll])
  (show (WTm.eq .res (.lit (.bool true))).value [] {args:=args,res:=some (.bool true),after:=args}=some (.bool (true == true)) from w_eq_bool (w_res rfl) w_lit) rfl
theorem attach_call {l:OpenLaw} {n:Nat} {q:Program} {loose:List Str} {XP:(Str→Option Value)→Heap→Prop} {YP:World→Heap→Prop} {d:DefRec}
  (hn:l.most=some n) (hdf:d.params.defaults=[])
  (call:∀(w:World) (s₀ s₁:Shared) (mg mb:Str→Option Value) (fa:Addr) (o:Obj) (pm cd doc:Value) (a:Addr) (vs:List Value) (ns:List Int),
   Ground q loose [] XP w s₀ mg mb s₁.heap→YP w s₁.heap→
   s₁.heap.get? fa=some o→o.data=.func (docDef d.name d.params d.body d.scope pm cd doc)→s₁.heap.CodeRec cd d.name→mg d.name=some (.ref fa)→
   s₁.heap.get? a=some {cls:=.type "list",data:=.seq vs.toArray}→IntsAre vs ns→ns.length≤n→s₁.gens = #[]→
   codeAny (model l.prog w) callerA (.call (.ref fa) ⟨[.ref a],[]⟩) (fun r s'=>r=.ok (.ret (.bool true))∧OldK s₁.heap s'.heap∧s'.os=s₁.os∧AllBare s'.gens) s₁) :
  WalkO q loose XP YP l.row.toRowW d [] (fun f vs=>PySem.call f vs):=by
 intro w s₀ s₁ mg mb G Y fa o pm cd doc dV kV ho hd hcd hD hmg hg args vals as hpre hlay hrd hwl hlo;obtain rfl:dV=.none:=Dflts.none hD hdf;obtain rfl:kV=.none:=Dflts.noKw hD;obtain ⟨a,vs,ns,rfl,rfl,hobj,hints,hlen⟩:=ON hn hpre hwl;refine enter_call (codeAny_mono (call w s₀ s₁ mg mb fa o pm cd doc a vs ns G Y ho (fd_plain hd) hcd hmg hobj hints hlen hg) fun r s' hq=>?_);obtain ⟨rfl,h2,h3,h4⟩:=hq;exact ⟨.inl ⟨.bool true,.bool true,[],rfl,fun _=>rfl,.bool true,OQ l _,fun _=>⟨List.Pairwise.nil,fun _ hm=>(nomatch hm)⟩⟩,h2,h3,h4⟩
section
variable {prog:Program} {w:World} {A:Around} {E:Value→Shared→Prop} {s:Shared} {K:Frag}
def W5 (h:Heap) (L d:Addr):List (Addr×Obj):=(List.range h.objs.size).filterMap fun a=>if a=L∨a=d then none else (h.get? a).map fun o=>(a,o)
end
end Att
namespace L2
open PySem PySem.Spec PyProof.Rows
theorem AK:∀{vs:List Value} {ns:List Int},IntsAre vs ns→Vals (ns.map V.int) vs
 |_,_,.nil=>.nil
 |_,_,.cons n t h=>.cons ⟨t,rfl⟩ (AK h)
def vO (s:Stmt) (j:Nat):Stmt:=match s with
 |.ClassDef _ _ _ body _ _ _ _ _ _ _=>body.getD j (.Pass ⟨0,0,0,0⟩)
 |_=>.Pass ⟨0,0,0,0⟩
def kN (s:Stmt):Arguments:=match s with
 |.FunctionDef _ a _ _ _ _ _ _ _ _=>a
 |_=>{posonlyargs:=[],args:=[],vararg:=none,kwonlyargs:=[],kw_defaults:=[],kwarg:=none,defaults:=[]}
def kD (s:Stmt):List Stmt:=match s with
 |.FunctionDef _ _ b _ _ _ _ _ _ _=>b
 |_=>[]
def jM (s:Stmt):Scope:=match s with
 |.FunctionDef _ _ _ _ _ _ sc _ _ _=>sc
 |_=>{kind:=.function,names:=[],isGenerator:=false,isCoroutine:=false}
abbrev jK:vS:=fun _ _ _ _ _ _=>False
abbrev E0:XK:=fun _ _ _=>False
theorem zW {X:Cx}:ZX jK X E0:=fun _ _ _ _ _ _ _ h=>h.elim
structure Fun (K:PySem.W.Frag) (x qual:Str) (st:Stmt) (f:Addr) (fd:FuncData):Prop where
 ex:∃(oc:Value) (od:Option Addr) (kV doc pm:Value) (an:Option Addr) (cdv ct:Value) (osl:Array (Option Value)),
  fd=PySem.W.fnOf x qual (kN st) (kD st) (jM st) .none kV doc pm an cdv ct∧K.lookup f=some ⟨oc,od,.func fd,osl⟩∧PySem.W.codeIn K cdv qual=true
 kp:PySem.W.keepIn K (.ref f)=true
section
variable {P:Program} {w:World} {K:PySem.W.Frag} {mg:Str→Option Value} {base:Heap}
theorem Fun.ok {x qual:Str} {st:Stmt} {f:Addr} {fd:FuncData} {N ps:List Str} {k:Nat} {sp:Sp} (F:Fun K x qual st f fd) (S:FnScope N ps (jM st)) (len:∀vs H Q E,sp vs H Q E→vs.length=ps.length)
  (hbody:∀(cdv:Value) (A:Around) (outer:List Env) (s:Shared) (H:Hp) (vs:List V) (Q:VK) (E:XK),Room k (A.deeper (envOfC qual (jM st) s.heap.objs.size f cdv))→sp vs H Q E→
   ∃t,PSs (vR jK P w K mg base N qual (jM st) f cdv A outer s H E).nox (kD st) t∧t {nx:=fun _ H'=>Q .non H',rt:=Q} (start N vs) H):FnOk P w K mg base jK (k+1) f fd ps sp:=by
 obtain ⟨oc,od,kV,doc,pm,an,cdv,ct,osl,rfl,lk,hcd⟩:=F.ex;refine mR lk hcd S len fun A outer s H vs Q E hr hsp=>?_
 obtain ⟨t,h,q⟩:=hbody cdv A outer s H vs Q E hr hsp;exact ⟨t,h.nox,q⟩
theorem Fun.binds {x qual:Str} {st:Stmt} {f:Addr} {fd:FuncData} {ps:List Str} (F:Fun K x qual st f fd)
  (h:∀(kV doc pm:Value) (an:Option Addr) (cdv ct:Value) (us:List Value),us.length=ps.length→bindArgs (PySem.W.fnOf x qual (kN st) (kD st) (jM st) .none kV doc pm an cdv ct) ⟨us,[]⟩=pure (ps.zip us)):Binds K fd ps []:=by
 obtain ⟨oc,od,kV,doc,pm,an,cdv,ct,osl,rfl,lk,hcd⟩:=F.ex;exact .all (h kV doc pm an cdv ct)
theorem cV {x qual:Str} {st:Stmt} {f:Addr} {oc:Value} {od an:Option Addr} {osl:Array (Option Value)} {kV doc pm cdv ct:Value} (l:K.lookup f=some ⟨oc,od,.func (PySem.W.fnOf x qual (kN st) (kD st) (jM st) .none kV doc pm an cdv ct),osl⟩)
  (c:PySem.W.codeIn K cdv qual=true) (k:PySem.W.keepIn K (.ref f)=true):Fun K x qual st f (PySem.W.fnOf x qual (kN st) (kD st) (jM st) .none kV doc pm an cdv ct):=⟨⟨oc,od,kV,doc,pm,an,cdv,ct,osl,rfl,l,c⟩,k⟩
end
theorem d9 {A:Around} {k:Nat} (hr:Room k A):A.units+1<cLine:=Nat.lt_of_le_of_lt (gv (by decide:1≤64) _) hr.units
theorem yN {n:Nat} (h:n≤1000):n<sizeLine:=Nat.lt_of_le_of_lt h (by decide)
section
variable {X:Cx}
theorem pv (i:Nat) {x:Str} {pos:Pos} (hN:X.N[i]?=some x:=by rfl) (hv:eN X.env.scope x:=by first|exact Or.inl rfl|exact Or.inr (Or.inl rfl)|exact Or.inr (Or.inr rfl)) (hd:(x == ("__debug__":Str))=false:=by decide)
  (hcd:(x == ("__classdict__":Str))=false:=by decide):PE X (.Name x pos) (FN i):=uB hN hv hd hcd
end
variable {A B:Prop}
theorem kY (h:B):if false=true then A else B:=by
 rw [if_neg aD];exact h
theorem kU (h:A):if true=true then A else B:=by
 rw [if_pos rfl];exact h
theorem cI {c:Prop} [Decidable c] (h1:c→A) (h2:¬c→B):if c then A else B:=by
 by_cases h:c
 ·rw [if_pos h];exact h1 h
 ·rw [if_neg h];exact h2 h
theorem y9 {c:Prop} [Decidable c] (hc:c) (h:B):if (!decide c)=true then A else B:=by
 rw [aK hc];exact kY h
def Same (H H':Hp):Prop:=∀b o,H b=some o→H' b=some o
theorem Same.refl (H:Hp):Same H H:=fun _ _ h=>h
variable {H:Hp}
theorem Same.trans {H1 H2:Hp} (a:Same H H1) (b:Same H1 H2):Same H H2:=fun c o h=>b c o (a c o h)
theorem Same.free {H':Hp} (e:Same H H') {l:Addr} (h:H' l=Option.none):H l=Option.none:=by
 cases q:H l with
 |none=>rfl
 |some o =>
  rw [e l o q] at h;cases h
theorem Same.seq {K:PySem.W.Frag} {H':Hp} {a:Addr} {xs:List V} (e:Same H H') (h:SqL K H a xs):SqL K H' a xs:=by
 rcases h with (h|⟨o,h⟩)|h
 ·exact .inl (.inl (e _ _ h))
 ·exact .inl (.inr ⟨o,e _ _ h⟩)
 ·exact .inr h
end L2
namespace L2
open PySem PySem.Spec PyProof.Rows
def yO (cells:List (Str×Addr)):List (Str×NameKind)→List (Str×Addr)→List (Str×Addr)
 |[],cs=>cs
 | (n,k)::r,cs=>if (k == NameKind.free)=true then yO cells r ((n,(cells.lookup n).getD 0)::cs) else yO cells r cs
variable {scope:Scope}
theorem xD {env:Env} (h:∀x∈scope.names,x.2=.free→∃c,env.cells.lookup x.1=some c):closureFor scope env=pure (yO env.cells scope.names []):=by
 simp only [closureFor];have go:∀(l:List (Str×NameKind)) (cs:List (Str×Addr)),(∀x∈l,x.2=.free→∃c,env.cells.lookup x.1=some c)→
   (forIn l cs fun x r=>match x with|(name,kind)=>if (kind == NameKind.free)=true then do let a ← cellOf env name;pure (ForInStep.yield ((name,a)::r)) else pure (ForInStep.yield r):Sem (List (Str×Addr)))=pure (yO env.cells l cs):=by
  intro l
  induction l with
  |nil=>intro cs _;rfl
  |cons p r ih =>
   intro cs hp;obtain ⟨n,k⟩:=p;rw [gk];have hr:=fun cs=>ih cs fun x hx=>hp x (ay _ hx)
   by_cases hk:(k == NameKind.free)=true
   ·have hk':k=NameKind.free:=by simpa using hk
    obtain ⟨c,hc⟩:=hp (n,k) aH hk';have hc':env.cells.lookup n=some c:=hc;simp only [hk,if_true,yO,cellOf,hc',Option.getD_some,pure_bind];exact hr _
   ·simp only [hk,if_false,yO,pure_bind];exact hr _
 rw [go scope.names [] h];rfl
theorem i0 {cells:List (Str×Addr)}:∀{l:List (Str×NameKind)} {cs:List (Str×Addr)} {x:Str} {c:Addr},(∀y∈l,y.2=.free→∃c,cells.lookup y.1=some c)→(∀y d,cs.lookup y=some d→cells.lookup y=some d)→
  (yO cells l cs).lookup x=some c→cells.lookup x=some c
 |[],cs,x,c,_,hc,e=>hc x c e
 | (n,k)::r,cs,x,c,hl,hc,e=>by
  unfold yO at e
  by_cases hk:(k == NameKind.free)=true
  ·rw [if_pos hk] at e;obtain ⟨d,hd⟩:=hl (n,k) aH (by simpa using hk);have hd':cells.lookup n=some d:=hd;refine i0 (fun y hy=>hl y (ay _ hy)) (fun y d' q=>?_) e;rw [aS] at q
   by_cases hy:(y == n)=true
   ·rw [hy] at q;have hyn:y=n:=by simpa using hy
    subst hyn;rw [hd'] at q ⊢;exact q
   ·rw [Bool.not_eq_true] at hy;rw [hy] at q;exact hc y d' q
  ·rw [if_neg hk] at e;exact i0 (fun y hy=>hl y (ay _ hy)) hc e
theorem rG {cells:List (Str×Addr)}:∀{l:List (Str×NameKind)} {cs:List (Str×Addr)} {x:Str},(∃c,cs.lookup x=some c)→∃c,(yO cells l cs).lookup x=some c
 |[],_,_,h=>h
 | (n,k)::r,cs,x,h=>by
  unfold yO
  by_cases hk:(k == NameKind.free)=true
  ·rw [if_pos hk];refine rG ?_;rw [aS]
   by_cases hy:(x == n)=true
   ·rw [hy];exact ⟨_,rfl⟩
   ·rw [Bool.not_eq_true] at hy;rw [hy];exact h
  ·rw [if_neg hk];exact rG h
theorem i7 {cells:List (Str×Addr)}:∀{l:List (Str×NameKind)} {cs:List (Str×Addr)} {x:Str},(x,NameKind.free)∈l→∃c,(yO cells l cs).lookup x=some c
 | (n,k)::r,cs,x,h=>by
  unfold yO
  rcases ax.mp h with e|e
  ·cases e;rw [if_pos (by rfl)];exact rG (by rw [aS,ci];exact ⟨_,rfl⟩)
  ·by_cases hk:(k == NameKind.free)=true
   ·rw [if_pos hk];exact i7 e
   ·rw [if_neg hk];exact i7 e
def vI (X:Cx) (N:List Str) (scope:Scope) (C:Addr) (s:Shared) (H:Hp) (pins:List (Addr×Obj)) (fp:List Addr):Cx where
 prog:=X.prog
 w:=X.w
 K:=X.K
 mg:=X.mg
 base:=X.base
 A:=X.A
 N:=N
 s₀:=s
 H₀:=H
 env:=compEnvC scope (yO X.env.cells scope.names []) C X.env
 outer:=X.stack
 stack:=X.stack
 ex:=fp
 fn:=fun _=>false
 calm:=X.calm
 pn:=X.pn++pins
 xe:=fun _ _=>False
structure CompScope (X:Cx) (scope:Scope):Prop where
 kind:scope.kind=.function
 nocell:∀y∈scope.names,y.2≠.cell
 names:∀y∈scope.names,y.2=.local→scope.names.lookup y.1=some .local
 free:∀y∈scope.names,y.2=.free→X.env.kindOf y.1=some .cell∨X.env.kindOf y.1=some .free
theorem pV {env:Env} {x:Str}:∀{names:List (Str×NameKind)} {k:NameKind},(names.map fun (n,k)=>if (k == NameKind.free&&env.scope.kind == .function&&env.kindOf n == some .cell) then (n,NameKind.cell) else (n,k)).lookup x=some k→
  ∃k',names.lookup x=some k'∧(k'=k∨(k'=.free∧k=.cell∧env.kindOf x=some .cell))
 |[],k,h=>by simp at h
 | (n,k0)::r,k,h=>by
  have ih:=@pV env x r k;have h':List.lookup x ((if (k0 == NameKind.free&&env.scope.kind == .function&&env.kindOf n == some .cell)=true then (n,NameKind.cell) else (n,k0))::r.map fun (n,k)=>if (k == NameKind.free&&env.scope.kind == .function&&env.kindOf n == some .cell)=true then (n,NameKind.cell) else (n,k))=some k:=h
  by_cases hc:(k0 == NameKind.free&&env.scope.kind == .function&&env.kindOf n == some .cell)=true
  ·rw [if_pos hc] at h';rw [aS] at h';cases hx:x == n with
   |true =>
    rw [hx] at h';have hk:NameKind.cell=k:=aE h';simp only [gb,iq] at hc;have hxn:x=n:=by simpa using hx
    refine ⟨k0,by rw [aS,hx],.inr ⟨hc.1.1,hk.symm,by rw [hxn];exact hc.2⟩⟩
   |false =>
    rw [hx] at h';obtain ⟨k',e1,e2⟩:=ih h';exact ⟨k',by rw [aS,hx];exact e1,e2⟩
  ·rw [if_neg hc] at h';rw [aS] at h';cases hx:x == n with
   |true =>
    rw [hx] at h';exact ⟨k0,by rw [aS,hx],.inl (aE h')⟩
   |false =>
    rw [hx] at h';obtain ⟨k',e1,e2⟩:=ih h';exact ⟨k',by rw [aS,hx];exact e1,e2⟩
theorem rC {α:Type}:∀{l:List (Str×α)} {x:Str} {k:α},l.lookup x=some k→(x,k)∈l
 |[],_,_,h=>by simp at h
 | (n,a)::r,x,k,h=>by
  rw [aS] at h;cases hx:x == n with
  |true =>
   rw [hx] at h;have e:a=k:=aE h;have hxn:x=n:=by simpa using hx
   subst e;subst hxn
   exact aH
  |false =>
   rw [hx] at h;exact ay _ (rC h)
def eO (X:Cx) (ifs:List Expr) (t:TT):Prop :=
 ∀(pins:List (Addr×Obj)) (s:Shared) (σ:St) (H:Hp) (Q:Bool→Hp→Prop),Inv X pins σ H s→t σ H Q→
  wpAny (model X.prog X.w) X.A (forIn ifs true fun c r=>if r=true then do let ok ← isTrue c X.env (eval c X.env);pure (ForInStep.yield ok) else pure (ForInStep.yield r)) (TP X pins σ Q) X.xe s
def uU:TT:=fun _ H Q=>Q true H
variable {X:Cx}
theorem zF:eO X [] uU:=fun _ _ _ H _ I h=>wpAny_tests_nil ⟨H,I,h⟩
theorem JN {c:Expr} {t:TT} (hc:PT X c t):eO X [c] t:=fun pins s σ H Q I h=>wpAny_tests_one (hc pins s σ H Q I h)
def QT (D:Addr) (J:It) (g:TG) (tc:TT) (te:TE) (σ₀:St) (H:Hp) (Q:Hp→Prop):Prop :=
 ∃W:Nat→Nat→St→Hp→Prop,(∃m,W 0 m σ₀ (upd H D (.lst [])))∧∀i m σ' H',W i m σ' H'→
  (J.stop i H'∧Q H')∨(J.go i H'∧∃N:St→Hp→Prop,(∀σ'' H'',N σ'' H''→∃m',m'<m∧W (i+1) m' σ'' H'')∧∀x H2,J.yld i H' x H2→g x σ' H2 fun σ2 H3=>tc σ2 H3 fun b H4 =>
   if b=true then te σ2 H4 fun v H5=>∃xs,H5 D=some (.lst xs)∧xs.length<sizeLine∧N σ2 (upd H5 D (.lst (xs++[v]))) else N σ2 H4)
def uK (wi:TI) (cap:St→St) (g:TG) (tc:TT) (te:TE):TE:=fun σ H Q=>wi σ H fun J H1=>∀D,H1 D=none→QT D J g tc te (cap σ) H1 fun H'=>Q (.ref D) H'
def PN (i:Nat) (wi:TI) (cap:St→St) (g:TG) (tc:TT) (te:TE):TS:=fun D σ H=>wi σ H fun J H1=>∀d,H1 d=none→QT d J g tc te (cap σ) H1 fun H'=>D.nx (σ.set i (some (.ref d))) H'
def Z9 (X:Cx) (N:List Str) (scope:Scope) (cap:St→St):Prop :=
 ∀σ:St,σ.length=X.N.length→(cap σ).length=N.length∧∀(i:Nat) (x:Str) (v:V),N[i]?=some x→(cap σ)[i]?=some (some v)→scope.names.lookup x=some .free∧∃j:Nat,X.N[j]?=some x∧σ[j]?=some (some v)
def q9 (n:Nat) (js:List Nat):St→St:=fun σ=>List.replicate n none++js.map fun j=>(σ[j]?).join
theorem GQ {N:List Str} (n:Nat) (js:List Nat) (h1:N.length=n+js.length) (h2:js.map (fun j=>X.N[j]?)=(N.drop n).map some) (h3:∀x∈N.drop n,scope.names.lookup x=some .free):Z9 X N scope (q9 n js):=by
 intro σ hσ;refine ⟨by unfold q9;rw [ag,eh,ae,h1],fun i x v e1 e2=>?_⟩;unfold q9 at e2
 by_cases hi:i<n
 ·rw [aq (by simpa using hi),ga,if_pos hi] at e2;cases e2
 ·rw [ap (by simpa using hi),eh,av] at e2;cases hj:js[i - n]? with
  |none=>rw [hj] at e2;cases e2
  |some j =>
   rw [hj] at e2;have e3:(σ[j]?).join=some v:=aE e2;have e4:σ[j]?=some (some v):=by
    cases q:σ[j]? with
    |none=>rw [q] at e3;cases e3
    |some o =>
     rw [q] at e3;have e5:o=some v:=e3;rw [e5]
   have hd:(N.drop n)[i - n]?=some x:=by
    rw [List.getElem?_drop,show n+(i - n)=i by omega];exact e1
   have e5:=cp (fun l=>l[i - n]?) h2;simp only [av,hj,hd,Option.map_some] at e5;exact ⟨h3 x (ai hd),j,aE e5,e4⟩
theorem GP (sc:Scope) (hsc:X.env.scope=sc) (kind:scope.kind=.function) (nocell:∀y∈scope.names,y.2≠.cell) (names:∀y∈scope.names,y.2=.local→scope.names.lookup y.1=some .local)
  (free:∀y∈scope.names,y.2=.free→sc.names.lookup y.1=some .cell∨sc.names.lookup y.1=some .free):CompScope X scope:=⟨kind,nocell,names,fun y hy hf=>by
 subst hsc;exact free y hy hf⟩
section
variable {X:Cx} {N:List Str} {scope:Scope} {pins:List (Addr×Obj)} {σ:St} {H:Hp} {s:Shared} {fp:List Addr}
theorem i5 (S:CompScope X scope) (I:Inv X pins σ H s):∀y∈scope.names,y.2=.free→∃c,X.env.cells.lookup y.1=some c:=fun y hy hf=>I.ok.has y.1 (S.free y hy hf)
theorem RS {cap:St→St} {D C:Addr} {h₁:Heap} {t':Nat} {m:Str→Option Value} (S:CompScope X scope) (I:Inv X pins σ H s) (hcap:Z9 X N scope cap) (hf:∀b∈fp,JW X pins H b) (hfo:∀b∈fp,∃o,s.heap.get? b=some o)
  (hD:s.heap.objs.size≤D) (hC:s.heap.objs.size≤C) (hDC:D≠C) (old:∀b o,s.heap.get? b=some o→h₁.get? b=some o) (hns:h₁.Ns C m) (hl:h₁.get? D=some {cls:=.type "list",data:=.seq ([]:List Value).toArray}) :
  Inv (vI X N scope C s H pins fp) [] (cap σ) (upd H D (.lst [])) {s with heap:=h₁,toks:=t'}:=by
 have cellsOk:=i5 S I;have look:∀x c,(yO X.env.cells scope.names []).lookup x=some c→X.env.cells.lookup x=some c:=fun x c e=>i0 cellsOk (fun y d q=>by simp at q) e
 have lt:∀{b:Addr} {o:Obj},s.heap.get? b=some o→b<s.heap.objs.size:=fun e=>au e
 have cellLt:∀x c,X.env.cells.lookup x=some c→c<s.heap.objs.size:=fun x c e=>by
  obtain ⟨v,o,ho,_⟩:=I.cell x c e;exact lt ho
 have nD:H D=none:=I.hok.fresh hD;have nC:H C=none:=I.hok.fresh hC;have stkNe:∀b:Addr,b≠X.env.locals→b∉X.fs→b∉kO X.stack:=fun b h1 h2 z=>by
  rcases ax.mp (I.stkSub b z) with e|e
  ·exact h1 e
  ·exact h2 e
 refine ⟨⟨I.ok.mod,S.kind,I.ok.glob,I.ok.blt,hC,fun x y c h1 h2=>I.ok.inj x y c (look x c h1) (look y c h2),fun x hx=>?_,fun x c hfn _=>(nomatch hfn),I.ok.hd,I.ok.frames,.inl rfl,fun b hb=>⟨?_,fun x c e=>(hf b hb).2.2.2.2.1 x c (look x c e)⟩,
   I.bs,aG I.ok.bsz I.sz,fun b o e hb=>?_,fun b hb=>stkNe b (hf b hb).2.1 (hf b hb).2.2.1,I.stack,I.stkFree⟩,
  rfl,I.bare,Un.laid old hD nD,⟨m,hns,fun i x v h1 h2 h3=>?_⟩,fun x c e=>?_,?_,fun x c e=>?_,fun p hp=>?_,?_,(hcap σ I.len).1⟩
 ·-- has
  have hx':∃k,(relabel scope X.env).names.lookup x=some k∧(k=.cell∨k=.free):=by
   rcases hx with e|e
   ·exact ⟨_,e,.inl rfl⟩
   ·exact ⟨_,e,.inr rfl⟩
  obtain ⟨k,e,hk⟩:=hx';obtain ⟨k',e1,e2⟩:=pV e;have hm:=rC e1;have hfree:k'=.free:=by
   rcases e2 with e2|e2
   ·subst e2
    rcases hk with hk|hk
    ·subst hk;exact absurd rfl (S.nocell _ hm)
    ·exact hk
   ·exact e2.1
  subst hfree;exact i7 hm
 ·obtain ⟨o,ho⟩:=hfo b hb;exact aF (ao (lt ho) hC)
 ·rcases (hf b hb).2.2.2.1 with z|z
  ·exact I.ok.noex b o e z
  ·exact absurd (ao (au e) (aG I.ok.bsz z)) (aV _)
 ·-- names
  obtain ⟨hfr,j,hj,hv⟩:=(hcap σ I.len).2 i x v h1 h2;have hm:=rC hfr;have hk:=S.free _ hm rfl;obtain ⟨m0,_,hl0⟩:=I.loc;have vis:eN X.env.scope x:=by
   rcases hk with k|k
   ·exact .inr (.inl k)
   ·exact .inr (.inr k)
  obtain ⟨u,r,l⟩:=hl0 j x v hj hv vis;refine ⟨u,r,.inr ⟨?_,?_⟩⟩
  ·have hvis:∃k,(relabel scope X.env).names.lookup x=some k:=by
    rcases h3 with e|e|e<;>exact ⟨_,e⟩
   obtain ⟨k,e⟩:=hvis;obtain ⟨k',e1,e2⟩:=pV e;rw [hfr] at e1;cases e1
   rcases e2 with e2|e2
   ·subst e2;exact .inr e
   ·rw [e2.2.1] at e;exact .inl e
  ·rcases l with ⟨k,_⟩|⟨_,c,hc,hcell⟩
   ·exfalso
    rcases hk with q|q
    ·have q':X.env.kindOf x=some .cell:=q;rw [k] at q';cases q'
    ·have q':X.env.kindOf x=some .free:=q;rw [k] at q';cases q'
   ·obtain ⟨c',e'⟩:=i7 (cells:=X.env.cells) (cs:=[]) hm;have e2:=look x c' e';have e2':X.env.cells.lookup x=some c':=e2;rw [hc] at e2';cases e2';obtain ⟨o,ho,hd⟩:=hcell;exact ⟨c,e',o,old _ _ ho,hd⟩
 ·obtain ⟨v,o,ho,hd⟩:=I.cell x c (look x c e);exact ⟨v,o,old _ _ ho,hd⟩
 ·show upd H D (.lst []) C=none;rw [jH (Ne.symm hDC)];exact nC
 ·have hc:=look x c e;rw [jH (aF (ao (cellLt x c hc) hD))];exact I.freeC x c hc
 ·have hp':p∈X.pn++pins:=by
   rcases aR.mp hp with z|z
   ·exact z
   ·cases z
  obtain ⟨e,n,ne,nf,d⟩:=I.pin p hp';refine ⟨old _ _ e,?_,aF (ao (lt e) hC),stkNe p.1 ne nf,d⟩;rw [jH (aF (ao (lt e) hD))];exact n
 ·refine I.hok.laid old hD ?_;exact ⟨aY _,[],0,.nil,hl⟩
theorem BK {σ':St} {H':Hp} {s':Shared} {C:Addr} {σc:St} {Nc:List Str} (I:Inv X pins σ H s) (hf:∀b∈fp,JW X pins H b) (J:Inv (vI X Nc scope C s H pins fp) [] σc H' s'):Inv X pins σ H' s':=by
 refine I.call' (ch:=fp) J.os J.base J.hok J.bare fun b hb=>?_
 obtain ⟨_,h2,_,h4,h5,h6⟩:=hf b hb;exact ⟨h4,h2,h5,h6⟩
theorem CU {σ':St} {H':Hp} {s':Shared} {C:Addr} {h':Heap} (I:Inv X pins σ H s) (hC:s.heap.objs.size≤C) (J:Inv X pins σ' H' s') (hn:H' C=none) (sb:Heap.SameBut C s'.heap h'):Inv X pins σ' H' {s' with heap:=h'}:=by
 refine J.turned (t':=s'.toks) (it:=C) (fun b o hb e=>(sb.2 b hb).trans e) hn (ec (ao I.lt hC)) (.inr (aG I.sz hC)) (fun x c e z=>?_) fun p hp z=>?_
 ·obtain ⟨v,q⟩:=I.cell x c e;exact absurd (ao q.lt (by rw [z];exact hC)) (aV _)
 ·exact absurd (ao (au (I.pin p hp).1) (by rw [z];exact hC)) (aV _)
end
end L2
namespace L2
open PySem PySem.Spec PyProof.Rows
variable {H:Hp}
theorem yF {σ:St} {Q:Bool→Hp→Prop} (h:Q true H):uU σ H Q:=h
variable {K:PySem.W.Frag} {D:Addr} {xs:List V} {tc:TT} {te:TE} {Q:Hp→Prop}
theorem dC {a:Addr} {g:TG} {σ₀:St} (Pv:Nat→St→Hp→Prop) (h0:Pv 0 σ₀ (upd H D (.lst []))) (hl:∀i σ H,i≤xs.length→Pv i σ H→SqL K H a xs)
    (hs:∀i x σ H,xs[i]?=some x→Pv i σ H→g x σ H fun σ2 H3=>tc σ2 H3 fun b H4=>if b=true then te σ2 H4 fun v H5=>∃ys,H5 D=some (.lst ys)∧ys.length<sizeLine∧Pv (i+1) σ2 (upd H5 D (.lst (ys++[v]))) else Pv (i+1) σ2 H4)
    (hd:∀σ H,Pv xs.length σ H→Q H):QT D (cT K a) g tc te σ₀ H Q:=by
  refine ⟨fun i m σ H=>m=xs.length - i∧i≤xs.length∧Pv i σ H,⟨xs.length,by simp,aY _,h0⟩,?_⟩;rintro i m σ H ⟨rfl,hi,p⟩;have q:=hl i σ H hi p
  by_cases hlt:i<xs.length
  · refine .inr ⟨⟨xs,xs[i],q,by simp [hlt]⟩,Pv (i+1),fun σ' H' p'=>⟨xs.length - (i+1),by omega,rfl,hlt,p'⟩,fun x H' y=>?_⟩
    obtain ⟨e,y⟩:=y;subst e;exact hs i x σ _ (y xs q) p
  · have e:i=xs.length:=by omega
    subst e;exact .inl ⟨⟨xs,q,ar _⟩,hd σ H p⟩
theorem M0 {lo:Int} {n:Nat} {g:TG} {σ₀:St} (Pv:Nat→St→Hp→Prop) (h0:Pv 0 σ₀ (upd H D (.lst [])))
  (hs:∀i σ H,i<n→Pv i σ H→g (.int (lo+i)) σ H fun σ2 H3=>tc σ2 H3 fun b H4=>if b=true then te σ2 H4 fun v H5=>∃ys,H5 D=some (.lst ys)∧ys.length<sizeLine∧Pv (i+1) σ2 (upd H5 D (.lst (ys++[v]))) else Pv (i+1) σ2 H4)
  (hd:∀σ H,Pv n σ H→Q H):QT D (bF lo n) g tc te σ₀ H Q:=by
 refine ⟨fun i m σ H=>m=n - i∧i≤n∧Pv i σ H,⟨n,by simp,aY _,h0⟩,?_⟩;rintro i m σ H ⟨rfl,hi,p⟩
 by_cases hlt:i<n
 ·refine .inr ⟨hlt,Pv (i+1),fun σ' H' p'=>⟨n - (i+1),by omega,rfl,hlt,p'⟩,fun x H' y=>?_⟩;obtain ⟨e,y⟩:=y;subst e y;exact hs i σ _ hlt p
 ·have e:i=n:=by omega
  subst e;exact .inl ⟨ar _,hd σ H p⟩
theorem qI {H':Hp} {o:HO} (hD:H D=none) (s:Same H H'):Same H (upd H' D o):=fun b u q=>by
 rw [jH (q8 q hD)];exact s b u q
def ZH (H:Hp) (D:Addr) (caps:St) (R:Nat→List V→Hp→Prop) (i:Nat) (σ:St) (Hi:Hp):Prop:=∃ys c,σ=c::caps∧Same H Hi∧Hi D=some (.lst ys)∧ys.length≤i∧R i ys Hi
variable {caps:St}
theorem vY {Hi H5:Hp} {R:Nat→List V→Hp→Prop} {i:Nat} {ys:List V} {c:Option V} {v:V} (hD:H D=none) (s:Same H Hi) (hY:Hi D=some (.lst ys)) (hl:ys.length≤i) (hi:i≤999) (s5:Same Hi H5)
  (r:R (i+1) (ys++[v]) (upd H5 D (.lst (ys++[v])))):∃zs,H5 D=some (.lst zs)∧zs.length<sizeLine∧ZH H D caps R (i+1) (c::caps) (upd H5 D (.lst (zs++[v]))):=by
 refine ⟨ys,s5 _ _ hY,yN (by omega),ys++[v],c,rfl,qI hD (s.trans s5),jD,?_,r⟩;rw [ag,aN];omega
theorem J3 {Hi H4:Hp} {R:Nat→List V→Hp→Prop} {i:Nat} {ys:List V} {c:Option V} (s:Same H Hi) (hY:Hi D=some (.lst ys)) (hl:ys.length≤i) (s4:Same Hi H4) (r:R (i+1) ys H4) :
  ZH H D caps R (i+1) (c::caps) H4:=⟨ys,c,rfl,s.trans s4,s4 _ _ hY,by omega,r⟩
theorem zR {a:Addr} (R:Nat→List V→Hp→Prop) (hD:H D=none) (hS:SqL K H a xs) (h0:R 0 [] (upd H D (.lst [])))
  (hs:∀i x ys Hi,xs[i]?=some x→i<xs.length→ys.length≤i→Same H Hi→Hi D=some (.lst ys)→R i ys Hi→tc (some x::caps) Hi fun b H4=>if b=true then te (some x::caps) H4 fun v H5=>∃zs,H5 D=some (.lst zs)∧zs.length<sizeLine∧ZH H D caps R (i+1) (some x::caps) (upd H5 D (.lst (zs++[v])))
   else ZH H D caps R (i+1) (some x::caps) H4)
  (hd:∀ys Hf,Same H Hf→Hf D=some (.lst ys)→ys.length≤xs.length→R xs.length ys Hf→Q Hf):QT D (cT K a) (b7 0) tc te (none::caps) H Q:=by
 refine dC (xs:=xs) (ZH H D caps R) ⟨[],none,rfl,qI hD (Same.refl H),jD,ar _,h0⟩ (fun i σ Hi _ ⟨_,_,_,s,_⟩=>s.seq hS) ?_ ?_
 ·rintro i x σ Hi hx ⟨ys,c,rfl,s,hY,hl,r⟩;exact hs i x ys Hi hx (ad.mp hx).1 hl s hY r
 ·rintro σ Hf ⟨ys,c,rfl,s,hY,hl,r⟩;exact hd ys Hf s hY hl r
theorem ZQ {lo:Int} {n:Nat} (R:Nat→List V→Hp→Prop) (hD:H D=none) (h0:R 0 [] (upd H D (.lst [])))
  (hs:∀i ys Hi,i<n→ys.length≤i→Same H Hi→Hi D=some (.lst ys)→R i ys Hi→tc (some (.int (lo+i))::caps) Hi fun b H4=>if b=true then te (some (.int (lo+i))::caps) H4 fun v H5=>∃zs,H5 D=some (.lst zs)∧zs.length<sizeLine∧ZH H D caps R (i+1) (some (.int (lo+i))::caps) (upd H5 D (.lst (zs++[v])))
   else ZH H D caps R (i+1) (some (.int (lo+i))::caps) H4)
  (hd:∀ys Hf,Same H Hf→Hf D=some (.lst ys)→ys.length≤n→R n ys Hf→Q Hf):QT D (bF lo n) (b7 0) tc te (none::caps) H Q:=by
 refine M0 (ZH H D caps R) ⟨[],none,rfl,qI hD (Same.refl H),jD,ar _,h0⟩ ?_ ?_
 ·rintro i σ Hi hi ⟨ys,c,rfl,s,hY,hl,r⟩;exact hs i ys Hi hi hl s hY r
 ·rintro σ Hf ⟨ys,c,rfl,s,hY,hl,r⟩;exact hd ys Hf s hY hl r
def WH:V→Option Value
 |.ty n=>some (.type n)
 |.ref a=>some (.ref a)
 |_=>none
section
variable {X:Cx}
def FS (K:PySem.W.Frag):List V→Hp→VK→Prop:=fun xs H Q=>∃(x c:V) (t u:Value) (b:Bool),xs=[x,c]∧WH c=some u∧TyOf K H x t∧PySem.W.kitOne K t u=some b∧Q (.bl b) H
theorem RV:yV X (.builtin "isinstance") (FS X.K):=by
 intro pins s σ H xs us Q I r h;obtain ⟨x,c,t,u,b,rfl,hc,ty,e,q⟩:=h;obtain ⟨u1,u2,rfl,r1,r2⟩:=uJ r;have e2:u2=u:=by
  cases c with
  |ty n=>cases (show u2=Value.type n from r2);exact aE hc
  |ref a=>cases (show u2=Value.ref a from r2);exact aE hc
  |_=>cases hc
 subst e2;exact O2 I r1 ty e fun tk=>⟨.bl b,H,I.tok _,rfl,q⟩
end
theorem ZA (n:String):PySem.W.kitOne K (.type n) (.type n)=some true:=by
 unfold PySem.W.kitOne;rw [if_pos (ci _)]
def bC (xs ys:List V):Bool:=(List.range (min xs.length ys.length)).all (fun j=>zD (xs.getD j .non) (ys.getD j .non))&&xs.length == ys.length
theorem QJ {us:List Value} (r:Vals xs us) {j:Nat} (h:j<us.toArray.size):RelV (xs.getD j .non) us.toArray[j]:=by
 have hj:j<us.length:=by simpa using h
 have hx:j<xs.length:=by rw [r.length];exact hj
 obtain ⟨u,e,q⟩:=r.get (aa hx);rw [aa hj] at e;have e':=aE e;rw [af,aa hx];show RelV xs[j] us.toArray[j];rw [List.getElem_toArray,e'];exact q
theorem lD (h:xs.all yU=true) {j:Nat} (hj:j<xs.length):yU (xs.getD j .non)=true:=by
 rw [af,aa hj];exact gr.mp h _ (gt hj)
section
variable {X:Cx}
end
end L2
namespace L2
open PySem PySem.Spec PyProof.Rows
section
variable {X:Cx}
end
section
variable {X:Cx} (K:PySem.W.Frag)
theorem kM (h:X.K=K:=by rfl):IxR X (mV K):=by subst h;exact wT
theorem jR (h:X.K=K:=by rfl):IxR X (uZ K):=by subst h;exact ix_tup
theorem SZ (h:X.K=K:=by rfl):IxR X (wJ K):=by subst h;exact UG
theorem MU (h:X.K=K:=by rfl):yV X (.builtin "len") (fun xs H Q=>∃p ys,xs=[.ref p]∧(SqL K H p ys∨SqT K H p ys)∧Q (.int ys.length) H):=by subst h;exact GS
theorem bK (h:X.K=K:=by rfl):yV X (.builtin "isinstance") (FS K):=by subst h;exact RV
theorem QN {es:List Expr} {k:Nat} {t:bE} {n:Nat} {pos:Pos} (hc:X.calm=true) (h:gT X es t) (hK:X.K=K:=by rfl)
  (hn:(assignEach es X.env).length=n:=by rfl) (hst:(assignEach es X.env).findIdx? (·.1)=none:=by rfl):PG X (.Tuple es k pos) (FU K n t):=by subst hK;exact l9 hc h hn hst
end
section
variable {X:Cx}
end
section
variable {X:Cx}
def V0 (t u:TS):TS:=fun D σ H=>∃P:St→Hp→Prop,t {D with nx:=P} σ H∧∀σ' H',P σ' H'→u D σ' H'
theorem dJ {st:Stmt} {rest:List Stmt} {t u:TS} (h1:PS X st t) (h2:PSs X rest u):PSs X (st::rest) (V0 t u):=by
 intro pins s σ H D I h;obtain ⟨P,hP,hu⟩:=h;refine iz (jN (h1 pins s σ H {D with nx:=P} I hP) fun f s1 q=>?_);cases f with
 |next =>
  obtain ⟨σ',H',I',q⟩:=q;exact h2 pins s1 σ' H' D I' (hu σ' H' q)
 |ret v=>exact q
 |brk=>exact q
 |cont=>exact q
end
structure Def (P:Program) (w:World) (K:PySem.W.Frag) (mg:Str→Option Value) (base:Heap) (k:Nat) (x:Str) (ps:List Str) (dvs:List V) (sp:Sp):Prop where
 ex:∃(f:Addr) (fd:FuncData) (ds:List Value),FnOk P w K mg base jK k f fd ps sp∧mg x=some (.ref f)∧PySem.W.keepIn K (.ref f)=true∧Vals dvs ds∧Binds K fd ps ds
theorem jP {X:Cx} {k k':Nat} {x:Str} {ps:List Str} {dvs:List V} {sp:Sp} {p pos:Pos} {e:Expr} {es:List Expr} {t:TA} (F:Def X.prog X.w X.K X.mg X.base k x ps dvs sp) (hr:Room k' X.A) (hg:Gl X x) (ha:PA X (e::es) t)
  (hk:k≤k':=by decide) (hdb:(x == ("__debug__":Str))=false:=by decide) (he:starEach (e::es) X.env=(false,eval e X.env)::starEach es X.env:=by rfl) (hpl:(backTo pos (starEach es X.env)).any (·.1)=false:=by rfl) :
  PE X (.Call (.Name x p) (e::es) [] pos) (uL sp dvs E0 t):=by
 obtain ⟨f,fd,ds,G,m,kp,hv,b⟩:=F.ex;exact SM G (hr.mono hk) hg m kp b hv zW ha hdb he hpl
structure FunD (K:PySem.W.Frag) (x qual:Str) (st:Stmt) (f:Addr) (fd:FuncData) (ds:List Value):Prop where
 ex:∃(oc:Value) (od:Option Addr) (T:Addr) (kV doc pm:Value) (an:Option Addr) (cdv ct:Value) (osl:Array (Option Value)) (oT:Obj) (n:Nat),
  fd=PySem.W.fnOf x qual (kN st) (kD st) (jM st) (.ref T) kV doc pm an cdv ct∧K.lookup f=some ⟨oc,od,.func fd,osl⟩∧PySem.W.codeIn K cdv qual=true∧K.lookup T=some oT∧oT.data=.seq ds.toArray n
 kp:PySem.W.keepIn K (.ref f)=true
section
variable {P:Program} {w:World} {K:PySem.W.Frag} {mg:Str→Option Value} {base:Heap}
theorem FunD.ok {x qual:Str} {st:Stmt} {f:Addr} {fd:FuncData} {ds:List Value} {N ps:List Str} {k:Nat} {sp:Sp} (F:FunD K x qual st f fd ds) (S:FnScope N ps (jM st)) (len:∀vs H Q E,sp vs H Q E→vs.length=ps.length)
  (hbody:∀(cdv:Value) (A:Around) (outer:List Env) (s:Shared) (H:Hp) (vs:List V) (Q:VK) (E:XK),Room k (A.deeper (envOfC qual (jM st) s.heap.objs.size f cdv))→sp vs H Q E→
   ∃t,PSs (vR jK P w K mg base N qual (jM st) f cdv A outer s H E).nox (kD st) t∧t {nx:=fun _ H'=>Q .non H',rt:=Q} (start N vs) H):FnOk P w K mg base jK (k+1) f fd ps sp:=by
 obtain ⟨oc,od,T,kV,doc,pm,an,cdv,ct,osl,oT,n,rfl,lk,hcd,_,_⟩:=F.ex;refine mR lk hcd S len fun A outer s H vs Q E hr hsp=>?_
 obtain ⟨t,h,q⟩:=hbody cdv A outer s H vs Q E hr hsp;exact ⟨t,h.nox,q⟩
theorem FunD.binds {x qual:Str} {st:Stmt} {f:Addr} {fd:FuncData} {ds:List Value} {ps:List Str} (ds':List Value) (m:Nat) (hm:m+ds'.length=ps.length) (F:FunD K x qual st f fd ds)
  (h:∀(T:Addr) (kV doc pm:Value) (an:Option Addr) (cdv ct:Value) (us:List Value),us.length=m→∃k,bindArgs (PySem.W.fnOf x qual (kN st) (kD st) (jM st) (.ref T) kV doc pm an cdv ct) ⟨us,[]⟩=seqItems? (.ref T) >>= k∧
   k (some ds.toArray)=pure (ps.zip (us++ds'))):Binds K fd ps ds':=by
 obtain ⟨oc,od,T,kV,doc,pm,an,cdv,ct,osl,oT,n,rfl,lk,hcd,lT,dT⟩:=F.ex;intro s us hK hl;obtain ⟨k,h1,h2⟩:=h T kV doc pm an cdv ct us (by rw [ag] at hl;omega);exact BindsTo.of_defaults rfl (hK _ _ lT) dT h1 h2
theorem S4 {x qual:Str} {st:Stmt} {f T:Addr} {oc:Value} {od an:Option Addr} {osl:Array (Option Value)} {kV doc pm cdv ct:Value} {oT:Obj} {n:Nat} {ds:List Value}
  (l:K.lookup f=some ⟨oc,od,.func (PySem.W.fnOf x qual (kN st) (kD st) (jM st) (.ref T) kV doc pm an cdv ct),osl⟩)
  (c:PySem.W.codeIn K cdv qual=true) (k:PySem.W.keepIn K (.ref f)=true) (lT:K.lookup T=some oT) (dT:oT.data=.seq ds.toArray n):FunD K x qual st f (PySem.W.fnOf x qual (kN st) (kD st) (jM st) (.ref T) kV doc pm an cdv ct) ds :=
 ⟨⟨oc,od,T,kV,doc,pm,an,cdv,ct,osl,oT,n,rfl,l,c,lT,dT⟩,k⟩
end
section
variable {X:Cx}
theorem sX:FZ X (mV X.K):=by
 intro pins s σ H o i ov iv Q I ro ri h;obtain ⟨p,xs,k,z,rfl,rfl,hq,he,q⟩:=h;cases ro;obtain ⟨t,rfl⟩:=ri;obtain ⟨its,r,pl,hz⟩:=I.list hq;obtain ⟨j,h1,h2,h3,h4,h5⟩:=lY he;obtain ⟨w,ew,rw'⟩:=r.get h2;have hl:=r.length;have hn:=ZV;have fin:EP X pins σ Q w s:=⟨z,H,I,rw',q⟩
 by_cases h0:0≤k
 ·have hj:k.toNat=j:=by
   rw [seqIndex_of h0 h5] at h1;exact aE h1
  exact wpAny_getItem_list pl.isList h0 (by omega) (by rw [hj];simpa using ew) fin
 ·have hj:(k+(its.toArray.size:Int)).toNat=j:=by
   rw [seqIndex_neg (by omega) h4] at h1;rw [ak,← hl];exact aE h1
  exact wpAny_getItem_list_neg pl.isList (by omega) (by rw [ak]<;>omega) (by omega) (by rw [hj];simpa using ew) fin
end
end L2
namespace L2
open PySem
variable {c A B:Prop}
theorem ZZ [Decidable c] (hc:¬c) (h:A):if (!decide c)=true then A else B:=by
 rw [aI hc];exact kU h
theorem qX [Decidable c] (hc:¬c) (h:B):if decide c=true then A else B:=by
 rw [aI hc];exact kY h
theorem vL [Decidable c] (hc:c) (h:A):if decide c=true then A else B:=by
 rw [aK hc];exact kU h
end L2
namespace L2
open PySem PySem.Spec PyProof.Rows
structure MkD (P:Program) (w:World) (K:PySem.W.Frag) (mg:Str→Option Value) (base:Heap) (k:Nat) (x:Str) (C:Addr) (ps:List Str) (sp:Sp):Prop where
 ex:mg x=some (.ref C)∧∃(f:Addr) (fd:FuncData),Mk K C f∧FnOk P w K mg base jK k f fd ps sp∧Binds K fd ps []
structure MeD (P:Program) (w:World) (K:PySem.W.Frag) (mg:Str→Option Value) (base:Heap) (k:Nat) (C:Addr) (m:Str) (ps:List Str) (sp:Sp):Prop where
 ex:Cls K C∧∃(f:Addr) (fd:FuncData),Meth K C m f∧FnOk P w K mg base jK k f fd ps sp∧Binds K fd ps []
section
variable {X:Cx} {k k':Nat} {x m:Str} {C:Addr} {ps:List Str} {sp:Sp} {p pos apos:Pos} {o e:Expr} {es:List Expr} {ta:TE} {t:TA}
theorem gB (M:MkD X.prog X.w X.K X.mg X.base k x C ps sp) (hr:Room k' X.A) (hg:Gl X x) (ha:PA X (e::es) t)
  (hk:k+1≤k':=by decide) (hdb:(x == ("__debug__":Str))=false:=by decide) (he:starEach (e::es) X.env=(false,eval e X.env)::starEach es X.env:=by rfl) (hpl:(backTo pos (starEach es X.env)).any (·.1)=false:=by rfl) :
  PE X (.Call (.Name x p) (e::es) [] pos) (FB C sp [] E0 t):=by
 obtain ⟨hm,f,fd,M,G,b⟩:=M.ex;exact SJ M G (hr.mono hk) hg hm b .nil zW ha hdb he hpl
theorem cH {pl:Sem Bool} (M:MeD X.prog X.w X.K X.mg X.base k C m ps sp) (hr:Room k' X.A) (ho:PE X o ta) (ha:PA X (e::es) t) (hk:k≤k':=by decide)
  (hst:starEach (e::es) X.env=(false,eval e X.env)::starEach es X.env:=by rfl) (hpl:(backTo pos (starEach es X.env)).any (·.1)=false:=by rfl)
  (ht:eval (.Call (.Attribute o m apos) (e::es) [] pos) X.env=(do
   let ov ← eval o X.env
   standAt apos.atName
   let (f,first) ← holding [ov] (getMethod ov m pl)
   callWith pos f first (backTo pos (starEach (e::es) X.env)) (backToKw pos (keywordEach [] X.env))):=by rfl) :
  PE X (.Call (.Attribute o m apos) (e::es) [] pos) (mJ C m sp [] E0 ta t):=by
 obtain ⟨c,f,fd,M,G,b⟩:=M.ex;exact SI (pl:=pl) ho c M G (hr.mono hk) b .nil zW ha hst hpl ht
theorem ZJ {pl:Sem Bool} (M:MeD X.prog X.w X.K X.mg X.base k C m ps sp) (hr:Room k' X.A) (ho:PE X o ta) (hk:k≤k':=by decide)
  (ht:eval (.Call (.Attribute o m apos) [] [] pos) X.env=(do
   let ov ← eval o X.env
   standAt apos.atName
   let (f,first) ← holding [ov] (getMethod ov m pl)
   callWith pos f first (backTo pos (starEach [] X.env)) (backToKw pos (keywordEach [] X.env))):=by rfl) :
  PE X (.Call (.Attribute o m apos) [] [] pos) (mJ C m sp [] E0 ta QD):=by
 obtain ⟨c,f,fd,M,G,b⟩:=M.ex;exact PZ (pl:=pl) ho c M G (hr.mono hk) b .nil zW ht
end
structure ClsM (K:PySem.W.Frag) (C:Addr) (m:Str) (f:Addr):Prop where
 sp:PySem.W.specialIn K (.ref C) "__getattribute__"=some (some (.builtin "type.__getattribute__"))
 rd:PySem.W.readsIn K C (.type "type")=true
 fc:PySem.W.findCls K (.ref C) (.type "type") m=some (.val (.ref f))
 kp:PySem.W.keepIn K (.ref f)=true
structure CmD (P:Program) (w:World) (K:PySem.W.Frag) (mg:Str→Option Value) (base:Heap) (k:Nat) (x:Str) (C:Addr) (m:Str) (ps:List Str) (sp:Sp):Prop where
 ex:mg x=some (.ref C)∧∃(f:Addr) (fd:FuncData),ClsM K C m f∧FnOk P w K mg base jK k f fd ps sp∧Binds K fd ps []
theorem DO {X:Cx} {k k':Nat} {x m:Str} {C:Addr} {ps:List Str} {sp:Sp} {p pos apos:Pos} {e:Expr} {es:List Expr} {t:TA} {pl:Sem Bool} (M:CmD X.prog X.w X.K X.mg X.base k x C m ps sp) (hr:Room k' X.A) (hg:Gl X x) (ha:PA X (e::es) t) (hk:k≤k':=by decide)
  (hdb:(x == ("__debug__":Str))=false:=by decide) (hst:starEach (e::es) X.env=(false,eval e X.env)::starEach es X.env:=by rfl) (hpl:(backTo pos (starEach es X.env)).any (·.1)=false:=by rfl)
  (ht:eval (.Call (.Attribute (.Name x p) m apos) (e::es) [] pos) X.env=(do
   let ov ← eval (.Name x p) X.env
   standAt apos.atName
   let (f,first) ← holding [ov] (getMethod ov m pl)
   callWith pos f first (backTo pos (starEach (e::es) X.env)) (backToKw pos (keywordEach [] X.env))):=by rfl) :
  PE X (.Call (.Attribute (.Name x p) m apos) (e::es) [] pos) (uL sp [] E0 t):=by
 obtain ⟨hm,f,fd,c,G,b⟩:=M.ex;intro pins s σ H Q I h;refine fj (pl:=pl) (jN ((fS (v:=.ref C) hg hm rfl hdb:PE X (.Name x p) (tC (.ref C))) pins s σ H (fun v H1=>v=.ref C∧H1=H) I ⟨rfl,rfl⟩) fun u s1 ⟨v,H1,I1,rv,e1,e2⟩=>?_) ht;subst e1 e2;obtain rfl:u=Value.ref C:=rv;refine PySem.W.method_cls I1.kIn c.sp (PySem.W.cls_value I1.kIn c.rd c.fc rfl ?_);have I2:=I1.tok (s1.toks+1);refine ei (first:=[]) (h₀:=X.base) I.ok.mod.kin c.kp (jN (ha pos pins _ σ H1 _ I2 h) fun us s2 ⟨vs,H2,I3,r,q2⟩=>⟨I3.kIn,?_⟩) hst hpl;exact dP (us:=us) (vs:=vs) G (hr.mono hk) b .nil zW I3 r q2
section
variable {X:Cx}
theorem MZ {ns:List Int} {its:List Value} (rv:Vals (ns.map V.int) its) {i:Nat} {v:Value} (h:its.toArray[i]?=some v):∃t,v=Value.int (ns.getD i 0) t:=by
 have h':its[i]?=some v:=by simpa using h
 have hi:i<its.length:=(ad.mp h').1;have hn:i<ns.length:=by have:=rv.length;rw [ae] at this;omega
 obtain ⟨u,e,q⟩:=rv.get (x:=V.int (ns.getD i 0)) (i:=i) (by rw [av,aa hn,af,aa hn];rfl);rw [h'] at e;cases e;exact q
theorem MO (bs:List Bool):(List.range bs.length).all (fun i=>bs.getD i true)=bs.all id:=by
 rw [fu,gr,gr];constructor
 ·intro h x hx;obtain ⟨i,hi,e⟩:=List.mem_iff_getElem.mp hx;have:=h i (by simpa using hi);rw [af,aa hi,e] at this;exact this
 ·intro h i hi;have hi':i<bs.length:=by simpa using hi
  rw [af,aa hi'];exact h _ (gt hi')
theorem rZ (hc:X.calm=true):yV X (.builtin "sum") (fun xs H Q=>∃(p:Addr) (ns:List Int),xs=[.ref p]∧SqL X.K H p (ns.map V.int)∧Q (.int ns.sum) H):=by
 intro pins s σ H xs us Q I r h;obtain ⟨p,ns,rfl,hq,q⟩:=h;obtain ⟨u,rfl,rx⟩:=ZI r;cases rx;obtain ⟨its,rv,pl,hz⟩:=I.list hq;have hlen:=rv.length;rw [ae] at hlen;have hp:p<s.heap.objs.size:=by obtain ⟨o,n,e,_⟩:=pl;exact au e
 refine call_sum_walkAnyS (wpAny_pyIter_list pl.isList ?_);refine ⟨s.heap.objs.size,_,_,_,_,_,_,fun i=>ns.getD i 0,rfl,(Walks.list (A:=X.A.in1) (I.ok.hd hc) s.heap.objs.size p (aF hp) its.toArray).toS,⟨⟨_,az _ rfl,rfl,rfl⟩,pl.isList.at fun o e=>aj _ e⟩,fun b hb=>?_,fun i v h=>MZ rv h,fun s' t' m=>?_⟩
 ·rw [cg]
  rcases ax.mp hb with e|e
  ·rw [e];exact ek _
  ·have e':b=p:=by simpa using e
   rw [e'];exact Nat.lt_succ_of_lt hp
 ·obtain ⟨hh,g,d,t,os⟩:=s';obtain ⟨m1,m2,m3,m4,m5⟩:=m;have m2':g=s.gens:=m2;have m3':d=s.drawn:=m3;have m4':os=s.os:=m4;subst m2' m3' m4';have e:preSum (fun i=>ns.getD i 0) its.toArray.size=ns.sum:=by rw [preSum_getD,ak,← hlen,aL]
  rw [e];refine ⟨.int ns.sum,H,I.kept (t':=t) fun b o e=>m1 b o (fun hb=>?_) (aj _ e),⟨_,rfl⟩,q⟩;have e':b=s.heap.objs.size:=by simpa using hb
  exact absurd (au e) (by rw [e'];exact aV _)
end
def u9 (p:Addr) (a b c:Int):HO:=.ext fun h=>∃t u v,IsRange h p a b c t u v
section
variable {X:Cx}
theorem ND:yV X (.type "range") (fun xs H Q=>∃a b c:Int,xs=[.int a,.int b,.int c]∧c≠0∧c.natAbs<1073741824∧∀p,H p=none→Q (.ref p) (upd H p (u9 p a b c))):=by
 intro pins s σ H xs us Q I r h;obtain ⟨a,b,c,rfl,hc,hs,q⟩:=h;cases r with
 |cons r1 r2 =>
  cases r2 with
  |cons r3 r4 =>
   cases r4 with
   |cons r5 r6 =>
    cases r6;obtain ⟨t,rfl⟩:=r1;obtain ⟨u,rfl⟩:=r3;obtain ⟨v,rfl⟩:=r5;refine call_range_3 hc ?_ (.inl (PyProof.noPylong_small hs));refine ⟨.ref s.heap.objs.size,_,I.laid (t':=s.toks) (o:=u9 s.heap.objs.size a b c) (fun b o e=>aj _ e) (ar _) ?_,rfl,q _ (I.hok.fresh (ar _))⟩;exact ⟨⟨t,u,v,az _ rfl⟩,⟨_,az _ rfl⟩,fun h1 h2 ⟨t,u,v,e⟩ k=>⟨t,u,v,k _ e⟩⟩
theorem xA {f:Nat→Int}:∀{n:Nat} {acc:List Value},acc.length=n→(∀i v,acc[i]?=some v→∃t,v=Value.int (f i) t)→Vals ((List.range n).map fun (i:Nat)=>V.int (f i)) acc
 |0,acc,hl,h=>by
  cases acc with
  |nil=>exact .nil
  |cons x r=>cases hl
 |n+1,acc,hl,h=>by
  obtain ⟨init,last,rfl⟩:∃init last,acc=init++[last]:=by
   have hne:acc≠[]:=by intro e;rw [e] at hl;cases hl
   exact ⟨acc.dropLast,acc.getLast hne,(List.dropLast_concat_getLast hne).symm⟩
  rw [ag,aN] at hl;have hi:init.length=n:=by omega
  rw [ic,aJ];refine Vals.append (xA hi fun i v e=>h i v ?_) (.cons ?_ .nil)
  ·rw [aq (ad.mp e).1];exact e
  ·exact h n last (by rw [ap (by omega),hi,li];rfl)
theorem MS (hc:X.calm=true):yV X (.type "list") (fun xs H Q=>∃(p:Addr) (a b c:Int) (n:Nat),xs=[.ref p]∧H p=some (u9 p a b c)∧Builtin.Range.small a b c=true∧Builtin.Range.rangeSize a b c=n∧n≤1000∧
  ∀l,H l=none→Q (.ref l) (upd H l (.lst ((List.range n).map fun (i:Nat)=>V.int (a+(i:Int)*c))))):=by
 intro pins s σ H xs us Q I r h;obtain ⟨p,a,b,c,n,rfl,hp,hsm,hn,hz,q⟩:=h;obtain ⟨u,rfl,rx⟩:=ZI r;cases rx;obtain ⟨⟨t,u,v,e⟩,_,_⟩:=I.hok p _ hp;refine call_list_range (I.ok.hd hc) e hsm hn (by omega) fun h' tk acc' c' hk hS' hacc=>?_
 have hl:acc'.toList.length=n:=by have:=hacc.1;simpa using this
 refine ⟨.ref s.heap.objs.size,_,I.laid (t':=tk) (o:=.lst ((List.range n).map fun (i:Nat)=>V.int (a+(i:Int)*c))) hk (ar _) ?_,rfl,q _ (I.hok.fresh (ar _))⟩;refine ⟨by rw [ae,bg];exact gj (yN hz),acc'.toList,c',xA hl fun i v e=>hacc.2 i v (by simpa using e),by simpa using hS'⟩
end
def zY (n:Nat):List Nat:=(List.range n).reverse
theorem N5 (n:Nat):((List.range n).map fun (i:Nat)=>V.int (((n:Int) - 1)+(i:Int) * -1))=(zY n).map fun (i:Nat)=>V.int (i:Int):=by
 apply List.ext_getElem?;intro k;unfold zY;rw [av,av]
 by_cases hk:k<n
 ·rw [cf hk,fm (by simpa using hk),bg,cf (by omega)];show some (V.int ((n:Int) - 1+(k:Int) * -1))=some (V.int ((n - 1 - k:Nat):Int))
  congr 2
  omega
 ·rw [da (by simp;omega),da (by simp;omega)];rfl
theorem BI (n:Nat):Builtin.Range.rangeSize ((n:Int) - 1) (-1) (-1)=n:=by
 unfold Builtin.Range.rangeSize;rw [if_neg (by decide)]
 by_cases h:(n:Int) - 1 > -1
 ·rw [if_pos h];have e:((n:Int) - 1 - -1 - 1) / (- (-1:Int))=(n:Int) - 1:=by
   have e1:(-(-1:Int))=1:=rfl;rw [e1,Int.ediv_one];omega
  rw [e];omega
 ·rw [if_neg h];omega
theorem N6 {n:Nat} (h:n≤1000):Builtin.Range.small ((n:Int) - 1) (-1) (-1)=true:=by
 unfold Builtin.Range.small;rw [BI];simp only [Builtin.Range.rangeFitsLong,gb,Bool.or_eq_true,ff,iq];simp;omega
section
variable {P:Program} {w:World} {H:Hp} {h h':Heap} {a:Addr} {o:HO}
theorem ObjOk.there (x:ObjOk P w H h a o):∃u,h.get? a=some u:=by
 cases o with
 |lst xs=>obtain ⟨_,_,_,_,e⟩:=x;exact ⟨_,e⟩
 |tup xs=>obtain ⟨_,_,_,o,e,_⟩:=x;exact ⟨_,e⟩
 |dK kvs=>obtain ⟨_,_,_,_,o,_,_,e,_⟩:=x;exact ⟨_,e⟩
 |dT kvs=>obtain ⟨_,_,_,_,o,_,_,e,_⟩:=x;exact ⟨_,e⟩
 |set S n=>obtain ⟨o,_,_,_,e,_⟩:=x;exact ⟨_,e⟩
 |ins C dx fs=>obtain ⟨_,_,_,e,_⟩:=x;exact ⟨_,e⟩
 |own y=>obtain ⟨_,e⟩:=x;exact ⟨_,e⟩
 |xd fs=>obtain ⟨_,⟨_,_,_,e,_⟩,_⟩:=x;exact ⟨_,e⟩
 |rng lo hi=>obtain ⟨_,_,_,e⟩:=x;exact ⟨_,e⟩
 |frz ob u=>obtain ⟨e,_⟩:=x;exact ⟨_,e⟩
 |tbl ps=>exact ⟨_,(show h.get? a=some _ from x)⟩
 |met f y=>exact ⟨_,(show h.get? a=some _ from x)⟩
 |ext φ=>obtain ⟨_,e,_⟩:=x;exact e
theorem HOk.there (x:HOk P w H h) (e:H a=some o):∃u,h.get? a=some u:=(x a o e).there
theorem HOk.keepT (x:HOk P w H h) (k:∀b u,H b≠none→h.get? b=some u→h'.get? b=some u):HOk P w H h':=fun a o e =>
 (x a o e).stay (fun b u hb q=>k b u (by
  rcases hb with rfl|hb
  ·rw [e];exact fun z=>nomatch z
  ·rw [hb];exact fun z=>nomatch z) q) (fun _ q=>q) fun _ _ q=>q
end
variable {H:Hp}
theorem Un.go {fs ex:List Addr} {H1:Hp} {h0 h h':Heap} (u:Un fs ex H H1 h0 h) (k:∀b o,h.get? b=some o→b∉fs→b∉ex→(∃o',h0.get? b=some o')→h'.get? b=some o)
  (ks:∀b o,h.get? b=some o→b∈fs→(∃o',h0.get? b=some o')→∃sl,h'.get? b=some {o with slots:=sl}):Un fs ex H H1 h0 h' where
 keep:=fun b o q n hb hx=>k b o (u.keep b o q n hb hx) hb hx ⟨o,q⟩
 slot:=fun b o q n hb hx=>by
  obtain ⟨sl,e⟩:=u.slot b o q n hb hx;obtain ⟨sl',e'⟩:=ks b _ e hb ⟨o,q⟩;exact ⟨sl',e'⟩
 free:=u.free
 there:=fun b o q hx=>by
  obtain ⟨o',e⟩:=u.there b o q hx
  by_cases hb:b∈fs
  ·obtain ⟨sl,e'⟩:=ks b o' e hb ⟨o,q⟩;exact ⟨_,e'⟩
  ·exact ⟨o',k b o' e hb hx ⟨o,q⟩⟩
 tups:=u.tups
 frzs:=u.frzs
 tbls:=u.tbls
def GH (fr:List Env) (Z:Addr→Prop) (h:Heap) (a C:Addr):Prop :=
 ∃(B:Heap) (a0:Value),Heap.FlyingW B fr a (.ref C) a0 h∧∀b o,h.get? b=some o→b∉kO fr→Z b→B.get? b=some o
def vT (P:Program) (w:World):vS:=fun outer H s E e s'=>∃(a C:Addr) (H':Hp),e=.ref a∧s'.os=s.os∧AllBare s'.gens∧Un (kO outer) [] H H' s.heap s'.heap∧HOk P w H' s'.heap∧
 GH outer (fun b=>H' b≠none∨∃o',s.heap.get? b=some o') s'.heap a C∧H' a=none∧s.heap.get? a=none∧E (.ref C) none H'
def E9 (X:Cx) (R:St→Value→Hp→Prop):Prop:=∀pins σ H s e h' C vs,Inv X pins σ H s→Heap.MadeExcOf s.heap h' e (.ref C) vs→R σ (.ref C) H→X.xe (.ref e) {s with heap:=h'}
def gF (X:Cx) (R:St→Value→Hp→Prop):Prop:=∀pins σ H s e s',Inv X pins σ H s→vT X.prog X.w X.stack H s (fun c _ H'=>R σ c H') e s'→X.xe e s'
theorem rN {P:Program} {w:World} {K:PySem.W.Frag} {mg:Str→Option Value} {base:Heap} {N:List Str} {qual:Str} {scope:Scope} {f:Addr} {cd:Value} {A:Around} {outer:List Env} {s:Shared} {E:XK} :
  E9 (vR (vT P w) P w K mg base N qual scope f cd A outer s H E) (fun _ c H'=>E c none H'):=by
 intro pins σ H1 s1 e h' C vs I hx q;have hin:∀env∈(envOfC qual scope s.heap.objs.size f cd::outer),∀b,env.frame=some b→b∈kO (envOfC qual scope s.heap.objs.size f cd::outer):=fun env he b hb=>ia.mpr ⟨env,he,hb⟩
 have hst:s1.heap.FunFrames base (envOfC qual scope s.heap.objs.size f cd::outer):=I.stack;have hfrees:∀b∈kO (envOfC qual scope s.heap.objs.size f cd::outer),H1 b=none:=I.stkFree;have hfs:kO (envOfC qual scope s.heap.objs.size f cd::outer)=s.heap.objs.size::kO outer:=rfl;have ub:Un (kO outer) [] H H1 s.heap s1.heap:=I.base;have hno:s1.heap.get? e=none:=hx.new;show wpAny (model P w) (A.deeper (envOfC qual scope s.heap.objs.size f cd)) (leaving (envOfC qual scope s.heap.objs.size f cd) (.ref e)) (fun _ s''=>vT P w outer H s E (.ref e) s'') (fun e' s''=>vT P w outer H s E e' s'') {s1 with heap:=h'};refine wpAny_leaves_madeW (base:=PySem.W.hideAll s1.heap (kO (envOfC qual scope s.heap.objs.size f cd::outer))) I.ok.frames rfl (fun b o q=>PySem.W.of_hideAll _ q) (PySem.W.funFrames_hide hst hin) hx fun h2 t fl _ _ up=>?_
 dsimp only at up
 have keep:∀b o,s1.heap.get? b=some o→b∉kO (envOfC qual scope s.heap.objs.size f cd::outer)→(PySem.W.hideAll s1.heap (kO (envOfC qual scope s.heap.objs.size f cd::outer))).get? b=some o:=fun b o q n=>PySem.W.hideAll_get _ q n
 have old:∀b,(∃o',s.heap.get? b=some o')→b∉kO outer→b∉kO (envOfC qual scope s.heap.objs.size f cd::outer):=fun b ⟨o',q⟩ n z=>by
  rw [hfs] at z
  rcases ax.mp z with z|z
  ·exact absurd (au q) (by rw [z];exact aV _)
  ·exact n z
 have JX:∀b,H1 b≠none→b∉kO (envOfC qual scope s.heap.objs.size f cd::outer):=fun b hb z=>hb (hfrees b z)
 refine ⟨e,C,H1,rfl,I.os,I.bare,ub.go (fun b o q n _ z=>fl.1 b o (keep b o q (old b z n))) (fun b o q n _=>?_),I.hok.keepT fun b u hb q=>fl.1 b u (keep b u q (JX b hb)),?_,?_,?_,q⟩
 ·obtain ⟨_,o',ho',hd⟩:=hst.mem (show b∈kO (envOfC qual scope s.heap.objs.size f cd::outer) from by rw [hfs];exact ay _ n);rw [q] at ho';cases ho'
  exact up b o (hx.keeps b o q) hd
 ·refine ⟨_,_,fl,fun b o q n z=>?_⟩;have hn:b∉kO (envOfC qual scope s.heap.objs.size f cd::outer):=by
   rcases z with z|z
   ·exact JX b z
   ·exact old b z n
  have h1:∃u,s1.heap.get? b=some u:=by
   rcases z with z|⟨o',z⟩
   ·cases r:H1 b with
    |none=>exact absurd r z
    |some v=>exact I.hok.there r
   ·exact ub.there b o' z (by simp)
  obtain ⟨u,hu⟩:=h1;have hB:=keep b u hu hn;have:=fl.1 b u hB;have q':h2.get? b=some o:=q;rw [q'] at this;cases this;exact hB
 ·cases r:H1 e with
  |none=>rfl
  |some v =>
   obtain ⟨u,hu⟩:=I.hok.there r;rw [hno] at hu;cases hu
 ·cases r:s.heap.get? e with
  |none=>rfl
  |some v =>
   obtain ⟨u,hu⟩:=ub.there e v r (by simp);rw [hno] at hu;cases hu
theorem CM {P:Program} {w:World} {K:PySem.W.Frag} {mg:Str→Option Value} {base:Heap} {N:List Str} {qual:Str} {scope:Scope} {f:Addr} {cd:Value} {A:Around} {outer:List Env} {s:Shared} {E:XK} :
  gF (vR (vT P w) P w K mg base N qual scope f cd A outer s H E) (fun _ c H'=>E c none H'):=by
 intro pins σ H1 s1 e s2 I hx;obtain ⟨a,C,H2,rfl,os,bare,un,hok,⟨B,a0,fl,ground⟩,ha,hs,q⟩:=hx;have fl':Heap.FlyingW B (envOfC qual scope s.heap.objs.size f cd::outer) a (.ref C) a0 s2.heap:=fl;have J:Inv (vR (vT P w) P w K mg base N qual scope f cd A outer s H E) pins σ H2 s2:=I.call' (ch:=[]) os un hok bare fun b z=>absurd z (by simp)
 have ub:Un (kO outer) [] H H2 s.heap s2.heap:=J.base;have hfs:kO (envOfC qual scope s.heap.objs.size f cd::outer)=s.heap.objs.size::kO outer:=rfl;have old:∀b,(∃o',s.heap.get? b=some o')→b∉kO outer→b∉kO (envOfC qual scope s.heap.objs.size f cd::outer):=fun b ⟨o',q⟩ n z=>by
  rw [hfs] at z
  rcases ax.mp z with z|z
  ·exact absurd (au q) (by rw [z];exact aV _)
  ·exact n z
 have JX:∀b,H2 b≠none→b∉kO (envOfC qual scope s.heap.objs.size f cd::outer):=fun b hb z=>hb (J.stkFree b z)
 have u1:Un (kO outer) [] H H1 s.heap s1.heap:=I.base;have in1:∀b,(∃o',s.heap.get? b=some o')→∃o',s1.heap.get? b=some o':=fun b ⟨o',z⟩=>u1.there b o' z (by simp)
 have hst:s2.heap.FunFrames base (envOfC qual scope s.heap.objs.size f cd::outer):=J.stack;show wpAny (model P w) (A.deeper (envOfC qual scope s.heap.objs.size f cd)) (leaving (envOfC qual scope s.heap.objs.size f cd) (.ref a)) (fun _ s''=>vT P w outer H s E (.ref a) s'') (fun e' s''=>vT P w outer H s E e' s'') s2;refine wpAny_leaves_onW J.ok.frames rfl fl' fun h3 fl3 up=>?_
 refine ⟨a,C,H2,rfl,J.os,J.bare,ub.go (fun b o q n _ z=>fl3.1 b o (ground b o q (old b z n) (.inr (in1 b z)))) (fun b o q n _=>?_),J.hok.keepT fun b u hb q=>fl3.1 b u (ground b u q (JX b hb) (.inl hb)),?_,ha,?_,q⟩
 ·obtain ⟨_,o',ho',hd⟩:=hst.mem (show b∈kO (envOfC qual scope s.heap.objs.size f cd::outer) from by rw [hfs];exact ay _ n);rw [q] at ho';cases ho'
  exact up b o q hd
 ·refine ⟨B,a0,fl3,fun b o q n z=>?_⟩;have hn:b∉kO (envOfC qual scope s.heap.objs.size f cd::outer):=by
   rcases z with z|z
   ·exact JX b z
   ·exact old b z n
  have h1:∃u,s2.heap.get? b=some u:=by
   rcases z with z|⟨o',z⟩
   ·cases r:H2 b with
    |none=>exact absurd r z
    |some v=>exact J.hok.there r
   ·exact ub.there b o' z (by simp)
  obtain ⟨u,hu⟩:=h1;have hB:=ground b u hu hn (by
   rcases z with z|z
   ·exact .inl z
   ·exact .inr (in1 b z))
  have:=fl3.1 b u hB;have q':h3.get? b=some o:=q;rw [q'] at this;cases this;exact hB
 ·cases r:s.heap.get? a with
  |none=>rfl
  |some v =>
   obtain ⟨u,hu⟩:=in1 a ⟨v,r⟩;rw [hs] at hu;cases hu
end L2
namespace L2
open PySem PySem.Spec PyProof.Rows
theorem DY {K:PySem.W.Frag} {h:Heap} {C:Addr} {bmB:List Value} {newId:String} (X:K.In h) (q:PySem.W.excIn K C bmB newId=true) :
  ∃bm N nm qn bs hdct sn sub ab col dd k0 k1 k2 k3 k5 mN,K.lookup C=some (excClassObj nm qn C N bs bm hdct sn sub ab col dd k0 k1 k2 k3 k5 newId)∧h.get? C=some (excClassObj nm qn C N bs bm hdct sn sub ab col dd k0 k1 k2 k3 k5 newId)∧h.Ns N mN∧mN "__init__"=none∧OwnTail h bmB bm:=by
 unfold PySem.W.excIn at q
 split at q
 ·rename_i dd cd sl ho
  split at q
  ·rename_i C' bm k0 k1 k2 k3 n k5 hm hs;simp only [gb,iq,Bool.not_eq_true'] at q;obtain ⟨⟨⟨⟨⟨rfl,rfl⟩,hdel⟩,ht⟩,hok⟩,hni⟩:=q;obtain ⟨nm,bs,mro,ns,qn,hd,sn,sub,ab,col,del⟩:=cd
   dsimp only at hm hdel hok hni
   subst hm hdel;have hsl:sl = #[k0,k1,k2,k3,some (.builtin n),k5]:=by
    obtain ⟨l⟩:=sl;simp only at hs;rw [hs]
   subst hsl;exact ⟨bm,ns,nm,qn,bs,hd,sn,sub,ab,col,dd,k0,k1,k2,k3,k5,_,ho,X _ _ ho,.of_isNs (PySem.W.isNs_of_in X hok),PySem.W.nsMap_none_of_in X hok hni,PySem.W.tail_of_in X ht⟩
  ·cases q
 ·cases q
abbrev WC:List Value:=[.type "ValueError",.type "Exception",.type "BaseException",.type "object"]
def gN (K:PySem.W.Frag) (C:Addr):Prop:=PySem.W.excIn K C WC "ValueError.__new__"=true
section
variable {X:Cx} {R:St→Value→Hp→Prop} {x:Str} {C:Addr} {np cpos pos p:Pos} {e:Expr} {es:List Expr} {t:TA}
theorem sP (hx:E9 X R) (hcalm:X.calm=true) (hg:Gl X x) (hm:X.mg x=some (.ref C)) (hc:gN X.K C) (ha:PA X (e::es) t) (hdb:(x == ("__debug__":Str))=false:=by decide)
  (he:starEach (e::es) X.env=(false,eval e X.env)::starEach es X.env:=by rfl) (hpl:(backTo cpos (starEach es X.env)).any (·.1)=false:=by rfl) :
  PS X (.Raise (some (.Call (.Name x np) (e::es) [] cpos)) none pos) (fun _ σ H=>t σ H fun vs H1=>vs.length≤sizeLine∧R σ (.ref C) H1):=by
 intro pins s σ H D I h;obtain ⟨tl,N,nm,q,bs,hdct,sn,sub,ab,col,dd,k0,k1,k2,k3,k5,mN,_,hC,hN,hni,T⟩:=DY I.ok.mod.kin hc;refine wpAny_Raise_call_subT (C:=C) (nm:=nm) (q:=q) (N:=N) (bs:=bs) (bm:=tl) (hdct:=hdct) (sn:=sn) (sub:=sub) (ab:=ab) (col:=col) (dd:=dd) (k0:=k0) (k1:=k1) (k2:=k2) (k3:=k3) (k5:=k5)
  PySem.F.excBase_ValueError (mN:=mN) (T.hasType PySem.F.excBase_ValueError.hasBase) (I.ok.hd hcalm) (by rw [he];show (false||(backTo cpos (starEach es X.env)).any (·.1))=false;rw [hpl];rfl) hni (bR I hg hm ⟨rfl,?_⟩ hdb)
 have h1:=ha cpos pins s σ H _ I h;rw [he] at h1 ⊢;refine Calls.evalArgs_plain (bv h1 (fun us s2 ⟨vs,H2,I2,r2,hl,q2⟩=>⟨rfl,by rw [← r2.length];exact hl,I2.bk _ _ hC,hN.keeps I2.bk,T.keeps I2.bk,fun h' a hm=>hx pins σ H2 s2 a h' C us I2 hm q2⟩) fun _ _ y=>y)
def TL (sp:Sp) (dvs:List V) (R:St→Value→Hp→Prop) (t:TA):TE:=fun σ H Q=>t σ H fun vs H1=>sp (vs++dvs) H1 Q (fun c _ H'=>R σ c H')
theorem SD {k:Nat} {f:Addr} {fd:FuncData} {ps:List Str} {sp:Sp} {dvs:List V} {ds:List Value} {pins:List (Addr×Obj)} {σ:St} {H:Hp} {s:Shared} {Q:VK} {us:List Value} {vs:List V} (F:FnOk X.prog X.w X.K X.mg X.base (vT X.prog X.w) k f fd ps sp) (hr:Room k X.A) (hb:Binds X.K fd ps ds) (hd:Vals dvs ds) (hx:gF X R)
  (I:Inv X pins σ H s) (r:Vals vs us) (h:sp (vs++dvs) H Q (fun c _ H'=>R σ c H')):wpAny (model X.prog X.w) X.A (call (.ref f) us) (EP X pins σ Q) X.xe s:=by
 have r2:Vals (vs++dvs) (us++ds):=r.append hd;have hl:(us++ds).length=ps.length:=by rw [← r2.length];exact F.len _ _ _ _ h
 refine wpAny_call (gx (F.run X.A X.stack s H ⟨us,[]⟩ (us++ds) (vs++dvs) Q _ hr I.env0 (hb s us I.kIn hl) r2 h) fun r s' hq=>?_);cases r with
 |error e=>exact hx pins σ H s e s' I hq
 |ok fl =>
  cases fl with
  |ret u=>exact I.after hq
  |next=>exact False.elim hq
  |brk=>exact False.elim hq
  |cont=>exact False.elim hq
end
structure DefX (P:Program) (w:World) (K:PySem.W.Frag) (mg:Str→Option Value) (base:Heap) (k:Nat) (x:Str) (ps:List Str) (dvs:List V) (sp:Sp):Prop where
 ex:∃(f:Addr) (fd:FuncData) (ds:List Value),FnOk P w K mg base (vT P w) k f fd ps sp∧mg x=some (.ref f)∧PySem.W.keepIn K (.ref f)=true∧Vals dvs ds∧Binds K fd ps ds
variable {X:Cx} {R:St→Value→Hp→Prop}
theorem tO {k k':Nat} {x:Str} {ps:List Str} {dvs:List V} {sp:Sp} {p pos:Pos} {e:Expr} {es:List Expr} {t:TA} (F:DefX X.prog X.w X.K X.mg X.base k x ps dvs sp) (hx:gF X R) (hr:Room k' X.A) (hg:Gl X x) (ha:PA X (e::es) t)
  (hk:k≤k':=by decide) (hdb:(x == ("__debug__":Str))=false:=by decide) (he:starEach (e::es) X.env=(false,eval e X.env)::starEach es X.env:=by rfl) (hpl:(backTo pos (starEach es X.env)).any (·.1)=false:=by rfl) :
  PE X (.Call (.Name x p) (e::es) [] pos) (TL sp dvs R t):=by
 obtain ⟨f,fd,ds,G,m,kp,hv,b⟩:=F.ex;intro pins s σ H Q I h;refine cq (bR I hg m ?_ hdb);refine ei (h₀:=X.base) I.ok.mod.kin kp (jN (ha pos pins s σ H _ I h) fun us s1 ⟨vs,H1,I1,r,q⟩=>⟨I1.kIn,?_⟩) he hpl;exact SD G (hr.mono hk) b hv hx I1 r q
def VQ (X:Cx) (pins:List (Addr×Obj)) (a:Addr):Prop:=X.s₀.heap.get? a=none∧a≠X.env.locals∧(∀x c,X.env.cells.lookup x=some c→c≠a)∧∀p∈X.pn++pins,p.1≠a
def ZY (X:Cx) (pins:List (Addr×Obj)) (R:St→Value→Hp→Prop):Cx:={X with
 pn:=X.pn++pins
 xe:=fun e s'=>∃(a C:Addr) (σ':St) (H':Hp),e=.ref a∧Inv X pins σ' H' s'∧GH X.stack (fun b=>H' b≠none∨(∃o,X.s₀.heap.get? b=some o)∨∃p∈X.pn++pins,p.1=b) s'.heap a C∧H' a=none∧VQ X pins a∧R σ' (.ref C) H'}
theorem Cx.Ok.intoTry {pins:List (Addr×Obj)} (ok:X.Ok):(ZY X pins R).Ok :=
 ⟨ok.mod,ok.kind,ok.glob,ok.blt,ok.above,ok.inj,ok.has,ok.cab,ok.hd,ok.frames,ok.stk,ok.exf,ok.bs,ok.bsz,ok.noex,ok.exfs,ok.funs,ok.frf⟩
theorem Cx.Ok.outTry {pins:List (Addr×Obj)} (ok:(ZY X pins R).Ok):X.Ok :=
 ⟨ok.mod,ok.kind,ok.glob,ok.blt,ok.above,ok.inj,ok.has,ok.cab,ok.hd,ok.frames,ok.stk,ok.exf,ok.bs,ok.bsz,ok.noex,ok.exfs,ok.funs,ok.frf⟩
section
variable {X:Cx} {pins pins':List (Addr×Obj)} {σ:St} {H:Hp} {s:Shared} {R:St→Value→Hp→Prop}
theorem Inv.intoTry (I:Inv X pins σ H s):Inv (ZY X pins R) [] σ H s :=
 ⟨I.ok.intoTry,I.os,I.bare,I.base,I.loc,I.cell,I.free,I.freeC,fun p hp=>I.pin p (by have hp':p∈(X.pn++pins)++[]:=hp;rw [br] at hp';exact hp'),I.hok,I.len⟩
theorem Inv.outTry (I:Inv (ZY X pins R) pins' σ H s):Inv X pins σ H s :=
 ⟨I.ok.outTry,I.os,I.bare,I.base,I.loc,I.cell,I.free,I.freeC,fun p hp=>I.pin p (bz _ hp),I.hok,I.len⟩
theorem SP.outTry {D:Ends} {f:Flow} {s':Shared} (h:SP (ZY X pins R) [] D f s'):SP X pins D f s':=by
 cases f with
 |next=>obtain ⟨σ',H',I,q⟩:=h;exact ⟨σ',H',I.outTry,q⟩
 |brk=>obtain ⟨σ',H',I,q⟩:=h;exact ⟨σ',H',I.outTry,q⟩
 |cont=>obtain ⟨σ',H',I,q⟩:=h;exact ⟨σ',H',I.outTry,q⟩
 |ret u=>obtain ⟨v,σ',H',I,r,q⟩:=h;exact ⟨v,σ',H',I.outTry,r,q⟩
theorem O4 (hex:X.ex=[]):gF (ZY X pins R) R:=by
 intro pins' σ H1 s1 e s2 I hx;obtain ⟨a,C,H2,rfl,os,bare,un,hok,⟨B,a0,fl,ground⟩,ha,hs,q⟩:=hx;have I0:Inv X pins σ H1 s1:=I.outTry;have J:Inv X pins σ H2 s2:=I0.call' (ch:=[]) os un hok bare fun b z=>absurd z (by simp)
 refine ⟨a,C,σ,H2,rfl,J,⟨B,a0,fl,fun b o q n z=>ground b o q n ?_⟩,ha,⟨?_,fun z=>?_,fun x c e z=>?_,fun p hp z=>?_⟩,q⟩
 ·rcases z with z|⟨o',z⟩|⟨p,hp,rfl⟩
  ·exact .inl z
  ·exact .inr (I0.base.there b o' z (by rw [hex];simp))
  ·exact .inr ⟨_,(I0.pin p hp).1⟩
 ·cases r:X.s₀.heap.get? a with
  |none=>rfl
  |some v =>
   obtain ⟨u,hu⟩:=I0.base.there a v r (by rw [hex];simp);rw [hs] at hu;cases hu
 ·obtain ⟨m,⟨o,_,_,ho,_⟩,_⟩:=I0.loc;rw [← z,hs] at ho;cases ho
 ·obtain ⟨v,o,ho,_⟩:=I0.cell x c e;rw [z,hs] at ho;cases ho
 ·have ho:=(I0.pin p hp).1;rw [z,hs] at ho;cases ho
theorem Inv.fly {h':Heap} (I:Inv X pins σ H s) (hstk:X.stack=X.env::X.outer) (hf:X.env.frame=some X.env.locals)
  (k:∀b o,s.heap.get? b=some o→b∉kO X.stack→(H b≠none∨(∃o,X.s₀.heap.get? b=some o)∨∃p∈X.pn++pins,p.1=b)→h'.get? b=some o) (up:s.heap.UpToSlots h'):Inv X pins σ H {s with heap:=h'}:=by
 have hfs:kO X.stack=X.env.locals::X.fs:=by rw [hstk];unfold kO;rw [gu,hf];rfl
 have cellK:∀c v,s.heap.IsCell c v→h'.IsCell c v:=fun c v ⟨o,ho,hd⟩=>by
  obtain ⟨sl,e⟩:=up c o ho (fun vs q=>by rw [hd] at q;cases q);exact ⟨_,e,hd⟩
 have JX:∀b,H b≠none→b∉kO X.stack:=fun b hb z=>hb (I.stkFree b z)
 refine ⟨I.ok,I.os,I.bare,I.base.go (fun b o q n _ z=>k b o q (fun m=>?_) (.inr (.inl z))) (fun b o q n z=>?_),?_,fun x c e=>?_,I.free,I.freeC,fun p hp=>?_,I.hok.keepT fun b u hb q=>k b u q (JX b hb) (.inl hb),I.len⟩
 ·rw [hfs] at m
  rcases ax.mp m with m|m
  ·obtain ⟨o',z⟩:=z;exact absurd (ao (au z) I.ok.above) (by rw [m];exact aV _)
  ·exact n m
 ·obtain ⟨_,o',ho',hd⟩:=I.stack.mem (show b∈kO X.stack from by rw [hfs];exact ay _ n);rw [q] at ho';cases ho'
  exact up b o q hd
 ·obtain ⟨m,hn,hl⟩:=I.loc;refine ⟨m,up.ns hn,fun i x v h1 h2 h3=>?_⟩;obtain ⟨u,r,l⟩:=hl i x v h1 h2 h3;refine ⟨u,r,?_⟩
  rcases l with l|⟨l1,c,l2,l3⟩
  ·exact .inl l
  ·exact .inr ⟨l1,c,l2,cellK c _ l3⟩
 ·obtain ⟨v,q⟩:=I.cell x c e;exact ⟨v,cellK c v q⟩
 ·obtain ⟨h1,h2,h3,h4,h5⟩:=I.pin p hp;refine ⟨k p.1 p.2 h1 (fun m=>?_) (.inr (.inr ⟨p,hp,rfl⟩)),h2,h3,h4,h5⟩;rw [hfs] at m
  rcases ax.mp m with m|m
  ·exact h3 m
  ·exact h4 m
end
def lO (X:Cx) (e:Value):Cx:={X with A:=X.A.mark (some e),calm:=false,xe:=fun _ _=>False}
section
variable {X:Cx} {pins:List (Addr×Obj)} {σ:St} {H:Hp} {s:Shared} {e:Value}
theorem Inv.intoSuite (I:Inv X pins σ H s) (e:Value):Inv (lO X e) pins σ H s :=
 ⟨⟨I.ok.mod,I.ok.kind,I.ok.glob,I.ok.blt,I.ok.above,I.ok.inj,I.ok.has,I.ok.cab,fun z=>absurd (show false=true from z) (by decide),I.ok.frames,I.ok.stk,I.ok.exf,I.ok.bs,I.ok.bsz,I.ok.noex,I.ok.exfs,I.ok.funs,I.ok.frf⟩,I.os,I.bare,I.base,I.loc,I.cell,I.free,I.freeC,I.pin,I.hok,I.len⟩
theorem Inv.outSuite (ok:X.Ok) (I:Inv (lO X e) pins σ H s):Inv X pins σ H s:=⟨ok,I.os,I.bare,I.base,I.loc,I.cell,I.free,I.freeC,I.pin,I.hok,I.len⟩
theorem SP.outSuite (ok:X.Ok) {D:Ends} {f:Flow} {s':Shared} (h:SP (lO X e) pins D f s'):SP X pins D f s':=by
 cases f with
 |next=>obtain ⟨σ',H',I,q⟩:=h;exact ⟨σ',H',I.outSuite ok,q⟩
 |brk=>obtain ⟨σ',H',I,q⟩:=h;exact ⟨σ',H',I.outSuite ok,q⟩
 |cont=>obtain ⟨σ',H',I,q⟩:=h;exact ⟨σ',H',I.outSuite ok,q⟩
 |ret u=>obtain ⟨v,σ',H',I,r,q⟩:=h;exact ⟨v,σ',H',I.outSuite ok,r,q⟩
end
def VS (C:Addr) (tb:(St→Value→Hp→Prop)→TS) (ts:TS):TS:=fun D σ H=>∃R:St→Value→Hp→Prop,tb R D σ H∧∀σ' c H',R σ' c H'→c=.ref C∧ts D σ' H'
theorem TW {body:List Stmt} {x:Str} {C:Addr} {np hpos pos:Pos} {b₀:Stmt} {suite:List Stmt} {tb:(St→Value→Hp→Prop)→TS} {ts:TS} (hex:X.ex=[]) (hstk:X.stack=X.env::X.outer) (hf:X.env.frame=some X.env.locals)
  (hg:Gl X x) (hm:X.mg x=some (.ref C)) (hc:gN X.K C) (hb:∀pins R,gF (ZY X pins R) R→PSs (ZY X pins R) body (tb R)) (hs:∀e,PSs (lO X e) (b₀::suite) ts) (hdb:(x == ("__debug__":Str))=false:=by decide) :
  PS X (.Try body [.ExceptHandler (some (.Name x np)) none (b₀::suite) hpos] [] [] pos) (VS C tb ts):=by
 intro pins s σ H D I h;obtain ⟨R,h1,h2⟩:=h;refine wpAny_Try_except (bv (hb pins R (O4 hex) [] s σ H D I.intoTry h1) (fun f s1 q=>?_) (fun v s1 q=>?_))
 ·have q':=q.outTry;cases f with
  |next=>exact hV q'
  |brk=>exact q'
  |cont=>exact q'
  |ret u=>exact q'
 ·obtain ⟨a,C',σ',H',rfl,J,⟨B,a0,fl,ground⟩,ha,_,r⟩:=q;obtain ⟨e1,h3⟩:=h2 σ' (.ref C') H' r;cases e1;have fl0:Heap.FlyingW B (X.env::X.outer) a (.ref C) a0 s1.heap:=by rw [hstk] at fl;exact fl
  have hfr:X.A.frames=some (X.env::X.outer):=by rw [← hstk];exact J.ok.frames
  refine wpAny_looks_onW hfr hf fl0 fun h4 held4 up4=>?_
  refine wpAny_landsW held4 fun h5 fl5 up5=>?_
  have J5:Inv X pins σ' H' {s1 with heap:=h5}:=J.fly hstk hf (fun b o q n z=>fl5.1 b o (ground b o q n z)) (up4.trans up5);obtain ⟨ob,hob,hobc⟩:=fl5.there;obtain ⟨tl,N,nm,q,bs,hdct,sn,sub,ab,col,dd,k0,k1,k2,k3,k5,mN,_,hC,hN,hni,T⟩:=DY J5.ok.mod.kin hc;refine wpAny_handleBy_cons (codeAny_handlers_test (bR (J5.intoSuite (.ref a)) hg hm ?_ hdb)) (by intro q;cases q);obtain ⟨hh,g,d,tk,os⟩:=s1;refine wpAny_excMatches_sub_self (J5.bk _ _ hC) hob hobc (T.hasType PySem.F.excBase_ValueError.hasBase) (codeAny_handlers_suite ?_);refine lands_againW fl5 fun h6 fl6 up6=>?_
  have J6:Inv X pins σ' H' {heap:=h6,gens:=g,drawn:=d,toks:=tk,os:=os}:=J.fly hstk hf (fun b o q n z=>fl6.1 b o (ground b o q n z)) ((up4.trans up5).trans up6);exact bv (hs (.ref a) pins _ σ' H' D (J6.intoSuite _) h3) (fun f s' q=>q.outSuite J6.ok) fun _ _ z=>False.elim z
end L2
namespace L2
open PySem PySem.Spec PyProof.Rows
section
variable {P:Program} {w:World} {K:PySem.W.Frag} {mg:Str→Option Value} {base:Heap}
theorem Fun.okX {x qual:Str} {st:Stmt} {f:Addr} {fd:FuncData} {N ps:List Str} {k:Nat} {sp:Sp} (F:Fun K x qual st f fd) (S:FnScope N ps (jM st)) (len:∀vs H Q E,sp vs H Q E→vs.length=ps.length)
  (hbody:∀(cdv:Value) (A:Around) (outer:List Env) (s:Shared) (H:Hp) (vs:List V) (Q:VK) (E:XK),Room k (A.deeper (envOfC qual (jM st) s.heap.objs.size f cdv))→sp vs H Q E→
   ∃t,PSs (vR (vT P w) P w K mg base N qual (jM st) f cdv A outer s H E) (kD st) t∧t {nx:=fun _ H'=>Q .non H',rt:=Q} (start N vs) H):FnOk P w K mg base (vT P w) (k+1) f fd ps sp:=by
 obtain ⟨oc,od,kV,doc,pm,an,cdv,ct,osl,rfl,lk,hcd⟩:=F.ex;exact mR lk hcd S len fun A outer s H vs Q E hr hsp=>hbody cdv A outer s H vs Q E hr hsp
theorem FnOk.noX {k:Nat} {f:Addr} {fd:FuncData} {ps:List Str} {sp sp':Sp} (F:FnOk P w K mg base (vT P w) k f fd ps sp) (h:∀vs H Q E,sp' vs H Q E→sp vs H Q (fun _ _ _=>False)):FnOk P w K mg base jK k f fd ps sp' :=
 ⟨fun vs H Q E q=>F.len vs H Q _ (h _ _ _ _ q),fun A outer s H args us vs Q E hr he hb hv hs=>gx (F.run A outer s H args us vs Q _ hr he hb hv (h _ _ _ _ hs)) fun r s' hq=>by
  cases r with
  |ok fl=>cases fl<;>exact hq
  |error e=>obtain ⟨_,_,_,_,_,_,_,_,_,_,_,z⟩:=hq;exact z⟩
end
section
variable {X:Cx}
end
section
variable {X:Cx} {pins:List (Addr×Obj)} {σ:St} {H:Hp} {s:Shared}
end
end L2
namespace L2
open PySem PySem.Spec PySem.Calls PyProof.Rows PySem.W
section
variable {prog:Program} {w:World} {A:Around} {E:Value→Shared→Prop} {h:Heap} {g:Array GenState} {d:Drawn} {t:Nat} {os:OsState} {a C:Addr} {o:Obj} {K:PySem.W.Frag}
end
section
variable {X:Cx}
end
end L2
namespace L2
open PySem PySem.Spec PyProof.Rows
section
variable {X:Cx} {x:Str} {C:Addr} {pos p:Pos} {e:Expr} {es:List Expr} {t:TA}
end
section
variable {X:Cx}
end
section
variable {X:Cx} {R:St→Value→Hp→Prop} {k k':Nat} {x m:Str} {C:Addr} {ps:List Str} {sp:Sp} {p pos apos:Pos} {o e:Expr} {es:List Expr} {ta:TE} {t:TA}
theorem EW {CX:vS} {P:Program} {w:World} {K:PySem.W.Frag} {mg:Str→Option Value} {base:Heap} {N:List Str} {qual:Str} {scope:Scope} {f:Addr} {cd:Value} {A:Around} {outer:List Env} {s:Shared} {H:Hp} {E:XK} :
  PassesOwn (model (vR CX P w K mg base N qual scope f cd A outer s H E).prog (vR CX P w K mg base N qual scope f cd A outer s H E).w) (vR CX P w K mg base N qual scope f cd A outer s H E).A (vR CX P w K mg base N qual scope f cd A outer s H E).env (vR CX P w K mg base N qual scope f cd A outer s H E).xe:=by
 intro e s' h;exact PassesOwn.leaving (Q₁:=fun e s''=>CX outer H s E e s'') (E₁:=fun e' s''=>CX outer H s E e' s'') e s' h
end
section
variable {κ:Type} [DecidableEq κ]
def v7 (kvs:List (κ×V)) (k:κ):Option V:=(kvs.find? fun kv=>decide (kv.1=k)).map (·.2)
def zZ (kvs:List (κ×V)) (k:κ) (v:V):List (κ×V) :=
 if (kvs.any fun kv=>decide (kv.1=k))=true then kvs.map (fun kv=>if kv.1=k then (kv.1,v) else kv) else kvs++[(k,v)]
theorem valV_nil {k:κ}:v7 ([]:List (κ×V)) k=none:=rfl
theorem bL {p:κ×V} {r:List (κ×V)} {k:κ} (e:p.1=k):v7 (p::r) k=some p.2:=by simp [v7,cy,e]
theorem zH {p:κ×V} {r:List (κ×V)} {k:κ} (e:¬p.1=k):v7 (p::r) k=v7 r k:=by simp [v7,cy,e]
theorem BU (k:κ):∀kvs:List (κ×V),(kvs.any fun kv=>decide (kv.1=k))=(v7 kvs k).isSome
 |[]=>rfl
 |p::r=>by
  rw [ie]
  by_cases e:p.1=k
  ·simp only [bL e,aK e,Bool.true_or,Option.isSome_some]
  ·rw [zH e,aI e,Bool.false_or];exact BU k r
theorem NA (kvs:List (κ×V)) (k:κ) (v:V):(zZ kvs k v).length≤kvs.length+1:=by
 unfold zZ
 split
 ·rw [ae];omega
 ·rw [ag,aZ,List.length_nil];omega
theorem lH {kvs:List (κ×V)} {k:κ} (v:V) (h:v7 kvs k=none):zZ kvs k v=kvs++[(k,v)]:=by
 unfold zZ;rw [BU,h];exact if_neg (by decide)
theorem KV.val {kvs:List (κ×V)} {vs:List (κ×Value)} (r:KV kvs vs) (k:κ):RelO (v7 kvs k) (valueAt vs k):=by
 unfold KV at r
 induction r with
 |nil=>exact True.intro
 |@cons p q ps qs h t ih =>
  obtain ⟨h1,h2⟩:=h
  by_cases e:p.1=k
  ·have e':q.1=k:=h1.symm.trans e;have b:valueAt (q::qs) k=some q.2:=by simp [valueAt,cy,e']
   rw [bL e,b];exact h2
  ·have e':¬q.1=k:=fun z=>e (h1.trans z)
   have b:valueAt (q::qs) k=valueAt qs k:=by simp [valueAt,cy,e']
   rw [zH e,b];exact ih
theorem KV.any {kvs:List (κ×V)} {vs:List (κ×Value)} (r:KV kvs vs) (k:κ):(kvs.any fun kv=>decide (kv.1=k))=vs.any fun kv=>decide (kv.1=k):=by
 unfold KV at r
 induction r with
 |nil=>rfl
 |cons h t ih=>rw [ie,ie,ih,h.1]
theorem KV.repl {kvs:List (κ×V)} {vs:List (κ×Value)} (r:KV kvs vs) (k:κ) {y:V} {u:Value} (ry:RelV y u) :
  KV (kvs.map fun kv=>if kv.1=k then (kv.1,y) else kv) (vs.map fun kv=>if kv.1=k then (kv.1,u) else kv):=by
 unfold KV at r ⊢
 induction r with
 |nil=>exact .nil
 |@cons p q ps qs h t ih =>
  rw [bf,bf];refine .cons ?_ ih;obtain ⟨h1,h2⟩:=h
  by_cases e:p.1=k
  ·rw [if_pos e,if_pos (h1.symm.trans e)];exact ⟨h1,ry⟩
  ·rw [if_neg e,if_neg (fun z=>e (h1.trans z))];exact ⟨h1,h2⟩
theorem KV.put {kvs:List (κ×V)} {vs:List (κ×Value)} (r:KV kvs vs) (k:κ) {y:V} {u:Value} (ry:RelV y u):KV (zZ kvs k y) (stored vs k u):=by
 unfold zZ stored;rw [r.any k]
 by_cases e:(vs.any fun kv=>decide (kv.1=k))=true
 ·rw [if_pos e,if_pos e];exact r.repl k ry
 ·rw [if_neg e,if_neg e];exact Paired.snoc r ⟨rfl,ry⟩
end
variable {w:World}
theorem uN {P:Program} {k:kF} {u:Value} (r:RelV (kV k) u):(zJ P w).is k u=true:=by
 cases k with
 |inl i=>obtain ⟨t,e⟩:=(show ∃t,u=Value.int i t from r);subst e;exact M7 P w i t
 |inr x=>obtain ⟨t,e⟩:=(show ∃t,u=Value.str x t from r);subst e;exact M6 P w x t
theorem BB {P:Program} {w:World}:∀{ks:List kF} {us:List Value},Vals (ks.map kV) us→ItemsAre (zJ P w) ks us
 |[],_,r=>by rw [List.map_nil] at r;cases r;exact .nil
 |k::ks,_,r=>by
  rw [bf] at r;cases r with
  |cons h t=>exact .cons (uN h) (BB t)
abbrev KT (H:Hp):List (List kF×V)→List (List kF×Addr×Value)→Prop:=Paired fun p q=>p.1=q.1∧H q.2.1=some (.tup (p.1.map kV))∧RelV p.2 q.2.2
variable {H:Hp}
theorem KT.val {kvs:List (List kF×V)} {xs:List (List kF×Addr×Value)} (r:KT H kvs xs) (k:List kF):RelO (v7 kvs k) ((atKey xs k).map (·.2)):=by
 induction r with
 |nil=>exact True.intro
 |@cons p q ps qs h t ih =>
  obtain ⟨h1,_,h2⟩:=h
  by_cases e:p.1=k
  ·have e':q.1=k:=h1.symm.trans e;have b:atKey (q::qs) k=some q.2:=by simp [atKey,cy,e']
   rw [bL e,b];exact h2
  ·have e':¬q.1=k:=fun z=>e (h1.trans z)
   have b:atKey (q::qs) k=atKey qs k:=by simp [atKey,cy,e']
   rw [zH e,b];exact ih
section
variable {P:Program} {w:World} {H:Hp} {h:Heap} {a:Addr}
theorem FD {u:HO} (ok:HOk P w H h) (e:Rd H a u):ObjOk P w H h a u:=e.ok ok
theorem uR {kvs:List (kF×V)} (ok:HOk P w H h) (e:Rd H a (.dK kvs)):kvs.length≤sizeLine∧(a == sysModules)=false∧∃vs,KV kvs vs∧h.DictOf (zJ P w) a vs :=
 show ObjOk P w H h a (.dK kvs) from FD ok e
theorem VL {kvs:List (kF×V)} (ok:HOk P w H h) (e:H a=some (.dK kvs)):kvs.length≤sizeLine∧(a == sysModules)=false∧∃vs,KV kvs vs∧h.DictOf (zJ P w) a vs:=uR ok (.inl e)
theorem E1 {ks:List kF} (ok:HOk P w H h) (e:H a=some (.tup (ks.map kV))):(tupleKind (zJ P w)).is h ks a:=by
 obtain ⟨_,its,r,o,h1,h2,n,h3⟩:=(show ObjOk P w H h a (.tup (ks.map kV)) from ok a _ e);exact ⟨o,its.toArray,n,h1,h2,h3,by simpa using BB r⟩
theorem FJ {kvs:List (List kF×V)} (ok:HOk P w H h) (e:Rd H a (.dT kvs)):kvs.length≤sizeLine∧(a == sysModules)=false∧
  ∃xs,KT H kvs xs∧h.DictOfH (tupleKind (zJ P w)) a xs:=by
 obtain ⟨z,y,xs,r,o,es,ep,h1,h2,h3,h4,h5⟩:=(show ObjOk P w H h a (.dT kvs) from FD ok e);refine ⟨z,y,xs,r,o,es,ep,h1,h2,h3,h4,fun x hx=>?_,h5⟩;have all:∀{l:List (List kF×V)} {m:List (List kF×Addr×Value)},KT H l m→∀x∈m,(tupleKind (zJ P w)).is h x.1 x.2.1:=by
  intro l m q
  induction q with
  |nil=>intro x hx;exact nomatch hx
  |@cons p q ps qs hq t ih =>
   intro x hx
   rcases ax.mp hx with e|hx
   ·subst e;exact E1 ok (by rw [← hq.1];exact hq.2.1)
   ·exact ih x hx
 exact all r x hx
end
def DGet (H:Hp) (a:Addr) (y:V) (r:Option V):Prop :=
 (∃kvs k,Rd H a (.dK kvs)∧y=kV k∧r=v7 kvs k)∨∃kvs k b,Rd H a (.dT kvs)∧y=.ref b∧H b=some (.tup (k.map kV))∧r=v7 kvs k
theorem DGet.k {a:Addr} {kvs:List (kF×V)} {k:kF} (e:H a=some (.dK kvs)):DGet H a (kV k) (v7 kvs k):=.inl ⟨kvs,k,.inl e,rfl,rfl⟩
section
variable {X:Cx} {pins:List (Addr×Obj)} {σ:St} {H:Hp} {s:Shared} {a:Addr} {y v:V} {u r:Value} {o:Option V} {A:Around} {E:Value→Shared→Prop}
theorem Inv.big (I:Inv X pins σ H s):sysModules<s.heap.objs.size:=by
 have h:mainGlobals<s.heap.objs.size:=(I.mod.glob.keeps I.bk).lt;exact Nat.lt_trans (by decide) h
theorem PD {Q:Value→Shared→Prop} (hu:A.units+1<cLine) (I:Inv X pins σ H s) (g:DGet H a y (some v)) (ry:RelV y u) (h:∀w' s',Inv X pins σ H s'→RelV v w'→Q w' s') :
  wpAny (model X.prog X.w) A (getItem (.ref a) u) Q E s:=by
 rcases g with ⟨kvs,k,e,ey,l⟩|⟨kvs,k,b,e,ey,eb,l⟩
 ·subst ey;obtain ⟨z,hd,vs,rel,dd⟩:=uR I.hok e;obtain ⟨w',hw,rw'⟩:=RelO.some_of (v:=v) (o:=valueAt vs k) (by rw [l];exact rel.val k);exact wpAny_getItem_of (uN ry) dd.mapOf hw (h w' _ (I.tok _) rw')
 ·subst ey;cases (show u=Value.ref b from ry);obtain ⟨z,hd,xs,rel,dd⟩:=FJ I.hok e;obtain ⟨w',hw,rw'⟩:=RelO.some_of (v:=v) (o:=(atKey xs k).map (·.2)) (by rw [l];exact rel.val k);obtain ⟨p,hp,hp2⟩:=ge.mp hw;refine wpAny_getItem_heap (tupleKind_room_in1 hu) (E1 I.hok eb) dd hp ?_;rw [hp2];exact h w' _ (I.tok _) rw'
theorem tU {h':Heap} {t':Nat} {ob:HO} (I:Inv X pins σ H s) (mu:gU (H a)) (hs:Heap.SameBut a s.heap h') (he:∃q,h'.get? a=some q) (new:ObjOk X.prog X.w (upd H a ob) h' a ob) :
  Inv X pins σ (upd H a ob) {s with heap:=h',toks:=t'} :=
 I.write (x:=a) (e:=a) mu (.inl rfl) (fun b q hb z=>(hs.2 b hb).trans z) he new
theorem UL {P:Program} {w:World} {H':Hp} {h':Heap} {kvs:List (kF×V)} {vs:List (kF×Value)} (z:kvs.length≤sizeLine) (hd:(a == sysModules)=false) (rel:KV kvs vs) (dd:h'.DictOf (zJ P w) a vs) :
  ObjOk P w H' h' a (.dK kvs):=⟨z,hd,vs,rel,dd⟩
end
section
variable {X:Cx} {pins:List (Addr×Obj)} {σ:St} {H:Hp} {s:Shared} {a:Addr} {kvs:List (kF×V)} {k:kF} {u:Value} {A:Around} {E:Value→Shared→Prop}
end
def wB (i:Expr):Prop:=∀ov iv,subscripted i false ov iv=operate [ov,iv] (getItem ov iv)
variable {pos:Pos}
theorem C3 {prog:Program} {A:Around} {E:Value→Shared→Prop} {s:Shared} {env:Env} {value slice:Expr} {T id:String} {Q:Value→Shared→Prop}
  (hl:typeLookup (.type T) "__getitem__"=pure (some (.builtin id))) (hs:wB slice)
  (h:wpAny (model prog w) A (eval value env) (fun o s₁=>wpAny (model prog w) A (eval slice env) (fun i s₂=>s₂.TypeIs o T∧wpAny (model prog w) A (getItem o i) Q E s₂) E s₁) E s) :
  wpAny (model prog w) A (eval (.Subscript value slice pos) env) Q E s:=by
 refine Subscript_ (bv h (fun o s₁ h₁=>bv h₁ (fun i s₂ h₂=>?_) fun _ _ x=>x) fun _ _ x=>x);obtain ⟨hT,h₂⟩:=h₂;unfold subscriptTail;refine ac ?_;rw [getitemInPython_of_ne hT.not_modules];refine ac (ig hT hl ?_);have fin:wpAny (model prog w) A (subscripted slice false o i) (fun r s₃=>wpAny (model prog w) A (letTemporaryGo value o r >>= fun _=>pure r) Q E s₃) E s₂:=by
  rw [hs o i];exact wpAny_operating (bv h₂ (fun r s₃ h₃=>ac (wpAny_letTemporaryGo (am h₃))) fun _ _ x=>x)
 first
  |exact am (ac fin)
  |exact ac (am (ac fin))
  |exact ac fin
variable {X:Cx}
theorem NB {pins:List (Addr×Obj)} {σ:St} {s:Shared} {a:Addr} {y:V} {o:Option V} (I:Inv X pins σ H s) (g:DGet H a y o):s.TypeIs (.ref a) "dict":=by
 rcases g with ⟨kvs,k,e,_,_⟩|⟨kvs,k,b,e,_,_,_⟩
 ·obtain ⟨_,_,vs,_,dd⟩:=uR I.hok e;exact dd.typeIs
 ·obtain ⟨_,_,xs,_,dd⟩:=FJ I.hok e;exact dd.typeIs
def UX (td ty:TE):TE:=fun σ H Q=>td σ H fun x H1=>ty σ H1 fun y H2=>∃a v,x=.ref a∧DGet H2 a y (some v)∧Q v H2
section
variable {X:Cx} {o i e value:Expr} {pos pos' tpos:Pos} {td ty tv:TE}
theorem DN (hu:X.A.units+1<cLine) (ho:PE X o td) (hi:PE X i ty) (hs:wB i):PE X (.Subscript o i pos) (UX td ty):=by
 intro pins s σ H Q I h;refine C3 PySem.F.slot_dict_getitem.lookup hs (jN (ho pins s σ H _ I h) fun u s1 ⟨x,H1,I1,rx,q1⟩=>jN (hi pins s1 σ H1 _ I1 q1) fun iv s2 ⟨y,H2,I2,ry,a,v,ex,g,q2⟩=>?_);subst ex;obtain rfl:u=Value.ref a:=rx;exact ⟨NB I2 g,PD hu I2 g ry fun w' s3 I3 rw'=>⟨v,H2,I3,rw',q2⟩⟩
end
theorem RQ {P:Program} (h:Heap) (hb:sysModules<h.objs.size):ObjOk P w H (h.push {cls:=.type "dict",data:=.dict #[]}) h.objs.size (.dK []) :=
 ⟨aY _,bo.mpr (Ne.symm (aF hb)),[],.nil,Heap.DictOf.new h⟩
section
variable {X:Cx} {pos:Pos}
end
def tV:List (TE×TE)→St→Hp→(List (V×V)→Hp→Prop)→Prop
 |[],_,H,Q=>Q [] H
 | (tk,tv)::r,σ,H,Q=>tk σ H fun x H1=>tv σ H1 fun y H2=>tV r σ H2 fun ps H3=>Q ((x,y)::ps) H3
abbrev VV:List (V×V)→List (Value×Value)→Prop:=Paired fun p q=>RelV p.1 q.1∧RelV p.2 q.2
def nO (X:Cx) (pos:Pos) (keys:List (Option Expr)) (values:List Expr) (trs:List (TE×TE)):Prop :=
 ∀(pins:List (Addr×Obj)) (s:Shared) (σ:St) (H:Hp) (Q:List (V×V)→Hp→Prop),Inv X pins σ H s→tV trs σ H Q→
  wpAny (model X.prog X.w) X.A (evalPairs (pairTrees keys values X.env pos)) (fun vs s'=>∃ps H',Inv X pins σ H' s'∧VV ps vs∧Q ps H') X.xe s
theorem DI:nO X pos [] [] []:=fun pins s σ H Q I h=>pairTrees_nil_walk ⟨[],H,I,.nil,h⟩
theorem fM {k v:Expr} {ks:List (Option Expr)} {vs:List Expr} {tk tv:TE} {trs:List (TE×TE)} (hk:PE X k tk) (hv:PE X v tv) (hr:nO X pos ks vs trs) :
  nO X pos (some k::ks) (v::vs) ((tk,tv)::trs):=fun pins s σ H Q I h =>
 pairTrees_cons_walk (jN (hk pins s σ H _ I h) fun u s1 ⟨x,H1,I1,rx,q1⟩=>jN (hv pins s1 σ H1 _ I1 q1) fun w2 s2 ⟨y,H2,I2,ry,q2⟩ =>
  jN (hr pins s2 σ H2 _ I2 q2) fun ws s3 ⟨ps,H3,I3,rel,q3⟩=>⟨(x,y)::ps,H3,I3,.cons ⟨rx,ry⟩ rel,q3⟩)
def dR (kvs more:List (kF×V)):List (kF×V):=more.foldl (fun acc kv=>zZ acc kv.1 kv.2) kvs
theorem KV.merge:∀{more:List (kF×V)} {rs:List (kF×Value)} {kvs:List (kF×V)} {vs:List (kF×Value)},KV more rs→KV kvs vs→KV (dR kvs more) (merged vs rs):=by
 intro more rs kvs vs r;unfold KV at r
 induction r generalizing kvs vs with
 |nil=>intro q;exact q
 |@cons p q ps qs h t ih =>
  intro r0;have e:KV (zZ kvs p.1 p.2) (stored vs q.1 q.2):=by
   have:=r0.put p.1 h.2;rw [← h.1];exact this
  exact ih e
theorem xC:∀(more kvs:List (kF×V)),(dR kvs more).length≤kvs.length+more.length
 |[],kvs=>by show kvs.length≤kvs.length+0;omega
 |p::r,kvs=>by
  have h1:=xC r (zZ kvs p.1 p.2);have h2:=NA kvs p.1 p.2;show (dR (zZ kvs p.1 p.2) r).length≤_;rw [aZ];omega
theorem AD {P:Program} {w:World}:∀{kvs:List (kF×V)} {ws:List (Value×Value)},VV (kvs.map fun kv=>(kV kv.1,kv.2)) ws→∃rs,Carries (zJ P w) ws rs∧KV kvs rs
 |[],_,r=>by rw [List.map_nil] at r;cases r;exact ⟨[],True.intro,.nil⟩
 |p::kvs,_,r=>by
  rw [bf] at r;cases r with
  |@cons a b as bs h t =>
   obtain ⟨rs,c,q⟩:=AD (P:=P) (w:=w) t;obtain ⟨b1,b2⟩:=b;exact ⟨(p.1,b2)::rs,⟨uN h.1,rfl,c⟩,.cons ⟨rfl,h.2⟩ q⟩
def UV (trs:List (TE×TE)):TE:=fun σ H Q=>∀p,H p=none→tV trs σ (upd H p (.dK [])) fun ps H2=>H2 p=some (.dK [])∧∃kvs:List (kF×V),ps=kvs.map (fun kv=>(kV kv.1,kv.2))∧kvs.length≤15∧Q (.ref p) (upd H2 p (.dK (dR [] kvs)))
theorem SK {keys:List (Option Expr)} {values:List Expr} {trs:List (TE×TE)} (h:nO X pos keys values trs) (hall:keys.all (·.isSome)=true) (hl:keys.length=values.length) (h0:keys≠[])
  (h15:keys.length≤15):PE X (.Dict keys values pos) (UV trs):=by
 intro pins s σ H Q I q;have hn:=I.hok.fresh (ar s.heap.objs.size);have I1:=I.laid (a:=s.heap.objs.size) (o:=.dK []) (h':=s.heap.push {cls:=.type "dict",data:=.dict #[]}) (t':=s.toks) (fun _ _ q=>aj _ q) (ar _) (RQ s.heap I.big);refine wpAny_Dict_walk (knd:=zJ X.prog X.w) hall hl h0 h15 (jN (h pins _ σ _ _ I1 (q _ hn)) fun ws s2 ⟨ps,H2,I2,rel,e,kvs,ep,lk,q2⟩=>?_);subst ep;obtain ⟨rs,c,rk⟩:=AD (P:=X.prog) (w:=X.w) rel;obtain ⟨z,hd,vs0,r0,dd⟩:=VL I2.hok e;cases r0;refine ⟨rs,c,dd,fun h' dd' hs=>⟨.ref s.heap.objs.size,_,?_,rfl,q2⟩⟩;have hz:(dR [] kvs).length≤sizeLine:=by
  have h1:=xC kvs [];rw [List.length_nil] at h1;rw [kr];omega
 have he:∃q,h'.get? s.heap.objs.size=some q:=let ⟨q,_,_,hq,_⟩:=dd';⟨q,hq⟩
 exact tU I2 (by rw [e];exact True.intro) hs he (UL hz hd (rk.merge .nil) dd')
end L2
namespace L2
open PySem PySem.Spec PyProof.Rows
section
variable {X:Cx} {tg:Expr}
end
section
variable {X:Cx}
end
inductive Kd where
 |plain|basin|pump
structure MeK (P:Program) (w:World) (K:PySem.W.Frag) (mg:Str→Option Value) (base:Heap) (k:Nat) (cs:Kd→Addr) (m:Str) (ps:List Str) (ss:Kd→Sp):Prop where
 ex:∀kd,MeD P w K mg base k (cs kd) m ps (ss kd)
def EH (cs:Kd→Addr) (m:Str) (ss:Kd→Sp) (ta:TE) (t:TA):TE:=fun σ H Q=>ta σ H fun x H1=>∃(kd:Kd) (a dx:Addr) (fs:List (Str×V)),x=.ref a∧H1 a=some (.ins (cs kd) dx fs)∧fs.lookup m=none∧
 t σ H1 fun vs H2=>ss kd (x::vs) H2 Q E0
section
variable {X:Cx} {k k':Nat} {x m:Str} {cs:Kd→Addr} {ps:List Str} {ss:Kd→Sp} {p pos apos:Pos} {o e:Expr} {es:List Expr} {ta:TE} {t:TA}
theorem FE {pl:Sem Bool} (M:MeK X.prog X.w X.K X.mg X.base k cs m ps ss) (hr:Room k' X.A) (ho:PE X o ta) (ha:PA X (e::es) t) (hk:k≤k':=by decide)
  (hst:starEach (e::es) X.env=(false,eval e X.env)::starEach es X.env:=by rfl) (hpl:(backTo pos (starEach es X.env)).any (·.1)=false:=by rfl)
  (ht:eval (.Call (.Attribute o m apos) (e::es) [] pos) X.env=(do
   let ov ← eval o X.env
   standAt apos.atName
   let (f,first) ← holding [ov] (getMethod ov m pl)
   callWith pos f first (backTo pos (starEach (e::es) X.env)) (backToKw pos (keywordEach [] X.env))):=by rfl) :
  PE X (.Call (.Attribute o m apos) (e::es) [] pos) (EH cs m ss ta t):=by
 intro pins s σ H Q I h;refine fj (pl:=pl) (jN (ho pins s σ H _ I h) fun u s1 ⟨x,H1,I1,rx,kd,a,dx,fs,ex,ea,l,q⟩=>?_) ht;obtain ⟨c,f,fd,hm,G,b⟩:=(M.ex kd).ex;subst ex;obtain rfl:u=Value.ref a:=rx;refine i4 I1 ea c hm l ?_;refine ei (first:=[.ref a]) (h₀:=X.base) I.ok.mod.kin hm.kp (jN (ha pos pins s1 σ H1 _ I1 q) fun us s2 ⟨vs,H2,I2,r,q2⟩=>⟨I2.kIn,?_⟩) hst hpl;exact dP (us:=.ref a::us) (vs:=.ref a::vs) (dvs:=[]) G (hr.mono hk) b .nil zW I2 (.cons rfl r) (by rw [br];exact q2)
theorem EV {pl:Sem Bool} (M:MeK X.prog X.w X.K X.mg X.base k cs m ps ss) (hr:Room k' X.A) (ho:PE X o ta) (hk:k≤k':=by decide)
  (ht:eval (.Call (.Attribute o m apos) [] [] pos) X.env=(do
   let ov ← eval o X.env
   standAt apos.atName
   let (f,first) ← holding [ov] (getMethod ov m pl)
   callWith pos f first (backTo pos (starEach [] X.env)) (backToKw pos (keywordEach [] X.env))):=by rfl) :
  PE X (.Call (.Attribute o m apos) [] [] pos) (EH cs m ss ta QD):=by
 intro pins s σ H Q I h;refine fj (pl:=pl) (jN (ho pins s σ H _ I h) fun u s1 ⟨x,H1,I1,rx,kd,a,dx,fs,ex,ea,l,q⟩=>?_) ht;obtain ⟨c,f,fd,hm,G,b⟩:=(M.ex kd).ex;subst ex;obtain rfl:u=Value.ref a:=rx;refine i4 I1 ea c hm l ?_;exact PySem.W.callWith_K0 (first:=[.ref a]) I1.kIn hm.kp (dP (us:=[.ref a]) (vs:=[.ref a]) (dvs:=[]) G (hr.mono hk) b .nil zW I1 (.cons rfl .nil) q)
end
section
variable {X:Cx} {tg:Expr}
end
section
variable {X:Cx}
def V4:V→Option Int→Option Int→Hp→VK→Prop:=fun x lo hi H Q=>∃z:Str,x=.str z∧z.length≤sizeLine∧Q (.str (Txt.slice z lo hi)) H
theorem l7:GF X V4:=by
 intro pins s σ H x v vl vu lo hi sl Q I rx hs pl pu h;obtain ⟨z,rfl,hz,q⟩:=h;obtain ⟨t,rfl⟩:=rx;refine ⟨"str",_,F.slot_str_getitem.lookup,typeIs_str _ _ _,?_⟩;have fin:∀(l u:Option (Int×Tok)),l.map (·.1)=lo→u.map (·.1)=hi→s.heap.IsSlice sl l u none→wpAny (model X.prog X.w) X.A (getItem (.str z t) (.ref sl)) (EP X pins σ Q) X.xe s:=by
  intro l u e1 e2 hsl;subst e1 e2;exact wpAny_getItem_str_slice hsl rfl (post_val_or_str ⟨aG (Txt.slice_le z _ _) hz,fun t' k=>⟨.str (Txt.slice z (l.map (·.1)) (u.map (·.1))),H,I.tok _,⟨t',rfl⟩,q⟩⟩)
 obtain ⟨o,ho,hc,hd⟩:=hs;cases pl with
 |none =>
  cases pu with
  |none=>exact fin none none rfl rfl ⟨o,ho,hc,hd⟩
  |int j tj=>exact fin none (some (j,tj)) rfl rfl ⟨o,ho,hc,hd⟩
 |int i ti =>
  cases pu with
  |none=>exact fin (some (i,ti)) none rfl rfl ⟨o,ho,hc,hd⟩
  |int j tj=>exact fin (some (i,ti)) (some (j,tj)) rfl rfl ⟨o,ho,hc,hd⟩
end
section
variable {X:Cx} {K:PySem.W.Frag} {w:World} {o i:Expr} {pos:Pos} {td ty:TE}
end
inductive DEq (K:PySem.W.Frag) (H:Hp):V→V→Bool→Prop where
 |flat {x y:V} (hx:yU x=true) (hy:yU y=true):DEq K H x y (zD x y)
 |same (a:Addr):DEq K H (.ref a) (.ref a) true
 |tup {a b:Addr} {xs ys:List V} (ne:a≠b) (ha:SqT K H a xs) (hb:SqT K H b ys) (fx:xs.all yU=true) (fy:ys.all yU=true):DEq K H (.ref a) (.ref b) (bC xs ys)
 |lst {a b:Addr} {xs ys:List V} (ne:a≠b) (ha:SqL K H a xs) (hb:SqL K H b ys) (fx:xs.all yU=true) (fy:ys.all yU=true):DEq K H (.ref a) (.ref b) (bC xs ys)
section
variable {X:Cx} {pins:List (Addr×Obj)} {σ:St} {H:Hp} {s:Shared} {A:Around}
theorem DEq.at {x y:V} {u v:Value} {e:Bool} (I:Inv X pins σ H s) (d:DEq X.K H x y e) (rx:RelV x u) (ry:RelV y v) (hu:A.units<cLine):SeqAt.EqAt A s u v e:=by
 cases d with
 |flat hx hy=>exact mG rx ry hx hy
 |same a=>cases rx;cases ry;exact ib _
 |@tup a b xs ys ne ha hb fx fy =>
  cases rx;cases ry
  obtain ⟨its,r,pl,hz⟩:=I.tuple ha;obtain ⟨its2,r2,pl2,hz2⟩:=I.tuple hb;have hl:=r.length;have hl2:=r2.length;have h:=SeqAt.RcAt.tuples (A:=A) (e:=fun j=>zD (xs.getD j .non) (ys.getD j .non)) pl pl2 hu (fun j h1 h2=>mG (QJ r h1) (QJ r2 h2) (lD fx (by rw [hl];simpa using h1)) (lD fy (by rw [hl2];simpa using h2)));have e:((List.range (min its.toArray.size its2.toArray.size)).all (fun j=>zD (xs.getD j .non) (ys.getD j .non))&&its.toArray.size == its2.toArray.size)=bC xs ys:=by
   unfold bC;rw [ak,ak,← hl,← hl2]
  rw [e] at h;exact ii ne h
 |@lst a b xs ys ne ha hb fx fy =>
  cases rx;cases ry
  obtain ⟨its,r,pl,hz⟩:=I.list ha;obtain ⟨its2,r2,pl2,hz2⟩:=I.list hb;have hl:=r.length;have hl2:=r2.length
  by_cases he:xs.length=ys.length
  ·have h:=SeqAt.RcAt.lists (A:=A) (e:=fun j=>zD (xs.getD j .non) (ys.getD j .non)) pl.isList pl2.isList (by rw [ak,ak,← hl,← hl2,he]) hu (fun j h1 h2=>mG (QJ r h1) (QJ r2 h2) (lD fx (by rw [hl];simpa using h1)) (lD fy (by rw [hl2];simpa using h2)));have e:((List.range its.toArray.size).all (fun j=>zD (xs.getD j .non) (ys.getD j .non)))=bC xs ys:=by
    unfold bC;rw [ak,← hl,← he,Nat.min_self,ci,Bool.and_true]
   rw [e] at h;exact ii ne h
  ·have hf:bC xs ys=false:=by
    unfold bC;rw [show (xs.length == ys.length)=false from bo.mpr he,Bool.and_false]
   rw [hf];exact ii ne (SeqAt.RcAt.lists_lengths pl.isList pl2.isList (by rw [ak,ak,← hl,← hl2];exact bne_iff_ne.mpr he) hu)
end
section
variable {X:Cx}
end
theorem fA {X:Cx} (K:PySem.W.Frag) (h:X.K=K:=by rfl):yV X (.type "tuple") (fun xs H Q=>∃p ys,xs=[.ref p]∧((SqL K H p ys∧∀l,H l=none→Q (.ref l) (upd H l (.tup ys)))∨(SqT K H p ys∧Q (.ref p) H))):=by subst h;exact MR
section
variable {X:Cx}
end
section
variable {X:Cx} {tg:Expr}
end
section
variable {X:Cx} {pins:List (Addr×Obj)} {σ:List (Option V)} {H:Hp} {s:Shared} {h':Heap}
theorem Inv.turnedN {t':Nat} {fp:List Addr} (I:Inv X pins σ H s) (k:∀b o,b∉fp→s.heap.get? b=some o→h'.get? b=some o) (hf:∀b∈fp,JW X pins H b):Inv X pins σ H {s with heap:=h',toks:=t'}:=by
 have nit:∀b u,H b=some u→b∉fp:=fun b u e z=>by rw [(hf b z).1] at e;cases e
 have hL:X.env.locals∉fp:=fun z=>(hf _ z).2.1 rfl
 refine I.step (g':=s.gens) (d':=s.drawn) (ch:=fp) (fun b hb=>?_) (fun b o _ _ hc e _=>k b o hc e) (fun b o _ _ hc e _=>⟨o.slots,k b o hc e⟩) (fun _ _ _ _ n=>n)
  (fun b o hc e=>⟨o,k b o hc e⟩) (fun _ _ e=>e) (fun _ _ _ e=>e) (fun b ps e=>⟨#[],by rw [e];simp⟩) (fun m hm=>?_) (fun b u e=>?_) I.bare
 ·obtain ⟨f0,f1,f2,f3,f4,f5⟩:=hf b hb;exact ⟨f3,f1,f4,f5⟩
 ·obtain ⟨o,es,ep,ho,r⟩:=hm;exact ⟨o,es,ep,k _ o hL ho,r⟩
 ·refine (I.hok b u e).stay (fun c v hc q=>k c v ?_ q) (fun _ q=>q) fun _ _ q=>q
  rcases hc with z|z
  ·rw [z];exact nit b u e
  ·exact nit c _ z
theorem Inv.laidN {t':Nat} {fp:List Addr} {a:Addr} {o:HO} (I:Inv X pins σ H s) (k:∀b u,b∉fp→s.heap.get? b=some u→h'.get? b=some u) (hf:∀b∈fp,JW X pins H b) (hp:s.heap.objs.size≤a) (new:ObjOk X.prog X.w (upd H a o) h' a o) :
  Inv X pins σ (upd H a o) {s with heap:=h',toks:=t'}:=by
 have hn:=I.hok.fresh hp;have nit:∀b u,H b=some u→b∉fp:=fun b u e z=>by rw [(hf b z).1] at e;cases e
 have hL:X.env.locals∉fp:=fun z=>(hf _ z).2.1 rfl
 refine I.step (g':=s.gens) (d':=s.drawn) (ch:=fp) (fun b hb=>?_) (fun b o _ _ hc e _=>k b o hc e) (fun b o _ _ hc e _=>⟨o.slots,k b o hc e⟩) (fun b u _ e n=>?_)
  (fun b o hc e=>⟨o,k b o hc e⟩) (fun b xs e=>?_) (fun b u v e=>?_) (fun b ps e=>⟨#[],?_⟩) (fun m hm=>?_) (fun b u e=>?_) I.bare
 ·obtain ⟨f0,f1,f2,f3,f4,f5⟩:=hf b hb;exact ⟨f3,f1,f4,f5⟩
 ·rw [jH (aF (ao (au e) hp))];exact n
 ·rw [jH (q8 e hn)];exact e
 ·rw [jH (q8 e hn)];exact e
 ·rw [jH (q8 e hn),e];simp
 ·obtain ⟨o,es,ep,ho,r⟩:=hm;exact ⟨o,es,ep,k _ o hL ho,r⟩
 ·by_cases hb:b=a
  ·subst hb;rw [jD] at e;cases e;exact new
  ·rw [jH hb] at e;refine (I.hok b u e).stay (fun c v hc q=>k c v ?_ q) (fun c q=>by rw [jH (q8 q hn)];exact q) fun c xs q=>by rw [jH (q8 q hn)];exact q
   rcases hc with z|z
   ·rw [z];exact nit b u e
   ·exact nit c _ z
end
def wS (K:PySem.W.Frag) (a:Addr):It :=
 ⟨fun i H=>∃xs x,SqL K H a xs∧xs[i]?=some x,
  fun i H v H'=>∃T x,v=.ref T∧H T=none∧H'=upd H T (.tup [.int (i:Int),x])∧∀xs,SqL K H a xs→xs[i]?=some x,
  fun i H=>∃xs,SqL K H a xs∧xs.length≤i⟩
theorem OH {P:Program} {w:World} {K:PySem.W.Frag} {elts:List Expr} {x1:Nat} {pos:Pos} {a e it:Addr} (hei:e≠it) :
  Turn P w K (.Tuple elts x1 pos) (wS K a) [e,it] e (fun i h=>(∃old,IsEnum h e it i old)∧h.IsListIter it a i) where
 mem:=by simp
 obj:=fun i h st b hb=>by
  obtain ⟨⟨old,he⟩,⟨o1,e1,c1,d1⟩⟩:=st;simp only [ax,aM,dh] at hb
  rcases hb with rfl|rfl
  ·exact ⟨_,he,fun v y=>by have y':Data.fields _=Data.cell v:=y;cases y'⟩
  ·exact ⟨o1,e1,fun v y=>by rw [d1] at y;cases y⟩
 keep:=fun i h h' st k=>by
  obtain ⟨⟨old,he⟩,h1⟩:=st;exact ⟨⟨old,k _ (by simp) _ he⟩,h1.at fun o e=>k _ (by simp) o e⟩
 item:=by
  intro X hP hw hK hc i pins s σ H E I hf st hg;subst hP hw hK;obtain ⟨⟨old,he⟩,h1⟩:=st;obtain ⟨xs,x,hq1,hx⟩:=hg;obtain ⟨its1,rv1,p1,_⟩:=I.list hq1;obtain ⟨u,hu,ru⟩:=rv1.get hx;refine wpAny_pyNext_enum_item he h1 p1.isList (x:=u) (by simpa using hu) hei fun h' he' h1' hT' hsz hk=>?_
  refine ⟨_,rfl,?_⟩;refine wpAny_letOwnedTupleGo_enum he' fun h2 he2 hs2=>?_
  have lt:∀{b:Addr} {o:Obj},s.heap.get? b=some o→b<s.heap.objs.size:=fun e=>au e
  have nT:s.heap.objs.size≠e:=ec (lt he);have k2:∀b o,b∉[e,it]→s.heap.get? b=some o→h2.get? b=some o:=fun b o hb q=>by
   simp only [ax,aM,dh,not_or] at hb;exact (hs2.2 b hb.1).trans (hk b o hb.1 hb.2 q)
  have hT2:=(hs2.2 _ nT).trans hT';refine ⟨.ref s.heap.objs.size,upd H s.heap.objs.size (.tup [.int (i:Int),x]),I.laidN (t':=s.toks+1) (fp:=[e,it]) k2 hf (ar _) ⟨(by show 2≤sizeLine;decide),[.int i s.toks,u],.cons ⟨_,rfl⟩ (.cons ru .nil),⟨_,hT2,rfl,_,rfl⟩⟩,rfl,?_,?_,?_⟩
  ·exact ⟨_,x,rfl,I.hok.fresh (ar _),rfl,fun zs hzs=>by rw [I.list_inj hzs hq1];exact hx⟩
  ·exact ⟨⟨_,he2⟩,h1'.at fun o q=>(hs2.2 _ hei.symm).trans q⟩
  ·intro b hb;have:=(hf b hb).1;rw [jH]
   ·exact this
   ·intro q;simp only [ax,aM,dh] at hb;obtain ⟨o1,e1,_⟩:=h1
    rcases hb with rfl|rfl
    ·exact nT q.symm
    ·exact aF (lt e1) q
 done:=by
  intro X hP hw hK hc i pins s σ H E I hf st hg;subst hP hw hK;obtain ⟨⟨old,he⟩,h1⟩:=st;obtain ⟨xs,hq1,hx⟩:=hg;obtain ⟨its1,rv1,p1,_⟩:=I.list hq1;have l1:=rv1.length;refine wpAny_pyNext_enum_end (I.ok.hd hc) he h1 p1.isList (by simp;omega) fun h' hk=>⟨rfl,I.turnedN (t':=s.toks) (fp:=[e,it]) (fun b o hb q=>?_) hf⟩
  simp only [ax,aM,dh,not_or] at hb;exact hk b o hb.2 q
 self:=fun _ _ _ _ _ st h=>by obtain ⟨⟨old,he⟩,_⟩:=st;exact iw he h
section
variable {X:Cx} {elts:List Expr} {x1:Nat} {tpos:Pos}
def VG (K:PySem.W.Frag) (ta:TA):TI:=fun σ H R=>ta σ H fun vs H1=>∃a,vs=[.ref a]∧(∃xs,SqL K H1 a xs)∧R (wS K a) H1
theorem DL {a:Expr} {ta:TA} {p pos:Pos} (hg:Gl X "enumerate") (hm:X.mg "enumerate"=none) (ha:PA X [a] ta) (hs:starEach [a] X.env=[(false,eval a X.env)]:=by rfl) :
  PI X (.Tuple elts x1 tpos) (.Call (.Name "enumerate" p) [a] [] pos) (VG X.K ta):=by
 intro pins s σ H R I h;refine Call_ (ZF I hg hm boot_enumerate (bq (jN (ha pos pins s σ H _ I h) fun us s1 ⟨vs,H1,I1,r1,q1⟩=>?_) hs rfl));obtain ⟨a1,e,⟨xs,hq1⟩,q⟩:=q1;subst e;cases r1 with
 |cons r rr =>
  cases rr;cases r;obtain ⟨its1,rv1,p1,_⟩:=I1.list hq1;refine call_enumerate_list p1.isList fun h' he hit hsz hk=>?_
  refine iw he ?_;refine ⟨_,_,_,_,H1,rfl,I1.kept (t':=s1.toks) hk,OH (Nat.succ_ne_self _),⟨⟨_,he⟩,hit⟩,fun b hb=>?_,q⟩;simp only [ax,aM,dh] at hb;have hb':s1.heap.objs.size≤b:=by rcases hb with rfl|rfl<;>simp only [Addr] at *<;>omega
  exact I1.fpOk hb' (I1.hok.fresh hb')
end
section
variable {X:Cx}
end
section
variable {prog:Program} {w:World} {A:Around} {s:Shared} {E:Value→Shared→Prop}
theorem xU {j p:Addr} {i:Nat} {vs:Array Value} {v:Value} {Q:Value→Shared→Prop} (hj:s.heap.IsTupleIter j p i) (hp:s.heap.IsTuple p vs) (hv:vs[i]?=some v) (q:∀h',h'.IsTupleIter j p (i+1)→Heap.SameBut j s.heap h'→Q v {s with heap:=h'}):wpAny (model prog w) A (Builtin.SmallTypes.nextOf (.ref j)) Q E s:=by
 obtain ⟨oj,ej,cj,dj⟩:=id hj;obtain ⟨op,ep,_,np,dp⟩:=hp;unfold Builtin.SmallTypes.nextOf
 refine ac (bx (name:=Str.ofString "__next__") hj.typeIs fh (en fh hj.typeIs F.entry_tuple_iterator_next ?_ (F.args_tuple_iterator_next_1 _)));show wpAny _ _ (field (.ref j) 0 >>= _) _ _ s;refine ac (eo ej dj (x:=.ref p) rfl ?_);show wpAny _ _ (if (Value.ref p == Value.none)=true then _ else _) _ _ s;rw [if_neg (show ¬((Value.ref p == Value.none)=true) from aD)];show wpAny _ _ (field (.ref j) 1 >>= _) _ _ s;refine ac (eo ej dj (x:=.int i 0) rfl ?_);show wpAny _ _ (seqItems? (.ref p) >>= _) _ _ s;refine ac (dw ep dp ?_);simp only [aB,hv];refine ac (wpAny_setField ej dj (by simp) (am ⟨v,rfl,am (q _ ?_ (fg ..))⟩));exact ⟨_,fk _ ej (Obj.isFreed_of_fields (Obj.data_mapFields dj _)),(Obj.cls_mapFields ..).trans cj,by rw [Obj.data_mapFields dj];simp [rawInt]⟩
theorem rT {j p:Addr} {i:Nat} {vs:Array Value} {Q:Value→Shared→Prop} (hh:A.handled=none) (hj:s.heap.IsTupleIter j p i) (hp:s.heap.IsTuple p vs) (hv:vs[i]?=none)
  (q:∀h' e,Heap.ExtBut j s.heap h'→(∃o,h'.get? e=some o∧o.cls=.type "StopIteration")→E (.ref e) {s with heap:=h'}):wpAny (model prog w) A (Builtin.SmallTypes.nextOf (.ref j)) Q E s:=by
 obtain ⟨oj,ej,cj,dj⟩:=id hj;obtain ⟨op,ep,_,np,dp⟩:=hp;unfold Builtin.SmallTypes.nextOf
 refine ac (bx (name:=Str.ofString "__next__") hj.typeIs fh (en fh hj.typeIs F.entry_tuple_iterator_next ?_ (F.args_tuple_iterator_next_1 _)));show wpAny _ _ (field (.ref j) 0 >>= _) _ _ s;refine ac (eo ej dj (x:=.ref p) rfl ?_);show wpAny _ _ (if (Value.ref p == Value.none)=true then _ else _) _ _ s;rw [if_neg (show ¬((Value.ref p == Value.none)=true) from aD)];show wpAny _ _ (field (.ref j) 1 >>= _) _ _ s;refine ac (eo ej dj (x:=.int i 0) rfl ?_);show wpAny _ _ (seqItems? (.ref p) >>= _) _ _ s;refine ac (dw ep dp ?_);simp only [aB,hv];refine ac (gy (ac (wpAny_setField ej dj (by simp) ?_)));refine ac ?_
 simp only [newExc,newTuple];refine ac (wpAny_newObj_type ?_ (by size_fits))
 refine ac (m:=firstArgMember _ _) (wpAny_of_eq (a:=Value.none) (by first|rfl|(simp only [firstArgMember];rfl)) ?_);refine wpAny_newObj_type ?_ (by size_fits)
 simp only [raiseNew];refine ac (wpAny_handled ?_);(first|rw [show A.in1.handled=none from hh]|rw [hh])
 refine ac (am (wpAny_throw ?_));exact q _ _ (((fg ..).extBut.push _).push _) ⟨_,az _ rfl,rfl⟩
theorem OE {z P1 P2 j1 j2 a b:Addr} {k:Nat} {us vs:Array Value} {u v g g':Value} {Q:Value→Shared→Prop} (D:ZipApart z P1 P2 j1 j2 a b)
  (hz:IsZip s.heap z P1 P2 .none) (hP1:IsPair s.heap P1 (.ref j1) (.ref j2)) (hP2:IsPair s.heap P2 g g') (n1:s.heap.IsListIter j1 a k) (n2:s.heap.IsTupleIter j2 b k) (la:s.heap.IsList a us) (tb:s.heap.IsTuple b vs) (hu:us[k]?=some u) (hv:vs[k]?=some v)
  (q:∀h',IsZip h' z P1 P2 (rawInt s.heap.objs.size)→IsPair h' P2 u v→h'.IsListIter j1 a (k+1)→h'.IsTupleIter j2 b (k+1)→IsPair h' s.heap.objs.size u v→(∀c o,c≠z→c≠P2→c≠j1→c≠j2→s.heap.get? c=some o→h'.get? c=some o)→Q (.ref s.heap.objs.size) {s with heap:=h'}):wpAny (model prog w) A (Builtin.«zip.__next__» ⟨[.ref z],[]⟩) (fun fin s'=>∃v,fin=.done (.ret v)∧Q v s') E s:=by
 show wpAny _ _ (field (.ref z) 2 >>= _) _ _ _;refine ac (eo hz rfl (x:=.bool false) rfl ?_);show wpAny _ _ (field (.ref z) 3 >>= _) _ _ _
 refine ac (eo hz rfl (x:=.ref P1) rfl ?_);refine ac (dw hP1 rfl ?_)
 show wpAny _ _ (Builtin.SmallTypes.ownedTupleIsFree (.ref z) >>= _) _ _ _;refine ac ?_;unfold Builtin.SmallTypes.ownedTupleIsFree
 refine ac (eo hz rfl (x:=.none) rfl (am ?_));simp only [if_true]
 refine ac (gy ?_);refine ac (eo hz rfl (x:=.ref P2) rfl ?_)
 refine ac (fq hz (by simp) fun m1 z1 d1=>?_);have z1:IsZip m1 z P1 P2 .ellipsis:=z1;refine ac ?_;simp only [List.zipIdx_cons,List.zipIdx_nil,gk,List.forIn_nil]
 refine ac (ac (wpAny_onRaise ?_));show wpAny _ _ (Builtin.SmallTypes.nextOf (.ref j1) >>= _) _ _ _
 refine ac (wpAny_nextOf_list_item (n1.extBut d1.extBut D.i1z) (la.extBut d1.extBut D.l1z) hu fun m2 n12 d2=>am ?_);have p2:IsPair m2 P2 g g':=d2.extBut _ _ D.TOi1 (d1.extBut _ _ D.TOz hP2);refine ac (dw p2 rfl ?_);refine ac (kh p2 fun m3 p3 d3=>?_)
 have p3:IsPair m3 P2 u g':=p3;refine ac (wpAny_letGo (am ?_));refine ac (ac (wpAny_onRaise ?_));show wpAny _ _ (Builtin.SmallTypes.nextOf (.ref j2) >>= _) _ _ _
 refine ac (xU (((n2.extBut d1.extBut D.i2z).extBut d2.extBut D.i12.symm).extBut d3.extBut D.TOi2.symm) (((tb.extBut d1.extBut D.l2z).extBut d2.extBut D.l2i1).extBut d3.extBut D.l2TO) hv fun m4 n24 d4=>am ?_);have p4:IsPair m4 P2 u g':=d4.extBut _ _ D.TOi2 p3;refine ac (dw p4 rfl ?_);refine ac (kh p4 fun m5 p5 d5=>?_)
 have p5:IsPair m5 P2 u v:=p5;refine ac (wpAny_letGo (am (am ?_)));refine ac (dw p5 rfl ?_);refine ac (wpAny_newTuple ?_)
 have sz:m5.objs.size=s.heap.objs.size:=by rw [d5.1,d4.1,d3.1,d2.1,d1.1]
 have z5:IsZip m5 z P1 P2 .ellipsis:=d5.extBut _ _ D.TOz.symm (d4.extBut _ _ D.i2z.symm (d3.extBut _ _ D.TOz.symm (d2.extBut _ _ D.i1z.symm z1)));have kk:∀c o,c≠z→c≠P2→c≠j1→c≠j2→s.heap.get? c=some o→m5.get? c=some o:=fun c o e1 e2 e3 e4 e=>d5.extBut _ _ e2 (d4.extBut _ _ e4 (d3.extBut _ _ e2 (d2.extBut _ _ e3 (d1.extBut _ _ e1 e))))
 have n15:m5.IsListIter j1 a (k+1):=((n12.extBut d3.extBut D.TOi1.symm).extBut d4.extBut D.i12).extBut d5.extBut D.TOi1.symm;have n25:m5.IsTupleIter j2 b (k+1):=n24.extBut d5.extBut D.TOi2.symm;have zl:z<m5.objs.size:=au z5;show wpAny _ _ (Builtin.SmallTypes.ownedTupleHandOut (.ref z) (.ref m5.objs.size) >>= _) _ _ _;refine ac ?_;unfold Builtin.SmallTypes.ownedTupleHandOut
 have z6:IsZip (m5.push {cls:=.type "tuple",data:=.seq #[u,v]}) z P1 P2 .ellipsis:=aj _ z5;refine ac (fq z6 (by simp) fun m7 z7 d7=>?_);have z7:IsZip m7 z P1 P2 (rawInt m5.objs.size):=z7;refine fq z7 (by simp) fun m8 z8 d8=>?_
 have z8:IsZip m8 z P1 P2 (rawInt m5.objs.size):=z8;have up:∀c o,c≠z→m5.get? c=some o→m8.get? c=some o:=fun c o e1 e=>d8.extBut _ _ e1 (d7.extBut _ _ e1 (aj _ e))
 have t8:IsPair m8 m5.objs.size u v:=d8.extBut _ _ (ec zl) (d7.extBut _ _ (ec zl) (az _ rfl));rw [sz] at z8 t8;refine am ⟨_,rfl,?_⟩;show Q (.ref m5.objs.size) _;rw [sz]
 exact q m8 z8 (up _ _ D.TOz p5) (n15.at fun o e=>up _ o D.i1z e) (n25.at fun o e=>up _ o D.i2z e) t8 fun c o e1 e2 e3 e4 e=>up c o e1 (kk c o e1 e2 e3 e4 e)
theorem PM {z P1 P2 j1 j2 a b:Addr} {k:Nat} {us vs:Array Value} {g g':Value} {Q:Fin→Shared→Prop} (hh:A.handled=none) (D:ZipApart z P1 P2 j1 j2 a b)
  (hz:IsZip s.heap z P1 P2 .none) (hP1:IsPair s.heap P1 (.ref j1) (.ref j2)) (hP2:IsPair s.heap P2 g g') (n1:s.heap.IsListIter j1 a k) (n2:s.heap.IsTupleIter j2 b k) (la:s.heap.IsList a us) (tb:s.heap.IsTuple b vs) (he:us[k]?=none∨vs[k]?=none)
  (q:∀h' e,(∀c o,c≠z→c≠P2→c≠j1→c≠j2→s.heap.get? c=some o→h'.get? c=some o)→(∃o,h'.get? e=some o∧o.cls=.type "StopIteration")→E (.ref e) {s with heap:=h'}):wpAny (model prog w) A (Builtin.«zip.__next__» ⟨[.ref z],[]⟩) Q E s:=by
 show wpAny _ _ (field (.ref z) 2 >>= _) _ _ _;refine ac (eo hz rfl (x:=.bool false) rfl ?_);show wpAny _ _ (field (.ref z) 3 >>= _) _ _ _
 refine ac (eo hz rfl (x:=.ref P1) rfl ?_);refine ac (dw hP1 rfl ?_)
 show wpAny _ _ (Builtin.SmallTypes.ownedTupleIsFree (.ref z) >>= _) _ _ _;refine ac ?_;unfold Builtin.SmallTypes.ownedTupleIsFree
 refine ac (eo hz rfl (x:=.none) rfl (am ?_));simp only [if_true]
 refine ac (gy ?_);refine ac (eo hz rfl (x:=.ref P2) rfl ?_)
 refine ac (fq hz (by simp) fun m1 z1 d1=>?_);have z1:IsZip m1 z P1 P2 .ellipsis:=z1;refine ac ?_;simp only [List.zipIdx_cons,List.zipIdx_nil,gk,List.forIn_nil]
 refine ac (ac (wpAny_onRaise ?_));show wpAny _ _ (Builtin.SmallTypes.nextOf (.ref j1) >>= _) _ _ _
 cases hu:us[k]? with
 |none =>
  refine ac (wpAny_nextOf_list_end hh (n1.extBut d1.extBut D.i1z) (la.extBut d1.extBut D.l1z) hu fun m2 e d2 st=>?_);obtain ⟨oe,ee,ce⟩:=st
  have z2:IsZip m2 z P1 P2 .ellipsis:=d2 _ _ D.i1z.symm z1;have ne:e≠z:=fun x=>by subst x;rw [z2] at ee;cases ee;simp at ce
  refine fq z2 (by simp) fun m3 _ d3=>q m3 e (fun c o e1 _ e3 _ x=>d3.extBut _ _ e1 (d2 _ _ e3 (d1.extBut _ _ e1 x))) ⟨oe,d3.extBut _ _ ne ee,ce⟩
 |some u =>
  have hv:vs[k]?=none:=by rcases he with h|h;rw [hu] at h;cases h;exact h
  refine ac (wpAny_nextOf_list_item (n1.extBut d1.extBut D.i1z) (la.extBut d1.extBut D.l1z) hu fun m2 n12 d2=>am ?_);have p2:IsPair m2 P2 g g':=d2.extBut _ _ D.TOi1 (d1.extBut _ _ D.TOz hP2);refine ac (dw p2 rfl ?_);refine ac (kh p2 fun m3 p3 d3=>?_)
  refine ac (wpAny_letGo (am ?_));refine ac (ac (wpAny_onRaise ?_));show wpAny _ _ (Builtin.SmallTypes.nextOf (.ref j2) >>= _) _ _ _
  refine ac (rT hh (((n2.extBut d1.extBut D.i2z).extBut d2.extBut D.i12.symm).extBut d3.extBut D.TOi2.symm) (((tb.extBut d1.extBut D.l2z).extBut d2.extBut D.l2i1).extBut d3.extBut D.l2TO) hv fun m4 e d4 st=>?_);obtain ⟨oe,ee,ce⟩:=st
  have z4:IsZip m4 z P1 P2 .ellipsis:=d4 _ _ D.i2z.symm (d3.extBut _ _ D.TOz.symm (d2.extBut _ _ D.i1z.symm z1));have ne:e≠z:=fun x=>by subst x;rw [z4] at ee;cases ee;simp at ce
  refine fq z4 (by simp) fun m5 _ d5=>q m5 e (fun c o e1 e2 e3 e4 x=>d5.extBut _ _ e1 (d4 _ _ e4 (d3.extBut _ _ e2 (d2.extBut _ _ e3 (d1.extBut _ _ e1 x))))) ⟨oe,d5.extBut _ _ ne ee,ce⟩
end
def wD (K:PySem.W.Frag) (a1 a2:Addr):It :=
 ⟨fun i H=>∃xs ys x y,SqL K H a1 xs∧SqT K H a2 ys∧xs[i]?=some x∧ys[i]?=some y,
  fun i H v H'=>∃T x y,v=.ref T∧H T=none∧H'=upd H T (.tup [x,y])∧(∀xs,SqL K H a1 xs→xs[i]?=some x)∧(∀ys,SqT K H a2 ys→ys[i]?=some y),
  fun i H=>∃xs ys,SqL K H a1 xs∧SqT K H a2 ys∧(xs.length≤i∨ys.length≤i)⟩
theorem OF {P:Program} {w:World} {K:PySem.W.Frag} {elts:List Expr} {x1:Nat} {pos:Pos} {a1 a2 z TI TO i1 i2:Addr} (D:ZipApart z TI TO i1 i2 a1 a2) :
  Turn P w K (.Tuple elts x1 pos) (wD K a1 a2) [z,TI,TO,i1,i2] z (fun i h=>IsZip h z TI TO .none∧IsPair h TI (.ref i1) (.ref i2)∧(∃a b,IsPair h TO a b)∧h.IsListIter i1 a1 i∧h.IsTupleIter i2 a2 i) where
 mem:=by simp
 obj:=fun i h st b hb=>by
  obtain ⟨hz,hTI,⟨p,q,hTO⟩,⟨o1,e1,c1,d1⟩,⟨o2,e2,c2,d2⟩⟩:=st;simp only [ax,aM,dh] at hb
  rcases hb with rfl|rfl|rfl|rfl|rfl
  ·exact ⟨_,hz,fun v y=>by have y':Data.fields _=Data.cell v:=y;cases y'⟩
  ·exact ⟨_,hTI,fun v y=>by have y':Data.seq _ _=Data.cell v:=y;cases y'⟩
  ·exact ⟨_,hTO,fun v y=>by have y':Data.seq _ _=Data.cell v:=y;cases y'⟩
  ·exact ⟨o1,e1,fun v y=>by rw [d1] at y;cases y⟩
  ·exact ⟨o2,e2,fun v y=>by rw [d2] at y;cases y⟩
 keep:=fun i h h' st k=>by
  obtain ⟨hz,hTI,⟨p,q,hTO⟩,h1,h2⟩:=st;exact ⟨k _ (by simp) _ hz,k _ (by simp) _ hTI,⟨p,q,k _ (by simp) _ hTO⟩,h1.at fun o e=>k _ (by simp) o e,h2.at fun o e=>k _ (by simp) o e⟩
 item:=by
  intro X hP hw hK hc i pins s σ H E I hf st hg;subst hP hw hK;obtain ⟨hz,hTI,⟨p,q,hTO⟩,h1,h2⟩:=st;obtain ⟨xs,ys,x,y,hq1,hq2,hx,hy⟩:=hg;obtain ⟨its1,rv1,p1,_⟩:=I.list hq1;obtain ⟨its2,rv2,p2,_⟩:=I.tuple hq2;obtain ⟨u,hu,ru⟩:=rv1.get hx;obtain ⟨v,hv,rv⟩:=rv2.get hy;have hTz:s.TypeIs (.ref z) "zip":=⟨_,hz,rfl⟩;unfold pyNext;refine ac (wpAny_attempt (bx (name:=Str.ofString "__next__") hTz ky (en ky hTz F.entry_zip_next (OE D hz hTI hTO h1 h2 p1.isList (show s.heap.IsTuple a2 its2.toArray from p2) (u:=u) (v:=v) (by simpa using hu) (by simpa using hv) fun h' hz' hTO' h1' h2' hT' hk=>am ?_) (F.args_zip_next_1 _))));refine ⟨_,rfl,?_⟩;refine wpAny_letOwnedTupleGo_zip hz' fun hp2 hz2 hs2=>?_
  have lt:∀{b:Addr} {o:Obj},s.heap.get? b=some o→b<s.heap.objs.size:=fun e=>au e
  have nT:s.heap.objs.size≠z:=ec (lt hz);have k2:∀b o,b∉[z,TI,TO,i1,i2]→s.heap.get? b=some o→hp2.get? b=some o:=fun b o hb e=>by
   simp only [ax,aM,dh,not_or] at hb;exact (hs2.2 b hb.1).trans (hk b o hb.1 hb.2.2.1 hb.2.2.2.1 hb.2.2.2.2 e)
  have hT2:IsPair hp2 s.heap.objs.size u v:=(hs2.2 _ nT).trans hT';refine ⟨.ref s.heap.objs.size,upd H s.heap.objs.size (.tup [x,y]),I.laidN (t':=s.toks) (fp:=[z,TI,TO,i1,i2]) k2 hf (ar _) ⟨(by show 2≤sizeLine;decide),[u,v],.cons ru (.cons rv .nil),⟨_,hT2,rfl,_,rfl⟩⟩,rfl,?_,?_,?_⟩
  ·exact ⟨_,x,y,rfl,I.hok.fresh (ar _),rfl,fun zs hzs=>by rw [I.list_inj hzs hq1];exact hx,fun zs hzs=>by rw [I.tuple_inj hzs hq2];exact hy⟩
  ·refine ⟨hz2,(hs2.2 _ D.TIz).trans (hk _ _ D.TIz D.TITO D.TIi1 D.TIi2 hTI),⟨_,_,(hs2.2 _ D.TOz).trans hTO'⟩,h1'.at fun o e=>(hs2.2 _ D.i1z).trans e,h2'.at fun o e=>(hs2.2 _ D.i2z).trans e⟩
  ·intro b hb;have:=(hf b hb).1;rw [jH]
   ·exact this
   ·intro e;simp only [ax,aM,dh] at hb;obtain ⟨o1,e1,_⟩:=h1;obtain ⟨o2,e2,_⟩:=h2
    rcases hb with rfl|rfl|rfl|rfl|rfl
    ·exact nT e.symm
    ·exact aF (lt hTI) e
    ·exact aF (lt hTO) e
    ·exact aF (lt e1) e
    ·exact aF (lt e2) e
 done:=by
  intro X hP hw hK hc i pins s σ H E I hf st hg;subst hP hw hK;obtain ⟨hz,hTI,⟨p,q,hTO⟩,h1,h2⟩:=st;obtain ⟨xs,ys,hq1,hq2,he⟩:=hg;obtain ⟨its1,rv1,p1,_⟩:=I.list hq1;obtain ⟨its2,rv2,p2,_⟩:=I.tuple hq2;have l1:=rv1.length;have l2:=rv2.length;have hTz:s.TypeIs (.ref z) "zip":=⟨_,hz,rfl⟩;unfold pyNext;refine ac (wpAny_attempt (bx (name:=Str.ofString "__next__") hTz ky (en ky hTz F.entry_zip_next (PM (I.ok.hd hc) D hz hTI hTO h1 h2 p1.isList (show s.heap.IsTuple a2 its2.toArray from p2) (he.imp (fun e=>by simp;omega) (fun e=>by simp;omega)) fun h' e hk ho=>?_) (F.args_zip_next_1 _))));obtain ⟨o,ho,hco⟩:=ho;refine ac (ka (T:="StopIteration") (b:=true) ⟨o,ho,hco⟩ isSubtype_stop (am ⟨rfl,I.turnedN (t':=s.toks) (fp:=[z,TI,TO,i1,i2]) (fun b o hb e=>?_) hf⟩));simp only [ax,aM,dh,not_or] at hb;exact hk b o hb.1 hb.2.2.1 hb.2.2.2.1 hb.2.2.2.2 e
 self:=fun _ _ _ _ _ st h=>wpAny_pyIter_zip st.1 h
section
variable {X:Cx} {elts:List Expr} {x1:Nat} {tpos:Pos}
abbrev nB (h:Heap) (a:Addr):Heap:=h.push {cls:=.type "list_iterator",data:=.fields #[.ref a,.int 0 0]}
abbrev m9 (h:Heap) (a b:Addr):Heap:=(nB h a).push {cls:=.type "tuple_iterator",data:=.fields #[.ref b,.int 0 0]}
abbrev m6 (h:Heap) (a b:Addr):Heap:=(m9 h a b).push {cls:=.type "tuple",data:=.seq #[.ref h.objs.size,.ref (nB h a).objs.size]}
abbrev mZ (h:Heap) (a b:Addr):Heap:=(m6 h a b).push {cls:=.type "tuple",data:=.seq #[.none,.none]}
abbrev eI (h:Heap) (a b:Addr):Heap:=(mZ h a b).push {cls:=.type "zip",data:=.fields #[.none,.bool false,.bool false,.ref (m9 h a b).objs.size,.ref (m6 h a b).objs.size]}
theorem NS (a b:Addr) (us vs:Array Value):Meets (Builtin.«zip.__new__» ⟨[.type "zip",.ref a,.ref b],[]⟩) (fun _ R s=>s.heap.IsList a us∧s.heap.IsTuple b vs∧R (.ok (.ret (.ref (mZ s.heap a b).objs.size))) {s with heap:=eI s.heap a b}):=.of_wp fun prog w A R s h=>by
  obtain ⟨hp,g,d,tk,os⟩:=s;obtain ⟨la,tb,h⟩:=h;have hsub:=sub_zip
  have A1:Heap.IsList (Shared.heap ⟨hp,g,d,tk,os⟩) a us:=la;have A2:Heap.IsTuple (Shared.heap ⟨hp.push {cls:=.type "list_iterator",data:=.fields #[.ref a,.int 0 0]},g,d,tk,os⟩) b vs:=Heap.IsTuple.push tb _
  wp_walk using wpAny_pyIter_list A1,hX A2
  exact ⟨_,rfl,h⟩
theorem PH {prog:Program} {w:World} {A:Around} {s:Shared} {E:Value→Shared→Prop} {a b:Addr} {us vs:Array Value} {Q:Value→Shared→Prop} (la:s.heap.IsList a us) (tb:s.heap.IsTuple b vs)
  (q:∀h',IsZip h' (s.heap.objs.size+4) (s.heap.objs.size+2) (s.heap.objs.size+3) .none→IsPair h' (s.heap.objs.size+2) (.ref s.heap.objs.size) (.ref (s.heap.objs.size+1))→IsPair h' (s.heap.objs.size+3) .none .none→h'.IsListIter s.heap.objs.size a 0→h'.IsTupleIter (s.heap.objs.size+1) b 0→(∀c o,s.heap.get? c=some o→h'.get? c=some o)→Q (.ref (s.heap.objs.size+4)) {s with heap:=h'}) :
  wpAny (model prog w) A (call (.type "zip") [.ref a,.ref b]) Q E s:=by
 refine callType_new F.called_zip (by decide) (F.typeCall_zip_2 _ _) (F.newCall_zip_2 _ _) (fun obj=>F.args_object_init_3 obj _ _) F.entry_zip_new (NS a b us vs) ⟨la,tb,?_⟩;have y1:(nB s.heap a).objs.size=s.heap.objs.size+1:=cg ..;have y2:(m9 s.heap a b).objs.size=s.heap.objs.size+2:=by rw [cg,y1]
 have y3:(m6 s.heap a b).objs.size=s.heap.objs.size+3:=by rw [cg,y2]
 have y4:(mZ s.heap a b).objs.size=s.heap.objs.size+4:=by rw [cg,y3]
 have up:∀{h:Heap} {o:Obj} {c:Addr} {v:Obj},h.get? c=some v→(h.push o).get? c=some v:=fun e=>aj _ e
 have g5:(eI s.heap a b).get? (mZ s.heap a b).objs.size=some _:=az _ rfl;have g4:(eI s.heap a b).get? (m6 s.heap a b).objs.size=some _:=up (az _ rfl);have g3:(eI s.heap a b).get? (m9 s.heap a b).objs.size=some _:=up (up (az _ rfl));have g2:(eI s.heap a b).get? (nB s.heap a).objs.size=some _:=up (up (up (az _ rfl)));have g1:(eI s.heap a b).get? s.heap.objs.size=some _:=up (up (up (up (az _ rfl))));show _∧_;rw [y2,y3,y4] at g5;rw [y1,y2] at g3;rw [y3] at g4;rw [y1] at g2;rw [y4]
 exact ⟨⟨_,g5,rfl⟩,q _ g5 g3 g4 ⟨_,g1,rfl,rfl⟩ ⟨_,g2,rfl,rfl⟩ fun c o x=>up (up (up (up (up x))))⟩
def VD (K:PySem.W.Frag) (ta:TA):TI:=fun σ H R=>ta σ H fun vs H1=>∃a1 a2,vs=[.ref a1,.ref a2]∧(∃xs,SqL K H1 a1 xs)∧(∃ys,SqT K H1 a2 ys)∧R (wD K a1 a2) H1
theorem DK {a b:Expr} {ta:TA} {p pos:Pos} (hg:Gl X "zip") (hm:X.mg "zip"=none) (ha:PA X [a,b] ta) (hs:starEach [a,b] X.env=[(false,eval a X.env),(false,eval b X.env)]:=by rfl) (hs2:starEach [b] X.env=[(false,eval b X.env)]:=by rfl) :
  PI X (.Tuple elts x1 tpos) (.Call (.Name "zip" p) [a,b] [] pos) (VD X.K ta):=by
 intro pins s σ H R I h;refine Call_ (ZF I hg hm boot_zip (bq (jN (ha pos pins s σ H _ I h) fun us s1 ⟨vs,H1,I1,r1,q1⟩=>?_) (by rw [hs,hs2]) (by rw [hs2];rfl)));obtain ⟨a1,a2,e,⟨xs,hq1⟩,⟨ys,hq2⟩,q⟩:=q1;subst e;cases r1 with
 |cons r rr =>
  cases rr with
  |cons r' rr =>
   cases rr;cases r;cases r';obtain ⟨its1,rv1,p1,_⟩:=I1.list hq1;obtain ⟨its2,rv2,p2,_⟩:=I1.tuple hq2;have p2:s1.heap.IsTuple a2 its2.toArray:=p2;have lt1:a1<s1.heap.objs.size:=by obtain ⟨o,e,_⟩:=p1.isList;exact au e
   have lt2:a2<s1.heap.objs.size:=by obtain ⟨o,e,_⟩:=p2;exact au e
   refine PH p1.isList p2 fun h' hz hTI hTO h1 h2 hk=>?_
   refine wpAny_pyIter_zip hz ?_;have D:ZipApart (s1.heap.objs.size+4) (s1.heap.objs.size+2) (s1.heap.objs.size+3) s1.heap.objs.size (s1.heap.objs.size+1) a1 a2:=by
    constructor<;>(intro e;simp only [Addr] at *;omega)
   refine ⟨_,_,_,_,H1,rfl,I1.kept (t':=s1.toks) hk,OF D,⟨hz,hTI,⟨_,_,hTO⟩,h1,h2⟩,fun b hb=>?_,q⟩;simp only [ax,aM,dh] at hb;have hb':s1.heap.objs.size≤b:=by rcases hb with rfl|rfl|rfl|rfl|rfl<;>simp only [Addr] at *<;>omega
   exact I1.fpOk hb' (I1.hok.fresh hb')
end
set_option maxRecDepth 100000
section
variable {X:Cx}
def TR:V→List V→Hp→VK→Prop:=fun x vs H Q=>∃(l:Addr) (xs:List V) (y:V),x=.ref l∧vs=[y]∧H l=some (.lst xs)∧yU y=true∧xs.all yU=true∧Q (.int ((xs.countP fun z=>zD z y:Nat):Int)) H
theorem AB {y:V}:∀{xs:List V} {us:List Value},Vals xs us→xs.all yU=true→us.countP (nK y)=xs.countP fun z=>zD z y
 |[],_,r,_=>by cases r;rfl
 |x::xs,_,r,f=>by
  cases r with
  |@cons _ u _ us ru rt =>
   rw [List.all_cons,gb] at f;have ih:=AB (y:=y) rt f.2;rw [List.countP_cons,List.countP_cons,ih,E5 ru f.1]
theorem RD:wR X "list.count" TR:=by
 intro pins s σ H x vs v us Q I rx rv h;obtain ⟨l,xs,y,rfl,rfl,hH,fy,fx,q⟩:=h;cases rx;obtain ⟨u,rfl,ru⟩:=rv.one;obtain ⟨z,its,n,r,hl,e⟩:=I.lstM hH;refine call_meets F.slot_list_count ⟨_,e,rfl⟩ F.entry_list_count (F.args_list_count_2 _ _) (SeqAt.list_countAt l its.toArray n none #[] u (nK y)) ⟨e,fun w hw=>CH ru fy r fx w (by simpa using hw),?_⟩;rw [show its.toArray.toList=its from rfl,AB r fx];exact ⟨.int ((xs.countP fun z=>zD z y:Nat):Int),H,I.tok _,⟨_,rfl⟩,q⟩
theorem xO {K:PySem.W.Frag} {a1 a2 D:Addr} {xs ys:List V} {g:TG} {tc:TT} {te:TE} {σ₀:St} {H:Hp} {Q:Hp→Prop} (Pv:Nat→St→Hp→Prop) (h0:Pv 0 σ₀ (upd H D (.lst []))) (hl:∀i σ H,i≤xs.length→Pv i σ H→SqL K H a1 xs∧SqT K H a2 ys) (hn:xs.length=ys.length)
  (hs:∀i x y σ H T,xs[i]?=some x→ys[i]?=some y→Pv i σ H→H T=none→g (.ref T) σ (upd H T (.tup [x,y])) fun σ2 H3=>tc σ2 H3 fun b H4=>if b=true then te σ2 H4 fun v H5=>∃zs,H5 D=some (.lst zs)∧zs.length<sizeLine∧Pv (i+1) σ2 (upd H5 D (.lst (zs++[v]))) else Pv (i+1) σ2 H4)
  (hd:∀σ H,Pv xs.length σ H→Q H):QT D (wD K a1 a2) g tc te σ₀ H Q:=by
 refine ⟨fun i m σ H=>m=xs.length - i∧i≤xs.length∧Pv i σ H,⟨xs.length,by simp,aY _,h0⟩,?_⟩;rintro i m σ H ⟨rfl,hi,p⟩;obtain ⟨q1,q2⟩:=hl i σ H hi p
 by_cases hlt:i<xs.length
 ·have hlt2:i<ys.length:=by omega
  refine .inr ⟨⟨xs,ys,_,_,q1,q2,aa hlt,aa hlt2⟩,Pv (i+1),fun σ' H' p'=>⟨xs.length - (i+1),by omega,rfl,hlt,p'⟩,fun v H' hy=>?_⟩;obtain ⟨T,x,y,rfl,hT,rfl,e1,e2⟩:=hy;exact hs i x y σ H T (e1 xs q1) (e2 ys q2) p hT
 ·exact .inl ⟨⟨xs,ys,q1,q2,.inl (by omega)⟩,hd σ H (by rw [show xs.length=i by omega];exact p)⟩
end
end L2
namespace L2
open PySem PySem.Spec PyProof.Rows
section
variable {prog:Program} {w:World} {A:Around} {s:Shared} {E:Value→Shared→Prop}
end
section
variable {X:Cx} {pins:List (Addr×Obj)} {σ:List (Option V)} {H:Hp} {s:Shared} {h':Heap}
end
section
variable {X:Cx}
end
section
variable {prog:Program} {w:World} {A:Around} {s:Shared} {E:Value→Shared→Prop}
end
section
variable {X:Cx} {e se:Expr} {te:TE} {lo hi:Option Expr} {tl th tk:TO} {pos p2:Pos}
end
section
variable {X:Cx}
end
section
theorem xP {K:PySem.W.Frag} {a D:Addr} {xs:List V} {g:TG} {tc:TT} {te:TE} {σ₀:St} {H:Hp} {Q:Hp→Prop} (Pv:Nat→St→Hp→Prop) (h0:Pv 0 σ₀ (upd H D (.lst []))) (hl:∀i σ H,i≤xs.length→Pv i σ H→SqL K H a xs)
  (hs:∀i x σ H T,xs[i]?=some x→Pv i σ H→H T=none→g (.ref T) σ (upd H T (.tup [.int (i:Int),x])) fun σ2 H3=>tc σ2 H3 fun b H4=>if b=true then te σ2 H4 fun v H5=>∃zs,H5 D=some (.lst zs)∧zs.length<sizeLine∧Pv (i+1) σ2 (upd H5 D (.lst (zs++[v]))) else Pv (i+1) σ2 H4)
  (hd:∀σ H,Pv xs.length σ H→Q H):QT D (wS K a) g tc te σ₀ H Q:=by
 refine ⟨fun i m σ H=>m=xs.length - i∧i≤xs.length∧Pv i σ H,⟨xs.length,by simp,aY _,h0⟩,?_⟩;rintro i m σ H ⟨rfl,hi,p⟩;have q1:=hl i σ H hi p
 by_cases hlt:i<xs.length
 ·refine .inr ⟨⟨xs,_,q1,aa hlt⟩,Pv (i+1),fun σ' H' p'=>⟨xs.length - (i+1),by omega,rfl,hlt,p'⟩,fun v H' hy=>?_⟩;obtain ⟨T,x,rfl,hT,rfl,e1⟩:=hy;exact hs i x σ H T (e1 xs q1) p hT
 ·exact .inl ⟨⟨xs,q1,by omega⟩,hd σ H (by rw [show xs.length=i by omega];exact p)⟩
end
section
variable {prog:Program} {w:World} {A:Around} {s:Shared} {E:Value→Shared→Prop}
theorem xH {h h':Heap} {p:Addr} {vs:Array Value} (ht:h.IsTuple p vs) (k:∀o,h.get? p=some o→h'.get? p=some o):h'.IsTuple p vs:=by obtain ⟨o,e,c⟩:=ht;exact ⟨o,k o e,c⟩
theorem PB {it p:Addr} {vs:Array Value} (hh:A.handled=none) (hne:it≠p):Draws prog w A it [it,p] vs.size (fun i x=>vs[i]?=some x) (fun i h=>h.IsTupleIter it p i∧h.IsTuple p vs) where
 live:=fun i h st=>by obtain ⟨⟨o,e,_⟩,_⟩:=st;exact ⟨o,e⟩
 frame:=fun i h h' st k=>⟨st.1.at fun o e=>k _ (by simp) o e,xH st.2 fun o e=>k _ (by simp) o e⟩
 item:=fun i s Q E hi st hQ=>by
  refine xU st.1 st.2 (dz hi) fun h' h1 sb=>?_
  exact hQ _ h' s.toks (dz hi) ⟨h1,xH st.2 fun o e=>(sb.2 _ hne.symm).trans e⟩ sb
 done:=fun s Q E st hE=>rT hh st.1 st.2 (by simp) hE
abbrev nJ (h:Heap) (q:Addr):Heap:=h.push {cls:=.type "tuple_iterator",data:=.fields #[.ref q,.int 0 0]}
abbrev wK (h:Heap) (q:Addr):Heap:=(nJ h q).push {cls:=.type "enumerate",data:=.fields #[.none,.bool false,.ref h.objs.size,rawInt 0,.none,.none]}
theorem M9 (q:Addr) (us:Array Value) (m:Nat) (dd:Option Addr) (ss:Array (Option Value)):Meets (Builtin.«enumerate.__new__» ⟨[.type "enumerate",.ref q],[]⟩) (fun _ R s=>s.heap.get? q=some {cls:=.type "tuple",dict:=dd,data:=.seq us m,slots:=ss}∧R (.ok (.ret (.ref (nJ s.heap q).objs.size))) {s with heap:=wK s.heap q}):=.of_wp fun prog w A R s h=>by
 obtain ⟨hp,g,d,tk,os⟩:=s;obtain ⟨hq,h⟩:=h;have hsub:=sub_enumerate
 have B1:Heap.IsTuple (Shared.heap ⟨hp,g,d,tk,os⟩) q us:=⟨_,hq,rfl,m,rfl⟩
 wp_walk using gz hq
 refine wpAny_stack_any fun st=>am ?_;split
 ·rename_i c _ _ _ _ _;cases (c == Value.type "enumerate")<;>(wp_walk using gz hq,hX B1;exact ⟨_,rfl,h⟩)
 ·wp_walk using gz hq,hX B1;exact ⟨_,rfl,h⟩
theorem OA {q:Addr} {us:Array Value} {Q:Value→Shared→Prop} (hL:s.heap.IsTuple q us)
  (k:∀h',IsEnum h' (s.heap.objs.size+1) s.heap.objs.size 0 .none→h'.IsTupleIter s.heap.objs.size q 0→(∀b o,s.heap.get? b=some o→h'.get? b=some o)→Q (.ref (s.heap.objs.size+1)) {s with heap:=h'}):wpAny (model prog w) A (call (.type "enumerate") [.ref q]) Q E s:=by
 obtain ⟨⟨c,dd,dt,ss⟩,hq,hc,m,hd⟩:=hL;have hc:c=.type "tuple":=hc;have hd:dt=.seq us m:=hd;subst hc;subst hd
 refine callType_new F.called_enumerate (by decide) (F.typeCall_enumerate_1 _) (F.newCall_enumerate_1 _) (fun obj=>F.args_object_init_2 obj _) F.entry_enumerate_new (M9 q us m dd ss) ⟨hq,?_⟩;have y1:(nJ s.heap q).objs.size=s.heap.objs.size+1:=cg ..;have g2:(wK s.heap q).get? (nJ s.heap q).objs.size=some _:=az _ rfl;have g1:(wK s.heap q).get? s.heap.objs.size=some _:=aj _ (az _ rfl);show _∧_;rw [y1] at g2 ⊢;exact ⟨⟨_,g2,rfl⟩,k _ g2 ⟨_,g1,rfl,rfl⟩ fun b o x=>aj _ (aj _ x)⟩
end
def wE (K:PySem.W.Frag) (a:Addr):It :=
 ⟨fun i H=>∃xs x,SqT K H a xs∧xs[i]?=some x,
  fun i H v H'=>∃T x,v=.ref T∧H T=none∧H'=upd H T (.tup [.int (i:Int),x])∧∀xs,SqT K H a xs→xs[i]?=some x,
  fun i H=>∃xs,SqT K H a xs∧xs.length≤i⟩
theorem NH {P:Program} {w:World} {K:PySem.W.Frag} {elts:List Expr} {x1:Nat} {pos:Pos} {a e it:Addr} (hei:e≠it) (hea:e≠a) (hia:it≠a) :
  Turn P w K (.Tuple elts x1 pos) (wE K a) [e,it] e (fun i h=>(∃old,IsEnum h e it i old)∧h.IsTupleIter it a i) where
 mem:=by simp
 obj:=fun i h st b hb=>by
  obtain ⟨⟨old,he⟩,⟨o1,e1,c1,d1⟩⟩:=st;simp only [ax,aM,dh] at hb
  rcases hb with rfl|rfl
  ·exact ⟨_,he,fun v y=>by have y':Data.fields _=Data.cell v:=y;cases y'⟩
  ·exact ⟨o1,e1,fun v y=>by rw [d1] at y;cases y⟩
 keep:=fun i h h' st k=>by
  obtain ⟨⟨old,he⟩,h1⟩:=st;exact ⟨⟨old,k _ (by simp) _ he⟩,h1.at fun o e=>k _ (by simp) o e⟩
 item:=by
  intro X hP hw hK hc i pins s σ H E I hf st hg;subst hP hw hK;obtain ⟨⟨old,he⟩,h1⟩:=st;obtain ⟨xs,x,hq1,hx⟩:=hg;obtain ⟨its1,rv1,p1,_⟩:=I.tuple hq1;have p1:s.heap.IsTuple a its1.toArray:=p1;obtain ⟨u,hu,ru⟩:=rv1.get hx;have hlt:i<its1.toArray.size:=by rw [ak];exact (ad.mp hu).1
  refine wpAny_pyNext_enum_itemD (PB (A:=X.A.in1) (I.ok.hd hc) hia) he ⟨h1,p1⟩ hlt hei (by simp [hei,hea]) fun u' h' tk hu' he' st' hT' hsz hk=>?_
  have eu:u'=u:=by
   have e1:its1.toArray[i]?=some u':=hu';rw [List.getElem?_toArray,hu] at e1;exact (aE e1).symm
  subst eu;refine ⟨_,rfl,?_⟩;refine wpAny_letOwnedTupleGo_enum he' fun h2 he2 hs2=>?_
  have lt:∀{b:Addr} {o:Obj},s.heap.get? b=some o→b<s.heap.objs.size:=fun e=>au e
  have nT:s.heap.objs.size≠e:=ec (lt he);have k2:∀b o,b∉[e,it]→s.heap.get? b=some o→h2.get? b=some o:=fun b o hb q=>by
   simp only [ax,aM,dh,not_or] at hb;exact (hs2.2 b hb.1).trans (hk b o hb.1 hb.2 q)
  have hT2:=(hs2.2 _ nT).trans hT';refine ⟨.ref s.heap.objs.size,upd H s.heap.objs.size (.tup [.int (i:Int),x]),I.laidN (t':=tk+1) (fp:=[e,it]) k2 hf (ar _) ⟨(by show 2≤sizeLine;decide),[.int i tk,u'],.cons ⟨_,rfl⟩ (.cons ru .nil),⟨_,hT2,rfl,_,rfl⟩⟩,rfl,?_,?_,?_⟩
  ·exact ⟨_,x,rfl,I.hok.fresh (ar _),rfl,fun zs hzs=>by rw [I.tuple_inj hzs hq1];exact hx⟩
  ·exact ⟨⟨_,he2⟩,st'.1.at fun o q=>(hs2.2 _ hei.symm).trans q⟩
  ·intro b hb;have:=(hf b hb).1;rw [jH]
   ·exact this
   ·intro q;simp only [ax,aM,dh] at hb;obtain ⟨o1,e1,_⟩:=h1
    rcases hb with rfl|rfl
    ·exact nT q.symm
    ·exact aF (lt e1) q
 done:=by
  intro X hP hw hK hc i pins s σ H E I hf st hg;subst hP hw hK;obtain ⟨⟨old,he⟩,h1⟩:=st;obtain ⟨xs,hq1,hx⟩:=hg;obtain ⟨its1,rv1,p1,_⟩:=I.tuple hq1;have p1:s.heap.IsTuple a its1.toArray:=p1;have l1:=rv1.length;unfold pyNext;refine ac (wpAny_attempt (bx (name:=Str.ofString "__next__") ⟨_,he,rfl⟩ F.slot_enumerate_next (en F.slot_enumerate_next ⟨_,he,rfl⟩ F.entry_enumerate_next ?_ (F.args_enumerate_next_1 _))));show wpAny _ _ (field (.ref e) 2 >>= _) _ _ _;refine ac (eo he rfl (x:=.ref it) rfl ?_);refine ac (rT (A:=X.A.in1) (I.ok.hd hc) h1 p1 (by simp;omega) fun h' z hk hz=>?_);obtain ⟨oz,ez,cz⟩:=hz;refine ac (ka (T:="StopIteration") (b:=true) ⟨oz,ez,cz⟩ isSubtype_stop ?_);refine am ⟨rfl,I.turnedN (t':=s.toks) (fp:=[e,it]) (fun b o hb q=>?_) hf⟩;simp only [ax,aM,dh,not_or] at hb;exact hk b o hb.2 q
 self:=fun _ _ _ _ _ st h=>by obtain ⟨⟨old,he⟩,_⟩:=st;exact iw he h
section
variable {X:Cx} {elts:List Expr} {x1:Nat} {tpos:Pos}
def UI (K:PySem.W.Frag) (ta:TA):TI:=fun σ H R=>ta σ H fun vs H1=>∃a,vs=[.ref a]∧(∃xs,SqT K H1 a xs)∧R (wE K a) H1
theorem PY {a:Expr} {ta:TA} {p pos:Pos} (hg:Gl X "enumerate") (hm:X.mg "enumerate"=none) (ha:PA X [a] ta) (hs:starEach [a] X.env=[(false,eval a X.env)]:=by rfl) :
  PI X (.Tuple elts x1 tpos) (.Call (.Name "enumerate" p) [a] [] pos) (UI X.K ta):=by
 intro pins s σ H R I h;refine Call_ (ZF I hg hm boot_enumerate (bq (jN (ha pos pins s σ H _ I h) fun us s1 ⟨vs,H1,I1,r1,q1⟩=>?_) hs rfl));obtain ⟨a1,e,⟨xs,hq1⟩,q⟩:=q1;subst e;cases r1 with
 |cons r rr =>
  cases rr;cases r;obtain ⟨its1,rv1,p1,_⟩:=I1.tuple hq1;have p1:s1.heap.IsTuple a1 its1.toArray:=p1;have lt1:a1<s1.heap.objs.size:=by obtain ⟨o,e,_⟩:=p1;exact au e
  refine OA p1 fun h' he hit hk=>?_
  refine iw he ?_;refine ⟨_,_,_,_,H1,rfl,I1.kept (t':=s1.toks) hk,NH (Nat.succ_ne_self _) (by intro z;simp only [Addr] at *;omega) (by intro z;simp only [Addr] at *;omega),⟨⟨_,he⟩,hit⟩,fun b hb=>?_,q⟩;simp only [ax,aM,dh] at hb;have hb':s1.heap.objs.size≤b:=by rcases hb with rfl|rfl<;>simp only [Addr] at *<;>omega
  exact I1.fpOk hb' (I1.hok.fresh hb')
theorem M1 {K:PySem.W.Frag} {a D:Addr} {xs:List V} {g:TG} {tc:TT} {te:TE} {σ₀:St} {H:Hp} {Q:Hp→Prop} (Pv:Nat→St→Hp→Prop) (h0:Pv 0 σ₀ (upd H D (.lst []))) (hl:∀i σ H,i≤xs.length→Pv i σ H→SqT K H a xs)
  (hs:∀i x σ H T,xs[i]?=some x→Pv i σ H→H T=none→g (.ref T) σ (upd H T (.tup [.int (i:Int),x])) fun σ2 H3=>tc σ2 H3 fun b H4=>if b=true then te σ2 H4 fun v H5=>∃zs,H5 D=some (.lst zs)∧zs.length<sizeLine∧Pv (i+1) σ2 (upd H5 D (.lst (zs++[v]))) else Pv (i+1) σ2 H4)
  (hd:∀σ H,Pv xs.length σ H→Q H):QT D (wE K a) g tc te σ₀ H Q:=by
 refine ⟨fun i m σ H=>m=xs.length - i∧i≤xs.length∧Pv i σ H,⟨xs.length,by simp,aY _,h0⟩,?_⟩;rintro i m σ H ⟨rfl,hi,p⟩;have q1:=hl i σ H hi p
 by_cases hlt:i<xs.length
 ·refine .inr ⟨⟨xs,_,q1,aa hlt⟩,Pv (i+1),fun σ' H' p'=>⟨xs.length - (i+1),by omega,rfl,hlt,p'⟩,fun v H' hy=>?_⟩;obtain ⟨T,x,rfl,hT,rfl,e1⟩:=hy;exact hs i x σ H T (e1 xs q1) p hT
 ·exact .inl ⟨⟨xs,q1,by omega⟩,hd σ H (by rw [show xs.length=i by omega];exact p)⟩
end
section
variable {X:Cx}
def U2 (K:PySem.W.Frag):R2:=fun x y H Q=>∃(a b:Addr) (xs ys:List V) (es:List Bool),x=.ref a∧y=.ref b∧SqT K H a xs∧SqT K H b ys∧xs.length=ys.length∧es.length=xs.length∧(∀j,j<xs.length→DEq K H (xs.getD j .non) (ys.getD j .non) (es.getD j true))∧Q (.bl (es.all id)) H
theorem SO (hu:X.A.units+1<cLine):qT X (compareOp .Eq) (U2 X.K):=by
 intro pins s σ H x y v u Q I rx ry h;obtain ⟨a,b,xs,ys,es,rfl,rfl,ha,hb,hlen,hes,hd,q⟩:=h;cases rx;cases ry;obtain ⟨its,r,pl,hz⟩:=I.tuple ha;obtain ⟨its2,r2,pl2,hz2⟩:=I.tuple hb;have hl:=r.length;have hl2:=r2.length;refine SeqAt.eq_tupleAt (e:=fun j=>es.getD j true) pl pl2 (by omega) (fun j h1 h2=>?_) ⟨.bl _,H,I,rfl,?_⟩
 ·exact (hd j (by rw [hl];simpa using h1)).at I (QJ r h1) (QJ r2 h2) hu
 ·have e:((List.range (min its.toArray.size its2.toArray.size)).all (fun j=>es.getD j true)&&its.toArray.size == its2.toArray.size)=es.all id:=by
   rw [ak,ak,← hl,← hl2,← hlen,Nat.min_self,ci,Bool.and_true,← hes,MO]
  rw [e];exact q
end
variable {K:PySem.W.Frag} {H:Hp} {i:Int} {v:V} {P:V→Prop}
theorem qG {p:Addr} {xs:List V} (h:SqL K H p xs) (t:vF xs i=some v) (q:P v):∃p' xs' i' v',V.ref p=.ref p'∧V.int i=.int i'∧SqL K H p' xs'∧vF xs' i'=some v'∧P v':=⟨p,xs,i,v,rfl,rfl,h,t,q⟩
theorem j3 {p:Addr} {xs:List V} (h:SqT K H p xs) (t:vF xs i=some v) (q:P v):∃p' xs' i' v',V.ref p=.ref p'∧V.int i=.int i'∧SqT K H p' xs'∧vF xs' i'=some v'∧P v':=⟨p,xs,i,v,rfl,rfl,h,t,q⟩
theorem j8 {a C dx:Addr} {fs:List (Str×V)} {f:Str} (h:H a=some (.ins C dx fs)) (c:Cls K C) (n:NoAttr K C f) (l:fs.lookup f=some v) (q:P v):∃a' C' dx' fs' v',V.ref a=.ref a'∧H a'=some (.ins C' dx' fs')∧Cls K C'∧NoAttr K C' f∧fs'.lookup f=some v'∧P v':=⟨a,C,dx,fs,v,rfl,h,c,n,l,q⟩
theorem j9 {P:Int→Int→Prop} {j:Int} (h:P i j):∃a b,V.int i=V.int a∧V.int j=V.int b∧P a b:=⟨i,j,rfl,rfl,h⟩
end L2
namespace L2
open PySem PySem.Spec PyProof.Rows
section
variable {X:Cx}
end
end L2
namespace L2
theorem jA {α β:Type} {f:α→β} {b:β} {v:α} {B:α→Prop} (h:b=f v) (q:B v):∃x,b=f x∧B x:=⟨v,h,q⟩
open PySem PySem.Spec PyProof.Rows in
theorem jV {CX:vS} {P:Program} {w:World} {K:PySem.W.Frag} {mg:Str→Option Value} {base:Heap} {N:List Str} {qual:Str} {scope:Scope} {f:Addr} {cd:Value} {A:Around} {outer:List Env} {s:Shared} {H:Hp} {E:XK}:(vR CX P w K mg base N qual scope f cd A outer s H E).K=K:=rfl
open PySem PySem.Spec PyProof.Rows in
theorem jU {CX:vS} {P:Program} {w:World} {K:PySem.W.Frag} {mg:Str→Option Value} {base:Heap} {N:List Str} {qual:Str} {scope:Scope} {f:Addr} {cd:Value} {A:Around} {outer:List Env} {s:Shared} {H:Hp} {E:XK}:(vR CX P w K mg base N qual scope f cd A outer s H E).nox.K=K:=rfl
end L2
namespace L2
variable {α0 α1 α2:Sort _}
theorem v8 {P:α0→α1→α2→Prop} (a0:α0) (a1:α1) (a2:α2) (h:P a0 a1 a2):∃a0 a1 a2,P a0 a1 a2:=⟨a0,a1,a2,h⟩
variable {α3:Sort _}
theorem yD {P:α0→α1→α2→α3→Prop} (a0:α0) (a1:α1) (a2:α2) (a3:α3) (h:P a0 a1 a2 a3):∃a0 a1 a2 a3,P a0 a1 a2 a3:=⟨a0,a1,a2,a3,h⟩
variable {α4:Sort _}
theorem JA {P:α0→α1→α2→α3→α4→Prop} (a0:α0) (a1:α1) (a2:α2) (a3:α3) (a4:α4) (h:P a0 a1 a2 a3 a4):∃a0 a1 a2 a3 a4,P a0 a1 a2 a3 a4:=⟨a0,a1,a2,a3,a4,h⟩
variable {α5 α6:Sort _}
theorem W1 {P:α0→α1→α2→α3→α4→α5→α6→Prop} (a0:α0) (a1:α1) (a2:α2) (a3:α3) (a4:α4) (a5:α5) (a6:α6) (h:P a0 a1 a2 a3 a4 a5 a6):∃a0 a1 a2 a3 a4 a5 a6,P a0 a1 a2 a3 a4 a5 a6:=⟨a0,a1,a2,a3,a4,a5,a6,h⟩
variable {α7:Sort _}
theorem QF {P:α0→α1→α2→α3→α4→α5→α6→α7→Prop} (a0:α0) (a1:α1) (a2:α2) (a3:α3) (a4:α4) (a5:α5) (a6:α6) (a7:α7) (h:P a0 a1 a2 a3 a4 a5 a6 a7):∃a0 a1 a2 a3 a4 a5 a6 a7,P a0 a1 a2 a3 a4 a5 a6 a7:=⟨a0,a1,a2,a3,a4,a5,a6,a7,h⟩
variable {α8:Sort _}
theorem W0 {P:α0→α1→α2→α3→α4→α5→α6→α7→α8→Prop} (a0:α0) (a1:α1) (a2:α2) (a3:α3) (a4:α4) (a5:α5) (a6:α6) (a7:α7) (a8:α8) (h:P a0 a1 a2 a3 a4 a5 a6 a7 a8):∃a0 a1 a2 a3 a4 a5 a6 a7 a8,P a0 a1 a2 a3 a4 a5 a6 a7 a8:=⟨a0,a1,a2,a3,a4,a5,a6,a7,a8,h⟩
variable {α9:Sort _}
theorem eE {P:α0→α1→α2→α3→α4→α5→α6→α7→α8→α9→Prop} (a0:α0) (a1:α1) (a2:α2) (a3:α3) (a4:α4) (a5:α5) (a6:α6) (a7:α7) (a8:α8) (a9:α9) (h:P a0 a1 a2 a3 a4 a5 a6 a7 a8 a9):∃a0 a1 a2 a3 a4 a5 a6 a7 a8 a9,P a0 a1 a2 a3 a4 a5 a6 a7 a8 a9:=⟨a0,a1,a2,a3,a4,a5,a6,a7,a8,a9,h⟩
variable {α10 α11:Sort _}
theorem eD {P:α0→α1→α2→α3→α4→α5→α6→α7→α8→α9→α10→α11→Prop} (a0:α0) (a1:α1) (a2:α2) (a3:α3) (a4:α4) (a5:α5) (a6:α6) (a7:α7) (a8:α8) (a9:α9) (a10:α10) (a11:α11) (h:P a0 a1 a2 a3 a4 a5 a6 a7 a8 a9 a10 a11):∃a0 a1 a2 a3 a4 a5 a6 a7 a8 a9 a10 a11,P a0 a1 a2 a3 a4 a5 a6 a7 a8 a9 a10 a11:=⟨a0,a1,a2,a3,a4,a5,a6,a7,a8,a9,a10,a11,h⟩
variable {α12:Sort _}
theorem u5 {P:α0→α1→α2→α3→α4→α5→α6→α7→α8→α9→α10→α11→α12→Prop} (a0:α0) (a1:α1) (a2:α2) (a3:α3) (a4:α4) (a5:α5) (a6:α6) (a7:α7) (a8:α8) (a9:α9) (a10:α10) (a11:α11) (a12:α12) (h:P a0 a1 a2 a3 a4 a5 a6 a7 a8 a9 a10 a11 a12):∃a0 a1 a2 a3 a4 a5 a6 a7 a8 a9 a10 a11 a12,P a0 a1 a2 a3 a4 a5 a6 a7 a8 a9 a10 a11 a12:=⟨a0,a1,a2,a3,a4,a5,a6,a7,a8,a9,a10,a11,a12,h⟩
variable {α13:Sort _}
theorem cJ {P:α0→α1→α2→α3→α4→α5→α6→α7→α8→α9→α10→α11→α12→α13→Prop} (a0:α0) (a1:α1) (a2:α2) (a3:α3) (a4:α4) (a5:α5) (a6:α6) (a7:α7) (a8:α8) (a9:α9) (a10:α10) (a11:α11) (a12:α12) (a13:α13) (h:P a0 a1 a2 a3 a4 a5 a6 a7 a8 a9 a10 a11 a12 a13):∃a0 a1 a2 a3 a4 a5 a6 a7 a8 a9 a10 a11 a12 a13,P a0 a1 a2 a3 a4 a5 a6 a7 a8 a9 a10 a11 a12 a13:=⟨a0,a1,a2,a3,a4,a5,a6,a7,a8,a9,a10,a11,a12,a13,h⟩
theorem FV {α14:Sort _} {α15:Sort _} {P:α0→α1→α2→α3→α4→α5→α6→α7→α8→α9→α10→α11→α12→α13→α14→α15→Prop} (a0:α0) (a1:α1) (a2:α2) (a3:α3) (a4:α4) (a5:α5) (a6:α6) (a7:α7) (a8:α8) (a9:α9) (a10:α10) (a11:α11) (a12:α12) (a13:α13) (a14:α14) (a15:α15) (h:P a0 a1 a2 a3 a4 a5 a6 a7 a8 a9 a10 a11 a12 a13 a14 a15):∃a0 a1 a2 a3 a4 a5 a6 a7 a8 a9 a10 a11 a12 a13 a14 a15,P a0 a1 a2 a3 a4 a5 a6 a7 a8 a9 a10 a11 a12 a13 a14 a15:=⟨a0,a1,a2,a3,a4,a5,a6,a7,a8,a9,a10,a11,a12,a13,a14,a15,h⟩
variable {A0 A1 A2:Prop}
theorem yE (h0:A0) (h1:A1) (h2:A2):A0∧A1∧A2:=⟨h0,h1,h2⟩
variable {A3:Prop}
theorem y0 (h0:A0) (h1:A1) (h2:A2) (h3:A3):A0∧A1∧A2∧A3:=⟨h0,h1,h2,h3⟩
variable {A4:Prop}
theorem yZ (h0:A0) (h1:A1) (h2:A2) (h3:A3) (h4:A4):A0∧A1∧A2∧A3∧A4:=⟨h0,h1,h2,h3,h4⟩
variable {A5:Prop}
theorem yH (h0:A0) (h1:A1) (h2:A2) (h3:A3) (h4:A4) (h5:A5):A0∧A1∧A2∧A3∧A4∧A5:=⟨h0,h1,h2,h3,h4,h5⟩
variable {A6:Prop}
theorem bD (h0:A0) (h1:A1) (h2:A2) (h3:A3) (h4:A4) (h5:A5) (h6:A6):A0∧A1∧A2∧A3∧A4∧A5∧A6:=⟨h0,h1,h2,h3,h4,h5,h6⟩
variable {A7:Prop}
theorem gS (h0:A0) (h1:A1) (h2:A2) (h3:A3) (h4:A4) (h5:A5) (h6:A6) (h7:A7):A0∧A1∧A2∧A3∧A4∧A5∧A6∧A7:=⟨h0,h1,h2,h3,h4,h5,h6,h7⟩
variable {A8:Prop}
theorem wN (h0:A0) (h1:A1) (h2:A2) (h3:A3) (h4:A4) (h5:A5) (h6:A6) (h7:A7) (h8:A8):A0∧A1∧A2∧A3∧A4∧A5∧A6∧A7∧A8:=⟨h0,h1,h2,h3,h4,h5,h6,h7,h8⟩
variable {A9:Prop}
theorem WI (h0:A0) (h1:A1) (h2:A2) (h3:A3) (h4:A4) (h5:A5) (h6:A6) (h7:A7) (h8:A8) (h9:A9):A0∧A1∧A2∧A3∧A4∧A5∧A6∧A7∧A8∧A9:=⟨h0,h1,h2,h3,h4,h5,h6,h7,h8,h9⟩
variable {A10:Prop}
theorem FX (h0:A0) (h1:A1) (h2:A2) (h3:A3) (h4:A4) (h5:A5) (h6:A6) (h7:A7) (h8:A8) (h9:A9) (h10:A10):A0∧A1∧A2∧A3∧A4∧A5∧A6∧A7∧A8∧A9∧A10:=⟨h0,h1,h2,h3,h4,h5,h6,h7,h8,h9,h10⟩
variable {C:Prop}
theorem gL {P:α0→α1→α2→Prop} (h:∃a0 a1 a2,P a0 a1 a2) (q:∀a0 a1 a2,P a0 a1 a2→C):C:=by
 obtain ⟨a0,a1,a2,h⟩:=h;exact q _ _ _ h
theorem gK {P:α0→α1→α2→α3→Prop} (h:∃a0 a1 a2 a3,P a0 a1 a2 a3) (q:∀a0 a1 a2 a3,P a0 a1 a2 a3→C):C:=by
 obtain ⟨a0,a1,a2,a3,h⟩:=h;exact q _ _ _ _ h
theorem Q3 {P:α0→α1→α2→α3→α4→Prop} (h:∃a0 a1 a2 a3 a4,P a0 a1 a2 a3 a4) (q:∀a0 a1 a2 a3 a4,P a0 a1 a2 a3 a4→C):C:=by
 obtain ⟨a0,a1,a2,a3,a4,h⟩:=h;exact q _ _ _ _ _ h
theorem Z7 {P:α0→α1→α2→α3→α4→α5→Prop} (h:∃a0 a1 a2 a3 a4 a5,P a0 a1 a2 a3 a4 a5) (q:∀a0 a1 a2 a3 a4 a5,P a0 a1 a2 a3 a4 a5→C):C:=by
 obtain ⟨a0,a1,a2,a3,a4,a5,h⟩:=h;exact q _ _ _ _ _ _ h
theorem ZO {P:α0→α1→α2→α3→α4→α5→α6→Prop} (h:∃a0 a1 a2 a3 a4 a5 a6,P a0 a1 a2 a3 a4 a5 a6) (q:∀a0 a1 a2 a3 a4 a5 a6,P a0 a1 a2 a3 a4 a5 a6→C):C:=by
 obtain ⟨a0,a1,a2,a3,a4,a5,a6,h⟩:=h;exact q _ _ _ _ _ _ _ h
theorem zB {P:α0→α1→α2→α3→α4→α5→α6→α7→Prop} (h:∃a0 a1 a2 a3 a4 a5 a6 a7,P a0 a1 a2 a3 a4 a5 a6 a7) (q:∀a0 a1 a2 a3 a4 a5 a6 a7,P a0 a1 a2 a3 a4 a5 a6 a7→C):C:=by
 obtain ⟨a0,a1,a2,a3,a4,a5,a6,a7,h⟩:=h;exact q _ _ _ _ _ _ _ _ h
theorem u4 {P:α0→α1→α2→α3→α4→α5→α6→α7→α8→Prop} (h:∃a0 a1 a2 a3 a4 a5 a6 a7 a8,P a0 a1 a2 a3 a4 a5 a6 a7 a8) (q:∀a0 a1 a2 a3 a4 a5 a6 a7 a8,P a0 a1 a2 a3 a4 a5 a6 a7 a8→C):C:=by
 obtain ⟨a0,a1,a2,a3,a4,a5,a6,a7,a8,h⟩:=h;exact q _ _ _ _ _ _ _ _ _ h
theorem gE {P:α0→α1→α2→α3→α4→α5→α6→α7→α8→α9→Prop} (h:∃a0 a1 a2 a3 a4 a5 a6 a7 a8 a9,P a0 a1 a2 a3 a4 a5 a6 a7 a8 a9) (q:∀a0 a1 a2 a3 a4 a5 a6 a7 a8 a9,P a0 a1 a2 a3 a4 a5 a6 a7 a8 a9→C):C:=by
 obtain ⟨a0,a1,a2,a3,a4,a5,a6,a7,a8,a9,h⟩:=h;exact q _ _ _ _ _ _ _ _ _ _ h
theorem uQ {P:α0→α1→α2→α3→α4→α5→α6→α7→α8→α9→α10→α11→Prop} (h:∃a0 a1 a2 a3 a4 a5 a6 a7 a8 a9 a10 a11,P a0 a1 a2 a3 a4 a5 a6 a7 a8 a9 a10 a11) (q:∀a0 a1 a2 a3 a4 a5 a6 a7 a8 a9 a10 a11,P a0 a1 a2 a3 a4 a5 a6 a7 a8 a9 a10 a11→C):C:=by
 obtain ⟨a0,a1,a2,a3,a4,a5,a6,a7,a8,a9,a10,a11,h⟩:=h;exact q _ _ _ _ _ _ _ _ _ _ _ _ h
theorem uP {P:α0→α1→α2→α3→α4→α5→α6→α7→α8→α9→α10→α11→α12→Prop} (h:∃a0 a1 a2 a3 a4 a5 a6 a7 a8 a9 a10 a11 a12,P a0 a1 a2 a3 a4 a5 a6 a7 a8 a9 a10 a11 a12) (q:∀a0 a1 a2 a3 a4 a5 a6 a7 a8 a9 a10 a11 a12,P a0 a1 a2 a3 a4 a5 a6 a7 a8 a9 a10 a11 a12→C):C:=by
 obtain ⟨a0,a1,a2,a3,a4,a5,a6,a7,a8,a9,a10,a11,a12,h⟩:=h;exact q _ _ _ _ _ _ _ _ _ _ _ _ _ h
theorem eB {P:α0→α1→α2→α3→α4→α5→α6→α7→α8→α9→α10→α11→α12→α13→Prop} (h:∃a0 a1 a2 a3 a4 a5 a6 a7 a8 a9 a10 a11 a12 a13,P a0 a1 a2 a3 a4 a5 a6 a7 a8 a9 a10 a11 a12 a13) (q:∀a0 a1 a2 a3 a4 a5 a6 a7 a8 a9 a10 a11 a12 a13,P a0 a1 a2 a3 a4 a5 a6 a7 a8 a9 a10 a11 a12 a13→C):C:=by
 obtain ⟨a0,a1,a2,a3,a4,a5,a6,a7,a8,a9,a10,a11,a12,a13,h⟩:=h;exact q _ _ _ _ _ _ _ _ _ _ _ _ _ _ h
theorem VJ {α14:Sort _} {α15:Sort _} {P:α0→α1→α2→α3→α4→α5→α6→α7→α8→α9→α10→α11→α12→α13→α14→α15→Prop} (h:∃a0 a1 a2 a3 a4 a5 a6 a7 a8 a9 a10 a11 a12 a13 a14 a15,P a0 a1 a2 a3 a4 a5 a6 a7 a8 a9 a10 a11 a12 a13 a14 a15) (q:∀a0 a1 a2 a3 a4 a5 a6 a7 a8 a9 a10 a11 a12 a13 a14 a15,P a0 a1 a2 a3 a4 a5 a6 a7 a8 a9 a10 a11 a12 a13 a14 a15→C):C:=by
 obtain ⟨a0,a1,a2,a3,a4,a5,a6,a7,a8,a9,a10,a11,a12,a13,a14,a15,h⟩:=h;exact q _ _ _ _ _ _ _ _ _ _ _ _ _ _ _ _ h
theorem q0 (h:A0∧A1∧A2) (q:A0→A1→A2→C):C:=by
 obtain ⟨h0,h1,h2⟩:=h;exact q h0 h1 h2
theorem eH (h:A0∧A1∧A2∧A3) (q:A0→A1→A2→A3→C):C:=by
 obtain ⟨h0,h1,h2,h3⟩:=h;exact q h0 h1 h2 h3
theorem eG (h:A0∧A1∧A2∧A3∧A4) (q:A0→A1→A2→A3→A4→C):C:=by
 obtain ⟨h0,h1,h2,h3,h4⟩:=h;exact q h0 h1 h2 h3 h4
theorem Q4 (h:A0∧A1∧A2∧A3∧A4∧A5) (q:A0→A1→A2→A3→A4→A5→C):C:=by
 obtain ⟨h0,h1,h2,h3,h4,h5⟩:=h;exact q h0 h1 h2 h3 h4 h5
theorem cK (h:A0∧A1∧A2∧A3∧A4∧A5∧A6) (q:A0→A1→A2→A3→A4→A5→A6→C):C:=by
 obtain ⟨h0,h1,h2,h3,h4,h5,h6⟩:=h;exact q h0 h1 h2 h3 h4 h5 h6
theorem eF (h:A0∧A1∧A2∧A3∧A4∧A5∧A6∧A7) (q:A0→A1→A2→A3→A4→A5→A6→A7→C):C:=by
 obtain ⟨h0,h1,h2,h3,h4,h5,h6,h7⟩:=h;exact q h0 h1 h2 h3 h4 h5 h6 h7
theorem FW (h:A0∧A1∧A2∧A3∧A4∧A5∧A6∧A7∧A8) (q:A0→A1→A2→A3→A4→A5→A6→A7→A8→C):C:=by
 obtain ⟨h0,h1,h2,h3,h4,h5,h6,h7,h8⟩:=h;exact q h0 h1 h2 h3 h4 h5 h6 h7 h8
theorem VO (h:A0∧A1∧A2∧A3∧A4∧A5∧A6∧A7∧A8∧A9) (q:A0→A1→A2→A3→A4→A5→A6→A7→A8→A9→C):C:=by
 obtain ⟨h0,h1,h2,h3,h4,h5,h6,h7,h8,h9⟩:=h;exact q h0 h1 h2 h3 h4 h5 h6 h7 h8 h9
theorem FK (h:A0∧A1∧A2∧A3∧A4∧A5∧A6∧A7∧A8∧A9∧A10) (q:A0→A1→A2→A3→A4→A5→A6→A7→A8→A9→A10→C):C:=by
 obtain ⟨h0,h1,h2,h3,h4,h5,h6,h7,h8,h9,h10⟩:=h;exact q h0 h1 h2 h3 h4 h5 h6 h7 h8 h9 h10
theorem VN {A11:Prop} (h:A0∧A1∧A2∧A3∧A4∧A5∧A6∧A7∧A8∧A9∧A10∧A11) (q:A0→A1→A2→A3→A4→A5→A6→A7→A8→A9→A10→A11→C):C:=by
 obtain ⟨h0,h1,h2,h3,h4,h5,h6,h7,h8,h9,h10,h11⟩:=h;exact q h0 h1 h2 h3 h4 h5 h6 h7 h8 h9 h10 h11
theorem uT {A11 A12:Prop} (h:A0∧A1∧A2∧A3∧A4∧A5∧A6∧A7∧A8∧A9∧A10∧A11∧A12) (q:A0→A1→A2→A3→A4→A5→A6→A7→A8→A9→A10→A11→A12→C):C:=by
 obtain ⟨h0,h1,h2,h3,h4,h5,h6,h7,h8,h9,h10,h11,h12⟩:=h;exact q h0 h1 h2 h3 h4 h5 h6 h7 h8 h9 h10 h11 h12
end L2
namespace L2
open PySem PySem.Spec PyProof.Rows
section
variable {X:Cx}
end
section
variable {prog:Program} {w:World} {A:Around} {E:Value→Shared→Prop} {s:Shared}
end
section
variable {X:Cx}
end
section
variable {X:Cx} {pins:List (Addr×Obj)} {σ:St} {H:Hp} {s:Shared} {a:Addr} {y d:V} {u r:Value} {o:Option V} {A:Around} {E:Value→Shared→Prop}
end
section
variable {X:Cx} {o e f:Expr} {apos cpos:Pos} {td ty tx:TE}
end
section
variable {M:Model} {A:Around} {E:Value→Shared→Prop} {s:Shared}
end
def uS (X:Cx) (N:List Str) (scope:Scope) (C:Addr) (s:Shared) (H:Hp) (pins:List (Addr×Obj)) (fp:List Addr) (RX:Value→Hp→Prop):Value→Shared→Prop:=fun e s'=>∃pins₁ σ₁ H₁ s₁,Inv (vI X N scope C s H pins fp) pins₁ σ₁ H₁ s₁∧vT X.prog X.w X.stack H₁ s₁ (fun c _ H'=>RX c H') e s'
section
variable {P:Program} {w:World} {K:PySem.W.Frag} {mg:Str→Option Value} {base:Heap} {N:List Str} {qual:Str} {scope:Scope} {f:Addr} {cd:Value} {A:Around} {outer:List Env} {s:Shared} {H:Hp} {E:XK}
end
theorem N9 {prog:Program} {w:World} {A:Around} {elt target iter:Expr} {ifs:List Expr} {scope:Scope} {pos:Pos} {it acc:Value} {env:Env} {R:Result→Shared→Prop} {s:Shared} (I:Nat→Shared→Prop)
  (turn:∀n s,I n s→wpAny (model prog w) A (pyNext it) (fun r s₁=>match r with
   |none=>R (.ok .next) s₁
   |some v=>wpAny (model prog w) A (letOwnedTupleGo target it v) (fun _ s₁'=>wpAny (model prog w) A (assign target env v) (fun _ s₂ =>
     wpAny (model prog w) A (forIn ifs true fun c r=>if r=true then do let ok ← isTrue c env (eval c env);pure (ForInStep.yield ok) else pure (ForInStep.yield r)) (fun ok s₃ =>
      if ok=true then wpAny (model prog w) A (eval elt env) (fun x s₄ =>
       wpAny (model prog w) A (call (.builtin "list.append") [acc,x]) (fun _ s₅=>∃m,m<n∧I m s₅) (fun _ _=>False) s₄) (notedBy (model prog w) A env fun e s'=>R (.error e) s') s₃
      else ∃m,m<n∧I m s₃) (fun _ _=>False) s₂) (fun _ _=>False) s₁') (fun _ _=>False) s₁) (fun _ _=>False) s)
  (n:Nat) (h:I n s):codeAny (model prog w) A (.compLoop (.ListComp elt [⟨target,iter,ifs,0⟩] scope pos) 0 it acc env) R s:=by
 refine codeAny_loop rfl I (fun n s hI=>?_) n h;show wpAny _ A ((compTurn (.ListComp elt [⟨target,iter,ifs,0⟩] scope pos) 0 it acc env).onRaise (fun x=>do noteFrame x env;theTreesLotGoes x)) _ _ s;refine wpAny_noted ?_;rw [compTurn_list];refine ac (ko (ac (bv (turn n s hI) (fun r s₁ h₁=>?_) fun _ _ h'=>h'.elim)));cases r with
 |none=>exact am h₁
 |some v =>
  refine ac (bv h₁ (fun _ s₁' h₁'=>?_) fun _ _ h'=>h'.elim);refine ac (bv h₁' (fun _ s₂ h₂=>ac (bv h₂ (fun ok s₃ h₃=>?_) fun _ _ h'=>h'.elim)) fun _ _ h'=>h'.elim);cases ok with
  |false=>exact am ⟨rfl,h₃⟩
  |true =>
   exact ac (ac (bv h₃ (fun x s₄ h₄=>ac (bv h₄ (fun _ s₅ h₅=>am (am ⟨rfl,h₅⟩)) fun _ _ h'=>h'.elim)) fun _ _ h'=>h'))
section
variable {X:Cx} {N:List Str} {scope:Scope} {pins:List (Addr×Obj)} {σ:St} {H:Hp} {s:Shared} {fp:List Addr}
theorem BJ {tg iter elt:Expr} {ifs:List Expr} {pos:Pos} {cap:St→St} {g:TG} {tc:TT} {te:TE} {J:It} {it:Addr} {tn:Nat→Heap→Prop} {Q:Addr→Hp→Prop} {RR:Value→Addr→Result→Shared→Prop} {RX:Value→Hp→Prop}
  (hcalm:X.calm=true) (S:CompScope X scope) (hcap:Z9 X N scope cap) (I:Inv X pins σ H s) (T:Turn X.prog X.w X.K tg J fp it tn) (st:tn 0 s.heap) (hf:∀b∈fp,JW X pins H b)
  (hg:∀C,PG (vI X N scope C s H pins fp) tg g) (hc:∀C,eO (vI X N scope C s H pins fp) ifs tc) (he:∀C,PE ((vI X N scope C s H pins fp).wish (uS X N scope C s H pins fp RX)) elt te)
  (hq:∀D,H D=none→QT D J g tc te (cap σ) H (Q D))
  (hRR:∀D C σc H' s',s.heap.objs.size≤C→Inv (vI X N scope C s H pins fp) [] σc H' s'→Q D H'→RR (.ref D) C (.ok .next) s')
  (hRE:∀D C e s',s.heap.objs.size≤C→uS X N scope C s H pins fp RX e s'→wpAny (model X.prog X.w) X.A (noteFrame e (compEnvC scope (yO X.env.cells scope.names []) C X.env)) (fun _ s''=>RR (.ref D) C (.error e) s'') (fun e' s''=>RR (.ref D) C (.error e') s'') s') :
  wpAny (model X.prog X.w) X.A (newList []) (fun acc s₃=>wpAny (model X.prog X.w) X.A (newFunctionEnv scope X.env.globals (yO X.env.cells scope.names []) [] X.env.qual none .none (some X.env)) (fun cenv s₄ =>
   codeAny (model X.prog X.w) X.A (.compStart (.ListComp elt [⟨tg,iter,ifs,0⟩] scope pos) 0 (.ref it) acc {cenv with scope:=relabel scope X.env}) (RR acc cenv.locals) s₄) X.xe s₃) X.xe s:=by
 refine wpAny_newObj_type (km S.nocell (by intro y hy;simp at hy) (fun h₁ hns₁ hsb₁=>?_) S.kind)
 dsimp only at hns₁ hsb₁ ⊢
 generalize hH2:s.heap.push {cls:=.type "list",dict:=none,data:=.seq ([]:List Value).toArray}=H2 at hns₁ hsb₁ ⊢;have hC:H2.objs.size=s.heap.objs.size+1:=by rw [← hH2,cg]
 have hDC:s.heap.objs.size≠H2.objs.size:=by rw [hC];exact aF (ek _)
 have hCle:s.heap.objs.size≤H2.objs.size:=by rw [hC];exact kt _
 have below:∀b,b<s.heap.objs.size→b≠H2.objs.size:=fun b hb=>by rw [hC];exact aF (Nat.lt_succ_of_lt hb)
 have old:∀b o,s.heap.get? b=some o→h₁.get? b=some o:=fun b o e=>hsb₁.extBut b o (below b (au e)) (aj _ (hH2▸aj _ e))
 have hacc:h₁.get? s.heap.objs.size=some {cls:=.type "list",data:=.seq ([]:List Value).toArray}:=hsb₁.extBut _ _ hDC (aj _ (hH2▸az _ rfl));have obj0:=T.obj 0 s.heap st;have I1:∀t',Inv (vI X N scope H2.objs.size s H pins fp) [] (cap σ) (upd H s.heap.objs.size (.lst [])) {s with heap:=h₁,toks:=t'}:=fun t' =>
  RS S I hcap hf (fun b hb=>let ⟨o,e,_⟩:=obj0 b hb;⟨o,e⟩) (ar _) hCle hDC old hns₁ hacc
 have st1:tn 0 h₁:=T.keep 0 s.heap h₁ st fun b _ o e=>old b o e
 have stat:∀{H':Hp},(∀b∈fp,H' b=none)→∀b∈fp,JW (vI X N scope H2.objs.size s H pins fp) [] H' b:=fun hn b hb=>by
  obtain ⟨_,h2,h3,h4,h5,h6⟩:=hf b hb;obtain ⟨o,ho,_⟩:=obj0 b hb;refine ⟨hn b hb,below b (au ho),?_,.inl hb,fun x c e=>h5 x c (i0 (i5 S I) (fun y d q=>by simp at q) e),fun p hp=>?_⟩
  ·intro z
   rcases ax.mp (I.stkSub b z) with e|e
   ·exact h2 e
   ·exact h3 e
  ·rcases aR.mp hp with z|z
   ·exact h6 p z
   ·cases z
 have fr1:∀b∈fp,upd H s.heap.objs.size (.lst []) b=none:=fun b hb=>by
  obtain ⟨o,ho,_⟩:=obj0 b hb;rw [jH (aF (au ho))];exact (hf b hb).1
 obtain ⟨W,⟨m0,w0⟩,turn⟩:=hq s.heap.objs.size (I.hok.fresh (ar _));have loop:∀s₃:Shared,s₃={s with heap:=h₁,toks:=s.toks+([]:List (Str×Value)).length}→
   codeAny (model X.prog X.w) X.A (.compLoop (.ListComp elt [⟨tg,iter,ifs,0⟩] scope pos) 0 (.ref it) (.ref s.heap.objs.size) (compEnvC scope (yO X.env.cells scope.names []) H2.objs.size X.env))
    (RR (.ref s.heap.objs.size) H2.objs.size) s₃:=by
  rintro s₃ rfl;refine N9 (fun n s'=>∃i σ' H',Inv (vI X N scope H2.objs.size s H pins fp) [] σ' H' s'∧tn i s'.heap∧(∀b∈fp,H' b=none)∧W i n σ' H') ?_ m0 ⟨0,cap σ,_,I1 _,st1,fr1,w0⟩;rintro n s3 ⟨i,σ3,H3,I3,st3,fr3,w3⟩
  rcases turn i n σ3 H3 w3 with ⟨stop,qn⟩|⟨go,Nn,hN,step⟩
  ·refine jN (T.done (vI X N scope H2.objs.size s H pins fp) rfl rfl rfl hcalm i [] s3 σ3 H3 (fun _ _=>False) I3 (stat fr3) st3 stop) fun r s4 ⟨hr,I4⟩=>?_
   subst hr;exact hRR _ _ σ3 H3 s4 hCle I4 qn
  ·refine jN (T.item (vI X N scope H2.objs.size s H pins fp) rfl rfl rfl hcalm i [] s3 σ3 H3 (fun _ _=>False) I3 (stat fr3) st3 go) fun r s4 ⟨u,hr,h4⟩=>?_
   subst hr;refine jN h4 fun _ s5 ⟨x,H5,I5,r5,y5,st5,fr5⟩=>?_
   have I5':=I5.pinned (stat fr5) (T.obj _ _ st5);have again:∀{σ7:St} {H7:Hp} {s7:Shared},Inv (vI X N scope H2.objs.size s H pins fp) ([]++fX fp s5.heap) σ7 H7 s7→Nn σ7 H7→
     ∃m,m<n∧∃i σ' H',Inv (vI X N scope H2.objs.size s H pins fp) [] σ' H' s7∧tn i s7.heap∧(∀b∈fp,H' b=none)∧W i m σ' H':=fun {σ7 H7 s7} I7 n7=>by
    obtain ⟨m',hm,w7⟩:=hN σ7 H7 n7;refine ⟨m',hm,i+1,σ7,H7,I7.unpinned,T.keep _ _ _ st5 fun b hb o e=>(I7.pin (b,o) (aU _ (aU _ (i3 hb e)))).1,fun b hb=>?_,w7⟩;obtain ⟨o,e,d⟩:=T.obj _ _ st5 b hb;exact (I7.pin (b,o) (aU _ (aU _ (i3 hb e)))).2.1
   refine jN (hg _ _ s5 σ3 H5 x u _ I5' r5 (step x H5 y5)) fun _ s6 ⟨σ6,H6,I6,q6⟩=>?_
   refine jN (hc _ _ s6 σ6 H6 _ I6 q6) fun ok s7 ⟨H7,I7,q7⟩=>?_
   cases ok with
   |false=>exact again I7 q7
   |true =>
    refine bv (he _ _ s7 σ6 H7 _ (I7.wish _) q7) (fun v s8 ⟨y,H8,I8,r8,xs,hD8,hz8,n8⟩=>?_) fun e se hx=>hRE _ _ e se hCle hx
    have I8:=I8.unwish;refine jN (QK _ s8 σ6 H8 (.ref s.heap.objs.size) [y] (.ref s.heap.objs.size) [v] (fun _ H9=>Nn σ6 H9) I8 rfl (.cons r8 .nil) ⟨_,_,_,rfl,rfl,hD8,hz8,n8⟩) fun _ s9 ⟨_,H9,I9,_,n9⟩=>?_
    exact again I9 n9
 exact codeAny_compStart_list (loop _ rfl) (bv (T.self X.A 0 _ (fun v s'=>v=.ref it∧s'=_) (fun _ _=>False) st1 ⟨rfl,rfl⟩) (fun v s' ⟨e1,e2⟩=>by subst e1;subst e2;exact loop _ rfl) fun _ _ z=>z.elim)
end
section
variable {P:Program} {w:World} {K:PySem.W.Frag} {mg:Str→Option Value} {base:Heap} {Nf:List Str} {qual:Str} {scf:Scope} {f:Addr} {cd:Value} {A:Around} {outer:List Env} {s₀:Shared} {H₀:Hp} {E:XK}
end
section
variable {X:Cx}
end
section
variable {P:Program} {w:World} {K:PySem.W.Frag} {mg:Str→Option Value} {base:Heap}
theorem Fun.ok2 {x qual:Str} {st:Stmt} {f:Addr} {fd:FuncData} {N ps:List Str} {k:Nat} {sp:Sp} (F:Fun K x qual st f fd) (S:FnScope N ps (jM st))
  (h:∀vs H Q E,sp vs H Q E→vs.length=ps.length∧∀cdv A outer s,Room k (A.deeper (envOfC qual (jM st) s.heap.objs.size f cdv))→∃t,PSs (vR jK P w K mg base N qual (jM st) f cdv A outer s H E).nox (kD st) t∧t {nx:=fun _ H'=>Q .non H',rt:=Q} (start N vs) H):FnOk P w K mg base jK (k+1) f fd ps sp :=
 F.ok S (fun vs H Q E z=>(h vs H Q E z).1) fun cdv A outer s H vs Q E r z=>(h vs H Q E z).2 cdv A outer s r
theorem Fun.okX2 {x qual:Str} {st:Stmt} {f:Addr} {fd:FuncData} {N ps:List Str} {k:Nat} {sp:Sp} (F:Fun K x qual st f fd) (S:FnScope N ps (jM st))
  (h:∀vs H Q E,sp vs H Q E→vs.length=ps.length∧∀cdv A outer s,Room k (A.deeper (envOfC qual (jM st) s.heap.objs.size f cdv))→∃t,PSs (vR (vT P w) P w K mg base N qual (jM st) f cdv A outer s H E) (kD st) t∧t {nx:=fun _ H'=>Q .non H',rt:=Q} (start N vs) H):FnOk P w K mg base (vT P w) (k+1) f fd ps sp :=
 F.okX S (fun vs H Q E z=>(h vs H Q E z).1) fun cdv A outer s H vs Q E r z=>(h vs H Q E z).2 cdv A outer s r
theorem FunD.ok2 {x qual:Str} {st:Stmt} {f:Addr} {fd:FuncData} {ds:List Value} {N ps:List Str} {k:Nat} {sp:Sp} (F:FunD K x qual st f fd ds) (S:FnScope N ps (jM st))
  (h:∀vs H Q E,sp vs H Q E→vs.length=ps.length∧∀cdv A outer s,Room k (A.deeper (envOfC qual (jM st) s.heap.objs.size f cdv))→∃t,PSs (vR jK P w K mg base N qual (jM st) f cdv A outer s H E).nox (kD st) t∧t {nx:=fun _ H'=>Q .non H',rt:=Q} (start N vs) H):FnOk P w K mg base jK (k+1) f fd ps sp :=
 F.ok S (fun vs H Q E z=>(h vs H Q E z).1) fun cdv A outer s H vs Q E r z=>(h vs H Q E z).2 cdv A outer s r
theorem bY {x:Str} {f:Addr} {fd:FuncData} {ps:List Str} {k:Nat} {sp:Sp} (G:FnOk P w K mg base jK k f fd ps sp) (m:mg x=some (.ref f)) (kp:PySem.W.keepIn K (.ref f)=true) (b:Binds K fd ps []):Def P w K mg base k x ps [] sp:=⟨_,_,[],G,m,kp,.nil,b⟩
theorem EZ {x:Str} {f:Addr} {fd:FuncData} {ps:List Str} {k:Nat} {sp:Sp} (G:FnOk P w K mg base (vT P w) k f fd ps sp) (m:mg x=some (.ref f)) (kp:PySem.W.keepIn K (.ref f)=true) (b:Binds K fd ps []):DefX P w K mg base k x ps [] sp:=⟨_,_,[],G,m,kp,.nil,b⟩
end
section
variable {X:Cx} {a b:Expr} {ta tb:TE} {r:R2} {pos:Pos}
theorem jI (hr:IxR X r) (ha:PE X a ta) (hb:PE X b tb) (hs:EE b:=by exact fun _ _=>rfl):PE X (.Subscript a b pos) (cO r ta tb):=GJ hr ha hb hs
theorem z9 {op:CmpOp} (ho:qT X (compareOp op) r) (ha:PE X a ta) (hb:PE X b tb) (hm:behindInMarks op b=false:=by first|exact wU _|with_unfolding_all rfl):PE X (.Compare a [op] [b] pos) (cO r ta tb):=SL ho ha hb hm
theorem kI {op:CmpOp} (ho:qT X (compareOp op) r) (ha:PE X a ta) (hb:PE X b tb) (hm:behindInMarks op b=false:=by first|exact wU _|with_unfolding_all rfl):PT X (.Compare a [op] [b] pos) (FA (cO r ta tb)):=GI ho ha hb hm
end
theorem so {K:PySem.W.Frag} {H:Hp} {a:Addr} {xs:List V} (h:H a=some (.lst xs)):SqL K H a xs:=SqL.of h
section
variable {X:Cx} {N:List Str} {scope:Scope} {pins:List (Addr×Obj)} {σ:St} {H:Hp} {s:Shared} {fp:List Addr}
theorem noX {C:Addr} {e:Value} {s':Shared} {p:Prop} (h:uS X N scope C s H pins fp (fun _ _=>False) e s'):p:=by
 obtain ⟨_,_,_,_,_,h⟩:=h;obtain ⟨_,_,_,_,_,_,_,_,_,_,_,z⟩:=h;exact z.elim
theorem QL {tg iter elt:Expr} {ifs:List Expr} {pos:Pos} {wi:TI} {g:TG} {tc:TT} {te:TE} (N:List Str) (cap:St→St) (hcalm:X.calm=true) (S:CompScope X scope) (hcap:Z9 X N scope cap) (hi:PI X tg iter wi)
  (hg:∀C s H pins fp,PG (vI X N scope C s H pins fp) tg g) (hc:∀C s H pins fp,eO (vI X N scope C s H pins fp) ifs tc) (he:∀C s H pins fp,PE (vI X N scope C s H pins fp) elt te)
  (hs:∀x,foldedSetIterable iter X.env x=pure x:=by intro _;rfl):PE X (.ListComp elt [⟨tg,iter,ifs,0⟩] scope pos) (uK wi cap g tc te):=by
 intro pins s σ H Q I h;rw [eval_ListComp];refine wpAny_comprehension_free (use:=none) rfl hs (xD (i5 S I)) S.kind S.names (jN (hi pins s σ H _ I h) fun v s1 h1=>jN h1 fun itv s2 h2=>?_);obtain ⟨it,fp,tn,J,H2,e,I2,T,st2,f2,q2⟩:=h2;subst e;refine BJ (RX:=fun _ _=>False) (RR:=fun acc C=>compPost (model X.prog X.w) X.A X.xe none (EP X pins σ Q) acc C) (Q:=fun D H'=>Q (.ref D) H') hcalm S hcap I2 T st2 f2 (fun C=>hg C _ _ _ _) (fun C=>hc C _ _ _ _) (fun C=>PE.nox (he C _ _ _ _)) q2 ?_ (fun _ _ _ _ _ hx=>noX hx);intro D C σc H' s' hC Jc q;obtain ⟨m,hn,_⟩:=Jc.loc;refine ⟨m,hn,fun h' hs'=>?_⟩;exact ⟨.ref D,H',CU I2 hC (BK (σ':=σ) I2 f2 Jc) Jc.free hs',rfl,q⟩
theorem J0 {tg iter elt:Expr} {ifs:List Expr} {pos spos py:Pos} {i:Nat} {y:Str} {wi:TI} {g:TG} {tc:TT} {te:TE} (N:List Str) (cap:St→St) (hN:X.N.Nodup) (hy:X.N[i]?=some y) (hloc:cS X.env.scope y) (hcalm:X.calm=true) (S:CompScope X scope) (hcap:Z9 X N scope cap) (hi:PI X tg iter wi)
  (hg:∀C s H pins fp,PG (vI X N scope C s H pins fp) tg g) (hc:∀C s H pins fp,eO (vI X N scope C s H pins fp) ifs tc) (he:∀C s H pins fp,PE (vI X N scope C s H pins fp) elt te)
  (hsw:swapsWith (.ListComp elt [⟨tg,iter,ifs,0⟩] scope pos) (some (.Name y py)) spos.line X.env=pure true:=by rfl)
  (hs:∀x,foldedSetIterable iter X.env x=pure x:=by intro _;rfl) (hfn:X.fn y=true∨X.env.scope.names.lookup y=some .local:=by first|exact .inl rfl|exact .inr rfl|assumption) :
  PS X (.Assign [.Name y py] (.ListComp elt [⟨tg,iter,ifs,0⟩] scope pos) spos) (PN i wi cap g tc te):=by
 intro pins s σ H D I h;rw [exec_Assign_Name_used _ _ _ _ hsw];refine ac (ko (ac ?_));show wpAny _ X.A (do let _ ← comprehension (.ListComp elt [⟨tg,iter,ifs,0⟩] scope pos) scope X.env _ (newList []) false (eval iter X.env) (some (assign (.Name y py) X.env))) _ _ s;refine ac (bv (wpAny_comprehension_free (use:=some (assign (.Name y py) X.env)) (Q:=fun _ s'=>SP X pins D .next s') rfl hs (xD (i5 S I)) S.kind S.names
  (jN (hi pins s σ H _ I h) fun v s1 h1=>jN h1 fun itv s2 h2=>?_)) (fun _ s' hq=>am (am hq)) fun _ _ e=>e)
 obtain ⟨it,fp,tn,J,H2,e,I2,T,st2,f2,q2⟩:=h2;subst e;refine BJ (RX:=fun _ _=>False) (RR:=fun acc C=>compPost (model X.prog X.w) X.A X.xe (some (assign (.Name y py) X.env)) (fun _ s'=>SP X pins D .next s') acc C) (Q:=fun d H'=>D.nx (σ.set i (some (.ref d))) H') hcalm S hcap I2 T st2 f2 (fun C=>hg C _ _ _ _) (fun C=>hc C _ _ _ _) (fun C=>PE.nox (he C _ _ _ _)) q2 ?_ (fun _ _ _ _ _ hx=>noX hx);intro d C σc H' s' hC Jc q;obtain ⟨m,hn,_⟩:=Jc.loc;have J1:Inv X pins σ H' s':=BK (σ':=σ) I2 f2 Jc;show wpAny _ X.A (assign (.Name y py) X.env (.ref d)) _ _ _;refine wpAny_assign_Name (AL (v:=.ref d) J1 hN hy hloc rfl (fun s'' J2 hsb=>?_) hfn);obtain ⟨a,sb,ha⟩:=hsb;have haC:C≠a:=by
  rcases ha with e|e
  ·rw [e];exact ec (ao I2.lt hC)
  ·obtain ⟨v,q'⟩:=I2.cell y a e;exact ec (ao q'.lt hC)
 refine ⟨m,hn.sameBut sb haC,fun h' hs'=>?_⟩;exact ⟨_,H',CU I2 hC J2 Jc.free hs',q⟩
end
theorem jS {N P:List Str} {sc:Scope} (a:sc.kind=.function:=by rfl) (b:sc.isCoroutine=false:=by rfl) (c:sc.isGenerator=false:=by rfl) (d:N.Nodup:=by decide +kernel) (e:N.take P.length=P:=by rfl)
  (f:∀x∈P,sc.names.lookup x=some .local∨sc.names.lookup x=some .cell:=by decide +kernel) (g:∀y∈sc.names,y.2≠.free:=by decide +kernel):FnScope N P sc:=⟨a,b,c,d,e,f,g⟩
theorem qS {X:Cx} {scope:Scope} (sc:Scope) (a:X.env.scope=sc:=by rfl) (b:scope.kind=.function:=by rfl) (c:∀y∈scope.names,y.2≠.cell:=by decide +kernel) (d:∀y∈scope.names,y.2=.local→scope.names.lookup y.1=some .local:=by decide +kernel)
  (e:∀y∈scope.names,y.2=.free→sc.names.lookup y.1=some .cell∨sc.names.lookup y.1=some .free:=by decide +kernel):CompScope X scope:=GP sc a b c d e
theorem cps {X:Cx} {N:List Str} {scope:Scope} (n:Nat) (js:List Nat) (a:N.length=n+js.length:=by rfl) (b:js.map (fun j=>X.N[j]?)=(N.drop n).map some:=by rfl) (c:∀x∈N.drop n,scope.names.lookup x=some .free:=by decide +kernel):Z9 X N scope (q9 n js):=GQ n js a b c
inductive GK where
 |i (n:Int)
 |s (t:Str)
 |nil
 |cons (a b:GK)
 deriving DecidableEq
def TupOf (h:Heap) (v:Value) (P:List Value→Prop):Prop :=
 ∃(a:Addr) (o:Obj) (its:Array Value) (n:Nat),v=.ref a∧h.get? a=some o∧o.cls=.type "tuple"∧o.data=.seq its n∧P its.toList
def GR (h:Heap):GK→(Value→Prop)×(List Value→Prop)
 |.i n=>(fun v=>∃t,v=.int n t,fun _=>False)
 |.s x=>(fun v=>∃t,v=.str x t,fun _=>False)
 |.nil=>(fun v=>TupOf h v (fun l=>l=[]),fun l=>l=[])
 |.cons a b=>(fun v=>TupOf h v (fun l=>∃u us,l=u::us∧(GR h a).1 u∧(GR h b).2 us),fun l=>∃u us,l=u::us∧(GR h a).1 u∧(GR h b).2 us)
def gh (w:World):GK→Int×List Int
 |.i n=>(hashInt n,[])
 |.s x=>(hashStr w x,[])
 |.nil=>(reduceHash (Builtin.Tuple.tupleHashOf []),[])
 |.cons a b=>(reduceHash (Builtin.Tuple.tupleHashOf ((gh w a).1::(gh w b).2)),(gh w a).1::(gh w b).2)
def gd:GK→Nat
 |.i _=>1
 |.s _=>1
 |.nil=>1
 |.cons a b=>max (gd a+1) (gd b)
variable {v:Value}
theorem TupOf.mono {h h':Heap} {P P':List Value→Prop} (x:TupOf h v P) (hk:∀a o its n,h.get? a=some o→o.data=.seq its n→h'.get? a=some o) (hp:∀l,P l→P' l):TupOf h' v P' :=
 let ⟨a,o,its,n,e,ho,hc,hd,p⟩:=x
 ⟨a,o,its,n,e,hk a o its n ho hd,hc,hd,hp _ p⟩
def Q5:GK→Bool
 |.nil=>true
 |.cons _ _=>true
 |_=>false
theorem GR.tup {h:Heap} {k:GK} (ht:Q5 k=true):(GR h k).1 v↔TupOf h v (GR h k).2:=by
 cases k<;>first|exact Iff.rfl|cases ht
theorem GR.keep {h h':Heap} (hk:∀a o its n,h.get? a=some o→o.data=.seq its n→h'.get? a=some o):∀k,(∀v,(GR h k).1 v→(GR h' k).1 v)∧(∀l,(GR h k).2 l→(GR h' k).2 l)
 |.i _=>⟨fun _ p=>p,fun _ p=>p⟩
 |.s _=>⟨fun _ p=>p,fun _ p=>p⟩
 |.nil=>⟨fun _ p=>(GR.tup rfl).2 (((GR.tup rfl).1 p).mono hk fun _ q=>q),fun _ p=>p⟩
 |.cons a b=>by
  have c:∀l,(∃u us,l=u::us∧(GR h a).1 u∧(GR h b).2 us)→∃u us,l=u::us∧(GR h' a).1 u∧(GR h' b).2 us :=
   fun l ⟨u,us,e,p,q⟩=>⟨u,us,e,(GR.keep hk a).1 _ p,(GR.keep hk b).2 _ q⟩
  exact ⟨fun _ p=>(GR.tup rfl).2 (((GR.tup rfl).1 p).mono hk c),c⟩
theorem TupOf.typeIs {s:Shared} {P:List Value→Prop} (x:TupOf s.heap v P):s.TypeIs v "tuple":=by
 obtain ⟨a,o,its,n,rfl,ho,hc,_⟩:=x;exact ⟨o,ho,hc⟩
theorem GR.inj {h:Heap}:∀x y,(∀v,(GR h x).1 v→(GR h y).1 v→x=y)∧(∀l,(GR h x).2 l→(GR h y).2 l→x=y):=by
 have tt:∀{v:Value} {P P':List Value→Prop},TupOf h v P→TupOf h v P'→∃l,P l∧P' l:=by
  rintro v P P' ⟨a,o,its,n,rfl,ho,_,hd,p⟩ ⟨a',o',its',n',e,ho',_,hd',p'⟩;cases e;obtain rfl:o=o':=aE (ho.symm.trans ho');rw [hd] at hd';injection hd' with e1 _
  subst e1;exact ⟨_,p,p'⟩
 intro x
 induction x with
 |i n =>
  intro y;refine ⟨fun v p q=>?_,fun l p=>p.elim⟩;obtain ⟨t,rfl⟩:=p;cases y with
  |i m=>obtain ⟨u,e⟩:=q;cases e;rfl
  |s z=>obtain ⟨u,e⟩:=q;cases e
  |nil=>obtain ⟨a,_,_,_,e,_⟩:=q;cases e
  |cons a b=>obtain ⟨a,_,_,_,e,_⟩:=q;cases e
 |s z =>
  intro y;refine ⟨fun v p q=>?_,fun l p=>p.elim⟩;obtain ⟨t,rfl⟩:=p;cases y with
  |i m=>obtain ⟨u,e⟩:=q;cases e
  |s z=>obtain ⟨u,e⟩:=q;cases e;rfl
  |nil=>obtain ⟨a,_,_,_,e,_⟩:=q;cases e
  |cons a b=>obtain ⟨a,_,_,_,e,_⟩:=q;cases e
 |nil =>
  intro y;have c:∀l,(GR h .nil).2 l→(GR h y).2 l→GK.nil=y:=by
   intro l p q;cases p;cases y with
   |i m=>exact q.elim
   |s z=>exact q.elim
   |nil=>rfl
   |cons a b=>obtain ⟨u,us,e,_⟩:=q;cases e
  refine ⟨fun v p q=>?_,c⟩;cases y with
  |i m=>obtain ⟨u,rfl⟩:=q;obtain ⟨a,_,_,_,e,_⟩:=p;cases e
  |s z=>obtain ⟨u,rfl⟩:=q;obtain ⟨a,_,_,_,e,_⟩:=p;cases e
  |nil=>rfl
  |cons a b=>obtain ⟨l,p,q⟩:=tt ((GR.tup rfl).1 p) ((GR.tup rfl).1 q);exact c l p q
 |cons a b iha ihb =>
  intro y;have c:∀l,(GR h (.cons a b)).2 l→(GR h y).2 l→GK.cons a b=y:=by
   rintro l ⟨u,us,rfl,p1,p2⟩ q;cases y with
   |i m=>exact q.elim
   |s z=>exact q.elim
   |nil=>cases q
   |cons a' b' =>
    obtain ⟨u',us',e,q1,q2⟩:=q;cases e;rw [(iha a').1 _ p1 q1,(ihb b').2 _ p2 q2]
  refine ⟨fun v p q=>?_,c⟩;cases y with
  |i m=>obtain ⟨u,rfl⟩:=q;obtain ⟨a,_,_,_,e,_⟩:=p;cases e
  |s z=>obtain ⟨u,rfl⟩:=q;obtain ⟨a,_,_,_,e,_⟩:=p;cases e
  |nil=>obtain ⟨l,p,q⟩:=tt ((GR.tup rfl).1 p) ((GR.tup rfl).1 q);exact c l p q
  |cons a b=>obtain ⟨l,p,q⟩:=tt ((GR.tup rfl).1 p) ((GR.tup rfl).1 q);exact c l p q
section
variable {prog:Program} {w:World} {E:Value→Shared→Prop}
abbrev lN (prog:Program) (w:World) (E:Value→Shared→Prop) (k:GK):Prop :=
 ∀(l:List Value) (A:Around) (s:Shared) (b:Array Int) (Q:Array Int→Shared→Prop),(GR s.heap k).2 l→A.units+gd k≤cLine→(∀n b',b'.toList=b.toList++(gh w k).2→Q b' {s with toks:=n})→
  wpAny (model prog w) A (forIn l b fun x r=>do let h ← pyHash x;pure (ForInStep.yield (r.push h))) Q E s
theorem CN {k:GK} (ht:Q5 k=true) (hs:(gh w k).1=reduceHash (Builtin.Tuple.tupleHashOf (gh w k).2))
  (lp:lN prog w E k)
  {v:Value} {A:Around} {s:Shared} {Q:Int→Shared→Prop} (hv:(GR s.heap k).1 v) (hu:A.units+gd k<cLine) (hq:∀n,Q (gh w k).1 {s with toks:=n}):wpAny (model prog w) A (pyHash v) Q E s:=by
 have hv':=(GR.tup ht).1 hv;have hT:=hv'.typeIs;obtain ⟨a,o,its,n,rfl,ho,hc,hd,hl⟩:=hv';refine PySem.W.pyHash_slot (T:="tuple") hT F.slot_tuple_hash F.entry_tuple_hash (F.args_tuple_hash_1 _) (beq_builtin_none _) (.inr (by omega)) ?_;show wpAny _ A.in1 (Builtin.Tuple.tupleItemsOf _ >>= _) _ E s;refine ac (wpAny_tupleItemsOf ho hd (ac ?_));rw [← Array.forIn_toList];refine lp its.toList _ s #[] _ hl (by simp only [fi];omega) fun m b' hb=>?_
 have e:b'.toList=(gh w k).2:=by rw [hb];rfl
 show wpAny _ _ (retInt (Builtin.Tuple.tupleHashOf b'.toList)) _ _ _;rw [e];exact ac (wpAny_mkInt (am ⟨_,_,rfl,hs▸hq _⟩))
theorem lM:∀k:GK,(∀(v:Value) (A:Around) (s:Shared) (Q:Int→Shared→Prop),(GR s.heap k).1 v→A.units+gd k<cLine→(∀n,Q (gh w k).1 {s with toks:=n})→wpAny (model prog w) A (pyHash v) Q E s)∧lN prog w E k
 |.i n=>⟨fun v A s Q p _ q=>by obtain ⟨t,rfl⟩:=p;exact wpAny_pyHash_int (q _),fun _ _ _ _ _ p=>p.elim⟩
 |.s z=>⟨fun v A s Q p _ q=>by obtain ⟨t,rfl⟩:=p;exact wpAny_pyHash_str (q _),fun _ _ _ _ _ p=>p.elim⟩
 |.nil=>by
  have lp:lN prog w E .nil:=fun l A s b Q p _ q=>by
   cases p;exact am (q s.toks b (by simp [gh]))
  exact ⟨fun v A s Q p hu q=>CN rfl (by simp only [gh]) lp p hu q,lp⟩
 |.cons x y=>by
  have lp:lN prog w E (.cons x y):=fun l A s b Q p hu q=>by
   obtain ⟨u,us,rfl,p1,p2⟩:=p;simp only [gd] at hu;rw [gk];refine ac (ac ((lM x).1 u A s _ p1 (by omega) fun m=>am ?_));exact (lM y).2 us A _ _ Q p2 (by omega) fun m' b' hb=>q m' b' (by simp [hb,gh])
  exact ⟨fun v A s Q p hu q=>CN rfl (by simp only [gh]) lp p hu q,lp⟩
end
section
variable {s:Shared}
theorem MN (n:Nat) (e:Nat→Bool):(List.range (n+1)).all e=(e 0&&(List.range n).all fun j=>e (j+1)):=by
 rw [List.range_succ_eq_map,List.all_cons,List.all_map];rfl
abbrev lZ (s:Shared) (x y:GK):Prop :=
 ∀(A:Around) (l m:List Value),(GR s.heap x).2 l→(GR s.heap y).2 m→A.units+gd x≤cLine→∃e:Nat→Bool,(∀j (h1:j<l.length) (h2:j<m.length),SeqAt.EqAt A s l[j] m[j] (e j))∧((List.range (min l.length m.length)).all e&&l.length == m.length)=decide (x=y)
theorem lV {x y:GK} (hx:Q5 x=true) (hy:Q5 y=true) (lp:lZ s x y) {v u:Value} {A:Around} (p:(GR s.heap x).1 v) (q:(GR s.heap y).1 u) (hu:A.units+gd x<cLine):SeqAt.EqAt A s v u (decide (x=y)):=by
 obtain ⟨a,o,its,n,rfl,ho,hc,hd,hl⟩:=(GR.tup hx).1 p;obtain ⟨a',o',its',n',rfl,ho',hc',hd',hl'⟩:=(GR.tup hy).1 q
 by_cases ea:a=a'
 ·subst ea;rw [aK ((GR.inj x y).1 _ p q)];exact ib _
 ·obtain ⟨e,he,hr⟩:=lp A.in1 _ _ hl hl' (by simp only [fi];omega);have r:=SeqAt.RcAt.tuples (A:=A) (s:=s) (e:=e) (items:=its) (items2:=its') ⟨o,ho,hc,n,hd⟩ ⟨o',ho',hc',n',hd'⟩ (by omega) (fun j h1 h2=>by have:=he j (by simpa using h1) (by simpa using h2);rwa [gq,gq] at this);rw [bw,bw] at hr;rw [hr] at r;exact ii ea r
theorem mF:∀x y:GK,(∀(A:Around) (v u:Value),(GR s.heap x).1 v→(GR s.heap y).1 u→A.units+gd x<cLine→SeqAt.EqAt A s v u (decide (x=y)))∧lZ s x y:=by
 intro x
 induction x with
 |i n =>
  intro y;refine ⟨fun A v u p q hu=>?_,fun _ _ _ p=>p.elim⟩;obtain ⟨t,rfl⟩:=p;cases y with
  |i m=>obtain ⟨t',rfl⟩:=q;rw [show decide (GK.i n=GK.i m)=(n == m) by by_cases e:n=m<;>simp [e]];exact SeqAt.EqAt.int_int n t m t'
  |s z=>obtain ⟨t',rfl⟩:=q;exact SeqAt.EqAt.int_str _ _ _ _
  |nil=>obtain ⟨a,o,its,n,rfl,ho,hc,hd,_⟩:=(GR.tup rfl).1 q;exact SeqAt.EqAt.int_tuple _ _ ⟨o,ho,hc,_,hd⟩ (by omega)
  |cons a b=>obtain ⟨a,o,its,n,rfl,ho,hc,hd,_⟩:=(GR.tup rfl).1 q;exact SeqAt.EqAt.int_tuple _ _ ⟨o,ho,hc,_,hd⟩ (by omega)
 |s n =>
  intro y;refine ⟨fun A v u p q hu=>?_,fun _ _ _ p=>p.elim⟩;obtain ⟨t,rfl⟩:=p;cases y with
  |i m=>obtain ⟨t',rfl⟩:=q;exact SeqAt.EqAt.str_int _ _ _ _
  |s z=>obtain ⟨t',rfl⟩:=q;rw [show decide (GK.s n=GK.s z)=(n == z) by by_cases e:n=z<;>simp [e]];exact SeqAt.EqAt.str_str n t z t'
  |nil=>obtain ⟨a,o,its,n,rfl,ho,hc,hd,_⟩:=(GR.tup rfl).1 q;exact SeqAt.EqAt.str_tuple _ _ ⟨o,ho,hc,_,hd⟩ (by omega)
  |cons a b=>obtain ⟨a,o,its,n,rfl,ho,hc,hd,_⟩:=(GR.tup rfl).1 q;exact SeqAt.EqAt.str_tuple _ _ ⟨o,ho,hc,_,hd⟩ (by omega)
 |nil =>
  intro y;have lp:lZ s .nil y:=by
   intro A l m p q _;cases p;cases y with
   |i m=>exact q.elim
   |s m=>exact q.elim
   |nil=>cases q;exact ⟨fun _=>true,fun j h1=>absurd h1 (fv j),rfl⟩
   |cons a b=>obtain ⟨u,us,rfl,_⟩:=q;exact ⟨fun _=>true,fun j h1=>absurd h1 (fv j),by simp⟩
  refine ⟨fun A v u p q hu=>?_,lp⟩;cases y with
  |i m=>obtain ⟨t',rfl⟩:=q;obtain ⟨a,o,its,n,rfl,ho,hc,hd,_⟩:=(GR.tup rfl).1 p;exact SeqAt.EqAt.tuple_int _ _ ⟨o,ho,hc,_,hd⟩ (by omega)
  |s m=>obtain ⟨t',rfl⟩:=q;obtain ⟨a,o,its,n,rfl,ho,hc,hd,_⟩:=(GR.tup rfl).1 p;exact SeqAt.EqAt.tuple_str _ _ ⟨o,ho,hc,_,hd⟩ (by omega)
  |nil=>exact lV rfl rfl lp p q hu
  |cons a b=>exact lV rfl rfl lp p q hu
 |cons x1 x2 ih1 ih2 =>
  intro y;have lp:lZ s (.cons x1 x2) y:=by
   intro A l m p q hu;simp only [gd] at hu;obtain ⟨u,us,rfl,p1,p2⟩:=p;cases y with
   |i m=>exact q.elim
   |s m=>exact q.elim
   |nil=>cases q;exact ⟨fun _=>true,fun j _ h1=>absurd h1 (fv j),by simp⟩
   |cons a b =>
    obtain ⟨u',us',rfl,q1,q2⟩:=q;obtain ⟨e,he,hr⟩:=(ih2 b).2 A us us' p2 q2 (by omega);have h0:=(ih1 a).1 A u u' p1 q1 (by omega);refine ⟨fun j=>match j with|0=>decide (x1=a)|j+1=>e j,fun j h1 h2=>?_,?_⟩
    ·cases j with
     |zero=>exact h0
     |succ j=>exact he j (by simpa using h1) (by simpa using h2)
    ·rw [aZ,aZ,Nat.succ_min_succ,MN,Bool.and_assoc];have e2:(us.length+1 == us'.length+1)=(us.length == us'.length):=by by_cases e:us.length=us'.length<;>simp [e]
     rw [e2,hr]
     by_cases e1:x1=a<;>by_cases e3:x2=b<;>simp [e1,e3]
  refine ⟨fun A v u p q hu=>?_,lp⟩;cases y with
  |i m=>obtain ⟨t',rfl⟩:=q;obtain ⟨a,o,its,n,rfl,ho,hc,hd,_⟩:=(GR.tup rfl).1 p;exact SeqAt.EqAt.tuple_int _ _ ⟨o,ho,hc,_,hd⟩ (by omega)
  |s m=>obtain ⟨t',rfl⟩:=q;obtain ⟨a,o,its,n,rfl,ho,hc,hd,_⟩:=(GR.tup rfl).1 p;exact SeqAt.EqAt.tuple_str _ _ ⟨o,ho,hc,_,hd⟩ (by omega)
  |nil=>exact lV rfl rfl lp p q hu
  |cons a b=>exact lV rfl rfl lp p q hu
end
end L2
namespace L2
open PySem PySem.Spec PyProof.Rows
section
variable {prog:Program} {w:World} {E:Value→Shared→Prop} {s:Shared}
abbrev JQ (prog:Program) (w:World) (E:Value→Shared→Prop) (s:Shared) (m:Nat) (v:Value):Prop :=
 ∀(A:Around) (Q:Bool→Shared→Prop),Q true s→wpAny (model prog w) A (eqIsQuiet m v) Q E s
theorem AW {v:Value} {P:List Value→Prop} {m:Nat} (x:TupOf s.heap v P) (hp:∀l,P l→∀y∈l,JQ prog w E s m y):JQ prog w E s (m+1) v:=by
 intro A Q q;have hT:=x.typeIs;obtain ⟨a,o,its,n,rfl,ho,hc,hd,hl⟩:=x;unfold eqIsQuiet;refine ac (ig hT F.slot_tuple_eq.lookup ?_);show wpAny _ A (isInstance _ (.type "tuple") >>= _) _ E s;refine ac (ka hT isSubtype_tuple_tuple ?_);rw [if_neg (by decide)];refine ac (dw ho hd (ac ?_));show wpAny _ A (forIn its _ _) _ E s;rw [← Array.forIn_toList];refine kc _ (fun left r s1=>r.1=none∧s1=s∧∀y∈left,JQ prog w E s m y) _ ?_ ?_ _ _ ⟨rfl,rfl,hp _ hl⟩
 ·rintro y left r s1 ⟨hr,rfl,hall⟩;refine ac (hall y aH A _ ?_);rw [if_neg (by decide)];exact am ⟨rfl,rfl,fun z hz=>hall z (ay y hz)⟩
 ·rintro ⟨r1,r2⟩ s1 ⟨hr,rfl,_⟩;cases hr;exact am q
theorem lB:∀(k:GK) (m:Nat),gd k≤m→(∀v,(GR s.heap k).1 v→JQ prog w E s m v)∧(∀l,(GR s.heap k).2 l→∀y∈l,JQ prog w E s (m - 1) y)
 |.i n,m,_=>⟨fun v p A Q q=>by obtain ⟨t,rfl⟩:=p;rw [eqIsQuiet_byValue m rfl];exact am q,fun _ p=>p.elim⟩
 |.s n,m,_=>⟨fun v p A Q q=>by obtain ⟨t,rfl⟩:=p;rw [eqIsQuiet_byValue m rfl];exact am q,fun _ p=>p.elim⟩
 |.nil,m,hm=>by
  have lp:∀l,(GR s.heap .nil).2 l→∀y∈l,JQ prog w E s (m - 1) y:=fun l p y hy=>by cases p;cases hy
  refine ⟨fun v p=>?_,lp⟩;obtain ⟨m',rfl⟩:∃m',m=m'+1:=⟨m - 1,by simp only [gd] at hm;omega⟩;exact AW ((GR.tup rfl).1 p) lp
 |.cons x y,m,hm=>by
  have hm':=hm;simp only [gd] at hm';have lp:∀l,(GR s.heap (.cons x y)).2 l→∀z∈l,JQ prog w E s (m - 1) z:=by
   rintro l ⟨u,us,rfl,p1,p2⟩ z hz
   rcases ax.mp hz with rfl|hz
   ·exact (lB x (m - 1) (by omega)).1 _ p1
   ·exact (lB y m (by omega)).2 us p2 z hz
  refine ⟨fun v p=>?_,lp⟩;obtain ⟨m',rfl⟩:∃m',m=m'+1:=⟨m - 1,by omega⟩;exact AW ((GR.tup rfl).1 p) lp
abbrev qK:=GK×Value×Value
def JV (w:World) (x:qK):DictEntry:=⟨(gh w x.1).1,x.2.1,x.2.2⟩
structure KEnt (w:World) (h:Heap) (es:Array DictEntry) (xs:List qK):Prop where
 es:es.toList=xs.map (JV w)
 is:∀x∈xs,(GR h x.1).1 x.2.1
 deep:∀x∈xs,gd x.1≤8
 once:(xs.map (·.1)).Nodup
theorem KEnt.at {h:Heap} {es:Array DictEntry} {xs:List qK} (x:KEnt w h es xs) (j:Nat):es[j]?=(xs[j]?).map (JV w):=by
 rw [← Array.getElem?_toList,x.es,av]
theorem SQ {xs:List qK} (hn:(xs.map (·.1)).Nodup) {i j:Nat} {k:GK} {p q:Value×Value} (hi:xs[i]?=some (k,p)) (hj:xs[j]?=some (k,q)):i=j:=by
 have a:(xs.map (·.1))[i]?=some k:=by rw [av,hi];rfl
 have b:(xs.map (·.1))[j]?=some k:=by rw [av,hj];rfl
 exact (List.getElem?_inj (ad.mp a).1 hn).mp (a.trans b.symm)
def cF (xs:List qK) (k:GK):Option Nat→Prop
 |none=>∀(j:Nat) (p:Value×Value),xs[j]?≠some (k,p)
 |some j=>∃p,xs[j]?=some (k,p)
theorem M2 {A:Around} {key:Value} {st:List Value} {Q:Bool→Shared→Prop} (hk:JQ prog w E s 8 key) (hs:∀v∈st,JQ prog w E s 8 v) (q:Q false s):wpAny (model prog w) A (tableMayTell key st) Q E s:=by
 unfold tableMayTell
 by_cases he:st.isEmpty=true
 ·rw [if_pos he];exact am q
 ·rw [if_neg he];refine ac (hk A _ ?_);rw [if_neg (by decide)];refine ac (kc _ (fun left r s1=>s1=s∧r=(none,())∧∀v∈left,JQ prog w E s 8 v) _ ?_ ?_ _ _ ⟨rfl,rfl,hs⟩)
  ·rintro v left r s1 ⟨rfl,rfl,hl⟩;refine ac (hl v aH A _ ?_);rw [if_neg (by decide)];exact am ⟨rfl,rfl,fun z hz=>hl z (ay v hz)⟩
  ·rintro r s1 ⟨rfl,rfl,_⟩;exact am q
theorem NE {A:Around} {d:Addr} {o:Obj} {es:Array DictEntry} {ep:Nat} {xs:List qK} {k:GK} {key:Value} {pl:List Nat} {Q:Option Nat→Shared→Prop} (hu:∀x∈xs,A.units+gd x.1<cLine) (hkey:(GR s.heap k).1 key)
  (ho:s.heap.get? d=some o) (hd:o.data=.dict es ep) (he:KEnt w s.heap es xs) (hpl:∀j p,xs[j]?=some (k,p)→j∈pl) (q:∀r,cF xs k r→Q r s) :
  wpAny (model prog w) A (dictWalkPlain d key (gh w k).1 es pl) Q E s:=by
 unfold dictWalkPlain;refine ac (kc _ (fun left r s1=>s1=s∧r=(none,())∧∀j p,xs[j]?=some (k,p)→j∈left) _ ?_ ?_ _ _ ⟨rfl,rfl,hpl⟩)
 ·rintro x left r s1 ⟨rfl,rfl,hl⟩;have next:(∀p,xs[x]?≠some (k,p))→∀j p,xs[j]?=some (k,p)→j∈left:=fun hno j p hj=>by
   rcases ax.mp (hl j p hj) with rfl|h
   ·exact absurd hj (hno p)
   ·exact h
  rw [he.at x];cases hx:xs[x]? with
  |none=>exact am ⟨rfl,rfl,next fun p h=>by rw [hx] at h;cases h⟩
  |some y =>
   obtain ⟨k',v',u'⟩:=y;have hm:=ai hx;show wpAny _ A (if ((gh w k').1 == (gh w k).1)=true then _ else _) _ E _
   by_cases hh:((gh w k').1 == (gh w k).1)=true
   ·rw [if_pos hh];refine ac (kz ho hd (ac ((mF k' k).1 A v' key (he.is _ hm) hkey (hu _ hm) prog w E _ (ac (kz ho hd ?_)))));rw [if_neg (by simp)]
    by_cases hkk:k'=k
    ·rw [aK hkk,if_pos rfl];exact ac (gy (am (am (q _ ⟨_,hkk▸hx⟩))))
    ·rw [aI hkk,if_neg (by decide)];exact ac (gy (am ⟨rfl,rfl,next fun p h=>by rw [hx] at h;injection h with h;injection h with h _;exact hkk h⟩))
   ·rw [if_neg hh];exact am ⟨rfl,rfl,next fun p h=>by rw [hx] at h;injection h with h;injection h with h _;rw [h] at hh;simp at hh⟩
 ·rintro r s1 ⟨rfl,rfl,hl⟩;exact am (q none (show cF xs k none from fun j p h=>nomatch hl j p h))
theorem NO {es:Array DictEntry} {h:Int} {j:Nat}:j∈placesWithHash es.size (fun i=>es[i]?.map (·.hash)) h↔j<es.size∧(es[j]?.map (·.hash) == some h)=true:=by
 unfold placesWithHash;rw [aO,du]
theorem CP {A:Around} {d:Addr} {o:Obj} {es:Array DictEntry} {ep:Nat} {xs:List qK} {k:GK} {key:Value} {Q:Option Nat→Shared→Prop} (hu:A.units+8<cLine) (hkey:(GR s.heap k).1 key) (hk8:gd k≤8)
    (ho:s.heap.get? d=some o) (hd:o.data=.dict es ep) (he:KEnt w s.heap es xs) (q:∀r,cF xs k r→Q r s) :
    wpAny (model prog w) A (dictFind d key (gh w k).1) Q E s:=by
  have hu':∀x∈xs,A.units+gd x.1<cLine:=fun x hx=>by have:=he.deep x hx;omega
  have hsz:es.size=xs.length:=by rw [← bw,he.es,ae]
  have hpl:∀j p,xs[j]?=some (k,p)→j∈placesWithHash es.size (fun i=>es[i]?.map (·.hash)) (gh w k).1:=fun j p hj=>by
    rw [NO,he.at j,hj];refine ⟨?_,by simp [JV]⟩;rw [hsz];exact (ad.mp hj).1
  have hof:∀e∈es,∃x∈xs,e=JV w x:=fun e hin=>by
    have:e∈xs.map (JV w):=he.es▸kg.mpr hin;obtain ⟨x,hx,rfl⟩:=aw.mp this;exact ⟨x,hx,rfl⟩
  have plain:wpAny (model prog w) A (dictWalkPlain d key (gh w k).1 es (placesWithHash es.size (fun i=>es[i]?.map (·.hash)) (gh w k).1)) Q E s:=NE hu' hkey ho hd he hpl q;have hst:∀v∈(placesWithHash es.size (fun i=>es[i]?.map (·.hash)) (gh w k).1).filterMap (fun i=>es[i]?.map (·.key)),JQ prog w E s 8 v:=fun v hv=>by
    obtain ⟨i,_,hi⟩:=ia.mp hv;obtain ⟨e,h1,h2⟩:=ge.mp hi;obtain ⟨x,hx,rfl⟩:=hof e (Array.mem_of_getElem? h1);subst h2;exact (lB x.1 8 (he.deep x hx)).1 _ (he.is x hx)
  have hchg:∀a,key=.ref a→¬(es.any fun e=>e.key == key&&e.hash != (gh w k).1)=true:=fun a ha hany=>by
    rw [← Array.any_toList,fb] at hany;obtain ⟨e,hin,hc⟩:=hany;obtain ⟨x,hx,rfl⟩:=hof e (kg.mp hin);rw [gb] at hc;have e1:x.2.1=key:=eq_of_beq hc.1;have e2:=(GR.inj x.1 k).1 key (e1▸he.is x hx) hkey;have:=hc.2;simp [JV,e2] at this
  have hkey':=hkey;have hkind:(∃n t,key=.int n t)∨(∃z t,key=.str z t∧k=.s z)∨∃a,key=.ref a:=by
    cases k with
    |i n=>exact .inl ⟨n,hkey⟩
    |s z=>obtain ⟨t,rfl⟩:=hkey;exact .inr (.inl ⟨z,t,rfl,rfl⟩)
    |nil=>obtain ⟨a,o,its,n,e,_⟩:=(GR.tup rfl).1 hkey;exact .inr (.inr ⟨a,e⟩)
    |cons x y=>obtain ⟨a,o,its,n,e,_⟩:=(GR.tup rfl).1 hkey;exact .inr (.inr ⟨a,e⟩)
  have hnd:(placesWithHash es.size (fun i=>es[i]?.map (·.hash)) (gh w k).1).Nodup:=by
    unfold placesWithHash;exact List.Pairwise.filter _ List.nodup_range
  have hquiet:JQ prog w E s 8 key:=(lB k 8 hk8).1 key hkey;have texts:∀z t,key=.str z t→k=.s z→(es.all fun e=>isExactStrKey e.key)=true→Q (es.findIdx? fun e=>e.key.isStr z) s:=by
    rintro z t rfl rfl _;cases hf:es.findIdx? fun e=>e.key.isStr z with
    |none =>
      refine q none (show cF xs (.s z) none from fun j p hj=>?_);obtain ⟨u,hu⟩:∃u,p.1=.str z u:=he.is _ (ai hj);have e2:es[j]?=some (JV w (.s z,p)):=by rw [he.at j,hj];rfl
      have:=Array.findIdx?_eq_none_iff.mp hf _ (Array.mem_of_getElem? e2);simp [JV,hu,Value.isStr] at this
    |some j =>
      obtain ⟨hlt,hj,_⟩:=Array.findIdx?_eq_some_iff_getElem.mp hf;refine q (some j) ?_;obtain ⟨u,hu⟩:=KTD.kt_isStr hj;have e2:=he.at j;rw [dz hlt] at e2;cases hx:xs[j]? with
      |none=>rw [hx] at e2;cases e2
      |some x =>
        rw [hx] at e2;injection e2 with e2
        have hx1:=he.is x (ai hx);have e3:x.2.1=.str z u:=by rw [← hu,e2];rfl
        have e4:=(GR.inj x.1 (.s z)).1 x.2.1 hx1 ⟨u,e3⟩;exact ⟨x.2,by rw [hx,← e4]⟩
  by_cases htx:(∃z t,key=.str z t∧k=.s z)∧(es.all fun e=>isExactStrKey e.key)=true
  · obtain ⟨⟨z,t,rfl,rfl⟩,hall⟩:=htx
    exact KTD.kt_dictFind_strs ho hd hall (texts z t rfl rfl hall)
  unfold dictFind;refine cb (ac (wpAny_dictEntries ho hd ?_));generalize hpl0:placesWithHash es.size (fun i=>es[i]?.map (·.hash)) (gh w k).1=pl at *
  rcases hkind with ⟨n,t,rfl⟩|⟨z,t,rfl,hz⟩|⟨a,rfl⟩<;>dsimp only
  case' inr.inl=>rw [if_neg fun hall=>htx ⟨⟨z,t,rfl,hz⟩,hall⟩]
  all_goals refine lf (fun _=>plain) fun _=>?_
  case' inr.inr=>rw [if_neg (hchg a rfl)]
  all_goals refine lf (fun _=>ac (am ?_)) fun _=>ac (M2 hquiet hst ?_)
  all_goals
    rw [if_neg (by simp)];refine ac (kc _ (fun left b s1=>s1=s∧left.Nodup∧∃hit,b=(none,hit)∧
      ((hit=none∧∀j p,xs[j]?=some (k,p)→j∈left)∨∃j p,hit=some j∧xs[j]?=some (k,p)∧j∉left)) _ ?_ ?_ _ _ ⟨rfl,hnd,none,rfl,.inl ⟨rfl,hpl⟩⟩)
    · rintro x left b s1 ⟨rfl,hno,hit,rfl,hH⟩
      rw [bc] at hno;rw [he.at x];cases hx:xs[x]? with
      |none =>
        refine am ⟨rfl,hno.2,hit,rfl,?_⟩
        rcases hH with ⟨h0,hl⟩|⟨j,p,h1,h2,h3⟩
        · refine .inl ⟨h0,fun j p hj=>?_⟩
          rcases ax.mp (hl j p hj) with rfl|h
          · rw [hx] at hj;cases hj
          · exact h
        · exact .inr ⟨j,p,h1,h2,fun h=>h3 (ay x h)⟩
      |some y =>
        obtain ⟨k',v',u'⟩:=y;have hm:=ai hx;have other:k'≠k→(hit=none∧∀j p,xs[j]?=some (k,p)→j∈left)∨∃j p,hit=some j∧xs[j]?=some (k,p)∧j∉left:=fun hne=>by
          rcases hH with ⟨h0,hl⟩|⟨j,p,h1,h2,h3⟩
          · refine .inl ⟨h0,fun j p hj=>?_⟩
            rcases ax.mp (hl j p hj) with rfl|h
            · rw [hx] at hj;injection hj with hj;injection hj with hj _;exact absurd hj hne
            · exact h
          · exact .inr ⟨j,p,h1,h2,fun h=>h3 (ay x h)⟩
        show wpAny _ A (if ((gh w k').1 == (gh w k).1)=true then _ else _) _ E _;refine lf (fun hh=>?_) fun hh=>am ⟨rfl,hno.2,hit,rfl,other fun e=>hh (by rw [e];exact ci _)⟩
        refine ac (kz ho hd (ac ((mF k' k).1 A v' _ (he.is _ hm) hkey' (hu' _ hm) prog w E _ (ac (kz ho hd ?_)))));rw [if_neg (by simp)]
        by_cases hkk:k'=k
        · rw [aK hkk,if_pos rfl]
          subst hkk
          rcases hH with ⟨rfl,hl⟩|⟨j,p,rfl,h2,h3⟩
          · rw [if_neg (by simp)]
            refine ac (gy (lf (fun _=>am (am (q (some x) ⟨_,hx⟩))) fun _=>am ⟨rfl,hno.2,some x,rfl,.inr ⟨x,_,rfl,hx,hno.1⟩⟩))
          · exact absurd (SQ he.once h2 hx▸aH) h3
        · rw [aI hkk,if_neg (by decide)]
          refine ac (gy ?_);rw [if_neg (by simp)];exact am ⟨rfl,hno.2,hit,rfl,other hkk⟩
    · rintro b s1 ⟨rfl,_,hit,rfl,hH⟩
      rcases hH with ⟨rfl,hl⟩|⟨j,p,rfl,h2,_⟩
      · exact am (q none (show cF xs _ none from fun j p h=>nomatch hl j p h))
      · exact am (q (some j) ⟨p,h2⟩)
end
section
variable {prog:Program} {w:World} {A:Around} {E:Value→Shared→Prop} {s:Shared}
def DictG (w:World) (h:Heap) (d:Addr) (xs:List qK):Prop:=∃o es ep,h.get? d=some o∧o.ExactDict∧o.data=.dict es ep∧KEnt w h es xs
theorem DictG.typeIs {d:Addr} {xs:List qK} (x:DictG w s.heap d xs):s.TypeIs (.ref d) "dict":=let ⟨o,_,_,ho,hc,_⟩:=x;⟨o,ho,hc.1⟩
def zO (xs:List qK) (k:GK):Option Value:=(xs.find? fun x=>decide (x.1=k)).map (·.2.2)
def Z6 (xs:List qK) (k:GK) (key v:Value):List qK:=if (xs.any fun x=>decide (x.1=k)) then xs.map (fun x=>if x.1=k then (x.1,x.2.1,v) else x) else xs++[(k,key,v)]
theorem BE {k:GK}:∀{xs:List qK} (_:(xs.map (·.1)).Nodup) {j:Nat} {p:Value×Value} (_:xs[j]?=some (k,p)),zO xs k=some p.2
 |[],_,j,p,h=>by cases j<;>cases h
 |x::xs,hn,0,p,h=>by cases h;simp [zO]
 |x::xs,hn,j+1,p,h=>by
  rw [bf,bc] at hn;have h':xs[j]?=some (k,p):=h;have hne:¬x.1=k:=fun e=>hn.1 (e▸aw.mpr ⟨_,ai h',rfl⟩)
  have:=BE hn.2 h'
  simpa [zO,cy,hne] using this
theorem RW {xs:List qK} {k:GK} (h:cF xs k none):(xs.any fun x=>decide (x.1=k))=false:=by
 rw [gn];intro hx;rw [fb] at hx;obtain ⟨x,hm,hk⟩:=hx;obtain ⟨j,hj⟩:=aQ.mp hm;exact h j x.2 (by rw [hj,← bu hk])
theorem O6 {xs:List qK} {k:GK} (h:cF xs k none):zO xs k=none:=by
 have:xs.find? (fun x=>decide (x.1=k))=none:=by
  rw [List.find?_eq_none];intro x hm hk;obtain ⟨j,hj⟩:=aQ.mp hm;exact h j x.2 (by rw [hj,← bu hk])
 rw [zO,this];rfl
theorem DU {d:Addr} {xs:List qK} {k:GK} {key:Value} {Q:Option Value→Shared→Prop} (hu:A.units+8<cLine) (hkey:(GR s.heap k).1 key) (hk8:gd k≤8) (hm:DictG w s.heap d xs)
  (q:∀n,Q (zO xs k) {s with toks:=n}):wpAny (model prog w) A (dictGet d key) Q E s:=by
 obtain ⟨o,es,ep,ho,hc,hd,he⟩:=hm;unfold dictGet;refine cb (ac ((lM k).1 key A s _ hkey (by omega) fun n=>ac (CP (s:={s with toks:=n}) hu hkey hk8 ho hd he fun r hr=>?_)));cases r with
 |none=>rw [← O6 hr];exact am (q n)
 |some j =>
  obtain ⟨p,hj⟩:=hr;refine ac (wpAny_dictEntries (s:={s with toks:=n}) ho hd ?_);rw [he.at j,hj];refine am ?_;have:=q n;rw [BE he.once hj] at this;exact this
theorem xG {h h':Heap} {d:Addr} {o:Obj} {es:Array DictEntry} {ep:Nat} (ho:h.get? d=some o) (hd:o.data=.dict es ep) (hs:Heap.SameBut d h h'):∀a o its n,h.get? a=some o→o.data=.seq its n→h'.get? a=some o:=by
 intro a o' its n ho' hd';have hne:a≠d:=by
  rintro rfl;obtain rfl:o'=o:=aE (ho'.symm.trans ho);rw [hd] at hd';cases hd'
 exact (hs.2 a hne).trans ho'
theorem OM {xs:List qK} {k:GK} {v:Value}:(xs.map (fun x=>if x.1=k then (x.1,x.2.1,v) else x)).map (·.1)=xs.map (·.1):=by
 rw [lm];refine List.map_congr_left fun x _=>?_
 show (if x.1=k then (x.1,x.2.1,v) else x).1=x.1
 split<;>rfl
theorem BA {k:GK} {v:Value}:∀{xs:List qK} (_:(xs.map (·.1)).Nodup) {j:Nat} {p:Value×Value} (_:xs[j]?=some (k,p)),
  (xs.map (JV w)).modify j (fun e=>{e with val:=v})=(xs.map (fun x=>if x.1=k then (x.1,x.2.1,v) else x)).map (JV w)
 |[],_,j,p,h=>by cases j<;>cases h
 |x::xs,hn,0,p,h=>by
  cases h;rw [bf,bc] at hn;have e:xs.map (fun x=>if x.1=k then (x.1,x.2.1,v) else x)=xs:=by
   refine (List.map_congr_left fun x hx=>?_).trans (List.map_id xs);have hne:¬x.1=k:=fun e=>hn.1 (aw.mpr ⟨x,hx,e⟩)
   show (if x.1=k then (x.1,x.2.1,v) else x)=x;rw [if_neg hne]
  rw [bf,bf,e];simp [JV]
 |x::xs,hn,j+1,p,h=>by
  rw [bf,bc] at hn;have h':xs[j]?=some (k,p):=h;have hne:¬x.1=k:=fun e=>hn.1 (e▸aw.mpr ⟨_,ai h',rfl⟩)
  rw [bf,bf,if_neg hne,bf,← BA hn.2 h'];rfl
theorem DE {d:Addr} {xs:List qK} {k:GK} {key v:Value} {Q:Unit→Shared→Prop} (hu:A.units+8<cLine) (hkey:(GR s.heap k).1 key) (hk8:gd k≤8) (hm:DictG w s.heap d xs) (hsz:xs.length≤sizeLine)
  (q:∀n h',DictG w h' d (Z6 xs k key v)→Heap.SameBut d s.heap h'→Q () {s with heap:=h',toks:=n}):wpAny (model prog w) A (dictSet d key v) Q E s:=by
 obtain ⟨o,es,ep,ho,hc,hd,he⟩:=hm;have hz:es.size=xs.length:=by rw [← bw,he.es,ae]
 unfold dictSet;refine cb (ac ((lM k).1 key A s _ hkey (by omega) fun n=>?_));unfold dictSetHashed;refine cb (ac (CP (s:={s with toks:=n}) hu hkey hk8 ho hd he fun r hr=>?_));cases r with
 |none =>
  have e0:Z6 xs k key v=xs++[(k,key,v)]:=by rw [Z6,RW hr];rfl
  refine ac (gy (wpAny_updateDictKeys (hz:=by omega) (s:={s with toks:=n}) ho hd (q n _ ?_ (fg ..))));rw [e0];have kp:=xG ho hd (fg (h:=s.heap) (a:=d) (f:=fun o=>o.mapDictKeys fun es=>es.push ⟨(gh w k).1,key,v⟩));refine ⟨_,_,ep+1,fk _ ho (Obj.isFreed_of_dict (Obj.data_mapDictKeys hd _)),hc.mapDictKeys _,Obj.data_mapDictKeys hd _,?_,?_,?_,?_⟩
  ·rw [Array.toList_push,he.es,aJ];rfl
  ·intro x hx
   rcases aR.mp hx with hx|hx
   ·exact (GR.keep kp x.1).1 _ (he.is x hx)
   ·cases aA.mp hx;exact (GR.keep kp k).1 _ hkey
  ·intro x hx
   rcases aR.mp hx with hx|hx
   ·exact he.deep x hx
   ·cases aA.mp hx;exact hk8
  ·rw [aJ,fw];refine ⟨he.once,by simp,fun a ha b hb e=>?_⟩;cases aA.mp hb;obtain ⟨x,hx,rfl⟩:=aw.mp ha;obtain ⟨j,hj⟩:=aQ.mp hx;have e':x.1=k:=e;exact hr j x.2 (by rw [hj,← e'])
 |some j =>
  obtain ⟨p,hj⟩:=hr;have e0:Z6 xs k key v=xs.map (fun x=>if x.1=k then (x.1,x.2.1,v) else x):=by
   rw [Z6,if_pos];rw [fb];exact ⟨_,ai hj,aK rfl⟩
  refine ac (gy (ac (wpAny_updateDict (s:={s with toks:=n}) ho hd (wpAny_point (q n _ ?_ (fg ..))))));rw [e0];have kp:=xG ho hd (fg (h:=s.heap) (a:=d) (f:=fun o=>o.mapDict fun es=>es.modify j fun e=>{e with val:=v}));refine ⟨_,_,ep,fk _ ho (Obj.isFreed_of_dict (Obj.data_mapDict hd _)),hc.mapDict _,Obj.data_mapDict hd _,?_,?_,?_,?_⟩
  ·rw [← BA he.once hj,← he.es];simp
  ·intro x hx;obtain ⟨y,hy,rfl⟩:=aw.mp hx;have:=(GR.keep kp y.1).1 _ (he.is y hy)
   split<;>exact this
  ·intro x hx;obtain ⟨y,hy,rfl⟩:=aw.mp hx;have:=he.deep y hy
   split<;>exact this
  ·rw [OM];exact he.once
end
section
variable {prog:Program} {w:World} {A:Around} {E:Value→Shared→Prop} {s:Shared} {d:Addr} {xs:List qK} {k:GK} {key v:Value}
theorem RI {Q:Value→Shared→Prop} (hu:A.units+9<cLine) (hkey:(GR s.heap k).1 key) (hk8:gd k≤8) (hm:DictG w s.heap d xs) (hv:zO xs k=some v) (q:∀n,Q v {s with toks:=n}) :
  wpAny (model prog w) A (getItem (.ref d) key) Q E s:=by
 have T:=hm.typeIs;unfold getItem;refine cb (ac (wpAny_sequenceKey T (by decide) (ac (bx (name:=Str.ofString "__getitem__") T slot_dict_getitem (en slot_dict_getitem T entry_dict_getitem ?_ (args_dict_getitem _ _))))));show wpAny _ A.in1 (dictGet d key >>= _) _ E s;refine ac (DU (by simp only [fi];omega) hkey hk8 hm fun n=>?_);rw [hv];exact am ⟨v,rfl,am (q n)⟩
theorem OK {Q:Unit→Shared→Prop} (hu:A.units+9<cLine) (hkey:(GR s.heap k).1 key) (hk8:gd k≤8) (hm:DictG w s.heap d xs) (hsz:xs.length≤sizeLine)
  (q:∀n h',DictG w h' d (Z6 xs k key v)→Heap.SameBut d s.heap h'→Q () {s with heap:=h',toks:=n}):wpAny (model prog w) A (setItem (.ref d) key v) Q E s:=by
 have T:=hm.typeIs;unfold setItem;refine cb (ac (wpAny_sequenceKey T (by decide) (ac (bx (name:=Str.ofString "__setitem__") T slot_dict_setitem (en slot_dict_setitem T entry_dict_setitem ?_ (args_dict_setitem _ _ _))))));show wpAny _ A.in1 (Builtin.Dict.notOrdered "__setitem__" _ >>= _) _ E s;refine ac (wpAny_notOrdered_dict T ?_);show wpAny _ A.in1 (dictSet d key v >>= _) _ E s;exact ac (DE (by simp only [fi];omega) hkey hk8 hm hsz fun n h' m sb=>am ⟨.none,rfl,am (q n h' m sb)⟩)
end
def GV (H:Hp):GK→(V→Prop)×(List V→Prop)
 |.i n=>(fun v=>v=.int n,fun _=>False)
 |.s x=>(fun v=>v=.str x,fun _=>False)
 |.nil=>(fun v=>∃a,v=.ref a∧H a=some (.tup []),fun l=>l=[])
 |.cons x y=>(fun v=>∃a l,v=.ref a∧H a=some (.tup l)∧∃u us,l=u::us∧(GV H x).1 u∧(GV H y).2 us,fun l=>∃u us,l=u::us∧(GV H x).1 u∧(GV H y).2 us)
theorem GV.keep {H H':Hp} (hk:∀a l,H a=some (.tup l)→H' a=some (.tup l)):∀k,(∀v,(GV H k).1 v→(GV H' k).1 v)∧(∀l,(GV H k).2 l→(GV H' k).2 l)
 |.i _=>⟨fun _ p=>p,fun _ p=>p⟩
 |.s _=>⟨fun _ p=>p,fun _ p=>p⟩
 |.nil=>⟨fun _ p=>by obtain ⟨a,e,q⟩:=p;exact ⟨a,e,hk _ _ q⟩,fun _ p=>p⟩
 |.cons x y=>by
  have c:∀l,(∃u us,l=u::us∧(GV H x).1 u∧(GV H y).2 us)→∃u us,l=u::us∧(GV H' x).1 u∧(GV H' y).2 us :=
   fun l ⟨u,us,e,p,q⟩=>⟨u,us,e,(GV.keep hk x).1 _ p,(GV.keep hk y).2 _ q⟩
  exact ⟨fun _ p=>by obtain ⟨a,l,e,q,r⟩:=p;exact ⟨a,l,e,hk _ _ q,c l r⟩,c⟩
section
variable {P:Program} {w:World} {H:Hp} {h:Heap}
theorem GV.rel (hok:HOk P w H h):∀k,(∀v u,(GV H k).1 v→RelV v u→(GR h k).1 u)∧(∀l us,(GV H k).2 l→Vals l us→(GR h k).2 us)
 |.i _=>⟨fun v u p r=>by cases p;exact r,fun _ _ p=>p.elim⟩
 |.s _=>⟨fun v u p r=>by cases p;exact r,fun _ _ p=>p.elim⟩
 |.nil=>by
  refine ⟨fun v u p r=>?_,fun l us p r=>by cases p;cases r;exact rfl⟩;obtain ⟨a,rfl,q⟩:=p;cases r;obtain ⟨_,its,r2,o,ho,hc,n,hd⟩:=hok a _ q;cases r2;exact ⟨a,o,_,n,rfl,ho,hc,hd,rfl⟩
 |.cons x y=>by
  have c:∀l us,(∃u vs,l=u::vs∧(GV H x).1 u∧(GV H y).2 vs)→Vals l us→∃u vs,us=u::vs∧(GR h x).1 u∧(GR h y).2 vs:=by
   rintro l us ⟨u,vs,rfl,p1,p2⟩ r;cases r with
   |cons r1 r2=>exact ⟨_,_,rfl,(GV.rel hok x).1 _ _ p1 r1,(GV.rel hok y).2 _ _ p2 r2⟩
  refine ⟨fun v u p r=>?_,c⟩;obtain ⟨a,l,rfl,q,p'⟩:=p;cases r;obtain ⟨_,its,r2,o,ho,hc,n,hd⟩:=hok a _ q;exact ⟨a,o,_,n,rfl,ho,hc,hd,c l its p' r2⟩
end
abbrev qU:=GK×V×V
def RelG (p:qU) (q:qK):Prop:=p.1=q.1∧RelV p.2.1 q.2.1∧RelV p.2.2 q.2.2
def GO (w:World) (d:Addr) (kvs:List qU):HO:=.ext fun h=>kvs.length≤sizeLine∧(d == sysModules)=false∧∃xs:List qK,Paired RelG kvs xs∧∃o es ep,h.get? d=some o∧o.ExactDict∧o.data=.dict es ep∧es.toList=xs.map (JV w)
structure GOk (H:Hp) (kvs:List qU):Prop where
 key:∀p∈kvs,(GV H p.1).1 p.2.1
 deep:∀p∈kvs,gd p.1≤8
 once:(kvs.map (·.1)).Nodup
def z3 (kvs:List qU) (k:GK):Option V:=(kvs.find? fun x=>decide (x.1=k)).map (·.2.2)
def vQ (kvs:List qU) (k:GK) (y v:V):List qU:=if (kvs.any fun x=>decide (x.1=k)) then kvs.map (fun x=>if x.1=k then (x.1,x.2.1,v) else x) else kvs++[(k,y,v)]
theorem RelG.keys:∀{kvs:List qU} {xs:List qK},Paired RelG kvs xs→kvs.map (·.1)=xs.map (·.1)
 |_,_,.nil=>rfl
 |_,_,.cons r t=>by rw [bf,bf,r.1,RelG.keys t]
theorem RelG.mem {q:qK}:∀{kvs:List qU} {xs:List qK},Paired RelG kvs xs→q∈xs→∃p∈kvs,RelG p q
 |_,_,.nil,h=>nomatch h
 |_,_,.cons r t,h=>by
  rcases ax.mp h with rfl|h
  ·exact ⟨_,aH,r⟩
  ·obtain ⟨p,hp,rp⟩:=RelG.mem t h;exact ⟨p,ay _ hp,rp⟩
theorem RelG.get {k:GK} {v:V}:∀{kvs:List qU} {xs:List qK},Paired RelG kvs xs→z3 kvs k=some v→∃u,zO xs k=some u∧RelV v u
 |_,_,.nil,e=>by cases e
 |p::kvs,q::xs,.cons r t,e=>by
  by_cases h:p.1=k
  ·have h':q.1=k:=r.1▸h;simp only [z3,cy,h,decide_true,Option.map_some,Option.some.injEq] at e;exact ⟨q.2.2,by simp [zO,h'],e▸r.2.2⟩
  ·have h':¬q.1=k:=r.1▸h;simp only [z3,cy,h,decide_false] at e;obtain ⟨u,e1,e2⟩:=RelG.get t e;exact ⟨u,by simpa [zO,cy,h'] using e1,e2⟩
theorem RelG.none {k:GK}:∀{kvs:List qU} {xs:List qK},Paired RelG kvs xs→(zO xs k).isSome=(z3 kvs k).isSome
 |_,_,.nil=>rfl
 |p::kvs,q::xs,.cons r t=>by
  have ih:=RelG.none (k:=k) t
  by_cases h:p.1=k
  ·have h':q.1=k:=r.1▸h;simp [zO,z3,h,h']
  ·have h':¬q.1=k:=r.1▸h
   simpa [zO,z3,cy,h,h'] using ih
theorem RelG.any {k:GK}:∀{kvs:List qU} {xs:List qK},Paired RelG kvs xs→(xs.any fun x=>decide (x.1=k))=(kvs.any fun x=>decide (x.1=k))
 |_,_,.nil=>rfl
 |_,_,.cons r t=>by rw [ie,ie,RelG.any t,r.1]
theorem RelG.put {k:GK} {v:V} {u:Value} (rv:RelV v u):∀{kvs:List qU} {xs:List qK},Paired RelG kvs xs→
  Paired RelG (kvs.map (fun x=>if x.1=k then (x.1,x.2.1,v) else x)) (xs.map (fun x=>if x.1=k then (x.1,x.2.1,u) else x))
 |_,_,.nil=>.nil
 |p::kvs,q::xs,.cons r t=>by
  refine .cons ?_ (RelG.put rv t)
  by_cases h:p.1=k
  ·have h':q.1=k:=r.1▸h
   dsimp only;rw [if_pos h,if_pos h'];exact ⟨r.1,r.2.1,rv⟩
  ·have h':¬q.1=k:=r.1▸h
   dsimp only;rw [if_neg h,if_neg h'];exact r
theorem RelG.app:∀{kvs kvs':List qU} {xs xs':List qK},Paired RelG kvs xs→Paired RelG kvs' xs'→Paired RelG (kvs++kvs') (xs++xs')
 |_,_,_,_,.nil,t=>t
 |_,_,_,_,.cons r t,t'=>.cons r (RelG.app t t')
theorem RelG.set {k:GK} {y v:V} {key u:Value} (ry:RelV y key) (rv:RelV v u) {kvs:List qU} {xs:List qK} (r:Paired RelG kvs xs):Paired RelG (vQ kvs k y v) (Z6 xs k key u):=by
 unfold vQ Z6;rw [RelG.any r]
 split
 ·exact RelG.put rv r
 ·exact RelG.app r (.cons ⟨rfl,ry,rv⟩ .nil)
theorem B8 (kvs:List qU) (k:GK) (y v:V):(vQ kvs k y v).length≤kvs.length+1:=by
 unfold vQ
 split
 ·rw [ae];omega
 ·rw [ag];exact ar _
section
variable {X:Cx} {pins:List (Addr×Obj)} {σ:St} {H:Hp} {s:Shared} {d:Addr} {k:GK} {y v:V} {u r:Value} {A:Around} {E:Value→Shared→Prop} {kvs:List qU}
theorem Inv.gdict (I:Inv X pins σ H s) (e:Rd H d (GO X.w d kvs)) (g:GOk H kvs):kvs.length≤sizeLine∧(d == sysModules)=false∧∃xs,Paired RelG kvs xs∧DictG X.w s.heap d xs:=by
 obtain ⟨⟨hl,hm,xs,rel,o,es,ep,ho,hc,hd,he⟩,_,_⟩:=e.ok I.hok;refine ⟨hl,hm,xs,rel,o,es,ep,ho,hc,hd,he,?_,?_,by rw [← RelG.keys rel];exact g.once⟩
 ·intro q hq;obtain ⟨p,hp,rp⟩:=RelG.mem rel hq;exact rp.1▸(GV.rel I.hok p.1).1 _ _ (g.key p hp) rp.2.1
 ·intro q hq;obtain ⟨p,hp,rp⟩:=RelG.mem rel hq;exact rp.1▸g.deep p hp
theorem UJ {Q:Value→Shared→Prop} (hu:A.units+9<cLine) (I:Inv X pins σ H s) (e:Rd H d (GO X.w d kvs)) (g:GOk H kvs) (hy:(GV H k).1 y) (h8:gd k≤8) (hv:z3 kvs k=some v) (ry:RelV y u)
  (h:∀w' s',Inv X pins σ H s'→RelV v w'→Q w' s'):wpAny (model X.prog X.w) A (getItem (.ref d) u) Q E s:=by
 obtain ⟨_,_,xs,rel,dd⟩:=I.gdict e g;obtain ⟨w',hw,rw'⟩:=RelG.get rel hv;exact RI hu ((GV.rel I.hok k).1 y u hy ry) h8 dd hw fun n=>h w' _ (I.tok n) rw'
theorem S3 {Q:Unit→Shared→Prop} (hu:A.units+9<cLine) (I:Inv X pins σ H s) (e:H d=some (GO X.w d kvs)) (g:GOk H kvs) (hy:(GV H k).1 y) (h8:gd k≤8) (hl:kvs.length<sizeLine) (ry:RelV y u) (rv:RelV v r)
  (h:∀s',Inv X pins σ (upd H d (GO X.w d (vQ kvs k y v))) s'→Q () s'):wpAny (model X.prog X.w) A (setItem (.ref d) u r) Q E s:=by
 obtain ⟨_,hm,xs,rel,dd⟩:=I.gdict (.of e) g;refine OK hu ((GV.rel I.hok k).1 y u hy ry) h8 dd (by rw [← kn rel];omega) fun n h' dd' sb=>h _ ?_
 obtain ⟨o,es,ep,ho,hc,hd,he,_⟩:=dd';refine tU I (by rw [e];exact True.intro) sb ⟨o,ho⟩ ⟨⟨by have:=B8 kvs k y v;omega,hm,_,RelG.set ry rv rel,o,es,ep,ho,hc,hd,he⟩,⟨o,ho⟩,?_⟩;rintro h1 h2 ⟨a1,a2,xs',a3,o',es',ep',a4,a5⟩ kp;exact ⟨a1,a2,xs',a3,o',es',ep',kp _ a4,a5⟩
end
variable {H:Hp}
theorem GOk.keep {H':Hp} {kvs:List qU} (g:GOk H kvs) (hk:∀a l,H a=some (.tup l)→H' a=some (.tup l)):GOk H' kvs:=⟨fun p hp=>(GV.keep hk p.1).1 _ (g.key p hp),g.deep,g.once⟩
theorem GOk.nil:GOk H []:=⟨fun _ h=>(nomatch h),fun _ h=>(nomatch h),List.nodup_nil⟩
theorem GOk.set {kvs:List qU} {k:GK} {y v:V} (g:GOk H kvs) (hy:(GV H k).1 y) (h8:gd k≤8):GOk H (vQ kvs k y v):=by
 unfold vQ
 by_cases ha:(kvs.any fun x=>decide (x.1=k))=true
 ·rw [if_pos ha];refine ⟨fun p hp=>?_,fun p hp=>?_,?_⟩
  ·obtain ⟨q,hq,rfl⟩:=aw.mp hp;have:=g.key q hq
   split<;>exact this
  ·obtain ⟨q,hq,rfl⟩:=aw.mp hp;have:=g.deep q hq
   split<;>exact this
  ·rw [lm,show ((fun x:qU=>x.1)∘fun x=>if x.1=k then (x.1,x.2.1,v) else x)=(·.1) from funext fun x=>by show (if x.1=k then (x.1,x.2.1,v) else x).1=x.1;split<;>rfl];exact g.once
 ·rw [if_neg ha];refine ⟨fun p hp=>?_,fun p hp=>?_,?_⟩
  ·rcases aR.mp hp with hp|hp
   ·exact g.key p hp
   ·cases aA.mp hp;exact hy
  ·rcases aR.mp hp with hp|hp
   ·exact g.deep p hp
   ·cases aA.mp hp;exact h8
  ·rw [aJ,fw];refine ⟨g.once,by simp,fun a h1 b h2 e=>ha ?_⟩;cases aA.mp h2;obtain ⟨q,hq,rfl⟩:=aw.mp h1;rw [fb];exact ⟨q,hq,aK e⟩
def UT (w:World) (td ty:TE):TE:=fun σ H Q=>td σ H fun x H1=>ty σ H1 fun y H2=>∃(d:Addr) (kvs:List qU) (k:GK) (v:V),x=.ref d∧Rd H2 d (GO w d kvs)∧GOk H2 kvs∧(GV H2 k).1 y∧gd k≤8∧z3 kvs k=some v∧Q v H2
def U0 (w:World) (td ty tv:TE):TS:=fun D σ H=>tv σ H fun v H1=>td σ H1 fun x H2=>ty σ H2 fun y H3=>∃(d:Addr) (kvs:List qU) (k:GK),x=.ref d∧H3 d=some (GO w d kvs)∧GOk H3 kvs∧(GV H3 k).1 y∧gd k≤8∧kvs.length<sizeLine∧D.nx σ (upd H3 d (GO w d (vQ kvs k y v)))
section
variable {X:Cx} {o i e value:Expr} {pos pos':Pos} {td ty tv:TE}
theorem DM (hu:X.A.units+9<cLine) (ho:PE X o td) (hi:PE X i ty) (hs:wB i):PE X (.Subscript o i pos) (UT X.w td ty):=by
 intro pins s σ H Q I h;refine C3 PySem.F.slot_dict_getitem.lookup hs (jN (ho pins s σ H _ I h) fun u s1 ⟨x,H1,I1,rx,q1⟩=>jN (hi pins s1 σ H1 _ I1 q1) fun iv s2 ⟨y,H2,I2,ry,d,kvs,k,v,ex,hd,g,hy,h8,hv,q2⟩=>?_);subst ex;obtain rfl:u=Value.ref d:=rx;obtain ⟨_,_,xs,_,dd⟩:=I2.gdict hd g;exact ⟨dd.typeIs,UJ hu I2 hd g hy h8 hv ry fun w' s3 I3 rw'=>⟨v,H2,I3,rw',q2⟩⟩
theorem DG (hu:X.A.units+9<cLine) (ho:PE X o td) (hi:PE X i ty) (hv:PE X value tv) (hs:swapsWith value (some (.Subscript o i pos')) pos.line X.env=pure false) :
  PS X (.Assign [.Subscript o i pos'] value pos) (U0 X.w td ty tv):=by
 intro pins s σ H D I h;refine wpAny_Assign_Subscript (jN (hv pins s σ H _ I h) fun r s1 ⟨v,H1,I1,rv,q1⟩=>jN (ho pins s1 σ H1 _ I1 q1) fun u s2 ⟨x,H2,I2,rx,q2⟩=>jN (hi pins s2 σ H2 _ I2 q2) fun iv s3 ⟨y,H3,I3,ry,d,kvs,k,ex,hd,g,hy,h8,hl,q3⟩=>?_) hs;subst ex;obtain rfl:u=Value.ref d:=rx;exact S3 hu I3 hd g hy h8 hl ry rv fun s4 I4=>⟨σ,_,I4,q3⟩
theorem SF {s:Shared} {A:Around} {x y:GK} {v u:Value} (p:(GR s.heap x).1 v) (q:(GR s.heap y).1 u) (hu:A.units+gd x<cLine):SeqAt.RcAt A s v u (decide (x=y)):=by
 have tt:Q5 x=true→Q5 y=true→SeqAt.RcAt A s v u (decide (x=y)):=fun hx hy=>by
  obtain ⟨a,o,its,n,rfl,ho,hc,hd,hl⟩:=(GR.tup hx).1 p;obtain ⟨a',o',its',n',rfl,ho',hc',hd',hl'⟩:=(GR.tup hy).1 q;obtain ⟨e,he,hr⟩:=(mF x y).2 A.in1 _ _ hl hl' (by simp only [fi];omega);have r:=SeqAt.RcAt.tuples (A:=A) (s:=s) (e:=e) (items:=its) (items2:=its') ⟨o,ho,hc,n,hd⟩ ⟨o',ho',hc',n',hd'⟩ (by omega) (fun j h1 h2=>by have:=he j (by simpa using h1) (by simpa using h2);rwa [gq,gq] at this);rw [bw,bw] at hr;rw [hr] at r;exact r
 have ti:Q5 x=true→∀n t,u=.int n t→SeqAt.RcAt A s v u false:=fun hx n t e=>by
  obtain ⟨a,o,its,m,rfl,ho,hc,hd,_⟩:=(GR.tup hx).1 p;subst e;exact SeqAt.RcAt.tuple_int _ _ ⟨o,ho,hc,_,hd⟩ (by omega)
 have ts:Q5 x=true→∀n t,u=.str n t→SeqAt.RcAt A s v u false:=fun hx n t e=>by
  obtain ⟨a,o,its,m,rfl,ho,hc,hd,_⟩:=(GR.tup hx).1 p;subst e;exact SeqAt.RcAt.tuple_str _ _ ⟨o,ho,hc,_,hd⟩ (by omega)
 have it:Q5 y=true→∀n t,v=.int n t→SeqAt.RcAt A s v u false:=fun hy n t e=>by
  obtain ⟨a,o,its,m,rfl,ho,hc,hd,_⟩:=(GR.tup hy).1 q;subst e;exact SeqAt.RcAt.int_tuple _ _ ⟨o,ho,hc,_,hd⟩ (by omega)
 have st:Q5 y=true→∀n t,v=.str n t→SeqAt.RcAt A s v u false:=fun hy n t e=>by
  obtain ⟨a,o,its,m,rfl,ho,hc,hd,_⟩:=(GR.tup hy).1 q;subst e;exact SeqAt.RcAt.str_tuple _ _ ⟨o,ho,hc,_,hd⟩ (by omega)
 cases x with
 |i n =>
  obtain ⟨t,rfl⟩:=p;cases y with
  |i m=>obtain ⟨t',rfl⟩:=q;rw [show decide (GK.i n=GK.i m)=(n == m) by by_cases e:n=m<;>simp [e]];exact SeqAt.RcAt.int_int n t m t'
  |s z=>obtain ⟨t',rfl⟩:=q;exact SeqAt.RcAt.int_str _ _ _ _
  |nil=>exact it rfl n t rfl
  |cons a b=>exact it rfl n t rfl
 |s n =>
  obtain ⟨t,rfl⟩:=p;cases y with
  |i m=>obtain ⟨t',rfl⟩:=q;exact SeqAt.RcAt.str_int _ _ _ _
  |s z=>obtain ⟨t',rfl⟩:=q;rw [show decide (GK.s n=GK.s z)=(n == z) by by_cases e:n=z<;>simp [e]];exact SeqAt.RcAt.str_str n t z t'
  |nil=>exact st rfl n t rfl
  |cons a b=>exact st rfl n t rfl
 |nil =>
  cases y with
  |i m=>obtain ⟨t',e⟩:=q;exact ti rfl m t' e
  |s z=>obtain ⟨t',e⟩:=q;exact ts rfl z t' e
  |nil=>exact tt rfl rfl
  |cons a b=>exact tt rfl rfl
 |cons a b =>
  cases y with
  |i m=>obtain ⟨t',e⟩:=q;exact ti rfl m t' e
  |s z=>obtain ⟨t',e⟩:=q;exact ts rfl z t' e
  |nil=>exact tt rfl rfl
  |cons a b=>exact tt rfl rfl
def V9:R2:=fun x y H Q=>∃k k',(GV H k).1 x∧(GV H k').1 y∧gd k≤8∧Q (.bl (decide (k=k'))) H
theorem T5 (hu:X.A.units+9<cLine):qT X (compareOp .Eq) V9:=by
 intro pins s σ H x y v u Q I rx ry h;obtain ⟨k,k',hx,hy,h8,q⟩:=h;exact SF ((GV.rel I.hok k).1 x v hx rx) ((GV.rel I.hok k').1 y u hy ry) (by omega) X.prog X.w X.xe _ ⟨.bl _,H,I,rfl,q⟩
end
end L2
namespace L2
open PySem PySem.Spec PyProof.Rows
section
variable {X:Cx} {pins:List (Addr×Obj)} {σ:List (Option V)} {H:Hp} {s:Shared}
def FnO (f:Addr) (o:Obj):HO:=.ext fun h=>h.get? f=some o
theorem Inv.fnMade {P:Addr} {ps more:Array Value} {h':Heap} {o:Obj} {t':Nat} (I:Inv X pins σ H s) (hP:H P=some (.tbl ps)) (hx:Heap.ExtBut P s.heap h') (hsz:s.heap.objs.size≤h'.objs.size) (hP':h'.get? P=some {cls:=.none,data:=.fields (ps++more)}) (hfr:o.isFreed=false) :
  Inv X pins σ (upd (upd H P (.tbl (ps++more))) h'.objs.size (FnO h'.objs.size o)) {s with heap:=h'.push o,toks:=t'}:=by
 have hPs:ObjOk X.prog X.w H s.heap P (.tbl ps):=I.hok P _ hP;have key:∀b u,b≠P→s.heap.get? b=some u→(h'.push o).get? b=some u:=fun b u hb e=>aj _ (hx b u hb e)
 have hlt:∀b,b<s.heap.objs.size→b≠h'.objs.size:=fun b e=>aF (ao e hsz)
 have hf:∀b u,s.heap.get? b=some u→b≠h'.objs.size:=fun b u e=>hlt b (au e)
 have ht:∀b u,H b=some u→b≠h'.objs.size:=fun b u e=>hlt b (I.hok b u e).lt
 have hfP:P≠h'.objs.size:=ht P _ hP;have hnP:∀b,H b=none→b≠P:=fun b n z=>by rw [z,hP] at n;cases n
 have hoP:∀b u,H b=some u→u≠.tbl ps→b≠P:=fun b u e n z=>by rw [z,hP] at e;cases e;exact n rfl
 refine I.un ⟨fun b ob e n _ _=>key b ob (hnP b n) e,fun b ob e n _ _=>⟨ob.slots,key b ob (hnP b n) e⟩,fun b ob e n _=>?_,fun b ob e _=>?_,fun b xs e=>?_,fun b ob u e=>?_,fun b qs e=>?_⟩ fun b u e=>?_
 ·rw [jH (hf b ob e),jH (hnP b n)];exact n
 ·by_cases z:b=P
  ·subst z;exact ⟨_,aj _ hP'⟩
  ·exact ⟨ob,key b ob z e⟩
 ·rw [jH (ht b _ e),jH (hoP b _ e (fun z=>nomatch z))];exact e
 ·rw [jH (ht b _ e),jH (hoP b _ e (fun z=>nomatch z))];exact e
 ·by_cases z:b=P
  ·subst z;rw [hP] at e;cases e
   exact ⟨more,by rw [jH hfP,jD]⟩
  ·exact ⟨#[],by rw [jH (ht b _ e),jH z,e];simp⟩
 ·by_cases z:b=h'.objs.size
  ·subst z;rw [jD] at e;cases e
   exact ⟨az _ hfr,⟨_,az _ hfr⟩,fun h1 h2 q k=>k _ q⟩
  rw [jH z] at e
  by_cases zP:b=P
  ·subst zP;rw [jD] at e;cases e
   exact aj _ hP'
  rw [jH zP] at e;refine (I.hok b u e).stay (fun c v hc r=>key c v ?_ r) (fun c r=>?_) fun c xs r=>?_
  ·rcases hc with rfl|hc
   ·exact zP
   ·exact hoP c _ hc (fun z=>nomatch z)
  ·rw [jH (ht c _ r),jH (hoP c _ r (fun z=>nomatch z))];exact r
  ·rw [jH (ht c _ r),jH (hoP c _ r (fun z=>nomatch z))];exact r
end
def kR (H:Hp) (cs:List Addr):Hp:=fun b=>if b∈cs then none else H b
def qZ (H' H:Hp) (cs:List Addr):Hp:=fun b=>if b∈cs then H b else H' b
variable {H:Hp} {cs:List Addr} {b:Addr}
theorem ZB (h:b∈cs):kR H cs b=none:=if_pos h
theorem vG (h:b∉cs):kR H cs b=H b:=if_neg h
theorem fU {H':Hp} (h:b∈cs):qZ H' H cs b=H b:=if_pos h
theorem vH {H':Hp} (h:b∉cs):qZ H' H cs b=H' b:=if_neg h
section
variable {P:Program} {w:World} {H H' HC:Hp} {h h':Heap} {cs fs:List Addr}
theorem FnO.ok {c:Addr} {o:Obj} (e:h.get? c=some o):ObjOk P w H h c (FnO c o):=⟨e,⟨o,e⟩,fun _ _ q k=>k _ q⟩
theorem FnO.get {c:Addr} {o:Obj} (x:HOk P w H h) (e:H c=some (FnO c o)):h.get? c=some o:=(x c _ e).1
def Z3 (H:Hp) (cs:List Addr):Prop:=∀c∈cs,∃o,H c=some (FnO c o)
theorem HOk.hide (x:HOk P w H h) (hc:Z3 H cs):HOk P w (kR H cs) h:=fun b u e=>by
 by_cases hb:b∈cs
 ·rw [ZB hb] at e;cases e
 ·rw [vG hb] at e;refine (x b u e).stay (fun _ _ _ q=>q) (fun c q=>?_) fun c xs q=>?_
  ·rw [vG];exact q
   intro hin;obtain ⟨o,e2⟩:=hc c hin;rw [q] at e2;cases e2
  ·rw [vG];exact q
   intro hin;obtain ⟨o,e2⟩:=hc c hin;rw [q] at e2;cases e2
theorem HOk.unhide (x:HOk P w H' h) (hn:∀c∈cs,H' c=none) (hc:∀c∈cs,∃o,H c=some (FnO c o)∧h.get? c=some o):HOk P w (qZ H' H cs) h:=fun b u e=>by
 by_cases hb:b∈cs
 ·rw [fU hb] at e;obtain ⟨o,e2,g⟩:=hc b hb;rw [e2] at e;cases e
  exact FnO.ok g
 ·rw [vH hb] at e;refine (x b u e).stay (fun _ _ _ q=>q) (fun c q=>?_) fun c xs q=>?_
  ·rw [vH];exact q
   intro hin;rw [hn c hin] at q;cases q
  ·rw [vH];exact q
   intro hin;rw [hn c hin] at q;cases q
theorem Un.unhide (u:Un fs [] (kR H cs) H' h h') (hc:Z3 H cs):Un fs [] H (qZ H' H cs) h h':=by
 have no:∀b,H b=none→b∉cs:=fun b n hin=>by obtain ⟨o,e⟩:=hc b hin;rw [n] at e;cases e
 have nt:∀b v,H b=some v→(∀o,v≠FnO b o)→b∉cs:=fun b v e n hin=>by obtain ⟨o,e2⟩:=hc b hin;rw [e] at e2;cases e2;exact n o rfl
 refine ⟨fun b o e n=>u.keep b o e (by rw [vG (no b n)];exact n),fun b o e n=>u.slot b o e (by rw [vG (no b n)];exact n),fun b o e n hx=>?_,fun b o e hx=>u.there b o e hx,fun b xs e=>?_,fun b o v e=>?_,fun b ps e=>?_⟩
 ·rw [vH (no b n)];exact u.free b o e (by rw [vG (no b n)];exact n) hx
 ·have:=nt b _ e (fun _ z=>nomatch z);rw [vH this];exact u.tups b xs (by rw [vG this];exact e)
 ·have:=nt b _ e (fun _ z=>nomatch z);rw [vH this];exact u.frzs b o v (by rw [vG this];exact e)
 ·have:=nt b _ e (fun _ z=>nomatch z);rw [vH this];exact u.tbls b ps (by rw [vG this];exact e)
theorem Un.hide (u:Un fs [] (qZ H HC cs) H' h h') (hn:∀c∈cs,H c=none) (hc:∀c∈cs,∃o,HC c=some (FnO c o)∧h.get? c=some o) (he:∀c∈cs,H' c=HC c) (hf:∀c∈cs,c∉fs) (x:HOk P w H' h'):Un fs [] H (kR H' cs) h h':=by
 have nt:∀b v,H b=some v→b∉cs:=fun b v e hin=>by rw [hn b hin] at e;cases e
 refine ⟨fun b o e n h1 h2=>?_,fun b o e n h1 h2=>?_,fun b o e n hx=>?_,fun b o e hx=>u.there b o e hx,fun b xs e=>?_,fun b o v e=>?_,fun b ps e=>?_⟩
 ·by_cases hb:b∈cs
  ·obtain ⟨o',e1,e2⟩:=hc b hb;rw [e] at e2;cases e2
   exact FnO.get x ((he b hb).trans e1)
  ·exact u.keep b o e (by rw [vH hb];exact n) h1 h2
 ·exact u.slot b o e (by rw [vH fun hb=>hf b hb h1];exact n) h1 h2
 ·by_cases hb:b∈cs
  ·exact ZB hb
  ·rw [vG hb];exact u.free b o e (by rw [vH hb];exact n) hx
 ·have:=nt b _ e;rw [vG this];exact u.tups b xs (by rw [vH this];exact e)
 ·have:=nt b _ e;rw [vG this];exact u.frzs b o v (by rw [vH this];exact e)
 ·have:=nt b _ e;rw [vG this];exact u.tbls b ps (by rw [vH this];exact e)
end
def cC (CX:vS) (P:Program) (w:World) (K:PySem.W.Frag) (mg:Str→Option Value) (base:Heap) (N:List Str) (qual:Str) (scope:Scope) (f:Addr) (cd:Value) (cl:List (Str×Addr)) (A:Around) (outer:List Env) (s:Shared) (H:Hp) (E:XK):Cx where
 prog:=P
 w:=w
 K:=K
 mg:=mg
 base:=base
 A:=A.deeper (PySem.W.envX qual scope s.heap.objs.size f cd cl)
 N:=N
 s₀:=s
 H₀:=kR H (cl.map (·.2))
 env:=PySem.W.envX qual scope s.heap.objs.size f cd cl
 outer:=outer
 stack:=PySem.W.envX qual scope s.heap.objs.size f cd cl::outer
 ex:=[]
 calm:=true
 fn:=fun _=>false
 pn:=[]
 xe:=fun e s'=>wpAny (model P w) (A.deeper (PySem.W.envX qual scope s.heap.objs.size f cd cl)) (leaving (PySem.W.envX qual scope s.heap.objs.size f cd cl) e) (fun _ s''=>CX outer H s E e s'') (fun e' s''=>CX outer H s E e' s'') s'
end L2
namespace L2
open PySem PySem.Spec PyProof.Rows
structure CloAt (H:Hp) (f:Addr) (qual:Str) (params:Arguments) (body:List Stmt) (scope:Scope) (cl:List (Str×Addr)) (fvs:List V) (cdv:Value) (fd:FuncData):Prop where
 fn:∃fo name doc pm an ct,H f=some (FnO f fo)∧fo.data=.func fd∧fd=PySem.W.fnX name qual params body scope cl .none .none doc pm an cdv ct
 code:∃c oc vs t,cdv=.ref c∧H c=some (FnO c oc)∧oc.data=.fields vs∧vs[1]?=some (.str qual t)
 once:(cl.map (·.2)).Nodup
 len:fvs.length=cl.length
 cell:∀(i:Nat) (x:Str) (c:Addr) (v:V),cl[i]?=some (x,c)→fvs[i]?=some v→∃o u,H c=some (FnO c o)∧o.data=.cell (some u)∧RelV v u
theorem CloAt.cells {H:Hp} {f:Addr} {qual:Str} {params:Arguments} {body:List Stmt} {scope:Scope} {cl:List (Str×Addr)} {fvs:List V} {cdv:Value} {fd:FuncData} (C:CloAt H f qual params body scope cl fvs cdv fd):Z3 H (cl.map (·.2)):=fun c hc=>by
 obtain ⟨⟨x,c'⟩,hm,rfl⟩:=aw.mp hc;obtain ⟨i,hi⟩:=aQ.mp hm;have hlt:i<fvs.length:=by rw [C.len];exact (ad.mp hi).1
 obtain ⟨o,u,e,_⟩:=C.cell i x c' _ hi (aa hlt);exact ⟨o,e⟩
theorem P3 {cl:List (Str×Addr)} (hn:(cl.map (·.2)).Nodup) {x y:Str} {c:Addr} (h1:cl.lookup x=some c) (h2:cl.lookup y=some c):x=y:=by
 obtain ⟨i,hi⟩:=aQ.mp (bi h1);obtain ⟨j,hj⟩:=aQ.mp (bi h2);have a:(cl.map (·.2))[i]?=some c:=by rw [av,hi];rfl
 have b:(cl.map (·.2))[j]?=some c:=by rw [av,hj];rfl
 obtain rfl:=(List.getElem?_inj (ad.mp a).1 hn).mp (a.trans b.symm);rw [hi] at hj;cases hj;rfl
section
variable {CX:vS} {P:Program} {w:World} {K:PySem.W.Frag} {mg:Str→Option Value} {base:Heap} {N ps fr:List Str} {qual:Str} {params:Arguments} {body:List Stmt} {scope:Scope} {f:Addr} {cdv:Value} {fd:FuncData} {cl:List (Str×Addr)} {A:Around} {outer:List Env} {s:Shared} {H:Hp} {E:XK} {Q:VK} {us:List Value} {vs fvs:List V} {k:Nat} {args:Args}
end
structure FnV (P:Program) (w:World) (K:PySem.W.Frag) (mg:Str→Option Value) (base:Heap) (CX:vS) (k:Nat) (sp:Addr→Sp):Prop where
 fn:∀f vs H Q E,sp f vs H Q E→∃fo fd,H f=some (FnO f fo)∧fo.data=.func fd
 run:∀(A:Around) (outer:List Env) (s:Shared) (H:Hp) (f:Addr) (us:List Value) (vs:List V) (Q:VK) (E:XK),Room k A→Env0 P w K mg base A outer s H→Vals vs us→sp f vs H Q E→
  codeAny (model P w) A (.call (.ref f) ⟨us,[]⟩) (CR CX outer P w H s Q E) s
def yC (qual:Str) (params:Arguments) (body:List Stmt) (scope:Scope) (ps fr:List Str) (sp:List Addr→List V→Sp) (f:Addr):Sp:=fun vs H Q E=>vs.length=ps.length∧
 ∃cl fvs cdv fd,CloAt H f qual params body scope cl fvs cdv fd∧cl.map (·.1)=fr∧sp (cl.map (·.2)) fvs vs H Q E
theorem w9 {M:Model} {A:Around} {E:Value→Shared→Prop} {s:Shared} {env:Env} {pos:Pos} {f:Addr} {e:Expr} {rest:List Expr} {Q:Value→Shared→Prop}
  (h:wpAny M A (spliced (backTo pos (starEach (e::rest) env))) (fun vs s1=>∃fo fd,s1.heap.get? f=some fo∧fo.data=.func fd∧wpAny M A (call (.ref f) vs) Q E s1) E s)
  (he:starEach (e::rest) env=(false,eval e env)::starEach rest env) (hpl:(backTo pos (starEach rest env)).any (·.1)=false):wpAny M A (callWith pos (.ref f) [] (backTo pos (starEach (e::rest) env)) []) Q E s:=by
 rw [he] at h ⊢;refine PySem.W.callWith_of (P:=fun g=>∃fo fd,g.get? f=some fo∧fo.data=.func fd) (by show ((false||(backTo pos (starEach rest env)).any (·.1))||false)=false;rw [hpl];rfl) (fun g hg=>?_) (PySem.Calls.evalArgs_plain (bv h (fun vs s1 h1=>?_) fun _ _ y=>y))
 ·obtain ⟨⟨cls,dict,data,slots⟩,fd,ho,hd⟩:=hg;cases hd;exact ⟨.frame,.inl rfl,(PySem.W.Looks.ld (part:=none) ho).andThen .now⟩
 ·obtain ⟨fo,fd,ho,hd,q⟩:=h1;exact ⟨⟨fo,fd,ho,hd⟩,q⟩
section
variable {X:Cx} {CX:vS} {k:Nat} {sp:Addr→Sp} {E:XK} {x:Str} {p pos:Pos} {e:Expr} {es:List Expr} {t:TA} {i:Nat}
def TM (i:Nat) (sp:Addr→Sp) (E:XK) (t:TA):TE:=fun σ H Q=>∃f,σ[i]?=some (some (.ref f))∧t σ H fun vs H1=>sp f vs H1 Q E
theorem bN (F:FnV X.prog X.w X.K X.mg X.base CX k sp) (hr:Room k X.A) (hx:ZX CX X E) (hN:X.N[i]?=some x) (hv:eN X.env.scope x) (ha:PA X (e::es) t) (hd:(x == ("__debug__":Str))=false:=by decide) (hcd:(x == ("__classdict__":Str))=false:=by decide)
  (he:starEach (e::es) X.env=(false,eval e X.env)::starEach es X.env:=by rfl) (hpl:(backTo pos (starEach es X.env)).any (·.1)=false:=by rfl):PE X (.Call (.Name x p) (e::es) [] pos) (TM i sp E t):=by
 intro pins s σ H Q I h;obtain ⟨f,e1,h⟩:=h;refine cq (jN (uB hN hv hd hcd pins s σ H (fun v H'=>v=V.ref f∧t σ H' fun vs H1=>sp f vs H1 Q E) I ⟨.ref f,e1,rfl,h⟩) fun u s1 ⟨x',H1,I1,rx,ex,q1⟩=>?_);subst ex;obtain rfl:u=Value.ref f:=rx;refine w9 (jN (ha pos pins s1 σ H1 _ I1 q1) fun us s2 ⟨vs,H2,I2,r,q2⟩=>?_) he hpl;obtain ⟨fo,fd,g1,g2⟩:=F.fn _ _ _ _ _ q2;refine ⟨fo,fd,FnO.get I2.hok g1,g2,wpAny_call (gx (F.run X.A X.stack s2 H2 f us vs Q E hr I2.env0 r q2) fun r s' hq=>?_)⟩;cases r with
 |error e=>exact hx pins σ H2 s2 e s' I2 hq
 |ok fl =>
  cases fl with
  |ret u=>exact I2.after hq
  |next=>exact False.elim hq
  |brk=>exact False.elim hq
  |cont=>exact False.elim hq
end
def TN (cs:List (Nat×Addr)) (sp:Sp) (dvs:List V) (t:TA):TE:=fun σ H Q=>t σ H fun vs H1=>(∀p∈cs,∃v,σ[p.1]?=some (some v))∧
 ∀HC:Hp,(∀p∈cs,∃v o u,σ[p.1]?=some (some v)∧HC p.2=some (FnO p.2 o)∧o.data=.cell (some u)∧RelV v u)→(∀p∈cs,H1 p.2=none)→
  sp (vs++dvs) (qZ H1 HC (cs.map (·.2))) (fun v H'=>(∀p∈cs,H' p.2=HC p.2)∧Q v (kR H' (cs.map (·.2)))) E0
section
variable {X:Cx} {k k':Nat} {f:Addr} {fd:FuncData} {ps:List Str} {sp:Sp} {dvs:List V} {ds:List Value} {x:Str} {p pos:Pos} {e:Expr} {es:List Expr} {t:TA} {cs:List (Nat×Addr)}
def fW (X:Cx) (cs:List (Nat×Addr)):Prop:=∀q∈cs,∃y,X.N[q.1]?=some y∧X.env.scope.names.lookup y=some .cell∧X.env.cells.lookup y=some q.2∧X.fn y=true
theorem EX {pins:List (Addr×Obj)} {σ:St} {H:Hp} {s:Shared} (hcs:fW X cs) (I:Inv X pins σ H s) (hv:∀q∈cs,∃v,σ[q.1]?=some (some v)) :
  ∃HC:Hp,(∀q∈cs,∃v o u,σ[q.1]?=some (some v)∧HC q.2=some (FnO q.2 o)∧o.data=.cell (some u)∧RelV v u)∧(∀q∈cs,H q.2=none)∧Env0 X.prog X.w X.K X.mg X.base X.A X.stack s (qZ H HC (cs.map (·.2)))∧
   ∀(f:Addr) (us:List Value) (Q:VK),codeAny (model X.prog X.w) X.A (.call (.ref f) ⟨us,[]⟩) (CR jK X.stack X.prog X.w (qZ H HC (cs.map (·.2))) s (fun v H'=>(∀q∈cs,H' q.2=HC q.2)∧Q v (kR H' (cs.map (·.2)))) E0) s→wpAny (model X.prog X.w) X.A (call (.ref f) us) (EP X pins σ Q) X.xe s:=by
 let HC:Hp:=fun b=>(s.heap.get? b).map fun o=>FnO b o
 have hn:∀q∈cs,H q.2=none:=fun q hq=>by
  obtain ⟨y,_,_,e3,_⟩:=hcs q hq;exact I.freeC y q.2 e3
 have hc:∀q∈cs,∃v o u,σ[q.1]?=some (some v)∧HC q.2=some (FnO q.2 o)∧s.heap.get? q.2=some o∧o.data=.cell (some u)∧RelV v u:=fun q hq=>by
  obtain ⟨y,e1,e2,e3,_⟩:=hcs q hq;obtain ⟨v,ev⟩:=hv q hq;obtain ⟨m,_,hl⟩:=I.loc;obtain ⟨u,ru,lk⟩:=hl q.1 y v e1 ev (.inr (.inl e2))
  rcases lk with ⟨hk,_⟩|⟨_,c,hc,o,ho,hd⟩
  ·have hk':X.env.scope.names.lookup y=some .local:=hk;rw [e2] at hk';cases hk'
  ·rw [e3] at hc;cases hc
   exact ⟨v,o,u,ev,by show (s.heap.get? q.2).map _=_;rw [ho];rfl,ho,hd,ru⟩
 have hin:∀c∈cs.map (·.2),∃q∈cs,q.2=c:=fun c hm=>by
  obtain ⟨q,hq,e⟩:=aw.mp hm;exact ⟨q,hq,e⟩
 have hn':∀c∈cs.map (·.2),H c=none:=fun c hm=>by obtain ⟨q,hq,rfl⟩:=hin c hm;exact hn q hq
 have hc':∀c∈cs.map (·.2),∃o,HC c=some (FnO c o)∧s.heap.get? c=some o:=fun c hm=>by
  obtain ⟨q,hq,rfl⟩:=hin c hm;obtain ⟨_,o,_,_,e1,e2,_⟩:=hc q hq;exact ⟨o,e1,e2⟩
 have hab:∀c∈cs.map (·.2),X.s₀.heap.objs.size≤c:=fun c hm=>by
  obtain ⟨q,hq,rfl⟩:=hin c hm;obtain ⟨y,_,_,e3,e4⟩:=hcs q hq;exact I.ok.cab y q.2 e4 e3
 have hfs:∀c∈cs.map (·.2),c∉kO X.stack:=fun c hm hf=>by
  have hcl:c≠X.env.locals:=by
   obtain ⟨q,hq,rfl⟩:=hin c hm;obtain ⟨y,_,_,e3,_⟩:=hcs q hq;exact I.cne y q.2 e3
  rcases ax.mp (I.stkSub c hf) with z|z
  ·exact hcl z
  ·have lt:c<X.s₀.heap.objs.size:=by obtain ⟨_,o,ho,_⟩:=I.ok.funs.mem z;exact au ho
   have:=hab c hm;exact absurd (ao lt this) (aV _)
 have e0:=I.env0;have e1:Env0 X.prog X.w X.K X.mg X.base X.A X.stack s (qZ H HC (cs.map (·.2))):=by
  refine ⟨e0.frames,e0.mod,fun b o eb=>⟨(e0.bs b o eb).1,?_⟩,e0.bsz,e0.funs,fun b hb'=>?_,HOk.unhide e0.hok hn' hc',e0.bare⟩
  ·rw [vH fun hm=>?_];exact (e0.bs b o eb).2
   have h1:b<X.base.objs.size:=au eb;have h2:=I.ok.bsz;have h3:=hab b hm;exact absurd (ao h1 (aG h2 h3)) (aV _)
  ·rw [vH fun hm=>hfs b hm hb'];exact e0.frf b hb'
 refine ⟨HC,fun q hq=>by obtain ⟨v,o,u,a,b,_,d,g⟩:=hc q hq;exact ⟨v,o,u,a,b,d,g⟩,hn,e1,fun f us Q h=>?_⟩;refine wpAny_call (gx h fun rr s' hq=>?_);cases rr with
 |error e=>exact hq.elim
 |ok fl =>
  cases fl with
  |ret u =>
   obtain ⟨v,H',os,bare,un,hok,rv,he,q⟩:=hq;have he':∀c∈cs.map (·.2),H' c=HC c:=fun c hm=>by obtain ⟨q,hq,rfl⟩:=hin c hm;exact he q hq
   exact I.after ⟨v,_,os,bare,Un.hide un hn' hc' he' hfs hok,HOk.hide hok (fun c hm=>by obtain ⟨o,e2,_⟩:=hc' c hm;exact ⟨o,(he' c hm).trans e2⟩),rv,q⟩
  |next=>exact False.elim hq
  |brk=>exact False.elim hq
  |cont=>exact False.elim hq
theorem SE {pins:List (Addr×Obj)} {σ:St} {H:Hp} {s:Shared} {Q:VK} {us:List Value} {vs:List V} (F:FnOk X.prog X.w X.K X.mg X.base jK k f fd ps sp) (hr:Room k X.A) (hb:Binds X.K fd ps ds) (hd:Vals dvs ds) (hcs:fW X cs)
  (I:Inv X pins σ H s) (r:Vals vs us) (hv:∀q∈cs,∃v,σ[q.1]?=some (some v))
  (h:∀HC:Hp,(∀q∈cs,∃v o u,σ[q.1]?=some (some v)∧HC q.2=some (FnO q.2 o)∧o.data=.cell (some u)∧RelV v u)→(∀q∈cs,H q.2=none)→
   sp (vs++dvs) (qZ H HC (cs.map (·.2))) (fun v H'=>(∀q∈cs,H' q.2=HC q.2)∧Q v (kR H' (cs.map (·.2)))) E0):wpAny (model X.prog X.w) X.A (call (.ref f) us) (EP X pins σ Q) X.xe s:=by
 obtain ⟨HC,h1,h2,e1,fin⟩:=EX hcs I hv;have r2:Vals (vs++dvs) (us++ds):=r.append hd;have hs:=h HC h1 h2;have hl:(us++ds).length=ps.length:=by rw [← r2.length];exact F.len _ _ _ _ hs
 exact fin f us Q (F.run X.A X.stack s _ ⟨us,[]⟩ (us++ds) (vs++dvs) _ E0 hr e1 (hb s us I.kIn hl) r2 hs)
theorem sQ (F:Def X.prog X.w X.K X.mg X.base k x ps dvs sp) (hr:Room k' X.A) (hg:Gl X x) (hcs:fW X cs) (ha:PA X (e::es) t)
  (hk:k≤k':=by decide) (hdb:(x == ("__debug__":Str))=false:=by decide) (he:starEach (e::es) X.env=(false,eval e X.env)::starEach es X.env:=by rfl) (hpl:(backTo pos (starEach es X.env)).any (·.1)=false:=by rfl) :
  PE X (.Call (.Name x p) (e::es) [] pos) (TN cs sp dvs t):=by
 obtain ⟨f,fd,ds,G,m,kp,hv,b⟩:=F.ex;intro pins s σ H Q I h;refine cq (bR I hg m ?_ hdb);refine ei (h₀:=X.base) I.ok.mod.kin kp (jN (ha pos pins s σ H _ I h) fun us s1 ⟨vs,H1,I1,r,q1,q2⟩=>⟨I1.kIn,?_⟩) he hpl;exact SE G (hr.mono hk) b hv hcs I1 r q1 q2
end
section
variable {X:Cx} {pins:List (Addr×Obj)} {σ:List (Option V)} {H:Hp} {s:Shared}
theorem Inv.fnMade2 {P c:Addr} {ps more:Array Value} {h':Heap} {o oc:Obj} {t':Nat} (I:Inv X pins σ H s) (hP:H P=some (.tbl ps)) (hx:Heap.ExtBut P s.heap h') (hsz:s.heap.objs.size≤h'.objs.size) (hP':h'.get? P=some {cls:=.none,data:=.fields (ps++more)}) (hfr:o.isFreed=false)
  (hc1:s.heap.objs.size≤c) (hc2:h'.get? c=some oc) :
  Inv X pins σ (upd (upd (upd H P (.tbl (ps++more))) h'.objs.size (FnO h'.objs.size o)) c (FnO c oc)) {s with heap:=h'.push o,toks:=t'}:=by
 have J:=I.fnMade (o:=o) (t':=t') hP hx hsz hP' hfr;have hcP:c≠P:=fun z=>by have:=(I.hok P _ hP).lt;exact absurd (ao (z▸this) hc1) (aV _)
 have hcf:c≠h'.objs.size:=fun z=>absurd (au hc2) (by rw [z];exact aV _)
 have hg:(h'.push o).get? c=some oc:=aj _ hc2;have hHc:upd (upd H P (.tbl (ps++more))) h'.objs.size (FnO h'.objs.size o) c=none:=by
  rw [jH hcf,jH hcP];exact I.hok.fresh hc1
 have hns:∀b u,s.heap.get? b=some u→b≠c:=fun b u e z=>absurd (ao (z▸au e) hc1) (aV _)
 have hks:∀b u,X.s₀.heap.get? b=some u→b≠c:=fun b u e z=>by
  have h1:=au e;have h2:=I.sz;exact absurd (ao (ao (z▸h1) h2) hc1) (aV _)
 refine ⟨J.ok,J.os,J.bare,?_,J.loc,J.cell,?_,fun y d e=>?_,fun p hp=>?_,fun b u e=>?_,J.len⟩
 ·obtain ⟨k1,k2,k3,k4,k5,k6,k7⟩:=J.base;have ne:∀b v,H b=some v→b≠c:=fun b v e z=>absurd (ao (z▸(I.hok b v e).lt) hc1) (aV _)
  refine ⟨k1,k2,fun b ob e n hx'=>?_,k4,fun b xs e=>?_,fun b ob u e=>?_,fun b qs e=>?_⟩
  ·rw [jH (hks b ob e)];exact k3 b ob e n hx'
  ·rw [jH (ne b _ (I.base.tups b xs e))];exact k5 b xs e
  ·rw [jH (ne b _ (I.base.frzs b ob u e))];exact k6 b ob u e
  ·obtain ⟨more',e'⟩:=I.base.tbls b qs e;rw [jH (ne b _ e')];exact k7 b qs e
 ·rw [jH fun z=>?_];exact J.free
  have:=I.lt;exact absurd (ao (z▸this) hc1) (aV _)
 ·rw [jH fun z=>?_];exact J.freeC y d e
  obtain ⟨v,o',ho',_⟩:=I.cell y d e;exact hns d o' ho' z
 ·obtain ⟨a1,a2,a3,a4,a5⟩:=J.pin p hp;refine ⟨a1,?_,a3,a4,a5⟩;rw [jH fun z=>?_];exact a2
  exact hns p.1 _ (I.pin p hp).1 z
 ·by_cases z:b=c
  ·subst z;rw [jD] at e;cases e;exact FnO.ok hg
  ·rw [jH z] at e;refine (J.hok b u e).stay (fun _ _ _ q=>q) (fun d q=>?_) fun d xs q=>?_
   ·rw [jH fun z=>?_];exact q
    rw [z,hHc] at q;cases q
   ·rw [jH fun z=>?_];exact q
    rw [z,hHc] at q;cases q
def UW (i:Nat) (P:Addr) (pos:Pos) (qual:Str) (mk:Addr→Value→Value→Obj):TS:=fun D σ H=>∃ps,H P=some (.tbl ps)∧TriplesOk ps.toList∧codeAmong pos ps.toList=none∧
 ∀(f c':Addr) (ctv doc:Value) (oc:Obj),f≠P→c'≠P→c'≠f→H f=none→H c'=none→(∃vs t,oc.data=.fields vs∧vs[1]?=some (.str qual t))→
  D.nx (σ.set i (some (.ref f))) (upd (upd (upd H P (.tbl (ps++#[rawInt pos.line,rawInt pos.col,.ref c']))) f (FnO f (mk c' ctv doc))) c' (FnO c' oc))
theorem DH {i:Nat} {x qual:Str} {params:Arguments} {body:List Stmt} {scope:Scope} {pos:Pos} {c P:Addr} {clos:List (Str×Addr)} (hN:X.N.Nodup) (hi:X.N[i]?=some x) (hx:cS X.env.scope x)
  (hf:X.fn x=true∨X.env.scope.names.lookup x=some .local) (hd:defaultsOf params X.env=([],[])) (ha:annTrees params none X.env=[]) (hcl:closureFor scope X.env=pure clos) (hge:X.env.globals=mainGlobals)
  (hcode:X.env.code=.ref c) (hC:PySem.W.CodeHd X.base c P) (hgP:mainGlobals≠P) (hb:X.base.BuiltinsAt X.mg P) (hq:qualnameIn X.env x x=qual) :
  PS X (.FunctionDef x params body [] none [] scope none x pos) (UW i P pos qual fun c' ctv doc=>PySem.W.fnMade x qual params body scope clos doc ((X.mg "__name__").getD .none) c' ctv):=by
 intro pins s σ H D I h;obtain ⟨ps,hP,ht,hnf,q⟩:=h;have hPs:s.heap.get? P=some (PySem.W.tabObj ps):=I.hok P _ hP;rw [exec_def,hd,ha,hq];refine ac (ko (ac (cb ?_)));refine ac (am ?_);refine ac (cb (am ?_));refine cb ?_;refine ac (am ?_);refine PySem.W.makeFunction_K (mg:=X.mg) hcl hge (I.mod.glob.keeps I.bk) hcode (hC.keeps I.bk) hPs ht hnf hgP (hb.keeps I.bk) fun c' ctv doc h' tk hx' hge' hlt hrec htb=>?_
 have hsz:s.heap.objs.size≤h'.objs.size:=aG hge' (gj hlt);obtain ⟨c'',oc,fs,t,e,hoc,hoc2⟩:=hrec;cases e;refine ac (ko (ac (wpAny_bindName ?_)));have J:=I.fnMade2 (o:=PySem.W.fnMade x qual params body scope clos doc ((X.mg "__name__").getD .none) c' ctv) (t':=tk) hP hx' hsz htb rfl hge' hoc;have hPl:=au hPs;refine sK J hN hi hx (v:=.ref h'.objs.size) rfl (fun s2 I2=>am ?_) hf;exact ⟨_,_,I2,q _ c' ctv doc oc (fun z=>aV _ (z▸ao hPl hsz)) (fun z=>aV _ (ao (z▸hPl) hge')) (aF hlt) (I.hok.fresh hsz) (I.hok.fresh hge') ⟨fs,t,hoc2⟩⟩
end
def FG (s:Stmt) (j:Nat):Stmt:=(kD s).getD j (.Pass ⟨0,0,0,0⟩)
theorem mC {sc:Scope} {fr:List Str} (h:∀y∈sc.names,y.2=.free→y.1∈fr):∀x,sc.names.lookup x=some .free→x∈fr:=fun x e=>h _ (bi e) rfl
theorem QS {A:Around} {k:Nat} (hr:Room k A):A.units+9<cLine:=by have:=hr.units;omega
theorem QO {A:Around} {k:Nat} (hr:Room k A):A.units+10<cLine:=by have:=hr.units;omega
theorem tF {H:Hp} {cs:List Addr} (hc:Z3 H cs):∀a l,H a=some (.tup l)→kR H cs a=some (.tup l):=fun a l e=>by
 rw [vG];exact e
 intro hin;obtain ⟨o,e2⟩:=hc a hin;rw [e] at e2;cases e2
theorem mH {X:Cx} {i j:Nat} {c d:Addr} (h:∃y,X.N[i]?=some y∧X.env.scope.names.lookup y=some .cell∧X.env.cells.lookup y=some c∧X.fn y=true) (h2:∃y,X.N[j]?=some y∧X.env.scope.names.lookup y=some .cell∧X.env.cells.lookup y=some d∧X.fn y=true):fW X [(i,c),(j,d)]:=fun q hq=>by
 rcases ax.mp hq with rfl|hq
 ·exact h
 ·cases aA.mp hq;exact h2
section
variable {P:Program} {w:World} {K:PySem.W.Frag} {mg:Str→Option Value} {base:Heap}
theorem Fun.okC {x qual:Str} {st:Stmt} {f cL:Addr} {fd:FuncData} {N ps:List Str} {k:Nat} {sp:Sp} (F:Fun K x qual st f fd) (hcL:fd.code=.ref cL) (S:FnScope N ps (jM st)) (len:∀vs H Q E,sp vs H Q E→vs.length=ps.length)
  (hbody:∀(A:Around) (outer:List Env) (s:Shared) (H:Hp) (vs:List V) (Q:VK) (E:XK),Room k (A.deeper (envOfC qual (jM st) s.heap.objs.size f (.ref cL)))→sp vs H Q E→
   ∃t,PSs (vR jK P w K mg base N qual (jM st) f (.ref cL) A outer s H E).nox (kD st) t∧t {nx:=fun _ H'=>Q .non H',rt:=Q} (start N vs) H):FnOk P w K mg base jK (k+1) f fd ps sp:=by
 obtain ⟨oc,od,kV,doc,pm,an,cdv,ct,osl,rfl,lk,hcd⟩:=F.ex;obtain rfl:cdv=.ref cL:=hcL;refine mR lk hcd S len fun A outer s H vs Q E hr hsp=>?_
 obtain ⟨t,h,q⟩:=hbody A outer s H vs Q E hr hsp;exact ⟨t,h.nox,q⟩
end
section
variable {prog:Program} {w:World} {A:Around} {E:Value→Shared→Prop} {s:Shared} {d:Addr} {xs:List qK} {k:GK} {key v:Value}
theorem OV {Q:Value→Shared→Prop} (hu:A.units+9<cLine) (hkey:(GR s.heap k).1 key) (hk8:gd k≤8) (hd:(d == sysModules)=false) (hm:DictG w s.heap d xs) (q:∀n,Q (.bool (!(zO xs k).isSome)) {s with toks:=n}) :
  wpAny (model prog w) A (compareOp .NotIn key (.ref d)) Q E s:=by
 have T:=hm.typeIs;show wpAny _ A (do return .bool (!(← contains (.ref d) key))) Q E s;refine ac ?_;unfold contains;refine cb (ac (ig T slot_dict_contains.lookup ?_));show wpAny _ A (if (some (Value.builtin "dict.__contains__") == some Value.none)=true then _ else _) _ E s;rw [if_neg (by rw [beq_builtin_none];decide)];refine ac (wpAny_callSpecialUnlessNone?_slot (name:=Str.ofString "__contains__") T slot_dict_contains (en slot_dict_contains T entry_dict_contains ?_ (args_dict_contains _ _)));show wpAny _ A.in1 (dictGet d key >>= _) _ E s;refine ac (DU (by simp only [fi];omega) hkey hk8 hm fun n=>?_);have q':=q n;cases hg:zO xs k with
 |some u =>
  rw [hg] at q';show wpAny _ A.in1 (ret (.bool true)) _ E _;exact am ⟨_,rfl,di (am q')⟩
 |none =>
  rw [hg] at q';show wpAny _ A.in1 (Builtin.Dict.pendingKey? d key >>= _) _ E _;exact ac (wpAny_pendingKey_other hd (am ⟨_,rfl,di (am q')⟩))
theorem M8 (d:Addr) (hd:(d == sysModules)=false) :
  MeetsIn prog w (Builtin.«dict.__len__» ⟨[.ref d],[]⟩) (fun _ R s=>∃xs,DictG w s.heap d xs∧R (.ok (.ret (.int xs.length s.toks))) {s with toks:=s.toks+1}) :=
 .of_wp fun A R s ⟨xs,hm,h⟩=>by
  obtain ⟨o,es,ep,ho,hc,hdat,he⟩:=hm;show wpAny _ _ (dictSize d >>= _) _ _ s;unfold dictSize;refine ac (ac (wpAny_dictEntries ho hdat (am ?_)));show wpAny _ _ (Builtin.Dict.pendingCount d >>= _) _ _ s;refine ac (wpAny_pendingCount_other hd ?_);refine wpAny_ret_mkInt ?_;have:es.size=xs.length:=by rw [← bw,he.es,ae]
  rw [Nat.add_zero,this];exact h
theorem VB {Q:Value→Shared→Prop} (hd:(d == sysModules)=false) (hm:DictG w s.heap d xs) (hfit:(xs.length:Int)<2 ^ 63)
  (h:Q (.int xs.length (s.toks+1)) {s with toks:=s.toks+1+1}):wpAny (model prog w) A (call (.builtin "len") [.ref d]) Q E s:=by
 refine Calls.call_function_entry kind_len plain_len entry_len (args_len1 _) ?_;unfold Builtin.«len»;refine ac (m:=oneArg "len" _) (am ?_);refine ac (m:=callSpecial? (.ref d) (Str.ofString "__len__")) (bx (name:=Str.ofString "__len__") hm.typeIs PySem.F.slot_dict_len
  (call_meetsIn PySem.F.slot_dict_len hm.typeIs PySem.F.entry_dict_len (PySem.F.args_dict_len_1 _) (M8 d hd) ⟨xs,hm,?_⟩))
 show wpAny _ _ _ _ _ {s with toks:=s.toks+1};refine ac (cb (am ?_));refine ac (wpAny_letGo ?_);show wpAny _ _ (if ((xs.length:Nat):Int)<0 then _ else _) _ _ _;rw [if_neg (by omega)];show wpAny _ _ (if ((xs.length:Nat):Int)≥2 ^ 63 then _ else _) _ _ _;rw [if_neg (by omega)];exact ac (wpAny_mkInt (am ⟨_,rfl,h⟩))
end
section
variable {X:Cx} {pins:List (Addr×Obj)} {σ:St} {H:Hp} {s:Shared} {d:Addr} {k:GK} {y v:V} {u r:Value} {A:Around} {E:Value→Shared→Prop} {kvs:List qU}
theorem VH {Q:Unit→Shared→Prop} (hu:A.units+8<cLine) (I:Inv X pins σ H s) (e:H d=some (GO X.w d kvs)) (g:GOk H kvs) (hy:(GV H k).1 y) (h8:gd k≤8) (hl:kvs.length<sizeLine) (ry:RelV y u) (rv:RelV v r)
  (h:∀s',Inv X pins σ (upd H d (GO X.w d (vQ kvs k y v))) s'→Q () s'):wpAny (model X.prog X.w) A (dictSet d u r) Q E s:=by
 obtain ⟨_,hm,xs,rel,dd⟩:=I.gdict (.of e) g;refine DE hu ((GV.rel I.hok k).1 y u hy ry) h8 dd (by rw [← kn rel];omega) fun n h' dd' sb=>h _ ?_
 obtain ⟨o,es,ep,ho,hc,hd,he,_⟩:=dd';refine tU I (by rw [e];exact True.intro) sb ⟨o,ho⟩ ⟨⟨by have:=B8 kvs k y v;omega,hm,_,RelG.set ry rv rel,o,es,ep,ho,hc,hd,he⟩,⟨o,ho⟩,?_⟩;rintro h1 h2 ⟨a1,a2,xs',a3,o',es',ep',a4,a5⟩ kp;exact ⟨a1,a2,xs',a3,o',es',ep',kp _ a4,a5⟩
end
def R7 (w:World) (ty td:TE):TE:=fun σ H Q=>ty σ H fun y H1=>td σ H1 fun x H2=>∃(d:Addr) (kvs:List qU) (k:GK),x=.ref d∧Rd H2 d (GO w d kvs)∧GOk H2 kvs∧(GV H2 k).1 y∧gd k≤8∧Q (.bl (!(z3 kvs k).isSome)) H2
def TK (w:World) (tk tv:TE):TE:=fun σ H Q=>∀p,H p=none→tk σ (upd H p (GO w p [])) fun y H1=>tv σ H1 fun v H2=>H2 p=some (GO w p [])∧∃k,(GV H2 k).1 y∧gd k≤8∧Q (.ref p) (upd H2 p (GO w p [(k,y,v)]))
section
variable {X:Cx} {o i e value:Expr} {pos pos':Pos} {td ty tv:TE}
theorem AX (hu:X.A.units+9<cLine) (hi:PE X i ty) (ho:PE X o td):PC X .NotIn i o (R7 X.w ty td):=by
 intro pins s σ H Q I h;refine jN (hi pins s σ H _ I h) fun iv s1 ⟨y,H1,I1,ry,q1⟩=>jN (ho pins s1 σ H1 _ I1 q1) fun u s2 ⟨x,H2,I2,rx,d,kvs,k,ex,hd,g,hy,h8,q2⟩=>?_
 subst ex;obtain rfl:u=Value.ref d:=rx;obtain ⟨_,hm,xs,rel,dd⟩:=I2.gdict hd g;exact OV hu ((GV.rel I2.hok k).1 y iv hy ry) h8 hm dd fun n=>⟨.bl (!(z3 kvs k).isSome),H2,I2.tok n,by rw [RelG.none rel];rfl,q2⟩
theorem AE:yV X (.builtin "len") (fun xs H Q=>∃p kvs,xs=[.ref p]∧Rd H p (GO X.w p kvs)∧GOk H kvs∧Q (.int kvs.length) H):=by
 intro pins s σ H xs us Q I r h;obtain ⟨p,kvs,rfl,hd,g,q⟩:=h;obtain ⟨u,rfl,rx⟩:=ZI r;cases rx;obtain ⟨hz,hm,xs,rel,dd⟩:=I.gdict hd g;have hl:=kn rel;have hn:=ZV;exact VB hm dd (by omega) ⟨.int kvs.length,H,I.tok _,⟨s.toks+1,by rw [hl]⟩,q⟩
theorem CD {a b:Expr} {tk tv:TE} (hu:X.A.units+9<cLine) (hk:PE X a tk) (hv:PE X b tv):PE X (.Dict [some a] [b] pos) (TK X.w tk tv):=by
 intro pins s σ H Q I h;have hn:=I.hok.fresh (ar s.heap.objs.size);have I1:=I.laid (a:=s.heap.objs.size) (o:=GO X.w s.heap.objs.size []) (h':=s.heap.push {cls:=.type "dict",data:=.dict #[]}) (t':=s.toks) (fun _ _ q=>aj _ q) (ar _)
  ⟨⟨aY _,bo.mpr (Ne.symm (aF I.big)),[],.nil,_,#[],0,az _ rfl,⟨rfl,rfl,rfl⟩,rfl,rfl⟩,⟨_,az _ rfl⟩,
   fun h1 h2 ⟨a1,a2,xs',a3,o',es',ep',a4,a5⟩ kp=>⟨a1,a2,xs',a3,o',es',ep',kp _ a4,a5⟩⟩
 refine wpAny_Dict_any rfl rfl (List.cons_ne_nil _ _) (show 1≤15 by decide) (jN (fM (pos:=pos) hk hv DI pins _ σ _ (fun ps H2=>match ps with|[(y,v)]=>H2 s.heap.objs.size=some (GO X.w s.heap.objs.size [])∧∃k,(GV H2 k).1 y∧gd k≤8∧Q (.ref s.heap.objs.size) (upd H2 s.heap.objs.size (GO X.w s.heap.objs.size [(k,y,v)]))|_=>False) I1 ?_) fun ws s2 ⟨ps,H2,I2,rel,hq⟩=>?_)
 ·have h1:=h _ hn;exact h1
 cases rel with
 |nil=>exact (show False from hq).elim
 |@cons x b xs bs r rel =>
  cases rel with
  |cons r2 rel2=>exact (show False from hq).elim
  |nil =>
   obtain ⟨y,v⟩:=x;obtain ⟨e,k,hy,h8,q2⟩:=hq;show wpAny _ _ (storeAll s.heap.objs.size [b]) _ _ _;unfold storeAll;simp only [gk,List.forIn_nil];refine ac (ac (VH (by omega) I2 e GOk.nil hy h8 (by rw [kr];decide) r.1 r.2 fun s3 I3=>am ?_));exact am ⟨.ref s.heap.objs.size,_,I3,rfl,q2⟩
end
section
variable {X:Cx} {o i:Expr} {pos:Pos} {td ty:TE}
end
def V7 (K:PySem.W.Frag) (neg:Bool):R2:=fun x y H Q=>∃(p:Addr) (xs:List V) (k:GK) (ks:List GK),y=.ref p∧SqL K H p xs∧(GV H k).1 x∧gd k≤8∧(xs.length=ks.length∧∀(i:Nat) z,xs[i]?=some z→∃k',ks[i]?=some k'∧(GV H k').1 z∧gd k'≤8)∧Q (.bl (if neg then !decide (k∈ks) else decide (k∈ks))) H
section
variable {X:Cx} {pins:List (Addr×Obj)} {σ:St} {H:Hp} {s:Shared}
open Classical in
theorem RY {k:GK} {xs:List V} {ks:List GK} {its:List Value} (I:Inv X pins σ H s) (r:Vals xs its) (hk:xs.length=ks.length∧∀(i:Nat) z,xs[i]?=some z→∃k',ks[i]?=some k'∧(GV H k').1 z∧gd k'≤8) :
  its.any (fun y=>decide ((GR s.heap k).1 y))=decide (k∈ks):=by
 have hl:=r.length;rw [fu];simp only [fb,ff];constructor
 ·rintro ⟨w,hw,he⟩;obtain ⟨i,hi⟩:=aQ.mp hw;have hlt:i<xs.length:=by rw [hl];exact (ad.mp hi).1
  obtain ⟨k',e1,e2,_⟩:=hk.2 i _ (aa hlt);obtain ⟨u,hu,rv⟩:=r.get (aa hlt);rw [hi] at hu;cases hu
  rw [← (GR.inj k' k).1 w ((GV.rel I.hok k').1 _ _ e2 rv) he];exact ai e1
 ·intro hm;obtain ⟨i,hi⟩:=aQ.mp hm;have hlt:i<xs.length:=by rw [hk.1];exact (ad.mp hi).1
  obtain ⟨k',e1,e2,_⟩:=hk.2 i _ (aa hlt);rw [hi] at e1;cases e1
  obtain ⟨u,hu,rv⟩:=r.get (aa hlt);exact ⟨u,ai hu,(GV.rel I.hok k).1 _ _ e2 rv⟩
open Classical in
theorem S9 {k:GK} {x:V} {v:Value} {xs:List V} {ks:List GK} {its:List Value} {A:Around} (hu:A.units+9<cLine) (I:Inv X pins σ H s) (r:Vals xs its) (hx:(GV H k).1 x) (rx:RelV x v) (hk:xs.length=ks.length∧∀(i:Nat) z,xs[i]?=some z→∃k',ks[i]?=some k'∧(GV H k').1 z∧gd k'≤8) :
  ∀y,y∈its.toArray→SeqAt.EqAt A s y v (decide ((GR s.heap k).1 y)):=by
 intro y hy;have hl:=r.length;obtain ⟨i,hi⟩:=aQ.mp (by simpa using hy:y∈its);have hlt:i<xs.length:=by rw [hl];exact (ad.mp hi).1
 obtain ⟨k',e1,e2,e3⟩:=hk.2 i _ (aa hlt);obtain ⟨u,hu',rv⟩:=r.get (aa hlt);rw [hi] at hu';cases hu'
 have g1:=(GV.rel I.hok k').1 _ _ e2 rv;have g2:=(GV.rel I.hok k).1 _ _ hx rx;have:=(mF k' k).1 A _ _ g1 g2 (by omega);have e:decide ((GR s.heap k).1 y)=decide (k'=k):=by
  by_cases h:k'=k
  ·subst h;simp [g1]
  ·have:¬(GR s.heap k).1 y:=fun z=>h ((GR.inj k' k).1 y g1 z)
   simp [h,this]
 rw [e];exact this
open Classical in
theorem OT (hu:X.A.units+10<cLine):qT X (compareOp .NotIn) (V7 X.K true):=by
 intro pins s σ H x y v u Q I rx ry h;obtain ⟨p,xs,k,ks,rfl,hq,hx,h8,hk,q⟩:=h;cases ry;obtain ⟨its,r,pl,hz⟩:=I.list hq;refine SeqAt.notIn_listAt (fun y=>decide ((GR s.heap k).1 y)) pl.isList (S9 (by simp only [fi];omega) I r hx rx hk) ⟨.bl _,H,I,rfl,?_⟩;rw [show its.toArray.any (fun y=>decide ((GR s.heap k).1 y))=its.any (fun y=>decide ((GR s.heap k).1 y)) by simp,RY I r hk];exact q
end
theorem OW:typeLookup (.type "list_reverseiterator") "__len__"=pure none:=by rw [typeLookup_type,builtinLookup_eq_fast];kernel_rfl
theorem RJ:typeLookup (.type "list_reverseiterator") "__length_hint__"=pure (some (.builtin "list_reverseiterator.__length_hint__")):=by rw [typeLookup_type,builtinLookup_eq_fast];kernel_rfl
section
variable {prog:Program} {w:World} {A:Around} {s:Shared} {E:Value→Shared→Prop}
theorem NL {R:Result→Shared→Prop} (hh:A.handled=none) {I l S:Addr} {items:Array Value} (hne:l≠I) (hSI:S≠I) (hSl:S≠l) (hn:items.size≤sizeLine) (res:Value) (c₀:Nat) (hit:s.heap.IsRevIter I l ((items.size:Int) - 1)) (hl:s.heap.IsList l items)
  (hS:s.heap.get? S=some {cls:=.type "list",data:=.seq #[] c₀})
  (q:∀s' acc' c',Moved [S,I] (fun a b=>b=a) s s'→s'.heap.get? S=some {cls:=.type "list",dict:=none,data:=.seq acc' c',slots := #[]}→ItemsOf (fun i v=>items[items.size - 1 - i]?=some v) acc' items.size→R (.ok (.ret res)) s') :
  wpAny (model prog w) A.in1 (Builtin.List.listExtendWith (.ref S) (.ref I) res)
   (fun fin s'=>match fin with|.done f=>R (.ok f) s'|.again c'=>c'.quiet=true∧codeAny (model prog w) A c' R s') (fun e s'=>R (.error e) s') s:=by
 have W:=(Walks.listRev (prog:=prog) (w:=w) (A:=A.in1) (by simp [hh]) I l hne items).toS;have hT:s.TypeIs (.ref I) "list_reverseiterator":=hit.typeIs;have h1:Builtin.List.listSameRef (.ref S) (.ref I)=false:=by simp [Builtin.List.listSameRef,hSI]
 have e:(items.size:Int) - 1 - ((0:Nat):Int)=(items.size:Int) - 1:=by omega
 have hst:0≤items.size∧s.heap.IsRevIter I l ((items.size:Int) - 1 - ((0:Nat):Int))∧s.heap.IsList l items:=⟨aY _,by rw [e];exact hit,hl⟩;unfold Builtin.List.listExtendWith;refine ac (wpAny_typeOf hT ?_);rw [if_neg (by rw [h1];decide)];refine ac (W.self 0 _ _ _ hst ?_);refine ac (cb ?_);unfold Builtin.List.listLengthHint;refine ac (ig hT OW ?_);show wpAny _ A.in1 (specialOf (Value.ref I) (Str.ofString "__length_hint__") >>= _) _ _ _;refine ac (ig hT RJ ?_)
 (generalize hid:("list_reverseiterator.__length_hint__":String)=id0;(fail_if_success (clear hid id0));wp_delta;rw [show splitId id0=some ("list_reverseiterator","__length_hint__") from by subst hid;decide +kernel];subst hid)
 refine ac (ka (b:=true) hT (by rw [isSubtype_type];kernel_rfl) ?_);refine am ?_;rw [if_neg (by decide)];refine am ⟨plainId_quiet F.plain_extend_loop _,codeAny_extend_loopS W hn S (by simp [hSI,hSl]) res items.size 0 _ #[] c₀ rfl (aY _) hst hS (ItemsOf.nil _) fun s' acc' c' hm hS' hacc=>q s' acc' c' hm hS' hacc⟩
theorem MT {Q:Value→Shared→Prop} (hh:A.handled=none) {I l:Addr} {items:Array Value} (hne:l≠I) (hn:items.size≤sizeLine) (hit:s.heap.IsRevIter I l ((items.size:Int) - 1)) (hl:s.heap.IsList l items)
  (q:∀s' acc' c',Moved [s.heap.objs.size,I] (fun a b=>b=a) s s'→s'.heap.get? s.heap.objs.size=some {cls:=.type "list",dict:=none,data:=.seq acc' c',slots := #[]}→ItemsOf (fun i v=>items[items.size - 1 - i]?=some v) acc' items.size→Q (.ref s.heap.objs.size) s') :
  wpAny (model prog w) A (call (.type "list") [.ref I]) Q E s:=by
 have lI:I<s.heap.objs.size:=by obtain ⟨o,ho,_⟩:=hit;exact au ho
 have ll:l<s.heap.objs.size:=by obtain ⟨o,ho,_⟩:=hl;exact au ho
 refine callType_codes (Q₁:=fun obj s₁=>obj=.ref s.heap.objs.size∧s₁={s with heap:=s.heap.push {cls:=.type "list",data:=.seq #[]}}) F.called_list (F.typeCall_list_1 _) F.entry_list_init (code_list_new _ ⟨rfl,rfl⟩) fun obj s₁ e₁=>?_
 obtain ⟨rfl,rfl⟩:=e₁;have g1:(s.heap.push {cls:=.type "list",data:=.seq #[]}).get? s.heap.objs.size=some {cls:=.type "list",data:=.seq #[]}:=az _ rfl;have kp0:∀d o,s.heap.get? d=some o→(s.heap.push {cls:=.type "list",data:=.seq #[]}).get? d=some o:=fun d o e=>aj _ e
 refine ⟨⟨_,g1,rfl⟩,F.args_list_init_2 _ _,?_⟩;show wpAny _ _ (do let old ← Builtin.List.listItems (.ref s.heap.objs.size);Builtin.List.listUpdate (.ref s.heap.objs.size) (fun _ => #[]);letGo old.toList.reverse;Builtin.List.listExtendWith (.ref s.heap.objs.size) (.ref I) .none) _ _ _;refine ac ?_;unfold Builtin.List.listItems;refine ac (dw g1 rfl (am ?_));show wpAny _ _ (updateSeq s.heap.objs.size (fun _ => #[]) >>= fun _=>letGo (#[]:Array Value).toList.reverse >>= fun _=>Builtin.List.listExtendWith (.ref s.heap.objs.size) (.ref I) .none) _ _ _;refine ac (wpAny_updateSeq g1 rfl ?_);have g2:=fk (Obj.mapSeq (fun _=>(#[]:Array Value))) g1 rfl;have kq:∀d o,d≠s.heap.objs.size→s.heap.get? d=some o→((s.heap.push {cls:=.type "list",data:=.seq #[]}).update s.heap.objs.size (Obj.mapSeq (fun _=>(#[]:Array Value)))).get? d=some o:=fun d o hd e=>(io _ _ (Ne.symm hd)).trans (kp0 d o e)
 refine ac (wpAny_letGo ?_);refine NL (A:=A.in1) (by simp [hh]) hne (ec lI) (ec ll) hn .none _ (hit.at fun o e=>kq _ o (aF lI) e) (hl.at fun o e=>kq _ o (aF ll) e) g2 fun s' acc' c' hm hS' hp=>⟨rfl,q s' acc' c' ⟨fun b o hb e=>hm.heap b o hb (kq b o (fun z=>hb (by rw [z];simp)) e),hm.gens,hm.drawn,hm.os,hm.toks⟩ hS' hp⟩
end
section
variable {X:Cx}
def PP (K:PySem.W.Frag) (ta:TA):TE:=fun σ H Q=>ta σ H fun vs H1=>∃(a:Addr) (xs:List V),vs=[.ref a]∧SqL K H1 a xs∧∀l,H1 l=none→Q (.ref l) (upd H1 l (.lst xs.reverse))
theorem MV:bootBuiltins "reversed"=some (.type "reversed"):=by kernel_rfl
theorem NP {a:Expr} {ta:TA} {p p1 pos pos1:Pos} (hc:X.calm=true) (hgl:Gl X "list") (hml:X.mg "list"=none) (hg:Gl X "reversed") (hm:X.mg "reversed"=none) (ha:PA X [a] ta) (hs:starEach [a] X.env=[(false,eval a X.env)]:=by rfl)
  (hs3:starEach [.Call (.Name "reversed" p1) [a] [] pos1] X.env=[(false,eval (.Call (.Name "reversed" p1) [a] [] pos1) X.env)]:=by rfl) :
  PE X (.Call (.Name "list" p) [.Call (.Name "reversed" p1) [a] [] pos1] [] pos) (PP X.K ta):=by
 intro pins s σ H Q I h;refine cq (ZF I hgl hml aW ?_);refine bq ?_ hs3 rfl;rw [hs3];show wpAny _ _ (spliced [(false,eval (.Call (.Name "reversed" p1) [a] [] pos1) X.env)]) _ _ s;refine Calls.spliced_cons ?_;refine Call_ (ZF I hg hm MV (bq (jN (ha pos1 pins s σ H _ I h) fun us s1 ⟨vs,H1,I1,r1,q1⟩=>?_) (by rw [hs];rfl) rfl));obtain ⟨a1,xs,e,hq1,q⟩:=q1;subst e;obtain ⟨u,rfl,rx⟩:=ZI r1;cases rx;obtain ⟨its,rv,pl,z1⟩:=I1.list hq1;have hlen:=rv.length;have lt1:a1<s1.heap.objs.size:=by obtain ⟨o,e,_⟩:=pl.isList;exact au e
 refine call_reversed_list pl.isList ?_;refine Calls.spliced_nil ?_;refine MT (items:=its.toArray) (I.ok.hd hc) (aF lt1) (by rw [ak];omega) ⟨_,az _ rfl,rfl,rfl⟩ (pl.isList.at fun o e=>aj _ e) fun s' acc c hmv hS hit=>?_
 have e8:s'={s1 with heap:=s'.heap,toks:=s'.toks}:=by
  have hg:=hmv.gens;have hd:=hmv.drawn;have ho:=hmv.os;cases s';cases s1;simp only at hg hd ho;subst hg hd ho;rfl
 have ea:acc.toList=its.reverse:=by
  refine List.ext_getElem? fun j=>?_
  have hsz:acc.size=its.length:=by rw [hit.1,ak]
  by_cases hj:j<its.length
  ·have hja:j<acc.size:=by rw [hsz];exact hj
   have h1:=hit.2 j _ (dz hja);rw [ak] at h1;rw [fm hj,Array.getElem?_toList,dz hja,← h1];simp
  ·rw [da (by rw [bw,hsz];omega),da (by rw [dq];omega)]
 have kp:∀b u,s1.heap.get? b=some u→s'.heap.get? b=some u:=fun b u e=>by
  refine hmv.heap b u (fun hb=>?_) (aj _ e);have:=au e;simp only [ax,aM,dh,cg] at hb
  rcases hb with rfl|rfl
  ·exact absurd this (by simp only [Addr] at *;omega)
  ·exact absurd this (aV _)
 rw [e8];have hle:s1.heap.objs.size≤(s1.heap.push (revObj a1 ((its.toArray.size:Int) - 1))).objs.size:=by rw [cg];exact kt _
 refine ⟨.ref _,_,I1.laid (o:=.lst xs.reverse) kp hle ⟨by rw [dq];exact z1,its.reverse,c,rv.reverse,?_⟩,rfl,q _ (I1.hok.fresh hle)⟩;rw [← ea];exact hS
end
section
variable {prog:Program} {w:World} {A:Around} {E:Value→Shared→Prop} {s:Shared} {d it:Addr} {xs:List qK} {o:Obj} {es:Array DictEntry} {i ep:Nat}
end
section
variable {X:Cx} {tg:Expr}
end
section
variable {X:Cx} {pins:List (Addr×Obj)} {σ:St} {H:Hp} {s:Shared}
theorem CY (n:Nat):(List.range n).all (fun _=>true)=true:=by simp
end
structure CellsAt (H:Hp) (cl:List (Str×Addr)) (fvs:List V):Prop where
 once:(cl.map (·.2)).Nodup
 len:fvs.length=cl.length
 cell:∀(i:Nat) (x:Str) (c:Addr) (v:V),cl[i]?=some (x,c)→fvs[i]?=some v→∃o u,H c=some (FnO c o)∧o.data=.cell (some u)∧RelV v u
theorem CellsAt.of {H:Hp} {cl:List (Str×Addr)} {fvs:List V} (C:CellsAt H cl fvs) {x:Str} {c:Addr} (h:(x,c)∈cl):∃o u,H c=some (FnO c o)∧o.data=.cell (some u):=by
 obtain ⟨i,hi⟩:=aQ.mp h;have hlt:i<fvs.length:=by rw [C.len];exact (ad.mp hi).1
 obtain ⟨o,u,e,e2,_⟩:=C.cell i x c _ hi (aa hlt);exact ⟨o,u,e,e2⟩
theorem CellsAt.cells {H:Hp} {cl:List (Str×Addr)} {fvs:List V} (C:CellsAt H cl fvs):Z3 H (cl.map (·.2)):=fun c hc=>by
 obtain ⟨⟨x,c'⟩,hm,rfl⟩:=aw.mp hc;obtain ⟨o,_,e,_⟩:=C.of hm;exact ⟨o,e⟩
structure LamAt (H:Hp) (f:Addr) (qual:Str) (params:Arguments) (body:Expr) (scope:Scope) (cl:List (Str×Addr)) (cdv:Value):Prop where
 fn:∃fo name pm ct,H f=some (FnO f fo)∧fo.data=.func (PySem.W.kla_fn name qual params body scope cl pm cdv ct)
 code:∃c oc vs t,cdv=.ref c∧H c=some (FnO c oc)∧oc.data=.fields vs∧vs[1]?=some (.str qual t)
structure LamScope (b:Bool) (N:List Str) (x:Str) (fr:List Str) (sc:Scope):Prop where
 kind:sc.kind=.function
 co:sc.isCoroutine=false
 gen:sc.isGenerator=false
 nd:N.Nodup
 pre:N.take (fr.length+1)=x::fr
 par:sc.names.lookup x=some (if b then .cell else .local)
 fre:∀y∈fr,sc.names.lookup y=some .free
 onl:∀y,sc.names.lookup y=some .free→y∈fr
 noc:if b then ∃rest,sc.names=(x,.cell)::rest∧∀y∈rest,y.2≠.cell else ∀y∈sc.names,y.2≠.cell
def qY (b:Bool) (x:Str) (n:Addr) (cl:List (Str×Addr)):List (Str×Addr):=if b then (x,n+1)::cl else cl
theorem tD:∀{rest:List (Str×NameKind)},(∀y∈rest,y.2≠.cell)→∀(n:Nat) (acc:List (Str×Addr)) (h:Heap),cellsFrom n rest acc=acc∧pushCells h rest=h
 |[],_,_,_,_=>⟨rfl,rfl⟩
 | (y,k)::r,hr,n,acc,h=>by
  have hk:(k == NameKind.cell)=false:=by simpa using hr (y,k) aH
  have:=tD (fun z hz=>hr z (ay _ hz)) n acc h;unfold cellsFrom pushCells;rw [hk];exact this
section
variable {M:Model} {A:Around} {E:Value→Shared→Prop} {s:Shared}
theorem E6 {scope:Scope} {globals:Addr} {closure:List (Str×Addr)} {x:Str} {u:Value} {qual:Str} {func:Option Addr} {code:Value} {builtins:Addr} {Q:Env→Shared→Prop} {rest:List (Str×NameKind)}
  (hn:scope.names=(x,.cell)::rest) (hr:∀y∈rest,y.2≠.cell) (hk:scope.kind=.function)
  (hQ:∀h',h'.Ns s.heap.objs.size (fun _=>none)→h'.IsCell (s.heap.objs.size+1) (some u)→(∀b o,s.heap.get? b=some o→h'.get? b=some o)→
   Q (newEnv scope s.heap.objs.size globals ((x,s.heap.objs.size+1)::closure) qual func code none builtins) {s with heap:=h'}) :
  wpAny M A (newFunctionEnv scope globals closure [(x,u)] qual func code none builtins) Q E s:=by
 simp only [newFunctionEnv,Option.isSome_none,Bool.false_eq_true,if_false];refine ac (wpAny_alloc ?_);refine ac (wpAny_layCells _ (fun name kind cells=>by cases hkc:kind == NameKind.cell<;>simp [hkc]) _ _ _ _ ?_);have e1:cellsFrom (s.heap.push {cls:=.type "frame",data:=.dict #[]}).objs.size scope.names closure=(x,s.heap.objs.size+1)::closure:=by
  rw [hn,cg];exact (tD hr _ _ s.heap).1
 have e2:pushCells (s.heap.push {cls:=.type "frame",data:=.dict #[]}) scope.names=(s.heap.push {cls:=.type "frame",data:=.dict #[]}).push {cls:=.type "cell",data:=.cell none}:=by
  rw [hn];exact (tD hr 0 [] _).2
 show wpAny M A (do
  forIn [(x,u)] PUnit.unit fun p _=>_
  pure _) Q E _
 simp only [e1,e2];have hc:((s.heap.push {cls:=.type "frame",data:=.dict #[]}).push {cls:=.type "cell",data:=.cell none}).IsCell (s.heap.objs.size+1) none:=⟨_,by have:=az (s.heap.push {cls:=.type "frame",data:=.dict #[]}) (o:={cls:=.type "cell",data:=.cell none}) rfl;rw [cg] at this;exact this,rfl⟩;rw [gk];refine ac (ac (ac (wpAny_storeName_cell (c:=s.heap.objs.size+1) hk ?_ ?_ hc fun h' hc' hs'=>am ?_)))
 ·show scope.names.lookup x=some .cell;rw [hn,aS,ci]
 ·show List.lookup x ((x,s.heap.objs.size+1)::closure)=_;rw [aS,ci]
 ·dsimp only
  rw [List.forIn_nil];refine am (am (hQ h' ?_ hc' fun b o e=>?_))
  ·exact (((Heap.Ns.new s.heap (.type "frame")).push _).sameBut hs' (aF (ek _)))
  ·exact hs'.extBut b o (aF (Nat.lt_succ_of_lt (au e))) (aj _ (aj _ e))
end
section
variable {P:Program} {w:World} {H H':Hp} {h:Heap} {cs:List Addr}
theorem HOk.hideN (x:HOk P w H h) (hc:∀c∈cs,H c=none∨∃o,H c=some (FnO c o)):HOk P w (kR H cs) h:=fun b u e=>by
 by_cases hb:b∈cs
 ·rw [ZB hb] at e;cases e
 ·rw [vG hb] at e;have no:∀c v,H c=some v→(∀o,v≠FnO c o)→c∉cs:=fun c v q n hin=>by
   rcases hc c hin with z|⟨o,z⟩
   ·rw [q] at z;cases z
   ·rw [q] at z;cases z;exact n o rfl
  refine (x b u e).stay (fun _ _ _ q=>q) (fun c q=>?_) fun c xs q=>?_
  ·rw [vG (no c _ q fun _ z=>nomatch z)];exact q
  ·rw [vG (no c _ q fun _ z=>nomatch z)];exact q
theorem DZ {n:Addr} (hn:H n=none):kR H (n::cs)=kR H cs:=by
 funext b
 by_cases hb:b∈cs
 ·rw [ZB hb,ZB (ay _ hb)]
 ·rw [vG hb]
  by_cases z:b=n
  ·subst z;rw [ZB aH,hn]
  ·rw [vG (by simp [z,hb])]
end
section
variable {CX:vS} {P:Program} {w:World} {K:PySem.W.Frag} {mg:Str→Option Value} {base:Heap} {N fr:List Str} {x:Str} {b:Bool} {qual:Str} {params:Arguments} {body:Expr} {scope:Scope} {f:Addr} {cdv:Value} {cl:List (Str×Addr)} {A:Around} {outer:List Env} {s:Shared} {H:Hp} {E:XK} {Q:VK} {u:Value} {v:V} {fvs:List V} {k:Nat} {args:Args}
theorem DR {h1:Heap} {tk:Nat} {m:Str→Option Value} (S:LamScope b N x fr scope) (hd:A.handled=none) (e0:Env0 P w K mg base A outer s H) (r:RelV v u) (C:CellsAt H cl fvs) (hcl:cl.map (·.1)=fr)
  (hns:h1.Ns s.heap.objs.size m) (hm:b=false→m x=some u) (hC:b=true→h1.IsCell (s.heap.objs.size+1) (some u)) (hk:∀b o,s.heap.get? b=some o→h1.get? b=some o) :
  Inv (cC CX P w K mg base N qual scope f cdv (qY b x s.heap.objs.size cl) A outer s H E) [] (start N (v::fvs)) (kR H ((qY b x s.heap.objs.size cl).map (·.2))) {s with heap:=h1,toks:=tk}:=by
 have hlen:cl.length=fr.length:=by rw [← hcl,ae]
 have hpl:fr.length+1≤N.length:=by have:=cp List.length S.pre;rw [db,aZ] at this;omega
 have ndF:(x::fr).Nodup:=by rw [← S.pre];exact S.nd.sublist (ir _ _)
 have ndC:(cl.map (·.1)).Nodup:=by rw [hcl];exact (bc.mp ndF).2
 have fresh:∀c,s.heap.objs.size≤c→H c=none:=fun c hc=>e0.hok.fresh hc
 have low:∀y c,(y,c)∈cl→c<s.heap.objs.size:=fun y c h=>by
  obtain ⟨o,_,e,_⟩:=C.of h;exact au (FnO.get e0.hok e)
 have own:∀y c,(y,c)∈qY b x s.heap.objs.size cl→(y=x∧c=s.heap.objs.size+1∧b=true)∨(y,c)∈cl:=fun y c h=>by
  unfold qY at h;cases b with
  |true =>
   rcases ax.mp h with e|h
   ·cases e;exact .inl ⟨rfl,rfl,rfl⟩
   ·exact .inr h
  |false=>exact .inr h
 have lookC:∀y c,(y,c)∈cl→(qY b x s.heap.objs.size cl).lookup y=some c:=fun y c h=>by
  have h1:=lookup_of_mem_nodup ndC h;unfold qY;cases b with
  |true =>
   have:(y == x)=false:=bo.mpr fun z=>(bc.mp ndF).1 (by rw [← hcl,← z];exact aw.mpr ⟨_,h,rfl⟩)
   show List.lookup y ((x,_)::cl)=_;rw [aS,this];exact h1
  |false=>exact h1
 have hcs:∀c∈(qY b x s.heap.objs.size cl).map (·.2),H c=none∨∃o,H c=some (FnO c o):=fun c hc=>by
  obtain ⟨⟨y,c'⟩,hm,rfl⟩:=aw.mp hc
  rcases own y c' hm with ⟨_,rfl,_⟩|h
  ·exact .inl (fresh _ (kt _))
  ·obtain ⟨o,_,e,_⟩:=C.of h;exact .inr ⟨o,e⟩
 have del0:∀b',H b'=none→kR H ((qY b x s.heap.objs.size cl).map (·.2)) b'=none:=fun b' n=>by unfold kR;split;rfl;exact n
 have noA:∀b':Addr,b'∉(cC CX P w K mg base N qual scope f cdv (qY b x s.heap.objs.size cl) A outer s H E).ex:=fun b' z=>absurd (show b'∈([]:List Addr) from z) (by simp)
 have once:((qY b x s.heap.objs.size cl).map (·.2)).Nodup:=by
  unfold qY;cases b with
  |true =>
   refine bc.mpr ⟨fun h=>?_,C.once⟩;obtain ⟨⟨y,c⟩,hm,e⟩:=aw.mp h;have:=low y c hm;have e':c=s.heap.objs.size+1:=e;rw [e'] at this;exact absurd (Nat.lt_trans (ek _) this) (aV _)
  |false=>exact C.once
 refine ⟨⟨e0.mod,S.kind,rfl,rfl,ar _,fun y z c h1 h2=>P3 once h1 h2,fun y hy=>?_,fun y c q=>(nomatch q),fun _=>hd,Around.frames_deeper e0.frames,.inr ⟨rfl,rfl⟩,fun b z=>absurd z (noA b),fun b o e=>⟨(e0.bs b o e).1,del0 b (e0.bs b o e).2⟩,e0.bsz,fun b _ _=>noA b,fun b z=>absurd z (noA b),e0.funs,fun b hb=>del0 b (e0.frf b hb)⟩,
  rfl,e0.bare,Un.kept hk,⟨_,hns,fun i y v' h1 h2 h3=>?_⟩,fun y c h=>?_,del0 _ (fresh _ (ar _)),fun y c h=>ZB (aw.mpr ⟨_,bi h,rfl⟩),fun p hp=>absurd (show p∈([]:List (Addr×Obj)) from hp) (by simp),(e0.hok.hideN hcs).kept hk,?_⟩
 ·have hy2:scope.names.lookup y=some .cell∨scope.names.lookup y=some .free:=hy;clear hy
  rcases hy2 with hy|hy
  ·have hnoc:=S.noc;cases b with
   |true =>
    obtain ⟨rest,e,hr⟩:=hnoc;rw [e,aS] at hy
    by_cases z:y=x
    ·exact ⟨_,by show List.lookup y ((x,_)::cl)=_;rw [aS,z,ci]⟩
    ·rw [bo.mpr z] at hy;exact absurd rfl (hr _ (bi hy))
   |false=>exact absurd rfl (hnoc _ (bi hy))
  ·have:=S.onl y hy;rw [← hcl] at this;obtain ⟨⟨y',c⟩,hm,rfl⟩:=aw.mp this;exact ⟨c,lookC _ _ hm⟩
 ·have hi:i<(v::fvs).length:=by
   unfold start at h2
   by_cases hi:i<(v::fvs).length
   ·exact hi
   ·rw [ap (by simpa using hi),ga] at h2
    split at h2<;>cases h2
  have ha:(v::fvs)[i]?=some v':=by
   unfold start at h2;rw [aq (by simpa using hi),av] at h2;cases e:(v::fvs)[i]? with
   |none=>rw [e] at h2;cases h2
   |some a=>rw [e] at h2;cases h2;rfl
  have hp:(x::fr)[i]?=some y:=by
   rw [← S.pre,List.getElem?_take_of_lt (by rw [aZ,C.len,hlen] at hi;exact hi)];exact h1
  cases i with
  |zero =>
   cases hp;cases ha;refine ⟨u,r,?_⟩;have hpar:=S.par;cases b with
   |true=>exact .inr ⟨.inl hpar,_,by show List.lookup x ((x,_)::cl)=_;rw [aS,ci],hC rfl⟩
   |false=>exact .inl ⟨hpar,hm rfl⟩
  |succ i =>
   rw [List.getElem?_cons_succ] at hp ha;rw [← hcl,av] at hp;obtain ⟨⟨y',c⟩,hc,rfl⟩:=ge.mp hp;obtain ⟨o,u',e,e2,rv⟩:=C.cell _ y' c v' hc ha;refine ⟨u',rv,.inr ⟨.inr (S.fre y' ?_),c,lookC _ _ (ai hc),o,hk _ _ (FnO.get e0.hok e),e2⟩⟩;rw [← hcl];exact aw.mpr ⟨_,ai hc,rfl⟩
 ·rcases own y c (bi h) with ⟨_,rfl,hb⟩|h
  ·exact ⟨_,hC hb⟩
  ·obtain ⟨o,u',e,e2⟩:=C.of h;exact ⟨some u',o,hk _ _ (FnO.get e0.hok e),e2⟩
 ·unfold start;show _=N.length;rw [ag,ae,eh,aZ,C.len,hlen];omega
theorem SY (S:LamScope b N x fr scope) (hr:Room (k+1) A) (e0:Env0 P w K mg base A outer s H) (r:RelV v u) (L:LamAt H f qual params body scope cl cdv) (C:CellsAt H cl fvs) (hcl:cl.map (·.1)=fr)
  (hb:∀(name:Str) (pm ct:Value),bindArgs (PySem.W.kla_fn name qual params body scope cl pm cdv ct) args=pure [(x,u)])
  (hbody:Room k (A.deeper (PySem.W.envX qual scope s.heap.objs.size f cdv (qY b x s.heap.objs.size cl)))→
   ∃t,PE (cC CX P w K mg base N qual scope f cdv (qY b x s.heap.objs.size cl) A outer s H E) body t∧t (start N (v::fvs)) (kR H (cl.map (·.2))) fun v' H'=>(∀c∈cl.map (·.2),H' c=none)→Q v' (qZ H' H (cl.map (·.2)))) :
  codeAny (model P w) A (.call (.ref f) args) (CR CX outer P w H s Q E) s:=by
 obtain ⟨fo,name,pm,ct,hf,hd⟩:=L.fn;have hcode:s.heap.CodeRec cdv qual:=by
  obtain ⟨c,oc,vs',t,e,e1,e2,e3⟩:=L.code;exact ⟨c,oc,vs',t,e,FnO.get e0.hok e1,e2,e3⟩
 have lim:s.heap.NoLimit:=e0.mod.nolimit.keeps fun b o e=>(e0.bs b o e).1
 obtain ⟨t,ht,hq⟩:=hbody (hr.deeper _);have ndF:(x::fr).Nodup:=by rw [← S.pre];exact S.nd.sublist (ir _ _)
 have ndC:(cl.map (·.1)).Nodup:=by rw [hcl];exact (bc.mp ndF).2
 have hdel:kR H ((qY b x s.heap.objs.size cl).map (·.2))=kR H (cl.map (·.2)):=by
  unfold qY;cases b with
  |true=>exact DZ (e0.hok.fresh (kt _))
  |false=>rfl
 have hlook:∀c∈cl.map (·.2),∃y,(qY b x s.heap.objs.size cl).lookup y=some c:=fun c hc=>by
  obtain ⟨⟨y,c'⟩,hm,rfl⟩:=aw.mp hc;have h1:=lookup_of_mem_nodup ndC hm;refine ⟨y,?_⟩;unfold qY;cases b with
  |true =>
   have:(y == x)=false:=bo.mpr fun z=>(bc.mp ndF).1 (by rw [← hcl,← z];exact aw.mpr ⟨_,hm,rfl⟩)
   show List.lookup y ((x,_)::cl)=_;rw [aS,this];exact h1
  |false=>exact h1
 have fin:∀{h1:Heap} {tk:Nat} {m:Str→Option Value},h1.Ns s.heap.objs.size m→(b=false→m x=some u)→(b=true→h1.IsCell (s.heap.objs.size+1) (some u))→(∀b o,s.heap.get? b=some o→h1.get? b=some o)→
   codeAny (model P w) A (.expr body (PySem.W.envX qual scope s.heap.objs.size f cdv (qY b x s.heap.objs.size cl))) (CR CX outer P w H s Q E) {s with heap:=h1,toks:=tk}:=fun {h1 tk m} hns hm hC hk=>by
  have I:=DR (CX:=CX) (qual:=qual) (f:=f) (cdv:=cdv) (E:=E) (tk:=tk) S hr.hd e0 r C hcl hns hm hC hk;rw [← hdel] at hq;refine PySem.W.kla_codeExpr (bv (ht [] _ _ _ _ I hq) (fun u' s' hs=>?_) fun e s' hs=>hs);obtain ⟨v',H',J,rv,q⟩:=hs;have hn:∀c∈cl.map (·.2),H' c=none:=fun c hc=>by
   obtain ⟨y,hy⟩:=hlook c hc;exact J.freeC y c hy
  have un:Un (kO outer) [] (kR H (cl.map (·.2))) H' s.heap s'.heap:=by rw [← hdel];exact J.base
  refine ⟨v',_,J.os,J.bare,Un.unhide un C.cells,HOk.unhide J.hok hn fun c hc=>?_,rv,q hn⟩;obtain ⟨o,e⟩:=C.cells c hc;refine ⟨o,e,un.keep c o (FnO.get e0.hok e) (ZB hc) (fun hin=>?_) (by intro z;cases z)⟩;have:=e0.frf c hin;rw [e] at this;cases this
 refine PySem.W.kla_callFunE hr.depth (FnO.get e0.hok hf) hd S.co S.gen rfl hcode ?_;rw [hb name pm ct];refine am ?_;have hnoc:=S.noc;have hpar:=S.par;cases b with
 |true =>
  obtain ⟨rest,e1,e2⟩:=hnoc;refine E6 e1 e2 S.kind fun h1 hns hc hk=>⟨lim.keeps hk,?_⟩
  exact fin (tk:=s.toks) hns (fun z=>nomatch z) (fun _=>hc) hk
 |false =>
  refine km hnoc (fun y hy=>by cases aA.mp hy;exact hpar) (fun h1 hns hsb=>⟨lim.fresh _ hsb,?_⟩) S.kind;refine fin hns (fun _=>?_) (fun z=>nomatch z) fun b o e=>hsb.extBut b o (aF (au e)) (aj _ e)
  show List.lookup x [(x,u)]=some u;rw [aS,ci]
end
abbrev mE (qual:Str) (params:Arguments) (body:Expr) (scope:Scope) (clos:List (Str×Addr)) (pm cv ctv:Value):Obj :=
 {cls:=.type "function",data:=.func (PySem.W.kla_fn "<lambda>" qual params body scope clos pm cv ctv)}
def JR (H:Hp) (T:Addr) (pos:Pos) (qual:Str):Prop :=
 H T=some (.tbl #[])∨∃c oc vs t,H T=some (.tbl #[rawInt pos.line,rawInt pos.col,.ref c])∧H c=some (FnO c oc)∧oc.data=.fields vs∧vs[1]?=some (.str qual t)
section
variable {X:Cx} {pins:List (Addr×Obj)} {σ:List (Option V)} {H:Hp} {s:Shared}
theorem Inv.fnHit {h':Heap} {o:Obj} {t':Nat} (I:Inv X pins σ H s) (hx:∀b o,s.heap.get? b=some o→h'.get? b=some o) (hsz:s.heap.objs.size≤h'.objs.size) (hfr:o.isFreed=false) :
  Inv X pins σ (upd H h'.objs.size (FnO h'.objs.size o)) {s with heap:=h'.push o,toks:=t'}:=by
 have key:∀b u,s.heap.get? b=some u→(h'.push o).get? b=some u:=fun b u e=>aj _ (hx b u e)
 have hlt:∀b,b<s.heap.objs.size→b≠h'.objs.size:=fun b e=>aF (ao e hsz)
 have ht:∀b u,H b=some u→b≠h'.objs.size:=fun b u e=>hlt b (I.hok b u e).lt
 refine I.un ⟨fun b ob e n _ _=>key b ob e,fun b ob e n _ _=>⟨ob.slots,key b ob e⟩,fun b ob e n _=>?_,fun b ob e _=>⟨ob,key b ob e⟩,fun b xs e=>?_,fun b ob u e=>?_,fun b qs e=>⟨#[],?_⟩⟩ fun b u e=>?_
 ·rw [jH (hlt b (au e))];exact n
 ·rw [jH (ht b _ e)];exact e
 ·rw [jH (ht b _ e)];exact e
 ·rw [jH (ht b _ e),e];simp
 ·by_cases z:b=h'.objs.size
  ·subst z;rw [jD] at e;cases e
   exact FnO.ok (az _ hfr)
  rw [jH z] at e;refine (I.hok b u e).stay (fun c v hc r=>key c v r) (fun c r=>?_) fun c xs r=>?_
  ·rw [jH (ht c _ r)];exact r
  ·rw [jH (ht c _ r)];exact r
def VX (T:Addr) (pos:Pos) (qual:Str) (mk:Value→Value→Obj):TE:=fun _ H Q=>JR H T pos qual∧
 ∀(f c:Addr) (ctv:Value) (H':Hp),H f=none→H' f=some (FnO f (mk (.ref c) ctv))→(∃oc vs t,H' T=some (.tbl #[rawInt pos.line,rawInt pos.col,.ref c])∧H' c=some (FnO c oc)∧oc.data=.fields vs∧vs[1]?=some (.str qual t))→
  (∀b o,H b=some o→b≠T→H' b=some o)→(∀b,H b=none→b≠f→b≠c→H' b=none)→Q (.ref f) H'
theorem TZ {params:Arguments} {body:Expr} {scope:Scope} {pos:Pos} {c T:Addr} {clos:List (Str×Addr)} {qual:Str} (hd:defaultsOf params X.env=([],[])) (hcl:closureFor scope X.env=pure clos) (hge:X.env.globals=mainGlobals)
  (hcode:X.env.code=.ref c) (hC:PySem.W.CodeHd X.base c T) (hgP:mainGlobals≠T) (hb:X.base.BuiltinsAt X.mg T) (hq:X.env.qual++"<lambda>"=qual) :
  PE X (.Lambda params body scope pos) (VX T pos qual fun cv ctv=>mE qual params body scope clos ((X.mg "__name__").getD .none) cv ctv):=by
 intro pins s σ H Q I h;obtain ⟨hT,q⟩:=h;refine PySem.W.kla_eval hd ?_;rw [hq]
 rcases hT with hT|⟨c1,oc,vs,t,hT,h1,h2,h3⟩
 ·have hPs:s.heap.get? T=some (PySem.W.tabObj #[]):=I.hok T _ hT;refine PySem.W.kla_makeFunction (mg:=X.mg) hcl hge (I.mod.glob.keeps I.bk) hcode (hC.keeps I.bk) hPs trivial rfl hgP (hb.keeps I.bk) fun c' ctv h' tk hx' hge' hlt hrec htb=>?_
  have hsz:s.heap.objs.size≤h'.objs.size:=aG hge' (gj hlt);obtain ⟨c'',oc,fs,t,e,hoc,hoc2,hoc3⟩:=hrec;cases e;have J:=I.fnMade2 (o:=mE qual params body scope clos ((X.mg "__name__").getD .none) (.ref c') ctv) (t':=tk) hT hx' hsz htb rfl hge' hoc;have hPl:=au hPs;have hTf:T≠h'.objs.size:=aF (ao hPl hsz);have hTc:T≠c':=aF (ao hPl hge');have hfc:h'.objs.size≠c':=ec hlt;have hf0:H h'.objs.size=none:=I.hok.fresh hsz;have hc0:H c'=none:=I.hok.fresh hge';refine ⟨.ref h'.objs.size,_,J,rfl,q h'.objs.size c' ctv _ hf0 ?_ ⟨oc,fs,t,?_,jD ..,hoc2,hoc3⟩ (fun b o e n=>?_) fun b n n1 n2=>?_⟩
  ·rw [jH hfc,jD]
  ·rw [jH hTc,jH hTf,jD];rfl
  ·rw [jH (fun z=>by rw [z,hc0] at e;cases e),jH (fun z=>by rw [z,hf0] at e;cases e),jH n];exact e
  ·rw [jH n2,jH n1,jH (fun z=>by rw [z,hT] at n;cases n)];exact n
 ·have hPs:s.heap.get? T=some (PySem.W.tabObj #[rawInt pos.line,rawInt pos.col,.ref c1]):=I.hok T _ hT;refine PySem.W.kla_makeFunctionHit (mg:=X.mg) (cv:=.ref c1) hcl hge (I.mod.glob.keeps I.bk) hcode (hC.keeps I.bk) hPs (by exact trivial) (codeAmong_snoc [] trivial rfl) (hb.keeps I.bk) fun ctv h' tk hk hsz=>?_
  have J:=I.fnHit (o:=mE qual params body scope clos ((X.mg "__name__").getD .none) (.ref c1) ctv) (t':=tk) hk hsz rfl;have hf0:H h'.objs.size=none:=I.hok.fresh hsz;have ne:∀b o,H b=some o→b≠h'.objs.size:=fun b o e z=>by rw [z,hf0] at e;cases e
  refine ⟨.ref h'.objs.size,_,J,rfl,q h'.objs.size c1 ctv _ hf0 (jD ..) ⟨oc,vs,t,?_,?_,h2,h3⟩ (fun b o e n=>?_) fun b n n1 n2=>?_⟩
  ·rw [jH (ne T _ hT)];exact hT
  ·rw [jH (ne c1 _ h1)];exact h1
  ·rw [jH (ne b _ e)];exact e
  ·rw [jH n1];exact n
end
def dO (T:Addr) (n:Nat) (pos:Pos) (lq:Str) (lp:Arguments) (lb:Expr) (ls:Scope) (fr:List Str) (sel:List Nat):Sp:=fun vs H Q _=>vs.length=n∧JR H T pos lq∧
 ∀(f:Addr) (cl:List (Str×Addr)) (cdv:Value) (H':Hp),H f=none→LamAt H' f lq lp lb ls cl cdv→cl.map (·.1)=fr→CellsAt H' cl (sel.map fun i=>vs.getD i .non)→JR H' T pos lq→
  (∀c∈cl.map (·.2),H c=none)→(∀b o,H b=some o→b≠T→H' b=some o)→Q (.ref f) H'
theorem OL {N:List Str} {vs:List V} {j:Nat} {v:V} (h:vs[j]?=some v):(start N vs)[j]?=some (some v):=by
 unfold start;rw [aq (by rw [ae];exact (ad.mp h).1),av,h];rfl
theorem RF {CX:vS} {P:Program} {w:World} {K:PySem.W.Frag} {mg:Str→Option Value} {base:Heap} {k:Nat} {f cL T:Addr} {name qual lq:Str} {params lp:Arguments} {lb:Expr} {scope ls:Scope} {dV kV doc pm ct oc:Value} {an od:Option Addr}
  {osl:Array (Option Value)} {N ps fr:List Str} {rpos lpos:Pos} {sel:List Nat} (cl:Nat→List (Str×Addr))
  (lk:K.lookup f=some ⟨oc,od,.func (PySem.W.fnOf name qual params [.Return (some (.Lambda lp lb ls lpos)) rpos] scope dV kV doc pm an (.ref cL) ct),osl⟩) (hcd:PySem.W.codeIn K (.ref cL) qual=true) (S:FnScope N ps scope)
  (hC:PySem.W.CodeHd base cL T) (hgP:mainGlobals≠T) (hB:base.BuiltinsAt mg T) (hdf:∀n,defaultsOf lp (envOfC qual scope n f (.ref cL))=([],[])) (hcl:∀n,closureFor ls (envOfC qual scope n f (.ref cL))=pure (cl n))
  (hfr:∀n,(cl n).map (·.1)=fr) (hone:∀n,((cl n).map (·.2)).Nodup) (hlen:∀n,(cl n).length=sel.length)
  (hsel:∀(n i:Nat) (x:Str) (c:Addr),(cl n)[i]?=some (x,c)→∃j,sel[i]?=some j∧j<ps.length∧N[j]?=some x∧scope.names.lookup x=some .cell∧(cellsFrom (n+1) scope.names []).lookup x=some c)
  (hq:qual++".<locals>."++"<lambda>"=lq) :
  FnOk P w K mg base CX (k+1) f (PySem.W.fnOf name qual params [.Return (some (.Lambda lp lb ls lpos)) rpos] scope dV kV doc pm an (.ref cL) ct) ps (dO T ps.length lpos lq lp lb ls fr sel):=by
 refine ⟨fun _ _ _ _ h=>h.1,fun A outer s H args us vs Q E hr e0 hb r hsp=>?_⟩;obtain ⟨hl,hT,q⟩:=hsp;have KX:K.In s.heap:=e0.mod.kin.keeps fun b o e=>(e0.bs b o e).1
 have lim:s.heap.NoLimit:=e0.mod.nolimit.keeps fun b o e=>(e0.bs b o e).1
 have hkind:∀y∈ps.zip us,scope.names.lookup y.1=some .local∨(scope.names.lookup y.1=some .cell∧((cellsFrom (s.heap.objs.size+1) scope.names []).lookup y.1).isSome=true):=fun ⟨n,v⟩ hy=>by
  rcases S.par n (ku hy).1 with q|q
  ·exact .inl q
  ·exact .inr ⟨q,im _ _ _ (.inl q)⟩
 refine ix hr.depth (KX _ _ lk) rfl S.co S.gen rfl (PySem.W.codeRec_of KX hcd) (hb _ _ _ _ ?_);refine wpAny_newFunctionEnv_cells S.kind hkind fun env he s1 x=>?_
 subst he;refine ⟨lim.keeps x.toInCall.keep,codeAny_func ?_⟩;have I:Inv (vR CX P w K mg base N qual scope f (.ref cL) A outer s H E) [] (start N vs) H s1:=BC S hr.hd e0 hl r x;have L:=TZ (X:=vR CX P w K mg base N qual scope f (.ref cL) A outer s H E) (body:=lb) (pos:=lpos) (hdf _) (hcl _) rfl rfl hC hgP hB hq;have hQ:=L [] s1 _ H (fun v H1=>∃(fa c:Addr) (ctv:Value),v=.ref fa∧H fa=none∧H1 fa=some (FnO fa (mE lq lp lb ls (cl s.heap.objs.size) ((mg "__name__").getD .none) (.ref c) ctv))∧
   (∃(oc:Obj) (vs:Array Value) (t:Tok),H1 T=some (.tbl #[rawInt lpos.line,rawInt lpos.col,.ref c])∧H1 c=some (FnO c oc)∧oc.data=.fields vs∧vs[1]?=some (.str lq t))∧(∀b o,H b=some o→b≠T→H1 b=some o)) I ⟨hT,fun fa c ctv H1 a1 a2 a3 a4 _=>⟨fa,c,ctv,rfl,a1,a2,a3,a4⟩⟩
 refine iz (wpAny_Return_some (bv hQ (fun u s' hs=>?_) fun e s' hs=>hs));obtain ⟨_,H1,J,rv,fa,c,ctv,rfl,hf0,hf1,⟨oc1,fs1,t1,g1,g2,g3,g4⟩,keep⟩:=hs;obtain ⟨m,_,hloc⟩:=J.loc;have cellOf:∀(i:Nat) (y:Str) (cc:Addr),(cl s.heap.objs.size)[i]?=some (y,cc)→∃(j:Nat) (v:V) (o:Obj) (u:Value),sel[i]?=some j∧vs[j]?=some v∧s'.heap.get? cc=some o∧o.data=.cell (some u)∧RelV v u∧H1 cc=none∧s.heap.objs.size<cc:=fun i y cc hi=>by
  obtain ⟨j,e1,e2,e3,e4,e5⟩:=hsel _ i y cc hi;have hj:j<vs.length:=by rw [hl];exact e2
  obtain ⟨u,ru,lk⟩:=hloc j y vs[j] e3 (OL (aa hj)) (.inr (.inl e4));have fr0:H1 cc=none:=J.freeC y cc e5
  rcases lk with ⟨hk,_⟩|⟨_,c',hc',o,ho,hd⟩
  ·have hk':scope.names.lookup y=some .local:=hk;rw [e4] at hk';cases hk'
  ·have hc2:(cellsFrom (s.heap.objs.size+1) scope.names []).lookup y=some c':=hc';rw [e5] at hc2;cases hc2
   exact ⟨j,vs[j],o,u,e1,aa hj,ho,hd,ru,fr0,x.above y cc (bi e5)⟩
 have inC:∀cc∈(cl s.heap.objs.size).map (·.2),∃(i:Nat) (y:Str),(cl s.heap.objs.size)[i]?=some (y,cc):=fun cc hm=>by
  obtain ⟨⟨y,c'⟩,hm2,rfl⟩:=aw.mp hm;obtain ⟨i,hi⟩:=aQ.mp hm2;exact ⟨i,y,hi⟩
 let HC:Hp:=fun b=>(s'.heap.get? b).map fun o=>FnO b o
 have hn:∀cc∈(cl s.heap.objs.size).map (·.2),H1 cc=none:=fun cc hm=>by
  obtain ⟨i,y,hi⟩:=inC cc hm;obtain ⟨_,_,_,_,_,_,_,_,_,z,_⟩:=cellOf i y cc hi;exact z
 have hc:∀cc∈(cl s.heap.objs.size).map (·.2),∃o,HC cc=some (FnO cc o)∧s'.heap.get? cc=some o:=fun cc hm=>by
  obtain ⟨i,y,hi⟩:=inC cc hm;obtain ⟨_,_,o,_,_,_,z,_⟩:=cellOf i y cc hi;exact ⟨o,by show (s'.heap.get? cc).map _=_;rw [z];rfl,z⟩
 have out:∀b o,H1 b=some o→b∉(cl s.heap.objs.size).map (·.2):=fun b o e hm=>by rw [hn b hm] at e;cases e
 have old:∀b,b<s.heap.objs.size→b∉(cl s.heap.objs.size).map (·.2):=fun b hb hm=>by
  obtain ⟨i,y,hi⟩:=inC b hm;obtain ⟨_,_,_,_,_,_,_,_,_,_,z⟩:=cellOf i y b hi;exact absurd (Nat.lt_trans hb z) (aV _)
 have oldH:∀b o,H b=some o→b∉(cl s.heap.objs.size).map (·.2):=fun b o e=>old b (e0.hok b o e).lt
 have un:Un (kO outer) [] H (qZ H1 HC ((cl s.heap.objs.size).map (·.2))) s.heap s'.heap:=by
  have ub:Un (kO outer) [] H H1 s.heap s'.heap:=J.base;refine ⟨ub.keep,ub.slot,fun b o e n hx=>?_,ub.there,fun b xs e=>?_,fun b o v e=>?_,fun b qs e=>?_⟩
  ·rw [vH (old b (au e))];exact ub.free b o e n hx
  ·rw [vH (oldH b _ e)];exact ub.tups b xs e
  ·rw [vH (oldH b _ e)];exact ub.frzs b o v e
  ·rw [vH (oldH b _ e)];exact ub.tbls b qs e
 refine ⟨.ref fa,_,J.os,J.bare,un,HOk.unhide J.hok hn hc,rv,q fa (cl s.heap.objs.size) (.ref c) _ hf0 ⟨⟨_,_,_,_,(vH (out fa _ hf1)).trans hf1,rfl⟩,⟨c,oc1,fs1,t1,rfl,(vH (out c _ g2)).trans g2,g3,g4⟩⟩ (hfr _) ⟨hone _,?_,fun i y cc v hi hv=>?_⟩ (.inr ⟨c,oc1,fs1,t1,(vH (out T _ g1)).trans g1,(vH (out c _ g2)).trans g2,g3,g4⟩) (fun cc hm=>?_) fun b o e n=>(vH (oldH b _ e)).trans (keep b o e n)⟩
 ·rw [ae,hlen]
 ·obtain ⟨j,v',o,u',e1,e2,e3,e4,e5,_,_⟩:=cellOf i y cc hi;have hin:cc∈(cl s.heap.objs.size).map (·.2):=aw.mpr ⟨_,ai hi,rfl⟩;rw [av,e1] at hv;have hv':vs.getD j .non=v:=aE hv;rw [af,e2] at hv';cases hv';exact ⟨o,u',by rw [fU hin];show (s'.heap.get? cc).map _=_;rw [e3];rfl,e4,e5⟩
 ·obtain ⟨i,y,hi⟩:=inC cc hm;obtain ⟨_,_,_,_,_,_,_,_,_,_,z⟩:=cellOf i y cc hi;exact e0.hok.fresh (gj z)
def JG (qual:Str) (params:Arguments) (body:Expr) (scope:Scope) (fr:List Str) (sp:List Addr→List V→Sp) (f:Addr):Sp:=fun vs H Q E=>∃v,vs=[v]∧
 ∃cl fvs cdv,LamAt H f qual params body scope cl cdv∧CellsAt H cl fvs∧cl.map (·.1)=fr∧sp (cl.map (·.2)) fvs [v] H Q E
variable {x:Str} {k:Nat}
theorem DX {CX:vS} {P:Program} {w:World} {K:PySem.W.Frag} {mg:Str→Option Value} {base:Heap} {b:Bool} {N fr:List Str} {qual:Str} {params:Arguments} {body:Expr} {scope:Scope} {sp:List Addr→List V→Sp} (S:LamScope b N x fr scope)
  (hb:∀(name:Str) (cl:List (Str×Addr)) (pm cdv ct u:Value),bindArgs (PySem.W.kla_fn name qual params body scope cl pm cdv ct) ⟨[u],[]⟩=pure [(x,u)])
  (hbody:∀(A:Around) (outer:List Env) (s:Shared) (H:Hp) (f:Addr) (cdv:Value) (cl:List (Str×Addr)) (fvs:List V) (v:V) (Q:VK) (E:XK),cl.map (·.1)=fr→Room k (A.deeper (PySem.W.envX qual scope s.heap.objs.size f cdv (qY b x s.heap.objs.size cl)))→Z3 H (cl.map (·.2))→sp (cl.map (·.2)) fvs [v] H Q E→
   ∃t,PE (cC CX P w K mg base N qual scope f cdv (qY b x s.heap.objs.size cl) A outer s H E) body t∧t (start N (v::fvs)) (kR H (cl.map (·.2))) fun v' H'=>(∀c∈cl.map (·.2),H' c=none)→Q v' (qZ H' H (cl.map (·.2)))) :
  FnV P w K mg base CX (k+1) (JG qual params body scope fr sp):=by
 refine ⟨fun f vs H Q E h=>?_,fun A outer s H f us vs Q E hr e0 r h=>?_⟩
 ·obtain ⟨_,_,cl,fvs,cdv,L,_⟩:=h;obtain ⟨fo,_,_,_,h1,h2⟩:=L.fn;exact ⟨fo,_,h1,h2⟩
 ·obtain ⟨v,rfl,cl,fvs,cdv,L,C,hcl,hs⟩:=h;cases r with
  |cons rv r =>
   cases r;exact SY S hr e0 rv L C hcl (fun name pm ct=>hb name cl pm cdv ct _) fun hr'=>hbody A outer s H f cdv cl fvs v Q E hcl hr' C.cells hs
def uH (Ts:List Addr) (H:Hp):Prop:=(∀T∈Ts,H T=some (.tbl #[]))∧∀b,b∉Ts→H b=none∨∃o xs,H b=some (.frz o (.lst xs))
theorem NZ {prog:Program} {w:World} {K:PySem.W.Frag} {mg mb:Str→Option Value} {CX:vS} {fa a:Addr} {Ts:List (Addr×Addr)} {fd:FuncData} {sp:Sp} {s₁:Shared} {vs:List Value} {ns:List Int}
  (KX:K.In s₁.heap) (hns:s₁.heap.Ns mainGlobals mg) (hb:s₁.heap.Ns builtinsNs mb) (hbb:∀x:Str,x≠"__name__"→mb x=bootBuiltins x) (hlim:s₁.heap.NoLimit) (hg:s₁.gens = #[])
  (ha:s₁.heap.get? a=some {cls:=.type "list",data:=.seq vs.toArray}) (hi:IntsAre vs ns) (hl:ns.length≤sizeLine) (hr:Room k callerA)
  (hC:∀p∈Ts,PySem.W.CodeHd s₁.heap p.1 p.2) (hT:∀p∈Ts,s₁.heap.TableAt p.1 p.2 #[]) (hKT:PySem.W.noTabs K=true) (hB:∀p∈Ts,s₁.heap.BuiltinsAt mg p.2)
  (F:∀base:Heap,K.In base→base.Ns mainGlobals mg→(∀p∈Ts,PySem.W.CodeHd base p.1 p.2∧base.BuiltinsAt mg p.2∧mainGlobals≠p.2)→FnOk prog w K mg base CX k fa fd [x] sp) (hbind:∀(s:Shared) (u:Value),BindsTo s fd ⟨[u],[]⟩ [(x,u)])
  (hsp:∀H:Hp,uH (Ts.map (·.2)) H→SqL K H a (ns.map V.int)→sp [.ref a] H (fun v _=>v=.bl true) fun _ _ _=>False)
  (hCX:∀H e s',CX [] H s₁ (fun _ _ _=>False) e s'→False) :
  codeAny (model prog w) callerA (.call (.ref fa) ⟨[.ref a],[]⟩) (fun r s'=>r=.ok (.ret (.bool true))∧OldK s₁.heap s'.heap∧s'.os=s₁.os∧AllBare s'.gens) s₁:=by
 have rv:=AK hi;have lenV:=hi.length;have inT:∀b∈Ts.map (·.2),∃p∈Ts,p.2=b:=fun b h=>aw.mp h
 have hTo:∀b∈Ts.map (·.2),s₁.heap.get? b=some {cls:=.none,data:=.fields #[]}:=fun b h=>by
  obtain ⟨p,hp,rfl⟩:=inT b h;exact (hT p hp).2
 have hKT':∀b∈Ts.map (·.2),K.lookup b=none:=fun b h=>by
  cases q:K.lookup b with
  |none=>rfl
  |some o =>
   have e:=KX b o q;rw [hTo b h] at e;cases e
   have z:=gr.mp hKT _ (PySem.W.mem_of_lookupK q);exact absurd (show false=true from z) aD
 have haT:a∉Ts.map (·.2):=fun z=>by rw [hTo a z] at ha;cases ha
 have hgT:mainGlobals∉Ts.map (·.2):=fun z=>by
  obtain ⟨o,es,ep,e,d,_⟩:=hns;rw [hTo _ z] at e;cases e;cases d
 have core:∀H:Hp,uH (Ts.map (·.2)) H→SqL K H a (ns.map V.int)→HOk prog w H s₁.heap→(∀b,H b≠none→b=a∨b∈Ts.map (·.2))→(H a≠none→K.lookup a=none)→
   codeAny (model prog w) callerA (.call (.ref fa) ⟨[.ref a],[]⟩) (fun r s'=>r=.ok (.ret (.bool true))∧OldK s₁.heap s'.heap∧s'.os=s₁.os∧AllBare s'.gens) s₁:=by
  intro H hO hS hok hA hK;have free:∀{b:Addr} {o:Obj},s₁.heap.get? b=some o→o≠{cls:=.type "list",data:=.seq vs.toArray}→o≠{cls:=.none,data:=.fields #[]}→H b=none:=fun {b o} e n1 n2=>by
   cases q:H b with
   |none=>rfl
   |some u =>
    rcases hA b (by rw [q];simp) with z|z
    ·subst z;rw [ha] at e;cases e;exact absurd rfl n1
    ·rw [hTo b z] at e;cases e;exact absurd rfl n2
  have nsK:∀{b:Addr} {m:Str→Option Value},s₁.heap.Ns b m→(Q2 s₁.heap H).Ns b m:=fun {b m} ⟨o,es,ep,e,d,r⟩=>⟨o,es,ep,lL e (free e (fun z=>by subst z;cases d) fun z=>by subst z;cases d),d,r⟩
  have hKb:K.In (Q2 s₁.heap H):=fun b o e=>lL (KX b o e) (by
   cases q:H b with
   |none=>rfl
   |some u =>
    rcases hA b (by rw [q];simp) with z|z
    ·subst z;rw [hK (by rw [q];simp)] at e;cases e
    ·rw [hKT' b z] at e;cases e)
  have hCb:∀p∈Ts,PySem.W.CodeHd (Q2 s₁.heap H) p.1 p.2:=fun p hp=>by
   obtain ⟨o,fs,file,tf,flags,tg,inF,text,tt,e1,e2,rest⟩:=hC p hp;exact ⟨o,fs,file,tf,flags,tg,inF,text,tt,lL e1 (free e1 (fun z=>by subst z;injection e2 with z;exact absurd z (by decide)) fun z=>by subst z;cases e2),e2,rest⟩
  have hBb:∀p∈Ts,(Q2 s₁.heap H).BuiltinsAt mg p.2:=fun p hp=>by
   obtain ⟨bm,o,b1,b2,b3,b4,e1,e2,e3,e4⟩:=hB p hp;exact ⟨bm,o,b1,b2,b3,b4,lL e1 (free e1 (fun z=>by subst z;injection e2 with z;exact absurd z (by decide)) fun z=>by subst z;cases e2),e2,e3,e4⟩
  have hM:Mod K mg (Q2 s₁.heap H):=⟨hKb,nsK hns,⟨mb,nsK hb,hbb⟩,let ⟨mc,h1,h2⟩:=hlim;⟨mc,nsK h1,h2⟩⟩;have e0:Env0 prog w K mg (Q2 s₁.heap H) callerA [] s₁ H:=⟨rfl,hM,fun b o e=>SS e,Nat.le_of_eq (O3 _ _),trivial,fun b hb=>absurd (show b∈([]:List Addr) from hb) (by simp),hok,.of_eq hg⟩;refine gx ((F _ hKb (nsK hns) fun p hp=>⟨hCb p hp,hBb p hp,fun z=>hgT (z▸aw.mpr ⟨p,hp,rfl⟩)⟩).run callerA [] s₁ H ⟨[.ref a],[]⟩ [.ref a] [.ref a] _ _ hr e0 (hbind s₁ (.ref a)) (.cons rfl .nil) (hsp H hO hS)) fun r s' h=>?_
  cases r with
  |error e=>exact (hCX H e s' h).elim
  |ok fl =>
   cases fl with
   |next=>exact False.elim h
   |brk=>exact False.elim h
   |cont=>exact False.elim h
   |ret u =>
    obtain ⟨v,H',os,bare,un,hok',r',q⟩:=h;obtain rfl:v=.bl true:=q;obtain rfl:u=Value.bool true:=r';have nofs:∀b:Addr,b∉kO ([]:List Env):=fun b z=>absurd (show b∈([]:List Addr) from z) (by simp)
    refine ⟨rfl,⟨fun b o e=>?_,fun b o e=>un.there b o e (by simp)⟩,os,bare⟩
    by_cases z:b∈Ts.map (·.2)
    ·rw [hTo b z] at e;cases e
     obtain ⟨more,e2⟩:=un.tbls b #[] (hO.1 b z);obtain ⟨p,hp,rfl⟩:=inT b z;exact .inr (.inl ⟨(hT p hp).isCodeTable,rfl,#[],more,rfl,hok' _ _ e2⟩)
    ·refine .inl ?_
     rcases hO.2 b z with q|⟨ob,xs,q⟩
     ·exact un.keep b o e q (nofs b) (by simp)
     ·have z2:=un.frzs b ob _ q;obtain ⟨e1,_⟩:=hok b _ q;obtain ⟨e2,_⟩:=hok' b _ z2;rw [e] at e1;cases e1
      exact e2
 cases hk:K.lookup a with
 |some o =>
  have e:=KX a o hk;rw [ha] at e;cases e;refine core (fun b=>if b∈Ts.map (·.2) then some (.tbl #[]) else none) ⟨fun b h=>if_pos h,fun b n=>.inl (if_neg n)⟩ (.inr ⟨_,vs.toArray,_,hk,rfl,rfl,rfl,by rw [ak,lenV];exact hl,by simpa using rv⟩) (fun b u z=>?_) (fun b z=>?_) fun z=>absurd (if_neg haT) z
  ·by_cases hb:b∈Ts.map (·.2)
   ·have z':=(if_pos hb).symm.trans z;cases z';exact hTo b hb
   ·have z':=(if_neg hb).symm.trans z;cases z'
  ·by_cases hb:b∈Ts.map (·.2)
   ·exact .inr hb
   ·exact absurd (if_neg hb) z
 |none =>
  refine core (fun b=>if b∈Ts.map (·.2) then some (.tbl #[]) else if b=a then some (.frz {cls:=.type "list",data:=.seq vs.toArray} (.lst (ns.map V.int))) else none) ⟨fun b h=>if_pos h,fun b n=>?_⟩ (.inl (.inr ⟨{cls:=.type "list",data:=.seq vs.toArray},(if_neg haT).trans (if_pos rfl)⟩)) (fun b u z=>?_) (fun b z=>?_) fun _=>hk
  ·by_cases hb:b=a
   ·exact .inr ⟨_,_,(if_neg n).trans (if_pos hb)⟩
   ·exact .inl ((if_neg n).trans (if_neg hb))
  ·by_cases hb:b∈Ts.map (·.2)
   ·have z':=(if_pos hb).symm.trans z;cases z';exact hTo b hb
   ·have z1:=(if_neg hb).symm.trans z
    by_cases hb':b=a
    ·have z':=(if_pos hb').symm.trans z1;cases z';subst hb';exact ⟨ha,by rw [ae];exact hl,vs,_,rv,ha⟩
    ·have z':=(if_neg hb').symm.trans z1;cases z'
  ·by_cases hb:b∈Ts.map (·.2)
   ·exact .inr hb
   ·by_cases hb':b=a
    ·exact .inl hb'
    ·exact absurd ((if_neg hb).trans (if_neg hb')) z
theorem walk_ofTs {l:PySem.W.OpenLaw} {n:Nat} {q:Program} {loose:List Str} {XP:(Str→Option Value)→Heap→Prop} {YP:World→Heap→Prop} {d:DefRec} {K:Params→PySem.W.Frag} {CX:World→vS} {sp:World→Sp} (nt:List (Str×Addr×Addr))
  (hn:l.most=some n) (hn2:n≤sizeLine) (hdf:d.params.defaults=[]) (hr:Room k callerA) (hrec:∀e∈nt,((recsOf q).find? (fun r=>r.name == e.1)).isSome=true) (htab:∀P:Params,∀e∈nt,PySem.W.tabIn (K P) e.1=some e.2) (hno:∀P:Params,PySem.W.noTabs (K P)=true)
  (hY:∀(w:World) (h:Heap),YP w h→(K w.params).In h)
  (F:∀(w:World) (mg:Str→Option Value) (fa:Addr) (h:Heap),(K w.params).In h→h.Ns mainGlobals mg→mg d.name=some (.ref fa)→
   ∃fd:FuncData,(∀(s:Shared) (u:Value),BindsTo s fd ⟨[u],[]⟩ [(x,u)])∧
    ∀base:Heap,(K w.params).In base→base.Ns mainGlobals mg→(∀p∈nt.map (·.2),PySem.W.CodeHd base p.1 p.2∧base.BuiltinsAt mg p.2∧mainGlobals≠p.2)→FnOk l.prog w (K w.params) mg base (CX w) k fa fd [x] (sp w))
  (hsp:∀(w:World) (H:Hp) (a:Addr) (ns:List Int),ns.length≤n→uH ((nt.map (·.2)).map (·.2)) H→SqL (K w.params) H a (ns.map V.int)→sp w [.ref a] H (fun v _=>v=.bl true) fun _ _ _=>False)
  (hCX:∀(w:World) (H:Hp) (s:Shared) (e:Value) (s':Shared),CX w [] H s (fun _ _ _=>False) e s'→False) :
  PySem.W.WalkO q loose XP YP l.row.toRowW d [] (fun f vs=>PySem.call f vs):=by
 refine Att.attach_call hn hdf fun w s₀ s₁ mg mb fa o pm cd doc a vs ns G Y ho hd hcd hmg hobj hints hlen hg=>?_
 have KX:=hY w _ Y;obtain ⟨fd,hb,hF⟩:=F w mg fa _ KX G.T.g hmg;have hCT:∀p∈nt.map (·.2),PySem.W.CodeHd s₁.heap p.1 p.2∧s₁.heap.get? p.2=some {cls:=.none,data:=.fields #[]}:=fun p hp=>by
  obtain ⟨e,he,rfl⟩:=aw.mp hp;obtain ⟨r,hr⟩:=Option.isSome_iff_exists.mp (hrec e he);exact PySem.W.tab_of G.T KX hr (htab w.params e he)
 have hT:∀p∈nt.map (·.2),s₁.heap.TableAt p.1 p.2 #[]:=fun p hp=>by
  obtain ⟨⟨o,fs,file,tf,flags,tg,inF,text,tt,e1,e2,e3,e4,_⟩,hTo⟩:=hCT p hp;exact ⟨⟨o,fs,e1,e2,e3,e4⟩,hTo⟩
 have hB:∀p∈nt.map (·.2),s₁.heap.BuiltinsAt mg p.2:=fun p hp=>by
  have hTo:=(hCT p hp).2;obtain ⟨bm,ob,b1,b2,b3,b4,b5,b6⟩:=G.T.bmain;refine ⟨bm,ob,b1,b2,fun z=>?_,fun z=>?_,b3,b4,b5,b6⟩
  ·obtain ⟨o,es,ep,e,hd,_⟩:=G.T.g;rw [z,e] at b3;cases b3;rw [hd] at b6;cases b6
  ·rw [z,hTo] at b3;cases b3;cases b4
 exact NZ KX G.T.g G.T.b G.T.builtins G.T.nolimit hg hobj hints (aG hlen hn2) hr (fun p hp=>(hCT p hp).1) hT (hno w.params) hB hF hb (fun H hO hS=>hsp w H a ns hlen hO hS) fun H e s'=>hCX w H s₁ e s'
end L2
namespace L2
open PySem PySem.Spec PyProof.Rows
def mQ (s:Stmt):Arguments×Expr×Scope×Pos:=match kD s with
 |[.Return (some (.Lambda a b sc p)) _]=>(a,b,sc,p)
 |_=>(kN s,.Name "" ⟨0,0,0,0⟩,jM s,⟨0,0,0,0⟩)
abbrev yQ (s:Stmt):Arguments:=(mQ s).1
abbrev y8 (s:Stmt):Expr:=(mQ s).2.1
abbrev vZ (s:Stmt):Scope:=(mQ s).2.2.1
abbrev vP (s:Stmt):Pos:=(mQ s).2.2.2
theorem Fun.maker {P:Program} {w:World} {K:PySem.W.Frag} {mg:Str→Option Value} {base:Heap} {CX:vS} {x qual lq:Str} {st:Stmt} {f cL T:Addr} {fd:FuncData} {N ps fr:List Str} {sel:List Nat} {k:Nat} {rpos:Pos} (F:Fun K x qual st f fd) (hcL:fd.code=.ref cL) (S:FnScope N ps (jM st))
  (hC:PySem.W.CodeHd base cL T) (hB:base.BuiltinsAt mg T) (hgP:mainGlobals≠T) (cl:Nat→List (Str×Addr)) (hbd:kD st=[.Return (some (.Lambda (yQ st) (y8 st) (vZ st) (vP st))) rpos])
  (hdf:∀n,defaultsOf (yQ st) (envOfC qual (jM st) n f (.ref cL))=([],[])) (hcl:∀n,closureFor (vZ st) (envOfC qual (jM st) n f (.ref cL))=pure (cl n))
  (hfr:∀n,(cl n).map (·.1)=fr) (hone:∀n,((cl n).map (·.2)).Nodup) (hlen:∀n,(cl n).length=sel.length)
  (hsel:∀(n i:Nat) (x:Str) (c:Addr),(cl n)[i]?=some (x,c)→∃j,sel[i]?=some j∧j<ps.length∧N[j]?=some x∧(jM st).names.lookup x=some .cell∧(cellsFrom (n+1) (jM st).names []).lookup x=some c)
  (hq:qual++".<locals>."++"<lambda>"=lq):FnOk P w K mg base CX (k+1) f fd ps (dO T ps.length (vP st) lq (yQ st) (y8 st) (vZ st) fr sel):=by
 obtain ⟨oc,od,kV,doc,pm,an,cdv,ct,osl,rfl,lk,hcd⟩:=F.ex;obtain rfl:cdv=.ref cL:=hcL;rw [hbd] at lk ⊢;exact RF cl lk hcd S hC hgP hB hdf hcl hfr hone hlen hsel hq
variable {P:List Value→Prop}
theorem WP (h:P []):∀us:List Value,us.length=0→P us
 |[],_=>h
theorem nF (h:∀a0,P [a0]) (us:List Value) (hl:us.length=1):P us:=by
 cases us with
 |nil=>cases hl
 |cons a us=>exact WP (P:=fun l=>P (a::l)) (h a) us (hU hl)
theorem eJ (h:∀a0 a1,P [a0,a1]) (us:List Value) (hl:us.length=2):P us:=by
 cases us with
 |nil=>cases hl
 |cons a us=>exact nF (P:=fun l=>P (a::l)) (fun a1=>h a a1) us (hU hl)
theorem gP (h:∀a0 a1 a2,P [a0,a1,a2]) (us:List Value) (hl:us.length=3):P us:=by
 cases us with
 |nil=>cases hl
 |cons a us=>exact eJ (P:=fun l=>P (a::l)) (fun a1 a2=>h a a1 a2) us (hU hl)
theorem nE (h:∀a0 a1 a2 a3,P [a0,a1,a2,a3]) (us:List Value) (hl:us.length=4):P us:=by
 cases us with
 |nil=>cases hl
 |cons a us=>exact gP (P:=fun l=>P (a::l)) (fun a1 a2 a3=>h a a1 a2 a3) us (hU hl)
theorem wG (h:∀a0 a1 a2 a3 a4,P [a0,a1,a2,a3,a4]) (us:List Value) (hl:us.length=5):P us:=by
 cases us with
 |nil=>cases hl
 |cons a us=>exact nE (P:=fun l=>P (a::l)) (fun a1 a2 a3 a4=>h a a1 a2 a3 a4) us (hU hl)
theorem wF (h:∀a0 a1 a2 a3 a4 a5,P [a0,a1,a2,a3,a4,a5]) (us:List Value) (hl:us.length=6):P us:=by
 cases us with
 |nil=>cases hl
 |cons a us=>exact wG (P:=fun l=>P (a::l)) (fun a1 a2 a3 a4 a5=>h a a1 a2 a3 a4 a5) us (hU hl)
theorem WO (h:∀a0 a1 a2 a3 a4 a5 a6,P [a0,a1,a2,a3,a4,a5,a6]) (us:List Value) (hl:us.length=7):P us:=by
 cases us with
 |nil=>cases hl
 |cons a us=>exact wF (P:=fun l=>P (a::l)) (fun a1 a2 a3 a4 a5 a6=>h a a1 a2 a3 a4 a5 a6) us (hU hl)
end L2
namespace L2
open PySem PySem.Spec PyProof.Rows
section
variable {CX:vS} {P:Program} {w:World} {K:PySem.W.Frag} {mg:Str→Option Value} {base:Heap} {N fr:List Str} {x:Str} {b:Bool} {qual:Str} {params:Arguments} {body:List Stmt} {scope:Scope} {f:Addr} {cdv:Value} {cl:List (Str×Addr)} {A:Around} {outer:List Env} {s:Shared} {H:Hp} {E:XK} {Q:VK} {u:Value} {v:V} {fvs:List V} {k:Nat} {args:Args} {fd:FuncData}
theorem CloAt.cellsAt (C:CloAt H f qual params body scope cl fvs cdv fd):CellsAt H cl fvs:=⟨C.once,C.len,C.cell⟩
theorem RT (S:LamScope b N x fr scope) (hr:Room (k+1) A) (e0:Env0 P w K mg base A outer s H) (r:RelV v u) (C:CloAt H f qual params body scope cl fvs cdv fd) (hcl:cl.map (·.1)=fr) (hb:bindArgs fd args=pure [(x,u)])
  (hbody:Room k (A.deeper (PySem.W.envX qual scope s.heap.objs.size f cdv (qY b x s.heap.objs.size cl)))→
   ∃t,PSs (cC CX P w K mg base N qual scope f cdv (qY b x s.heap.objs.size cl) A outer s H E) body t∧t {nx:=fun _ H'=>(∀c∈cl.map (·.2),H' c=none)→Q .non (qZ H' H (cl.map (·.2))),rt:=fun v H'=>(∀c∈cl.map (·.2),H' c=none)→Q v (qZ H' H (cl.map (·.2)))} (start N (v::fvs)) (kR H (cl.map (·.2)))) :
  codeAny (model P w) A (.call (.ref f) args) (CR CX outer P w H s Q E) s:=by
 obtain ⟨fo,name,doc,pm,an,ct,hf,hd,rfl⟩:=C.fn;have hcode:s.heap.CodeRec cdv qual:=by
  obtain ⟨c,oc,vs',t,e,e1,e2,e3⟩:=C.code;exact ⟨c,oc,vs',t,e,FnO.get e0.hok e1,e2,e3⟩
 have lim:s.heap.NoLimit:=e0.mod.nolimit.keeps fun b o e=>(e0.bs b o e).1
 obtain ⟨t,ht,hq⟩:=hbody (hr.deeper _);have ndF:(x::fr).Nodup:=by rw [← S.pre];exact S.nd.sublist (ir _ _)
 have ndC:(cl.map (·.1)).Nodup:=by rw [hcl];exact (bc.mp ndF).2
 have hdel:kR H ((qY b x s.heap.objs.size cl).map (·.2))=kR H (cl.map (·.2)):=by
  unfold qY;cases b with
  |true=>exact DZ (e0.hok.fresh (kt _))
  |false=>rfl
 have hlook:∀c∈cl.map (·.2),∃y,(qY b x s.heap.objs.size cl).lookup y=some c:=fun c hc=>by
  obtain ⟨⟨y,c'⟩,hm,rfl⟩:=aw.mp hc;have h1:=lookup_of_mem_nodup ndC hm;refine ⟨y,?_⟩;unfold qY;cases b with
  |true =>
   have:(y == x)=false:=bo.mpr fun z=>(bc.mp ndF).1 (by rw [← hcl,← z];exact aw.mpr ⟨_,hm,rfl⟩)
   show List.lookup y ((x,_)::cl)=_;rw [aS,this];exact h1
  |false=>exact h1
 have fin:∀{h1:Heap} {tk:Nat} {m:Str→Option Value},h1.Ns s.heap.objs.size m→(b=false→m x=some u)→(b=true→h1.IsCell (s.heap.objs.size+1) (some u))→(∀b o,s.heap.get? b=some o→h1.get? b=some o)→
   codeAny (model P w) A (.func body (PySem.W.envX qual scope s.heap.objs.size f cdv (qY b x s.heap.objs.size cl))) (CR CX outer P w H s Q E) {s with heap:=h1,toks:=tk}:=fun {h1 tk m} hns hm hC hk=>by
  have I:=DR (CX:=CX) (qual:=qual) (f:=f) (cdv:=cdv) (E:=E) (tk:=tk) S hr.hd e0 r C.cellsAt hcl hns hm hC hk;rw [← hdel] at hq;refine codeAny_func (bv (ht [] _ _ _ _ I hq) (fun fl s' hs=>?_) fun e s' hs=>hs);have fin2:∀{σ':St} {H':Hp} {v:V} {u:Value},Inv (cC CX P w K mg base N qual scope f cdv (qY b x s.heap.objs.size cl) A outer s H E) [] σ' H' s'→RelV v u→((∀c∈cl.map (·.2),H' c=none)→Q v (qZ H' H (cl.map (·.2))))→CE outer P w H s Q u s':=fun {σ' H' v u} J rv q=>by
   have hn:∀c∈cl.map (·.2),H' c=none:=fun c hc=>by
    obtain ⟨y,hy⟩:=hlook c hc;exact J.freeC y c hy
   have un:Un (kO outer) [] (kR H (cl.map (·.2))) H' s.heap s'.heap:=by rw [← hdel];exact J.base
   refine ⟨v,_,J.os,J.bare,Un.unhide un C.cells,HOk.unhide J.hok hn fun c hc=>?_,rv,q hn⟩;obtain ⟨o,e⟩:=C.cells c hc;refine ⟨o,e,un.keep c o (FnO.get e0.hok e) (ZB hc) (fun hin=>?_) (by intro z;cases z)⟩;have:=e0.frf c hin;rw [e] at this;cases this
  cases fl with
  |ret u =>
   obtain ⟨v,σ',H',J,rv,q⟩:=hs;exact fin2 J rv q
  |next =>
   obtain ⟨σ',H',J,q⟩:=hs;exact fin2 (v:=V.non) (u:=Value.none) J rfl q
  |brk =>
   obtain ⟨_,_,_,q⟩:=hs;exact False.elim q
  |cont =>
   obtain ⟨_,_,_,q⟩:=hs;exact False.elim q
 refine ix hr.depth (FnO.get e0.hok hf) hd S.co S.gen rfl hcode ?_;rw [hb];refine am ?_;have hnoc:=S.noc;have hpar:=S.par;cases b with
 |true =>
  obtain ⟨rest,e1,e2⟩:=hnoc;refine E6 e1 e2 S.kind fun h1 hns hc hk=>⟨lim.keeps hk,?_⟩
  exact fin (tk:=s.toks) hns (fun z=>nomatch z) (fun _=>hc) hk
 |false =>
  refine km hnoc (fun y hy=>by cases aA.mp hy;exact hpar) (fun h1 hns hsb=>⟨lim.fresh _ hsb,?_⟩) S.kind;refine fin hns (fun _=>?_) (fun z=>nomatch z) fun b o e=>hsb.extBut b o (aF (au e)) (aj _ e)
  show List.lookup x [(x,u)]=some u;rw [aS,ci]
end
theorem DW {CX:vS} {P:Program} {w:World} {K:PySem.W.Frag} {mg:Str→Option Value} {base:Heap} {b:Bool} {N fr:List Str} {x qual:Str} {params:Arguments} {body:List Stmt} {scope:Scope} {k:Nat} {sp:List Addr→List V→Sp} (S:LamScope b N x fr scope)
  (hb:∀(name:Str) (cl:List (Str×Addr)) (doc pm:Value) (an:Option Addr) (cdv ct u:Value),bindArgs (PySem.W.fnX name qual params body scope cl .none .none doc pm an cdv ct) ⟨[u],[]⟩=pure [(x,u)])
  (hbody:∀(A:Around) (outer:List Env) (s:Shared) (H:Hp) (f:Addr) (cdv:Value) (cl:List (Str×Addr)) (fvs:List V) (v:V) (Q:VK) (E:XK),cl.map (·.1)=fr→Room k (A.deeper (PySem.W.envX qual scope s.heap.objs.size f cdv (qY b x s.heap.objs.size cl)))→Z3 H (cl.map (·.2))→sp (cl.map (·.2)) fvs [v] H Q E→
   ∃t,PSs (cC CX P w K mg base N qual scope f cdv (qY b x s.heap.objs.size cl) A outer s H E) body t∧t {nx:=fun _ H'=>(∀c∈cl.map (·.2),H' c=none)→Q .non (qZ H' H (cl.map (·.2))),rt:=fun v H'=>(∀c∈cl.map (·.2),H' c=none)→Q v (qZ H' H (cl.map (·.2)))} (start N (v::fvs)) (kR H (cl.map (·.2)))) :
  FnV P w K mg base CX (k+1) (yC qual params body scope [x] fr sp):=by
 refine ⟨fun f vs H Q E h=>?_,fun A outer s H f us vs Q E hr e0 r h=>?_⟩
 ·obtain ⟨_,cl,fvs,cdv,fd,C,_⟩:=h;obtain ⟨fo,_,_,_,_,_,h1,h2,_⟩:=C.fn;exact ⟨fo,fd,h1,h2⟩
 ·obtain ⟨hl,cl,fvs,cdv,fd,C,hcl,hs⟩:=h;cases r with
  |nil=>cases hl
  |cons rv r =>
   cases r with
   |cons _ _=>cases hl
   |nil =>
    obtain ⟨fo,name,doc,pm,an,ct,_,_,hfd⟩:=C.fn;refine RT S hr e0 rv C hcl ?_ fun hr'=>hbody A outer s H f cdv cl fvs _ Q E hcl hr' C.cells hs
    rw [hfd];exact hb name cl doc pm an cdv ct _
section
variable {X:Cx}
def V6 (K:PySem.W.Frag):R2:=fun x y H Q=>∃(a b:Addr) (xs:List V),x=.ref a∧y=.ref b∧SqL K H a xs∧SqL K H b xs∧(∀z∈xs,∃c,z=.ref c)∧Q (.bl false) H
theorem T3 (hu:X.A.units<cLine):qT X (compareOp .NotEq) (V6 X.K):=by
  intro pins s σ H x y v u Q I rx ry h;obtain ⟨a,b,xs,rfl,rfl,ha,hb,hk,q⟩:=h;cases rx;cases ry;obtain ⟨its,r,pl,hz⟩:=I.list ha;obtain ⟨its2,r2,pl2,hz2⟩:=I.list hb;have hl:=r.length;have hl2:=r2.length;refine SeqAt.RcNeAt.lists (e:=fun _=>true) pl.isList pl2.isList (by rw [ak,ak,← hl,← hl2]) hu (fun j h1 h2=>?_) X.prog X.w X.xe _ ⟨.bl _,H,I,rfl,?_⟩
  · have hj:j<xs.length:=by rw [hl];simpa using h1
    obtain ⟨c,hc⟩:=hk (xs.getD j .non) (by rw [af,aa hj];exact gt hj);have r1:=QJ r h1;have r3:=QJ r2 h2;rw [hc] at r1 r3;have e1:its.toArray[j]=Value.ref c:=r1;have e2:its2.toArray[j]=Value.ref c:=r3;rw [e1,e2];exact ib _
  · have e:(!(List.range its.toArray.size).all fun _=>true)=false:=by simp
    rw [e];exact q
end
section
variable {X:Cx} {a b c d e f g h:Expr} {ta tb tc td te tf tg th:TE}
theorem j4 (h1:PE X a ta) (h2:PE X b tb) (h3:PE X c tc) (s1:starEach [a,b,c] X.env=(false,eval a X.env)::starEach [b,c] X.env:=by rfl) (s2:starEach [b,c] X.env=(false,eval b X.env)::starEach [c] X.env:=by rfl) (s3:starEach [c] X.env=(false,eval c X.env)::starEach [] X.env:=by rfl):PA X [a,b,c] (yB ta (yB tb (yB tc QD))):=jB h1 (jB h2 (jB h3 jE s3) s2) s1
theorem yG (h1:PE X a ta) (h2:PE X b tb) (h3:PE X c tc) (h4:PE X d td) (s1:starEach [a,b,c,d] X.env=(false,eval a X.env)::starEach [b,c,d] X.env:=by rfl) (s2:starEach [b,c,d] X.env=(false,eval b X.env)::starEach [c,d] X.env:=by rfl) (s3:starEach [c,d] X.env=(false,eval c X.env)::starEach [d] X.env:=by rfl) (s4:starEach [d] X.env=(false,eval d X.env)::starEach [] X.env:=by rfl):PA X [a,b,c,d] (yB ta (yB tb (yB tc (yB td QD)))):=jB h1 (jB h2 (jB h3 (jB h4 jE s4) s3) s2) s1
theorem eK (h1:PE X a ta) (h2:PE X b tb) (h3:PE X c tc) (h4:PE X d td) (h5:PE X e te) (s1:starEach [a,b,c,d,e] X.env=(false,eval a X.env)::starEach [b,c,d,e] X.env:=by rfl) (s2:starEach [b,c,d,e] X.env=(false,eval b X.env)::starEach [c,d,e] X.env:=by rfl) (s3:starEach [c,d,e] X.env=(false,eval c X.env)::starEach [d,e] X.env:=by rfl) (s4:starEach [d,e] X.env=(false,eval d X.env)::starEach [e] X.env:=by rfl) (s5:starEach [e] X.env=(false,eval e X.env)::starEach [] X.env:=by rfl):PA X [a,b,c,d,e] (yB ta (yB tb (yB tc (yB td (yB te QD))))):=jB h1 (jB h2 (jB h3 (jB h4 (jB h5 jE s5) s4) s3) s2) s1
theorem WY (h1:PE X a ta) (h2:PE X b tb) (h3:PE X c tc) (h4:PE X d td) (h5:PE X e te) (h6:PE X f tf) (s1:starEach [a,b,c,d,e,f] X.env=(false,eval a X.env)::starEach [b,c,d,e,f] X.env:=by rfl) (s2:starEach [b,c,d,e,f] X.env=(false,eval b X.env)::starEach [c,d,e,f] X.env:=by rfl) (s3:starEach [c,d,e,f] X.env=(false,eval c X.env)::starEach [d,e,f] X.env:=by rfl) (s4:starEach [d,e,f] X.env=(false,eval d X.env)::starEach [e,f] X.env:=by rfl) (s5:starEach [e,f] X.env=(false,eval e X.env)::starEach [f] X.env:=by rfl) (s6:starEach [f] X.env=(false,eval f X.env)::starEach [] X.env:=by rfl):PA X [a,b,c,d,e,f] (yB ta (yB tb (yB tc (yB td (yB te (yB tf QD)))))):=jB h1 (jB h2 (jB h3 (jB h4 (jB h5 (jB h6 jE s6) s5) s4) s3) s2) s1
theorem jX (i:Nat) {x:Str} {pos pos':Pos} (hN:X.N.Nodup) (he:PE X a ta) (hi:X.N[i]?=some x:=by rfl) (hx:cS X.env.scope x:=by first|exact .inl rfl|exact .inr rfl) (hs:swapsWith a (some (.Name x pos')) pos.line X.env=pure false:=by rfl) (hf:X.fn x=true∨X.env.scope.names.lookup x=some .local:=by first|exact .inl rfl|exact .inr rfl|assumption):PS X (.Assign [.Name x pos'] a pos) (uV ta (b7 i)):=GM hN hi hx he hs hf
theorem kP (K:PySem.W.Frag) {p pos:Pos} (hm:X.mg "len"=none) (ha:PE X a ta) (hK:X.K=K:=by rfl) (hg:Gl X "len":=by rfl) (he:starEach [a] X.env=(false,eval a X.env)::starEach [] X.env:=by rfl) (hpl:(backTo pos (starEach [] X.env)).any (·.1)=false:=by rfl):PE X (.Call (.Name "len" p) [a] [] pos) (wI (fun xs H Q=>∃p ys,xs=[.ref p]∧(SqL K H p ys∨SqT K H p ys)∧Q (.int ys.length) H) (yB ta QD)):=y6 (MU K hK) hg hm PySem.boot_len (jB ha jE he) (he:=he) (hpl:=hpl)
theorem jO {pos:Pos} (h:PE X a ta):PSs X [.Return (some a) pos] (FO ta):=kX (GL h)
end
abbrev jT (n:Nat) (N:List Str) (st:Stmt):Prop:=FnScope N (N.take n) (jM st)
abbrev kH (K:PySem.W.Frag) (x:Str) (st:Stmt) (f:Addr) (fd:FuncData):Prop:=Fun K x x st f fd
abbrev kG (K:PySem.W.Frag) (x:Str) (st:Stmt):Prop:=∃f fd,PySem.W.nsIn K mainGlobals x=some (some (.ref f))∧Fun K x x st f fd
section
variable {P:Program} {w:World} {K:PySem.W.Frag} {mg:Str→Option Value} {base h:Heap} {x q:Str} {st:Stmt} {f:Addr} {fd:FuncData} {k:Nat} {sp:Sp} {p0 p1 p2 p3 p4 p5 p6:Str}
theorem fnT_mk {oc:Value} {od an:Option Addr} {osl:Array (Option Value)} {kV doc pm cdv ct:Value} (a:PySem.W.nsIn K mainGlobals x=some (some (.ref f))) (l:K.lookup f=some ⟨oc,od,.func (PySem.W.fnOf x x (kN st) (kD st) (jM st) .none kV doc pm an cdv ct),osl⟩) (c:PySem.W.codeIn K cdv x=true) (k:PySem.W.keepIn K (.ref f)=true):kG K x st:=⟨_,_,a,cV l c k⟩
theorem wL (X:K.In h) (G:h.Ns mainGlobals mg) (a:PySem.W.nsIn K mainGlobals x=some (some (.ref f))) (F:Fun K x q st f fd) (ok:FnOk P w K mg base jK k f fd [p0] sp) (hb:∀(kV doc pm:Value) (an:Option Addr) (cdv ct a0:Value),bindArgs (PySem.W.fnOf x q (kN st) (kD st) (jM st) .none kV doc pm an cdv ct) ⟨[a0],[]⟩=pure ([p0].zip [a0]):=by intros;rfl):Def P w K mg base k x [p0] [] sp:=bY ok (ba X G a) F.kp (F.binds fun kV doc pm an cdv ct=>nF (hb kV doc pm an cdv ct))
theorem yY (X:K.In h) (G:h.Ns mainGlobals mg) (a:PySem.W.nsIn K mainGlobals x=some (some (.ref f))) (F:Fun K x q st f fd) (ok:FnOk P w K mg base jK k f fd [p0,p1] sp) (hb:∀(kV doc pm:Value) (an:Option Addr) (cdv ct a0 a1:Value),bindArgs (PySem.W.fnOf x q (kN st) (kD st) (jM st) .none kV doc pm an cdv ct) ⟨[a0,a1],[]⟩=pure ([p0,p1].zip [a0,a1]):=by intros;rfl):Def P w K mg base k x [p0,p1] [] sp:=bY ok (ba X G a) F.kp (F.binds fun kV doc pm an cdv ct=>eJ (hb kV doc pm an cdv ct))
theorem yM (X:K.In h) (G:h.Ns mainGlobals mg) (a:PySem.W.nsIn K mainGlobals x=some (some (.ref f))) (F:Fun K x q st f fd) (ok:FnOk P w K mg base jK k f fd [p0,p1,p2] sp) (hb:∀(kV doc pm:Value) (an:Option Addr) (cdv ct a0 a1 a2:Value),bindArgs (PySem.W.fnOf x q (kN st) (kD st) (jM st) .none kV doc pm an cdv ct) ⟨[a0,a1,a2],[]⟩=pure ([p0,p1,p2].zip [a0,a1,a2]):=by intros;rfl):Def P w K mg base k x [p0,p1,p2] [] sp:=bY ok (ba X G a) F.kp (F.binds fun kV doc pm an cdv ct=>gP (hb kV doc pm an cdv ct))
theorem W2 (X:K.In h) (G:h.Ns mainGlobals mg) (a:PySem.W.nsIn K mainGlobals x=some (some (.ref f))) (F:Fun K x q st f fd) (ok:FnOk P w K mg base (vT P w) k f fd [p0,p1,p2] sp) (hb:∀(kV doc pm:Value) (an:Option Addr) (cdv ct a0 a1 a2:Value),bindArgs (PySem.W.fnOf x q (kN st) (kD st) (jM st) .none kV doc pm an cdv ct) ⟨[a0,a1,a2],[]⟩=pure ([p0,p1,p2].zip [a0,a1,a2]):=by intros;rfl):DefX P w K mg base k x [p0,p1,p2] [] sp:=EZ ok (ba X G a) F.kp (F.binds fun kV doc pm an cdv ct=>gP (hb kV doc pm an cdv ct))
theorem QG (X:K.In h) (G:h.Ns mainGlobals mg) (a:PySem.W.nsIn K mainGlobals x=some (some (.ref f))) (F:Fun K x q st f fd) (ok:FnOk P w K mg base jK k f fd [p0,p1,p2,p3] sp) (hb:∀(kV doc pm:Value) (an:Option Addr) (cdv ct a0 a1 a2 a3:Value),bindArgs (PySem.W.fnOf x q (kN st) (kD st) (jM st) .none kV doc pm an cdv ct) ⟨[a0,a1,a2,a3],[]⟩=pure ([p0,p1,p2,p3].zip [a0,a1,a2,a3]):=by intros;rfl):Def P w K mg base k x [p0,p1,p2,p3] [] sp:=bY ok (ba X G a) F.kp (F.binds fun kV doc pm an cdv ct=>nE (hb kV doc pm an cdv ct))
theorem nL (X:K.In h) (G:h.Ns mainGlobals mg) (a:PySem.W.nsIn K mainGlobals x=some (some (.ref f))) (F:Fun K x q st f fd) (ok:FnOk P w K mg base (vT P w) k f fd [p0,p1,p2,p3] sp) (hb:∀(kV doc pm:Value) (an:Option Addr) (cdv ct a0 a1 a2 a3:Value),bindArgs (PySem.W.fnOf x q (kN st) (kD st) (jM st) .none kV doc pm an cdv ct) ⟨[a0,a1,a2,a3],[]⟩=pure ([p0,p1,p2,p3].zip [a0,a1,a2,a3]):=by intros;rfl):DefX P w K mg base k x [p0,p1,p2,p3] [] sp:=EZ ok (ba X G a) F.kp (F.binds fun kV doc pm an cdv ct=>nE (hb kV doc pm an cdv ct))
theorem W3 (X:K.In h) (G:h.Ns mainGlobals mg) (a:PySem.W.nsIn K mainGlobals x=some (some (.ref f))) (F:Fun K x q st f fd) (ok:FnOk P w K mg base jK k f fd [p0,p1,p2,p3,p4] sp) (hb:∀(kV doc pm:Value) (an:Option Addr) (cdv ct a0 a1 a2 a3 a4:Value),bindArgs (PySem.W.fnOf x q (kN st) (kD st) (jM st) .none kV doc pm an cdv ct) ⟨[a0,a1,a2,a3,a4],[]⟩=pure ([p0,p1,p2,p3,p4].zip [a0,a1,a2,a3,a4]):=by intros;rfl):Def P w K mg base k x [p0,p1,p2,p3,p4] [] sp:=bY ok (ba X G a) F.kp (F.binds fun kV doc pm an cdv ct=>wG (hb kV doc pm an cdv ct))
abbrev yJ (K:PySem.W.Frag) (C:Addr) (x q:Str) (st:Stmt):Prop:=∃f fd,PySem.W.findIn K (.ref C) x=some (some (.ref f))∧PySem.W.isFn K (.ref f)=true∧Fun K x q st f fd
abbrev vE (K:PySem.W.Frag) (x:Str) (v:Option Value):Prop:=PySem.W.nsIn K mainGlobals x=some v
abbrev qH (K:PySem.W.Frag) (C:Addr) (x:Str) (v:Option Value):Prop:=PySem.W.findIn K (.ref C) x=some v
theorem nsP_mk {v:Option Value} (h:PySem.W.nsIn K mainGlobals x=some v):vE K x v:=h
theorem fnP_mk {C:Addr} {v:Option Value} (h:PySem.W.findIn K (.ref C) x=some v):qH K C x v:=h
theorem fnC_mk {C:Addr} {oc:Value} {od an:Option Addr} {osl:Array (Option Value)} {kV doc pm cdv ct:Value} (a:PySem.W.findIn K (.ref C) x=some (some (.ref f))) (i:PySem.W.isFn K (.ref f)=true) (l:K.lookup f=some ⟨oc,od,.func (PySem.W.fnOf x q (kN st) (kD st) (jM st) .none kV doc pm an cdv ct),osl⟩) (c:PySem.W.codeIn K cdv q=true) (k:PySem.W.keepIn K (.ref f)=true):yJ K C x q st:=⟨_,_,a,i,cV l c k⟩
theorem QE {C:Addr} (cl:Cls K C) (a:PySem.W.findIn K (.ref C) x=some (some (.ref f))) (i:PySem.W.isFn K (.ref f)=true) (F:Fun K x q st f fd) (ok:FnOk P w K mg base jK k f fd [p0] sp) (hb:∀(kV doc pm:Value) (an:Option Addr) (cdv ct a0:Value),bindArgs (PySem.W.fnOf x q (kN st) (kD st) (jM st) .none kV doc pm an cdv ct) ⟨[a0],[]⟩=pure ([p0].zip [a0]):=by intros;rfl):MeD P w K mg base k C x [p0] sp:=⟨cl,_,_,⟨a,i,F.kp⟩,ok,F.binds fun kV doc pm an cdv ct=>nF (hb kV doc pm an cdv ct)⟩
theorem eM {C:Addr} (cl:Cls K C) (a:PySem.W.findIn K (.ref C) x=some (some (.ref f))) (i:PySem.W.isFn K (.ref f)=true) (F:Fun K x q st f fd) (ok:FnOk P w K mg base jK k f fd [p0,p1] sp) (hb:∀(kV doc pm:Value) (an:Option Addr) (cdv ct a0 a1:Value),bindArgs (PySem.W.fnOf x q (kN st) (kD st) (jM st) .none kV doc pm an cdv ct) ⟨[a0,a1],[]⟩=pure ([p0,p1].zip [a0,a1]):=by intros;rfl):MeD P w K mg base k C x [p0,p1] sp:=⟨cl,_,_,⟨a,i,F.kp⟩,ok,F.binds fun kV doc pm an cdv ct=>eJ (hb kV doc pm an cdv ct)⟩
theorem WZ {C:Addr} (cl:Cls K C) (a:PySem.W.findIn K (.ref C) x=some (some (.ref f))) (i:PySem.W.isFn K (.ref f)=true) (F:Fun K x q st f fd) (ok:FnOk P w K mg base jK k f fd [p0,p1,p2] sp) (hb:∀(kV doc pm:Value) (an:Option Addr) (cdv ct a0 a1 a2:Value),bindArgs (PySem.W.fnOf x q (kN st) (kD st) (jM st) .none kV doc pm an cdv ct) ⟨[a0,a1,a2],[]⟩=pure ([p0,p1,p2].zip [a0,a1,a2]):=by intros;rfl):MeD P w K mg base k C x [p0,p1,p2] sp:=⟨cl,_,_,⟨a,i,F.kp⟩,ok,F.binds fun kV doc pm an cdv ct=>gP (hb kV doc pm an cdv ct)⟩
end
section
variable {X:Cx} {scope:Scope}
theorem cQ {x:Str} {iter elt:Expr} {ifs:List Expr} {p pos:Pos} {wi:TI} {tc:TT} {te:TE} (N:List Str) (is:List Nat) (S:CompScope X scope) (hi:PI X (.Name x p) iter wi) (hc:∀C s H pins fp,eO (vI X N scope C s H pins fp) ifs tc) (he:∀C s H pins fp,PE (vI X N scope C s H pins fp) elt te)
  (hnd:N.Nodup:=by decide +kernel) (hcap:Z9 X N scope (q9 1 is):=by exact cps 1 _) (h0:N[0]?=some x:=by rfl) (hl:∀C s H pins fp,List.lookup x (vI X N scope C s H pins fp).env.scope.names=some .local:=by intros;rfl) (hcalm:X.calm=true:=by rfl) (hs:∀x,foldedSetIterable iter X.env x=pure x:=by intro _;rfl):PE X (.ListComp elt [⟨.Name x p,iter,ifs,0⟩] scope pos) (uK wi (q9 1 is) (b7 0) tc te) :=
 QL N (q9 1 is) hcalm S hcap hi (fun C s H pins fp=>kC (X:=vI X N scope C s H pins fp) hnd h0 (.inl (hl C s H pins fp)) (.inr (hl C s H pins fp))) hc he hs
theorem gI {x:Str} {iter elt:Expr} {p pos:Pos} {wi:TI} {te:TE} (N:List Str) (is:List Nat) (S:CompScope X scope) (hi:PI X (.Name x p) iter wi) (he:∀C s H pins fp,PE (vI X N scope C s H pins fp) elt te)
  (hnd:N.Nodup:=by decide +kernel) (hcap:Z9 X N scope (q9 1 is):=by exact cps 1 _) (h0:N[0]?=some x:=by rfl) (hl:∀C s H pins fp,List.lookup x (vI X N scope C s H pins fp).env.scope.names=some .local:=by intros;rfl) (hcalm:X.calm=true:=by rfl) (hs:∀x,foldedSetIterable iter X.env x=pure x:=by intro _;rfl):PE X (.ListComp elt [⟨.Name x p,iter,[],0⟩] scope pos) (uK wi (q9 1 is) (b7 0) uU te) :=
 QL N (q9 1 is) hcalm S hcap hi (fun C s H pins fp=>kC (X:=vI X N scope C s H pins fp) hnd h0 (.inl (hl C s H pins fp)) (.inr (hl C s H pins fp))) (fun _ _ _ _ _=>zF) he hs
end
section
variable {X:Cx} {k:Nat} {sp:Addr→Sp} {x:Str} {p pos:Pos} {e:Expr} {es:List Expr} {t:TA} {i:Nat} {cs:List (Nat×Addr)}
abbrev GC (cs:List (Nat×Addr)) (sp:Addr→Sp) (f:Addr) (σ:St) (Q:VK) (vs:List V) (H1:Hp):Prop:=(∀p∈cs,∃v,σ[p.1]?=some (some v))∧
 ∀HC:Hp,(∀p∈cs,∃v o u,σ[p.1]?=some (some v)∧HC p.2=some (FnO p.2 o)∧o.data=.cell (some u)∧RelV v u)→(∀p∈cs,H1 p.2=none)→
  sp f vs (qZ H1 HC (cs.map (·.2))) (fun v H'=>(∀p∈cs,H' p.2=HC p.2)∧Q v (kR H' (cs.map (·.2)))) E0
def R8 (cs:List (Nat×Addr)) (i:Nat) (sp:Addr→Sp) (t:TA):TE:=fun σ H Q=>∃f,σ[i]?=some (some (.ref f))∧t σ H (GC cs sp f σ Q)
theorem OR (F:FnV X.prog X.w X.K X.mg X.base jK k sp) (hr:Room k X.A) (hN:X.N[i]?=some x) (hv:eN X.env.scope x) (hcs:fW X cs) (ha:PA X (e::es) t) (hd:(x == ("__debug__":Str))=false:=by decide) (hcd:(x == ("__classdict__":Str))=false:=by decide)
  (he:starEach (e::es) X.env=(false,eval e X.env)::starEach es X.env:=by rfl) (hpl:(backTo pos (starEach es X.env)).any (·.1)=false:=by rfl):PE X (.Call (.Name x p) (e::es) [] pos) (R8 cs i sp t):=by
 intro pins s σ H Q I h;obtain ⟨f,e1,h⟩:=h;refine cq (jN (uB hN hv hd hcd pins s σ H (fun v H'=>v=V.ref f∧t σ H' (GC cs sp f σ Q)) I ⟨.ref f,e1,rfl,h⟩) fun u s1 ⟨x',H1,I1,rx,ex,q1⟩=>?_);subst ex;obtain rfl:u=Value.ref f:=rx;refine w9 (jN (ha pos pins s1 σ H1 _ I1 q1) fun us s2 ⟨vs,H2,I2,r,q2,q3⟩=>?_) he hpl;obtain ⟨HC,h1,h2,e0,fin⟩:=EX hcs I2 q2;have hs:=q3 HC h1 h2;obtain ⟨fo,fd,g1,g2⟩:=F.fn _ _ _ _ _ hs;exact ⟨fo,fd,FnO.get e0.hok g1,g2,fin f us Q (F.run X.A X.stack s2 _ f us vs _ E0 hr e0 r hs)⟩
def V8 (K:PySem.W.Frag):R2:=fun x y H Q=>∃(a b:Addr) (xs:List V),x=.ref a∧y=.ref b∧SqL K H a xs∧SqL K H b xs∧(∀z∈xs,∃c,z=.ref c)∧Q (.bl true) H
theorem T4 (hu:X.A.units<cLine):qT X (compareOp .Eq) (V8 X.K):=by
  intro pins s σ H x y v u Q I rx ry h;obtain ⟨a,b,xs,rfl,rfl,ha,hb,hk,q⟩:=h;cases rx;cases ry;obtain ⟨its,r,pl,hz⟩:=I.list ha;obtain ⟨its2,r2,pl2,hz2⟩:=I.list hb;have hl:=r.length;have hl2:=r2.length;have h:=SeqAt.RcAt.lists (A:=X.A) (e:=fun _=>true) pl.isList pl2.isList (by rw [ak,ak,← hl,← hl2]) hu (fun j h1 h2=>by
    have hj:j<xs.length:=by rw [hl];simpa using h1
    obtain ⟨c,hc⟩:=hk (xs.getD j .non) (by rw [af,aa hj];exact gt hj);have r1:=QJ r h1;have r3:=QJ r2 h2;rw [hc] at r1 r3;have e1:its.toArray[j]=Value.ref c:=r1;have e2:its2.toArray[j]=Value.ref c:=r3;rw [e1,e2];exact ib _)
  rw [CY] at h;exact h X.prog X.w X.xe _ ⟨.bl true,H,I,rfl,q⟩
def WA (K:PySem.W.Frag):R2:=fun x y H Q=>∃(a b:Addr) (xs:List V),x=.ref a∧y=.ref b∧SqL K H a xs∧SqL K H b []∧Q (.bl xs.isEmpty) H
theorem T6 (hu:X.A.units<cLine):qT X (compareOp .Eq) (WA X.K):=by
 intro pins s σ H x y v u Q I rx ry h;obtain ⟨a,b,xs,rfl,rfl,ha,hb,q⟩:=h;cases rx;cases ry;obtain ⟨its,r,pl,hz⟩:=I.list ha;obtain ⟨its2,r2,pl2,hz2⟩:=I.list hb;have hl:=r.length;have hl2:=r2.length;cases xs with
 |nil =>
  have h:=SeqAt.RcAt.lists (A:=X.A) (e:=fun _=>true) pl.isList pl2.isList (by rw [ak,ak,← hl,← hl2]) hu (fun j h1 h2=>absurd h1 (by rw [ak,← hl];exact fv _));rw [CY] at h;exact h X.prog X.w X.xe _ ⟨.bl true,H,I,rfl,q⟩
 |cons z zs=>exact SeqAt.RcAt.lists_lengths (A:=X.A) pl.isList pl2.isList (by rw [ak,ak,← hl,← hl2];rfl) hu X.prog X.w X.xe _ ⟨.bl false,H,I,rfl,q⟩
end
end L2
namespace My
open PySem L2 List
theorem zz0:0≤sizeLine:=by decide
theorem zz1:1≤sizeLine:=by decide
theorem zz2:2≤sizeLine:=by decide
theorem zz3:3≤sizeLine:=by decide
theorem zz4:4≤sizeLine:=by decide
def top (i:Nat):Stmt:=PySem.Challenge.pw_lockhouse_k57_knots.main.body.getD i (.Pass ⟨0,0,0,0⟩)
abbrev pE:Stmt:=top 18
abbrev pB:Stmt:=top 20
abbrev o4:Stmt:=top 25
abbrev pK:Stmt:=top 24
abbrev iO:Stmt:=top 22
abbrev pJ:Stmt:=top 21
abbrev pP:Stmt:=top 23
abbrev iN:Stmt:=top 61
abbrev n5:Stmt:=vO (top 62) 0
abbrev nP:Stmt:=vO (top 63) 0
abbrev oG:Stmt:=vO (top 64) 0
abbrev oK:Stmt:=vO (top 58) 0
abbrev oE:Stmt:=vO (top 62) 3
abbrev nS:Stmt:=vO (top 63) 3
abbrev oJ:Stmt:=vO (top 64) 2
abbrev oB:Stmt:=vO (top 62) 4
abbrev nQ:Stmt:=vO (top 63) 4
abbrev oH:Stmt:=vO (top 64) 3
abbrev oC:Stmt:=vO (top 62) 1
abbrev nR:Stmt:=vO (top 63) 1
abbrev oI:Stmt:=vO (top 64) 1
abbrev oF:Stmt:=vO (top 62) 2
abbrev nU:Stmt:=vO (top 63) 2
abbrev bG:Stmt:=vO (top 59) 0
abbrev nZ:Stmt:=vO (top 59) 6
abbrev n4:Stmt:=vO (top 59) 7
abbrev nY:Stmt:=vO (top 59) 3
abbrev nW:Stmt:=vO (top 59) 4
abbrev nV:Stmt:=vO (top 59) 5
abbrev iA:Stmt:=vO (top 59) 8
abbrev gZ:Stmt:=vO (top 59) 9
abbrev nX:Stmt:=vO (top 59) 10
abbrev iH:Stmt:=top 29
abbrev iK:Stmt:=top 30
abbrev iI:Stmt:=top 33
abbrev iF:Stmt:=top 32
abbrev pD:Stmt:=top 31
abbrev pL:Stmt:=top 9
abbrev o6:Stmt:=top 8
abbrev pM:Stmt:=top 15
abbrev pG:Stmt:=top 10
abbrev iL:Stmt:=top 11
abbrev cX:Stmt:=top 27
abbrev oY:Stmt:=top 12
abbrev o9:Stmt:=top 16
abbrev iM:Stmt:=top 45
abbrev oV:Stmt:=top 44
abbrev iG:Stmt:=top 41
abbrev pC:Stmt:=top 39
abbrev o5:Stmt:=top 40
abbrev oZ:Stmt:=top 38
abbrev oX:Stmt:=top 37
abbrev pN:Stmt:=top 36
abbrev pO:Stmt:=top 35
abbrev pF:Stmt:=top 42
abbrev oS:Stmt:=top 43
abbrev cW:Stmt:=top 46
abbrev iP:Stmt:=top 14
abbrev oU:Stmt:=top 13
abbrev o0:Stmt:=top 52
abbrev kZ:Stmt:=top 55
abbrev kQ:Stmt:=top 54
abbrev pI:Stmt:=top 50
abbrev o8:Stmt:=top 49
abbrev iJ:Stmt:=top 48
abbrev oM:Stmt:=top 66
abbrev oQ:Stmt:=top 67
abbrev oP:Stmt:=top 68
abbrev eP:Stmt:=top 69
abbrev eQ:Stmt:=top 70
abbrev iE:Stmt:=top 71
abbrev oN:Stmt:=top 75
abbrev qR:Stmt:=FG (top 78) 4
abbrev vB:Stmt:=FG (top 78) 5
abbrev iC:Stmt:=top 74
abbrev oO:Stmt:=top 73
abbrev o7:Stmt:=top 53
abbrev oR:Stmt:=top 76
abbrev iB:Stmt:=top 72
abbrev iD:Stmt:=top 77
abbrev JK:Stmt:=top 78
abbrev gX (K:W.Frag) (x q:Str) (st:Stmt) (f:Addr):Prop:=∃fd,Fun K x q st f fd
variable {K:W.Frag} {H H':Hp} {a:Addr} {xs:List V}
theorem uM (e:Same H H') (h:SqT K H a xs):SqT K H' a xs:=by
 rcases h with (h|⟨o,h⟩)|h
 ·exact .inl (.inl (e _ _ h))
 ·exact .inl (.inr ⟨o,e _ _ h⟩)
 ·exact .inr h
theorem jJ {p:Addr} (h:H p=none) (o:HO):Same H (upd H p o):=fun b u q=>by rw [jH (q8 q h)];exact q
variable {n:Nat}
theorem small (h:n≤1000):n≤sizeLine:=gj (yN h)
def Ints (K:W.Frag) (H:Hp) (a:Addr) (ws:List Int):Prop:=SqL K H a (ws.map V.int)∨SqT K H a (ws.map V.int)
theorem Ints.same {ws:List Int} (e:Same H H') (h:Ints K H a ws):Ints K H' a ws:=by
 rcases h with h|h
 ·exact .inl (e.seq h)
 ·exact .inr (uM e h)
variable {s:Nat}
theorem dL (h:s<n):zQ n (s:Int)=some s:=by
 unfold zQ;rw [if_pos (by omega),if_pos (by omega)];simp
theorem zI {ws:List Int} (h:s<ws.length):vF (ws.map V.int) (s:Int)=some (.int (ws.getD s 0)):=by
 refine qB ?_;rw [av,aa h,af,aa h];rfl
theorem PX {p:Addr} {ws:List Int} {Q:VK} (h:Ints K H p ws) (hs:s<ws.length) (q:Q (.int (ws.getD s 0)) H):wJ K (.ref p) (.int s) H Q:=by
 rcases h with h|h
 ·exact .inl ⟨p,_,s,_,rfl,rfl,h,zI hs,q⟩
 ·exact .inr (.inl ⟨p,_,s,_,rfl,rfl,h,zI hs,q⟩)
theorem dA (ws:List Int) (s:Nat) (z:Int):(ws.map V.int).set s (V.int z)=(ws.set s z).map V.int:=by rw [map_set]
theorem OI {a b:Int} (h:0<b):∃k:Nat,a%b=(k:Int)∧(k:Int)<b:=by
 have h1:=ij a (by omega:b≠0);have h2:=gg a h;exact ⟨(a%b).toNat,by omega,by omega⟩
def pour (ws:List Int) (q:Nat×Nat×Int):List Int:=((ws.set q.1 (ws.getD q.1 0 - q.2.2))).set q.2.1 ((ws.set q.1 (ws.getD q.1 0 - q.2.2)).getD q.2.1 0+q.2.2)
theorem xJ (ws:List Int) (q:Nat×Nat×Int):(pour ws q).length=ws.length:=by unfold pour;rw [cx,cx]
def kK (ws:List Int) (qs:List (Nat×Nat×Int)):List Int:=qs.foldl pour ws
theorem JZ (qs:List (Nat×Nat×Int)):∀ws:List Int,(kK ws qs).length=ws.length:=by
 induction qs with
 |nil=>intro ws;rfl
 |cons q r ih=>intro ws;show (kK (pour ws q) r).length=_;rw [ih,xJ]
theorem MX (ws:List Int) (qs:List (Nat×Nat×Int)) (q:Nat×Nat×Int):kK ws (qs++[q])=pour (kK ws qs) q:=by
 unfold kK;rw [fz];rfl
theorem pW (ws:List Int) (qs:List (Nat×Nat×Int)) (i:Nat) (q:Nat×Nat×Int) (h:qs[i]?=some q):kK ws (qs.take (i+1))=pour (kK ws (qs.take i)) q:=by
 rw [aC,h];exact MX ..
def ED (K:W.Frag) (H:Hp) (rs:List V) (qs:List (Nat×Nat×Int)) (n:Nat):Prop :=
 rs.length=qs.length∧∀(i:Nat) (r:V),rs[i]?=some r→∃(a:Addr) (s t:Nat) (m:Int),r=.ref a∧qs[i]?=some (s,t,m)∧SqT K H a [.int s,.int t,.int m]∧s<n∧t<n
def gA (K:W.Frag):Sp:=fun vs H Q _=>∃(w p:Addr) (ws:List Int) (rs:List V) (qs:List (Nat×Nat×Int)),vs=[.ref w,.ref p]∧Ints K H w ws∧SqL K H p rs∧ED K H rs qs ws.length∧ws.length≤1000∧
 ∀(r:Addr) (H':Hp),Same H H'→H r=none→H' r=some (.tup ((kK ws qs).map V.int))→Q (.ref r) H'
def Keep (d:Addr) (H H':Hp):Prop:=∀b o,b≠d→H b=some o→H' b=some o
theorem Keep.refl (d:Addr) (H:Hp):Keep d H H:=fun _ _ _ q=>q
variable {d:Addr}
theorem Keep.of (s:Same H H'):Keep d H H':=fun b o _ q=>s b o q
variable {H1:Hp}
theorem Keep.trans {H2:Hp} (a:Keep d H H1) (b:Keep d H1 H2):Keep d H H2:=fun c o n q=>b c o n (a c o n q)
theorem Keep.upd (k:Keep d H H') (o:HO):Keep d H (upd H' d o):=fun b u n q=>by rw [jH n];exact k b u n q
variable {ys:List V}
theorem Keep.sqt (k:Keep d H H') (hd:H d=some (.lst ys)) (h:SqT K H a xs):SqT K H' a xs:=by
 rcases h with (h|⟨o,h⟩)|h
 ·exact .inl (.inl (k _ _ (QZ h hd (fun z=>nomatch z)) h))
 ·exact .inl (.inr ⟨o,k _ _ (QZ h hd (fun z=>nomatch z)) h⟩)
 ·exact .inr h
def yR (n h l r:V):List (Str×V):=jW "room" r (jW "low" l (jW "high" h (jW "name" n [])))
theorem U7:¬(("name":Str)="high"):=by decide +kernel
theorem U6:¬(("name":Str)="low"):=by decide +kernel
theorem U5:¬(("name":Str)="room"):=by decide +kernel
theorem VA:¬(("high":Str)="low"):=by decide +kernel
theorem U9:¬(("high":Str)="room"):=by decide +kernel
theorem U8:¬(("low":Str)="room"):=by decide +kernel
theorem SV (n h l r:V):(yR n h l r).lookup ("name":Str)=some n:=by
 unfold yR;rw [v9,if_neg U5,v9,if_neg U6,v9,if_neg U7,v9,if_pos rfl]
theorem SW (n h l r:V):(yR n h l r).lookup ("high":Str)=some h:=by
 unfold yR;rw [v9,if_neg U9,v9,if_neg VA,v9,if_pos rfl]
theorem T9 (n h l r:V):(yR n h l r).lookup ("low":Str)=some l:=by
 unfold yR;rw [v9,if_neg U8,v9,if_pos rfl]
theorem SU (n h l r:V):(yR n h l r).lookup ("room":Str)=some r:=by
 unfold yR;rw [v9,if_pos rfl]
theorem mP (n h l r:V) {m:Str} (h1:¬m="room") (h2:¬m="low") (h3:¬m="high") (h4:¬m="name"):(yR n h l r).lookup m=none:=by
 unfold yR;rw [v9,if_neg h1,v9,if_neg h2,v9,if_neg h3,v9,if_neg h4];rfl
def PartsAt (H:Hp) (rs:List V) (ps:List (Str×Int)):Prop:=rs.length=ps.length∧∀(i:Nat) (r:V),rs[i]?=some r→∃(a:Addr) (s:Str) (n:Int),r=.ref a∧ps[i]?=some (s,n)∧H a=some (.tup [.str s,.int n])
theorem PartsAt.nil:PartsAt H [] []:=⟨rfl,fun i r hi=>by cases hi⟩
variable {rs:List V}
theorem PartsAt.keep {ps:List (Str×Int)} (k:Keep d H H') (hd:H d=some (.lst ys)) (h:PartsAt H rs ps):PartsAt H' rs ps:=by
 refine ⟨h.1,fun i r hi=>?_⟩;obtain ⟨a,s,n,h1,h2,h3⟩:=h.2 i r hi;exact ⟨a,s,n,h1,h2,k _ _ (QZ h3 hd (fun z=>nomatch z)) h3⟩
theorem PartsAt.snoc {ps:List (Str×Int)} {s:Str} {n:Int} (h:PartsAt H rs ps) (ht:H a=some (.tup [.str s,.int n])):PartsAt H (rs++[.ref a]) (ps++[(s,n)]):=by
 refine ⟨by rw [ag,ag,h.1];rfl,fun i r hi=>?_⟩
 by_cases hl:i<rs.length
 ·rw [aq hl] at hi;obtain ⟨b,s',n',h1,h2,h3⟩:=h.2 i r hi;exact ⟨b,s',n',h1,by rw [aq (by rw [← h.1];exact hl)];exact h2,h3⟩
 ·rw [ap (by omega)] at hi;have hz:i - rs.length=0:=by
   have:=(ad.mp hi).1;rw [aN] at this;omega
  rw [hz] at hi;have e:V.ref a=r:=aE hi;refine ⟨a,s,n,e.symm,?_,ht⟩;rw [ap (by rw [← h.1];omega),← h.1,hz];rfl
def zG (q:Str×Int):Bool := !decide (q.2=0)
def dY (K:W.Frag):Sp:=fun vs H Q _=>∃(p:Addr) (rs:List V) (ps:List (Str×Int)),vs=[.ref p]∧SqL K H p rs∧PartsAt H rs ps∧rs.length≤10∧
 ∀(r:Addr) (H':Hp) (rs':List V),Same H H'→H r=none→H' r=some (.lst rs')→PartsAt H' rs' (ps.filter zG)→Q (.ref r) H'
def dX (e:Str) (n h l r v:V):List (Str×V):=jW e v (yR n h l r)
theorem fR (e:Str) (n h l r v:V):(dX e n h l r v).lookup e=some v:=by
 unfold dX;rw [v9,if_pos rfl]
theorem C2 {e m:Str} (ne:¬m=e) (n h l r v:V):(dX e n h l r v).lookup m=(yR n h l r).lookup m:=by
 unfold dX;rw [v9,if_neg ne]
theorem xV (n h l r:V):(yR n h l r).length<1000:=by
 have h1:=QI "high" h (jW "name" n []);have h2:=QI "low" l (jW "high" h (jW "name" n []));have h3:=QI "room" r (jW "low" l (jW "high" h (jW "name" n [])));have h4:(jW ("name":Str) n []).length=1:=rfl;unfold yR;omega
def wv (b:Bool):V:=if b then .str "up" else .str "down"
theorem UP:¬(V.str "down"=V.str "up"):=fun h=>absurd (V.str.inj h) (by decide +kernel)
def jF (cP cB cU:Addr):Kd→Addr
 |.plain=>cP
 |.basin=>cB
 |.pump=>cU
def J9 (kd:Kd) (n h l r v:V):List (Str×V):=match kd with
 |.plain=>yR n h l r
 |.basin=>dX "side" n h l r v
 |.pump=>dX "lift" n h l r v
theorem ZW (kd:Kd) (n h l r v:V) {m:Str} (h1:¬m="side") (h2:¬m="lift"):(J9 kd n h l r v).lookup m=(yR n h l r).lookup m:=by
 cases kd
 ·rfl
 ·exact C2 h1 _ _ _ _ _
 ·exact C2 h2 _ _ _ _ _
theorem S6 (kd:Kd) (n h l r v:V):(J9 kd n h l r v).lookup ("name":Str)=some n:=by rw [ZW kd _ _ _ _ _ (by decide +kernel) (by decide +kernel)];exact SV ..
theorem dN (kd:Kd) (n h l r v:V):(J9 kd n h l r v).lookup ("high":Str)=some h:=by rw [ZW kd _ _ _ _ _ (by decide +kernel) (by decide +kernel)];exact SW ..
theorem dS (kd:Kd) (n h l r v:V):(J9 kd n h l r v).lookup ("low":Str)=some l:=by rw [ZW kd _ _ _ _ _ (by decide +kernel) (by decide +kernel)];exact T9 ..
theorem dM (kd:Kd) (n h l r v:V):(J9 kd n h l r v).lookup ("room":Str)=some r:=by rw [ZW kd _ _ _ _ _ (by decide +kernel) (by decide +kernel)];exact SU ..
theorem S8 (kd:Kd) (n h l r v:V):(J9 kd n h l r v).lookup ("fill_parts":Str)=none:=by rw [ZW kd _ _ _ _ _ (by decide +kernel) (by decide +kernel)];exact mP _ _ _ _ (by decide +kernel) (by decide +kernel) (by decide +kernel) (by decide +kernel)
theorem UK (kd:Kd) (n h l r v:V):(J9 kd n h l r v).lookup ("let_parts":Str)=none:=by rw [ZW kd _ _ _ _ _ (by decide +kernel) (by decide +kernel)];exact mP _ _ _ _ (by decide +kernel) (by decide +kernel) (by decide +kernel) (by decide +kernel)
theorem S7 (kd:Kd) (n h l r v:V):(J9 kd n h l r v).lookup ("kind":Str)=none:=by rw [ZW kd _ _ _ _ _ (by decide +kernel) (by decide +kernel)];exact mP _ _ _ _ (by decide +kernel) (by decide +kernel) (by decide +kernel) (by decide +kernel)
theorem RM (kd:Kd) (n h l r v:V):(J9 kd n h l r v).lookup ("extra":Str)=none:=by rw [ZW kd _ _ _ _ _ (by decide +kernel) (by decide +kernel)];exact mP _ _ _ _ (by decide +kernel) (by decide +kernel) (by decide +kernel) (by decide +kernel)
def LockAt (cs:Kd→Addr) (H:Hp) (x:Addr) (kd:Kd) (n h l:V) (room v:Int):Prop:=∃dx:Addr,H x=some (.ins (cs kd) dx (J9 kd n h l (.int room) (.int v)))
variable {cs:Kd→Addr} {x:Addr}
theorem LockAt.same {kd:Kd} {n h l:V} {room v:Int} (e:Same H H') (a:LockAt cs H x kd n h l room v):LockAt cs H' x kd n h l room v:=by
 obtain ⟨dx,a⟩:=a;exact ⟨dx,e _ _ a⟩
def Z0 (kd:Kd) (room v b:Int):List (Str×Int):=match kd with
 |.plain=>([("high",room)]:List (Str×Int)).filter zG
 |.basin=>([("basin",b),("high",room - b)]:List (Str×Int)).filter zG
 |.pump=>([("low",v),("high",room - v)]:List (Str×Int)).filter zG
def Q1 (kd:Kd) (room v b:Int):List (Str×Int):=match kd with
 |.basin=>([("basin",v - b),("low",room - (v - b))]:List (Str×Int)).filter zG
 |_=>([("low",room)]:List (Str×Int)).filter zG
theorem BG (kd:Kd) (room v b:Int):(Z0 kd room v b).length≤2:=by
 cases kd
 ·exact aG (bd _ _) (by show 1≤2;decide)
 ·exact aG (bd _ _) (by show 2≤2;decide)
 ·exact aG (bd _ _) (by show 2≤2;decide)
theorem CK (kd:Kd) (room v b:Int):(Q1 kd room v b).length≤2:=by
 cases kd
 ·exact aG (bd _ _) (by show 1≤2;decide)
 ·exact aG (bd _ _) (by show 2≤2;decide)
 ·exact aG (bd _ _) (by show 1≤2;decide)
def JL (cs:Kd→Addr) (F:Kd→Int→Int→Int→List (Str×Int)) (kd:Kd):Sp:=fun vs H Q _=>∃(x:Addr) (n h l:V) (room v b:Int),vs=[.ref x,.int b]∧LockAt cs H x kd n h l room v∧
 ∀(r:Addr) (H':Hp) (rs:List V),Same H H'→H r=none→H' r=some (.lst rs)→PartsAt H' rs (F kd room v b)→Q (.ref r) H'
def SA (cs:Kd→Addr):Sp:=fun vs H Q _=>∃(kd:Kd) (x:Addr) (n h l:V) (room v b:Int),vs=[.ref x,.int b]∧LockAt cs H x kd n h l room v∧
 ∀(r:Addr) (H':Hp) (rs:List V),Same H H'→H r=none→H' r=some (.lst rs)→PartsAt H' rs (([("low",room)]:List (Str×Int)).filter zG)→Q (.ref r) H'
def dI (cs:Kd→Addr):Sp:=fun vs H Q _=>∃(kd:Kd) (x dx:Addr) (n h l r:V),vs=[.ref x,n,h,l,r]∧H x=some (.ins (cs kd) dx [])∧∀H':Hp,Keep x H H'→H' x=some (.ins (cs kd) dx (yR n h l r))→Q .non H'
def dH (cs:Kd→Addr) (kd:Kd):Sp:=fun vs H Q _=>∃(x dx:Addr) (n h l r v:V),vs=[.ref x,n,h,l,r,v]∧H x=some (.ins (cs kd) dx [])∧∀H':Hp,Keep x H H'→H' x=some (.ins (cs kd) dx (J9 kd n h l r v))→Q .non H'
def QM (cs:Kd→Addr) (F:Kd→Int→V) (kd:Kd):Sp:=fun vs H Q _=>∃(x:Addr) (n h l:V) (room v:Int),vs=[.ref x]∧LockAt cs H x kd n h l room v∧Q (F kd v) H
def PoursS (H:Hp) (rs:List V) (ps:List (Str×Str×Int)):Prop:=rs.length=ps.length∧∀(i:Nat) (r:V),rs[i]?=some r→∃(a:Addr) (s t:Str) (n:Int),r=.ref a∧ps[i]?=some (s,t,n)∧H a=some (.tup [.str s,.str t,.int n])
theorem PoursS.nil:PoursS H [] []:=⟨rfl,fun i r hi=>by cases hi⟩
theorem PoursS.same {ps:List (Str×Str×Int)} (e:Same H H') (h:PoursS H rs ps):PoursS H' rs ps:=by
 refine ⟨h.1,fun i r hi=>?_⟩;obtain ⟨a,s,t,n,h1,h2,h3⟩:=h.2 i r hi;exact ⟨a,s,t,n,h1,h2,e _ _ h3⟩
theorem PoursS.keep {ps:List (Str×Str×Int)} (k:Keep d H H') (hd:H d=some (.lst ys)) (h:PoursS H rs ps):PoursS H' rs ps:=by
 refine ⟨h.1,fun i r hi=>?_⟩;obtain ⟨a,s,t,n,h1,h2,h3⟩:=h.2 i r hi;exact ⟨a,s,t,n,h1,h2,k _ _ (QZ h3 hd (fun z=>nomatch z)) h3⟩
theorem PoursS.append {rs':List V} {ps ps':List (Str×Str×Int)} (h:PoursS H rs ps) (h':PoursS H rs' ps'):PoursS H (rs++rs') (ps++ps'):=by
 refine ⟨by rw [ag,ag,h.1,h'.1],fun i r hi=>?_⟩
 by_cases hl:i<rs.length
 ·rw [aq hl] at hi;obtain ⟨b,s',t',n',h1,h2,h3⟩:=h.2 i r hi;exact ⟨b,s',t',n',h1,by rw [aq (by rw [← h.1];exact hl)];exact h2,h3⟩
 ·rw [ap (by omega)] at hi;obtain ⟨b,s',t',n',h1,h2,h3⟩:=h'.2 _ r hi;exact ⟨b,s',t',n',h1,by rw [ap (by rw [← h.1];omega),← h.1];exact h2,h3⟩
theorem PoursS.one {s t:Str} {n:Int} (ht:H a=some (.tup [.str s,.str t,.int n])):PoursS H [.ref a] [(s,t,n)]:=by
 refine ⟨rfl,fun i r hi=>?_⟩;cases i with
 |zero=>exact ⟨a,s,t,n,(aE hi).symm,rfl,ht⟩
 |succ i=>cases hi
def zX (kd:Kd) (room v b:Int):List (Str×Str×Int):=(Z0 kd room v b).map fun p=>(p.1,"chamber",p.2)
def zA (kd:Kd) (room v b:Int):List (Str×Str×Int):=(Q1 kd room v b).map fun p=>("chamber",p.1,p.2)
theorem fJ (kd:Kd) (room v b:Int):(zX kd room v b).length≤2:=by unfold zX;rw [ae];exact BG ..
theorem bO (kd:Kd) (room v b:Int):(zA kd room v b).length≤2:=by unfold zA;rw [ae];exact CK ..
def ZL (p:Str×Str×Int→Bool) (qs:List (Str×Str×Int)):List Int:=(qs.filter p).map (·.2.2)
theorem AF (p:Str×Str×Int→Bool) (qs:List (Str×Str×Int)) (i:Nat) (q:Str×Str×Int) (h:qs[i]?=some q):ZL p (qs.take (i+1))=ZL p (qs.take i)++(if p q=true then [q.2.2] else []):=by
 unfold ZL;rw [aC,h];simp only [Option.toList,aT,aJ]
 by_cases c:p q=true
 ·rw [if_pos c];simp [c]
 ·rw [if_neg c];simp [c]
theorem BQ (p:Str×Str×Int→Bool) (qs:List (Str×Str×Int)) (i:Nat):(ZL p (qs.take i)).length≤i:=by
 unfold ZL;rw [ae];exact aG (bd _ _) (gw _ _)
def gR (s:Str) (q:Str×Str×Int):Bool:=decide (q.1=s)
def toS (s:Str) (q:Str×Str×Int):Bool:=decide (q.2.1=s)
def E4 (s:Str) (qs:List (Str×Str×Int)):Int:=(ZL (gR s) qs).sum
def QU (b:Int) (qs:List (Str×Str×Int)):Int:=b+(ZL (toS "basin") qs).sum - E4 "basin" qs
theorem CT (s t:Str):decide (V.str s=V.str t)=decide (s=t):=decide_eq_decide.mpr ⟨V.str.inj,fun e=>by rw [e]⟩
def fK (cs:Kd→Addr) (F:Kd→Int→Int→Int→List (Str×Str×Int)):Sp:=fun vs H Q _=>∃(x:Addr) (kd:Kd) (n h l:V) (room v b:Int),vs=[.ref x,.int b]∧LockAt cs H x kd n h l room v∧
 ∀(r:Addr) (H':Hp) (rs:List V),Same H H'→H r=none→H' r=some (.lst rs)→PoursS H' rs (F kd room v b)→Q (.ref r) H'
def DB:Sp:=fun vs H Q _=>∃(s:Str) (p:Addr) (rs:List V) (qs:List (Str×Str×Int)),vs=[.str s,.ref p]∧H p=some (.lst rs)∧PoursS H rs qs∧rs.length≤999∧∀H',Same H H'→Q (.int (E4 s qs)) H'
def DD:Sp:=fun vs H Q _=>∃(b:Int) (p:Addr) (rs:List V) (qs:List (Str×Str×Int)),vs=[.int b,.ref p]∧H p=some (.lst rs)∧PoursS H rs qs∧rs.length≤999∧∀H',Same H H'→Q (.int (QU b qs)) H'
def mL (kd:Kd) (room v:Int) (f:Bool) (b:Int) (w:Bool):List (Str×Str×Int):=match w,f with
 |true,true=>zA kd room v b++zX kd room v (QU b (zA kd room v b))
 |true,false=>zX kd room v b
 |false,true=>zA kd room v b
 |false,false=>zX kd room v b++zA kd room v (QU b (zX kd room v b))
theorem AG (b:Int):QU b []=b:=by show b+0 - 0=b;omega
theorem AZ (kd:Kd) (room v:Int) (f:Bool) (b:Int) (w:Bool):(mL kd room v f b w).length≤4:=by
 have h1:=fun b=>fJ kd room v b
 have h2:=fun b=>bO kd room v b
 cases w<;>cases f
 ·show (zX kd room v b++zA kd room v (QU b (zX kd room v b))).length≤4;rw [ag];have:=h1 b;have:=h2 (QU b (zX kd room v b));omega
 ·exact aG (h2 b) (by decide)
 ·exact aG (h1 b) (by decide)
 ·show (zA kd room v b++zX kd room v (QU b (zA kd room v b))).length≤4;rw [ag];have:=h2 b;have:=h1 (QU b (zA kd room v b));omega
def AQ (cs:Kd→Addr):Sp:=fun vs H Q _=>∃(x:Addr) (kd:Kd) (n h l:V) (room v b:Int) (f w:Bool),vs=[.ref x,.bl f,.int b,wv w]∧LockAt cs H x kd n h l room v∧
 ∀(r:Addr) (H':Hp) (rs:List V),Same H H'→H r=none→H' r=some (.lst rs)→PoursS H' rs (mL kd room v f b w)→Q (.ref r) H'
variable {α:Type} {i:Nat}
theorem xB {β:Type} {f:α→β} {ps:List α} {p:α} (h:ps[i]?=some p):(ps.take (i+1)).map f=(ps.take i).map f++[f p]:=by
 rw [aC,h,aJ];rfl
def ZK (c m:Int):Int:=if m - c>0 then m - c else 0
def ZT (ws:List (Int×Nat)) (i:Nat):Int:=(ws.getD i (0,0)).1
def kW (ws:List (Int×Nat)) (i:Nat):Nat:=(ws.getD i (0,0)).2
def WeirsAt (K:W.Frag) (H:Hp) (rs:List V) (ws:List (Int×Nat)) (n:Nat):Prop :=
 rs.length=ws.length∧∀(i:Nat) (r:V),rs[i]?=some r→∃(a:Addr) (c:Int) (t:Nat),r=.ref a∧ws[i]?=some (c,t)∧SqT K H a [.int c,.int t]∧t<n
def mT (R:Nat) (ws:List (Int×Nat)):Prop:=∀(i:Nat) (c:Int) (t:Nat),ws[i]?=some (c,t)→t<i∨R≤t
variable {ws:List (Int×Nat)}
theorem WeirsAt.same (e:Same H H') (h:WeirsAt K H rs ws n):WeirsAt K H' rs ws n:=by
 refine ⟨h.1,fun i r hi=>?_⟩;obtain ⟨a,c,t,h1,h2,h3,h4⟩:=h.2 i r hi;exact ⟨a,c,t,h1,h2,uM e h3,h4⟩
theorem i6 (h:WeirsAt K H rs ws n) (hi:i<ws.length):∃a,vF rs (i:Int)=some (V.ref a)∧SqT K H a [.int (ZT ws i),.int (kW ws i)]∧kW ws i<n:=by
 have hk:i<rs.length:=by rw [h.1];exact hi
 obtain ⟨a,c,t,h1,h2,h3,h4⟩:=h.2 i rs[i] (aa hk);have e:ws.getD i (0,0)=(c,t):=by rw [af,h2];rfl
 refine ⟨a,qB (by rw [aa hk,h1]),?_,?_⟩
 ·unfold ZT kW;rw [e];exact h3
 ·unfold kW;rw [e];exact h4
theorem R1 {R:Nat} (h:mT R ws) (hi:i<ws.length):kW ws i<i∨R≤kW ws i:=by
 have e:ws[i]?=some ((ws.getD i (0,0)).1,(ws.getD i (0,0)).2):=by rw [af,aa hi];rfl
 exact h i _ _ e
def EJ (K:W.Frag):Sp:=fun vs H Q _=>∃(wq wa:Addr) (rs:List V) (ws:List (Int×Nat)) (n:Nat) (ms:List Int) (at_:Nat),vs=[.ref wq,.ref wa,.int at_]∧SqL K H wq rs∧WeirsAt K H rs ws n∧Ints K H wa ms∧at_<ws.length∧at_<ms.length∧
 Q (.int (ZK (ZT ws at_) (ms.getD at_ 0))) H
def yS (t:Nat→Nat) (g:Nat→Int) (j:Nat):Nat→Int
 |0=>0
 |a+1=>yS t g j a+(if t a=j then g a else 0)
theorem xM {t:Nat→Nat} {g g':Nat→Int} {j:Nat}:∀{R:Nat},(∀a,a<R→t a=j→g a≤g' a)→yS t g j R≤yS t g' j R
 |0,_=>Int.le_refl _
 |R+1,h=>by
  show yS t g j R+_≤yS t g' j R+_;have ih:=xM (R:=R) fun a ha=>h a (by omega)
  by_cases c:t R=j
  ·rw [if_pos c,if_pos c];have:=h R (by omega) c;omega
  ·rw [if_neg c,if_neg c];omega
theorem xL (t:Nat→Nat) (j:Nat):∀R:Nat,yS t (fun _=>0) j R=0
 |0=>rfl
 |R+1=>by
  show yS t (fun _=>0) j R+_=0;rw [xL t j R]
  split<;>rfl
theorem xZ {t:Nat→Nat} {g g':Nat→Int} {i:Nat} (hg:∀a,a≠i→g' a=g a) (j:Nat):∀{R:Nat},yS t g' j R=yS t g j R+(if i<R∧t i=j then g' i - g i else 0)
 |0=>by
  show (0:Int)=0+_;rw [if_neg (by omega)];rfl
 |R+1=>by
  show yS t g' j R+(if t R=j then g' R else 0)=yS t g j R+(if t R=j then g R else 0)+(if i<R+1∧t i=j then g' i - g i else 0);rw [xZ hg j (R:=R)]
  by_cases hi:i=R
  ·subst hi
   repeat' split
   all_goals omega
  ·rw [hg R (fun e=>hi e.symm)]
   repeat' split
   all_goals omega
def fV (R:Nat) (c:Nat→Int) (t:Nat→Nat) (m:Nat→Int) (g:Nat→Int):Prop:=∀i,i<R→g i=ZK (c i) (m i+yS t g i R)
def dW (R:Nat) (t:Nat→Nat):Prop:=∀a,a<R→t a<a∨R≤t a
theorem NQ {c m m':Int} (h:m≤m'):ZK c m≤ZK c m':=by
 unfold ZK
 split<;>split<;>omega
variable {g:Nat→Int}
theorem xQ {R:Nat} {c:Nat→Int} {t:Nat→Nat} {m m' g':Nat→Int} (hA:dW R t) (hm:∀i,i<R→m i≤m' i) (h:fV R c t m g) (h':fV R c t m' g'):∀k,k≤R→∀i,R - k≤i→i<R→g i≤g' i:=by
 intro k
 induction k with
 |zero=>intro _ i h1 h2;omega
 |succ k ih =>
  intro hk i h1 h2
  by_cases e:R - k≤i
  ·exact ih (by omega) i e h2
  ·have hi:i=R - (k+1):=by omega
   rw [h i h2,h' i h2];refine NQ ?_;have:=xM (t:=t) (g:=g) (g':=g') (j:=i) (R:=R) fun a ha hta=>ih (by omega) a (by have:=hA a ha;omega) ha
   have:=hm i h2;omega
theorem MW {R:Nat} {c:Nat→Int} {t:Nat→Nat} {m g':Nat→Int} (hA:dW R t) (h:fV R c t m g) (h':fV R c t m g') (hi:i<R):g i=g' i:=by
 have h1:=xQ hA (fun i _=>Int.le_refl (m i)) h h' R (ar _) i (by omega) hi;have h2:=xQ hA (fun i _=>Int.le_refl (m i)) h' h R (ar _) i (by omega) hi;omega
def after (R:Nat) (t:Nat→Nat) (m g:Nat→Int) (j:Nat):Int:=m j+yS t g j R - (if j<R then g j else 0)
def ZN:List (Nat×Nat×Int)→Nat→Int
 |[],_=>0
 |q::r,j=>(if q.2.1=j then q.2.2 else 0) - (if q.1=j then q.2.2 else 0)+ZN r j
theorem fB (l:List Int) (i j:Nat) (z:Int) (h:i<l.length):(l.set i z).getD j 0=if i=j then z else l.getD j 0:=by
 rw [af,af]
 by_cases e:i=j
 ·subst e;rw [il h,if_pos rfl];rfl
 ·rw [ke e,if_neg e]
theorem OP (ms:List Int) (q:Nat×Nat×Int) (j:Nat) (h1:q.1<ms.length) (h2:q.2.1<ms.length):(pour ms q).getD j 0=ms.getD j 0+((if q.2.1=j then q.2.2 else 0) - (if q.1=j then q.2.2 else 0)):=by
 unfold pour;rw [fB _ _ _ _ (by rw [cx];exact h2),fB _ _ _ _ h1,fB _ _ _ _ h1]
 by_cases a:q.2.1=j
 ·rw [if_pos a,if_pos a];rw [a]
  by_cases b:q.1=j
  ·rw [if_pos b,if_pos b];rw [b];omega
  ·rw [if_neg b,if_neg b];omega
 ·rw [if_neg a,if_neg a]
  by_cases b:q.1=j
  ·rw [if_pos b,if_pos b];rw [b];omega
  ·rw [if_neg b,if_neg b];omega
theorem pX:∀(qs:List (Nat×Nat×Int)) (ms:List Int) (j:Nat),(∀q∈qs,q.1<ms.length∧q.2.1<ms.length)→(kK ms qs).getD j 0=ms.getD j 0+ZN qs j
 |[],ms,j,_=>by
  show ms.getD j 0=ms.getD j 0+0;omega
 |q::r,ms,j,h=>by
  show (kK (pour ms q) r).getD j 0=_;obtain ⟨h1,h2⟩:=h q aH;rw [pX r (pour ms q) j (fun x hx=>by rw [xJ];exact h x (ay _ hx)),OP ms q j h1 h2];show _=ms.getD j 0+((if q.2.1=j then q.2.2 else 0) - (if q.1=j then q.2.2 else 0)+ZN r j);omega
theorem mem_downs {a:Nat}:a∈zY n↔a<n:=by
 unfold zY;rw [mem_reverse,du]
theorem fC (n:Nat):(zY n).length=n:=by
 unfold zY;rw [dq,bg]
theorem BH {k:Nat} (h:k<n):(zY n)[k]?=some (n - 1 - k):=by
 unfold zY;rw [fm (by simpa using h),bg,cf (by omega)]
def zT (t:Nat→Nat) (g:Nat→Int) (R:Nat):List (Nat×Nat×Int):=(zY R).map fun a=>(a,t a,g a)
theorem CQ {l l':List Int} (h:l.length=l'.length) (e:∀j,j<l.length→l.getD j 0=l'.getD j 0):l=l':=by
 apply ext_getElem h;intro i h1 h2;have:=e i h1;rw [af,af,aa h1,aa h2] at this;exact this
def Z5 (ms:List Int) (ws:List (Int×Nat)) (gs:List Int):List Int:=kK ms (zT (kW ws) (fun a=>gs.getD a 0) ws.length)
theorem M5 (ms:List Int) (ws:List (Int×Nat)) (gs:List Int):(Z5 ms ws gs).length=ms.length:=JZ _ _
def Spl (ws:List (Int×Nat)) (ms gs:List Int):Prop:=gs.length=ws.length∧fV ws.length (ZT ws) (kW ws) (fun j=>ms.getD j 0) (fun a=>gs.getD a 0)
variable {ms gs:List Int}
theorem Spl.unique {gs':List Int} (hA:dW ws.length (kW ws)) (h:Spl ws ms gs) (h':Spl ws ms gs'):gs=gs':=by
 refine CQ (by rw [h.1,h'.1]) fun j hj=>?_
 exact MW hA h.2 h'.2 (by rw [← h.1];exact hj)
theorem r9 (h:mT ws.length ws):dW ws.length (kW ws):=fun a ha=>R1 h ha
theorem AH (h:WeirsAt K H rs ws n):∀a,a<ws.length→kW ws a<n:=fun a ha=>let ⟨_,_,_,q⟩:=i6 h ha;q
structure SplInv (ws:List (Int×Nat)) (ms hs gs:List Int) (k:Nat):Prop where
 lh:hs.length=ms.length
 lg:gs.length=ws.length
 flow:∀j,j<ms.length→hs.getD j 0=ms.getD j 0+yS (kW ws) (fun a=>gs.getD a 0) j ws.length
 zero:∀a,a<ws.length - k→gs.getD a 0=0
 done:∀a,ws.length - k≤a→a<ws.length→gs.getD a 0=ZK (ZT ws a) (ms.getD a 0+yS (kW ws) (fun a=>gs.getD a 0) a ws.length)
theorem SplInv.start (ws:List (Int×Nat)) (ms:List Int):SplInv ws ms ms (List.replicate ws.length 0) 0:=by
 have ez:(fun a:Nat=>(List.replicate ws.length (0:Int)).getD a 0)=fun _=>0:=by
  funext a;rw [af,ga]
  split<;>rfl
 refine ⟨rfl,by simp,fun j _=>?_,fun a _=>congrFun ez a,fun a h1 h2=>by omega⟩;rw [ez,xL];omega
theorem SplInv.step {hs:List Int} {k:Nat} (hA:dW ws.length (kW ws)) (hR:ws.length≤ms.length) (hk:k<ws.length) (ht:kW ws (ws.length - 1 - k)<ms.length) (h:SplInv ws ms hs gs k) :
  SplInv ws ms (hs.set (kW ws (ws.length - 1 - k)) (hs.getD (kW ws (ws.length - 1 - k)) 0+(gs.set (ws.length - 1 - k) (ZK (ZT ws (ws.length - 1 - k)) (hs.getD (ws.length - 1 - k) 0))).getD (ws.length - 1 - k) 0))
   (gs.set (ws.length - 1 - k) (ZK (ZT ws (ws.length - 1 - k)) (hs.getD (ws.length - 1 - k) 0))) (k+1):=by
 obtain ⟨i,hi⟩:∃i,i=ws.length - 1 - k:=⟨_,rfl⟩;rw [← hi] at ht ⊢;obtain ⟨lh,lg,flow,zero,done⟩:=h;have hil:i<gs.length:=by rw [lg];omega
 obtain ⟨v,hv⟩:∃v,v=ZK (ZT ws i) (hs.getD i 0):=⟨_,rfl⟩;rw [← hv];have gset:∀a,(gs.set i v).getD a 0=if i=a then v else gs.getD a 0:=fun a=>fB gs i a v hil
 have g0:gs.getD i 0=0:=zero i (by omega);have gi:(gs.set i v).getD i 0=v:=by rw [gset,if_pos rfl]
 have infl:∀j,yS (kW ws) (fun a=>(gs.set i v).getD a 0) j ws.length=yS (kW ws) (fun a=>gs.getD a 0) j ws.length+(if kW ws i=j then v else 0):=fun j=>by
  rw [xZ (g:=fun a=>gs.getD a 0) (i:=i) (fun a ha=>by show (gs.set i v).getD a 0=gs.getD a 0;rw [gset,if_neg (Ne.symm ha)]) j];show _+(if i<ws.length∧kW ws i=j then (gs.set i v).getD i 0 - gs.getD i 0 else 0)=_;rw [gi,g0];have hiw:i<ws.length:=by omega
  repeat' split
  all_goals omega
 have hti:=hA i (by omega);refine ⟨by rw [cx,lh],by rw [cx,lg],fun j hj=>?_,fun a ha=>?_,fun a h1 h2=>?_⟩
 ·rw [fB _ _ _ _ (by rw [lh];exact ht),infl,gi];have:=flow j hj
  by_cases e:kW ws i=j
  ·rw [if_pos e,if_pos e,e];omega
  ·rw [if_neg e,if_neg e];omega
 ·rw [gset,if_neg (by omega)];exact zero a (by omega)
 ·rw [infl]
  by_cases e:i=a
  ·subst e;rw [gi,if_neg (by omega),Int.add_zero,hv,flow i (by omega)]
  ·rw [gset,if_neg e,if_neg (by omega),Int.add_zero];exact done a (by omega) h2
theorem SplInv.spl {hs:List Int} (h:SplInv ws ms hs gs ws.length):Spl ws ms gs:=⟨h.lg,fun i hi=>h.done i (by omega) hi⟩
theorem CB (n:Nat):(List.replicate n [V.int 0]).flatten=(List.replicate n (0:Int)).map V.int:=by
 induction n with
 |zero=>rfl
 |succ n ih =>
  rw [dk,gm,ih,dk,bf];rfl
theorem N8 (a b:Int):decide (V.int a=V.int b)=decide (a=b):=by
 by_cases e:a=b
 ·rw [aK e,aK (by rw [e])]
 ·rw [aI e,aI (fun q=>e (V.int.inj q))]
structure Ready (K:W.Frag) (H:Hp) (wq wa:Addr) (rs:List V) (ws:List (Int×Nat)) (ms:List Int):Prop where
 w:SqL K H wq rs
 a:WeirsAt K H rs ws ms.length
 m:Ints K H wa ms
 ah:mT ws.length ws
 le:ws.length≤ms.length
 sm:ms.length≤1000
theorem Ready.same {wq wa:Addr} (e:Same H H') (h:Ready K H wq wa rs ws ms):Ready K H' wq wa rs ws ms:=⟨e.seq h.w,h.a.same e,h.m.same e,h.ah,h.le,h.sm⟩
def tZ (K:W.Frag):Sp:=fun vs H Q _=>∃(wq:Addr) (rs:List V),vs=[.ref wq]∧SqL K H wq rs∧rs.length≤1000∧∀(r:Addr) (H':Hp),Same H H'→H r=none→H' r=some (.lst ((zY rs.length).map fun (i:Nat)=>V.int (i:Int)))→Q (.ref r) H'
def BY (K:W.Frag):Sp:=fun vs H Q _=>∃(wq wa:Addr) (rs:List V) (ws:List (Int×Nat)) (ms:List Int),vs=[.ref wq,.ref wa]∧Ready K H wq wa rs ws ms∧
 ∀(r:Addr) (H':Hp) (gs:List Int),Same H H'→H r=none→H' r=some (.lst (gs.map V.int))→Spl ws ms gs→Q (.ref r) H'
def AO (K:W.Frag):Sp:=fun vs H Q _=>∃(wq wa:Addr) (rs:List V) (ws:List (Int×Nat)) (ms:List Int),vs=[.ref wq,.ref wa]∧Ready K H wq wa rs ws ms∧
 ∀(r:Addr) (H':Hp) (gs:List Int),Same H H'→H r=none→H' r=some (.tup ((Z5 ms ws gs).map V.int))→Spl ws ms gs→Q (.ref r) H'
theorem CS {R:Nat} {x:V} (h:((zY R).map fun (i:Nat)=>V.int (i:Int))[i]?=some x):i<R∧x=V.int ((R - 1 - i:Nat):Int):=by
 rw [av] at h
 by_cases hi:i<R
 ·rw [BH hi] at h;exact ⟨hi,(aE h).symm⟩
 ·rw [da (by rw [fC];omega)] at h;cases h
theorem M3 {t:Nat→Nat} {R:Nat} (h:i<R):(zT t g R)[i]?=some (R - 1 - i,t (R - 1 - i),g (R - 1 - i)):=by
 unfold zT;rw [av,BH h];rfl
def vD (q:Nat×Nat×Int):Bool := !decide (q.2.2=0)
theorem tT (j:Nat):∀qs:List (Nat×Nat×Int),ZN (qs.filter vD) j=ZN qs j
 |[]=>rfl
 |q::r=>by
  rw [aP]
  by_cases h:q.2.2=0
  ·rw [if_neg (by unfold vD;rw [aK h];decide)];show ZN (r.filter vD) j=(if q.2.1=j then q.2.2 else 0) - (if q.1=j then q.2.2 else 0)+ZN r j;rw [tT j r,h]
   repeat' split
   all_goals omega
  ·rw [if_pos (by unfold vD;rw [aI h];rfl)];show _+ZN (r.filter vD) j=_+ZN r j;rw [tT j r]
variable {qs:List (Nat×Nat×Int)}
theorem xT (h:∀q∈qs,q.1<ms.length∧q.2.1<ms.length):kK ms (qs.filter vD)=kK ms qs:=by
 refine CQ (by rw [JZ,JZ]) fun j _=>?_
 rw [pX _ _ _ h,pX _ _ _ (fun q hq=>h q (aO.mp hq).1),tT]
theorem xR (hR:ws.length≤n) (ht:∀a,a<ws.length→kW ws a<n):∀q∈zT (kW ws) g ws.length,q.1<n∧q.2.1<n:=fun q hq=>by
 obtain ⟨a,ha,rfl⟩:=aw.mp hq;have:=mem_downs.mp ha;exact ⟨by show a<n;omega,ht a this⟩
def PoursH (H:Hp) (rs:List V) (qs:List (Nat×Nat×Int)) (n:Nat):Prop:=rs.length=qs.length∧∀(i:Nat) (r:V),rs[i]?=some r→∃(a:Addr) (s t:Nat) (m:Int),r=.ref a∧qs[i]?=some (s,t,m)∧H a=some (.tup [.int s,.int t,.int m])∧s<n∧t<n
theorem PoursH.nil (H:Hp) (n:Nat):PoursH H [] [] n:=⟨rfl,fun i r hi=>by cases hi⟩
theorem PoursH.pa (h:PoursH H rs qs n):ED K H rs qs n:=⟨h.1,fun i r hi=>by
 obtain ⟨a,s,t,m,h1,h2,h3,h4⟩:=h.2 i r hi;exact ⟨a,s,t,m,h1,h2,SqT.of h3,h4⟩⟩
theorem PoursH.same (h:PoursH H rs qs n) (e:Same H H'):PoursH H' rs qs n:=⟨h.1,fun i r hi=>by
 obtain ⟨a,s,t,m,h1,h2,h3,h4⟩:=h.2 i r hi;exact ⟨a,s,t,m,h1,h2,e _ _ h3,h4⟩⟩
variable {o:HO}
theorem PoursH.put (h:PoursH H rs qs n) (hd:H d=some (.lst ys)):PoursH (upd H d o) rs qs n:=⟨h.1,fun i r hi=>by
 obtain ⟨a,s,t,m,h1,h2,h3,h4⟩:=h.2 i r hi;exact ⟨a,s,t,m,h1,h2,by rw [jH (fun z=>by rw [z,hd] at h3;cases h3)];exact h3,h4⟩⟩
theorem PoursH.append {rs':List V} {qs':List (Nat×Nat×Int)} (h:PoursH H rs qs n) (h':PoursH H rs' qs' n):PoursH H (rs++rs') (qs++qs') n:=by
 refine ⟨by rw [ag,ag,h.1,h'.1],fun i r hi=>?_⟩
 by_cases hl:i<rs.length
 ·rw [aq hl] at hi;obtain ⟨a,s,t,m,h1,h2,h3⟩:=h.2 i r hi;exact ⟨a,s,t,m,h1,by rw [aq (by rw [← h.1];exact hl)];exact h2,h3⟩
 ·rw [ap (by omega)] at hi;obtain ⟨a,s,t,m,h1,h2,h3⟩:=h'.2 _ r hi;exact ⟨a,s,t,m,h1,by rw [ap (by rw [← h.1];omega),← h.1];exact h2,h3⟩
theorem PoursH.snoc {t:Nat} {m:Int} (h:PoursH H rs qs n) (ha:H a=some (.tup [.int s,.int t,.int m])) (hs:s<n) (ht:t<n):PoursH H (rs++[.ref a]) (qs++[(s,t,m)]) n:=h.append ⟨rfl,fun i r hi=>by
 rcases i with _|i
 ·cases hi;exact ⟨a,s,t,m,rfl,rfl,ha,hs,ht⟩
 ·cases hi⟩
def sL (K:W.Frag):Sp:=fun vs H Q _=>∃(wq wa:Addr) (rs:List V) (ws:List (Int×Nat)) (ms:List Int),vs=[.ref wq,.ref wa]∧Ready K H wq wa rs ws ms∧
 ∀(r:Addr) (H':Hp) (gs:List Int) (ys:List V),Same H H'→H r=none→H' r=some (.lst ys)→PoursH H' ys ((zT (kW ws) (fun a=>gs.getD a 0) ws.length).filter vD) ms.length→Spl ws ms gs→Q (.ref r) H'
def tG (K:W.Frag):Sp:=fun vs H Q _=>∃(wq wa p:Addr) (rs ps:List V) (ws:List (Int×Nat)) (ms:List Int) (qs:List (Nat×Nat×Int)),vs=[.ref wq,.ref wa,.ref p]∧Ready K H wq wa rs ws ms∧H p=some (.lst ps)∧PoursH H ps qs ms.length∧ps.length≤500∧
 ∀(r:Addr) (H':Hp) (gs:List Int) (ys:List V),Same H H'→H r=none→H' r=some (.lst ys)→PoursH H' ys (qs++(zT (kW ws) (fun a=>gs.getD a 0) ws.length).filter vD) ms.length→Spl ws (kK ms qs) gs→Q (.ref r) H'
theorem M4 (ws:List (Int×Nat)) (g:Nat→Int):((zT (kW ws) g ws.length).filter vD).length≤ws.length:=by
 refine aG (bd ..) ?_;unfold zT;rw [ae,fC];exact ar _
structure RC where
 name:Str
 least:Int
 crest:Int
 berths:Int
 water:Int
 target:Int
def RC.good (r:RC) (n:Nat):Prop:=0≤r.least∧r.least≤r.crest∧r.crest≤999999999999∧1≤r.berths∧r.berths≤9∧0≤r.water∧r.water≤999999999999∧-1≤r.target∧r.target<(n:Int)
structure LC where
 name:Str
 high:Int
 low:Int
 room:Int
 kd:Kd
 extra:Int
def LC.good (l:LC) (n:Nat):Prop:=1≤l.high∧l.high<(n:Int)∧0≤l.low∧l.low<l.high∧1≤l.room∧l.room≤999999999999∧(l.kd=.plain→l.extra=0)∧(l.kd≠.plain→1≤l.extra∧l.extra≤l.room)
def AllAt {α:Type} (P:V→α→Prop) (vs:List V) (xs:List α):Prop:=vs.length=xs.length∧∀(i:Nat) (v:V),vs[i]?=some v→∃x,xs[i]?=some x∧P v x
theorem AllAt.nil {P:V→α→Prop}:AllAt P [] ([]:List α):=⟨rfl,fun i v h=>by cases h⟩
variable {vs:List V}
theorem AllAt.mono {P P':V→α→Prop} {xs:List α} (m:∀v x,P v x→P' v x) (h:AllAt P vs xs):AllAt P' vs xs:=⟨h.1,fun i v hv=>by obtain ⟨x,h1,h2⟩:=h.2 i v hv;exact ⟨x,h1,m v x h2⟩⟩
variable {v:V}
theorem AllAt.snoc {P:V→α→Prop} {xs:List α} {x:α} (h:AllAt P vs xs) (hv:P v x):AllAt P (vs++[v]) (xs++[x]):=by
 refine ⟨by rw [ag,ag,h.1];rfl,fun i w hw=>?_⟩
 by_cases hl:i<vs.length
 ·rw [aq hl] at hw;rw [aq (by rw [← h.1];exact hl)];exact h.2 i w hw
 ·rw [ap (by omega)] at hw;have e:i=vs.length:=by
   by_cases z:i - vs.length=0
   ·omega
   ·rw [da (by show 1≤i - vs.length;omega)] at hw;cases hw
  rw [e,li] at hw;cases hw;refine ⟨x,?_,hv⟩;rw [e,h.1,ap (ar _),li];rfl
theorem AllAt.get {P:V→α→Prop} {xs:List α} (h:AllAt P vs xs) {x:α} (hx:xs[i]?=some x):∃v,vs[i]?=some v∧P v x:=by
 have hi:i<vs.length:=by rw [h.1];exact (ad.mp hx).1
 obtain ⟨y,h1,h2⟩:=h.2 i _ (aa hi);rw [hx] at h1;cases h1;exact ⟨_,aa hi,h2⟩
def QAt (H:Hp) (v:V) (p:Int×Int):Prop:=∃t,v=.ref t∧H t=some (.tup [.int p.1,.int p.2])
def NAt (D:List Addr) (H:Hp) (v:V) (ps:List (Int×Int)):Prop:=∃(l:Addr) (qs:List V),v=.ref l∧H l=some (.lst qs)∧AllAt (QAt H) qs ps∧l∉D
theorem QAt.same (e:Same H H') (v:V) (r:Int×Int):QAt H v r→QAt H' v r:=fun ⟨t,h1,h2⟩=>⟨t,h1,e _ _ h2⟩
theorem QAt.put (hd:H d=some (.lst ys)) (v:V) (r:Int×Int):QAt H v r→QAt (upd H d o) v r:=fun ⟨t,h1,h2⟩=>⟨t,h1,by rw [jH (fun z=>by rw [z,hd] at h2;cases h2)];exact h2⟩
variable {D:List Addr}
theorem NAt.same (e:Same H H') (v:V) (r:List (Int×Int)):NAt D H v r→NAt D H' v r:=fun ⟨l,qs,h1,h2,h3,h4⟩=>⟨l,qs,h1,e _ _ h2,h3.mono (QAt.same e),h4⟩
theorem NAt.put (hd:H d=some (.lst ys)) (hD:d∈D) (v:V) (r:List (Int×Int)):NAt D H v r→NAt D (upd H d o) v r:=fun ⟨l,qs,h1,h2,h3,h4⟩=>⟨l,qs,h1,by rw [jH (fun z=>h4 (by rw [z];exact hD))];exact h2,h3.mono (QAt.put hd),h4⟩
theorem NAt.less {D':List Addr} (hD:∀d∈D',d∈D) (v:V) (r:List (Int×Int)):NAt D H v r→NAt D' H v r:=fun ⟨l,qs,h1,h2,h3,h4⟩=>⟨l,qs,h1,h2,h3,fun z=>h4 (hD _ z)⟩
variable {fs:List (Str×V)}
theorem ZE {f:Str}:(jW f v fs).lookup f=some v:=by rw [v9,if_pos rfl]
theorem v0 {f g:Str} (h:¬g=f):(jW f v fs).lookup g=fs.lookup g:=by rw [v9,if_neg h]
def tE (fs:List (Str×V)) (v_name v_least v_crest v_berths v_water v_target:V):Prop:=fs.lookup ("name":Str)=some v_name∧fs.lookup ("least":Str)=some v_least∧fs.lookup ("crest":Str)=some v_crest∧fs.lookup ("berths":Str)=some v_berths∧fs.lookup ("water":Str)=some v_water∧fs.lookup ("target":Str)=some v_target
theorem OC (v_name v_least v_crest v_berths v_water v_target:V):tE (jW "target" v_target (jW "water" v_water (jW "berths" v_berths (jW "crest" v_crest (jW "least" v_least (jW "name" v_name [])))))) v_name v_least v_crest v_berths v_water v_target:=by
 refine ⟨?_,?_,?_,?_,?_,?_⟩
 ·rw [v0 (f:="target") (g:="name") (by decide +kernel),v0 (f:="water") (g:="name") (by decide +kernel),v0 (f:="berths") (g:="name") (by decide +kernel),v0 (f:="crest") (g:="name") (by decide +kernel),v0 (f:="least") (g:="name") (by decide +kernel),ZE]
 ·rw [v0 (f:="target") (g:="least") (by decide +kernel),v0 (f:="water") (g:="least") (by decide +kernel),v0 (f:="berths") (g:="least") (by decide +kernel),v0 (f:="crest") (g:="least") (by decide +kernel),ZE]
 ·rw [v0 (f:="target") (g:="crest") (by decide +kernel),v0 (f:="water") (g:="crest") (by decide +kernel),v0 (f:="berths") (g:="crest") (by decide +kernel),ZE]
 ·rw [v0 (f:="target") (g:="berths") (by decide +kernel),v0 (f:="water") (g:="berths") (by decide +kernel),ZE]
 ·rw [v0 (f:="target") (g:="water") (by decide +kernel),ZE]
 ·rw [ZE]
def rA (c:Addr):Sp:=fun vs H Q _=>∃(x dx:Addr) (v_name v_least v_crest v_berths v_water v_target:V),vs=[.ref x,v_name,v_least,v_crest,v_berths,v_water,v_target]∧H x=some (.ins c dx [])∧∀(H':Hp) (fs:List (Str×V)),Keep x H H'→H' x=some (.ins c dx fs)→tE fs v_name v_least v_crest v_berths v_water v_target→Q .non H'
def RcAt (cR:Addr) (H:Hp) (x:Addr) (r:RC):Prop:=∃(dx:Addr) (fs:List (Str×V)),H x=some (.ins cR dx fs)∧tE fs (.str r.name) (.int r.least) (.int r.crest) (.int r.berths) (.int r.water) (.int r.target)
variable {cR:Addr}
theorem RcAt.same {r:RC} (e:Same H H') (h:RcAt cR H x r):RcAt cR H' x r:=by
 obtain ⟨dx,fs,h1,h2⟩:=h;exact ⟨dx,fs,e _ _ h1,h2⟩
theorem bH {X:Cx} (K:W.Frag) (h:X.K=K:=by rfl):yV X (.type "list") (fun xs H Q=>∃p ys,xs=[.ref p]∧(SqL K H p ys∨SqT K H p ys)∧∀l,H l=none→Q (.ref l) (upd H l (.lst ys))):=by subst h;exact MY
variable {pos:Pos}
theorem j7 {X:Cx} (K:W.Frag) {e:Expr} {f:Str} {ta:TE} (he:PE X e ta) (hb:attributeBase e f X.env (eval e X.env)=eval e X.env) (h:X.K=K:=by rfl):PE X (.Attribute e f pos) (FP K ta f):=by subst h;exact GN he hb
def CanalFld (fs:List (Str×V)) (r l n:V):Prop:=fs.lookup ("reaches":Str)=some r∧fs.lookup ("locks":Str)=some l∧fs.lookup ("nights":Str)=some n∧∀m:Str,¬m="reaches"→¬m="locks"→¬m="nights"→fs.lookup m=none
theorem OD (r l n:V):CanalFld (jW "nights" n (jW "locks" l (jW "reaches" r []))) r l n:=by
 refine ⟨?_,?_,?_,fun m h1 h2 h3=>?_⟩
 ·rw [v0 (f:="nights") (g:="reaches") (by decide +kernel),v0 (f:="locks") (g:="reaches") (by decide +kernel),ZE]
 ·rw [v0 (f:="nights") (g:="locks") (by decide +kernel),ZE]
 ·rw [ZE]
 ·rw [v0 h3,v0 h2,v0 h1];rfl
theorem CanalFld.no {r l n:V} (h:CanalFld fs r l n) {m:Str} (h1:¬m="reaches") (h2:¬m="locks") (h3:¬m="nights"):fs.lookup m=none:=h.2.2.2 m h1 h2 h3
def RcO (cR:Addr) (H:Hp) (v:V) (r:RC):Prop:=∃x,v=.ref x∧RcAt cR H x r
def LkO (cs:Kd→Addr) (H:Hp) (v:V) (l:LC):Prop:=∃x,v=.ref x∧LockAt cs H x l.kd (.str l.name) (.int l.high) (.int l.low) l.room l.extra
theorem RcO.same (e:Same H H') (v:V) (r:RC):RcO cR H v r→RcO cR H' v r:=fun ⟨x,h1,h2⟩=>⟨x,h1,h2.same e⟩
theorem LkO.same (e:Same H H') (v:V) (l:LC):LkO cs H v l→LkO cs H' v l:=fun ⟨x,h1,h2⟩=>⟨x,h1,h2.same e⟩
theorem RcO.keep {y:Addr} (k:Keep y H H') (hy:H y=some (.lst ys)) (v:V) (r:RC):RcO cR H v r→RcO cR H' v r:=fun ⟨x,h1,dx,fs,h2,h3⟩=>⟨x,h1,dx,fs,k _ _ (QZ h2 hy (fun z=>nomatch z)) h2,h3⟩
theorem LkO.keep {y:Addr} (k:Keep y H H') (hy:H y=some (.lst ys)) (v:V) (l:LC):LkO cs H v l→LkO cs H' v l:=fun ⟨x,h1,dx,h2⟩=>⟨x,h1,dx,k _ _ (QZ h2 hy (fun z=>nomatch z)) h2⟩
variable {c:Addr}
theorem RcO.keepI {y:Addr} (k:Keep y H H') (hy:H y=some (.ins c d [])) (v:V) (r:RC):RcO cR H v r→RcO cR H' v r:=fun ⟨x,h1,dx,fs,h2,h3⟩=>⟨x,h1,dx,fs,k _ _ (fun z=>by rw [z,hy] at h2;cases h2;cases h3.1) h2,h3⟩
theorem LkO.keepI {y:Addr} (k:Keep y H H') (hy:H y=some (.ins c d [])) (v:V) (l:LC):LkO cs H v l→LkO cs H' v l:=fun ⟨x,h1,dx,h2⟩=>⟨x,h1,dx,k _ _ (fun z=>by
 rw [z,hy] at h2;have e:=S6 l.kd (.str l.name) (.int l.high) (.int l.low) (.int l.room) (.int l.extra);injection h2 with h2;injection h2 with h2 h3 h4
 rw [← h4] at e;cases e) h2⟩
theorem QAt.keep {y:Addr} (k:Keep y H H') (hy:H y=some o) (ho:∀xs,o≠.tup xs) (v:V) (p:Int×Int):QAt H v p→QAt H' v p:=fun ⟨t,h1,h2⟩=>⟨t,h1,k _ _ (fun z=>by rw [z,hy] at h2;exact ho _ (aE h2)) h2⟩
def CnAt (cs:Kd→Addr) (cR cN:Addr) (D:List Addr) (H:Hp) (x:Addr) (R:List RC) (L:List LC) (N:List (List (Int×Int))):Prop:=∃(dx rl ll nl:Addr) (fs:List (Str×V)) (rs ls ns:List V),H x=some (.ins cN dx fs)∧CanalFld fs (.ref rl) (.ref ll) (.ref nl)∧H rl=some (.lst rs)∧H ll=some (.lst ls)∧H nl=some (.lst ns)∧AllAt (RcO cR H) rs R∧AllAt (LkO cs H) ls L∧AllAt (NAt D H) ns N∧rl∉D∧ll∉D∧nl∉D
variable {cN:Addr} {R:List RC} {L:List LC} {N:List (List (Int×Int))}
theorem CnAt.same (e:Same H H') (h:CnAt cs cR cN D H x R L N):CnAt cs cR cN D H' x R L N:=by
 obtain ⟨dx,rl,ll,nl,fs,rs,ls,ns,h1,h2,h3,h4,h5,h6,h7,h8,h9⟩:=h;exact ⟨dx,rl,ll,nl,fs,rs,ls,ns,e _ _ h1,h2,e _ _ h3,e _ _ h4,e _ _ h5,h6.mono (RcO.same e),h7.mono (LkO.same e),h8.mono (NAt.same e),h9⟩
def VP (H:Hp) (nv:V) (N:List (List (Int×Int))):Prop:=(nv=.non∧N=[])∨∃(nl:Addr) (ns:List V),nv=.ref nl∧H nl=some (.lst ns)∧AllAt (NAt [] H) ns N∧ns.length≤100
def rB (cs:Kd→Addr) (cR cN:Addr):Sp:=fun vs H Q _=>∃(x dx rl ll:Addr) (nv:V) (rs ls:List V) (R:List RC) (L:List LC) (N:List (List (Int×Int))),vs=[.ref x,.ref rl,.ref ll,nv]∧H x=some (.ins cN dx [])∧H rl=some (.lst rs)∧H ll=some (.lst ls)∧AllAt (RcO cR H) rs R∧AllAt (LkO cs H) ls L∧VP H nv N∧
 ∀H',Keep x H H'→(∀D:List Addr,(∀d∈D,H d≠none)→CnAt cs cR cN D H' x R L N)→Q .non H'
def Z4 (cs:Kd→Addr) (cR cN:Addr) (F:Nat→Nat→Int):Sp:=fun vs H Q _=>∃(x:Addr) (D:List Addr) (R:List RC) (L:List LC) (N:List (List (Int×Int))),vs=[.ref x]∧CnAt cs cR cN D H x R L N∧Q (.int (F R.length L.length)) H
def bW (cs:Kd→Addr) (cR cN:Addr) (F:Nat→Nat→Int→Int):Sp:=fun vs H Q _=>∃(x:Addr) (D:List Addr) (R:List RC) (L:List LC) (N:List (List (Int×Int))) (k:Int),vs=[.ref x,.int k]∧CnAt cs cR cN D H x R L N∧Q (.int (F R.length L.length k)) H
def JO (sea:Int) (r:RC):Int×Int:=(r.crest,if r.target = -1 then sea else r.target)
def JH (n m:Nat):Int:=(n:Int)+2*(m:Int)
def gH (n m:Nat):Int:=(n:Int)+2*(m:Int)+1
def mO (n m:Nat):Int:=(n:Int)+2*(m:Int)+1+1
def JT (n _m:Nat) (k:Int):Int:=(n:Int)+k
def zC (n m:Nat) (k:Int):Int:=(n:Int)+(m:Int)+k
def lF (cs:Kd→Addr) (cR cN:Addr):Sp:=fun vs H Q _=>∃(x:Addr) (D:List Addr) (R:List RC) (L:List LC) (N:List (List (Int×Int))),vs=[.ref x]∧CnAt cs cR cN D H x R L N∧R.length≤100∧
 ∀(l:Addr) (ws:List V) (H':Hp),Same H H'→H l=none→H' l=some (.lst ws)→AllAt (QAt H') ws (R.map (JO (JH R.length L.length)))→Q (.ref l) H'
structure Drawn (R:List RC) (L:List LC) (N:List (List (Int×Int))):Prop where
 r8:R.length≤8
 r1:1≤R.length
 l8:L.length≤8
 n6:N.length≤6
 good:∀(i:Nat) (r:RC),R[i]?=some r→r.good i
 lock:∀(i:Nat) (l:LC),L[i]?=some l→l.good R.length
 night:∀p∈N,p.length=R.length
theorem fT {dx:Addr} {o':HO} (nx:H x=none) (ndx:H dx=none):Same H (upd (upd H dx o) x o'):=fun b u e=>by rw [jH (q8 e nx),jH (q8 e ndx)];exact e
theorem fN {H2:Hp} (nx:H x=none) (u:Same H H1) (k:Keep x H1 H2):Same H H2:=fun b o e=>k b o (q8 e nx) (u b o e)
def uI (sea:Nat) (r:RC):Int×Nat:=(r.crest,if r.target = -1 then sea else r.target.toNat)
def qD (R:List RC) (m:Nat):List (Int×Nat):=R.map (uI (R.length+2*m))
def J4 (R:List RC) (m:Nat):List Int:=R.map (·.water)++List.replicate (2*m+2) 0
theorem bI (R:List RC) (m:Nat):(qD R m).length=R.length:=ae _
theorem fF (R:List RC) (m:Nat):(J4 R m).length=R.length+2*m+2:=by
 unfold J4;rw [ag,ae,eh];omega
def cD (R:List RC):Prop:=∀(i:Nat) (r:RC),R[i]?=some r→-1≤r.target∧r.target<(i:Int)
variable {m:Nat}
theorem iX (h:cD R):mT (qD R m).length (qD R m):=by
 intro i c t hi;rw [bI];unfold qD at hi;rw [av] at hi;cases hr:R[i]? with
 |none=>rw [hr] at hi;cases hi
 |some r =>
  rw [hr] at hi;have e:uI (R.length+2*m) r=(c,t):=aE hi;obtain ⟨h1,h2⟩:=h i r hr;unfold uI at e;have e2:(if r.target = -1 then R.length+2*m else r.target.toNat)=t:=cp Prod.snd e
  by_cases ht:r.target = -1
  ·rw [if_pos ht] at e2;omega
  ·rw [if_neg ht] at e2;omega
theorem BS {ws:List V} (hT:cD R) (h:AllAt (QAt H) ws (R.map (JO (JH R.length m)))):WeirsAt K H ws (qD R m) (J4 R m).length:=by
 refine ⟨by rw [h.1,ae,bI],fun i v hv=>?_⟩;obtain ⟨p,hp,t,rfl,ht⟩:=h.2 i v hv;rw [av] at hp;cases hr:R[i]? with
 |none=>rw [hr] at hp;cases hp
 |some r =>
  rw [hr] at hp;cases hp;obtain ⟨h1,h2⟩:=hT i r hr;have hi:i<R.length:=(ad.mp hr).1;refine ⟨t,r.crest,if r.target = -1 then R.length+2*m else r.target.toNat,rfl,?_,?_,?_⟩
  ·unfold qD;rw [av,hr];rfl
  ·have e:(((if r.target = -1 then R.length+2*m else r.target.toNat):Nat):Int)=(JO (JH R.length m) r).2:=by
    unfold JO JH
    by_cases ht:r.target = -1
    ·rw [if_pos ht,if_pos ht];omega
    ·rw [if_neg ht,if_neg ht];omega
   rw [e];exact SqT.of ht
  ·rw [fF];split<;>omega
def BX (cs:Kd→Addr) (cR cN:Addr):Sp:=fun vs H Q _=>∃(x:Addr) (D:List Addr) (R:List RC) (L:List LC) (N:List (List (Int×Int))),vs=[.ref x]∧CnAt cs cR cN D H x R L N∧R.length≤100∧L.length≤100∧cD R∧
 ∀(r:Addr) (H':Hp) (gs:List Int),Same H H'→H r=none→H' r=some (.tup ((Z5 (J4 R L.length) (qD R L.length) gs).map V.int))→Spl (qD R L.length) (J4 R L.length) gs→Q (.ref r) H'
def tK (cs:Kd→Addr) (cR cN:Addr):Sp:=fun vs H Q _=>∃(x wa:Addr) (D:List Addr) (R:List RC) (L:List LC) (N:List (List (Int×Int))) (ms:List Int) (k:Nat),vs=[.ref x,.ref wa,.int (k:Int)]∧CnAt cs cR cN D H x R L N∧H wa=some (.tup (ms.map V.int))∧R.length+k<ms.length∧Q (.bl (decide (0<ms.getD (R.length+k) 0))) H
theorem dB (h:Drawn R L N):cD R:=fun i r hr=>by
 obtain ⟨g1,g2,g3,g4,g5,g6,g7,g8,g9⟩:=h.good i r hr;exact ⟨g8,g9⟩
def bT (K:W.Frag):Sp:=fun vs H Q _=>∃(s:Addr) (ns:List Int) (k:Int) (m:Int),vs=[.ref s,.int k,.int m]∧SqL K H s (ns.map V.int)∧ns.length≤63∧0≤k∧k≤100000∧1≤m∧∀z:Int,0≤z→z<m→Q (.int z) H
theorem VC {k:Int} (h0:0≤k) (h1:k≤100000):0≤k*k∧k*k≤10000000000:=by
 refine ⟨Int.mul_nonneg h0 h0,?_⟩;have:=Int.mul_le_mul h1 h1 h0 (by decide:(0:Int)≤100000);omega
def B2 (K:W.Frag) (cR:Addr):Sp:=fun vs H Q _=>∃(s:Addr) (ns:List Int) (k:Nat) (u:Int),vs=[.ref s,.int (k:Int),.int u]∧SqL K H s (ns.map V.int)∧ns.length≤63∧k<8∧1≤u∧u≤10000000000∧∀(x:Addr) (r:RC) (H':Hp),r.good k→Same H H'→H x=none→RcAt cR H' x r→Q (.ref x) H'
def C9 (K:W.Frag) (cs:Kd→Addr):Sp:=fun vs H Q _=>∃(s:Addr) (ns:List Int) (k n:Nat) (u:Int),vs=[.ref s,.int (k:Int),.int (n:Int),.int u]∧SqL K H s (ns.map V.int)∧ns.length≤63∧k<4∧2≤n∧n≤8∧1≤u∧u≤10000000000∧∀(x:Addr) (l:LC) (H':Hp),l.good n→Same H H'→H x=none→LkO cs H' (.ref x) l→Q (.ref x) H'
theorem uG (zs:List Int) {i:Int} (h0:0≤i) (h:i<(zs.length:Int)):∃z∈zs,vF (zs.map V.int) i=some (.int z):=by
 have hl:i.toNat<zs.length:=by omega
 have:=qB (xs:=zs.map V.int) (j:=i.toNat) (v:=.int zs[i.toNat]) (by rw [av,aa hl];rfl);rw [show ((i.toNat:Nat):Int)=i by omega] at this;exact ⟨_,gt hl,this⟩
theorem mD {a u:Int} {m:Int} (h0:0≤a) (h1:a≤m) (u0:1≤u) (u1:u≤10000000000) (hm:0≤m):0≤a*u∧a*u≤m*10000000000:=by
 refine ⟨Int.mul_nonneg h0 (by omega),?_⟩;exact Int.mul_le_mul h1 u1 (by omega) hm
def gQ (b:Bool):Str:=if b then "up" else "down"
def vM (L:List LC) (p:Nat×Bool):Int×Int:=match L[p.1]? with
 |some l=>if p.2 then (l.low,l.high) else (l.high,l.low)
 |none=>(0,0)
theorem bS {k:Nat} {l:LC} (h:L[k]?=some l):vM L (k,true)=(l.low,l.high):=by unfold vM;rw [h];rfl
theorem bJ {k:Nat} {l:LC} (h:L[k]?=some l):vM L (k,false)=(l.high,l.low):=by unfold vM;rw [h];rfl
def PAt (H:Hp) (v:V) (p:Nat×Bool):Prop:=∃t,v=.ref t∧H t=some (.tup [.int (p.1:Int),.str (gQ p.2)])
theorem PAt.same (e:Same H H') (v:V) (p:Nat×Bool):PAt H v p→PAt H' v p:=fun ⟨t,h1,h2⟩=>⟨t,h1,e _ _ h2⟩
theorem PAt.put (hd:H d=some (.lst ys)) (v:V) (p:Nat×Bool):PAt H v p→PAt (upd H d o) v p:=fun ⟨t,h1,h2⟩=>⟨t,h1,by rw [jH (fun z=>by rw [z,hd] at h2;cases h2)];exact h2⟩
def vK (L:List LC) (s:Int) (ps:List (Nat×Bool)):List Int:=s::ps.map fun p=>(vM L p).2
def bB (L:List LC) (s:Int) (ps:List (Nat×Bool)):Prop:=∀(j:Nat) (p:Nat×Bool),ps[j]?=some p→(vK L s ps)[j]?=some (vM L p).1
theorem rY (L:List LC) (s:Int) (ps:List (Nat×Bool)) (p:Nat×Bool):vK L s (ps++[p])=vK L s ps++[(vM L p).2]:=by unfold vK;rw [aJ];rfl
theorem fP (L:List LC) (s:Int) (ps:List (Nat×Bool)):(vK L s ps).length=ps.length+1:=by unfold vK;rw [aZ,ae]
theorem O9 (L:List LC) (s:Int) (ps:List (Nat×Bool)) (i:Nat):(vK L s ps).take (i+1)=vK L s (ps.take i):=by unfold vK;rw [take_succ_cons,map_take]
variable {j:Nat}
theorem TB {s:Int} {ps:List (Nat×Bool)} (h:j<ps.length+1):(vK L s ps)[j]?=(vK L s (ps.take j))[j]?:=by
 rw [← O9,List.getElem?_take,if_pos (by omega)]
theorem AA (d:Drawn R L N) {p:Nat×Bool} (h:p.1<L.length):∃l,L[p.1]?=some l∧l.good R.length:=⟨_,aa h,d.lock _ _ (aa h)⟩
def EN (cs:Kd→Addr):Sp:=fun vs H Q _=>∃(y:Addr) (l:LC) (b:Bool),vs=[.ref y,.str (gQ b)]∧LkO cs H (.ref y) l∧∀(t:Addr) (H':Hp),Same H H'→H t=none→H' t=some (.tup [.int (if b then l.low else l.high),.int (if b then l.high else l.low)])→Q (.ref t) H'
theorem E7 (b:Bool):decide (V.str (gQ b)=V.str "up")=b:=by
 cases b
 ·exact aI fun h=>absurd (V.str.inj h) (by decide +kernel)
 ·exact aK rfl
theorem P4 {s:Int} {ps:List (Nat×Bool)} {p:Nat×Bool} {a:Int} (h:(vK L s ps)[ps.length]?=some a):bB L s (ps++[p])↔bB L s ps∧(vM L p).1=a:=by
 have e:∀j,j≤ps.length→(vK L s (ps++[p]))[j]?=(vK L s ps)[j]?:=fun j hj=>by
  rw [rY,aq (by rw [fP];omega)]
 constructor
 ·intro ok;refine ⟨fun j q hq=>?_,?_⟩
  ·have hj:j<ps.length:=(ad.mp hq).1;have:=ok j q (by rw [aq hj];exact hq)
   rwa [e j (by omega)] at this
  ·have:=ok ps.length p (by rw [ap (ar _),li];rfl);rw [e _ (ar _),h] at this;exact (aE this).symm
 ·rintro ⟨ok,ha⟩ j q hq
  by_cases hj:j<ps.length
  ·rw [aq hj] at hq;rw [e j (by omega)];exact ok j q hq
  ·rw [ap (by omega)] at hq;have hz:j - ps.length=0:=by
    have:=(ad.mp hq).1;rw [aN] at this;omega
   rw [hz] at hq;cases hq;rw [show j=ps.length by omega,e _ (ar _),h,ha]
theorem N1 (zs:List Int):(zs.map V.int).all yU=true:=by
 rw [gr];intro x hx;obtain ⟨z,_,rfl⟩:=aw.mp hx;rfl
abbrev jY:=Int×List (Nat×Bool)
def WyAt (H:Hp) (v:V) (y:jY):Prop:=∃(t st:Addr) (us:List V),v=.ref t∧H t=some (.tup [.int y.1,.ref st])∧H st=some (.tup us)∧AllAt (PAt H) us y.2
theorem WyAt.same (e:Same H H') (v:V) (y:jY):WyAt H v y→WyAt H' v y:=fun ⟨t,st,us,h1,h2,h3,h4⟩=>⟨t,st,us,h1,e _ _ h2,e _ _ h3,h4.mono (PAt.same e)⟩
theorem WyAt.put (hd:H d=some (.lst ys)) (v:V) (y:jY):WyAt H v y→WyAt (upd H d o) v y:=fun ⟨t,st,us,h1,h2,h3,h4⟩=>⟨t,st,us,h1,by rw [jH (fun z=>by rw [z,hd] at h2;cases h2)];exact h2,by rw [jH (fun z=>by rw [z,hd] at h3;cases h3)];exact h3,h4.mono (PAt.put hd)⟩
structure WyOk (L:List LC) (y:jY):Prop where
 lt:∀p∈y.2,p.1<L.length
 ok:bB L y.1 y.2
 le:y.2.length≤8
def StAt (H:Hp) (t:Addr) (d:Int) (ms:List Int) (pl:List Nat):Prop:=∃wt pt:Addr,H t=some (.tup [.int d,.ref wt,.ref pt])∧H wt=some (.tup (ms.map V.int))∧H pt=some (.tup (pl.map fun (p:Nat)=>V.int (p:Int)))
variable {t:Addr} {pl:List Nat}
theorem StAt.same {d:Int} (e:Same H H') (h:StAt H t d ms pl):StAt H' t d ms pl:=by
 obtain ⟨wt,pt,h1,h2,h3⟩:=h;exact ⟨wt,pt,e _ _ h1,e _ _ h2,e _ _ h3⟩
structure Fleet (L:List LC) (ys:List jY) (pl:List Nat):Prop where
 len:pl.length=ys.length
 n10:ys.length≤10
 ok:∀y∈ys,WyOk L y
 le:∀(i:Nat) (y:jY) (p:Nat),ys[i]?=some y→pl[i]?=some p→p≤y.2.length
def EndAt (L:List LC) (r:Int):Prop:=∃p:Nat×Bool,p.1<L.length∧(vM L p).1=r
theorem EndAt.next {p:Nat×Bool} (h:p.1<L.length):EndAt L (vM L p).2:=by
 obtain ⟨pk,pb⟩:=p;have e:=aa h;cases pb
 ·exact ⟨(pk,true),h,by rw [bS e,bJ e]⟩
 ·exact ⟨(pk,false),h,by rw [bS e,bJ e]⟩
theorem SR (L:List LC) (s:Int):bB L s []:=fun j p hp=>by cases hp
theorem atI_last (hn:xs.length=n+1) (h:xs[n]?=some v):vF xs (-1)=some v:=by
 have e:zQ xs.length (-1)=some n:=by
  unfold zQ;rw [if_neg (by decide),if_pos (by omega)]
  congr 1
  omega
 unfold vF;rw [e];exact h
def B5 (K:W.Frag) (cs:Kd→Addr) (cR cN eL:Addr):Sp:=fun vs H Q E=>∃(x st:Addr) (s:Int) (us:List V) (ps:List (Nat×Bool)) (D:List Addr) (R:List RC) (L:List LC) (N:List (List (Int×Int))),vs=[.ref x,.int s,.ref st]∧CnAt cs cR cN D H x R L N∧H st=some (.tup us)∧AllAt (PAt H) us ps∧(∀p∈ps,p.1<L.length)∧ps.length≤100∧
 (bB L s ps→∀(r:Addr) (H':Hp),Same H H'→H r=none→H' r=some (.lst ((vK L s ps).map V.int))→Q (.ref r) H')∧(¬bB L s ps→∀H',Same H H'→E (.ref eL) none H')
def rQ (K:W.Frag) (cs:Kd→Addr) (cR cN:Addr):Sp:=fun vs H Q _=>∃(x st:Addr) (s:Int) (us:List V) (ps:List (Nat×Bool)) (D:List Addr) (R:List RC) (L:List LC) (N:List (List (Int×Int))),vs=[.ref x,.int s,.ref st]∧CnAt cs cR cN D H x R L N∧H st=some (.tup us)∧AllAt (PAt H) us ps∧(∀p∈ps,p.1<L.length)∧ps.length≤100∧bB L s ps∧
 ∀(r:Addr) (H':Hp),Same H H'→H r=none→H' r=some (.lst ((vK L s ps).map V.int))→Q (.ref r) H'
theorem NW {eL:Addr}:∀vs H Q E,rQ K cs cR cN vs H Q E→B5 K cs cR cN eL vs H Q (fun _ _ _=>False):=by
 rintro vs H Q E ⟨x,st,s,us,ps,D,R,L,N,e,h1,h2,h3,h4,h5,h6,q⟩;exact ⟨x,st,s,us,ps,D,R,L,N,e,h1,h2,h3,h4,h5,fun _=>q,fun hno=>absurd h6 hno⟩
def StI (H:Hp) (t:Addr) (d:Int) (ms ps:List Int):Prop:=∃wt pt:Addr,H t=some (.tup [.int d,.ref wt,.ref pt])∧H wt=some (.tup (ms.map V.int))∧H pt=some (.tup (ps.map V.int))
theorem StI.same {d:Int} {ps:List Int} (e:Same H H') (h:StI H t d ms ps):StI H' t d ms ps:=by
 obtain ⟨wt,pt,h1,h2,h3⟩:=h;exact ⟨wt,pt,e _ _ h1,e _ _ h2,e _ _ h3⟩
theorem StAt.toI {d:Int} (h:StAt H t d ms pl):StI H t d ms (pl.map fun (p:Nat)=>(p:Int)):=by
 obtain ⟨wt,pt,h1,h2,h3⟩:=h;exact ⟨wt,pt,h1,h2,by rw [lm];exact h3⟩
def eC (ms:List Int) (W:List (Int×Int)) (r:Nat):Int:=if ms.getD r 0<(W.getD r (0,0)).2 then ms.getD r 0 else (W.getD r (0,0)).2
def cG (k:Nat) (ms:List Int) (W:List (Int×Int)) (n:Nat):List (Nat×Nat×Int):=(List.range n).map fun r=>(r,k,eC ms W r)
def bX (k:Nat) (W:List (Int×Int)) (n:Nat):List (Nat×Nat×Int):=(List.range n).map fun r=>(k,r,(W.getD r (0,0)).1)
def ZD (k:Nat) (ms:List Int) (W:List (Int×Int)) (n:Nat):List (Nat×Nat×Int):=cG k ms W n++bX k W n
theorem sH (k:Nat) (ms:List Int) (W:List (Int×Int)) (n:Nat):(cG k ms W n).length=n:=by unfold cG;rw [ae,bg]
theorem rR (k:Nat) (W:List (Int×Int)) (n:Nat):(bX k W n).length=n:=by unfold bX;rw [ae,bg]
theorem OJ {k:Nat} {W:List (Int×Int)} (h:i<n):(cG k ms W n).take (i+1)=(cG k ms W n).take i++[(i,k,eC ms W i)]:=by
 rw [aC];unfold cG;rw [av,cf h];rfl
theorem NM {k:Nat} {W:List (Int×Int)} (h:i<n):(bX k W n).take (i+1)=(bX k W n).take i++[(k,i,(W.getD i (0,0)).1)]:=by
 rw [aC];unfold bX;rw [av,cf h];rfl
theorem GB {W:List (Int×Int)} {y:Int×Int} (h:W[i]?=some y):W.getD i (0,0)=y:=by rw [af,h];rfl
theorem C1 {W:List (Int×Int)} {y:Int×Int} (h:W[i]?=some y):eC ms W i=if ms.getD i 0<y.2 then ms.getD i 0 else y.2:=by unfold eC;rw [GB h]
theorem PQ {W:List (Int×Int)} {y:Int×Int} (h:W[i]?=some y):eC ms W i=if y.2<ms.getD i 0 then y.2 else ms.getD i 0:=by rw [C1 h];split<;>split<;>omega
def RA (R:List RC) (m:Nat) (ms:List Int) (W:List (Int×Int)) (gs:List Int):List (Nat×Nat×Int):=(ZD (R.length+2*m+1) ms W R.length).filter vD++(zT (kW (qD R m)) (fun a=>gs.getD a 0) (qD R m).length).filter vD
def T7 (R:List RC) (m:Nat) (ms:List Int) (W:List (Int×Int)):List Int:=kK ms ((ZD (R.length+2*m+1) ms W R.length).filter vD)
theorem pZ {wq wa:Addr} {ws:List V} (hT:cD R) (h:AllAt (QAt H) ws (R.map (JO (JH R.length m)))) (hwq:H wq=some (.lst ws)) (hwa:Ints K H wa ms) (hms:ms.length=R.length+2*m+2) (h1:R.length≤100) (h2:m≤100):Ready K H wq wa ws (qD R m) ms :=
 ⟨so hwq,by have:=BS (K:=K) hT h;rw [fF] at this;rw [hms];exact this,hwa,iX hT,by rw [bI];omega,by omega⟩
def B4 (K:W.Frag) (cs:Kd→Addr) (cR cN:Addr):Sp:=fun vs H Q _=>∃(x t wl:Addr) (d:Int) (ms ps:List Int) (us:List V) (W:List (Int×Int)) (D:List Addr) (R:List RC) (L:List LC) (N:List (List (Int×Int))),vs=[.ref x,.ref t,.ref wl]∧CnAt cs cR cN D H x R L N∧StI H t d ms ps∧H wl=some (.lst us)∧AllAt (QAt H) us W∧W.length=R.length∧ms.length=R.length+2*L.length+2∧R.length≤100∧L.length≤100∧cD R∧
 ∀(r:Addr) (H':Hp) (gs:List Int) (ys:List V),Same H H'→H r=none→H' r=some (.lst ys)→PoursH H' ys (RA R L.length ms W gs) ms.length→Spl (qD R L.length) (T7 R L.length ms W) gs→Q (.ref r) H'
def vU (L:List LC) (y:jY) (p:Nat):Int:=if p=y.2.length then -1 else (vK L y.1 y.2).getD p 0
def tX:Sp:=fun vs H Q _=>∃(t:Addr) (y:jY) (p:Int),vs=[.ref t,.int p]∧WyAt H (.ref t) y∧Q (.int ((y.2.length:Int) - p)) H
def rP (cs:Kd→Addr) (cR cN:Addr):Sp:=fun vs H Q _=>∃(x t:Addr) (y:jY) (p:Nat) (D:List Addr) (R:List RC) (L:List LC) (N:List (List (Int×Int))),vs=[.ref x,.ref t,.int (p:Int)]∧CnAt cs cR cN D H x R L N∧WyAt H (.ref t) y∧WyOk L y∧p≤y.2.length∧∀H',Same H H'→Q (.int (vU L y p)) H'
def JI (L:List LC) (ys:List jY) (pl:List Nat):List Int:=(List.range ys.length).map fun i=>vU L (ys.getD i (0,[])) (pl.getD i 0)
def bZ (ys:List jY) (pl:List Nat):List Int:=(List.range ys.length).map fun i=>((ys.getD i (0,[])).2.length:Int) - ((pl.getD i 0:Nat):Int)
def QC (ys:List jY) (pl:List Nat):Int:=(bZ ys pl).sum
def C7 (cs:Kd→Addr) (cR cN:Addr):Sp:=fun vs H Q _=>∃(x wl st:Addr) (r:Int) (us:List V) (ys:List jY) (d:Int) (ms:List Int) (pl:List Nat) (D:List Addr) (R:List RC) (L:List LC) (N:List (List (Int×Int))),vs=[.ref x,.ref wl,.ref st,.int r]∧CnAt cs cR cN D H x R L N∧H wl=some (.lst us)∧AllAt (WyAt H) us ys∧StAt H st d ms pl∧Fleet L ys pl∧∀H',Same H H'→Q (.int (((JI L ys pl).countP fun z=>decide (z=r):Nat):Int)) H'
theorem UO (b:Bool):wv b=.str (gQ b):=by cases b<;>rfl
def JF (r l k:Nat) (lc:LC) (s:Str):Nat:=if s="high" then lc.high.toNat else if s="low" then lc.low.toNat else if s="chamber" then r+k else r+l+k
def mX (r l k:Nat) (lc:LC) (q:Str×Str×Int):Nat×Nat×Int:=(JF r l k lc q.1,JF r l k lc q.2.1,q.2.2)
inductive okW:Str→Prop
 |high:okW "high"
 |low:okW "low"
 |cham:okW "chamber"
 |bas:okW "basin"
theorem BT (r l k:Nat) (lc:LC):JF r l k lc "high"=lc.high.toNat:=if_pos rfl
theorem CZ (r l k:Nat) (lc:LC):JF r l k lc "low"=lc.low.toNat:=by unfold JF;rw [if_neg (show ¬("low":Str)="high" by decide +kernel),if_pos rfl]
theorem AI (r l k:Nat) (lc:LC):JF r l k lc "chamber"=r+k:=by unfold JF;rw [if_neg (show ¬("chamber":Str)="high" by decide +kernel),if_neg (show ¬("chamber":Str)="low" by decide +kernel),if_pos rfl]
theorem AJ (r l k:Nat) (lc:LC):JF r l k lc "basin"=r+l+k:=by unfold JF;rw [if_neg (show ¬("basin":Str)="high" by decide +kernel),if_neg (show ¬("basin":Str)="low" by decide +kernel),if_neg (show ¬("basin":Str)="chamber" by decide +kernel)]
theorem EF {r l k:Nat} {lc:LC} {s:Str} (h:okW s) (hg:lc.good r) (hk:k<l):JF r l k lc s<r+2*l+2:=by
 obtain ⟨g1,g2,g3,g4,_⟩:=hg;cases h
 ·rw [BT];omega
 ·rw [CZ];omega
 ·rw [AI];omega
 ·rw [AJ];omega
def d4 (a b c d:V):List (kF×V):=[(.inr "high",a),(.inr "low",b),(.inr "chamber",c),(.inr "basin",d)]
theorem JY {s t:Str} (h:¬s=t):¬((Sum.inr s:kF)=(Sum.inr t:kF)):=fun e=>h (Sum.inr.inj e)
theorem T8 (a b c d:V):dR [] [((.inr "high":kF),a),(.inr "low",b),(.inr "chamber",c),(.inr "basin",d)]=d4 a b c d:=by
 show zZ (zZ (zZ (zZ ([]:List (kF×V)) (Sum.inr "high") a) (Sum.inr "low") b) (Sum.inr "chamber") c) (Sum.inr "basin") d=_;rw [lH a (valV_nil:v7 [] (Sum.inr "high":kF)=none)];rw [lH b (by show v7 [((.inr "high":kF),a)] (.inr "low")=none;rw [zH (JY (by decide +kernel))];rfl)];rw [lH c (by show v7 [((.inr "high":kF),a),(.inr "low",b)] (.inr "chamber")=none;rw [zH (JY (by decide +kernel)),zH (JY (by decide +kernel))];rfl)];rw [lH d (by show v7 [((.inr "high":kF),a),(.inr "low",b),(.inr "chamber",c)] (.inr "basin")=none;rw [zH (JY (by decide +kernel)),zH (JY (by decide +kernel)),zH (JY (by decide +kernel))];rfl)];rfl
theorem VM {p:Addr} {a b c d:V} (h:H p=some (.dK (d4 a b c d))):DGet H p (.str "high") (some a)∧DGet H p (.str "low") (some b)∧DGet H p (.str "chamber") (some c)∧DGet H p (.str "basin") (some d):=by
 have e1:v7 (d4 a b c d) (.inr "high")=some a:=by unfold d4;rw [bL rfl]
 have e2:v7 (d4 a b c d) (.inr "low")=some b:=by unfold d4;rw [zH (JY (by decide +kernel)),bL rfl]
 have e3:v7 (d4 a b c d) (.inr "chamber")=some c:=by unfold d4;rw [zH (JY (by decide +kernel)),zH (JY (by decide +kernel)),bL rfl]
 have e4:v7 (d4 a b c d) (.inr "basin")=some d:=by unfold d4;rw [zH (JY (by decide +kernel)),zH (JY (by decide +kernel)),zH (JY (by decide +kernel)),bL rfl]
 refine ⟨?_,?_,?_,?_⟩
 ·rw [← e1];exact DGet.k (k:=.inr "high") h
 ·rw [← e2];exact DGet.k (k:=.inr "low") h
 ·rw [← e3];exact DGet.k (k:=.inr "chamber") h
 ·rw [← e4];exact DGet.k (k:=.inr "basin") h
theorem sZ (kd:Kd) (room v b:Int):∀q∈zX kd room v b,okW q.1∧okW q.2.1:=fun q hq=>by
 obtain ⟨p,hp,rfl⟩:=aw.mp hq;refine ⟨?_,.cham⟩;cases kd
 ·have:=(aO.mp hp).1;rw [aA] at this;rw [this];exact .high
 ·have:=(aO.mp hp).1;simp only [ax,aM,dh] at this
  rcases this with rfl|rfl
  ·exact .bas
  ·exact .high
 ·have:=(aO.mp hp).1;simp only [ax,aM,dh] at this
  rcases this with rfl|rfl
  ·exact .low
  ·exact .high
theorem lS (kd:Kd) (room v b:Int):∀q∈zA kd room v b,okW q.1∧okW q.2.1:=fun q hq=>by
 obtain ⟨p,hp,rfl⟩:=aw.mp hq;refine ⟨.cham,?_⟩;cases kd
 ·have:=(aO.mp hp).1;rw [aA] at this;rw [this];exact .low
 ·have:=(aO.mp hp).1;simp only [ax,aM,dh] at this
  rcases this with rfl|rfl
  ·exact .bas
  ·exact .low
 ·have:=(aO.mp hp).1;rw [aA] at this;rw [this];exact .low
theorem P0 (kd:Kd) (room v:Int) (f:Bool) (b:Int) (w:Bool):∀q∈mL kd room v f b w,okW q.1∧okW q.2.1:=fun q hq=>by
 cases w<;>cases f
 ·rcases aR.mp hq with h|h
  ·exact sZ _ _ _ _ q h
  ·exact lS _ _ _ _ q h
 ·exact lS _ _ _ _ q hq
 ·exact sZ _ _ _ _ q hq
 ·rcases aR.mp hq with h|h
  ·exact lS _ _ _ _ q h
  ·exact sZ _ _ _ _ q h
def gD (r:Nat) (ms:List Int) (k:Nat):Bool:=decide (0<ms.getD (r+k) 0)
def QY (r:Nat) (L:List LC) (ms:List Int) (s:Nat×Bool):List (Nat×Nat×Int):=match L[s.1]? with
 |some l=>(mL l.kd l.room l.extra (gD r ms s.1) (ms.getD (r+L.length+s.1) 0) s.2).map (mX r L.length s.1 l)
 |none=>[]
def gJ (r:Nat) (L:List LC) (ms:List Int) (k:Nat):List (Nat×Nat×Int):=match L[k]? with
 |some l=>(zA l.kd l.room l.extra (ms.getD (r+L.length+k) 0)).map (mX r L.length k l)
 |none=>[]
def ZM (R:List RC) (ms:List Int) (v:Nat):Bool:=match R[v]? with
 |some r=>decide (ms.getD v 0<r.least)
 |none=>false
def QR (R:List RC):List Int→List (Nat×Nat×Int)→Bool
 |_,[]=>false
 |ms,q::qs=>ZM R (pour ms q) q.1||QR R (pour ms q) qs
def fQ (R:List RC) (t:Int):Int:=match R[t.toNat]? with
 |some r=>r.berths
 |none=>0
def gG (R:List RC) (L:List LC) (ys:List jY) (ms:List Int) (pl:List Nat) (b:Nat):Str :=
 if pl.getD b 0=(ys.getD b (0,[])).2.length then "home" else
 if ¬vU L (ys.getD b (0,[])) (pl.getD b 0+1) = -1∧fQ R (vU L (ys.getD b (0,[])) (pl.getD b 0+1))≤(((JI L ys pl).countP fun z=>decide (z=vU L (ys.getD b (0,[])) (pl.getD b 0+1)):Nat):Int) then "berth" else
 if QR R ms (QY R.length L ms ((ys.getD b (0,[])).2.getD (pl.getD b 0) (0,true)))=true then "water" else ""
inductive Deed
 |pass (b:Nat)
 |let (k:Nat)
 |night
def Z1:Deed→List V
 |.pass b=>[.str "pass",.int (b:Int)]
 |.let k=>[.str "let",.int (k:Int)]
 |.night=>[.str "night"]
def v6 (R:List RC) (L:List LC) (n:Nat) (ys:List jY) (d:Int) (ms:List Int) (pl:List Nat):Deed→Str
 |.pass b=>gG R L ys ms pl b
 |.let k=>if gD R.length ms k=true then "" else "empty"
 |.night=>if d<(n:Int) then "" else "over"
def dU (nb nl:Nat):Deed→Prop
 |.pass b=>b<nb
 |.let k=>k<nl
 |.night=>True
def tM (cs:Kd→Addr) (cR cN:Addr):Sp:=fun vs H Q _=>∃(x p:Addr) (k:Nat) (l:LC) (rs:List V) (ps:List (Str×Str×Int)) (D:List Addr) (R:List RC) (L:List LC) (N:List (List (Int×Int))),vs=[.ref x,.int (k:Int),.ref p]∧CnAt cs cR cN D H x R L N∧L[k]?=some l∧l.good R.length∧H p=some (.lst rs)∧PoursS H rs ps∧(∀q∈ps,okW q.1∧okW q.2.1)∧ps.length≤10∧
 ∀(r:Addr) (H':Hp) (zs:List V),Same H H'→H r=none→H' r=some (.lst zs)→PoursH H' zs (ps.map (mX R.length L.length k l)) (R.length+2*L.length+2)→Q (.ref r) H'
structure Stage (cs:Kd→Addr) (cR cN:Addr) (D:List Addr) (H:Hp) (x wl st:Addr) (us:List V) (R:List RC) (L:List LC) (N:List (List (Int×Int))) (ys:List jY) (d:Int) (ms:List Int) (pl:List Nat):Prop where
 cn:CnAt cs cR cN D H x R L N
 dr:Drawn R L N
 wls:H wl=some (.lst us)
 wys:AllAt (WyAt H) us ys
 sts:StAt H st d ms pl
 fl:Fleet L ys pl
 ml:ms.length=R.length+2*L.length+2
variable {wl st:Addr} {us:List V}
theorem Stage.same {ys:List jY} {d:Int} (h:Stage cs cR cN D H x wl st us R L N ys d ms pl) (e:Same H H'):Stage cs cR cN D H' x wl st us R L N ys d ms pl:=⟨h.cn.same e,h.dr,e _ _ h.wls,h.wys.mono (WyAt.same e),h.sts.same e,h.fl,h.ml⟩
def EK:Sp:=fun vs H Q _=>∃(t:Addr) (y:jY) (p:Nat) (s:Nat×Bool),vs=[.ref t,.int (p:Int)]∧WyAt H (.ref t) y∧y.2[p]?=some s∧∀v,PAt H v s→Q v H
def AR (cs:Kd→Addr) (cR cN:Addr):Sp:=fun vs H Q _=>∃(x wl st:Addr) (b:Nat) (r:RC) (us:List V) (ys:List jY) (d:Int) (ms:List Int) (pl:List Nat) (D:List Addr) (R:List RC) (L:List LC) (N:List (List (Int×Int))),vs=[.ref x,.ref wl,.ref st,.int (b:Int)]∧Stage cs cR cN D H x wl st us R L N ys d ms pl∧R[b]?=some r∧∀H',Same H H'→Q (.bl (decide (r.berths≤(((JI L ys pl).countP fun z=>decide (z=(b:Int)):Nat):Int)))) H'
def tJ (cs:Kd→Addr) (cR cN:Addr):Sp:=fun vs H Q _=>∃(x wl st:Addr) (b:Nat) (us:List V) (ys:List jY) (y:jY) (p:Nat) (s:Nat×Bool) (d:Int) (ms:List Int) (pl:List Nat) (D:List Addr) (R:List RC) (L:List LC) (N:List (List (Int×Int))),vs=[.ref x,.ref wl,.ref st,.int (b:Int)]∧Stage cs cR cN D H x wl st us R L N ys d ms pl∧ys[b]?=some y∧pl[b]?=some p∧y.2[p]?=some s∧
 ∀(r:Addr) (H':Hp) (zs:List V),Same H H'→H r=none→H' r=some (.lst zs)→PoursH H' zs (QY R.length L ms s) ms.length→Q (.ref r) H'
def DA (cs:Kd→Addr) (cR cN:Addr):Sp:=fun vs H Q _=>∃(x wl st:Addr) (k:Nat) (us:List V) (ys:List jY) (d:Int) (ms:List Int) (pl:List Nat) (D:List Addr) (R:List RC) (L:List LC) (N:List (List (Int×Int))),vs=[.ref x,.ref st,.int (k:Int)]∧Stage cs cR cN D H x wl st us R L N ys d ms pl∧k<L.length∧
 ∀(r:Addr) (H':Hp) (zs:List V),Same H H'→H r=none→H' r=some (.lst zs)→PoursH H' zs (gJ R.length L ms k) ms.length→Q (.ref r) H'
def FC (cs:Kd→Addr) (cR cN:Addr):Sp:=fun vs H Q _=>∃(x w:Addr) (v:Nat) (ms:List Int) (D:List Addr) (R:List RC) (L:List LC) (N:List (List (Int×Int))),vs=[.ref x,.ref w,.int (v:Int)]∧CnAt cs cR cN D H x R L N∧H w=some (.tup (ms.map V.int))∧v<ms.length∧Q (.bl (ZM R ms v)) H
def BZ (cs:Kd→Addr) (cR cN:Addr):Sp:=fun vs H Q _=>∃(x w p:Addr) (ms:List Int) (zs:List V) (qs:List (Nat×Nat×Int)) (D:List Addr) (R:List RC) (L:List LC) (N:List (List (Int×Int))),vs=[.ref x,.ref w,.ref p]∧CnAt cs cR cN D H x R L N∧H w=some (.tup (ms.map V.int))∧H p=some (.lst zs)∧PoursH H zs qs ms.length∧ms.length≤1000∧∀H',Same H H'→Q (.bl (QR R ms qs)) H'
def EI (cs:Kd→Addr) (cR cN:Addr):Sp:=fun vs H Q _=>∃(x wl st:Addr) (b:Nat) (us:List V) (ys:List jY) (d:Int) (ms:List Int) (pl:List Nat) (D:List Addr) (R:List RC) (L:List LC) (N:List (List (Int×Int))),vs=[.ref x,.ref wl,.ref st,.int (b:Int)]∧Stage cs cR cN D H x wl st us R L N ys d ms pl∧b<ys.length∧∀H',Same H H'→Q (.str (gG R L ys ms pl b)) H'
def tW (cs:Kd→Addr) (cR cN:Addr):Sp:=fun vs H Q _=>∃(x wl st dd:Addr) (de:Deed) (us:List V) (ys:List jY) (d:Int) (ms:List Int) (pl:List Nat) (D:List Addr) (R:List RC) (L:List LC) (N:List (List (Int×Int))),vs=[.ref x,.ref wl,.ref st,.ref dd]∧Stage cs cR cN D H x wl st us R L N ys d ms pl∧H dd=some (.tup (Z1 de))∧dU ys.length L.length de∧∀H',Same H H'→Q (.str (v6 R L N.length ys d ms pl de)) H'
theorem TX {y:jY} {p:Nat} {s:Nat×Bool} (ok:WyOk L y) (hs:y.2[p]?=some s):vU L y p=(vM L s).1:=by
 have hp:=(ad.mp hs).1;unfold vU;rw [if_neg (by omega),af,ok.ok p s hs];rfl
theorem RO (d:Drawn R L N) {s:Nat×Bool} (h:s.1<L.length):0≤(vM L s).1∧(vM L s).1<(R.length:Int):=by
 obtain ⟨l,hl,g1,g2,g3,g4,_⟩:=AA d h;obtain ⟨k,b⟩:=s;cases b
 ·rw [bJ hl];show 0≤l.high∧l.high<_;omega
 ·rw [bS hl];show 0≤l.low∧l.low<_;omega
theorem ET (d:Drawn R L N) {y:jY} (ok:WyOk L y) {p:Nat} (hp:p<y.2.length):0≤vU L y p∧vU L y p<(R.length:Int):=by
 have hs:=aa hp;rw [TX ok hs];exact RO d (ok.lt _ (ai hs))
theorem DJ (L:List LC) (y:jY):vU L y y.2.length = -1:=if_pos rfl
def Q0 (R:List RC) (L:List LC) (N:List (List (Int×Int))) (ys:List jY) (d:Int) (ms:List Int) (pl:List Nat):Deed→List (Nat×Nat×Int)
 |.pass b=>QY R.length L ms ((ys.getD b (0,[])).2.getD (pl.getD b 0) (0,true))
 |.let k=>gJ R.length L ms k
 |.night=>(ZD (R.length+2*L.length+1) ms (N.getD d.toNat []) R.length).filter vD
def QP (R:List RC) (L:List LC) (N:List (List (Int×Int))) (ys:List jY) (d:Int) (ms:List Int) (pl:List Nat) (de:Deed) (gs:List Int):List (Nat×Nat×Int):=Q0 R L N ys d ms pl de++(zT (kW (qD R L.length)) (fun a=>gs.getD a 0) (qD R L.length).length).filter vD
def JP (pl:List Nat) (b:Nat):List Nat:=(List.range pl.length).map fun i=>if i=b then pl.getD i 0+1 else pl.getD i 0
def Z2 (d:Int):Deed→Int
 |.night=>d+1
 |_=>d
def Q7 (pl:List Nat):Deed→List Nat
 |.pass b=>JP pl b
 |_=>pl
def sM (cs:Kd→Addr) (cR cN eW:Addr):Sp:=fun vs H Q E=>∃(x wl st dd:Addr) (de:Deed) (us:List V) (ys:List jY) (d:Int) (ms:List Int) (pl:List Nat) (D:List Addr) (R:List RC) (L:List LC) (N:List (List (Int×Int))),vs=[.ref x,.ref wl,.ref st,.ref dd]∧Stage cs cR cN D H x wl st us R L N ys d ms pl∧H dd=some (.tup (Z1 de))∧dU ys.length L.length de∧0≤d∧
 (v6 R L N.length ys d ms pl de=""→∀(r:Addr) (H':Hp) (gs:List Int) (zs:List V),Same H H'→H r=none→H' r=some (.lst zs)→PoursH H' zs (QP R L N ys d ms pl de gs) ms.length→Spl (qD R L.length) (kK ms (Q0 R L N ys d ms pl de)) gs→Q (.ref r) H')∧
 (¬v6 R L N.length ys d ms pl de=""→∀H',Same H H'→E (.ref eW) none H')
def B6 (cs:Kd→Addr) (cR cN eW:Addr):Sp:=fun vs H Q E=>∃(x wl st dd:Addr) (de:Deed) (us:List V) (ys:List jY) (d:Int) (ms:List Int) (pl:List Nat) (D:List Addr) (R:List RC) (L:List LC) (N:List (List (Int×Int))),vs=[.ref x,.ref wl,.ref st,.ref dd]∧Stage cs cR cN D H x wl st us R L N ys d ms pl∧H dd=some (.tup (Z1 de))∧dU ys.length L.length de∧0≤d∧
 (v6 R L N.length ys d ms pl de=""→∀(r:Addr) (H':Hp) (gs:List Int),Same H H'→H r=none→StAt H' r (Z2 d de) (kK ms (QP R L N ys d ms pl de gs)) (Q7 pl de)→Spl (qD R L.length) (kK ms (Q0 R L N ys d ms pl de)) gs→Q (.ref r) H')∧
 (¬v6 R L N.length ys d ms pl de=""→∀H',Same H H'→E (.ref eW) none H')
def BW:Sp:=fun vs H Q _=>∃(pt:Addr) (pl:List Nat) (b:Nat),vs=[.ref pt,.int (b:Int)]∧H pt=some (.tup (pl.map fun (p:Nat)=>V.int (p:Int)))∧pl.length≤100∧∀(r:Addr) (H':Hp),Same H H'→H r=none→H' r=some (.tup ((JP pl b).map fun (p:Nat)=>V.int (p:Int)))→Q (.ref r) H'
theorem BR {ys:List jY} {b:Nat} (h:gG R L ys ms pl b=""):¬pl.getD b 0=(ys.getD b (0,[])).2.length:=fun e=>by
 unfold gG at h;rw [if_pos e] at h;exact absurd h (by decide +kernel)
theorem OS (r:Nat) (L:List LC) (ms:List Int) (s:Nat×Bool):(QY r L ms s).length≤4:=by
 unfold QY
 split
 ·rw [ae];exact AZ _ _ _ _ _ _
 ·exact aY _
theorem RH (r:Nat) (L:List LC) (ms:List Int) (k:Nat):(gJ r L ms k).length≤4:=by
 unfold gJ
 split
 ·rw [ae];exact aG (bO _ _ _ _) (by decide)
 ·exact aY _
theorem fE (pl:List Nat) (b:Nat):(JP pl b).length=pl.length:=by unfold JP;rw [ae,bg]
theorem xI {b:Nat} (h:i<pl.length):(JP pl b).take (i+1)=(JP pl b).take i++[if i=b then pl.getD i 0+1 else pl.getD i 0]:=by
 rw [aC];unfold JP;rw [av,cf h];rfl
def AT:Sp:=fun vs H Q _=>∃(st dd wo:Addr) (de:Deed) (d:Int) (ms mo:List Int) (pl:List Nat),vs=[.ref st,.ref dd,.ref wo]∧StAt H st d ms pl∧H dd=some (.tup (Z1 de))∧H wo=some (.tup (mo.map V.int))∧pl.length≤100∧∀(r:Addr) (H':Hp),Same H H'→H r=none→StAt H' r (Z2 d de) mo (Q7 pl de)→Q (.ref r) H'
def B3 (cs:Kd→Addr) (cR cN:Addr):Sp:=fun vs H Q _=>∃(x wl st dd:Addr) (de:Deed) (us:List V) (ys:List jY) (d:Int) (ms:List Int) (pl:List Nat) (D:List Addr) (R:List RC) (L:List LC) (N:List (List (Int×Int))),vs=[.ref x,.ref wl,.ref st,.ref dd]∧Stage cs cR cN D H x wl st us R L N ys d ms pl∧H dd=some (.tup (Z1 de))∧dU ys.length L.length de∧0≤d∧v6 R L N.length ys d ms pl de=""∧
 ∀(r:Addr) (H':Hp) (gs:List Int) (zs:List V),Same H H'→H r=none→H' r=some (.lst zs)→PoursH H' zs (QP R L N ys d ms pl de gs) ms.length→Spl (qD R L.length) (kK ms (Q0 R L N ys d ms pl de)) gs→Q (.ref r) H'
variable {eW:Addr}
theorem OO:∀vs H Q E,B3 cs cR cN vs H Q E→sM cs cR cN eW vs H Q (fun _ _ _=>False):=by
 rintro vs H Q E ⟨x,wl,st,dd,de,us,ys,d,ms,pl,D,R,L,N,e,h1,h2,h3,h4,h5,q⟩;exact ⟨x,wl,st,dd,de,us,ys,d,ms,pl,D,R,L,N,e,h1,h2,h3,h4,fun _=>q,fun h=>absurd h5 h⟩
def lA (cs:Kd→Addr) (cR cN:Addr):Sp:=fun vs H Q _=>∃(x wl st dd:Addr) (de:Deed) (us:List V) (ys:List jY) (d:Int) (ms:List Int) (pl:List Nat) (D:List Addr) (R:List RC) (L:List LC) (N:List (List (Int×Int))),vs=[.ref x,.ref wl,.ref st,.ref dd]∧Stage cs cR cN D H x wl st us R L N ys d ms pl∧H dd=some (.tup (Z1 de))∧dU ys.length L.length de∧0≤d∧v6 R L N.length ys d ms pl de=""∧
 ∀(r:Addr) (H':Hp) (gs:List Int),Same H H'→H r=none→StAt H' r (Z2 d de) (kK ms (QP R L N ys d ms pl de gs)) (Q7 pl de)→Spl (qD R L.length) (kK ms (Q0 R L N ys d ms pl de)) gs→Q (.ref r) H'
theorem PL:∀vs H Q E,lA cs cR cN vs H Q E→B6 cs cR cN eW vs H Q (fun _ _ _=>False):=by
 rintro vs H Q E ⟨x,wl,st,dd,de,us,ys,d,ms,pl,D,R,L,N,e,h1,h2,h3,h4,h5,q⟩;exact ⟨x,wl,st,dd,de,us,ys,d,ms,pl,D,R,L,N,e,h1,h2,h3,h4,fun _=>q,fun h=>absurd h5 h⟩
def DdAt (H:Hp) (v:V) (de:Deed):Prop:=∃t,v=.ref t∧H t=some (.tup (Z1 de))
theorem DdAt.same (e:Same H H') (v:V) (de:Deed):DdAt H v de→DdAt H' v de:=fun ⟨t,h1,h2⟩=>⟨t,h1,e _ _ h2⟩
theorem DdAt.put (hd:H d=some (.lst ys)) (v:V) (de:Deed):DdAt H v de→DdAt (upd H d o) v de:=fun ⟨t,h1,h2⟩=>⟨t,h1,by rw [jH (fun z=>by rw [z,hd] at h2;cases h2)];exact h2⟩
def passes (n:Nat):List Deed:=(List.range n).map Deed.pass
def lets (n:Nat):List Deed:=(List.range n).map Deed.let
def y7 (nb nl:Nat):List Deed:=passes nb++lets nl++[.night]
variable {de:Deed}
theorem rF {nb nl:Nat} (h:de∈y7 nb nl):dU nb nl de:=by
 rcases aR.mp h with h|h
 ·rcases aR.mp h with h|h
  ·obtain ⟨i,hi,rfl⟩:=aw.mp h;exact du.mp hi
  ·obtain ⟨i,hi,rfl⟩:=aw.mp h;exact du.mp hi
 ·rw [aA.mp h];trivial
theorem AllAt.app {P:V→α→Prop} {xs ys:List α} (h:AllAt P vs xs) (h':AllAt P us ys):AllAt P (vs++us) (xs++ys):=by
 refine ⟨by rw [ag,ag,h.1,h'.1],fun i v hi=>?_⟩
 by_cases hl:i<vs.length
 ·rw [aq hl] at hi;obtain ⟨x,h1,h2⟩:=h.2 i v hi;exact ⟨x,by rw [aq (by rw [← h.1];exact hl)];exact h1,h2⟩
 ·rw [ap (by omega)] at hi;obtain ⟨x,h1,h2⟩:=h'.2 _ v hi;exact ⟨x,by rw [ap (by rw [← h.1];omega),← h.1];exact h1,h2⟩
def vJ (R:List RC) (L:List LC) (n:Nat) (ys:List jY) (d:Int) (ms:List Int) (pl:List Nat):List Deed:=(y7 ys.length L.length).filter fun de=>decide (v6 R L n ys d ms pl de="")
theorem iY (nb nl:Nat):(y7 nb nl).length=nb+nl+1:=by unfold y7 passes lets;rw [ag,ag,ae,ae,bg,bg];rfl
def f7 (cs:Kd→Addr) (cR cN:Addr):Sp:=fun vs H Q _=>∃(x wl st:Addr) (us:List V) (ys:List jY) (d:Int) (ms:List Int) (pl:List Nat) (D:List Addr) (R:List RC) (L:List LC) (N:List (List (Int×Int))),vs=[.ref x,.ref wl,.ref st]∧Stage cs cR cN D H x wl st us R L N ys d ms pl∧∀(r:Addr) (zs:List V) (H':Hp),Same H H'→H r=none→H' r=some (.lst zs)→AllAt (DdAt H') zs (vJ R L N.length ys d ms pl)→Q (.ref r) H'
theorem CI {ys:List jY} {d:Int} (h:(y7 ys.length L.length)[i]?=some de):((y7 ys.length L.length).take (i+1)).filter (fun de=>decide (v6 R L n ys d ms pl de=""))=((y7 ys.length L.length).take i).filter (fun de=>decide (v6 R L n ys d ms pl de=""))++(if v6 R L n ys d ms pl de="" then [de] else []):=by
 rw [aC,h,aT];show _++[de].filter _=_;rw [aP]
 by_cases hw:v6 R L n ys d ms pl de=""
 ·rw [if_pos (aK hw),if_pos hw];rfl
 ·rw [if_neg (by rw [ff];exact hw),if_neg hw];rfl
theorem NJ (hA:dW ws.length (kW ws)) (hR:ws.length≤ms.length) (ht:∀a,a<ws.length→kW ws a<ms.length):∃gs,Spl ws ms gs:=by
 have:∀k,k≤ws.length→∃hs gs,SplInv ws ms hs gs k:=by
  intro k
  induction k with
  |zero=>intro _;exact ⟨_,_,SplInv.start ws ms⟩
  |succ k ih =>
   intro hk;obtain ⟨hs,gs,h⟩:=ih (by omega);exact ⟨_,_,h.step hA hR (by omega) (ht _ (by omega))⟩
 obtain ⟨hs,gs,h⟩:=this ws.length (ar _);exact ⟨gs,h.spl⟩
theorem NI {r:RC} (h:R[i]?=some r):kW (qD R m) i=if r.target = -1 then R.length+2*m else r.target.toNat:=by
 unfold kW qD;rw [af,av,h];rfl
theorem AM (hT:cD R):∀a,a<(qD R m).length→kW (qD R m) a<R.length+2*m+2:=fun a ha=>by
 rw [bI] at ha;have hr:=aa ha;rw [NI hr];have:=hT a _ hr
 split<;>omega
theorem RL {ys:List jY} {d:Int} (hf:Fleet L ys pl) (hw:v6 R L n ys d ms pl de=""):Fleet L ys (Q7 pl de):=by
 cases de with
 |night=>exact hf
 |«let» j=>exact hf
 |pass b =>
  refine ⟨by show (JP pl b).length=_;rw [fE];exact hf.len,hf.n10,hf.ok,fun i y p hy hp=>?_⟩;have hi:i<pl.length:=by have:=(ad.mp hp).1;rw [show Q7 pl (.pass b)=JP pl b from rfl,fE] at this;exact this
  have hp:(JP pl b)[i]?=some p:=hp;unfold JP at hp;rw [av,cf hi] at hp;have hp:some (if i=b then pl.getD i 0+1 else pl.getD i 0)=some p:=hp;have hp:=aE hp;have eg:pl[i]?=some (pl.getD i 0):=by rw [af,aa hi];rfl
  have h1:=hf.le i y _ hy eg
  by_cases hb:i=b
  ·rw [if_pos hb] at hp;subst hb;have hne:=BR hw;rw [show ys.getD i (0,[])=y by rw [af,hy];rfl] at hne;omega
  ·rw [if_neg hb] at hp;omega
theorem RZ {ys:List jY} {d:Int} (hd:Drawn R L N) (hm:ms.length=R.length+2*L.length+2):kK ms (QP R L N ys d ms pl de gs)=Z5 (kK ms (Q0 R L N ys d ms pl de)) (qD R L.length) gs:=by
 unfold QP;show List.foldl pour ms _=_;rw [fz];show kK (kK ms _) _=_;exact xT (xR (by rw [bI,JZ];omega) (by rw [JZ,hm];exact AM (dB hd)))
noncomputable def uY (R:List RC) (L:List LC) (ms:List Int):List Int:=open Classical in if h:∃gs,Spl (qD R L.length) ms gs then Z5 ms (qD R L.length) (Classical.choose h) else ms
theorem SC (hd:Drawn R L N) (h:Spl (qD R L.length) ms gs):Z5 ms (qD R L.length) gs=uY R L ms:=by
 have hex:∃gs,Spl (qD R L.length) ms gs:=⟨gs,h⟩;unfold uY;rw [dif_pos hex,Spl.unique (r9 (iX (m:=L.length) (dB hd))) h (Classical.choose_spec hex)]
abbrev yI:=Int×List Int×List Nat
noncomputable def QA (R:List RC) (L:List LC) (N:List (List (Int×Int))) (ys:List jY) (s:yI) (de:Deed):yI:=(Z2 s.1 de,uY R L (kK s.2.1 (Q0 R L N ys s.1 s.2.1 s.2.2 de)),Q7 s.2.2 de)
theorem tP {ys:List jY} {s:yI} (hd:Drawn R L N) (hm:s.2.1.length=R.length+2*L.length+2) (h:Spl (qD R L.length) (kK s.2.1 (Q0 R L N ys s.1 s.2.1 s.2.2 de)) gs):QA R L N ys s de=(Z2 s.1 de,kK s.2.1 (QP R L N ys s.1 s.2.1 s.2.2 de gs),Q7 s.2.2 de):=by
 unfold QA;rw [RZ hd hm,SC hd h]
variable {H0:Hp}
theorem lG {cs:List Addr} (s:Same H0 H) (h:∀c∈cs,H0 c=none):Same H0 (kR H cs):=fun b o e=>by
 rw [vG fun hin=>by rw [h b hin] at e;cases e];exact s b o e
theorem fL {cs:List Addr} (s:Same (kR H cs) H'):Same H (qZ H' H cs):=fun b o e=>by
 by_cases hb:b∈cs
 ·rw [fU hb];exact e
 ·rw [vH hb];exact s b o (by rw [vG hb];exact e)
variable {b:Addr}
theorem lX {cs:List Addr} (hn:∀c∈cs,H' c=none) (e:H' b=some o):qZ H' H cs b=some o:=by
 rw [vH fun hin=>by rw [hn b hin] at e;cases e];exact e
theorem StAt.del {cs:List Addr} {d:Int} (hc:Z3 H cs) (h:StAt H t d ms pl):StAt (kR H cs) t d ms pl:=by
 obtain ⟨wt,pt,h1,h2,h3⟩:=h;exact ⟨wt,pt,tF hc _ _ h1,tF hc _ _ h2,tF hc _ _ h3⟩
theorem J7 (h:n≤4000):n<sizeLine:=by rw [kr];omega
variable {k:GK}
theorem qM (s:Same H H') (h:(GV H k).1 v):(GV H' k).1 v:=(GV.keep (fun a l e=>s _ _ e) k).1 v h
variable {kvs:List qU}
theorem dG (s:Same H H') (h:GOk H kvs):GOk H' kvs:=h.keep fun a l e=>s _ _ e
def zK (H:Hp) (xs:List V) (ps:List (GK×GK)):Prop:=xs.length=ps.length∧∀(i:Nat) (x:V),xs[i]?=some x→∃(p:GK×GK) (a:Addr) (b c:V),ps[i]?=some p∧x=.ref a∧H a=some (.tup [b,c])∧(GV H p.1).1 b∧(GV H p.2).1 c∧gd p.1≤8∧gd p.2≤8
variable {ps:List (GK×GK)}
theorem fG (hk:∀a l,H a=some (.tup l)→H' a=some (.tup l)) (h:zK H xs ps):zK H' xs ps:=⟨h.1,fun i x e=>by
 obtain ⟨p,a,b,c,e1,e2,e3,e4,e5,e6⟩:=h.2 i x e;exact ⟨p,a,b,c,e1,e2,hk _ _ e3,(GV.keep hk _).1 _ e4,(GV.keep hk _).1 _ e5,e6⟩⟩
variable {p:GK×GK}
theorem rH {b c:V} (h:zK H xs ps) (ht:H t=some (.tup [b,c])) (h1:(GV H p.1).1 b) (h2:(GV H p.2).1 c) (g1:gd p.1≤8) (g2:gd p.2≤8):zK H (xs++[.ref t]) (ps++[p]):=by
 refine ⟨by rw [ag,ag,h.1];rfl,fun i x e=>?_⟩
 by_cases hi:i<xs.length
 ·rw [aq hi] at e;obtain ⟨q,a,b',c',e1,e2⟩:=h.2 i x e;exact ⟨q,a,b',c',by rw [aq (by rw [← h.1];exact hi)];exact e1,e2⟩
 ·rw [ap (by omega)] at e;have hz:i - xs.length=0:=by have:=(ad.mp e).1;rw [aN] at this;omega
  rw [hz] at e;cases e;exact ⟨p,t,b,c,by rw [ap (by rw [← h.1];omega),← h.1,hz];rfl,rfl,ht,h1,h2,g1,g2⟩
def KeysAt (H:Hp) (xs:List V) (ks:List GK):Prop:=xs.length=ks.length∧∀(i:Nat) x,xs[i]?=some x→∃k,ks[i]?=some k∧(GV H k).1 x∧gd k≤8
variable {ks:List GK}
theorem KeysAt.same (s:Same H H') (h:KeysAt H xs ks):KeysAt H' xs ks:=⟨h.1,fun i x e=>by
 obtain ⟨k,e1,e2,e3⟩:=h.2 i x e;exact ⟨k,e1,qM s e2,e3⟩⟩
theorem KeysAt.snoc (h:KeysAt H xs ks) (hk:∀a l,H a=some (.tup l)→H' a=some (.tup l)) (hv:(GV H k).1 v) (h8:gd k≤8):KeysAt H' (xs++[v]) (ks++[k]):=by
 refine ⟨by rw [ag,ag,h.1];rfl,fun i x e=>?_⟩
 by_cases hi:i<xs.length
 ·rw [aq hi] at e;obtain ⟨k',e1,e2,e3⟩:=h.2 i x e;exact ⟨k',by rw [aq (by rw [← h.1];exact hi)];exact e1,(GV.keep hk k').1 _ e2,e3⟩
 ·rw [ap (by omega)] at e;obtain ⟨h1,h2⟩:=ad.mp e;have hz:i - xs.length=0:=by rw [aN] at h1;omega
  rw [ap (by rw [← h.1];omega),← h.1,hz];rw [hz] at e;cases e;exact ⟨k,rfl,(GV.keep hk k).1 _ hv,h8⟩
theorem KeysAt.keep (tk:∀a l,H a=some (.tup l)→H' a=some (.tup l)) (h:KeysAt H xs ks):KeysAt H' xs ks:=⟨h.1,fun i x e=>by
 obtain ⟨k,e1,e2,e3⟩:=h.2 i x e;exact ⟨k,e1,(GV.keep tk k).1 _ e2,e3⟩⟩
abbrev Gr:=(GK→List (GK×GK))×(GK→Prop)
abbrev ZG (T:Gr) (k:GK):List (GK×GK):=T.1 k
def yW (met acc:List GK) (p:GK×GK):List GK:=if p.2∈met++acc then acc else acc++[p.2]
def vX (met acc:List GK) (ps:List (GK×GK)):List GK:=ps.foldl (yW met) acc
def qO (T:Gr) (met acc lay:List GK):List GK:=lay.foldl (fun a k=>vX met a (ZG T k)) acc
variable {met acc:List GK}
theorem fD:vX met acc (ps++[p])=yW met (vX met acc ps) p:=by
 unfold vX;rw [fz];rfl
variable {lay:List GK}
theorem rE {T:Gr}:qO T met acc (lay++[k])=vX met (qO T met acc lay) (ZG T k):=by
 unfold qO;rw [fz];rfl
def jQ (T:Gr) (k0:GK):Nat→List (List GK)
 |0=>[[k0]]
 |i+1=>jQ T k0 i++[qO T (jQ T k0 i).flatten [] ((jQ T k0 i).getLast?.getD [])]
def j5 (T:Gr) (k0:GK) (i:Nat):List GK:=(jQ T k0 i).getLast?.getD []
def QB (T:Gr) (k0:GK) (i:Nat):List GK:=qO T (jQ T k0 i).flatten [] (j5 T k0 i)
def JS (T:Gr) (M:GK→Bool) (k0:GK) (i:Nat):Prop:=(j5 T k0 i).any M=true∨QB T k0 i=[]
variable {k0:GK}
theorem fH {T:Gr}:jQ T k0 (i+1)=jQ T k0 i++[QB T k0 i]:=rfl
theorem rL {T:Gr}:j5 T k0 (i+1)=QB T k0 i:=by
 unfold j5;rw [fH];simp
theorem ZR {T:Gr} {k0:GK}:∀i,(jQ T k0 i).length=i+1
 |0=>rfl
 |i+1=>by rw [fH,ag,ZR i];rfl
theorem JC {T:Gr}:(jQ T k0 (i+1)).flatten=(jQ T k0 i).flatten++QB T k0 i:=by
 rw [fH,flatten_append];simp
theorem lC {T:Gr} {k0:GK} {i:Nat}:∀d,(jQ T k0 i).flatten.length≤(jQ T k0 (i+d)).flatten.length
 |0=>ar _
 |d+1=>by
  have h1:=lC (T:=T) (k0:=k0) (i:=i) d;have h2:(jQ T k0 (i+(d+1))).flatten=(jQ T k0 (i+d)).flatten++QB T k0 (i+d):=JC;rw [h2,ag];omega
theorem sW {T:Gr} (i:Nat):(jQ T k0 i)[i]?=some (j5 T k0 i):=by
 unfold j5;have hl:=ZR (T:=T) (k0:=k0) i;rw [List.getLast?_eq_getElem?,hl,Nat.add_sub_cancel,aa (by omega)];rfl
theorem R3 {x:GK} (h:x∈yW met acc p):x∈acc∨x=p.2:=by
 unfold yW at h
 split at h
 ·exact .inl h
 ·rcases aR.mp h with h|h
  ·exact .inl h
  ·exact .inr (aA.mp h)
theorem x0 {met:List GK} {x:GK}:∀(ps:List (GK×GK)) (acc:List GK),x∈vX met acc ps→x∈acc∨∃p∈ps,x=p.2
 |[],acc,h=>.inl h
 |p::ps,acc,h=>by
  rcases x0 ps _ (show x∈vX met (yW met acc p) ps from h) with h|⟨q,hq,e⟩
  ·rcases R3 h with h|h
   ·exact .inl h
   ·exact .inr ⟨p,aH,h⟩
  ·exact .inr ⟨q,ay _ hq,e⟩
theorem x8 {T:Gr} {met:List GK} {x:GK}:∀(lay acc:List GK),x∈qO T met acc lay→x∈acc∨∃k∈lay,∃p∈ZG T k,x=p.2
 |[],acc,h=>.inl h
 |k::lay,acc,h=>by
  rcases x8 lay _ (show x∈qO T met (vX met acc (ZG T k)) lay from h) with h|⟨q,hq,e⟩
  ·rcases x0 _ _ h with h|⟨p,hp,e⟩
   ·exact .inl h
   ·exact .inr ⟨k,aH,p,hp,e⟩
  ·exact .inr ⟨q,ay _ hq,e⟩
def Z8 (T:Gr):Prop:=∀k p,T.2 k→p∈T.1 k→T.2 p.2
theorem O7 {T:Gr} (h:Z8 T) (hl:∀k∈lay,T.2 k) {x:GK} (hx:x∈qO T met [] lay):T.2 x:=by
 rcases x8 lay [] hx with hx|⟨k,hk,p,hp,rfl⟩
 ·cases hx
 ·exact h k p (hl k hk) hp
theorem Q9 {T:Gr} {x:GK} (hx:x∈j5 T k0 i):x∈(jQ T k0 i).flatten :=
 mem_flatten.mpr ⟨_,ai (sW i),hx⟩
theorem bP {T:Gr} (h:Z8 T) {k0:GK} (h0:T.2 k0):∀(i:Nat) (x:GK),x∈(jQ T k0 i).flatten→T.2 x
 |0,x,hx=>by
  have:x=k0:=by simpa [jQ] using hx
  rw [this];exact h0
 |i+1,x,hx=>by
  rw [JC] at hx
  rcases aR.mp hx with hx|hx
  ·exact bP h h0 i x hx
  ·exact O7 h (fun k hk=>bP h h0 i k (Q9 hk)) hx
theorem OB (h:(met++acc).Nodup):(met++yW met acc p).Nodup:=by
 unfold yW
 split
 ·exact h
 ·rename_i hp;rw [← iu,fw];exact ⟨h,by simp,fun a ha b hb e=>by cases aA.mp hb;subst e;exact hp ha⟩
theorem xE {met:List GK}:∀(ps:List (GK×GK)) (acc:List GK),(met++acc).Nodup→(met++vX met acc ps).Nodup
 |[],_,h=>h
 |p::ps,acc,h=>xE ps _ (OB h)
theorem xF {T:Gr} {met:List GK}:∀(lay acc:List GK),(met++acc).Nodup→(met++qO T met acc lay).Nodup
 |[],_,h=>h
 |k::lay,acc,h=>xF lay _ (xE _ _ h)
theorem AV {T:Gr} {k0:GK}:∀i,(jQ T k0 i).flatten.Nodup
 |0=>by simp [jQ]
 |i+1=>by
  rw [JC];exact xF _ [] (by rw [br];exact AV i)
theorem BD:(z3 kvs k).isSome=decide (k∈kvs.map (·.1)):=by
 unfold z3;rw [Option.isSome_map,fu];simp only [List.find?_isSome,ff,aw]
variable {y:V}
theorem B7 (h:k∉kvs.map (·.1)):vQ kvs k y v=kvs++[(k,y,v)]:=by
 unfold vQ;rw [if_neg];rw [fb];rintro ⟨x,hx,e⟩;exact h (aw.mpr ⟨x,hx,bu e⟩)
theorem DV (hn:(kvs.map (·.1)).Nodup) {p:qU} (h:kvs[i]?=some p):z3 kvs p.1=some p.2.2:=by
 unfold z3;have:kvs.find? (fun x=>decide (x.1=p.1))=some p:=by
  induction kvs generalizing i with
  |nil=>cases h
  |cons q t ih =>
   rw [bf,bc] at hn;cases i with
   |zero=>cases h;simp
   |succ i =>
    have h':t[i]?=some p:=h;have hne:¬q.1=p.1:=fun e=>hn.1 (e▸aw.mpr ⟨p,ai h',rfl⟩)
    rw [List.find?_cons_of_neg (by simpa using hne)];exact ih hn.2 h'
 rw [this];rfl
abbrev CR:=(GK→Prop)×(GK→GK→GK→Prop)
def wC (T:Gr) (k0 kp x:GK):Prop:=∃j,kp∈j5 T k0 j∧x∈j5 T k0 (j+1)
def wM (T:Gr) (k0:GK):CR:=(fun x=>x=k0,fun kp de x=>(de,x)∈ZG T kp∧wC T k0 kp x)
def CameV (H:Hp) (T:CR) (met:List GK) (i:Nat) (p:qU):Prop:=(p.2.2=.non∧T.1 p.1)∨∃(t:Addr) (yp dv:V) (kp de:GK) (j:Nat),p.2.2=.ref t∧H t=some (.tup [yp,dv])∧(GV H kp).1 yp∧gd kp≤8∧(GV H de).1 dv∧gd de≤8∧j<i∧met[j]?=some kp∧T.2 kp de p.1
structure CameAt (w:World) (H:Hp) (d:Addr) (T:CR) (met:List GK):Prop where
 ex:∃kvs,H d=some (GO w d kvs)∧GOk H kvs∧kvs.map (·.1)=met∧∀(i:Nat) p,kvs[i]?=some p→CameV H T met i p
def mS (b:Addr) (H H':Hp):Prop:=∀a o,a≠b→H a=some o→H' a=some o
theorem CameV.keep {T:CR} {met':List GK} {p:qU} (h:CameV H T met i p) (hk:∀a l,H a=some (.tup l)→H' a=some (.tup l)) (hm:∀(j:Nat) x,met[j]?=some x→met'[j]?=some x):CameV H' T met' i p:=by
 rcases h with h|⟨t,yp,dv,kp,de,j,e1,e2,e3,e4,e5,e6,e7,e8,e9⟩
 ·exact .inl h
 ·exact .inr ⟨t,yp,dv,kp,de,j,e1,hk _ _ e2,(GV.keep hk kp).1 _ e3,e4,(GV.keep hk de).1 _ e5,e6,e7,hm _ _ e8,e9⟩
variable {w:World}
theorem CameAt.same {T:CR} (s:Same H H') (h:CameAt w H d T met):CameAt w H' d T met:=by
 obtain ⟨kvs,e1,g,e2,e3⟩:=h.ex;exact ⟨kvs,s _ _ e1,dG s g,e2,fun i p hp=>(e3 i p hp).keep (fun a l e=>s _ _ e) fun _ _ e=>e⟩
theorem tR {l m:List α} {x:α} (h:l[j]?=some x):(l++m)[j]?=some x:=by rw [aq (ad.mp h).1];exact h
theorem CameAt.put {T:CR} {kp de:GK} {yp dv:V} (e1:H1 d=some (GO w d kvs)) (g:GOk H1 kvs) (e2:kvs.map (·.1)=met) (e3:∀(i:Nat) p,kvs[i]?=some p→CameV H1 T met i p) (hk:k∉met) (hy:(GV H1 k).1 y) (h8:gd k≤8) (ht:H1 t=some (.tup [yp,dv])) (hp:(GV H1 kp).1 yp) (hp8:gd kp≤8) (hd:(GV H1 de).1 dv) (hd8:gd de≤8) (hm:kp∈met) (ha:T.2 kp de k)
  (tk:∀a l,H1 a=some (.tup l)→H' a=some (.tup l)) (hd':H' d=some (GO w d (vQ kvs k y (.ref t)))):CameAt w H' d T (met++[k]):=by
 have g2:=(g.set (v:=.ref t) hy h8).keep tk;rw [B7 (by rw [e2];exact hk)] at hd' g2;refine ⟨_,hd',g2,by rw [aJ,e2];rfl,fun i p hp'=>?_⟩
 by_cases hi:i<kvs.length
 ·rw [aq hi] at hp';exact (e3 i p hp').keep tk fun _ _ e=>tR e
 ·rw [ap (by omega)] at hp';have hz:i - kvs.length=0:=by have:=(ad.mp hp').1;rw [aN] at this;omega
  rw [hz] at hp';cases hp';obtain ⟨j,hj⟩:=aQ.mp hm;have hlt:=(ad.mp hj).1;have hl:kvs.length=met.length:=by rw [← e2,ae]
  exact .inr ⟨t,yp,dv,kp,de,j,rfl,tk _ _ ht,(GV.keep tk kp).1 _ hp,hp8,(GV.keep tk de).1 _ hd,hd8,by omega,tR hj,ha⟩
theorem rD {met:List GK} {x:GK}:∀(ps:List (GK×GK)) (acc:List GK),x∈acc→x∈vX met acc ps
 |[],_,h=>h
 |p::ps,acc,h=>rD ps _ (by unfold yW;split;exact h;exact bz _ h)
theorem xN {T:Gr} {met:List GK} {x:GK}:∀(lay acc:List GK),x∈acc→x∈qO T met acc lay
 |[],_,h=>h
 |k::lay,acc,h=>xN lay _ (rD _ _ h)
theorem N3 {a b:List (GK×GK)}:vX met acc (a++b)=vX met (vX met acc a) b:=by unfold vX;rw [fz]
theorem N4 {T:Gr} {a b:List GK}:qO T met acc (a++b)=qO T met (qO T met acc a) b:=by unfold qO;rw [fz]
theorem sY {T:Gr} {x:GK} (hk:lay[i]?=some k) (ha:ZG T k=ps) (h:x∈vX met (qO T met [] (lay.take i)) (ps.take j)):x∈qO T met [] lay:=by
 have h1:x∈qO T met [] (lay.take (i+1)):=by
  rw [aC,hk];show x∈qO T met [] (lay.take i++[k]);rw [rE,ha,← take_append_drop j ps,N3];exact rD _ _ h
 rw [← take_append_drop (i+1) lay,N4];exact xN _ _ h1
theorem CJ {T:Gr} {x:GK} {a b:Nat} (ha:x∈j5 T k0 a) (hb:x∈j5 T k0 b):a=b:=by
 have key:∀a b:Nat,a<b→x∈j5 T k0 a→x∈j5 T k0 b→False:=fun a b hab ha hb=>by
  obtain ⟨c,rfl⟩:∃c,b=c+1:=⟨b - 1,by omega⟩;rw [rL] at hb;have hn:=AV (T:=T) (k0:=k0) (c+1);rw [JC,fw] at hn;have hm:x∈(jQ T k0 c).flatten:=by
   obtain ⟨e,rfl⟩:∃e,c=a+e:=⟨c - a,by omega⟩;clear hn hb hab
   induction e with
   |zero=>exact Q9 ha
   |succ e ih=>rw [show a+(e+1)=(a+e)+1 by omega,JC];exact bz _ ih
  exact hn.2.2 x hm x hb rfl
 rcases Nat.lt_trichotomy a b with h|h|h
 ·exact (key a b h ha hb).elim
 ·exact h
 ·exact (key b a h hb ha).elim
def JU (T:Gr):GK→List GK→GK→Prop
 |a,[],c=>a=c
 |a,de::r,c=>∃b,(de,b)∈ZG T a∧JU T b r c
theorem sU {α:Type} [DecidableEq α]:∀{l m:List α},l.Nodup→(∀x∈l,x∈m)→l.length≤m.length
 |[],_,_,_=>aY _
 |a::l,m,hn,hs=>by
  rw [bc] at hn;have h1:=hs a aH;have ih:=sU (l:=l) (m:=m.erase a) hn.2 (fun x hx=>(mem_erase_of_ne (fun e:x=a=>hn.1 (by rw [← e];exact hx))).mpr (hs x (ay _ hx)));rw [length_erase_of_mem h1] at ih;have:0<m.length:=ip h1;rw [aZ];omega
structure NextIn (R0:CR) (w:World) (H Hi:Hp) (dc r:Addr) (T:Gr) (met acc:List GK):Prop where
 keep:mS dc H Hi
 rn:H r=none
 nr:r≠dc
 row:∃ys,Hi r=some (.lst ys)∧KeysAt Hi ys acc
 came:CameAt w Hi dc R0 (met++acc)
 dom:∀x∈acc,T.2 x
theorem NextIn.put {R0:CR} {Hj:Hp} {dc r t2:Addr} {T:Gr} {pr:GK×GK} {x b c:V} (h:NextIn R0 w H Hj dc r T met acc) (e1:Hj dc=some (GO w dc kvs)) (g:GOk Hj kvs) (e2:kvs.map (·.1)=met++acc) (e3:∀(i:Nat) p,kvs[i]?=some p→CameV Hj R0 (met++acc) i p) (er:Hj r=some (.lst ys)) (hks:KeysAt Hj ys acc)
  (hn:pr.2∉met++acc) (ht:Hj t2=none) (hx:(GV Hj k).1 x) (hx8:gd k≤8) (hm:k∈met) (hb:(GV Hj pr.1).1 b) (hb8:gd pr.1≤8) (hc:(GV Hj pr.2).1 c) (hc8:gd pr.2≤8) (ha:R0.2 k pr.1 pr.2) (hd:T.2 pr.2) :
  NextIn R0 w H (upd (upd (upd Hj t2 (.tup [x,b])) dc (GO w dc (vQ kvs pr.2 c (.ref t2)))) r (.lst (ys++[c]))) dc r T met (acc++[pr.2]):=by
 have u:=jJ ht (.tup [x,b]);have tk1:∀a l,upd Hj t2 (.tup [x,b]) a=some (.tup l)→upd (upd (upd Hj t2 (.tup [x,b])) dc (GO w dc (vQ kvs pr.2 c (.ref t2)))) r (.lst (ys++[c])) a=some (.tup l):=fun a l e=>by
  rw [jH (fun z=>by rw [z,u _ _ er] at e;cases e),jH (fun z=>by rw [z,u _ _ e1] at e;cases e)];exact e
 have tk:∀a l,Hj a=some (.tup l)→upd (upd (upd Hj t2 (.tup [x,b])) dc (GO w dc (vQ kvs pr.2 c (.ref t2)))) r (.lst (ys++[c])) a=some (.tup l):=fun a l e=>tk1 a l (u _ _ e)
 refine ⟨fun a o n e=>?_,h.rn,h.nr,⟨_,jD,hks.snoc tk hc hc8⟩,?_,fun y hy=>?_⟩
 ·rw [jH (q8 e h.rn),jH n];exact u _ _ (h.keep a o n e)
 ·have:=CameAt.put (H':=upd (upd (upd Hj t2 (.tup [x,b])) dc (GO w dc (vQ kvs pr.2 c (.ref t2)))) r (.lst (ys++[c]))) (u _ _ e1) (dG u g) e2 (fun i p hp=>(e3 i p hp).keep (fun a l e=>u _ _ e) fun _ _ e=>e) hn (qM u hc) hc8 (show upd Hj t2 (.tup [x,b]) t2=_ from jD) (qM u hx) hx8 (qM u hb) hb8 (bz _ hm) ha
   tk1 (by rw [jH h.nr.symm,jD])
  rwa [iu] at this
 ·rcases aR.mp hy with hy|hy
  ·exact h.dom y hy
  ·rw [aA.mp hy];exact hd
theorem dE (hn:xs.length=n+1) (h:xs[n]?=some v):vF xs (-1)=some v:=by
 have e:zQ xs.length (-1)=some n:=by
  unfold zQ;rw [if_neg (by decide),if_pos (by omega)]
  congr 1
  omega
 unfold vF;rw [e];exact h
structure LayersAt (H:Hp) (lr:Addr) (L:List (List GK)):Prop where
 ex:∃xs,H lr=some (.lst xs)∧xs.length=L.length∧∀(j:Nat) x,xs[j]?=some x→∃a ys lay,x=.ref a∧a≠lr∧L[j]?=some lay∧H a=some (.lst ys)∧KeysAt H ys lay
variable {lr:Addr}
theorem LayersAt.same {L:List (List GK)} (s:Same H H') (h:LayersAt H lr L):LayersAt H' lr L:=by
 obtain ⟨xs,e1,e2,e3⟩:=h.ex;refine ⟨xs,s _ _ e1,e2,fun j x hx=>?_⟩;obtain ⟨a,ys,lay,f1,f2,f3,f4,f5⟩:=e3 j x hx;exact ⟨a,ys,lay,f1,f2,f3,s _ _ f4,f5.same s⟩
theorem LayersAt.keepB {dc:Addr} {L:List (List GK)} (s:mS dc H H') (hd:H dc=some (GO w dc kvs)) (h:LayersAt H lr L):LayersAt H' lr L:=by
 have any:∀a o,H a=some o→o≠GO w dc kvs→H' a=some o:=fun a o e n=>s a o (fun z=>n (by rw [z,hd] at e;cases e;rfl)) e
 obtain ⟨xs,e1,e2,e3⟩:=h.ex;refine ⟨xs,any _ _ e1 (fun z=>by cases z),e2,fun j x hx=>?_⟩;obtain ⟨a,ys,lay,f1,f2,f3,f4,f5⟩:=e3 j x hx;exact ⟨a,ys,lay,f1,f2,f3,any _ _ f4 (fun z=>by cases z),f5.keep fun a l e=>any _ _ e (fun z=>by cases z)⟩
theorem LayersAt.put {r:Addr} {L:List (List GK)} (h:LayersAt H lr L) (e:H lr=some (.lst xs)) (hr:H r=some (.lst ys)) (hk:KeysAt H ys lay) (n:r≠lr):LayersAt (upd H lr (.lst (xs++[.ref r]))) lr (L++[lay]):=by
 obtain ⟨xs',e1,e2,e3⟩:=h.ex;rw [e] at e1;cases e1
 have tk:∀a l,H a=some (.tup l)→upd H lr (.lst (xs++[.ref r])) a=some (.tup l):=fun a l e'=>by rw [jH (fun z=>by rw [z,e] at e';cases e')];exact e'
 refine ⟨_,jD,by rw [ag,ag,e2];rfl,fun j x hx=>?_⟩
 by_cases hj:j<xs.length
 ·rw [aq hj] at hx;obtain ⟨a,zs,l2,f1,f2,f3,f4,f5⟩:=e3 j x hx;exact ⟨a,zs,l2,f1,f2,tR f3,by rw [jH f2];exact f4,f5.keep tk⟩
 ·rw [ap (by omega)] at hx;have hz:j - xs.length=0:=by have:=(ad.mp hx).1;rw [aN] at this;omega
  rw [hz] at hx;cases hx;exact ⟨r,ys,lay,rfl,n,by rw [ap (by omega),← e2,hz];rfl,by rw [jH n];exact hr,hk.keep tk⟩
theorem LayersAt.last {T:Gr} (h:LayersAt H lr (jQ T k0 i)):∃xs a ys,H lr=some (.lst xs)∧vF xs (-1)=some (.ref a)∧a≠lr∧H a=some (.lst ys)∧KeysAt H ys (j5 T k0 i)∧xs.length=i+1:=by
 obtain ⟨xs,e1,e2,e3⟩:=h.ex;rw [ZR] at e2;have hx:xs[i]?=some (xs[i]'(by omega)):=aa (by omega);obtain ⟨a,ys,lay,f1,f2,f3,f4,f5⟩:=e3 i _ hx;rw [sW] at f3;cases f3
 exact ⟨xs,a,ys,e1,dE e2 (by rw [hx,f1]),f2,f4,f5,e2⟩
theorem RU {T:CR} (hz:T.1 k) (e:H d=some (GO w d [(k,y,.non)])) (hy:(GV H k).1 y) (h8:gd k≤8):CameAt w H d T [k]:=by
 refine ⟨_,e,⟨fun p hp=>?_,fun p hp=>?_,by simp⟩,rfl,fun i p hp=>?_⟩
 ·cases aA.mp hp;exact hy
 ·cases aA.mp hp;exact h8
 ·cases i with
  |zero=>cases hp;exact .inl ⟨rfl,hz⟩
  |succ i=>cases hp
theorem rK {l1:Addr} (e:H lr=some (.lst [.ref l1])) (e1:H l1=some (.lst [y])) (n:l1≠lr) (hy:(GV H k).1 y) (h8:gd k≤8):LayersAt H lr [[k]]:=by
 refine ⟨_,e,rfl,fun j x hx=>?_⟩;cases j with
 |zero =>
  cases hx;refine ⟨l1,[y],[k],rfl,n,rfl,e1,rfl,fun i z hz=>?_⟩;cases i with
  |zero=>cases hz;exact ⟨k,rfl,hy,h8⟩
  |succ i=>cases hz
 |succ j=>cases hx
theorem PF {T:CR} (h:CameAt w H d T met) (e:H lr=some (.lst xs)):CameAt w (upd H lr o) d T met:=by
 obtain ⟨kvs,e1,g,e2,e3⟩:=h.ex;have tk:∀a l,H a=some (.tup l)→upd H lr o a=some (.tup l):=fun a l e'=>by rw [jH (fun z=>by rw [z,e] at e';cases e')];exact e'
 exact ⟨kvs,by rw [jH (fun z=>by rw [z,e] at e1;cases e1)];exact e1,g.keep tk,e2,fun i p hp=>(e3 i p hp).keep tk fun _ _ e=>e⟩
variable {M:GK→Bool}
theorem lP {T:Gr} {N:Nat} (hN:∀j,j<N→¬JS T M k0 j) (hm:m+i=N) (h:JS T M k0 i):i=N:=by
 by_cases hi:i<N
 ·exact absurd h (hN i hi)
 ·omega
theorem bM {T:Gr} {M:GK→Bool} {k0:GK}:∀i,(∀j,j<i→¬JS T M k0 j)→i+1≤(jQ T k0 i).flatten.length
 |0,_=>by simp [jQ]
 |i+1,h=>by
  have ih:=bM i (fun j hj=>h j (by omega));rw [JC,ag];have:0<(QB T k0 i).length:=length_pos_iff.mpr fun z=>h i (by omega) (.inr z)
  omega
theorem CW {l:List GK}:l.any M = !(l.filter M).isEmpty:=by
 induction l with
 |nil=>rfl
 |cons a l ih =>
  rw [ie,aP];cases M a with
  |true=>rfl
  |false=>simpa using ih
theorem none_of (s:Same H H') (h:H' a=none):H a=none:=by
 cases e:H a with
 |none=>rfl
 |some o=>have:=s _ _ e;rw [h] at this;cases this
def B0 (w:World):Sp:=fun vs H Q _=>∃(d:Addr) (y:V) (T:Gr) (met:List GK) (k k0:GK) (j0:Nat),vs=[.ref d,y]∧CameAt w H d (wM T k0) met∧met.length≤1000∧(GV H k).1 y∧gd k≤8∧k∈met∧k∈j5 T k0 j0∧∀r xs des H',Same H H'→H r=none→H' r=some (.lst xs)→KeysAt H' xs des→JU T k0 des k→des.length=j0→Q (.ref r) H'
def FL (H:Hp) (d:Addr) (y:V) (r:Addr) (met:List GK) (T:Gr) (k k0:GK) (j0 m:Nat) (σ:St) (Hi:Hp):Prop:=∃sv xs rd c jc,σ=[some (.ref d),some y,some (.ref r),some sv]∧Same H Hi∧Hi r=some (.lst xs)∧KeysAt Hi xs rd∧rd.length+m≤1000∧JU T c rd.reverse k∧c∈j5 T k0 jc∧rd.length+jc=j0∧
 ((sv=.non∧c=k0)∨∃t yp dv kp de j,sv=.ref t∧Hi t=some (.tup [yp,dv])∧(GV Hi kp).1 yp∧gd kp≤8∧(GV Hi de).1 dv∧gd de≤8∧(de,c)∈ZG T kp∧wC T k0 kp c∧met[j]?=some kp∧j<m)
theorem KeysAt.rev (h:KeysAt H xs ks):KeysAt H xs.reverse ks.reverse:=⟨by rw [dq,dq,h.1],fun i x e=>by
  have hi:=(ad.mp e).1;rw [dq] at hi;rw [fm hi] at e;rw [fm (by rw [← h.1];exact hi),← h.1];exact h.2 _ x e⟩
def cM (spA:Addr→Sp) (H0:Hp) (f:Addr) (T:Gr):Prop:=∀(H:Hp) (y:V) (k:GK) (Q:VK) (E:XK),Same H0 H→T.2 k→(GV H k).1 y→(∀(r:Addr) (zs:List V) (H':Hp),Same H H'→H r=none→H' r=some (.lst zs)→zK H' zs (T.1 k)→Q (.ref r) H')→spA f [y] H Q E
def gO (spE:Addr→Sp) (H0:Hp) (f:Addr) (T:Gr) (M:GK→Bool):Prop:=∀(H:Hp) (y:V) (k:GK) (Q:VK) (E:XK),Same H0 H→T.2 k→(GV H k).1 y→(∀H',Same H H'→Q (.bl (M k)) H')→spE f [y] H Q E
def C6 (w:World) (spA:Addr→Sp):Sp:=fun vs H Q _=>∃(l fa dc:Addr) (H0:Hp) (T:Gr) (xs:List V) (lay met:List GK) (R0:CR),vs=[.ref l,.ref fa,.ref dc]∧Same H0 H∧H0 dc=none∧cM spA H0 fa T∧Z8 T∧(met++qO T met [] lay).length≤1000∧
 H l=some (.lst xs)∧KeysAt H xs lay∧(∀k∈lay,k∈met)∧(∀k∈met,T.2 k)∧CameAt w H dc R0 met∧(∀kp∈lay,∀p∈T.1 kp,p.2∈qO T met [] lay→R0.2 kp p.1 p.2)∧
 ∀r ys H',H r=none→r≠dc→mS dc H H'→H' r=some (.lst ys)→KeysAt H' ys (qO T met [] lay)→CameAt w H' dc R0 (met++qO T met [] lay)→Q (.ref r) H'
def xS (w:World) (spA spE:Addr→Sp) (eW:Addr):Sp:=fun vs H Q E=>∃(y:V) (fa fe:Addr) (most:Int) (T:Gr) (M:GK→Bool) (k0:GK) (N:Nat),vs=[y,.ref fa,.ref fe,.int most]∧
 cM spA H fa T∧gO spE H fe T M∧Z8 T∧(∀i,i≤N+1→(jQ T k0 i).flatten.length≤1000)∧(GV H k0).1 y∧gd k0≤8∧T.2 k0∧(∀j,j<N→¬JS T M k0 j)∧(JS T M k0 N∨most<(((jQ T k0 N).flatten.length:Nat):Int))∧
 ((((jQ T k0 N).flatten.length:Nat):Int)≤most→(j5 T k0 N).any M=true→∀t rr lr xs des kf H',Same H H'→H' t=some (.tup [.str "found",.ref rr,.ref lr])→H' rr=some (.lst xs)→KeysAt H' xs des→JU T k0 des kf→M kf=true→des.length=N→LayersAt H' lr (jQ T k0 N)→H rr=none→H lr=none→H t=none→rr≠lr→Q (.ref t) H')∧
 ((((jQ T k0 N).flatten.length:Nat):Int)≤most→(j5 T k0 N).any M=false→∀t lr H',Same H H'→H' t=some (.tup [.str "closed",.ref lr])→LayersAt H' lr (jQ T k0 N)→H lr=none→H t=none→Q (.ref t) H')∧
 (most<(((jQ T k0 N).flatten.length:Nat):Int)→∀H',Same H H'→E (.ref eW) none H')
def GA (w:World) (H:Hp) (y:V) (fa fe:Addr) (most:Int) (dc lr:Addr) (T:Gr) (k0:GK) (N m:Nat) (σ:St) (Hi:Hp):Prop:=∃i c6 c7,σ=[some y,some (.ref fa),some (.ref fe),some (.int most),some (.ref dc),some (.ref lr),c6,c7]∧m+i=N∧Same H Hi∧CameAt w Hi dc (wM T k0) (jQ T k0 i).flatten∧LayersAt Hi lr (jQ T k0 i)
def behind (T:Gr) (k de:GK):List GK:=((T.1 k).filter fun p=>decide (p.1=de)).map (·.2)
def mI (T:Gr):GK→List GK→Option GK
 |k,[]=>some k
 |k,de::r=>match behind T k de with
  |[]=>none
  |k'::_=>mI T k' r
def E3 (T:Gr) (M:GK→Bool) (k:GK) (r:List GK):Bool:=match mI T k r with
 |none=>false
 |some k'=>M k'
def v5:List Int→GK
 |[]=>.nil
 |n::r=>.cons (.i n) (v5 r)
def jZ (s:yI):GK:=.cons (.i s.1) (.cons (v5 s.2.1) (.cons (v5 (s.2.2.map fun (p:Nat)=>(p:Int))) .nil))
def yX:Deed→GK
 |.pass b=>.cons (.s "pass") (.cons (.i (b:Int)) .nil)
 |.let k=>.cons (.s "let") (.cons (.i (k:Int)) .nil)
 |.night=>.cons (.s "night") .nil
theorem CO {H:Hp}:∀ms:List Int,(GV H (v5 ms)).2 (ms.map V.int)
 |[]=>rfl
 |n::r=>⟨_,_,rfl,rfl,CO r⟩
theorem DT (h:H t=some (.tup (ms.map V.int))):(GV H (v5 ms)).1 (.ref t):=by
 cases ms with
 |nil=>exact ⟨t,rfl,h⟩
 |cons n r=>exact ⟨t,_,rfl,h,_,_,rfl,rfl,CO r⟩
theorem tS:∀ms:List Int,gd (v5 ms)≤2
 |[]=>by show 1≤2;omega
 |n::r=>by
  show max (1+1) (gd (v5 r))≤2;have:=tS r;omega
theorem gC (s:yI):gd (jZ s)≤8:=by
 show max (1+1) (max (gd (v5 s.2.1)+1) (max (gd (v5 _)+1) 1))≤8;have:=tS s.2.1;have:=tS (s.2.2.map fun (p:Nat)=>(p:Int));omega
theorem FI (de:Deed):gd (yX de)≤8:=by cases de<;>(show _≤_;simp [yX,gd])
theorem eA {s:yI} (h:StAt H t s.1 s.2.1 s.2.2):(GV H (jZ s)).1 (.ref t):=by
 obtain ⟨wt,pt,h1,h2,h3⟩:=h;refine ⟨t,_,rfl,h1,_,_,rfl,rfl,_,_,rfl,DT h2,_,_,rfl,DT ?_,rfl⟩;rw [lm];exact h3
theorem FH (h:H t=some (.tup (Z1 de))):(GV H (yX de)).1 (.ref t):=by
 cases de with
 |pass b=>exact ⟨t,_,rfl,h,_,_,rfl,rfl,_,_,rfl,rfl,rfl⟩
 |«let» k=>exact ⟨t,_,rfl,h,_,_,rfl,rfl,_,_,rfl,rfl,rfl⟩
 |night=>exact ⟨t,_,rfl,h,_,_,rfl,rfl,rfl⟩
noncomputable def zV (R:List RC) (L:List LC) (N:List (List (Int×Int))) (ys:List jY) (s:yI) (ds:List Deed):List (GK×GK):=ds.map fun de=>(yX de,jZ (QA R L N ys s de))
def yP (ck:Kd→Addr) (cR cN:Addr):List Addr→List V→Sp:=fun cs fvs vs H Q _=>∃(x wl st:Addr) (H0:Hp) (us:List V) (ys:List jY) (d:Int) (ms:List Int) (pl:List Nat) (D:List Addr) (R:List RC) (L:List LC) (N:List (List (Int×Int))),fvs=[.ref wl,.ref x]∧vs=[.ref st]∧Same H0 H∧(∀c∈cs,H0 c=none)∧CnAt ck cR cN D H0 x R L N∧Drawn R L N∧H0 wl=some (.lst us)∧AllAt (WyAt H0) us ys∧StAt H st d ms pl∧Fleet L ys pl∧ms.length=R.length+2*L.length+2∧0≤d∧
 ∀(r:Addr) (zs:List V) (H':Hp),Same H H'→H r=none→H' r=some (.lst zs)→zK H' zs (zV R L N ys (d,ms,pl) (vJ R L N.length ys d ms pl))→Q (.ref r) H'
theorem rW:∀{a b:List Int},v5 a=v5 b→a=b
 |[],[],_=>rfl
 |[],y::b,h=>by
  have h:GK.nil=GK.cons (.i y) (v5 b):=h;cases h
 |x::a,[],h=>by
  have h:GK.cons (.i x) (v5 a)=GK.nil:=h;cases h
 |x::a,y::b,h=>by
  have h:GK.cons (.i x) (v5 a)=GK.cons (.i y) (v5 b):=h;injection h with h1 h2
  injection h1 with h1
  rw [h1,rW h2]
theorem CG:∀{a b:List Nat},(a.map fun (p:Nat)=>(p:Int))=(b.map fun (p:Nat)=>(p:Int))→a=b
 |[],[],_=>rfl
 |[],y::b,h=>by cases h
 |x::a,[],h=>by cases h
 |x::a,y::b,h=>by
  rw [bf,bf] at h;injection h with h1 h2
  rw [CG h2,show x=y by omega]
theorem R9 {s t:yI} (h:jZ s=jZ t):s=t:=by
 obtain ⟨d,ms,pl⟩:=s;obtain ⟨d',ms',pl'⟩:=t;have h:GK.cons (.i d) (.cons (v5 ms) (.cons (v5 (pl.map fun (p:Nat)=>(p:Int))) .nil))=GK.cons (.i d') (.cons (v5 ms') (.cons (v5 (pl'.map fun (p:Nat)=>(p:Int))) .nil)):=h;injection h with h1 h2
 injection h1 with h1
 injection h2 with h2 h3
 injection h3 with h3 _
 rw [h1,rW h2,CG (rW h3)]
theorem ZS {a b:Str} {x y:GK} (h:GK.cons (.s a) x=GK.cons (.s b) y):a=b∧x=y:=by
 injection h with h1 h2
 injection h1 with h1
 exact ⟨h1,h2⟩
theorem EB {a b:Int} {x y:GK} (h:GK.cons (.i a) x=GK.cons (.i b) y):a=b:=by
 injection h with h1 h2
 injection h1 with h1
theorem EC {a b:Deed} (h:yX a=yX b):a=b:=by
 cases a with
 |pass i =>
  cases b with
  |pass j=>have e:=EB (ZS h).2;rw [show i=j by omega]
  |«let» j=>exact absurd (ZS h).1 (by decide +kernel)
  |night=>exact absurd (ZS h).1 (by decide +kernel)
 |«let» i =>
  cases b with
  |pass j=>exact absurd (ZS h).1 (by decide +kernel)
  |«let» j=>have e:=EB (ZS h).2;rw [show i=j by omega]
  |night=>exact absurd (ZS h).1 (by decide +kernel)
 |night =>
  cases b with
  |pass j=>exact absurd (ZS h).1 (by decide +kernel)
  |«let» j=>exact absurd (ZS h).1 (by decide +kernel)
  |night=>rfl
noncomputable def zN (k:GK):yI:=open Classical in if h:∃s,k=jZ s then Classical.choose h else (0,[],[])
theorem C4 (s:yI):zN (jZ s)=s:=by
 have h:∃t,jZ s=jZ t:=⟨s,rfl⟩;unfold zN;rw [dif_pos h];exact (R9 (Classical.choose_spec h)).symm
def u6 (R:List RC) (L:List LC) (ys:List jY) (s:yI):Prop:=0≤s.1∧Fleet L ys s.2.2∧s.2.1.length=R.length+2*L.length+2
noncomputable def kJ (R:List RC) (L:List LC) (N:List (List (Int×Int))) (ys:List jY):Gr:=(fun k=>zV R L N ys (zN k) (vJ R L N.length ys (zN k).1 (zN k).2.1 (zN k).2.2),fun k=>∃s,k=jZ s∧u6 R L ys s)
noncomputable def GE (ys:List jY) (k:GK):Bool:=decide (QC ys (zN k).2.2=0)
section
variable {R:List RC} {L:List LC} {N:List (List (Int×Int))} {ys:List jY}
theorem uF (s:yI):(kJ R L N ys).1 (jZ s)=zV R L N ys s (vJ R L N.length ys s.1 s.2.1 s.2.2):=by
 show zV R L N ys (zN (jZ s)) (vJ R L N.length ys (zN (jZ s)).1 (zN (jZ s)).2.1 (zN (jZ s)).2.2)=_;rw [C4]
theorem tQ {s:yI} {p:GK×GK} (h:p∈(kJ R L N ys).1 (jZ s)):∃de,p=(yX de,jZ (QA R L N ys s de))∧de∈y7 ys.length L.length∧v6 R L N.length ys s.1 s.2.1 s.2.2 de="":=by
 rw [uF] at h;obtain ⟨de,hd,rfl⟩:=aw.mp h;exact ⟨de,rfl,(aO.mp hd).1,bu (aO.mp hd).2⟩
theorem S1 (k:GK):((kJ R L N ys).1 k).length≤ys.length+L.length+1:=by
 have h:∀s:yI,(zV R L N ys s (vJ R L N.length ys s.1 s.2.1 s.2.2)).length≤ys.length+L.length+1:=fun s=>by
  unfold zV;rw [ae];have h1:=bd (fun de=>decide (v6 R L N.length ys s.1 s.2.1 s.2.2 de="")) (y7 ys.length L.length);rw [iY] at h1;exact h1
 exact h (zN k)
theorem TQ {ms:List Int} (hd:Drawn R L N) (hm:ms.length=R.length+2*L.length+2):∃gs,Spl (qD R L.length) ms gs:=NJ (r9 (iX (m:=L.length) (dB hd))) (by rw [bI];omega) (by rw [hm];exact AM (dB hd))
theorem UM {d:Int} (h:0≤d) (de:Deed):0≤Z2 d de:=by
 cases de with
 |night=>show 0≤d+1;omega
 |«let» j=>exact h
 |pass b=>exact h
theorem RB {s:yI} {de:Deed} (hd:Drawn R L N) (h:u6 R L ys s) (hw:v6 R L N.length ys s.1 s.2.1 s.2.2 de=""):u6 R L ys (QA R L N ys s de):=by
 obtain ⟨h1,h2,h3⟩:=h;obtain ⟨gs,hS⟩:=TQ (ms:=kK s.2.1 (Q0 R L N ys s.1 s.2.1 s.2.2 de)) hd (by rw [JZ];exact h3);rw [tP hd h3 hS];exact ⟨UM h1 de,RL h2 hw,by show (kK _ _).length=_;rw [JZ];exact h3⟩
theorem mK (hd:Drawn R L N):Z8 (kJ R L N ys):=by
 rintro k p ⟨s,rfl,hs⟩ hp;obtain ⟨de,rfl,hin,hw⟩:=tQ hp;exact ⟨_,rfl,RB hd hs hw⟩
theorem AY:∀(r:List GK) (s:yI) (kf:GK),JU (kJ R L N ys) (jZ s) r kf→mI (kJ R L N ys) (jZ s) r=some kf
 |[],s,kf,e=>by
  have e:jZ s=kf:=e;subst e;rfl
 |de::r,s,kf,⟨b,hb,e⟩=>by
  obtain ⟨dd,eq,hin,hw⟩:=tQ hb;cases eq;have hm:jZ (QA R L N ys s dd)∈behind (kJ R L N ys) (jZ s) (yX dd):=aw.mpr ⟨_,aO.mpr ⟨hb,aK rfl⟩,rfl⟩;have hall:∀x∈behind (kJ R L N ys) (jZ s) (yX dd),x=jZ (QA R L N ys s dd):=fun x hx=>by
   obtain ⟨p,hp,rfl⟩:=aw.mp hx;obtain ⟨hp1,hp2⟩:=aO.mp hp;obtain ⟨d2,rfl,_,_⟩:=tQ hp1;have hp2:yX d2=yX dd:=bu hp2;rw [EC hp2]
  rw [mI];cases hb2:behind (kJ R L N ys) (jZ s) (yX dd) with
  |nil=>rw [hb2] at hm;cases hm
  |cons x l =>
   have hx:=hall x (by rw [hb2];exact aH);subst hx;exact AY r _ kf e
theorem W4 {r:List GK} {s:yI} {kf:GK} (h:JU (kJ R L N ys) (jZ s) r kf) (hm:GE ys kf=true):E3 (kJ R L N ys) (GE ys) (jZ s) r=true:=by
 unfold E3;rw [AY r s kf h];exact hm
end
theorem x6 {met:List GK}:∀(ps:List (GK×GK)) (acc:List GK),(vX met acc ps).length≤acc.length+ps.length
 |[],acc=>ar _
 |p::ps,acc=>by
  have h:=x6 (met:=met) ps (yW met acc p);have h2:(yW met acc p).length≤acc.length+1:=by
   unfold yW
   split
   ·omega
   ·rw [ag];exact ar _
  show (vX met (yW met acc p) ps).length≤acc.length+(ps.length+1);omega
theorem x9 {T:Gr} {met:List GK} {m:Nat} (hm:∀k,(T.1 k).length≤m):∀(lay acc:List GK),(qO T met acc lay).length≤acc.length+lay.length*m
 |[],acc=>by rw [length_nil,Nat.zero_mul];exact ar _
 |k::lay,acc=>by
  have h:=x9 (T:=T) (met:=met) hm lay (vX met acc (T.1 k));have h1:=x6 (met:=met) (T.1 k) acc;have h2:=hm k;show (qO T met (vX met acc (T.1 k)) lay).length≤_;rw [aZ,Nat.succ_mul];omega
theorem lK {T:Gr}:∀i,(j5 T k0 i).length≤(jQ T k0 i).flatten.length
 |0=>by simp [j5,jQ]
 |i+1=>by rw [rL,JC,ag];omega
theorem rX {T:Gr} (hm:∀k,(T.1 k).length≤m) (i:Nat):(jQ T k0 (i+1)).flatten.length≤(jQ T k0 i).flatten.length*(m+1):=by
 have h:=x9 (T:=T) (met:=(jQ T k0 i).flatten) hm (j5 T k0 i) [];have h2:=Nat.mul_le_mul_right m (lK (T:=T) (k0:=k0) i);rw [JC,ag,Nat.mul_succ];have h3:(QB T k0 i).length≤0+(j5 T k0 i).length*m:=h;omega
theorem RN {P:Nat→Prop} (n:Nat) (h:P n):∃N,P N∧∀j,j<N→¬P j:=by
 have key:∀n,(∃N,P N∧∀j,j<N→¬P j)∨∀j,j<n→¬P j:=fun n=>by
  induction n with
  |zero=>exact .inr fun j hj=>absurd hj (fv _)
  |succ n ih =>
   rcases ih with ih|ih
   ·exact .inl ih
   ·rcases Classical.em (P n) with hp|hp
    ·exact .inl ⟨n,hp,ih⟩
    ·refine .inr fun j hj=>?_
     rcases Nat.lt_or_eq_of_le (Nat.le_of_lt_succ hj) with h|h
     ·exact ih j h
     ·rw [h];exact hp
 rcases key (n+1) with h1|h1
 ·exact h1
 ·exact absurd h (h1 n (ek _))
def noT (H:Hp):Hp:=fun b=>match H b with
 |some (.tbl _)=>none
 |o=>o
theorem vN (e:H b=some o) (n:∀q,o≠.tbl q):noT H b=some o:=by
 unfold noT;rw [e];cases o with
 |tbl q=>exact absurd rfl (n q)
 |_=>rfl
theorem uD (e:noT H b=some o):H b=some o∧∀q,o≠.tbl q:=by
 unfold noT at e;cases h:H b with
 |none=>rw [h] at e;cases e
 |some u =>
  rw [h] at e;cases u with
  |tbl q=>cases e
  |_=>cases e;exact ⟨rfl,fun q z=>nomatch z⟩
theorem P9 (h:H b=none):noT H b=none:=by unfold noT;rw [h]
theorem P8 (s:Same H H'):Same (noT H) H':=fun b o e=>s b o (uD e).1
theorem rS (s:Same (noT H) H1) (s':Same (noT H1) H'):Same (noT H) H':=fun b o e=>s' b o (vN (s b o e) (uD e).2)
theorem sV {q:Array Value} (h:H t=some (.tbl q)) (k:∀b o,H b=some o→b≠t→H' b=some o):Same (noT H) H':=fun b o e=>by
 obtain ⟨e1,e2⟩:=uD e;exact k b o e1 fun z=>by rw [z,h] at e1;cases e1;exact e2 _ rfl
theorem RcO.noT (v:V) (r:RC):RcO cR H v r→RcO cR (noT H) v r:=fun ⟨x,h1,dx,fs,h2,h3⟩=>⟨x,h1,dx,fs,vN h2 (fun _ z=>nomatch z),h3⟩
theorem LkO.noT (v:V) (l:LC):LkO cs H v l→LkO cs (noT H) v l:=fun ⟨x,h1,dx,h2⟩=>⟨x,h1,dx,vN h2 (fun _ z=>nomatch z)⟩
theorem QAt.noT (v:V) (p:Int×Int):QAt H v p→QAt (noT H) v p:=fun ⟨t,h1,h2⟩=>⟨t,h1,vN h2 (fun _ z=>nomatch z)⟩
theorem NAt.noT (v:V) (p:List (Int×Int)):NAt D H v p→NAt D (noT H) v p:=fun ⟨l,qs,h1,h2,h3,h4⟩=>⟨l,qs,h1,vN h2 (fun _ z=>nomatch z),h3.mono QAt.noT,h4⟩
theorem CnAt.noT (h:CnAt cs cR cN D H x R L N):CnAt cs cR cN D (noT H) x R L N:=by
 obtain ⟨dx,rl,ll,nl,fs,rs,ls,ns,h1,h2,h3,h4,h5,h6,h7,h8,h9⟩:=h;exact ⟨dx,rl,ll,nl,fs,rs,ls,ns,vN h1 (fun _ z=>nomatch z),h2,vN h3 (fun _ z=>nomatch z),vN h4 (fun _ z=>nomatch z),vN h5 (fun _ z=>nomatch z),h6.mono RcO.noT,h7.mono LkO.noT,h8.mono NAt.noT,h9⟩
theorem PAt.noT (v:V) (p:Nat×Bool):PAt H v p→PAt (noT H) v p:=fun ⟨t,h1,h2⟩=>⟨t,h1,vN h2 (fun _ z=>nomatch z)⟩
theorem WyAt.noT (v:V) (y:jY):WyAt H v y→WyAt (noT H) v y:=fun ⟨t,st,us,h1,h2,h3,h4⟩=>⟨t,st,us,h1,vN h2 (fun _ z=>nomatch z),vN h3 (fun _ z=>nomatch z),h4.mono PAt.noT⟩
theorem StAt.noT {d:Int} (h:StAt H t d ms pl):StAt (noT H) t d ms pl:=by
 obtain ⟨wt,pt,h1,h2,h3⟩:=h;exact ⟨wt,pt,vN h1 (fun _ z=>nomatch z),vN h2 (fun _ z=>nomatch z),vN h3 (fun _ z=>nomatch z)⟩
theorem Stage.noT {ys:List jY} {d:Int} (h:Stage cs cR cN D H x wl st us R L N ys d ms pl):Stage cs cR cN D (noT H) x wl st us R L N ys d ms pl:=⟨h.cn.noT,h.dr,vN h.wls (fun _ z=>nomatch z),h.wys.mono WyAt.noT,h.sts.noT,h.fl,h.ml⟩
variable {q:Str}
theorem xK {T:Addr} (s:Same H H') (h:JR H T pos q):JR H' T pos q:=by
 rcases h with h|⟨c,oc,vs,t,h1,h2,h3,h4⟩
 ·exact .inl (s _ _ h)
 ·exact .inr ⟨c,oc,vs,t,s _ _ h1,s _ _ h2,h3,h4⟩
theorem xW {T:Addr} (h:JR H T pos q):∃z,H T=some (.tbl z):=by
 rcases h with h|⟨c,oc,vs,t,h1,h2,h3,h4⟩
 ·exact ⟨_,h⟩
 ·exact ⟨_,h1⟩
theorem iZ {T T':Addr} {z:Array Value} (n:T≠T') (h':H T'=some (.tbl z)) (k:∀b o,H b=some o→b≠T'→H' b=some o) (h:JR H T pos q):JR H' T pos q:=by
 rcases h with h|⟨c,oc,vs,t,h1,h2,h3,h4⟩
 ·exact .inl (k _ _ h n)
 ·exact .inr ⟨c,oc,vs,t,k _ _ h1 n,k _ _ h2 (fun e=>by rw [e,h'] at h2;cases h2),h3,h4⟩
variable {f:Addr} {cl:List (Str×Addr)} {cdv:Value}
theorem OZ {qual:Str} {params:Arguments} {body:Expr} {scope:Scope} (h:LamAt H f qual params body scope cl cdv):LamAt (noT H) f qual params body scope cl cdv:=by
 obtain ⟨⟨fo,name,pm,ct,h1,h2⟩,⟨c,oc,vs,t,h3,h4,h5,h6⟩⟩:=h;exact ⟨⟨fo,name,pm,ct,vN h1 (fun _ z=>nomatch z),h2⟩,⟨c,oc,vs,t,h3,vN h4 (fun _ z=>nomatch z),h5,h6⟩⟩
theorem rM {qual:Str} {params:Arguments} {body:Expr} {scope:Scope} (s:Same H H') (h:LamAt H f qual params body scope cl cdv):LamAt H' f qual params body scope cl cdv:=by
 obtain ⟨⟨fo,name,pm,ct,h1,h2⟩,⟨c,oc,vs,t,h3,h4,h5,h6⟩⟩:=h;exact ⟨⟨fo,name,pm,ct,s _ _ h1,h2⟩,⟨c,oc,vs,t,h3,s _ _ h4,h5,h6⟩⟩
theorem NC {fvs:List V} (h:CellsAt H cl fvs):CellsAt (noT H) cl fvs:=⟨h.once,h.len,fun i x c v h1 h2=>by
 obtain ⟨o,u,e1,e2⟩:=h.cell i x c v h1 h2;exact ⟨o,u,vN e1 (fun _ z=>nomatch z),e2⟩⟩
theorem pY {fvs:List V} (s:Same H H') (h:CellsAt H cl fvs):CellsAt H' cl fvs:=⟨h.once,h.len,fun i x c v h1 h2=>by
 obtain ⟨o,u,e1,e2⟩:=h.cell i x c v h1 h2;exact ⟨o,u,s _ _ e1,e2⟩⟩
theorem CL {H:Hp}:∀(ms:List Int) (xs:List V),(GV H (v5 ms)).2 xs→xs=ms.map V.int
 |[],xs,h=>h
 |n::r,xs,h=>by
  obtain ⟨a,b,rfl,e1,e2⟩:=h;have e1:a=.int n:=e1;rw [e1,CL r b e2];rfl
theorem DS (h:(GV H (v5 ms)).1 y):∃t,y=.ref t∧H t=some (.tup (ms.map V.int)):=by
 cases ms with
 |nil =>
  obtain ⟨t,rfl,h⟩:=h;exact ⟨t,rfl,h⟩
 |cons n r =>
  obtain ⟨t,xs,rfl,h1,h2⟩:=h;exact ⟨t,rfl,by rw [h1,CL (n::r) xs h2]⟩
theorem bV {s:yI} (h:(GV H (jZ s)).1 y):∃t,y=.ref t∧StAt H t s.1 s.2.1 s.2.2:=by
 obtain ⟨t,xs,rfl,h1,a,b,rfl,e1,a2,b2,rfl,e2,a3,b3,rfl,e3,e4⟩:=h;have e1:a=.int s.1:=e1;have e4:b3=[]:=e4;obtain ⟨w,rfl,hw⟩:=DS e2;obtain ⟨p,rfl,hp⟩:=DS e3;subst e1 e4;refine ⟨t,rfl,w,p,h1,hw,?_⟩;rw [hp,lm];rfl
structure Tabs (H:Hp) (tA tH:Addr) (pA pH:Pos):Prop where
 ne:tA≠tH
 a:JR H tA pA "ahead_on.<locals>.<lambda>"
 h:JR H tH pH "knot.<locals>.<lambda>"
variable {tA tH:Addr}
theorem Tabs.same {pA pH:Pos} (s:Same H H') (h:Tabs H tA tH pA pH):Tabs H' tA tH pA pH:=⟨h.ne,xK s h.a,xK s h.h⟩
theorem UN {ck:Kd→Addr} {lp:Arguments} {lb:Expr} {ls:Scope} {Hm:Hp} {ys:List jY} {d:Int} (hG:Stage ck cR cN D H0 x wl st us R L N ys d ms pl) (s0:Same H0 Hm) (hc:∀c∈cl.map (·.2),H0 c=none) (hL:LamAt Hm f "ahead_on.<locals>.<lambda>" lp lb ls cl cdv) (hn:cl.map (·.1)=([("ways":Str),"canal"]:List Str)) (hC:CellsAt Hm cl [.ref wl,.ref x]) :
  cM (JG "ahead_on.<locals>.<lambda>" lp lb ls ["ways","canal"] (yP ck cR cN)) Hm f (kJ R L N ys):=by
 rintro H y k Q E s ⟨t,rfl,h1,h2,h3⟩ hy q;obtain ⟨a,rfl,hst⟩:=bV hy;refine ⟨_,rfl,cl,_,cdv,rM s hL,pY s hC,hn,x,wl,a,H0,us,ys,t.1,t.2.1,t.2.2,D,R,L,N,rfl,rfl,s0.trans s,hc,hG.cn,hG.dr,hG.wls,hG.wys,hst,h2,h3,h1,fun r zs H' s' hr0 hr hP=>q r zs H' s' hr0 hr ?_⟩;rw [uF];exact hP
noncomputable def nI (R:List RC) (L:List LC) (N:List (List (Int×Int))) (ys:List jY) (d:Int) (ms:List Int) (pl:List Nat):Bool := !decide (QC ys pl=0)&&(vJ R L N.length ys d ms pl).isEmpty
noncomputable def vV (R:List RC) (L:List LC) (N:List (List (Int×Int))) (ys:List jY) (k:GK):Bool:=nI R L N ys (zN k).1 (zN k).2.1 (zN k).2.2
theorem uE {ys:List jY} (s:yI):vV R L N ys (jZ s)=nI R L N ys s.1 s.2.1 s.2.2:=by
 unfold vV;rw [C4]
def tY (cs:Kd→Addr) (cR cN:Addr):Sp:=fun vs H Q _=>∃(x wl st:Addr) (us:List V) (ys:List jY) (d:Int) (ms:List Int) (pl:List Nat) (D:List Addr) (R:List RC) (L:List LC) (N:List (List (Int×Int))),vs=[.ref x,.ref wl,.ref st]∧Stage cs cR cN D H x wl st us R L N ys d ms pl∧∀H',Same H H'→Q (.bl (nI R L N ys d ms pl)) H'
def zU (ck:Kd→Addr) (cR cN:Addr):List Addr→List V→Sp:=fun cs fvs vs H Q _=>∃(x wl st:Addr) (H0:Hp) (us:List V) (ys:List jY) (d:Int) (ms:List Int) (pl:List Nat) (D:List Addr) (R:List RC) (L:List LC) (N:List (List (Int×Int))),fvs=[.ref wl,.ref x]∧vs=[.ref st]∧Same H0 H∧(∀c∈cs,H0 c=none)∧CnAt ck cR cN D H0 x R L N∧Drawn R L N∧H0 wl=some (.lst us)∧AllAt (WyAt H0) us ys∧StAt H st d ms pl∧Fleet L ys pl∧ms.length=R.length+2*L.length+2∧∀H',Same H H'→Q (.bl (nI R L N ys d ms pl)) H'
theorem UA {ck:Kd→Addr} {lp:Arguments} {lb:Expr} {ls:Scope} {Hm:Hp} {ys:List jY} {d:Int} (hG:Stage ck cR cN D H0 x wl st us R L N ys d ms pl) (s0:Same H0 Hm) (hc:∀c∈cl.map (·.2),H0 c=none) (hL:LamAt Hm f "knot.<locals>.<lambda>" lp lb ls cl cdv) (hn:cl.map (·.1)=([("ways":Str),"canal"]:List Str)) (hC:CellsAt Hm cl [.ref wl,.ref x]) :
  gO (JG "knot.<locals>.<lambda>" lp lb ls ["ways","canal"] (zU ck cR cN)) Hm f (kJ R L N ys) (vV R L N ys):=by
 rintro H y k Q E s ⟨t,rfl,h1,h2,h3⟩ hy q;obtain ⟨a,rfl,hst⟩:=bV hy;refine ⟨_,rfl,cl,_,cdv,rM s hL,pY s hC,hn,x,wl,a,H0,us,ys,t.1,t.2.1,t.2.2,D,R,L,N,rfl,rfl,s0.trans s,hc,hG.cn,hG.dr,hG.wls,hG.wys,hst,h2,h3,fun H' s'=>?_⟩;have:=q H' s';rw [uE] at this;exact this
def EL:Sp:=fun vs H Q _=>∃(wl st:Addr) (us:List V) (ys:List jY) (d:Int) (ms:List Int) (pl:List Nat) (L:List LC),vs=[.ref wl,.ref st]∧H wl=some (.lst us)∧AllAt (WyAt H) us ys∧StAt H st d ms pl∧Fleet L ys pl∧∀H',Same H H'→Q (.int (QC ys pl)) H'
def EM:Sp:=fun vs H Q _=>∃(wl st:Addr) (us:List V) (ys:List jY) (d:Int) (ms:List Int) (pl:List Nat) (L:List LC),vs=[.ref wl,.ref st]∧H wl=some (.lst us)∧AllAt (WyAt H) us ys∧StAt H st d ms pl∧Fleet L ys pl∧∀H',Same H H'→Q (.bl (decide (QC ys pl=0))) H'
theorem NX {T:Gr} {most:Int} (hmost:most≤16) (hm:∀k,(T.1 k).length≤5):∃N,(∀j,j<N→¬JS T M k0 j)∧(JS T M k0 N∨most<(((jQ T k0 N).flatten.length:Nat):Int))∧∀i,i≤N+1→(jQ T k0 i).flatten.length≤1000:=by
 have h16:∃n,JS T M k0 n∨most<(((jQ T k0 n).flatten.length:Nat):Int):=by
  rcases Classical.em (∃n,n<16∧JS T M k0 n) with ⟨n,_,h⟩|h
  ·exact ⟨n,.inl h⟩
  ·have:=bM (T:=T) (M:=M) (k0:=k0) 16 fun j hj hs=>h ⟨j,hj,hs⟩
   exact ⟨16,.inr (by omega)⟩
 obtain ⟨n,hn⟩:=h16;obtain ⟨N,hN,hlow⟩:=RN (P:=fun n=>JS T M k0 n∨most<(((jQ T k0 n).flatten.length:Nat):Int)) n hn;refine ⟨N,fun j hj hs=>hlow j hj (.inl hs),hN,fun i hi=>?_⟩;have top:(jQ T k0 (N+1)).flatten.length≤1000:=by
  cases N with
  |zero =>
   have h1:=rX (T:=T) (k0:=k0) hm 0;have h0:(jQ T k0 0).flatten.length=1:=by simp [jQ]
   omega
  |succ m =>
   have h1:=rX (T:=T) (k0:=k0) hm m;have h2:=rX (T:=T) (k0:=k0) hm (m+1);have h3:¬(most<(((jQ T k0 m).flatten.length:Nat):Int)):=fun z=>hlow m (ek _) (.inr z)
   omega
 obtain ⟨e,he⟩:∃e,N+1=i+e:=⟨N+1 - i,by omega⟩;have:=lC (T:=T) (k0:=k0) (i:=i) e;rw [← he] at this;omega
structure FirstM (T:Gr) (M:GK→Bool) (k0:GK) (most:Int) (N:Nat):Prop where
 fit:∀i,i≤N+1→(jQ T k0 i).flatten.length≤1000
 low:∀j,j<N→¬JS T M k0 j
 stop:JS T M k0 N∨most<(((jQ T k0 N).flatten.length:Nat):Int)
theorem O8 {T:Gr} {most:Int} (hmost:most≤16) (hm:∀k,(T.1 k).length≤5):∃N,FirstM T M k0 most N:=by
 obtain ⟨N,h1,h2,h3⟩:=NX (M:=M) (k0:=k0) hmost hm;exact ⟨N,h3,h1,h2⟩
def C8 (cs:Kd→Addr) (cR cN tA tH:Addr) (pA pH:Pos) (eW:Addr):Sp:=fun vs H Q E=>∃(x wl st:Addr) (us:List V) (ys:List jY) (d:Int) (ms:List Int) (pl:List Nat) (D:List Addr) (R:List RC) (L:List LC) (N:List (List (Int×Int))) (NN:Nat) (most:Int),vs=[.ref x,.ref wl,.ref st,.int most]∧Stage cs cR cN D H x wl st us R L N ys d ms pl∧0≤d∧Tabs H tA tH pA pH∧FirstM (kJ R L N ys) (vV R L N ys) (jZ (d,ms,pl)) most NN∧
 ((((jQ (kJ R L N ys) (jZ (d,ms,pl)) NN).flatten.length:Nat):Int)≤most→(j5 (kJ R L N ys) (jZ (d,ms,pl)) NN).any (vV R L N ys)=true→∀(t rr lr:Addr) (xs:List V) (des:List GK) (kf:GK) (H':Hp),Same (noT H) H'→Tabs H' tA tH pA pH→H' t=some (.tup [.str "knot",.ref rr,.ref lr])→H' rr=some (.lst xs)→KeysAt H' xs des→JU (kJ R L N ys) (jZ (d,ms,pl)) des kf→vV R L N ys kf=true→des.length=NN→LayersAt H' lr (jQ (kJ R L N ys) (jZ (d,ms,pl)) NN)→noT H rr=none→noT H lr=none→rr≠lr→Q (.ref t) H')∧
 ((((jQ (kJ R L N ys) (jZ (d,ms,pl)) NN).flatten.length:Nat):Int)≤most→(j5 (kJ R L N ys) (jZ (d,ms,pl)) NN).any (vV R L N ys)=false→∀(t lr:Addr) (H':Hp),Same (noT H) H'→Tabs H' tA tH pA pH→H' t=some (.tup [.str "free",.ref lr])→LayersAt H' lr (jQ (kJ R L N ys) (jZ (d,ms,pl)) NN)→noT H lr=none→Q (.ref t) H')∧
 (most<(((jQ (kJ R L N ys) (jZ (d,ms,pl)) NN).flatten.length:Nat):Int)→∀H',Same (noT H) H'→Tabs H' tA tH pA pH→E (.ref eW) none H')
def tI (cs:Kd→Addr) (cR cN tA tH:Addr) (pA pH:Pos):Sp:=fun vs H Q _=>∃(x wl st:Addr) (us:List V) (ys:List jY) (d:Int) (ms:List Int) (pl:List Nat) (D:List Addr) (R:List RC) (L:List LC) (N:List (List (Int×Int))) (NN:Nat) (most:Int),vs=[.ref x,.ref wl,.ref st,.int most]∧Stage cs cR cN D H x wl st us R L N ys d ms pl∧0≤d∧Tabs H tA tH pA pH∧FirstM (kJ R L N ys) (vV R L N ys) (jZ (d,ms,pl)) most NN∧
 ((((jQ (kJ R L N ys) (jZ (d,ms,pl)) NN).flatten.length:Nat):Int)≤most→(j5 (kJ R L N ys) (jZ (d,ms,pl)) NN).any (vV R L N ys)=true→∀(t rr lr:Addr) (xs:List V) (des:List GK) (kf:GK) (H':Hp),Same (noT H) H'→Tabs H' tA tH pA pH→H' t=some (.tup [.str "knot",.ref rr,.ref lr])→H' rr=some (.lst xs)→KeysAt H' xs des→JU (kJ R L N ys) (jZ (d,ms,pl)) des kf→vV R L N ys kf=true→des.length=NN→LayersAt H' lr (jQ (kJ R L N ys) (jZ (d,ms,pl)) NN)→noT H rr=none→noT H lr=none→rr≠lr→Q (.ref t) H')∧
 ((((jQ (kJ R L N ys) (jZ (d,ms,pl)) NN).flatten.length:Nat):Int)≤most→(j5 (kJ R L N ys) (jZ (d,ms,pl)) NN).any (vV R L N ys)=false→∀(t lr:Addr) (H':Hp),Same (noT H) H'→Tabs H' tA tH pA pH→H' t=some (.tup [.str "free",.ref lr])→LayersAt H' lr (jQ (kJ R L N ys) (jZ (d,ms,pl)) NN)→noT H lr=none→Q (.ref t) H')∧
 (most<(((jQ (kJ R L N ys) (jZ (d,ms,pl)) NN).flatten.length:Nat):Int)→∀(t a:Addr) (H':Hp),Same (noT H) H'→Tabs H' tA tH pA pH→H' t=some (.tup [.str "wide",.ref a])→H' a=some (.lst [])→noT H a=none→Q (.ref t) H')
structure Txt (P:Program) (w:World) (base:Heap) (K:W.Frag) (mg:Str→Option Value) (cP cB cU:Addr) (cR:Addr) (cN:Addr) (tkS:Tok) (eW eL eTW:Addr) (tkH:Tok):Prop where
 xn:mg "list"=none
 xr:mg "tuple"=none
 wb:mg "max"=none
 xi:mg "range"=none
 xf:mg "len"=none
 vo:mg "sum"=none
 wc:mg "zip"=none
 xj:mg "enumerate"=none
 ur:mg "min"=none
 xu:mg "reversed"=none
 uu:mg "int"=none
 xh:mg "isinstance"=none
 uv:mg "str"=none
 ve:mg "bool"=none
 cl:∀kd,Cls K ((jF cP cB cU) kd)
 xau:∀kd,NoAttr K ((jF cP cB cU) kd) "name"
 zt:∀kd,NoAttr K ((jF cP cB cU) kd) "high"
 vp:∀kd,NoAttr K ((jF cP cB cU) kd) "low"
 zu:∀kd,NoAttr K ((jF cP cB cU) kd) "room"
 ux:NoAttr K cB "side"
 wd:NoAttr K cU "lift"
 zv:mg "PlainLock"=some (.ref cP)
 vq:mg "BasinLock"=some (.ref cB)
 we:mg "PumpLock"=some (.ref cU)
 clR:Cls K cR
 zx:NoAttr K cR "name"
 xx:NoAttr K cR "least"
 xy:NoAttr K cR "crest"
 xv:NoAttr K cR "berths"
 xz:NoAttr K cR "water"
 xt:NoAttr K cR "target"
 xam:mg "Reach"=some (.ref cR)
 clN:Cls K cN
 xg:NoAttr K cN "reaches"
 xb:NoAttr K cN "locks"
 xl:NoAttr K cN "nights"
 xan:mg "Canal"=some (.ref cN)
 xaN:mg "SEA"=some (.int (-1) tkS)
 jo:mg "NotNow"=some (.ref eW)
 vt:mg "NotLinked"=some (.ref eL)
 vf:mg "TooWide"=some (.ref eTW)
 jp:gN K eW
 vv:gN K eL
 vg:gN K eTW
 uy:mg "HOME"=some (.int (-1) tkH)
set_option maxHeartbeats 4000000
section
variable {P:Program} {w:World} {K:W.Frag} {mg:Str→Option Value} {base:Heap} {cP cB cU:Addr} {cR:Addr} {cN:Addr} {tkS:Tok} {eW eL eTW:Addr} {tkH:Tok} {tA tH:Addr} {f:Addr} {fd:FuncData}
variable (T:Txt P w base K mg cP cB cU cR cN tkS eW eL eTW tkH)
theorem eZ:jT 2 ["waters","pours","held","source","target","amount"] pE:=jS
include T in
theorem KO (F:kH K "poured_all" pE f fd) : FnOk P w K mg base jK 1 f fd ["waters","pours"] (gA K):=by
 refine F.ok2 eZ fun vs H Q E h=>?_
 refine Q3 h fun w p ws rs qs h=>?_
 refine Q4 h fun e_ hW hP hA hn q=>?_
 subst e_;refine ⟨rfl,fun _ _ _ _ hr=>?_⟩;refine ⟨_,(@jG _ _ _ _ _ (jX 2 eZ.nd (zE (bH K) (by rfl) T.xn aW (jB (pv 0) jE)))
   (@jG _ _ _ _ _ (yK aX rfl (qV (pv 1)) (l9 rfl (qW (kC (i:=3) eZ.nd rfl (.inl rfl)) (qW (kC (i:=4) eZ.nd rfl (.inl rfl)) (qW (kC (i:=5) eZ.nd rfl (.inl rfl)) JD))))
    (@jG _ _ _ _ _ (tN (pv 2) (pv 3) sX (pv 5) UH dF)
   (@kX _ _ _ (tN (pv 2) (pv 4) sX (pv 5) E2 dF))))
   (jO (zE (fA K) (by rfl) T.xr cm (jB (pv 2) jE))))),?_⟩
 try dsimp only [jV,jU]
 refine (jA rfl (⟨w,jA rfl (⟨hW,fun l hl=>?_⟩)⟩));have s0:Same H (upd H l (.lst (ws.map V.int))):=jJ hl _;refine ⟨_,rfl,p,rfl,⟨rs,s0.seq hP⟩,JM (K:=K) (a:=p) (xs:=rs) (fun i σ Hi=>∃c3 c4 c5,σ=[some (.ref w),some (.ref p),some (.ref l),c3,c4,c5]∧Hi l=some (.lst ((kK ws (qs.take i)).map V.int))∧Same H Hi)
  (v8 none none none (yE rfl jD s0)) (fun i σ Hi _ ⟨_,_,_,_,_,s⟩=>s.seq hP) ?_ ?_⟩
 ·rintro i x σ Hi hx ⟨c3,c4,c5,rfl,hH,sm⟩;obtain ⟨a,s,t,m,rfl,hq,hT,hs,ht⟩:=hA.2 i x hx;have e0:(kK ws (qs.take i)).length=ws.length:=JZ _ _;refine ⟨a,jA rfl (⟨uM sm hT,rfl,_,jA rfl (⟨_,jA rfl (⟨_,_,rfl,rfl,?_⟩)⟩)⟩)⟩;refine (jA rfl (jA rfl (⟨_,_,_,_,rfl,rfl,so hH,zI (by rw [e0];exact hs),jA rfl (j9 (⟨_,_,_,_,rfl,rfl,hH,dL (by rw [ae,e0];exact hs),?_⟩))⟩)))
  try dsimp only
  rw [dA];refine (jA rfl (jA rfl (⟨_,_,_,_,rfl,rfl,so jD,zI (by rw [cx,e0];exact ht),jA rfl (j9 (⟨_,_,_,_,rfl,rfl,jD,dL (by rw [ae,cx,e0];exact ht),?_⟩))⟩)))
  try dsimp only
  rw [dA];refine ⟨_,_,jA rfl (⟨?_,qI hl (qI hl sm)⟩)⟩;rw [jD,pW ws qs i _ hq];rfl
 ·rintro σ Hi ⟨c3,c4,c5,rfl,hH,sm⟩;refine (jA rfl (⟨_,jA rfl (.inl ⟨so hH,fun r hr=>?_⟩)⟩));refine q r _ (qI (sm.free hr) sm) (sm.free hr) ?_;rw [jD,hA.1,aL]
theorem w6:jT 3 ["weirs","waters","at","crest"] pB:=jS
include T in
theorem KK (F:kH K "over" pB f fd) : FnOk P w K mg base jK 1 f fd ["weirs","waters","at"] (EJ K):=by
 refine F.ok2 w6 fun vs H Q E h=>?_
 refine ZO h fun wq wa rs ws n ms i₁ h=>?_
 refine cK h fun e_ hW hA hM h1 h2 q=>?_
 subst e_;refine ⟨rfl,fun _ _ _ _ hr=>?_⟩;refine ⟨_,(@jG _ _ _ _ _ (jX 3 w6.nd (jI (jR K) (jI (kM K) (pv 0) (pv 2)) jC))
   (jO (y6 (BL rfl) (by rfl) T.wb PyProof.Rows.boot_max (jB jC (jB (@jL _ _ _ _ _ _ _ _ JE (jI (SZ K) (pv 1) (pv 2)) (pv 3)) jE))))),?_⟩
 try dsimp only [jV,jU]
 obtain ⟨ta,hat,hT,_⟩:=i6 hA h1;refine (jA rfl (jA rfl (⟨wq,_,_,_,rfl,rfl,hW,hat,ta,_,_,_,rfl,rfl,hT,rfl,?_⟩)));refine (jA rfl (jA rfl (PX hM h2 ?_)));exact (jA rfl (j9 (⟨_,jA rfl (q)⟩)))
theorem L8:jT 1 ["weirs"] o4:=jS
include T in
theorem IW (F:kH K "last_first" o4 f fd) : FnOk P w K mg base jK 1 f fd ["weirs"] (tZ K):=by
 refine F.ok2 L8 fun vs H Q E h=>?_
 obtain ⟨wq,rs,rfl,hW,hn,q⟩:=h;refine ⟨rfl,fun _ _ _ _ hr=>?_⟩;refine ⟨_,(jO (zE (MS rfl) (by rfl) T.xn aW (jB (zE ND (by rfl) T.xi PyProof.Rows.boot_range (j4 (@jL _ _ _ _ _ _ _ _ JE (kP K T.xf (pv 0)) jC) (QW QQ jC) (QW QQ jC))) jE))),?_⟩
 try dsimp only [jV,jU]
 refine (jA rfl (⟨wq,jA rfl (⟨.inl hW,_,_,rfl,rfl,jA rfl (jA rfl (⟨_,_,jA rfl (⟨(by decide),(by decide),fun p hp=>?_⟩)⟩))⟩)⟩));refine (JA p _ _ _ rs.length (yH rfl jD (N6 hn) (BI _) hn (fun l hl=>?_)));refine q l _ ((jJ hp _).trans (jJ hl _)) ((jJ hp _).free hl) ?_;rw [jD];exact cp (fun x=>some (HO.lst x)) (N5 rs.length)
theorem iW:jT 2 ["weirs","waters","held","given","at"] pK:=jS
include T in
theorem KW (F:kH K "spills" pK f fd) (zg:Def P w K mg base 1 "last_first" ["weirs"] [] (tZ K)) (xaO:Def P w K mg base 1 "over" ["weirs","waters","at"] [] (EJ K)):FnOk P w K mg base jK 2 f fd ["weirs","waters"] (BY K):=by
 refine F.ok2 iW fun vs H Q E h=>?_
 refine Q3 h fun wq wa rs ws ms h=>?_
 refine q0 h fun e_ hRd q=>?_
 subst e_;refine ⟨rfl,fun _ _ _ _ hr=>?_⟩;refine ⟨_,(@jG _ _ _ _ _ (jX 2 iW.nd (zE (bH K) (by rfl) T.xn aW (jB (pv 1) jE)))
   (@jG _ _ _ _ _ (jX 3 iW.nd (@jL _ _ _ _ _ _ _ _ EY (qJ (jB jC jE)) (kP K T.xf (pv 0))))
   (@jG _ _ _ _ _ (yK aX rfl (qV (jP zg hr rfl (jB (pv 0) jE))) (kC (i:=4) iW.nd rfl (.inl rfl))
    (@jG _ _ _ _ _ (t7 (jP xaO hr rfl (j4 (pv 0) (pv 2) (pv 4))) (t9 (pv 3) (pv 4) dF))
   (@kX _ _ _ (tN (pv 2) (jI (jR K) (jI (kM K) (pv 0) (pv 4)) jC) sX (jI (kM K) (pv 3) (pv 4)) E2 dF))))
   (jO (pv 3))))),?_⟩
 try dsimp only [jV,jU]
 obtain ⟨hW,hA,hM,hAh,hRn,hn⟩:=id hRd;have hAF:=r9 hAh;refine (jA rfl (⟨wa,jA rfl (⟨hM,fun hl hhl=>?_⟩)⟩));have t1:=jJ hhl (.lst (ms.map V.int));refine ⟨zz1,fun lp hlp=>?_⟩;have t2:=jJ hlp (.lst [V.int 0]);refine (jA rfl (⟨wq,jA rfl (⟨.inl ((t1.trans t2).seq hW),lp,_,_,rfl,rfl,jD,by omega,by rw [hA.1];omega,?_,fun gp hgp=>?_⟩)⟩))
 ·rw [aB,aN,Nat.one_mul,hA.1];exact small (by omega)
 rw [aB,CB,hA.1];have t3:=jJ hgp (.lst ((List.replicate ws.length (0:Int)).map V.int));have u3:=(t1.trans t2).trans t3;have hlp':hl≠gp:=q8 (t2 _ _ jD) hgp;refine (jA rfl (⟨wq,rs,rfl,u3.seq hW,by rw [hA.1];omega,fun df H1 s1 hdf0 hdf=>?_⟩));have hl1:=s1 _ _ (t3 _ _ (t2 _ _ (jD:upd H hl (.lst (ms.map V.int)) hl=_)));have gp1:=s1 _ _ (jD:upd _ gp (.lst ((List.replicate ws.length (0:Int)).map V.int)) gp=_);have dhl:hl≠df:=q8 (t3 _ _ (t2 _ _ jD)) hdf0;have dgp:gp≠df:=q8 jD hdf0;have gf:H gp=none:=(t1.trans t2).free hgp;refine ⟨df,rfl,⟨_,so hdf⟩,JM (K:=K) (a:=df) (xs:=(zY rs.length).map fun (i:Nat)=>V.int (i:Int)) (fun k σ Hi=>∃(hs gs:List Int) (c:Option V),σ=[some (.ref wq),some (.ref wa),some (.ref hl),some (.ref gp),c]∧Hi hl=some (.lst (hs.map V.int))∧Hi gp=some (.lst (gs.map V.int))∧
   Hi df=some (.lst ((zY rs.length).map fun (i:Nat)=>V.int (i:Int)))∧SplInv ws ms hs gs k∧Same H Hi)
  ⟨ms,List.replicate ws.length 0,none,rfl,hl1,gp1,hdf,SplInv.start ws ms,u3.trans s1⟩ (fun i σ Hi _ ⟨_,_,_,_,_,_,hd,_⟩=>so hd) ?_ ?_⟩
 ·rintro k x σ Hi hx ⟨hs,gs,c,rfl,hH,hG,hD,hI,sm⟩;obtain ⟨hk,rfl⟩:=CS hx;rw [hA.1] at hk ⊢;obtain ⟨i₁,hi₁⟩:∃i,i=ws.length - 1 - k:=⟨_,rfl⟩;have hi:i₁<ws.length:=by omega
  have hst:=hI.step hAF hRn hk (by rw [← hi₁];exact AH hA i₁ hi);rw [← hi₁] at hst ⊢;obtain ⟨ta,hat,hT,ht⟩:=i6 (hA.same sm) hi;have hAl:WeirsAt K Hi rs ws hs.length:=by rw [hI.lh];exact hA.same sm
  refine (jA rfl (jA rfl (jA rfl (⟨wq,hl,rs,ws,_,hs,i₁,rfl,sm.seq hW,hAl,.inl (so hH),hi,by rw [hI.lh];omega,?_⟩))));refine (jA rfl (jA rfl (⟨gp,_,_,_,rfl,rfl,hG,dL (by rw [ae,hI.lg];exact hi),?_⟩)));rw [dA];have k1:∀o,Keep gp Hi (upd Hi gp o):=fun o=>(Keep.refl gp Hi).upd o
  have sG:∀o,Same H (upd Hi gp o):=fun o=>qI gf sm
  have hH':∀o,upd Hi gp o hl=some (.lst (hs.map V.int)):=fun o=>(k1 o) hl _ hlp' hH
  refine (jA rfl (jA rfl (jA rfl (⟨wq,_,_,_,rfl,rfl,(sG _).seq hW,hat,ta,_,_,_,rfl,rfl,(k1 _).sqt hG hT,rfl,qG (so (hH' _)) (zI (by rw [hI.lh];exact ht)) ((jA rfl (jA rfl (qG (so jD) (zI (by rw [cx,hI.lg];exact hi)) (j9 (⟨hl,_,_,_,rfl,rfl,hH' _,dL (by rw [ae,hI.lh];exact ht),?_⟩))))))⟩))));rw [dA];refine ⟨_,_,jA rfl (⟨jD,?_,?_,hst,qI hhl (sG _)⟩)⟩
  ·rw [jH (Ne.symm hlp'),jD]
  ·rw [jH (Ne.symm dhl),jH (Ne.symm dgp),hD,hA.1]
 ·rintro σ Hi ⟨hs,gs,c,rfl,hH,hG,hD,hI,sm⟩;rw [ae,fC,hA.1] at hI;refine (jA rfl (?_));exact q gp Hi gs sm gf hG hI.spl
theorem w8:jT 2 ["weirs","waters","given"] iO:=jS
include T in
theorem KU (F:kH K "spill_pours" iO f fd) (xav:Def P w K mg base 2 "spills" ["weirs","waters"] [] (BY K)) (zg:Def P w K mg base 1 "last_first" ["weirs"] [] (tZ K)):FnOk P w K mg base jK 3 f fd ["weirs","waters"] (sL K):=by
 refine F.ok2 w8 fun vs H Q E h=>?_
 refine Q3 h fun wq wa rs ws ms h=>?_
 refine q0 h fun e_ hRd q=>?_
 subst e_;refine ⟨rfl,fun _ _ _ _ hr=>?_⟩;refine ⟨_,(@jG _ _ _ _ _ (jX 2 w8.nd (jP xav hr rfl (jB (pv 0) (jB (pv 1) jE))))
   (jO (cQ ["at","given","weirs"] [2,0] (qS (jM iO)) (qV (jP zg hr rfl (jB (pv 0) jE))) (fun _ _ _ _ _=>(JN (kI zM (jI (kM K) (pv 1) (pv 0)) jC))) (fun _ _ _ _ _=>(qA (j4 (pv 0) (jI (jR K) (jI (kM K) (pv 2) (pv 0)) jC) (jI (kM K) (pv 1) (pv 0)))))))),?_⟩
 try dsimp only [jV,jU]
 refine (jA rfl (jA rfl ((JA wq wa rs ws ms (yE rfl hRd (fun gp H1 gs s1 hgp0 hgp hS=>?_))))));obtain ⟨hW,hA,hM,hAh,hRn,hn⟩:=hRd.same s1;refine (jA rfl (⟨wq,rs,rfl,hW,by rw [hA.1];omega,fun df H2 s2 hdf0 hdf=>?_⟩));refine ⟨df,rfl,⟨_,so hdf⟩,fun D hD=>?_⟩;refine zR (K:=K) (a:=df) (xs:=(zY rs.length).map fun (i:Nat)=>V.int (i:Int)) (caps:=[some (.ref gp),some (.ref wq)]) (fun i ys Hi=>PoursH Hi ys (((zT (kW ws) (fun a=>gs.getD a 0) ws.length).take i).filter vD) ms.length) hD (so hdf) (PoursH.nil _ _) ?_ ?_
 ·rintro i x ys Hi hx hi hle sm hY hR;obtain ⟨hk,rfl⟩:=CS hx;rw [hA.1] at hk ⊢;obtain ⟨i₁,hi₁⟩:∃i',i'=ws.length - 1 - i:=⟨_,rfl⟩;have hi':i₁<ws.length:=by omega
  rw [← hi₁];have s12:=s2.trans sm;obtain ⟨ta,hat,hT,ht⟩:=i6 (hA.same s12) hi';have ef:((zT (kW ws) (fun a=>gs.getD a 0) ws.length).take (i+1)).filter vD=((zT (kW ws) (fun a=>gs.getD a 0) ws.length).take i).filter vD++[(i₁,kW ws i₁,gs.getD i₁ 0)].filter vD:=by
   rw [aC,M3 hk,← hi₁,aT];rfl
  refine (jA rfl (jA rfl (qG (so (s12 _ _ hgp)) (zI (by rw [hS.1];exact hi')) (⟨rfl,jA rfl (?_)⟩))))
  by_cases hz:gs.getD i₁ 0=0
  ·refine y9 (cp V.int hz) (J3 sm hY hle (Same.refl _) ?_);rw [ef,aP,if_neg (by unfold vD;rw [aK (show gs.getD i₁ 0=0 from hz)];decide)];show PoursH Hi ys (_++[]) _;rw [br];exact hR
  refine ZZ (fun e=>hz (V.int.inj e)) ?_;refine (jA rfl (jA rfl (jA rfl (⟨wq,_,_,_,rfl,rfl,s12.seq hW,hat,ta,_,_,_,rfl,rfl,hT,rfl,jA rfl (jA rfl (qG (so (s12 _ _ hgp)) (zI (by rw [hS.1];exact hi')) (⟨zz3,fun tp htp=>?_⟩)))⟩))));have st:=jJ htp (.tup [.int (i₁:Int),.int (kW ws i₁:Int),.int (gs.getD i₁ 0)]);refine vY hD sm hY hle (by omega) st ?_;rw [ef,aP,if_pos (by unfold vD;rw [aI (show ¬gs.getD i₁ 0=0 from hz)];rfl)];exact ((hR.same st).snoc jD (by omega) ht).put (st _ _ hY)
 ·intro ys Hf sm hY hle hR;rw [ae,fC,hA.1,cu (by unfold zT;rw [ae,fC];exact ar _)] at hR;have s12:=s2.trans sm;exact q D Hf gs ys (s1.trans s12) ((s1.trans s2).free hD) hY hR hS
theorem MG:jT 2 ["weirs","waters"] pJ:=jS
include T in
theorem KS (F:kH K "settled" pJ f fd) (xk:Def P w K mg base 1 "poured_all" ["waters","pours"] [] (gA K)) (zb:Def P w K mg base 3 "spill_pours" ["weirs","waters"] [] (sL K)):FnOk P w K mg base jK 4 f fd ["weirs","waters"] (AO K):=by
 refine F.ok2 MG fun vs H Q E h=>?_
 refine Q3 h fun wq wa rs ws ms h=>?_
 refine q0 h fun e_ hRd q=>?_
 subst e_;refine ⟨rfl,fun _ _ _ _ hr=>?_⟩;refine ⟨_,(jO (jP xk hr rfl (jB (pv 1) (jB (jP zb hr rfl (jB (pv 0) (jB (pv 1) jE))) jE)))),?_⟩
 try dsimp only [jV,jU]
 obtain ⟨hW,hA,hM,hAh,hRn,hn⟩:=id hRd;refine (jA rfl (jA rfl (jA rfl ((JA wq wa rs ws ms (yE rfl hRd (fun p H1 gs ys s1 hp0 hp hP hS=>?_)))))));refine ⟨wa,p,ms,ys,jA rfl (⟨hM.same s1,so hp,hP.pa,hn,fun r H' s' hr0 hr=>?_⟩)⟩;rw [xT (xR hRn (AH hA))] at hr;exact q r H' gs (s1.trans s') (s1.free hr0) hr hS
theorem ML:jT 3 ["weirs","waters","pours"] pP:=jS
include T in
theorem K3 (F:kH K "with_spills" pP f fd) (zb:Def P w K mg base 3 "spill_pours" ["weirs","waters"] [] (sL K)) (xk:Def P w K mg base 1 "poured_all" ["waters","pours"] [] (gA K)):FnOk P w K mg base jK 4 f fd ["weirs","waters","pours"] (tG K):=by
 refine F.ok2 ML fun vs H Q E h=>?_
 refine zB h fun wq wa p rs ps ws ms qs h=>?_
 refine Q4 h fun e_ hRd hp hP h500 q=>?_
 subst e_;refine ⟨rfl,fun _ _ _ _ hr=>?_⟩;refine ⟨_,(jO (@jL _ _ _ _ _ _ _ _ ZU (pv 2) (jP zb hr rfl (jB (pv 0) (jB (jP xk hr rfl (jB (pv 1) (jB (pv 2) jE))) jE))))),?_⟩
 try dsimp only [jV,jU]
 obtain ⟨hW,hA,hM,hAh,hRn,hn⟩:=id hRd;refine (jA rfl (jA rfl (jA rfl (jA rfl ((JA wa p ms ps qs (yH rfl hM (so hp) hP.pa hn (fun wt H1 s1 hwt0 hwt=>?_))))))));have el:(kK ms qs).length=ms.length:=JZ _ _;refine ⟨wq,wt,rs,ws,kK ms qs,rfl,⟨s1.seq hW,by rw [el];exact hA.same s1,.inr (SqT.of hwt),hAh,by rw [el];exact hRn,by rw [el];exact hn⟩,fun sp H2 gs ys s2 hsp0 hsp hPs hS=>?_⟩;rw [el] at hPs;have hl:=M4 ws (fun a=>gs.getD a 0);refine ⟨p,sp,_,_,rfl,rfl,s2 _ _ (s1 _ _ hp),hsp,aG (show ps.length+ys.length≤1500 by rw [hPs.1];omega) (by decide),fun al hal=>?_⟩;have s3:=jJ hal (.lst (ps++ys));have s12:=s1.trans s2;exact q al _ gs _ (s12.trans s3) (s12.free hal) jD ((hP.same (s12.trans s3)).append (hPs.same s3)) hS
theorem ME:jT 1 ["parts"] iN:=jS
include T in
theorem KL (F:kH K "parts_not_nought" iN f fd) : FnOk P w K mg base jK 1 f fd ["parts"] (dY K):=by
  refine F.ok2 ME fun vs H Q E h=>?_
  refine gL h fun p rs ps h=>?_
  refine eG h fun e_ hP hA hn q=>?_
  subst e_;refine ⟨rfl,fun _ _ _ _ hr=>?_⟩;refine ⟨_,(jO (cQ ["part"] [] (qS (jM iN)) (qV (pv 0)) (fun _ _ _ _ _=>(JN (kI zM (jI (jR K) (pv 0) jC) jC))) (fun _ _ _ _ _=>(pv 0)))),?_⟩
  try dsimp only [jV,jU]
  refine (jA rfl (⟨p,rfl,⟨rs,hP⟩,fun l hl=>?_⟩));refine zR (K:=K) (a:=p) (xs:=rs) (caps:=[]) (fun i ys Hi=>PartsAt Hi ys ((ps.take i).filter zG)) hl hP PartsAt.nil ?_ ?_
  · rintro i x ys Hi hx hi hle sm hY hR
    obtain ⟨t,sN,nN,rfl,hps,hT⟩:=hA.2 i x hx;have et:(ps.take (i+1)).filter zG=(ps.take i).filter zG++[(sN,nN)].filter zG:=by
      rw [aC,hps,aT];rfl
    refine (jA rfl (j3 (SqT.of (sm _ _ hT)) rfl (⟨rfl,jA rfl (?_)⟩)))
    by_cases hz:nN=0
    · refine y9 (by rw [hz]) ?_
      refine J3 sm hY hle (Same.refl _) ?_;have e2:[(sN,nN)].filter zG=[]:=by rw [hz];rfl
      rw [et,e2,br];exact hR
    · refine ZZ (fun e=>hz (V.int.inj e)) ?_
      refine (jA rfl (vY hl sm hY hle (by omega) (Same.refl _) ?_));have e2:[(sN,nN)].filter zG=[(sN,nN)]:=by
        rw [aP,if_pos (show zG (sN,nN)=true by unfold zG;rw [aI hz];rfl)];rfl
      rw [et,e2];exact (hR.snoc (sm _ _ hT)).keep ((Keep.refl l Hi).upd _) hY
  · intro ys Hf sm hY hle hR
    rw [hA.1,aL] at hR;exact q l Hf ys sm hl hY hR
theorem LN:jT 5 ["self","name","high","low","room"] n5:=jS
include T in
theorem HK (F:Fun K "__init__" "PlainLock.__init__" n5 f fd) : FnOk P w K mg base jK 1 f fd ["self","name","high","low","room"] (dI (jF cP cB cU)):=by
 refine F.ok2 LN fun vs H Q E h=>?_
 refine ZO h fun kd x dx n h₁ l r h=>?_
 refine q0 h fun e_ hx q=>?_
 subst e_;refine ⟨rfl,fun _ _ _ _ hr=>?_⟩;refine ⟨_,(@jG _ _ _ _ _ (zL (pv 0) (pv 1) rfl)
   (@jG _ _ _ _ _ (zL (pv 0) (pv 2) rfl)
   (@jG _ _ _ _ _ (zL (pv 0) (pv 3) rfl)
   (@kX _ _ _ (zL (pv 0) (pv 4) rfl))))),?_⟩
 try dsimp only [jV,jU]
 refine (jA rfl (jA rfl (⟨x,_,dx,jA rfl (⟨hx,T.cl kd,T.xau kd,(by show 0<1000;decide),?_⟩)⟩)));refine (jA rfl (jA rfl (⟨x,_,dx,jA rfl (⟨jD,T.cl kd,T.zt kd,(by show 1<1000;decide),?_⟩)⟩)));refine (jA rfl (jA rfl (⟨x,_,dx,jA rfl (⟨jD,T.cl kd,T.vp kd,?_,?_⟩)⟩)))
 ·have:=QI "high" h₁ (jW "name" n []);have h2:(jW ("name":Str) n []).length=1:=rfl;omega
 refine (jA rfl (jA rfl (⟨x,_,dx,jA rfl (⟨jD,T.cl kd,T.zu kd,?_,?_⟩)⟩)))
 ·have:=QI "low" l (jW "high" h₁ (jW "name" n []));have h1:=QI "high" h₁ (jW "name" n []);have h2:(jW ("name":Str) n []).length=1:=rfl;omega
 exact q _ (((((Keep.refl x H).upd _).upd _).upd _).upd _) jD
theorem K4:jT 6 ["self","name","high","low","room","side"] nP:=jS
include T in
theorem GT (F:Fun K "__init__" "BasinLock.__init__" nP f fd) (xm:CmD P w K mg base 1 "PlainLock" cP "__init__" ["self","name","high","low","room"] (dI (jF cP cB cU))):FnOk P w K mg base jK 2 f fd ["self","name","high","low","room","side"] (dH (jF cP cB cU) .basin):=by
 refine F.ok2 K4 fun vs H Q E h=>?_
 refine ZO h fun x dx n h₁ l r v h=>?_
 refine q0 h fun e_ hx q=>?_
 subst e_;refine ⟨rfl,fun _ _ _ _ hr=>?_⟩;refine ⟨_,(@jG _ _ _ _ _ (JJ (DO xm hr rfl (eK (pv 0) (pv 1) (pv 2) (pv 3) (pv 4))))
   (@kX _ _ _ (zL (pv 0) (pv 5) rfl))),?_⟩
 try dsimp only [jV,jU]
 refine (jA rfl (jA rfl (jA rfl (jA rfl (jA rfl (⟨.basin,x,dx,n,h₁,l,r,rfl,hx,fun H' kp hx'=>?_⟩))))));refine (jA rfl (jA rfl (⟨x,_,dx,jA rfl (⟨hx',T.cl .basin,T.ux,xV _ _ _ _,?_⟩)⟩)));exact q _ (kp.upd _) jD
theorem LS:jT 6 ["self","name","high","low","room","lift"] oG:=jS
include T in
theorem HR (F:Fun K "__init__" "PumpLock.__init__" oG f fd) (xm:CmD P w K mg base 1 "PlainLock" cP "__init__" ["self","name","high","low","room"] (dI (jF cP cB cU))):FnOk P w K mg base jK 2 f fd ["self","name","high","low","room","lift"] (dH (jF cP cB cU) .pump):=by
 refine F.ok2 LS fun vs H Q E h=>?_
 refine ZO h fun x dx n h₁ l r v h=>?_
 refine q0 h fun e_ hx q=>?_
 subst e_;refine ⟨rfl,fun _ _ _ _ hr=>?_⟩;refine ⟨_,(@jG _ _ _ _ _ (JJ (DO xm hr rfl (eK (pv 0) (pv 1) (pv 2) (pv 3) (pv 4))))
   (@kX _ _ _ (zL (pv 0) (pv 5) rfl))),?_⟩
 try dsimp only [jV,jU]
 refine (jA rfl (jA rfl (jA rfl (jA rfl (jA rfl (⟨.pump,x,dx,n,h₁,l,r,rfl,hx,fun H' kp hx'=>?_⟩))))));refine (jA rfl (jA rfl (⟨x,_,dx,jA rfl (⟨hx',T.cl .pump,T.wd,xV _ _ _ _,?_⟩)⟩)));exact q _ (kp.upd _) jD
theorem LW:jT 7 ["self","name","least","crest","berths","water","target"] oK:=jS
include T in
theorem HW (F:Fun K "__init__" "Reach.__init__" oK f fd) : FnOk P w K mg base jK 1 f fd ["self","name","least","crest","berths","water","target"] (rA cR):=by
 refine F.ok2 LW fun vs H Q E h=>?_
 refine zB h fun x dx v_name v_least v_crest v_berths v_water v_target h=>?_
 refine q0 h fun e_ hx q=>?_
 subst e_;refine ⟨rfl,fun _ _ _ _ hr=>?_⟩;refine ⟨_,(@jG _ _ _ _ _ (zL (pv 0) (pv 1) rfl)
   (@jG _ _ _ _ _ (zL (pv 0) (pv 2) rfl)
   (@jG _ _ _ _ _ (zL (pv 0) (pv 3) rfl)
   (@jG _ _ _ _ _ (zL (pv 0) (pv 4) rfl)
   (@jG _ _ _ _ _ (zL (pv 0) (pv 5) rfl)
   (@kX _ _ _ (zL (pv 0) (pv 6) rfl))))))),?_⟩
 try dsimp only [jV,jU]
 have ln:∀(f:Str) (z:V) (fs:List (Str×V)) (m:Nat),fs.length≤m→(jW f z fs).length≤m+1:=fun f z fs m h=>aG (QI f z fs) (by omega)
 have l0:([]:List (Str×V)).length≤0:=ar _;refine (jA rfl (jA rfl (⟨x,cR,dx,jA rfl (⟨hx,T.clR,T.zx,by omega,?_⟩)⟩)));have l1:=ln "name" v_name _ _ l0;refine (jA rfl (jA rfl (⟨x,cR,dx,jA rfl (⟨jD,T.clR,T.xx,by omega,?_⟩)⟩)));have l2:=ln "least" v_least _ _ l1;refine (jA rfl (jA rfl (⟨x,cR,dx,jA rfl (⟨jD,T.clR,T.xy,by omega,?_⟩)⟩)));have l3:=ln "crest" v_crest _ _ l2;refine (jA rfl (jA rfl (⟨x,cR,dx,jA rfl (⟨jD,T.clR,T.xv,by omega,?_⟩)⟩)));have l4:=ln "berths" v_berths _ _ l3;refine (jA rfl (jA rfl (⟨x,cR,dx,jA rfl (⟨jD,T.clR,T.xz,by omega,?_⟩)⟩)));have l5:=ln "water" v_water _ _ l4;refine (jA rfl (jA rfl (⟨x,cR,dx,jA rfl (⟨jD,T.clR,T.xt,by omega,?_⟩)⟩)));have l6:=ln "target" v_target _ _ l5;exact q _ _ (((((((Keep.refl x H).upd _).upd _).upd _).upd _).upd _).upd _) jD (OC _ _ _ _ _ _)
theorem LQ:jT 1 ["self"] oE:=jS
include T in
theorem HN (F:Fun K "kind" "PlainLock.kind" oE f fd) : FnOk P w K mg base jK 1 f fd ["self"] (QM (jF cP cB cU) (fun kd _=>V.str (match kd with|.plain=>"plain"|.basin=>"basin"|.pump=>"pump")) .plain):=by
 refine F.ok2 LQ fun vs H Q E h=>?_
 refine Z7 h fun x n h₁ l room v h=>?_
 refine q0 h fun e_ p0_ q=>?_
 subst e_;obtain ⟨dx,hx⟩:=p0_;refine ⟨rfl,fun _ _ _ _ hr=>?_⟩;refine ⟨_,(jO j6),?_⟩
 try dsimp only [jV,jU]
 exact q
theorem K7:jT 1 ["self"] nS:=jS
include T in
theorem GX (F:Fun K "kind" "BasinLock.kind" nS f fd) : FnOk P w K mg base jK 1 f fd ["self"] (QM (jF cP cB cU) (fun kd _=>V.str (match kd with|.plain=>"plain"|.basin=>"basin"|.pump=>"pump")) .basin):=by
 refine F.ok2 K7 fun vs H Q E h=>?_
 refine Z7 h fun x n h₁ l room v h=>?_
 refine q0 h fun e_ p0_ q=>?_
 subst e_;obtain ⟨dx,hx⟩:=p0_;refine ⟨rfl,fun _ _ _ _ hr=>?_⟩;refine ⟨_,(jO j6),?_⟩
 try dsimp only [jV,jU]
 exact q
theorem LV:jT 1 ["self"] oJ:=jS
include T in
theorem HV (F:Fun K "kind" "PumpLock.kind" oJ f fd) : FnOk P w K mg base jK 1 f fd ["self"] (QM (jF cP cB cU) (fun kd _=>V.str (match kd with|.plain=>"plain"|.basin=>"basin"|.pump=>"pump")) .pump):=by
 refine F.ok2 LV fun vs H Q E h=>?_
 refine Z7 h fun x n h₁ l room v h=>?_
 refine q0 h fun e_ p0_ q=>?_
 subst e_;obtain ⟨dx,hx⟩:=p0_;refine ⟨rfl,fun _ _ _ _ hr=>?_⟩;refine ⟨_,(jO j6),?_⟩
 try dsimp only [jV,jU]
 exact q
theorem LO:jT 1 ["self"] oB:=jS
include T in
theorem HL (F:Fun K "extra" "PlainLock.extra" oB f fd) : FnOk P w K mg base jK 1 f fd ["self"] (QM (jF cP cB cU) (fun kd v=>V.int (match kd with|.plain=>0|.basin=>v|.pump=>v)) .plain):=by
 refine F.ok2 LO fun vs H Q E h=>?_
 refine Z7 h fun x n h₁ l room v h=>?_
 refine q0 h fun e_ p0_ q=>?_
 subst e_;obtain ⟨dx,hx⟩:=p0_;refine ⟨rfl,fun _ _ _ _ hr=>?_⟩;refine ⟨_,(jO jC),?_⟩
 try dsimp only [jV,jU]
 exact q
theorem K5:jT 1 ["self"] nQ:=jS
include T in
theorem GU (F:Fun K "extra" "BasinLock.extra" nQ f fd) : FnOk P w K mg base jK 1 f fd ["self"] (QM (jF cP cB cU) (fun kd v=>V.int (match kd with|.plain=>0|.basin=>v|.pump=>v)) .basin):=by
 refine F.ok2 K5 fun vs H Q E h=>?_
 refine Z7 h fun x n h₁ l room v h=>?_
 refine q0 h fun e_ p0_ q=>?_
 subst e_;obtain ⟨dx,hx⟩:=p0_;refine ⟨rfl,fun _ _ _ _ hr=>?_⟩;refine ⟨_,(jO (j7 K (pv 0) rfl)),?_⟩
 try dsimp only [jV,jU]
 exact (jA rfl (j8 hx (T.cl .basin) (T.ux) (fR _ _ _ _ _ _) (q)))
theorem LT:jT 1 ["self"] oH:=jS
include T in
theorem HS (F:Fun K "extra" "PumpLock.extra" oH f fd) : FnOk P w K mg base jK 1 f fd ["self"] (QM (jF cP cB cU) (fun kd v=>V.int (match kd with|.plain=>0|.basin=>v|.pump=>v)) .pump):=by
 refine F.ok2 LT fun vs H Q E h=>?_
 refine Z7 h fun x n h₁ l room v h=>?_
 refine q0 h fun e_ p0_ q=>?_
 subst e_;obtain ⟨dx,hx⟩:=p0_;refine ⟨rfl,fun _ _ _ _ hr=>?_⟩;refine ⟨_,(jO (j7 K (pv 0) rfl)),?_⟩
 try dsimp only [jV,jU]
 exact (jA rfl (j8 hx (T.cl .pump) (T.wd) (fR _ _ _ _ _ _) (q)))
theorem LP:jT 2 ["self","basin"] oC:=jS
include T in
theorem HM (F:Fun K "fill_parts" "PlainLock.fill_parts" oC f fd) (xc:Def P w K mg base 1 "parts_not_nought" ["parts"] [] (dY K)):FnOk P w K mg base jK 2 f fd ["self","basin"] (JL (jF cP cB cU) Z0 .plain):=by
 refine F.ok2 LP fun vs H Q E h=>?_
 refine ZO h fun x n h₁ l room v b h=>?_
 refine q0 h fun e_ p0_ q=>?_
 subst e_;obtain ⟨dx,hx⟩:=p0_;refine ⟨rfl,fun _ _ _ _ hr=>?_⟩;refine ⟨_,(jO (jP xc hr rfl (jB (qJ (jB (qA (jB j6 (jB (j7 K (pv 0) rfl) jE))) jE)) jE))),?_⟩
 try dsimp only [jV,jU]
 refine (jA rfl (j8 hx (T.cl .plain) (T.zu .plain) (dM .plain _ _ _ _ _) (⟨zz2,fun tp htp=>⟨zz1,fun lp hlp=>?_⟩⟩)));have s1:=jJ htp (.tup [.str "high",.int room]);have s2:=jJ hlp (.lst [V.ref tp]);refine (v8 lp ([.ref tp]) ([("high",room)]) (yZ rfl (so jD) (PartsAt.nil.snoc (s2 _ _ jD)) (by show 1≤10;decide) (fun rr H' rs' sm hrr0 hrr hP=>?_)));exact q rr H' rs' ((s1.trans s2).trans sm) ((s1.trans s2).free hrr0) hrr hP
theorem K6:jT 2 ["self","basin"] nR:=jS
include T in
theorem GW (F:Fun K "fill_parts" "BasinLock.fill_parts" nR f fd) (xc:Def P w K mg base 1 "parts_not_nought" ["parts"] [] (dY K)):FnOk P w K mg base jK 2 f fd ["self","basin"] (JL (jF cP cB cU) Z0 .basin):=by
 refine F.ok2 K6 fun vs H Q E h=>?_
 refine ZO h fun x n h₁ l room v b h=>?_
 refine q0 h fun e_ p0_ q=>?_
 subst e_;obtain ⟨dx,hx0⟩:=p0_;refine ⟨rfl,fun _ _ _ _ hr=>?_⟩;refine ⟨_,(jO (jP xc hr rfl (jB (qJ (jB (qA (jB j6 (jB (pv 1) jE))) (jB (qA (jB j6 (jB (@jL _ _ _ _ _ _ _ _ JE (j7 K (pv 0) rfl) (pv 1)) jE))) jE))) jE))),?_⟩
 try dsimp only [jV,jU]
 refine (jA rfl (⟨zz2,fun tp htp=>?_⟩));have s1:=jJ htp (.tup [.str "basin",.int b]);have hx:=s1 _ _ hx0;refine (jA rfl (j8 hx (T.cl .basin) (T.zu .basin) (dM .basin _ _ _ _ _) ((jA rfl (j9 (⟨zz2,fun tq htq=>⟨zz2,fun lp hlp=>?_⟩⟩))))));have s2:=jJ htq (.tup [.str "high",.int (room - b)]);have s3:=jJ hlp (.lst [V.ref tp,V.ref tq]);refine (v8 lp ([.ref tp,.ref tq]) ([("basin",b),("high",room - b)]) (yZ rfl (so jD) ((PartsAt.nil.snoc (s3 _ _ (s2 _ _ jD))).snoc (s3 _ _ jD)) (by show 2≤10;decide) (fun rr H' rs' sm hrr0 hrr hP=>?_)));exact q rr H' rs' (((s1.trans s2).trans s3).trans sm) (((s1.trans s2).trans s3).free hrr0) hrr hP
theorem LU:jT 2 ["self","basin"] oI:=jS
include T in
theorem HU (F:Fun K "fill_parts" "PumpLock.fill_parts" oI f fd) (xc:Def P w K mg base 1 "parts_not_nought" ["parts"] [] (dY K)):FnOk P w K mg base jK 2 f fd ["self","basin"] (JL (jF cP cB cU) Z0 .pump):=by
 refine F.ok2 LU fun vs H Q E h=>?_
 refine ZO h fun x n h₁ l room v b h=>?_
 refine q0 h fun e_ p0_ q=>?_
 subst e_;obtain ⟨dx,hx0⟩:=p0_;refine ⟨rfl,fun _ _ _ _ hr=>?_⟩;refine ⟨_,(jO (jP xc hr rfl (jB (qJ (jB (qA (jB j6 (jB (j7 K (pv 0) rfl) jE))) (jB (qA (jB j6 (jB (@jL _ _ _ _ _ _ _ _ JE (j7 K (pv 0) rfl) (j7 K (pv 0) rfl)) jE))) jE))) jE))),?_⟩
 try dsimp only [jV,jU]
 refine (jA rfl (j8 hx0 (T.cl .pump) (T.wd) (fR _ _ _ _ _ _) (⟨zz2,fun tp htp=>?_⟩)));have s1:=jJ htp (.tup [.str "low",.int v]);have hx:=s1 _ _ hx0;refine (jA rfl (j8 hx (T.cl .pump) (T.zu .pump) (dM .pump _ _ _ _ _) ((jA rfl (j8 hx (T.cl .pump) (T.wd) (fR _ _ _ _ _ _) (j9 (⟨zz2,fun tq htq=>⟨zz2,fun lp hlp=>?_⟩⟩)))))));have s2:=jJ htq (.tup [.str "high",.int (room - v)]);have s3:=jJ hlp (.lst [V.ref tp,V.ref tq]);refine (v8 lp ([.ref tp,.ref tq]) ([("low",v),("high",room - v)]) (yZ rfl (so jD) ((PartsAt.nil.snoc (s3 _ _ (s2 _ _ jD))).snoc (s3 _ _ jD)) (by show 2≤10;decide) (fun rr H' rs' sm hrr0 hrr hP=>?_)));exact q rr H' rs' (((s1.trans s2).trans s3).trans sm) (((s1.trans s2).trans s3).free hrr0) hrr hP
theorem LR:jT 2 ["self","basin"] oF:=jS
include T in
theorem HQ (F:Fun K "let_parts" "PlainLock.let_parts" oF f fd) (xc:Def P w K mg base 1 "parts_not_nought" ["parts"] [] (dY K)):FnOk P w K mg base jK 2 f fd ["self","basin"] (SA (jF cP cB cU)):=by
 refine F.ok2 LR fun vs H Q E h=>?_
 refine zB h fun kd x n h₁ l room v b h=>?_
 refine q0 h fun e_ p0_ q=>?_
 subst e_;obtain ⟨dx,hx⟩:=p0_;refine ⟨rfl,fun _ _ _ _ hr=>?_⟩;refine ⟨_,(jO (jP xc hr rfl (jB (qJ (jB (qA (jB j6 (jB (j7 K (pv 0) rfl) jE))) jE)) jE))),?_⟩
 try dsimp only [jV,jU]
 refine (jA rfl (j8 hx (T.cl kd) (T.zu kd) (dM kd _ _ _ _ _) (⟨zz2,fun tp htp=>⟨zz1,fun lp hlp=>?_⟩⟩)));have s1:=jJ htp (.tup [.str "low",.int room]);have s2:=jJ hlp (.lst [V.ref tp]);refine (v8 lp ([.ref tp]) ([("low",room)]) (yZ rfl (so jD) (PartsAt.nil.snoc (s2 _ _ jD)) (by show 1≤10;decide) (fun rr H' rs' sm hrr0 hrr hP=>?_)));exact q rr H' rs' ((s1.trans s2).trans sm) ((s1.trans s2).free hrr0) hrr hP
theorem wV:jT 2 ["self","basin","saved"] nU:=jS
include T in
theorem GY (F:Fun K "let_parts" "BasinLock.let_parts" nU f fd) (xc:Def P w K mg base 1 "parts_not_nought" ["parts"] [] (dY K)):FnOk P w K mg base jK 2 f fd ["self","basin"] (JL (jF cP cB cU) Q1 .basin):=by
 refine F.ok2 wV fun vs H Q E h=>?_
 refine ZO h fun x n h₁ l room v b h=>?_
 refine q0 h fun e_ p0_ q=>?_
 subst e_;obtain ⟨dx,hx0⟩:=p0_;refine ⟨rfl,fun _ _ _ _ hr=>?_⟩;refine ⟨_,(@jG _ _ _ _ _ (jX 2 wV.nd (@jL _ _ _ _ _ _ _ _ JE (j7 K (pv 0) rfl) (pv 1)))
   (jO (jP xc hr rfl (jB (qJ (jB (qA (jB j6 (jB (pv 2) jE))) (jB (qA (jB j6 (jB (@jL _ _ _ _ _ _ _ _ JE (j7 K (pv 0) rfl) (pv 2)) jE))) jE))) jE)))),?_⟩
 try dsimp only [jV,jU]
 have hx:=hx0;refine (jA rfl (j8 hx (T.cl .basin) (T.ux) (fR _ _ _ _ _ _) ((jA rfl (j9 (?_))))));refine (jA rfl (⟨zz2,fun tp htp=>?_⟩));have s1:=jJ htp (.tup [.str "basin",.int (v - b)]);have hx:=s1 _ _ hx0;refine (jA rfl (j8 hx (T.cl .basin) (T.zu .basin) (dM .basin _ _ _ _ _) ((jA rfl (j9 (⟨zz2,fun tq htq=>⟨zz2,fun lp hlp=>?_⟩⟩))))));have s2:=jJ htq (.tup [.str "low",.int (room - (v - b))]);have s3:=jJ hlp (.lst [V.ref tp,V.ref tq]);refine (v8 lp ([.ref tp,.ref tq]) ([("basin",v - b),("low",room - (v - b))]) (yZ rfl (so jD) ((PartsAt.nil.snoc (s3 _ _ (s2 _ _ jD))).snoc (s3 _ _ jD)) (by show 2≤10;decide) (fun rr H' rs' sm hrr0 hrr hP=>?_)));exact q rr H' rs' (((s1.trans s2).trans s3).trans sm) (((s1.trans s2).trans s3).free hrr0) hrr hP
theorem LA:jT 4 ["self","reaches","locks","nights"] bG:=jS
include T in
theorem G1 {ds:List Value} (F:FunD K "__init__" "Canal.__init__" bG f fd ds) : FnOk P w K mg base jK 1 f fd ["self","reaches","locks","nights"] (rB (jF cP cB cU) cR cN):=by
 refine F.ok2 LA fun vs H Q E h=>?_
 refine gE h fun x dx rl ll nv rs ls R L N h=>?_
 refine eF h fun e_ hx hrl hll hR hL hN q=>?_
 subst e_;refine ⟨rfl,fun _ _ _ _ hr=>?_⟩;refine ⟨_,(@jG _ _ _ _ _ (zL (pv 0) (zE (bH K) (by rfl) T.xn aW (jB (pv 1) jE)) rfl)
   (@jG _ _ _ _ _ (zL (pv 0) (zE (bH K) (by rfl) T.xn aW (jB (pv 2) jE)) rfl)
   (@kX _ _ _ (zL (pv 0) (Q8 (kI uC (pv 3) ZC) (qJ jE) (gI ["night"] [] (qS (jM bG)) (qV (pv 3)) (fun _ _ _ _ _=>(zE (bH K) (by rfl) T.xn aW (jB (pv 0) jE))))) rfl)))),?_⟩
 try dsimp only [jV,jU]
 have ln:∀(f:Str) (z:V) (fs:List (Str×V)) (m:Nat),fs.length≤m→(jW f z fs).length≤m+1:=fun f z fs m h=>aG (QI f z fs) (by omega)
 have nrx:rl≠x:=QZ hrl hx (fun z=>nomatch z);have nlx:ll≠x:=QZ hll hx (fun z=>nomatch z);refine (jA rfl (⟨rl,jA rfl (⟨.inl (so hrl),fun r2 hr20=>?_⟩)⟩));have s1:=jJ hr20 (.lst rs);have nr2:r2≠x:=(q8 hx hr20).symm;refine (jA rfl (⟨x,cN,dx,jA rfl (⟨s1 _ _ hx,T.clN,T.xg,(by show 0<1000;decide),?_⟩)⟩));have k1:Keep x H (upd (upd H r2 (.lst rs)) x (.ins cN dx (jW "reaches" (.ref r2) []))):=(Keep.of s1).upd _;have hr2:upd (upd H r2 (.lst rs)) x (.ins cN dx (jW "reaches" (.ref r2) [])) r2=some (.lst rs):=by rw [jH nr2];exact jD
 have hx1:upd (upd H r2 (.lst rs)) x (.ins cN dx (jW "reaches" (.ref r2) [])) x=some (.ins cN dx (jW "reaches" (.ref r2) [])):=jD;generalize upd (upd H r2 (.lst rs)) x (.ins cN dx (jW "reaches" (.ref r2) []))=H1 at k1 hr2 hx1 ⊢;have l1:=ln "reaches" (.ref r2) [] 0 (ar _);refine (jA rfl (⟨ll,jA rfl (⟨.inl (so (k1 _ _ nlx hll)),fun l2 hl20=>?_⟩)⟩));have s2:=jJ hl20 (.lst ls);have nl2:l2≠x:=(q8 hx1 hl20).symm;refine (jA rfl (⟨x,cN,dx,jA rfl (⟨s2 _ _ hx1,T.clN,T.xb,by omega,?_⟩)⟩));have l2':=ln "locks" (.ref l2) _ _ l1;have k2:Keep x H (upd (upd H1 l2 (.lst ls)) x (.ins cN dx (jW "locks" (.ref l2) (jW "reaches" (.ref r2) [])))):=(k1.trans (Keep.of s2)).upd _;have hr2b:upd (upd H1 l2 (.lst ls)) x (.ins cN dx (jW "locks" (.ref l2) (jW "reaches" (.ref r2) []))) r2=some (.lst rs):=by rw [jH nr2];exact s2 _ _ hr2
 have hl2:upd (upd H1 l2 (.lst ls)) x (.ins cN dx (jW "locks" (.ref l2) (jW "reaches" (.ref r2) []))) l2=some (.lst ls):=by rw [jH nl2];exact jD
 have hx2:upd (upd H1 l2 (.lst ls)) x (.ins cN dx (jW "locks" (.ref l2) (jW "reaches" (.ref r2) []))) x=some (.ins cN dx (jW "locks" (.ref l2) (jW "reaches" (.ref r2) []))):=jD;generalize upd (upd H1 l2 (.lst ls)) x (.ins cN dx (jW "locks" (.ref l2) (jW "reaches" (.ref r2) [])))=H2 at k2 hr2b hl2 hx2 ⊢;have frR:∀D:List Addr,(∀d∈D,H d≠none)→r2∉D:=fun D hD z=>hD _ z hr20
 have frL:∀D:List Addr,(∀d∈D,H d≠none)→l2∉D:=fun D hD z=>by
  by_cases e:l2=x
  ·exact nl2 e
  ·cases hh:H l2 with
   |none=>exact hD _ z hh
   |some o=>rw [k1 _ _ e hh] at hl20;cases hl20
 have done:∀(n2:Addr) (ns:List V) (H3:Hp),Keep x H2 H3→H2 n2=none→H3 x=some (.ins cN dx (jW "locks" (.ref l2) (jW "reaches" (.ref r2) [])))→H3 n2=some (.lst ns)→(∀D:List Addr,(∀d∈D,H2 d≠none)→AllAt (NAt D H3) ns N)→Q .non (upd H3 x (.ins cN dx (jW "nights" (.ref n2) (jW "locks" (.ref l2) (jW "reaches" (.ref r2) []))))):=by
  intro n2 ns H3 k3 hn20 hx3 hn2 hNs;have kf:Keep x H (upd H3 x (.ins cN dx (jW "nights" (.ref n2) (jW "locks" (.ref l2) (jW "reaches" (.ref r2) []))))):=(k2.trans k3).upd _;have kl:Keep x H3 (upd H3 x (.ins cN dx (jW "nights" (.ref n2) (jW "locks" (.ref l2) (jW "reaches" (.ref r2) []))))):=(Keep.refl x H3).upd _;have nn2:n2≠x:=fun z=>by rw [z,hx2] at hn20;cases hn20
  have old:∀d,H d≠none→H2 d≠none:=fun d hd=>by
   by_cases e:d=x
   ·rw [e,hx2];exact fun z=>nomatch z
   ·cases hh:H d with
    |none=>exact absurd hh hd
    |some o=>rw [k2 _ _ e hh];exact fun z=>nomatch z
  refine q _ kf fun D hD=>⟨dx,r2,l2,n2,_,rs,ls,ns,jD,OD _ _ _,?_,?_,?_,hR.mono (RcO.keepI kf hx),hL.mono (LkO.keepI kf hx),?_,frR D hD,frL D hD,fun z=>old _ (hD _ z) hn20⟩
  ·rw [jH nr2];exact k3 _ _ nr2 hr2b
  ·rw [jH nl2];exact k3 _ _ nl2 hl2
  ·rw [jH nn2];exact hn2
  ·refine (hNs D (fun d hd=>old d (hD d hd))).mono ?_;rintro v p ⟨l,qs,e1,e2,e3,e4⟩;exact ⟨l,qs,e1,kl _ _ (fun z=>by rw [z,hx3] at e2;cases e2) e2,e3.mono (QAt.keep kl hx3 (fun _ z=>nomatch z)),e4⟩
 refine ⟨_,rfl,rfl,jA rfl (?_)⟩
 rcases hN with ⟨rfl,rfl⟩|⟨nl,ns,rfl,hnl,hN,hnl100⟩
 ·refine vL rfl ⟨zz0,fun n2 hn20=>?_⟩;have s3:=jJ hn20 (.lst []);refine (jA rfl (⟨x,cN,dx,jA rfl (⟨s3 _ _ hx2,T.clN,T.xl,by omega,?_⟩)⟩));exact done n2 [] _ (Keep.of s3) hn20 (s3 _ _ hx2) jD (fun D _=>AllAt.nil)
 ·have nnx:nl≠x:=QZ hnl hx (fun z=>nomatch z);have hnl2:=k2 _ _ nnx hnl;have hN2:AllAt (NAt [] H2) ns N:=hN.mono fun v p=>by
   rintro ⟨l,qs,e1,e2,e3,e4⟩;exact ⟨l,qs,e1,k2 _ _ (QZ e2 hx (fun z=>nomatch z)) e2,e3.mono (QAt.keep k2 hx (fun _ z=>nomatch z)),e4⟩
  refine qX (fun z=>nomatch z) (jA rfl (⟨nl,rfl,⟨_,so hnl2⟩,fun n2 hn20=>?_⟩));refine zR (K:=K) (a:=nl) (xs:=ns) (caps:=[]) (fun i ys Hi=>(∀D:List Addr,n2∈D→(∀d∈D,d≠n2→H2 d≠none)→AllAt (NAt D Hi) ys (N.take i))) hn20 (so hnl2) (fun D _ _=>AllAt.nil) ?_ ?_
  ·rintro i v ys Hi hv hi hle sm hY hI;obtain ⟨p,hp,l,qs,rfl,hl,hq,_⟩:=hN2.2 i v hv;refine yF (kU ?_);refine (jA rfl (⟨l,qs,rfl,.inl (so (sm _ _ hl)),fun c hc0=>?_⟩));have u:=jJ hc0 (.lst qs);refine vY hn20 sm hY hle (by omega) u ?_;intro D hnD hD;rw [aC,hp];refine (((hI D hnD hD).mono (NAt.same u)).snoc (v:=.ref c) (x:=p) ⟨c,qs,rfl,jD,(hq.mono (QAt.same sm)).mono (QAt.same u),fun z=>?_⟩).mono (NAt.put (u _ _ hY) hnD)
   by_cases e:c=n2
   ·rw [e,hY] at hc0;cases hc0
   ·cases hh:H2 c with
    |none=>exact hD _ z e hh
    |some o=>rw [sm _ _ hh] at hc0;cases hc0
  rintro ys H3 s3 hY hle hI;rw [hN2.1,aL] at hI;refine (jA rfl (⟨x,cN,dx,jA rfl (⟨s3 _ _ hx2,T.clN,T.xl,by omega,?_⟩)⟩));exact done n2 ys H3 (Keep.of s3) hn20 (s3 _ _ hx2) hY (fun D hD=>(hI (n2::D) aH (fun d hd ne=>(ax.mp hd).elim (fun z=>absurd z ne) (hD d))).mono (NAt.less (fun d hd=>ay _ hd)))
theorem LH:jT 1 ["self"] nZ:=jS
include T in
theorem G6 (F:Fun K "sea" "Canal.sea" nZ f fd) : FnOk P w K mg base jK 1 f fd ["self"] (Z4 (jF cP cB cU) cR cN JH):=by
 refine F.ok2 LH fun vs H Q E h=>?_
 refine Q3 h fun x D R L N h=>?_
 refine q0 h fun e_ p0_ q=>?_
 subst e_;obtain ⟨dx,rl,ll,nl,fs,rs,ls,ns,hx,hf,hrl,hll,hnl,hR,hL,hN,d1,d2,d3⟩:=p0_;refine ⟨rfl,fun _ _ _ _ hr=>?_⟩;refine ⟨_,(jO (@jL _ _ _ _ _ _ _ _ kL (kP K T.xf (j7 K (pv 0) rfl)) (@jL _ _ _ _ _ _ _ _ vC jC (kP K T.xf (j7 K (pv 0) rfl))))),?_⟩
 try dsimp only [jV,jU]
 refine (jA rfl (j8 hx (T.clN) (T.xg) (hf.1) (⟨_,jA rfl (⟨.inl (so hrl),jA rfl (j8 hx (T.clN) (T.xb) (hf.2.1) (⟨_,jA rfl (⟨.inl (so hll),_,_,rfl,rfl,.inl ⟨by decide,by decide⟩,_,_,rfl,rfl,?_⟩)⟩))⟩)⟩)));rw [hR.1,hL.1];exact q
theorem LI:jT 1 ["self"] n4:=jS
include T in
theorem G7 (F:Fun K "sky" "Canal.sky" n4 f fd) (zi:MeD P w K mg base 1 cN "sea" ["self"] (Z4 (jF cP cB cU) cR cN JH)):FnOk P w K mg base jK 2 f fd ["self"] (Z4 (jF cP cB cU) cR cN gH):=by
 refine F.ok2 LI fun vs H Q E h=>?_
 refine Q3 h fun x D R L N h=>?_
 refine q0 h fun e_ hc q=>?_
 subst e_;refine ⟨rfl,fun _ _ _ _ hr=>?_⟩;refine ⟨_,(jO (@jL _ _ _ _ _ _ _ _ kL (ZJ zi hr (pv 0)) jC)),?_⟩
 try dsimp only [jV,jU]
 have hc0:=hc;obtain ⟨dx,rl,ll,nl,fs,rs,ls,ns,hx,hf,hrl,hll,hnl,hR,hL,hN,d1,d2,d3⟩:=hc;exact (jA rfl (⟨x,dx,jA rfl (⟨hx,hf.no (by decide +kernel) (by decide +kernel) (by decide +kernel),x,D,R,L,N,rfl,hc0,_,_,rfl,rfl,q⟩)⟩))
theorem LG:jT 1 ["self"] nY:=jS
include T in
theorem G5 (F:Fun K "many" "Canal.many" nY f fd) (zj:MeD P w K mg base 2 cN "sky" ["self"] (Z4 (jF cP cB cU) cR cN gH)):FnOk P w K mg base jK 3 f fd ["self"] (Z4 (jF cP cB cU) cR cN mO):=by
 refine F.ok2 LG fun vs H Q E h=>?_
 refine Q3 h fun x D R L N h=>?_
 refine q0 h fun e_ hc q=>?_
 subst e_;refine ⟨rfl,fun _ _ _ _ hr=>?_⟩;refine ⟨_,(jO (@jL _ _ _ _ _ _ _ _ kL (ZJ zj hr (pv 0)) jC)),?_⟩
 try dsimp only [jV,jU]
 have hc0:=hc;obtain ⟨dx,rl,ll,nl,fs,rs,ls,ns,hx,hf,hrl,hll,hnl,hR,hL,hN,d1,d2,d3⟩:=hc;exact (jA rfl (⟨x,dx,jA rfl (⟨hx,hf.no (by decide +kernel) (by decide +kernel) (by decide +kernel),x,D,R,L,N,rfl,hc0,_,_,rfl,rfl,q⟩)⟩))
theorem LD:jT 2 ["self","k"] nW:=jS
include T in
theorem G3 (F:Fun K "chamber" "Canal.chamber" nW f fd) : FnOk P w K mg base jK 1 f fd ["self","k"] (bW (jF cP cB cU) cR cN JT):=by
 refine F.ok2 LD fun vs H Q E h=>?_
 refine Z7 h fun x D R L N k h=>?_
 refine q0 h fun e_ p0_ q=>?_
 subst e_;obtain ⟨dx,rl,ll,nl,fs,rs,ls,ns,hx,hf,hrl,hll,hnl,hR,hL,hN,d1,d2,d3⟩:=p0_;refine ⟨rfl,fun _ _ _ _ hr=>?_⟩;refine ⟨_,(jO (@jL _ _ _ _ _ _ _ _ kL (kP K T.xf (j7 K (pv 0) rfl)) (pv 1))),?_⟩
 try dsimp only [jV,jU]
 refine (jA rfl (j8 hx (T.clN) (T.xg) (hf.1) (⟨_,jA rfl (⟨.inl (so hrl),jA rfl (j9 (?_))⟩)⟩)));rw [hR.1];exact q
theorem LB:jT 2 ["self","k"] nV:=jS
include T in
theorem G2 (F:Fun K "basin" "Canal.basin" nV f fd) : FnOk P w K mg base jK 1 f fd ["self","k"] (bW (jF cP cB cU) cR cN zC):=by
 refine F.ok2 LB fun vs H Q E h=>?_
 refine Z7 h fun x D R L N k h=>?_
 refine q0 h fun e_ p0_ q=>?_
 subst e_;obtain ⟨dx,rl,ll,nl,fs,rs,ls,ns,hx,hf,hrl,hll,hnl,hR,hL,hN,d1,d2,d3⟩:=p0_;refine ⟨rfl,fun _ _ _ _ hr=>?_⟩;refine ⟨_,(jO (@jL _ _ _ _ _ _ _ _ kL (@jL _ _ _ _ _ _ _ _ kL (kP K T.xf (j7 K (pv 0) rfl)) (kP K T.xf (j7 K (pv 0) rfl))) (pv 1))),?_⟩
 try dsimp only [jV,jU]
 refine (jA rfl (j8 hx (T.clN) (T.xg) (hf.1) (⟨_,jA rfl (⟨.inl (so hrl),jA rfl (j8 hx (T.clN) (T.xb) (hf.2.1) (⟨_,jA rfl (⟨.inl (so hll),_,_,rfl,rfl,jA rfl (j9 (?_))⟩)⟩))⟩)⟩)));rw [hR.1,hL.1];exact q
theorem LJ:jT 1 ["self"] iA:=jS
include T in
theorem HG (F:Fun K "weirs" "Canal.weirs" iA f fd) (zi:MeD P w K mg base 1 cN "sea" ["self"] (Z4 (jF cP cB cU) cR cN JH)):FnOk P w K mg base jK 2 f fd ["self"] (lF (jF cP cB cU) cR cN):=by
 refine F.ok2 LJ fun vs H Q E h=>?_
 refine Q3 h fun x D R L N h=>?_
 refine eH h fun e_ hc hR100 q=>?_
 subst e_;refine ⟨rfl,fun _ _ _ _ hr=>?_⟩;refine ⟨_,(jO (gI ["reach","self"] [0] (qS (jM iA)) (qV (j7 K (pv 0) rfl)) (fun _ _ _ _ _=>(qA (jB (j7 K (pv 0) rfl) (jB (Q8 (kI qQ (j7 K (pv 0) rfl) (fS (v:=.int (-1)) rfl T.xaN ⟨_,rfl⟩)) (ZJ zi hr (pv 1)) (j7 K (pv 0) rfl)) jE)))))),?_⟩
 try dsimp only [jV,jU]
 have hc0:=hc;obtain ⟨dx,rl,ll,nl,fs,rs,ls,ns,hx,hf,hrl,hll,hnl,hR,hL,hN,d1,d2,d3⟩:=hc;refine (jA rfl (j8 hx (T.clN) (T.xg) (hf.1) (⟨rl,rfl,⟨_,so hrl⟩,fun wl hwl0=>?_⟩)));refine zR (K:=K) (a:=rl) (xs:=rs) (caps:=[some (.ref x)]) (fun i ys Hi=>AllAt (QAt Hi) ys ((R.take i).map (JO (JH R.length L.length)))) hwl0 (so hrl) AllAt.nil ?_ ?_
 ·rintro i v ys Hi hv hi hle sm hY hW;obtain ⟨r,hr,y,rfl,dy,gs,hy,hg⟩:=hR.2 i v hv;have hy:=sm _ _ hy;have hi100:i<100:=by rw [hR.1] at hi;omega
  refine yF (kU ?_);refine (jA rfl (j8 hy (T.clR) (T.xy) (hg.2.2.1) ((jA rfl (j8 hy (T.clR) (T.xt) (hg.2.2.2.2.2) (⟨rfl,jA rfl (?_)⟩))))));have put:∀z:Int,z=(JO (JH R.length L.length) r).2→∀tp,Hi tp=none→∃ys',upd Hi tp (.tup [.int r.crest,.int z]) wl=some (.lst ys')∧ys'.length<sizeLine∧ZH H wl [some (.ref x)] (fun i ys Hi=>AllAt (QAt Hi) ys ((R.take i).map (JO (JH R.length L.length)))) (i+1) [some (.ref y),some (.ref x)] (upd (upd Hi tp (.tup [.int r.crest,.int z])) wl (.lst (ys'++[.ref tp]))):=by
   intro z hz tp htp;have u:=jJ htp (.tup [V.int r.crest,V.int z]);exact vY (R:=fun i ys Hi=>AllAt (QAt Hi) ys ((R.take i).map (JO (JH R.length L.length)))) (c:=some (.ref y)) (caps:=[some (.ref x)]) (v:=.ref tp) hwl0 sm hY hle (by omega) u (by
    rw [aC,hr,aJ];exact ((hW.mono (QAt.same u)).snoc (v:=.ref tp) (x:=JO (JH R.length L.length) r) ⟨tp,rfl,by rw [← hz];exact jD⟩).mono (QAt.put (u _ _ hY)))
  by_cases ht:r.target = -1
  ·refine vL (cp V.int ht) (jA rfl (⟨x,dx,jA rfl (⟨(sm _ _ hx),hf.no (by decide +kernel) (by decide +kernel) (by decide +kernel),JA x D R L N (y0 rfl (hc0.same sm) zz2 (fun tp htp=>?_))⟩)⟩));exact put _ (by unfold JO;rw [if_pos ht]) tp htp
  ·refine qX (fun z=>ht (V.int.inj z)) (jA rfl (j8 hy (T.clR) (T.xt) (hg.2.2.2.2.2) (⟨zz2,fun tp htp=>?_⟩)));exact put _ (by unfold JO;rw [if_neg ht]) tp htp
 rintro ys Hf sm hY hle hW;rw [hR.1,aL] at hW;exact q wl ys Hf sm hwl0 hY hW
theorem pQ:jT 1 ["self","waters","others"] gZ:=jS
include T in
theorem HF (F:Fun K "start" "Canal.start" gZ f fd) (uk:MeD P w K mg base 3 cN "many" ["self"] (Z4 (jF cP cB cU) cR cN mO)) (xap:Def P w K mg base 4 "settled" ["weirs","waters"] [] (AO K)) (xo:MeD P w K mg base 2 cN "weirs" ["self"] (lF (jF cP cB cU) cR cN)):FnOk P w K mg base jK 5 f fd ["self"] (BX (jF cP cB cU) cR cN):=by
 refine F.ok2 pQ fun vs H Q E h=>?_
 refine Q3 h fun x D R L N h=>?_
 refine Q4 h fun e_ hc hR100 hL100 hT q=>?_
 subst e_;refine ⟨rfl,fun _ _ _ _ hr=>?_⟩;refine ⟨_,(@jG _ _ _ _ _ (J0 (i:=1) ["reach"] (q9 1 []) pQ.nd rfl (.inl rfl) rfl (qS (jM gZ)) (cps 1 []) (qV (j7 K (pv 0) rfl)) (fun _ _ _ _ _=>(kC (i:=0) (show List.Nodup (["reach"]:List Str) from by decide +kernel) rfl (.inl rfl))) (fun _ _ _ _ _=>zF) (fun _ _ _ _ _=>(j7 K (pv 0) rfl)))
   (@jG _ _ _ _ _ (jX 2 pQ.nd (@jL _ _ _ _ _ _ _ _ EY (qJ (jB jC jE)) (@jL _ _ _ _ _ _ _ _ JE (ZJ uk hr (pv 0)) (kP K T.xf (pv 1)))))
   (jO (jP xap hr rfl (jB (ZJ xo hr (pv 0)) (jB (@jL _ _ _ _ _ _ _ _ ZU (pv 1) (pv 2)) jE)))))),?_⟩
 try dsimp only [jV,jU]
 have hc0:=hc;obtain ⟨dx,rl,ll,nl,fs,rs,ls,ns,hx,hf,hrl,hll,hnl,hR,hL,hN,d1,d2,d3⟩:=hc;refine (jA rfl (j8 hx (T.clN) (T.xg) (hf.1) (⟨rl,rfl,⟨_,so hrl⟩,fun wl hwl0=>?_⟩)));refine zR (K:=K) (a:=rl) (xs:=rs) (caps:=[]) (fun i ys Hi=>ys=((R.take i).map (·.water)).map V.int) hwl0 (so hrl) rfl ?_ ?_
 ·rintro i v ys Hi hv hi hle sm hY rfl;obtain ⟨r,hr,y,rfl,dy,gs,hy,hg⟩:=hR.2 i v hv;have hy:=sm _ _ hy;have hi100:i<100:=by rw [hR.1] at hi;omega
  refine yF (kU (jA rfl (j8 hy (T.clR) (T.xz) (hg.2.2.2.2.1) (vY hwl0 sm hY hle (by omega) (Same.refl _) ?_))));rw [aC,hr,aJ,aJ];rfl
 rintro ys H1 s1 hwl hle rfl;rw [hR.1,aL] at hwl;refine ⟨zz1,fun lp hlp=>?_⟩;have s2:=jJ hlp (.lst [V.int 0]);have s12:=s1.trans s2;refine (jA rfl (⟨x,dx,jA rfl (⟨(s12 _ _ hx),hf.no (by decide +kernel) (by decide +kernel) (by decide +kernel),JA x D R L N (yE rfl (hc0.same s12) (jA rfl (⟨wl,jA rfl (⟨.inl (so (s2 _ _ hwl)),_,_,rfl,rfl,?_⟩)⟩)))⟩)⟩));have e1:mO R.length L.length - (((((R.map (·.water)).map V.int).length:Nat)):Int)=((2*L.length+2:Nat):Int):=by
  rw [ae,ae];unfold mO;omega
 try dsimp only
 rw [e1];refine ⟨lp,_,_,rfl,rfl,jD,by omega,by omega,?_,fun gp hgp=>?_⟩
 ·rw [aB,aN,Nat.one_mul];exact small (by omega)
 rw [aB,CB];have s3:=jJ hgp (.lst ((List.replicate (2*L.length+2) (0:Int)).map V.int));have s13:=s12.trans s3;have hgp3:upd (upd H1 lp (.lst [V.int 0])) gp (.lst ((List.replicate (2*L.length+2) (0:Int)).map V.int)) gp=_:=jD;have hwl3:=s3 _ _ (s2 _ _ hwl);generalize upd (upd H1 lp (.lst [V.int 0])) gp (.lst ((List.replicate (2*L.length+2) (0:Int)).map V.int))=H3 at s3 s13 hgp3 hwl3 ⊢;refine (jA rfl (⟨x,dx,jA rfl (⟨(s13 _ _ hx),hf.no (by decide +kernel) (by decide +kernel) (by decide +kernel),JA x D R L N (y0 rfl (hc0.same s13) hR100 (fun wq ws H4 s4 hwq0 hwq hW=>?_))⟩)⟩));refine (jA rfl (jA rfl (⟨wl,gp,_,_,rfl,rfl,s4 _ _ hwl3,s4 _ _ hgp3,?_,fun al hal=>?_⟩)))
 ·rw [ae,ae,ae,eh];exact small (by omega)
 have e2:(R.map (·.water)).map V.int++(List.replicate (2*L.length+2) (0:Int)).map V.int=(J4 R L.length).map V.int:=by unfold J4;rw [aJ]
 rw [e2];have s5:=jJ hal (.lst ((J4 R L.length).map V.int));have s15:=(s13.trans s4).trans s5;refine ⟨wq,al,ws,qD R L.length,J4 R L.length,rfl,⟨so (s5 _ _ hwq),BS hT (hW.mono (QAt.same s5)),.inl (so jD),iX hT,by rw [bI,fF];omega,by rw [fF];omega⟩,fun r H' gs s' hr0 hr hSp=>?_⟩;exact q r H' gs (s15.trans s') (s15.free hr0) hr hSp
theorem LE:jT 3 ["self","waters","k"] nX:=jS
include T in
theorem G4 (F:Fun K "full" "Canal.full" nX f fd) (xw:MeD P w K mg base 1 cN "chamber" ["self","k"] (bW (jF cP cB cU) cR cN JT)):FnOk P w K mg base jK 2 f fd ["self","waters","k"] (tK (jF cP cB cU) cR cN):=by
 refine F.ok2 LE fun vs H Q E h=>?_
 refine zB h fun x wa D R L N ms k h=>?_
 refine eG h fun e_ hc hwa hk q=>?_
 subst e_;refine ⟨rfl,fun _ _ _ _ hr=>?_⟩;refine ⟨_,(jO (z9 FF (jI (jR K) (pv 1) (cH xw hr (pv 0) (jB (pv 2) jE))) jC)),?_⟩
 try dsimp only [jV,jU]
 have hc0:=hc;obtain ⟨dx,rl,ll,nl,fs,rs,ls,ns,hx,hf,hrl,hll,hnl,hR,hL,hN,d1,d2,d3⟩:=hc;have hat:vF (ms.map V.int) (JT R.length L.length (k:Int))=some (.int (ms.getD (R.length+k) 0)):=by
  rw [show JT R.length L.length (k:Int)=((R.length+k:Nat):Int) by unfold JT;omega];exact zI hk
 exact (jA rfl (jA rfl (⟨x,dx,jA rfl (⟨hx,hf.no (by decide +kernel) (by decide +kernel) (by decide +kernel),jA rfl (⟨x,D,R,L,N,jA rfl (⟨hc0,j3 (SqT.of hwa) hat (j9 (q))⟩)⟩)⟩)⟩)))
theorem L1:jT 2 ["lock","basin"] iH:=jS
include T in
theorem IQ (F:kH K "filling" iH f fd) (zc:MeK P w K mg base 2 (jF cP cB cU) "fill_parts" ["self","basin"] (JL (jF cP cB cU) Z0)):FnOk P w K mg base jK 3 f fd ["lock","basin"] (fK (jF cP cB cU) zX):=by
 refine F.ok2 L1 fun vs H Q E h=>?_
 refine zB h fun x kd n h₁ l room v b h=>?_
 refine q0 h fun e_ p0_ q=>?_
 subst e_;obtain ⟨dx,hx⟩:=p0_;refine ⟨rfl,fun _ _ _ _ hr=>?_⟩;refine ⟨_,(jO (QL ["giver","amount"] (q9 2 []) rfl (qS (jM iH)) (cps 2 []) (qV (FE zc hr (pv 0) (jB (pv 1) jE))) (fun _ _ _ _ _=>(QN (n:=2) K rfl (qW (kC (i:=0) (show List.Nodup (["giver","amount"]:List Str) from by decide +kernel) rfl (.inl rfl)) (qW (kC (i:=1) (show List.Nodup (["giver","amount"]:List Str) from by decide +kernel) rfl (.inl rfl)) JD)))) (fun _ _ _ _ _=>zF) (fun _ _ _ _ _=>(qA (j4 (pv 0) j6 (pv 1)))))),?_⟩
 try dsimp only [jV,jU]
 refine (jA rfl (⟨kd,x,dx,jA rfl (⟨hx,S8 kd _ _ _ _ _,jA rfl (⟨x,n,h₁,yD l room v b (yE rfl ⟨dx,hx⟩ (fun pl H1 rs s1 hpl0 hpl hP=>?_))⟩)⟩)⟩));have hplen:=BG kd room v b;refine ⟨pl,rfl,⟨_,so hpl⟩,fun D hD=>?_⟩;have u0:=jJ hD (.lst []);refine dC (K:=K) (a:=pl) (xs:=rs) (fun i σ Hi=>∃(c1 c2:Option V) (ys:List V),σ=[c1,c2]∧Hi D=some (.lst ys)∧PoursS Hi ys ((Z0 kd room v b).take i |>.map (fun p=>(p.1,"chamber",p.2)))∧Same H1 Hi)
  (v8 none none ([]) (y0 rfl jD PoursS.nil u0)) (fun i σ Hi _ ⟨_,_,_,_,_,_,s⟩=>so (s _ _ hpl)) ?_ ?_
 ·rintro i y σ Hi hy ⟨c1,c2,ys,rfl,hY,hA,sm⟩;have hi:i<rs.length:=(ad.mp hy).1;obtain ⟨t,sN,nN,rfl,hps,hT⟩:=hP.2 i y hy;have hl:ys.length≤i:=by rw [hA.1,ae];exact gw _ _
  refine ⟨t,jA rfl (⟨SqT.of (sm _ _ hT),rfl,_,jA rfl (⟨_,_,rfl,rfl,?_⟩)⟩)⟩;refine yF (kU ?_);refine (jA rfl (jA rfl (⟨zz3,fun tp htp=>?_⟩)));have v1:∀o,Same Hi (upd Hi tp o):=fun o=>jJ htp o
  refine ⟨ys,v1 _ _ _ hY,yN (by rw [hP.1] at hi;omega),_,_,ys++[.ref tp],rfl,jD,?_,qI hD (sm.trans (v1 _))⟩;rw [xB hps];exact PoursS.keep ((Keep.refl D _).upd _) (v1 _ _ _ hY) ((hA.same (v1 _)).append (PoursS.one jD))
 ·rintro σ Hi ⟨c1,c2,ys,rfl,hY,hA,sm⟩;rw [hP.1,aL] at hA;exact q D Hi ys (s1.trans sm) (s1.free hD) hY hA
theorem MA:jT 2 ["lock","basin"] iK:=jS
include T in
theorem KA (F:kH K "letting" iK f fd) (zk:MeK P w K mg base 2 (jF cP cB cU) "let_parts" ["self","basin"] (JL (jF cP cB cU) Q1)):FnOk P w K mg base jK 3 f fd ["lock","basin"] (fK (jF cP cB cU) zA):=by
 refine F.ok2 MA fun vs H Q E h=>?_
 refine zB h fun x kd n h₁ l room v b h=>?_
 refine q0 h fun e_ p0_ q=>?_
 subst e_;obtain ⟨dx,hx⟩:=p0_;refine ⟨rfl,fun _ _ _ _ hr=>?_⟩;refine ⟨_,(jO (QL ["taker","amount"] (q9 2 []) rfl (qS (jM iK)) (cps 2 []) (qV (FE zk hr (pv 0) (jB (pv 1) jE))) (fun _ _ _ _ _=>(QN (n:=2) K rfl (qW (kC (i:=0) (show List.Nodup (["taker","amount"]:List Str) from by decide +kernel) rfl (.inl rfl)) (qW (kC (i:=1) (show List.Nodup (["taker","amount"]:List Str) from by decide +kernel) rfl (.inl rfl)) JD)))) (fun _ _ _ _ _=>zF) (fun _ _ _ _ _=>(qA (j4 j6 (pv 0) (pv 1)))))),?_⟩
 try dsimp only [jV,jU]
 refine (jA rfl (⟨kd,x,dx,jA rfl (⟨hx,UK kd _ _ _ _ _,jA rfl (⟨x,n,h₁,yD l room v b (yE rfl ⟨dx,hx⟩ (fun pl H1 rs s1 hpl0 hpl hP=>?_))⟩)⟩)⟩));have hplen:=CK kd room v b;refine ⟨pl,rfl,⟨_,so hpl⟩,fun D hD=>?_⟩;have u0:=jJ hD (.lst []);refine dC (K:=K) (a:=pl) (xs:=rs) (fun i σ Hi=>∃(c1 c2:Option V) (ys:List V),σ=[c1,c2]∧Hi D=some (.lst ys)∧PoursS Hi ys ((Q1 kd room v b).take i |>.map (fun p=>("chamber",p.1,p.2)))∧Same H1 Hi)
  (v8 none none ([]) (y0 rfl jD PoursS.nil u0)) (fun i σ Hi _ ⟨_,_,_,_,_,_,s⟩=>so (s _ _ hpl)) ?_ ?_
 ·rintro i y σ Hi hy ⟨c1,c2,ys,rfl,hY,hA,sm⟩;have hi:i<rs.length:=(ad.mp hy).1;obtain ⟨t,sN,nN,rfl,hps,hT⟩:=hP.2 i y hy;have hl:ys.length≤i:=by rw [hA.1,ae];exact gw _ _
  refine ⟨t,jA rfl (⟨SqT.of (sm _ _ hT),rfl,_,jA rfl (⟨_,_,rfl,rfl,?_⟩)⟩)⟩;refine yF (kU ?_);refine (jA rfl (jA rfl (⟨zz3,fun tp htp=>?_⟩)));have v1:∀o,Same Hi (upd Hi tp o):=fun o=>jJ htp o
  refine ⟨ys,v1 _ _ _ hY,yN (by rw [hP.1] at hi;omega),_,_,ys++[.ref tp],rfl,jD,?_,qI hD (sm.trans (v1 _))⟩;rw [xB hps];exact PoursS.keep ((Keep.refl D _).upd _) (v1 _ _ _ hY) ((hA.same (v1 _)).append (PoursS.one jD))
 ·rintro σ Hi ⟨c1,c2,ys,rfl,hY,hA,sm⟩;rw [hP.1,aL] at hA;exact q D Hi ys (s1.trans sm) (s1.free hD) hY hA
theorem L3:jT 2 ["vessel","pours"] iI:=jS
include T in
theorem IR (F:kH K "given_by" iI f fd) : FnOk P w K mg base jK 1 f fd ["vessel","pours"] (DB):=by
 refine F.ok2 L3 fun vs H Q E h=>?_
 refine gK h fun s₁ p rs qs h=>?_
 refine eG h fun e_ hP hA hn q=>?_
 subst e_;refine ⟨rfl,fun _ _ _ _ hr=>?_⟩;refine ⟨_,(jO (y6 (rZ rfl) (by rfl) T.vo iy (jB (QL ["source","target","amount","vessel"] (q9 3 [0]) rfl (qS (jM iI)) (cps 3 [0]) (qV (pv 1)) (fun _ _ _ _ _=>(QN (n:=3) K rfl (qW (kC (i:=0) (show List.Nodup (["source","target","amount","vessel"]:List Str) from by decide +kernel) rfl (.inl rfl)) (qW (kC (i:=1) (show List.Nodup (["source","target","amount","vessel"]:List Str) from by decide +kernel) rfl (.inl rfl)) (qW (kC (i:=2) (show List.Nodup (["source","target","amount","vessel"]:List Str) from by decide +kernel) rfl (.inl rfl)) JD))))) (fun _ _ _ _ _=>(JN (kI qQ (pv 0) (pv 3)))) (fun _ _ _ _ _=>(pv 2))) jE))),?_⟩
 try dsimp only [jV,jU]
 refine (jA rfl (⟨p,rfl,⟨_,so hP⟩,fun D hD=>?_⟩));have u0:=jJ hD (.lst []);refine dC (K:=K) (a:=p) (xs:=rs) (fun i σ Hi=>∃(c1 c2 c3:Option V),σ=[c1,c2,c3,some (.str s₁)]∧Hi D=some (.lst ((ZL (gR s₁) (qs.take i)).map V.int))∧Same H Hi)
  (v8 none none none (yE rfl jD u0)) (fun i σ Hi _ ⟨_,_,_,_,_,s⟩=>so (s _ _ hP)) ?_ ?_
 ·rintro i y σ Hi hy ⟨c1,c2,c3,rfl,hY,sm⟩;have hi:i<rs.length:=(ad.mp hy).1;obtain ⟨t,sS,sT,nN,rfl,hq,hT⟩:=hA.2 i y hy;have hat:=AF (gR s₁) qs i _ hq;have hal:=BQ (gR s₁) qs i;refine ⟨t,jA rfl (⟨SqT.of (sm _ _ hT),rfl,_,jA rfl (⟨_,jA rfl (⟨_,_,rfl,rfl,?_⟩)⟩)⟩)⟩;refine (jA rfl (⟨_,rfl,rfl,jA rfl (?_)⟩));rw [CT]
  by_cases c:(gR s₁) (sS,sT,nN)=true
  ·rw [if_pos c] at hat
   have c':=bu c;refine vL c' (jA rfl (⟨_,hY,yN (by rw [ae];omega),_,_,jA rfl (⟨?_,qI hD sm⟩)⟩));rw [jD,hat,aJ];rfl
  ·rw [if_neg c,br] at hat
   have c':¬_:=ik (gn.mpr c);refine qX c' ⟨_,_,jA rfl (⟨?_,sm⟩)⟩;rw [hY,hat]
 ·rintro σ Hi ⟨c1,c2,c3,rfl,hY,sm⟩;rw [hA.1,aL] at hY;exact ⟨D,jA rfl (⟨so hY,q Hi sm⟩)⟩
theorem wZ:jT 2 ["basin","pours","got"] iF:=jS
include T in
theorem IM (F:kH K "basin_after" iF f fd) (xac:Def P w K mg base 1 "given_by" ["vessel","pours"] [] (DB)):FnOk P w K mg base jK 2 f fd ["basin","pours"] (DD):=by
 refine F.ok2 wZ fun vs H Q E h=>?_
 refine gK h fun b p rs qs h=>?_
 refine eG h fun e_ hP hA hn q=>?_
 subst e_;refine ⟨rfl,fun _ _ _ _ hr=>?_⟩;refine ⟨_,(@jG _ _ _ _ _ (jX 2 wZ.nd (y6 (rZ rfl) (by rfl) T.vo iy (jB (QL ["source","target","amount"] (q9 3 []) rfl (qS (jM iF)) (cps 3 []) (qV (pv 1)) (fun _ _ _ _ _=>(QN (n:=3) K rfl (qW (kC (i:=0) (show List.Nodup (["source","target","amount"]:List Str) from by decide +kernel) rfl (.inl rfl)) (qW (kC (i:=1) (show List.Nodup (["source","target","amount"]:List Str) from by decide +kernel) rfl (.inl rfl)) (qW (kC (i:=2) (show List.Nodup (["source","target","amount"]:List Str) from by decide +kernel) rfl (.inl rfl)) JD))))) (fun _ _ _ _ _=>(JN (kI qQ (pv 1) j6))) (fun _ _ _ _ _=>(pv 2))) jE)))
   (jO (@jL _ _ _ _ _ _ _ _ JE (@jL _ _ _ _ _ _ _ _ kL (pv 0) (pv 2)) (jP xac hr rfl (jB j6 (jB (pv 1) jE)))))),?_⟩
 try dsimp only [jV,jU]
 refine (jA rfl (⟨p,rfl,⟨_,so hP⟩,fun D hD=>?_⟩));have u0:=jJ hD (.lst []);refine dC (K:=K) (a:=p) (xs:=rs) (fun i σ Hi=>∃(c1 c2 c3:Option V),σ=[c1,c2,c3]∧Hi D=some (.lst ((ZL (toS "basin") (qs.take i)).map V.int))∧Same H Hi)
  (v8 none none none (yE rfl jD u0)) (fun i σ Hi _ ⟨_,_,_,_,_,s⟩=>so (s _ _ hP)) ?_ ?_
 ·rintro i y σ Hi hy ⟨c1,c2,c3,rfl,hY,sm⟩;have hi:i<rs.length:=(ad.mp hy).1;obtain ⟨t,sS,sT,nN,rfl,hq,hT⟩:=hA.2 i y hy;have hat:=AF (toS "basin") qs i _ hq;have hal:=BQ (toS "basin") qs i;refine ⟨t,jA rfl (⟨SqT.of (sm _ _ hT),rfl,_,jA rfl (⟨_,jA rfl (⟨_,_,rfl,rfl,?_⟩)⟩)⟩)⟩;refine ⟨_,rfl,rfl,jA rfl (?_)⟩;rw [CT]
  by_cases c:(toS "basin") (sS,sT,nN)=true
  ·rw [if_pos c] at hat
   have c':=bu c;refine vL c' (jA rfl (⟨_,hY,yN (by rw [ae];omega),_,_,jA rfl (⟨?_,qI hD sm⟩)⟩));rw [jD,hat,aJ];rfl
  ·rw [if_neg c,br] at hat
   have c':¬_:=ik (gn.mpr c);refine qX c' ⟨_,_,jA rfl (⟨?_,sm⟩)⟩;rw [hY,hat]
 ·rintro σ Hi ⟨c1,c2,c3,rfl,hY,sm⟩;rw [hA.1,aL] at hY;refine ⟨D,jA rfl (⟨so hY,?_⟩)⟩;refine (jA rfl (jA rfl (j9 ((jA rfl (⟨"basin",v8 p rs qs (yZ rfl (sm _ _ hP) (hA.same sm) hn (fun H' s2=>⟨_,_,rfl,rfl,q H' (sm.trans s2)⟩))⟩))))))
theorem pT:jT 4 ["lock","full","basin","way","made_ready"] pD:=jS
include T in
theorem KN (F:kH K "passage" pD f fd) (zy:Def P w K mg base 3 "letting" ["lock","basin"] [] (fK (jF cP cB cU) zA)) (uw:Def P w K mg base 3 "filling" ["lock","basin"] [] (fK (jF cP cB cU) zX)) (va:Def P w K mg base 2 "basin_after" ["basin","pours"] [] (DD)):FnOk P w K mg base jK 4 f fd ["lock","full","basin","way"] (AQ (jF cP cB cU)):=by
 refine F.ok2 pT fun vs H Q E h=>?_
 refine gE h fun x kd n h₁ l room v b f w h=>?_
 refine q0 h fun e_ hx q=>?_
 subst e_;refine ⟨rfl,fun _ _ _ _ hr=>?_⟩;refine ⟨_,(@jG _ _ _ _ _ (kT (kI qQ (pv 3) j6) (@jG _ _ _ _ _ (jX 4 pT.nd (Q8 (yA (pv 1)) (jP zy hr rfl (jB (pv 0) (jB (pv 2) jE))) (qJ jE)))
   (jO (@jL _ _ _ _ _ _ _ _ ZU (pv 4) (jP uw hr rfl (jB (pv 0) (jB (jP va hr rfl (jB (pv 2) (jB (pv 4) jE))) jE)))))) kS)
   (@jG _ _ _ _ _ (jX 4 pT.nd (Q8 (yA (pv 1)) (qJ jE) (jP uw hr rfl (jB (pv 0) (jB (pv 2) jE)))))
   (jO (@jL _ _ _ _ _ _ _ _ ZU (pv 4) (jP zy hr rfl (jB (pv 0) (jB (jP va hr rfl (jB (pv 2) (jB (pv 4) jE))) jE))))))),?_⟩
 try dsimp only [jV,jU]
 cases w with
 |true =>
  refine ⟨_,rfl,rfl,jA rfl (vL rfl ?_)⟩;cases f with
  |true =>
   refine (jA rfl (jA rfl (kU (jA rfl (jA rfl (⟨x,kd,n,h₁,yD l room v b (yE rfl hx (fun m H1 rs s1 hm0 hm hA=>?_))⟩))))));have hl:=bO kd room v b;have hl2:=fJ kd room v (QU b (zA kd room v b));refine (jA rfl (jA rfl (jA rfl (jA rfl (⟨b,m,rs,jA rfl (⟨hm,hA,by rw [hA.1];omega,fun H2 s2=>?_⟩)⟩)))));refine ⟨x,kd,n,h₁,l,room,v,jA rfl (⟨(hx.same s1).same s2,fun z H3 rs3 s3 hz0 hz hA3=>?_⟩)⟩;refine ⟨m,z,_,_,rfl,rfl,s3 _ _ (s2 _ _ hm),hz,small (by rw [hA.1,hA3.1];omega),fun y hy0=>?_⟩;have s4:=jJ hy0 (.lst (rs++rs3));exact q y _ (rs++rs3) (((s1.trans s2).trans s3).trans s4) (((s1.trans s2).trans s3).free hy0) jD ((((hA.same s2).same s3).append hA3).same s4)
  |false =>
   refine (jA rfl (jA rfl (kY ⟨zz0,fun m hm0=>?_⟩)));have s1:=jJ hm0 (.lst []);have hm:upd H m (.lst []) m=some (.lst []):=jD;generalize upd H m (.lst [])=H1 at s1 hm ⊢;refine (jA rfl (jA rfl (jA rfl (jA rfl ((yD b m ([]) ([]) (yZ rfl hm PoursS.nil (by decide) (fun H2 s2=>?_))))))));rw [AG];refine ⟨x,kd,n,h₁,yD l room v b (yE rfl ((hx.same s1).same s2) (fun z H3 rs3 s3 hz0 hz hA3=>?_))⟩;refine ⟨m,z,_,_,rfl,rfl,s3 _ _ (s2 _ _ hm),hz,small (by rw [hA3.1];have:=fJ kd room v b;have:=bO kd room v b;show 0+_≤1000;omega),fun y hy0=>?_⟩;have s4:=jJ hy0 (.lst ([]++rs3));exact q y _ rs3 (((s1.trans s2).trans s3).trans s4) (((s1.trans s2).trans s3).free hy0) jD (hA3.same s4)
 |false =>
  refine ⟨_,rfl,rfl,jA rfl (qX UP ?_)⟩;cases f with
  |false =>
   refine (jA rfl (jA rfl (kY (jA rfl (jA rfl (⟨x,kd,n,h₁,yD l room v b (yE rfl hx (fun m H1 rs s1 hm0 hm hA=>?_))⟩))))));have hl:=fJ kd room v b;have hl2:=bO kd room v (QU b (zX kd room v b));refine (jA rfl (jA rfl (jA rfl (jA rfl (⟨b,m,rs,jA rfl (⟨hm,hA,by rw [hA.1];omega,fun H2 s2=>?_⟩)⟩)))));refine ⟨x,kd,n,h₁,l,room,v,jA rfl (⟨(hx.same s1).same s2,fun z H3 rs3 s3 hz0 hz hA3=>?_⟩)⟩;refine ⟨m,z,_,_,rfl,rfl,s3 _ _ (s2 _ _ hm),hz,small (by rw [hA.1,hA3.1];omega),fun y hy0=>?_⟩;have s4:=jJ hy0 (.lst (rs++rs3));exact q y _ (rs++rs3) (((s1.trans s2).trans s3).trans s4) (((s1.trans s2).trans s3).free hy0) jD ((((hA.same s2).same s3).append hA3).same s4)
  |true =>
   refine (jA rfl (jA rfl (kU ⟨zz0,fun m hm0=>?_⟩)));have s1:=jJ hm0 (.lst []);have hm:upd H m (.lst []) m=some (.lst []):=jD;generalize upd H m (.lst [])=H1 at s1 hm ⊢;refine (jA rfl (jA rfl (jA rfl (jA rfl ((yD b m ([]) ([]) (yZ rfl hm PoursS.nil (by decide) (fun H2 s2=>?_))))))));rw [AG];refine ⟨x,kd,n,h₁,yD l room v b (yE rfl ((hx.same s1).same s2) (fun z H3 rs3 s3 hz0 hz hA3=>?_))⟩;refine ⟨m,z,_,_,rfl,rfl,s3 _ _ (s2 _ _ hm),hz,small (by rw [hA3.1];have:=fJ kd room v b;have:=bO kd room v b;show 0+_≤1000;omega),fun y hy0=>?_⟩;have s4:=jJ hy0 (.lst ([]++rs3));exact q y _ rs3 (((s1.trans s2).trans s3).trans s4) (((s1.trans s2).trans s3).free hy0) jD (hA3.same s4)
theorem MH:jT 2 ["lock","side"] pL:=jS
include T in
theorem KY (F:kH K "step_ends" pL f fd) : FnOk P w K mg base jK 1 f fd ["lock","side"] (EN (jF cP cB cU)):=by
 refine F.ok2 MH fun vs H Q E h=>?_
 refine gL h fun y l b h=>?_
 refine q0 h fun e_ p0_ q=>?_
 subst e_;obtain ⟨y₂,e,dl,hl⟩:=p0_;refine ⟨rfl,fun _ _ _ _ hr=>?_⟩;refine ⟨_,(jO (Q8 (kI qQ (pv 1) j6) (qA (jB (j7 K (pv 0) rfl) (jB (j7 K (pv 0) rfl) jE))) (qA (jB (j7 K (pv 0) rfl) (jB (j7 K (pv 0) rfl) jE))))),?_⟩
 try dsimp only [jV,jU]
 cases e;refine ⟨_,rfl,rfl,jA rfl (?_)⟩;rw [E7];cases b with
 |true=>exact kU (jA rfl (j8 hl (T.cl l.kd) (T.vp l.kd) (dS l.kd _ _ _ _ _) ((jA rfl (j8 hl (T.cl l.kd) (T.zt l.kd) (dN l.kd _ _ _ _ _) (⟨zz2,fun t ht=>q t _ (jJ ht _) ht jD⟩))))))
 |false=>exact kY (jA rfl (j8 hl (T.cl l.kd) (T.zt l.kd) (dN l.kd _ _ _ _ _) ((jA rfl (j8 hl (T.cl l.kd) (T.vp l.kd) (dS l.kd _ _ _ _ _) (⟨zz2,fun t ht=>q t _ (jJ ht _) ht jD⟩))))))
theorem eV:jT 3 ["canal","start","steps","along","k","side","ends"] o6:=jS
include T in
theorem KB (F:kH K "linked" o6 f fd) (jq:Def P w K mg base 1 "step_ends" ["lock","side"] [] (EN (jF cP cB cU))):FnOk P w K mg base (vT P w) 2 f fd ["canal","start","steps"] (B5 K (jF cP cB cU) cR cN eL):=by
 refine F.okX2 eV fun vs H Q E h=>?_
 refine u4 h fun x st s₁ us ps D R L N h=>?_
 refine eF h fun e_ p0_ hst hP hlt h100 qv qe=>?_
 subst e_;obtain ⟨dx,rl,ll,nl,fs,rs,ls,ns,hx,hf,hrl,hll,hnl,hR,hL,hN,d1,d2,d3⟩:=p0_;refine ⟨rfl,fun _ _ _ _ hr=>?_⟩;refine ⟨_,(@jG _ _ _ _ _ (jX 3 eV.nd (qJ (jB (pv 1) jE)))
   (@jG _ _ _ _ _ (yK EW rfl (TY (pv 2)) (l9 rfl (qW (kC (i:=4) eV.nd rfl (.inl rfl)) (qW (kC (i:=5) eV.nd rfl (.inl rfl)) JD)))
    (@jG _ _ _ _ _ (jX 6 eV.nd (jP jq hr rfl (jB (jI (kM K) (j7 K (pv 0) rfl) (pv 4)) (jB (pv 5) jE))))
   (@jG _ _ _ _ _ (kT (kI zM (jI (jR K) (pv 6) jC) (jI (kM K) (pv 3) (QW QQ jC))) (@kX _ _ _ (sP rN rfl rfl T.vt T.vv (jB j6 jE))) kS)
   (@kX _ _ _ (JJ (QX bb bj bn QK (pv 3) (jB (jI (jR K) (pv 6) jC) jE)))))))
   (jO (pv 3)))),?_⟩
 try dsimp only [jV,jU]
 refine (jA rfl (⟨zz1,fun al hal0=>?_⟩));have s1:=jJ hal0 (.lst [V.int s₁]);refine ⟨_,rfl,st,rfl,⟨_,SqT.of (s1 _ _ hst)⟩,S5 (K:=K) (a:=st) (xs:=us) (fun i σ Hi=>∃c4 c5 c6:Option V,σ=[some (.ref x),some (.int s₁),some (.ref st),some (.ref al),c4,c5,c6]∧Hi al=some (.lst ((vK L s₁ (ps.take i)).map V.int))∧(∀(j:Nat) (p:Nat×Bool),j<i→ps[j]?=some p→(vK L s₁ ps)[j]?=some (vM L p).1)∧Same H Hi)
  (v8 none none none (y0 rfl jD (fun j p hj=>absurd hj (fv j)) s1)) (fun i σ Hi _ ⟨_,_,_,_,_,_,s⟩=>SqT.of (s _ _ hst)) ?_ ?_⟩
 ·rintro i v σ Hi hv ⟨c4,c5,c6,rfl,hal,hok,sm⟩;obtain ⟨⟨pk,pb⟩,hp,t,rfl,ht⟩:=hP.2 i v hv;have hpl:pk<L.length:=hlt _ (ai hp);have hi:i<ps.length:=(ad.mp hp).1;obtain ⟨l,hl'⟩:∃l,L[pk]?=some l:=⟨_,aa hpl⟩;obtain ⟨w,hw,y,rfl,dl,hl⟩:=hL.get hl';have hdl:(vK L s₁ (ps.take i)).length=i+1:=by rw [fP,db];omega
  obtain ⟨z,hz⟩:∃z,(vK L s₁ (ps.take i))[i]?=some z:=⟨_,aa (by omega)⟩;have hlast:vF ((vK L s₁ (ps.take i)).map V.int) (-1)=some (.int z):=atI_last (n:=i) (by rw [ae,hdl]) (by rw [av,hz];rfl);refine ⟨t,jA rfl (⟨SqT.of (sm _ _ ht),rfl,_,jA rfl (⟨_,_,rfl,rfl,?_⟩)⟩)⟩;refine (jA rfl (j8 ((sm _ _ hx)) (T.clN) (T.xb) (hf.2.1) ((jA rfl (qG (so (sm _ _ hll)) (qB hw) ((jA rfl ((v8 y l pb (yE rfl ⟨y,rfl,dl,sm _ _ hl⟩ (fun te He se hte0 hte=>?_)))))))))));have smE:=sm.trans se;have halE:=se _ _ hal;have ee:vM L (pk,pb)=(if pb then l.low else l.high,if pb then l.high else l.low):=by cases pb;exact bJ hl';exact bS hl'
  have hdue:(vK L s₁ ps)[i]?=some z:=by rw [TB (by omega)];exact hz
  refine (jA rfl (j3 (SqT.of hte) rfl ((jA rfl (jA rfl (qG (so halE) hlast (⟨rfl,jA rfl (?_)⟩)))))))
  by_cases h:(if pb then l.low else l.high)=z
  ·refine y9 (cp V.int h) ?_;refine (jA rfl (⟨.inl ⟨rfl,_,so halE⟩,jA rfl (j3 (SqT.of hte) rfl (⟨al,_,_,rfl,rfl,halE,yN (by rw [ae,hdl];omega),?_⟩))⟩));refine ⟨_,_,jA rfl (⟨?_,fun j p hj hpj=>?_,qI hal0 smE⟩)⟩
   ·rw [jD,aC,hp];show _=some (HO.lst ((vK L s₁ (ps.take i++[(pk,pb)])).map V.int));rw [rY,aJ,ee];rfl
   ·by_cases c:j=i
    ·subst c;rw [hp] at hpj;cases hpj;rw [hdue,ee,h]
    ·exact hok j p (by omega) hpj
  ·refine ZZ (fun e=>h (V.int.inj e)) ⟨by show 1≤sizeLine;decide,qe (fun ok=>h ?_) _ smE⟩;have:=ok i _ hp;rw [hdue,ee] at this;exact (aE this).symm
 rintro σ Hi ⟨c4,c5,c6,rfl,hal,hok,sm⟩;rw [hP.1,aL] at hal;exact (jA rfl (qv (fun j p hp=>hok j p (by rw [hP.1];exact (ad.mp hp).1) hp) al Hi sm hal0 hal))
theorem MJ:jT 2 ["way","place"] pM:=jS
include T in
theorem K0 (F:kH K "steps_to_do" pM f fd) : FnOk P w K mg base jK 1 f fd ["way","place"] (tX):=by
 refine F.ok2 MJ fun vs H Q E h=>?_
 refine gL h fun t y p h=>?_
 refine q0 h fun e_ p0_ q=>?_
 subst e_;obtain ⟨t₂,st,us,e,h1,h2,h3⟩:=p0_;refine ⟨rfl,fun _ _ _ _ hr=>?_⟩;refine ⟨_,(jO (@jL _ _ _ _ _ _ _ _ JE (kP K T.xf (jI (jR K) (pv 0) jC)) (pv 1))),?_⟩
 try dsimp only [jV,jU]
 cases e;refine (jA rfl (j3 (SqT.of h1) rfl (⟨st,jA rfl (⟨.inr (SqT.of h2),jA rfl (j9 (?_))⟩)⟩)));rw [h3.1];exact q
theorem MF:jT 3 ["canal","way","place"] pG:=jS
include T in
theorem KQ (F:kH K "reach_of" pG f fd) (zd:Def P w K mg base 1 "steps_to_do" ["way","place"] [] (tX)) (xaw:Def P w K mg base 2 "linked" ["canal","start","steps"] [] (rQ K (jF cP cB cU) cR cN)):FnOk P w K mg base jK 3 f fd ["canal","way","place"] (rP (jF cP cB cU) cR cN):=by
 refine F.ok2 MF fun vs H Q E h=>?_
 refine zB h fun x t y p D R L N h=>?_
 refine Q4 h fun e_ hc hwy ok hp q=>?_
 subst e_;refine ⟨rfl,fun _ _ _ _ hr=>?_⟩;refine ⟨_,(@jG _ _ _ _ _ (kT (kI qQ (jP zd hr rfl (jB (pv 1) (jB (pv 2) jE))) jC) (jO (fS (v:=.int (-1)) rfl T.uy ⟨_,rfl⟩)) kS)
   (jO (jI (kM K) (jP xaw hr rfl (j4 (pv 0) (jI (jR K) (pv 1) jC) (jI (jR K) (pv 1) jC))) (pv 2)))),?_⟩
 try dsimp only [jV,jU]
 obtain ⟨t₂,st,us,e,h1,h2,h3⟩:=id hwy;cases e;refine (jA rfl (jA rfl (⟨t,y,jA rfl (⟨hwy,rfl,jA rfl (?_)⟩)⟩)))
 by_cases h:p=y.2.length
 ·refine vL (cp V.int (by omega)) ?_;have:=q H (Same.refl _);rw [show vU L y p = -1 from if_pos h] at this;exact this
 ·refine qX (fun z=>h (by have:=V.int.inj z;omega)) ?_;have hle:=ok.le;refine (jA rfl (jA rfl (j3 (SqT.of h1) rfl ((jA rfl (j3 (SqT.of h1) rfl ((W0 x st y.1 us y.2 D R L N (gS rfl hc h2 h3 ok.lt (by omega) ok.ok (fun r H' s' hr0 hr=>?_))))))))));have hl:p<(vK L y.1 y.2).length:=by rw [fP];omega
  refine (jA rfl (qG (so hr) (zI hl) (?_)));have:=q H' s';rw [show vU L y p=(vK L y.1 y.2).getD p 0 from if_neg h] at this;exact this
theorem MB:jT 4 ["canal","ways","state","reach"] iL:=jS
include T in
theorem KD (F:kH K "lying" iL f fd) (zm:Def P w K mg base 3 "reach_of" ["canal","way","place"] [] (rP (jF cP cB cU) cR cN)):FnOk P w K mg base jK 4 f fd ["canal","ways","state","reach"] (C7 (jF cP cB cU) cR cN):=by
 refine F.ok2 MB fun vs H Q E h=>?_
 refine uP h fun x wl st r us ys d ms pl D R L N h=>?_
 refine cK h fun e_ hc hwl hA p3_ hfl q=>?_
 subst e_;obtain ⟨wt,pt,hst,hwt,hpt⟩:=p3_;refine ⟨rfl,fun _ _ _ _ hr=>?_⟩;refine ⟨_,(jO (QX bb PySem.F.slot_list_count PySem.F.type_list_count RD (QL ["way","place","canal"] (q9 2 [0]) rfl (qS (jM iL)) (cps 2 [0]) (DK (by rfl) T.wc (jB (pv 1) (jB (jI (jR K) (pv 2) jC) jE))) (fun _ _ _ _ _=>(QN (n:=2) K rfl (qW (kC (i:=0) (show List.Nodup (["way","place","canal"]:List Str) from by decide +kernel) rfl (.inl rfl)) (qW (kC (i:=1) (show List.Nodup (["way","place","canal"]:List Str) from by decide +kernel) rfl (.inl rfl)) JD)))) (fun _ _ _ _ _=>zF) (fun _ _ _ _ _=>(jP zm hr rfl (j4 (pv 2) (pv 0) (pv 1))))) (jB (pv 3) jE))),?_⟩
 try dsimp only [jV,jU]
 refine (jA rfl (jA rfl (j3 (SqT.of hst) rfl (⟨wl,pt,rfl,⟨_,so hwl⟩,⟨_,SqT.of hpt⟩,fun D₁ hD₁=>?_⟩))));refine xO (K:=K) (a1:=wl) (a2:=pt) (xs:=us) (ys:=pl.map fun (p:Nat)=>V.int (p:Int)) (fun i σ Hi=>∃c1 c2:Option V,σ=[c1,c2,some (.ref x)]∧Hi D₁=some (.lst (((JI L ys pl).take i).map V.int))∧Same H Hi)
  ⟨none,none,rfl,by rw [jD,take_zero];rfl,jJ hD₁ _⟩ (fun i σ Hi _ ⟨_,_,_,_,s⟩=>⟨so (s _ _ hwl),SqT.of (s _ _ hpt)⟩) (by rw [hA.1,ae,hfl.len]) ?_ ?_
 ·rintro i v z σ Hi T₁ hv hz ⟨c1,c2,rfl,hY,sm⟩ hT;obtain ⟨y,hy,hwy⟩:=hA.2 i v hv;have hi:i<ys.length:=(ad.mp hy).1;obtain ⟨t,st₂,us₂,rfl,hw1,hw2,hw3⟩:=id hwy;have hip:i<pl.length:=by rw [hfl.len];exact hi
  rw [av,aa hip] at hz;cases hz;have u:=jJ hT (.tup [V.ref t,V.int ((pl[i]:Nat):Int)]);have smu:=sm.trans u;have hwy2:=WyAt.same smu _ _ hwy;have hp:=hfl.le i y pl[i] hy (aa hip);have hg1:ys.getD i (0,[])=y:=by rw [af,hy];rfl
  have hg2:pl.getD i 0=pl[i]:=by rw [af,aa hip];rfl
  have h10:=hfl.n10;have hYu:=u _ _ hY;refine ⟨T₁,jA rfl (⟨SqT.of jD,rfl,_,jA rfl (⟨_,_,rfl,rfl,?_⟩)⟩)⟩;generalize upd Hi T₁ (.tup [V.ref t,V.int ((pl[i]:Nat):Int)])=Hj at u smu hwy2 hYu ⊢;refine yF (kU ?_);refine (jA rfl (jA rfl (jA rfl (⟨x,t,y,pl[i],yD D R L N (yH rfl (hc.same smu) hwy2 (hfl.ok y (ai hy)) hp (fun H' s'=>?_))⟩))));refine ⟨_,s' _ _ hYu,yN (by rw [ae,db];unfold JI;rw [ae,bg];omega),_,jA rfl (⟨?_,qI hD₁ (smu.trans s')⟩)⟩;rw [jD,aC,show (JI L ys pl)[i]?=some (vU L y pl[i]) by unfold JI;rw [av,cf hi,← hg1,← hg2];rfl,aJ];rfl
 rintro σ Hf ⟨c1,c2,rfl,hY,sm⟩;rw [hA.1,cu (by unfold JI;rw [ae,bg];exact ar _)] at hY;refine ⟨.inl ⟨rfl,_,so hY⟩,jA rfl (⟨D₁,_,_,rfl,rfl,hY,rfl,N1 _,?_⟩)⟩;have e:((JI L ys pl).map V.int).countP (fun z=>zD z (.int r))=(JI L ys pl).countP fun z=>decide (z=r):=by rw [countP_map];rfl
 rw [e];exact q Hf sm
theorem eY:jT 3 ["canal","state","weather","waters","sky","sun","rain"] cX:=jS
include T in
theorem KI (F:kH K "night_pours" cX f fd) (zj:MeD P w K mg base 2 cN "sky" ["self"] (Z4 (jF cP cB cU) cR cN gH)) (ze:Def P w K mg base 4 "with_spills" ["weirs","waters","pours"] [] (tG K)) (xo:MeD P w K mg base 2 cN "weirs" ["self"] (lF (jF cP cB cU) cR cN)):FnOk P w K mg base jK 5 f fd ["canal","state","weather"] (B4 K (jF cP cB cU) cR cN):=by
 refine F.ok2 eY fun vs H Q E h=>?_
 refine uQ h fun x t wl d ms ps us W D R L N h=>?_
 refine FK h fun e_ hc p1_ hwl hA hWR hms hR100 hL100 hTg q=>?_
 subst e_;obtain ⟨wt,pt,h1,h2,h3⟩:=p1_;refine ⟨rfl,fun _ _ _ _ hr=>?_⟩;refine ⟨_,(@jG _ _ _ _ _ (jX 3 eY.nd (jI (jR K) (pv 1) jC))
   (@jG _ _ _ _ _ (jX 4 eY.nd (ZJ zj hr (pv 0)))
   (@jG _ _ _ _ _ (J0 (i:=5) ["at","pair","sky","waters"] (q9 2 [4,3]) eY.nd rfl (.inl rfl) rfl (qS (jM cX)) (cps 2 [4,3]) (DL (by rfl) T.xj (jB (pv 2) jE)) (fun _ _ _ _ _=>(QN (n:=2) K rfl (qW (kC (i:=0) (show List.Nodup (["at","pair","sky","waters"]:List Str) from by decide +kernel) rfl (.inl rfl)) (qW (kC (i:=1) (show List.Nodup (["at","pair","sky","waters"]:List Str) from by decide +kernel) rfl (.inl rfl)) JD)))) (fun _ _ _ _ _=>zF) (fun _ _ _ _ _=>(qA (j4 (pv 0) (pv 2) (y6 (PJ rfl) (by rfl) T.ur PyProof.Rows.boot_min (jB (jI (jR K) (pv 1) jC) (jB (jI (jR K) (pv 3) (pv 0)) jE)))))))
   (@jG _ _ _ _ _ (J0 (i:=6) ["at","pair","sky"] (q9 2 [4]) eY.nd rfl (.inl rfl) rfl (qS (jM cX)) (cps 2 [4]) (DL (by rfl) T.xj (jB (pv 2) jE)) (fun _ _ _ _ _=>(QN (n:=2) K rfl (qW (kC (i:=0) (show List.Nodup (["at","pair","sky"]:List Str) from by decide +kernel) rfl (.inl rfl)) (qW (kC (i:=1) (show List.Nodup (["at","pair","sky"]:List Str) from by decide +kernel) rfl (.inl rfl)) JD)))) (fun _ _ _ _ _=>zF) (fun _ _ _ _ _=>(qA (j4 (pv 2) (pv 0) (jI (jR K) (pv 1) jC)))))
   (jO (jP ze hr rfl (j4 (ZJ xo hr (pv 0)) (pv 3) (cQ ["pour"] [] (qS (jM cX)) (qV (@jL _ _ _ _ _ _ _ _ ZU (pv 5) (pv 6))) (fun _ _ _ _ _=>(JN (kI zM (jI (jR K) (pv 0) jC) jC))) (fun _ _ _ _ _=>(pv 0)))))))))),?_⟩
 try dsimp only [jV,jU]
 have hc0:=hc;obtain ⟨dx,rl,ll,nl,fs,rs,ls,nv,hx,hf,hrl,hll,hnl,hR,hL,hN,d1,d2,d3⟩:=hc;obtain ⟨sk,hsk⟩:∃sk,sk=R.length+2*L.length+1:=⟨_,rfl⟩;have esk:gH R.length L.length=(sk:Int):=by unfold gH;omega
 refine (jA rfl (j3 (SqT.of h1) rfl (?_)));refine (jA rfl (⟨x,dx,jA rfl (⟨hx,hf.no (by decide +kernel) (by decide +kernel) (by decide +kernel),JA x D R L N (yE rfl hc0 (?_))⟩)⟩));rw [esk];refine (jA rfl (⟨wl,rfl,⟨_,so hwl⟩,fun D₁ hD₁=>?_⟩));refine xP (K:=K) (a:=wl) (xs:=us) (fun i σ Hi=>∃c1 c2:Option V,σ=[c1,c2,some (.int (sk:Int)),some (.ref wt)]∧∃ys:List V,Hi D₁=some (.lst ys)∧PoursH Hi ys ((cG sk ms W R.length).take i) ms.length∧Same H Hi) ⟨none,none,rfl,[],jD,PoursH.nil _ _,jJ hD₁ _⟩ (fun i σ Hi _ ⟨_,_,_,_,_,_,s⟩=>so (s _ _ hwl)) ?_ ?_
 ·rintro i v σ Hi T₁ hv ⟨c1,c2,rfl,ys,hY,hP,sm⟩ hT;have hi:i<us.length:=(ad.mp hv).1;rw [hA.1] at hi;obtain ⟨y,hy,t1,rfl,ht1⟩:=hA.2 i v hv;have u:=jJ hT (.tup [V.int (i:Int),V.ref t1]);have smu:=sm.trans u;have hYu:=u _ _ hY;refine ⟨T₁,jA rfl (⟨SqT.of jD,rfl,_,jA rfl (⟨_,_,rfl,rfl,?_⟩)⟩)⟩;generalize upd Hi T₁ (.tup [V.int (i:Int),V.ref t1])=Hj at u smu hYu ⊢;refine yF (kU ?_);refine (jA rfl (jA rfl (jA rfl (j3 (SqT.of (smu _ _ ht1)) rfl ((jA rfl (jA rfl (j3 (SqT.of (smu _ _ h2)) (zI (by omega)) (⟨_,jA rfl (?_)⟩)))))))))
  try dsimp only
  first|rw [← C1 hy]|rw [← PQ hy]
  refine ⟨zz3,fun tp htp=>?_⟩;have u2:=jJ htp (.tup [V.int (i:Int),V.int (sk:Int),V.int (eC ms W i)]);have hY2:=u2 _ _ hYu;have hlen:=hP.1;rw [db,sH] at hlen;refine ⟨ys,hY2,yN (by omega),_,jA rfl (⟨ys++[.ref tp],jD,?_,qI hD₁ (smu.trans u2)⟩)⟩;rw [OJ (by omega)];exact (((hP.same u).same u2).snoc jD (by omega) (by omega)).put hY2
 rintro σ H1 ⟨c1,c2,rfl,ys1,hY1,hP1,s1⟩;rw [hA.1,hWR,cu (by rw [sH];exact ar _)] at hP1;refine (jA rfl (⟨wl,rfl,⟨_,so (s1 _ _ hwl)⟩,fun D₂ hD₂=>?_⟩));refine xP (K:=K) (a:=wl) (xs:=us) (fun i σ Hi=>∃c1 c2:Option V,σ=[c1,c2,some (.int (sk:Int))]∧∃ys:List V,Hi D₂=some (.lst ys)∧PoursH Hi ys ((bX sk W R.length).take i) ms.length∧Same H1 Hi) ⟨none,none,rfl,[],jD,PoursH.nil _ _,jJ hD₂ _⟩ (fun i σ Hi _ ⟨_,_,_,_,_,_,s⟩=>so (s _ _ (s1 _ _ hwl))) ?_ ?_
 ·rintro i v σ Hi T₁ hv ⟨c1,c2,rfl,ys,hY,hP,sm⟩ hT;have hi:i<us.length:=(ad.mp hv).1;rw [hA.1] at hi;obtain ⟨y,hy,t1,rfl,ht1⟩:=hA.2 i v hv;have ht1:=s1 _ _ ht1;have u:=jJ hT (.tup [V.int (i:Int),V.ref t1]);have smu:=sm.trans u;have hYu:=u _ _ hY;refine ⟨T₁,jA rfl (⟨SqT.of jD,rfl,_,jA rfl (⟨_,_,rfl,rfl,?_⟩)⟩)⟩;generalize upd Hi T₁ (.tup [V.int (i:Int),V.ref t1])=Hj at u smu hYu ⊢;refine yF (kU ?_);refine (jA rfl (jA rfl (jA rfl (j3 (SqT.of (smu _ _ ht1)) rfl (?_)))));rw [show y.1=(W.getD i (0,0)).1 by rw [GB hy]];refine ⟨zz3,fun tp htp=>?_⟩;have u2:=jJ htp (.tup [V.int (sk:Int),V.int (i:Int),V.int (W.getD i (0,0)).1]);have hY2:=u2 _ _ hYu;have hlen:=hP.1;rw [db,rR] at hlen;refine ⟨ys,hY2,yN (by omega),_,jA rfl (⟨ys++[.ref tp],jD,?_,qI hD₂ (smu.trans u2)⟩)⟩;rw [NM (by omega)];exact (((hP.same u).same u2).snoc jD (by omega) (by omega)).put hY2
 rintro σ H2 ⟨c1',c2',rfl,ys2,hY2,hP2,s2⟩;rw [hA.1,hWR,cu (by rw [rR];exact ar _)] at hP2;have s12:=s1.trans s2;have hl1:=hP1.1;have hl2:=hP2.1;rw [sH] at hl1;rw [rR] at hl2;refine (jA rfl (⟨x,dx,jA rfl (⟨(s12 _ _ hx),hf.no (by decide +kernel) (by decide +kernel) (by decide +kernel),JA x D R L N (y0 rfl (hc0.same s12) hR100 (fun wq ws H3 s3 hwq0 hwq hW=>?_))⟩)⟩));have s13:=s12.trans s3;refine (jA rfl (jA rfl (jA rfl (⟨D₁,D₂,_,_,rfl,rfl,s3 _ _ (s2 _ _ hY1),s3 _ _ hY2,small (by omega),fun al hal=>?_⟩))));have s4:=jJ hal (.lst (ys1++ys2));have hal4:upd H3 al (.lst (ys1++ys2)) al=_:=jD;have hP4:PoursH (upd H3 al (.lst (ys1++ys2))) (ys1++ys2) (ZD sk ms W R.length) ms.length:=(((hP1.same s2).same s3).same s4).append ((hP2.same s3).same s4);have s14:=s13.trans s4;have hwq4:=s4 _ _ hwq;have hW4:=hW.mono (QAt.same s4);generalize upd H3 al (.lst (ys1++ys2))=H4 at s4 hal4 hP4 s14 hwq4 hW4 ⊢;refine ⟨al,rfl,⟨_,so hal4⟩,fun Df hDf=>?_⟩;refine zR (K:=K) (a:=al) (xs:=ys1++ys2) (caps:=[]) (fun i ys Hi=>PoursH Hi ys (((ZD sk ms W R.length).take i).filter vD) ms.length) hDf (so hal4) (PoursH.nil _ _) ?_ ?_
 ·rintro i v ys Hi hv hi hle sm hY hP;rw [ag] at hi;obtain ⟨a,s,tt,m,rfl,hq,hT,hs,ht⟩:=hP4.2 i v hv;have ef:((ZD sk ms W R.length).take (i+1)).filter vD=((ZD sk ms W R.length).take i).filter vD++[(s,tt,m)].filter vD:=by
   rw [aC,hq,aT];rfl
  refine (jA rfl (j3 (SqT.of (sm _ _ hT)) rfl (⟨rfl,jA rfl (?_)⟩)))
  by_cases hz:m=0
  ·refine y9 (cp V.int hz) (J3 sm hY hle (Same.refl _) ?_);rw [ef,aP,if_neg (by unfold vD;rw [aK (show m=0 from hz)];decide)];show PoursH Hi ys (_++[]) _;rw [br];exact hP
  refine ZZ (fun e=>hz (V.int.inj e)) (jA rfl (vY hDf sm hY hle (by omega) (Same.refl _) ?_));rw [ef,aP,if_pos (by unfold vD;rw [aI (show ¬m=0 from hz)];rfl)];exact (hP.snoc (sm _ _ hT) hs ht).put hY
 rintro ys H5 s5 hY5 hle5 hP5;rw [hP4.1,cu (ar _)] at hP5;have s15:=s14.trans s5;refine ⟨wq,wt,Df,ws,ys,qD R L.length,ms,jA rfl (⟨pZ hTg (hW4.mono (QAt.same s5)) (s5 _ _ hwq4) (.inr (SqT.of (s15 _ _ h2))) hms hR100 hL100,hY5,hP5,?_,fun r H' gs zs s' hr0 hr hP' hS=>?_⟩)⟩
 ·rw [ag] at hle5;omega
 subst hsk;exact q r H' gs zs (s15.trans s') (s15.free hr0) hr hP' hS
theorem L4:jT 4 ["canal","ways","state","reach"] oY:=jS
include T in
theorem IS (F:kH K "has_no_berth" oY f fd) (xaJ:Def P w K mg base 4 "lying" ["canal","ways","state","reach"] [] (C7 (jF cP cB cU) cR cN)):FnOk P w K mg base jK 5 f fd ["canal","ways","state","reach"] (AR (jF cP cB cU) cR cN):=by
 refine F.ok2 L4 fun vs H Q E h=>?_
 refine eB h fun x wl st b r us ys d ms pl D R L N h=>?_
 refine eH h fun e_ hG hrc q=>?_
 subst e_;refine ⟨rfl,fun _ _ _ _ hr=>?_⟩;refine ⟨_,(jO (z9 U4 (jP xaJ hr rfl (yG (pv 0) (pv 1) (pv 2) (pv 3))) (j7 K (jI (kM K) (j7 K (pv 0) rfl) (pv 3)) rfl))),?_⟩
 try dsimp only [jV,jU]
 obtain ⟨hc,hdr,hwl,hA,hst,hfl,hml⟩:=id hG;have hc0:=hc;obtain ⟨dx,rl,ll,nl,fs,rs,ls,nv,hx,hf,hrl,hll,hnl,hR,hL,hN,d1,d2,d3⟩:=hc;obtain ⟨z,hz,yr,rfl,dy,gs,hyr,hg⟩:=hR.get hrc;refine (jA rfl (jA rfl (jA rfl (jA rfl ((u5 x wl st _ us ys d ms pl D R L N (bD rfl hc0 hwl hA hst hfl (fun H3 s3=>?_))))))));exact (jA rfl (j8 ((s3 _ _ hx)) (T.clN) (T.xg) (hf.1) ((jA rfl (qG (so (s3 _ _ hrl)) (qB hz) (j8 ((s3 _ _ hyr)) (T.clR) (T.xv) (hg.2.2.2.1) (j9 (q H3 s3))))))))
theorem MC:jT 2 ["way","place"] o9:=jS
include T in
theorem KH (F:kH K "next_step" o9 f fd) : FnOk P w K mg base jK 1 f fd ["way","place"] (EK):=by
 refine F.ok2 MC fun vs H Q E h=>?_
 refine gK h fun t y p s₁ h=>?_
 refine eH h fun e_ p0_ hs q=>?_
 subst e_;obtain ⟨t₂,st₂,vs₂,e,hw1,hw2,hw3⟩:=p0_;refine ⟨rfl,fun _ _ _ _ hr=>?_⟩;refine ⟨_,(jO (jI (jR K) (jI (jR K) (pv 0) jC) (pv 1))),?_⟩
 try dsimp only [jV,jU]
 cases e;obtain ⟨v3,hv3,hP3⟩:=hw3.get hs;exact (jA rfl (j3 (SqT.of hw1) rfl ((jA rfl (j3 (SqT.of hw2) (qB hv3) (q _ hP3))))))
theorem MD:jT 2 ["places","boat"] iM:=jS
include T in
theorem KJ (F:kH K "one_step_on" iM f fd) : FnOk P w K mg base jK 1 f fd ["places","boat"] (BW):=by
 refine F.ok2 MD fun vs H Q E h=>?_
 refine gL h fun pt pl b h=>?_
 refine eH h fun e_ hpt h100 q=>?_
 subst e_;refine ⟨rfl,fun _ _ _ _ hr=>?_⟩;refine ⟨_,(jO (zE (fA K) (by rfl) T.xr cm (jB (QL ["at","place","boat"] (q9 2 [1]) rfl (qS (jM iM)) (cps 2 [1]) (PY (by rfl) T.xj (jB (pv 0) jE)) (fun _ _ _ _ _=>(QN (n:=2) K rfl (qW (kC (i:=0) (show List.Nodup (["at","place","boat"]:List Str) from by decide +kernel) rfl (.inl rfl)) (qW (kC (i:=1) (show List.Nodup (["at","place","boat"]:List Str) from by decide +kernel) rfl (.inl rfl)) JD)))) (fun _ _ _ _ _=>zF) (fun _ _ _ _ _=>(Q8 (kI qQ (pv 0) (pv 2)) (@jL _ _ _ _ _ _ _ _ kL (pv 1) jC) (pv 1)))) jE))),?_⟩
 try dsimp only [jV,jU]
 refine (jA rfl (⟨pt,rfl,⟨_,SqT.of hpt⟩,fun D₁ hD₁=>?_⟩));refine M1 (K:=K) (a:=pt) (xs:=pl.map fun (p:Nat)=>V.int (p:Int)) (fun i σ Hi=>∃c1 c2:Option V,σ=[c1,c2,some (.int (b:Int))]∧Hi D₁=some (.lst (((JP pl b).take i).map fun (p:Nat)=>V.int (p:Int)))∧Same H Hi) ⟨none,none,rfl,jD,jJ hD₁ _⟩ (fun i σ Hi _ ⟨_,_,_,_,s⟩=>SqT.of (s _ _ hpt)) ?_ ?_
 ·rintro i v σ Hi T₁ hv ⟨c1,c2,rfl,hY,sm⟩ hT;have hi:i<pl.length:=by have:=(ad.mp hv).1;rw [ae] at this;exact this
  rw [av,aa hi] at hv;cases hv;have u:=jJ hT (.tup [V.int (i:Int),V.int ((pl[i]:Nat):Int)]);have smu:=sm.trans u;have hYu:=u _ _ hY;refine ⟨T₁,jA rfl (⟨SqT.of jD,rfl,_,jA rfl (⟨_,_,rfl,rfl,?_⟩)⟩)⟩;generalize upd Hi T₁ (.tup [V.int (i:Int),V.int ((pl[i]:Nat):Int)])=Hj at u smu hYu ⊢;have eg:pl.getD i 0=pl[i]:=by rw [af,aa hi];rfl
  refine yF (kU ?_);refine (jA rfl (⟨_,rfl,rfl,jA rfl (?_)⟩))
  by_cases h:i=b
  ·refine vL (by rw [h]) (jA rfl (j9 (⟨_,hYu,yN (by rw [ae,db,fE];omega),_,jA rfl (⟨?_,qI hD₁ smu⟩)⟩)));rw [jD,xI hi,if_pos h,eg,aJ];rfl
  ·refine qX (fun e=>h (by have:=V.int.inj e;omega)) (jA rfl (⟨_,hYu,yN (by rw [ae,db,fE];omega),_,jA rfl (⟨?_,qI hD₁ smu⟩)⟩));rw [jD,xI hi,if_neg h,eg,aJ];rfl
 rintro σ Hf ⟨c1,c2,rfl,hY,sm⟩;rw [ae,cu (by rw [fE];exact ar _)] at hY;refine ⟨D₁,jA rfl (.inl ⟨so hY,fun r hr0=>?_⟩)⟩;exact q r _ (sm.trans (jJ hr0 _)) (sm.free hr0) jD
theorem L0:jT 3 ["state","deed","waters"] oV:=jS
include T in
theorem IO (F:kH K "counted_on" oV f fd) (ul:Def P w K mg base 1 "one_step_on" ["places","boat"] [] (BW)):FnOk P w K mg base jK 2 f fd ["state","deed","waters"] (AT):=by
 refine F.ok2 L0 fun vs H Q E h=>?_
 refine zB h fun st dd wo de d ms mo pl h=>?_
 refine Q4 h fun e_ hst hdd hwo h100 q=>?_
 subst e_;refine ⟨rfl,fun _ _ _ _ hr=>?_⟩;refine ⟨_,(@jG _ _ _ _ _ (kT (kI qQ (jI (jR K) (pv 1) jC) j6) (jO (qA (j4 (@jL _ _ _ _ _ _ _ _ kL (jI (jR K) (pv 0) jC) jC) (pv 2) (jI (jR K) (pv 0) jC)))) kS)
   (@jG _ _ _ _ _ (kT (kI qQ (jI (jR K) (pv 1) jC) j6) (jO (qA (j4 (jI (jR K) (pv 0) jC) (pv 2) (jP ul hr rfl (jB (jI (jR K) (pv 0) jC) (jB (jI (jR K) (pv 1) jC) jE)))))) kS)
   (jO (qA (j4 (jI (jR K) (pv 0) jC) (pv 2) (jI (jR K) (pv 0) jC)))))),?_⟩
 try dsimp only [jV,jU]
 obtain ⟨wt,pt,hst1,hwt,hpt⟩:=id hst;cases de with
 |night =>
  refine (jA rfl (j3 (SqT.of hdd) rfl (⟨rfl,jA rfl (vL rfl ?_)⟩)));refine (jA rfl (j3 (SqT.of hst1) rfl (j9 ((jA rfl (jA rfl (j3 (SqT.of hst1) rfl (⟨zz3,fun t3 ht3=>?_⟩))))))));have s3:=jJ ht3 (.tup [V.int (d+1),V.ref wo,V.ref pt]);exact q t3 _ s3 ht3 ⟨wo,pt,jD,s3 _ _ hwo,s3 _ _ hpt⟩
 |pass b =>
  refine (jA rfl (j3 (SqT.of hdd) rfl (⟨rfl,jA rfl (qX (fun e=>absurd (V.str.inj e) (by decide +kernel)) ?_)⟩)));refine (jA rfl (j3 (SqT.of hdd) rfl (⟨rfl,jA rfl (vL rfl ?_)⟩)));refine (jA rfl (j3 (SqT.of hst1) rfl ((jA rfl (jA rfl (j3 (SqT.of hst1) rfl ((jA rfl (j3 (SqT.of hdd) rfl ((v8 pt pl b (y0 rfl hpt h100 (fun po H3 s3 hpo0 hpo=>?_)))))))))))));refine ⟨zz3,fun t3 ht3=>?_⟩;have s4:=jJ ht3 (.tup [V.int d,V.ref wo,V.ref po]);exact q t3 _ (s3.trans s4) (s3.free ht3) ⟨wo,po,jD,s4 _ _ (s3 _ _ hwo),s4 _ _ hpo⟩
 |«let» k =>
  refine (jA rfl (j3 (SqT.of hdd) rfl (⟨rfl,jA rfl (qX (fun e=>absurd (V.str.inj e) (by decide +kernel)) ?_)⟩)));refine (jA rfl (j3 (SqT.of hdd) rfl (⟨rfl,jA rfl (qX (fun e=>absurd (V.str.inj e) (by decide +kernel)) ?_)⟩)));refine (jA rfl (j3 (SqT.of hst1) rfl ((jA rfl (jA rfl (j3 (SqT.of hst1) rfl (⟨zz3,fun t3 ht3=>?_⟩)))))));have s3:=jJ ht3 (.tup [V.int d,V.ref wo,V.ref pt]);exact q t3 _ s3 ht3 ⟨wo,pt,jD,s3 _ _ hwo,s3 _ _ hpt⟩
theorem pR:jT 3 ["canal","k","named","lock","vessel"] iG:=jS
include T in
theorem IN (F:kH K "by_number" iG f fd) (xp:MeD P w K mg base 1 cN "basin" ["self","k"] (bW (jF cP cB cU) cR cN zC)) (xw:MeD P w K mg base 1 cN "chamber" ["self","k"] (bW (jF cP cB cU) cR cN JT)):FnOk P w K mg base jK 2 f fd ["canal","k","named"] (tM (jF cP cB cU) cR cN):=by
 refine F.ok2 pR fun vs H Q E h=>?_
 refine gE h fun x p k l rp ps D R L N h=>?_
 refine FW h fun e_ hc hl' hg hp hP hok h10 q=>?_
 subst e_;refine ⟨rfl,fun _ _ _ _ hr=>?_⟩;have hu1:=d9 hr;refine ⟨_,(@jG _ _ _ _ _ (jX 3 pR.nd (jI (kM K) (j7 K (pv 0) rfl) (pv 1)))
   (@jG _ _ _ _ _ (jX 4 pR.nd (SK (fM j6 (j7 K (pv 3) rfl) (fM j6 (j7 K (pv 3) rfl) (fM j6 (cH xw hr (pv 0) (jB (pv 1) jE)) (fM j6 (cH xp hr (pv 0) (jB (pv 1) jE)) DI)))) rfl rfl (cons_ne_nil _ _) (by decide)))
   (jO (QL ["source","target","amount","vessel"] (q9 3 [4]) rfl (qS (jM iG)) (cps 3 [4]) (qV (pv 2)) (fun _ _ _ _ _=>(QN (n:=3) K rfl (qW (kC (i:=0) (show List.Nodup (["source","target","amount","vessel"]:List Str) from by decide +kernel) rfl (.inl rfl)) (qW (kC (i:=1) (show List.Nodup (["source","target","amount","vessel"]:List Str) from by decide +kernel) rfl (.inl rfl)) (qW (kC (i:=2) (show List.Nodup (["source","target","amount","vessel"]:List Str) from by decide +kernel) rfl (.inl rfl)) JD))))) (fun _ _ _ _ _=>zF) (fun _ _ _ _ _=>(qA (j4 (DN hu1 (pv 3) (pv 0) (fun _ _=>rfl)) (DN hu1 (pv 3) (pv 1) (fun _ _=>rfl)) (pv 2)))))))),?_⟩
 try dsimp only [jV,jU]
 have hc0:=hc;obtain ⟨dx,rl,ll,nl,fs,rs,ls,nv,hx,hf,hrl,hll,hnl,hR,hL,hN,d1,d2,d3⟩:=hc;obtain ⟨v,hv,y,rfl,dl,hl⟩:=hL.get hl';have hkL:k<L.length:=(ad.mp hl').1;refine (jA rfl (j8 hx (T.clN) (T.xb) (hf.2.1) ((jA rfl (qG (so hll) (qB hv) (?_))))));refine fun w hw0=>?_
 have s0:=jJ hw0 (.dK []);refine (jA rfl (j8 ((s0 _ _ hl)) (T.cl l.kd) (T.zt l.kd) (dN l.kd _ _ _ _ _) ((jA rfl (j8 ((s0 _ _ hl)) (T.cl l.kd) (T.vp l.kd) (dS l.kd _ _ _ _ _) ((jA rfl (⟨x,dx,jA rfl (⟨(s0 _ _ hx),hf.no (by decide +kernel) (by decide +kernel) (by decide +kernel),jA rfl (⟨x,D,R,L,N,jA rfl (⟨hc0.same s0,jA rfl (⟨x,dx,jA rfl (⟨(s0 _ _ hx),hf.no (by decide +kernel) (by decide +kernel) (by decide +kernel),jA rfl (⟨x,D,R,L,N,jA rfl (⟨hc0.same s0,?_⟩)⟩)⟩)⟩)⟩)⟩)⟩)⟩))))))));refine ⟨jD,[(.inr "high",.int l.high),(.inr "low",.int l.low),(.inr "chamber",.int (JT R.length L.length (k:Int))),(.inr "basin",.int (zC R.length L.length (k:Int)))],rfl,(by show 4≤15;decide),?_⟩;rw [T8];have s1:Same H (upd (upd H w (.dK [])) w (.dK (d4 (.int l.high) (.int l.low) (.int (JT R.length L.length (k:Int))) (.int (zC R.length L.length (k:Int)))))):=qI hw0 s0;have hw:upd (upd H w (.dK [])) w (.dK (d4 (.int l.high) (.int l.low) (.int (JT R.length L.length (k:Int))) (.int (zC R.length L.length (k:Int))))) w=_:=jD;generalize upd (upd H w (.dK [])) w (.dK (d4 (.int l.high) (.int l.low) (.int (JT R.length L.length (k:Int))) (.int (zC R.length L.length (k:Int)))))=H1 at s1 hw ⊢;have hdg:∀(Hi:Hp) (s:Str),Same H1 Hi→okW s→DGet Hi w (.str s) (some (.int ((JF R.length L.length k l s:Nat):Int))):=fun Hi s sm hs=>by
  obtain ⟨e1,e2,e3,e4⟩:=VM (sm _ _ hw);obtain ⟨g1,g2,g3,g4,_⟩:=hg;cases hs
  ·rw [BT,show ((l.high.toNat:Nat):Int)=l.high by omega];exact e1
  ·rw [CZ,show ((l.low.toNat:Nat):Int)=l.low by omega];exact e2
  ·rw [AI,show ((R.length+k:Nat):Int)=JT R.length L.length (k:Int) by unfold JT;omega];exact e3
  ·rw [AJ,show ((R.length+L.length+k:Nat):Int)=zC R.length L.length (k:Int) by unfold zC;omega];exact e4
 refine (jA rfl (⟨p,rfl,⟨_,so (s1 _ _ hp)⟩,fun D₁ hD₁=>?_⟩));refine dC (K:=K) (a:=p) (xs:=rp) (fun i σ Hi=>∃(c1 c2 c3:Option V) (zs:List V),σ=[c1,c2,c3,some (.ref w)]∧Hi D₁=some (.lst zs)∧PoursH Hi zs ((ps.take i).map (mX R.length L.length k l)) (R.length+2*L.length+2)∧Same H1 Hi)
  (yD none none none ([]) (y0 rfl jD (PoursH.nil _ _) (jJ hD₁ _))) (fun i σ Hi _ ⟨_,_,_,_,_,_,_,s⟩=>so (s _ _ (s1 _ _ hp))) ?_ ?_
 ·rintro i v σ Hi hv ⟨c1,c2,c3,zs,rfl,hY,hA,sm⟩;have hi:i<rp.length:=(ad.mp hv).1;rw [hP.1] at hi;obtain ⟨t,sS,sT,nN,rfl,hps,hT⟩:=hP.2 i v hv;obtain ⟨o1,o2⟩:=hok _ (ai hps);have hlz:zs.length≤i:=by rw [hA.1,ae];exact gw _ _
  refine ⟨t,jA rfl (⟨SqT.of (sm _ _ (s1 _ _ hT)),rfl,_,jA rfl (⟨_,jA rfl (⟨_,_,rfl,rfl,?_⟩)⟩)⟩)⟩;refine yF (kU ?_);refine (jA rfl (jA rfl (⟨w,jA rfl (⟨hdg Hi _ sm o1,jA rfl (jA rfl (⟨w,jA rfl (⟨hdg Hi _ sm o2,jA rfl (⟨zz3,fun tp htp=>?_⟩)⟩)⟩))⟩)⟩)));have u:=jJ htp (.tup [V.int ((JF R.length L.length k l sS:Nat):Int),V.int ((JF R.length L.length k l sT:Nat):Int),V.int nN]);refine ⟨zs,u _ _ hY,yN (by omega),_,_,_,zs++[.ref tp],rfl,jD,?_,qI hD₁ (sm.trans u)⟩;rw [aC,hps,aJ];exact ((hA.same u).snoc jD (EF o1 hg hkL) (EF o2 hg hkL)).put (u _ _ hY)
 rintro σ Hf ⟨c1,c2,c3,zs,rfl,hY,hA,sm⟩;rw [hP.1,aL] at hA;exact q D₁ Hf zs (s1.trans sm) (s1.free hD₁) hY hA
theorem iT:jT 4 ["canal","ways","state","boat","step","k","basin"] pC:=jS
include T in
theorem KM (F:kH K "pass_pours" pC f fd) (jr:Def P w K mg base 1 "next_step" ["way","place"] [] (EK)) (xp:MeD P w K mg base 1 cN "basin" ["self","k"] (bW (jF cP cB cU) cR cN zC)) (zw:Def P w K mg base 2 "by_number" ["canal","k","named"] [] (tM (jF cP cB cU) cR cN)) (xaq:Def P w K mg base 4 "passage" ["lock","full","basin","way"] [] (AQ (jF cP cB cU))) (zf:MeD P w K mg base 2 cN "full" ["self","waters","k"] (tK (jF cP cB cU) cR cN)):FnOk P w K mg base jK 6 f fd ["canal","ways","state","boat"] (tJ (jF cP cB cU) cR cN):=by
 refine F.ok2 iT fun vs H Q E h=>?_
 refine VJ h fun x wl st b us ys y p s₁ d ms pl D R L N h=>?_
 refine Q4 h fun e_ hG hy hpp hs q=>?_
 subst e_;refine ⟨rfl,fun _ _ _ _ hr=>?_⟩;refine ⟨_,(@jG _ _ _ _ _ (jX 4 iT.nd (jP jr hr rfl (jB (jI (kM K) (pv 1) (pv 3)) (jB (jI (jR K) (jI (jR K) (pv 2) jC) (pv 3)) jE))))
   (@jG _ _ _ _ _ (jX 5 iT.nd (jI (jR K) (pv 4) jC))
   (@jG _ _ _ _ _ (jX 6 iT.nd (jI (jR K) (jI (jR K) (pv 2) jC) (cH xp hr (pv 0) (jB (pv 5) jE))))
   (jO (jP zw hr rfl (j4 (pv 0) (pv 5) (jP xaq hr rfl (yG (jI (kM K) (j7 K (pv 0) rfl) (pv 5)) (cH zf hr (pv 0) (jB (jI (jR K) (pv 2) jC) (jB (pv 5) jE))) (pv 6) (jI (jR K) (pv 4) jC))))))))),?_⟩
 try dsimp only [jV,jU]
 obtain ⟨hc,hdr,hwl,hA,⟨wt,pt,hst1,hwt,hpt⟩,hfl,hml⟩:=id hG;have hc0:=hc;obtain ⟨dx,rl,ll,nl,fs,rs,ls,nv,hx,hf,hrl,hll,hnl,hR,hL,hN,d1,d2,d3⟩:=hc;obtain ⟨v,hvy,t,st₂,vs₂,rfl,hw1,hw2,hw3⟩:=hA.get hy;have hyok:=hfl.ok y (ai hy);have hkL:=hyok.lt s₁ (ai hs);obtain ⟨l,hl'⟩:∃l,L[s₁.1]?=some l:=⟨_,aa hkL⟩;obtain ⟨v4,hv4,y4,rfl,dl,hl⟩:=hL.get hl';have hgd:=hdr.lock _ _ hl';have ebas:zC R.length L.length (s₁.1:Int)=((R.length+L.length+s₁.1:Nat):Int):=by unfold zC;omega
 have hat:vF (ms.map V.int) (zC R.length L.length (s₁.1:Int))=some (.int (ms.getD (R.length+L.length+s₁.1) 0)):=by rw [ebas];exact zI (by omega)
 refine (jA rfl (jA rfl (⟨wl,_,_,_,rfl,rfl,so hwl,qB hvy,jA rfl (⟨st,_,_,_,rfl,rfl,SqT.of hst1,rfl,jA rfl (⟨pt,_,_,_,rfl,rfl,SqT.of hpt,qB (v:=.int (p:Int)) (by rw [av,hpp];rfl),yD t y p s₁ (y0 rfl (v8 t st₂ vs₂ (y0 rfl hw1 hw2 hw3)) hs (fun v3 ⟨t3,e3,ht3⟩=>?_))⟩)⟩)⟩)));subst e3;refine (jA rfl (⟨t3,_,_,_,rfl,rfl,SqT.of ht3,rfl,?_⟩));refine (jA rfl (⟨st,_,_,_,rfl,rfl,SqT.of hst1,rfl,jA rfl (⟨x,dx,jA rfl (⟨hx,hf.no (by decide +kernel) (by decide +kernel) (by decide +kernel),jA rfl (⟨x,D,R,L,N,jA rfl (⟨hc0,wt,_,_,_,rfl,rfl,SqT.of hwt,hat,?_⟩)⟩)⟩)⟩)⟩));refine (jA rfl (jA rfl (jA rfl (⟨x,cN,dx,_,jA rfl (⟨hx,T.clN,T.xb,hf.2.1,jA rfl (⟨ll,_,_,_,rfl,rfl,so hll,qB hv4,jA rfl (⟨x,dx,jA rfl (⟨hx,hf.no (by decide +kernel) (by decide +kernel) (by decide +kernel),jA rfl (⟨st,_,_,_,rfl,rfl,SqT.of hst1,rfl,jA rfl ((QF x wt D R L N ms s₁.1 (yZ rfl hc0 hwt (by omega) (jA rfl (jA rfl (⟨t3,_,_,_,rfl,rfl,SqT.of ht3,rfl,y4,l.kd,_,_,_,l.room,l.extra,_,_,s₁.2,(by rw [UO];rfl),⟨dl,hl⟩,fun r H1 rs s1 hr0 hr hP=>?_⟩))))))⟩)⟩)⟩)⟩)⟩)⟩))));refine (eE x r s₁.1 l rs _ D R L N (wN rfl (hc0.same s1) hl' hgd hr hP (P0 _ _ _ _ _ _) (aG (AZ _ _ _ _ _ _) (by decide)) (fun r2 H2 zs s2 hr20 hr2 hP2=>?_)));refine q r2 H2 zs (s1.trans s2) (s1.free hr20) hr2 ?_;unfold QY gD;rw [hl',hml];exact hP2
theorem L9:jT 3 ["canal","state","k"] o5:=jS
include T in
theorem IZ (F:kH K "let_pours" o5 f fd) (zw:Def P w K mg base 2 "by_number" ["canal","k","named"] [] (tM (jF cP cB cU) cR cN)) (zy:Def P w K mg base 3 "letting" ["lock","basin"] [] (fK (jF cP cB cU) zA)) (xp:MeD P w K mg base 1 cN "basin" ["self","k"] (bW (jF cP cB cU) cR cN zC)):FnOk P w K mg base jK 4 f fd ["canal","state","k"] (DA (jF cP cB cU) cR cN):=by
 refine F.ok2 L9 fun vs H Q E h=>?_
 refine uP h fun x wl st k us ys d ms pl D R L N h=>?_
 refine eH h fun e_ hG hkL q=>?_
 subst e_;refine ⟨rfl,fun _ _ _ _ hr=>?_⟩;refine ⟨_,(jO (jP zw hr rfl (j4 (pv 0) (pv 2) (jP zy hr rfl (jB (jI (kM K) (j7 K (pv 0) rfl) (pv 2)) (jB (jI (jR K) (jI (jR K) (pv 1) jC) (cH xp hr (pv 0) (jB (pv 2) jE))) jE)))))),?_⟩
 try dsimp only [jV,jU]
 obtain ⟨hc,hdr,hwl,hA,⟨wt,pt,hst1,hwt,hpt⟩,hfl,hml⟩:=id hG;have hc0:=hc;obtain ⟨dx,rl,ll,nl,fs,rs,ls,nv,hx,hf,hrl,hll,hnl,hR,hL,hN,d1,d2,d3⟩:=hc;obtain ⟨l,hl'⟩:∃l,L[k]?=some l:=⟨_,aa hkL⟩;obtain ⟨v4,hv4,y4,rfl,dl,hl⟩:=hL.get hl';have hgd:=hdr.lock _ _ hl';have hat:vF (ms.map V.int) (zC R.length L.length (k:Int))=some (.int (ms.getD (R.length+L.length+k) 0)):=by
  rw [show zC R.length L.length (k:Int)=((R.length+L.length+k:Nat):Int) by unfold zC;omega];exact zI (by omega)
 refine (jA rfl (jA rfl (jA rfl (j8 hx (T.clN) (T.xb) (hf.2.1) ((jA rfl (qG (so hll) (qB hv4) ((jA rfl (j3 (SqT.of hst1) rfl ((jA rfl (⟨x,dx,jA rfl (⟨hx,hf.no (by decide +kernel) (by decide +kernel) (by decide +kernel),jA rfl (⟨x,D,R,L,N,jA rfl (⟨hc0,j3 (SqT.of hwt) hat (⟨y4,l.kd,_,_,_,l.room,l.extra,jA rfl (⟨⟨dl,hl⟩,fun r H1 rs s1 hr0 hr hP=>?_⟩)⟩)⟩)⟩)⟩)⟩)))))))))))));refine (eE x r k l rs _ D R L N (wN rfl (hc0.same s1) hl' hgd hr hP (lS _ _ _ _) (aG (bO _ _ _ _) (by decide)) (fun r2 H2 zs s2 hr20 hr2 hP2=>?_)));refine q r2 H2 zs (s1.trans s2) (s1.free hr20) hr2 ?_;unfold gJ;rw [hl',hml];exact hP2
theorem L5:jT 3 ["canal","waters","vessel"] oZ:=jS
include T in
theorem IT (F:kH K "is_below_least" oZ f fd) : FnOk P w K mg base jK 1 f fd ["canal","waters","vessel"] (FC (jF cP cB cU) cR cN):=by
 refine F.ok2 L5 fun vs H Q E h=>?_
 refine zB h fun x w v ms D R L N h=>?_
 refine eG h fun e_ hc hw hv q=>?_
 subst e_;refine ⟨rfl,fun _ _ _ _ hr=>?_⟩;refine ⟨_,(jO (fZ (z9 mM (pv 2) (kP K T.xf (j7 K (pv 0) rfl))) (fY (z9 mM (jI (jR K) (pv 1) (pv 2)) (j7 K (jI (kM K) (j7 K (pv 0) rfl) (pv 2)) rfl))))),?_⟩
 try dsimp only [jV,jU]
 obtain ⟨dx,rl,ll,nl,fs,rs,ls,nv,hx,hf,hrl,hll,hnl,hR,hL,hN,d1,d2,d3⟩:=hc;refine (jA rfl (jA rfl (j8 hx (T.clN) (T.xg) (hf.1) (⟨rl,jA rfl (⟨.inl (so hrl),_,_,rfl,rfl,jA rfl (?_)⟩)⟩))));rw [hR.1]
 by_cases h:v<R.length
 ·obtain ⟨r,hr⟩:∃r,R[v]?=some r:=⟨_,aa h⟩;obtain ⟨z,hz,y,rfl,dy,gs,hy,hg⟩:=hR.get hr;refine vL (by omega) (jA rfl (jA rfl (j3 (SqT.of hw) (zI hv) ((jA rfl (j8 hx (T.clN) (T.xg) (hf.1) ((jA rfl (qG (so hrl) (qB hz) (j8 hy (T.clR) (T.xx) (hg.2.1) (j9 (?_))))))))))));rw [show ZM R ms v=decide (ms.getD v 0<r.least) by unfold ZM;rw [hr]] at q;exact q
 ·refine qX (by omega) ?_;rw [show ZM R ms v=false by unfold ZM;rw [da (by omega)]] at q;exact q
theorem iS:jT 3 ["canal","waters","moved","held","pour"] oX:=jS
include T in
theorem IP (F:kH K "falls_short" oX f fd) (xk:Def P w K mg base 1 "poured_all" ["waters","pours"] [] (gA K)) (vh:Def P w K mg base 1 "is_below_least" ["canal","waters","vessel"] [] (FC (jF cP cB cU) cR cN)):FnOk P w K mg base jK 2 f fd ["canal","waters","moved"] (BZ (jF cP cB cU) cR cN):=by
 refine F.ok2 iS fun vs H Q E h=>?_
 refine gE h fun x w p ms zs qs D R L N h=>?_
 refine cK h fun e_ hc hw hp hP h1000 q=>?_
 subst e_;refine ⟨rfl,fun _ _ _ _ hr=>?_⟩;refine ⟨_,(@jG _ _ _ _ _ (jX 3 iS.nd (pv 1))
   (@jG _ _ _ _ _ (yK aX rfl (qV (pv 2)) (kC (i:=4) iS.nd rfl (.inl rfl))
    (@jG _ _ _ _ _ (jX 3 iS.nd (jP xk hr rfl (jB (pv 3) (jB (qJ (jB (pv 4) jE)) jE))))
   (@kX _ _ _ (kT (yA (jP vh hr rfl (j4 (pv 0) (pv 3) (jI (jR K) (pv 4) jC)))) (jO yT) kS))))
   (jO yT))),?_⟩
 try dsimp only [jV,jU]
 refine (jA rfl (?_));refine ⟨_,rfl,p,rfl,⟨_,so hp⟩,JM (K:=K) (a:=p) (xs:=zs) (fun i σ Hi=>∃(h:Addr) (c:Option V),σ=[some (.ref x),some (.ref w),some (.ref p),some (.ref h),c]∧Hi h=some (.tup ((kK ms (qs.take i)).map V.int))∧QR R ms qs=QR R (kK ms (qs.take i)) (qs.drop i)∧Same H Hi)
  ⟨w,none,rfl,hw,rfl,Same.refl _⟩ (fun i σ Hi _ ⟨_,_,_,_,_,s⟩=>so (s _ _ hp)) ?_ ?_⟩
 ·rintro i v σ Hi hv ⟨h,c,rfl,hh,he,sm⟩;obtain ⟨a,s,t,m,rfl,hq,hT,hs,ht⟩:=hP.2 i v hv;have el:(kK ms (qs.take i)).length=ms.length:=JZ _ _;refine (jA rfl (jA rfl (⟨zz1,fun lp hlp=>?_⟩)));have u:=jJ hlp (.lst [V.ref a]);refine ⟨h,yD lp _ ([.ref a]) ([(s,t,m)]) (yH rfl (.inr (SqT.of (u _ _ hh))) (so jD) ((PoursH.nil _ _ |>.snoc (u _ _ (sm _ _ hT)) (by rw [el];exact hs) (by rw [el];exact ht)).pa) (by rw [el];exact h1000) (fun r H' s' hr0 hr=>?_))⟩;have sm2:=(sm.trans u).trans s';have ep:kK (kK ms (qs.take i)) [(s,t,m)]=kK ms (qs.take (i+1)):=by rw [pW ms qs i _ hq];rfl
  rw [ep] at hr;have ed:qs.drop i=(s,t,m)::qs.drop (i+1):=(drop_eq_getElem_cons (ad.mp hq).1).trans (by rw [(ad.mp hq).2]);have he2:QR R ms qs=(ZM R (kK ms (qs.take (i+1))) s||QR R (kK ms (qs.take (i+1))) (qs.drop (i+1))):=by
   rw [he,ed];show (ZM R (pour (kK ms (qs.take i)) (s,t,m)) s||QR R (pour (kK ms (qs.take i)) (s,t,m)) (qs.drop (i+1)))=_;rw [pW ms qs i _ hq]
  have el2:(kK ms (qs.take (i+1))).length=ms.length:=JZ _ _;refine (jA rfl (jA rfl (jA rfl (j3 (SqT.of (sm2 _ _ hT)) rfl ((QF x r s _ D R L N (yZ rfl (hc.same sm2) hr (by rw [el2];exact hs) (jA rfl (?_)))))))));cases hb:ZM R (kK ms (qs.take (i+1))) s with
  |true =>
   refine kU ?_;have:=q H' sm2;rw [he2,hb] at this;exact this
  |false =>
   refine kY ⟨r,jA rfl (⟨hr,?_,sm2⟩)⟩;rw [he2,hb];rfl
 rintro σ Hi ⟨h,c,rfl,hh,he,sm⟩;rw [hP.1,drop_length] at he;have:=q Hi sm;rw [he] at this;exact this
theorem pU:jT 4 ["canal","ways","state","boat","place","target"] pN:=jS
include T in
theorem K1 (F:kH K "why_no_pass" pN f fd) (zm:Def P w K mg base 3 "reach_of" ["canal","way","place"] [] (rP (jF cP cB cU) cR cN)) (wf:Def P w K mg base 5 "has_no_berth" ["canal","ways","state","reach"] [] (AR (jF cP cB cU) cR cN)) (um:Def P w K mg base 2 "falls_short" ["canal","waters","moved"] [] (BZ (jF cP cB cU) cR cN)) (zn:Def P w K mg base 6 "pass_pours" ["canal","ways","state","boat"] [] (tJ (jF cP cB cU) cR cN)):FnOk P w K mg base jK 7 f fd ["canal","ways","state","boat"] (EI (jF cP cB cU) cR cN):=by
  refine F.ok2 pU fun vs H Q E h=>?_
  refine uP h fun x wl st b us ys d ms pl D R L N h=>?_
  refine eH h fun e_ hG hb q=>?_
  subst e_;refine ⟨rfl,fun _ _ _ _ hr=>?_⟩;refine ⟨_,(@jG _ _ _ _ _ (jX 4 pU.nd (jI (jR K) (jI (jR K) (pv 2) jC) (pv 3)))
      (@jG _ _ _ _ _ (kT (kI qQ (jP zm hr rfl (j4 (pv 0) (jI (kM K) (pv 1) (pv 3)) (pv 4))) (fS (v:=.int (-1)) rfl T.uy ⟨_,rfl⟩)) (jO j6) kS)
      (@jG _ _ _ _ _ (jX 5 pU.nd (jP zm hr rfl (j4 (pv 0) (jI (kM K) (pv 1) (pv 3)) (@jL _ _ _ _ _ _ _ _ kL (pv 4) jC))))
      (dJ (kT (PW.pt (TV (kI zM (pv 5) (fS (v:=.int (-1)) rfl T.uy ⟨_,rfl⟩)) (SH (yA (jP wf hr rfl (yG (pv 0) (pv 1) (pv 2) (pv 5))))))) (jO j6) kS)
      (@jG _ _ _ _ _ (kT (yA (jP um hr rfl (j4 (pv 0) (jI (jR K) (pv 2) jC) (jP zn hr rfl (yG (pv 0) (pv 1) (pv 2) (pv 3)))))) (jO j6) kS)
      (jO j6)))))),?_⟩
  try dsimp only [jV,jU]
  obtain ⟨hc,hdr,hwl,hA,hst,hfl,hml⟩:=id hG;obtain ⟨wt,pt,hst1,hwt,hpt⟩:=id hst;have hc0:=hc;obtain ⟨dx,rl,ll,nl,fs,rs,ls,nv,hx,hf,hrl,hll,hnl,hR,hL,hN,d1,d2,d3⟩:=hc;have b1:=hdr.r8;have b2:=hdr.l8;obtain ⟨y,hy⟩:∃y,ys[b]?=some y:=⟨_,aa hb⟩;obtain ⟨p,hp⟩:∃p,pl[b]?=some p:=⟨_,aa (by rw [hfl.len];exact hb)⟩;obtain ⟨v,hvy,hwy⟩:=hA.get hy;obtain ⟨t,st₂,vs₂,rfl,hw1,hw2,hw3⟩:=id hwy;have hple:=hfl.le b y p hy hp;have hyok:=hfl.ok y (ai hy);have ey:ys.getD b (0,[])=y:=by rw [af,hy];rfl
  have ep:pl.getD b 0=p:=by rw [af,hp];rfl
  unfold gG at q;rw [ey,ep] at q;refine (jA rfl (j3 (SqT.of hst1) rfl ((jA rfl (j3 (SqT.of hpt) (qB (v:=.int (p:Int)) (by rw [av,hp];rfl)) (?_))))));refine (jA rfl (jA rfl (jA rfl (qG (so hwl) (qB hvy) ((jA rfl ((QF x t y p D R L N (yH rfl hc0 hwy hyok hple (fun H1 s1=>⟨rfl,jA rfl (?_)⟩))))))))))
  by_cases h0:p=y.2.length
  · refine vL (by rw [h0,DJ]) ?_
    have:=q H1 s1;rw [if_pos h0] at this;exact this
  have hlt:p<y.2.length:=by omega
  have hpin:=ET hdr hyok hlt;refine qX (fun e=>by have:=V.int.inj e;omega) ?_;have q:∀H',Same H H'→Q (.str (if ¬vU L y (p+1) = -1∧fQ R (vU L y (p+1))≤(((JI L ys pl).countP fun z=>decide (z=vU L y (p+1)):Nat):Int) then "berth" else if QR R ms (QY R.length L ms (y.2.getD p (0,true)))=true then "water" else "")) H':=fun H' s'=>by
    have:=q H' s';rw [if_neg h0] at this;exact this
  have s01:=s1;refine (jA rfl (jA rfl (jA rfl (qG (so (s1 _ _ hwl)) (qB hvy) ((jA rfl (j9 ((QF x t y (p+1) D R L N (yH rfl (hc0.same s1) (WyAt.same s1 _ _ hwy) hyok (by omega) (fun H2 s2=>?_)))))))))));have s02:=s1.trans s2;refine ⟨fun σ' Ha=>σ'=[some (.ref x),some (.ref wl),some (.ref st),some (.int (b:Int)),some (.int (p:Int)),some (.int (vU L y (p+1)))]∧Same H Ha∧¬(¬vU L y (p+1) = -1∧fQ R (vU L y (p+1))≤(((JI L ys pl).countP fun z=>decide (z=vU L y (p+1)):Nat):Int)),?_,?_⟩
  · refine ⟨_,rfl,rfl,jA rfl (?_)⟩
    by_cases h1:vU L y (p+1) = -1
    · exact y9 (cp V.int h1) (kY ⟨rfl,s02,fun z=>z.1 h1⟩)
    refine ZZ (fun e=>h1 (V.int.inj e)) ?_;have hlt2:p+1<y.2.length:=by
      by_cases e:p+1=y.2.length
      · rw [e,DJ] at h1;exact absurd rfl h1
      · omega
    have hpin2:=ET hdr hyok hlt2;obtain ⟨tn,htn⟩:∃tn:Nat,vU L y (p+1)=(tn:Int):=⟨(vU L y (p+1)).toNat,by omega⟩;rw [htn] at h1 ⊢;obtain ⟨r,hr⟩:∃r,R[tn]?=some r:=⟨_,aa (by omega)⟩;have eb:fQ R (tn:Int)=r.berths:=by unfold fQ;rw [show ((tn:Nat):Int).toNat=tn from rfl,hr]
    refine (jA rfl (jA rfl (jA rfl (jA rfl ((cJ x wl st tn r us ys d ms pl D R L N (y0 rfl (hG.same s02) hr (fun H3 s3=>(jA rfl (?_))))))))));have s03:=s02.trans s3
    by_cases h2:r.berths≤(((JI L ys pl).countP fun z=>decide (z=(tn:Int)):Nat):Int)
    · rw [aK h2]
      refine kU ?_;have:=q H3 s03;rw [htn,eb,if_pos ⟨h1,h2⟩] at this;exact this
    · rw [aI h2]
      exact kY ⟨rfl,s03,fun z=>h2 (by rw [eb] at z;exact z.2)⟩
  rintro σ' H3 ⟨rfl,s03,hno⟩;obtain ⟨s₁,hs⟩:∃s,y.2[p]?=some s:=⟨_,aa hlt⟩;have es:y.2.getD p (0,true)=s₁:=by rw [af,hs];rfl
  refine (jA rfl (jA rfl (j3 (SqT.of (s03 _ _ hst1)) rfl ((jA rfl (jA rfl (jA rfl (jA rfl ((FV x wl st b us ys y p s₁ d ms pl D R L N (yH rfl (hG.same s03) hy hp hs (fun r H4 zs s4 hr0 hr hP=>?_))))))))))));have s04:=s03.trans s4;refine (eE x wt r ms zs _ D R L N (bD rfl (hc0.same s04) (s04 _ _ hwt) hr hP (by omega) (fun H5 s5=>(jA rfl (?_)))));have:=q H5 (s04.trans s5);rw [if_neg hno,es] at this;cases hsb:QR R ms (QY R.length L ms s₁) with
  |true =>
    refine kU ?_;rw [hsb,if_pos rfl] at this;exact this
  |false =>
    refine kY ?_;rw [hsb,if_neg (by decide)] at this;exact this
theorem MK:jT 4 ["canal","ways","state","deed"] pO:=jS
include T in
theorem K2 (F:kH K "why_not" pO f fd) (uo:Def P w K mg base 7 "why_no_pass" ["canal","ways","state","boat"] [] (EI (jF cP cB cU) cR cN)) (zf:MeD P w K mg base 2 cN "full" ["self","waters","k"] (tK (jF cP cB cU) cR cN)):FnOk P w K mg base jK 8 f fd ["canal","ways","state","deed"] (tW (jF cP cB cU) cR cN):=by
 refine F.ok2 MK fun vs H Q E h=>?_
 refine eB h fun x wl st dd de us ys d ms pl D R L N h=>?_
 refine eG h fun e_ hG hdd hin q=>?_
 subst e_;refine ⟨rfl,fun _ _ _ _ hr=>?_⟩;refine ⟨_,(@jG _ _ _ _ _ (kT (kI qQ (jI (jR K) (pv 3) jC) j6) (jO (jP uo hr rfl (yG (pv 0) (pv 1) (pv 2) (jI (jR K) (pv 3) jC)))) kS)
   (@jG _ _ _ _ _ (kT (kI qQ (jI (jR K) (pv 3) jC) j6) (jO (Q8 (yA (cH zf hr (pv 0) (jB (jI (jR K) (pv 2) jC) (jB (jI (jR K) (pv 3) jC) jE)))) j6 j6)) kS)
   (jO (Q8 (kI mM (jI (jR K) (pv 2) jC) (kP K T.xf (j7 K (pv 0) rfl))) j6 j6)))),?_⟩
 try dsimp only [jV,jU]
 obtain ⟨hc,hdr,hwl,hA,hst,hfl,hml⟩:=id hG;obtain ⟨wt,pt,hst1,hwt,hpt⟩:=id hst;have hc0:=hc;obtain ⟨dx,rl,ll,nl,fs,rs,ls,nv,hx,hf,hrl,hll,hnl,hR,hL,hN,d1,d2,d3⟩:=hc;cases de with
 |pass b =>
  refine (jA rfl (j3 (SqT.of hdd) rfl (⟨rfl,jA rfl (vL rfl ?_)⟩)));exact (jA rfl (jA rfl (jA rfl (jA rfl (j3 (SqT.of hdd) rfl ((u5 x wl st b us ys d ms pl D R L N (y0 rfl hG hin q))))))))
 |«let» k =>
  have hk:k<L.length:=hin;refine (jA rfl (j3 (SqT.of hdd) rfl (⟨rfl,jA rfl (qX (fun e=>absurd (V.str.inj e) (by decide +kernel)) ?_)⟩)));refine (jA rfl (j3 (SqT.of hdd) rfl (⟨rfl,jA rfl (vL rfl ?_)⟩)));refine (jA rfl (⟨x,dx,jA rfl (⟨hx,hf.no (by decide +kernel) (by decide +kernel) (by decide +kernel),jA rfl (j3 (SqT.of hst1) rfl ((jA rfl (j3 (SqT.of hdd) rfl ((QF x wt D R L N ms k (yZ rfl hc0 hwt (by omega) (jA rfl (?_)))))))))⟩)⟩));have:=q H (Same.refl _)
  change Q (.str (if gD R.length ms k=true then "" else "empty")) H at this
  unfold gD at this
  by_cases h:0<ms.getD (R.length+k) 0
  ·rw [if_pos (aK h)] at this;exact vL h this
  ·rw [if_neg (by rw [ff];exact h)] at this;exact qX h this
 |night =>
  refine (jA rfl (j3 (SqT.of hdd) rfl (⟨rfl,jA rfl (qX (fun e=>absurd (V.str.inj e) (by decide +kernel)) ?_)⟩)));refine (jA rfl (j3 (SqT.of hdd) rfl (⟨rfl,jA rfl (qX (fun e=>absurd (V.str.inj e) (by decide +kernel)) ?_)⟩)));refine (jA rfl (j3 (SqT.of hst1) rfl ((jA rfl (j8 hx (T.clN) (T.xl) (hf.2.2.1) (⟨nl,jA rfl (⟨.inl (so hnl),_,_,rfl,rfl,jA rfl (?_)⟩)⟩))))));rw [hN.1];have:=q H (Same.refl _)
  change Q (.str (if d<(N.length:Int) then "" else "over")) H at this
  by_cases h:d<(N.length:Int)
  ·rw [if_pos h] at this;exact vL h this
  ·rw [if_neg h] at this;exact qX h this
theorem iU:jT 4 ["canal","ways","state","deed","word","passes","moved"] pF:=jS
include T in
theorem KP (F:kH K "pours" pF f fd) (vi:Def P w K mg base 8 "why_not" ["canal","ways","state","deed"] [] (tW (jF cP cB cU) cR cN)) (uq:Def P w K mg base 5 "night_pours" ["canal","state","weather"] [] (B4 K (jF cP cB cU) cR cN)) (zn:Def P w K mg base 6 "pass_pours" ["canal","ways","state","boat"] [] (tJ (jF cP cB cU) cR cN)) (jt:Def P w K mg base 4 "let_pours" ["canal","state","k"] [] (DA (jF cP cB cU) cR cN)) (ze:Def P w K mg base 4 "with_spills" ["weirs","waters","pours"] [] (tG K)) (xo:MeD P w K mg base 2 cN "weirs" ["self"] (lF (jF cP cB cU) cR cN)):FnOk P w K mg base (vT P w) 9 f fd ["canal","ways","state","deed"] (sM (jF cP cB cU) cR cN eW):=by
 refine F.okX2 iU fun vs H Q E h=>?_
 refine eB h fun x wl st dd de us ys d ms pl D R L N h=>?_
 refine cK h fun e_ hG hdd hin hd0 qv qe=>?_
 subst e_;refine ⟨rfl,fun _ _ _ _ hr=>?_⟩;refine ⟨_,(@jG _ _ _ _ _ (jX 4 iU.nd (jP vi hr rfl (yG (pv 0) (pv 1) (pv 2) (pv 3))))
   (@jG _ _ _ _ _ (kT (kI zM (pv 4) j6) (@kX _ _ _ (sP rN rfl rfl T.jo T.jp (jB (pv 4) jE))) kS)
   (@jG _ _ _ _ _ (kT (kI qQ (jI (jR K) (pv 3) jC) j6) (jO (jP uq hr rfl (j4 (pv 0) (pv 2) (jI (kM K) (j7 K (pv 0) rfl) (jI (jR K) (pv 2) jC))))) kS)
   (@jG _ _ _ _ _ (jX 5 iU.nd (z9 qQ (jI (jR K) (pv 3) jC) j6))
   (@jG _ _ _ _ _ (jX 6 iU.nd (Q8 (yA (pv 5)) (jP zn hr rfl (yG (pv 0) (pv 1) (pv 2) (jI (jR K) (pv 3) jC))) (jP jt hr rfl (j4 (pv 0) (pv 2) (jI (jR K) (pv 3) jC)))))
   (jO (jP ze hr rfl (j4 (ZJ xo hr (pv 0)) (jI (jR K) (pv 2) jC) (pv 6))))))))),?_⟩
 try dsimp only [jV,jU]
 obtain ⟨hc,hdr,hwl,hA,hst,hfl,hml⟩:=id hG;obtain ⟨wt,pt,hst1,hwt,hpt⟩:=id hst;have hc0:=hc;obtain ⟨dx,rl,ll,nl,fs,rs,ls,nv,hx,hf,hrl,hll,hnl,hR,hL,hN,d1,d2,d3⟩:=hc;have b1:=hdr.r8;have b2:=hdr.l8;have hTg:=dB hdr;refine (jA rfl (jA rfl (jA rfl (jA rfl ((cJ x wl st dd de us ys d ms pl D R L N (yZ rfl hG hdd hin (fun H1 s1=>?_))))))));refine ⟨_,rfl,rfl,jA rfl (?_)⟩
 by_cases hw:v6 R L N.length ys d ms pl de=""
 rotate_left
 ·exact ZZ (fun e=>hw (V.str.inj e)) (jA rfl (⟨by show 1≤sizeLine;decide,qe hw _ s1⟩))
 refine y9 (cp V.str hw) ?_;have qv:=qv hw;have hdd1:=s1 _ _ hdd;have hst11:=s1 _ _ hst1;cases de with
 |night =>
  have hdN:d<(N.length:Int):=by
   change (if d<(N.length:Int) then ("":Str) else "over")="" at hw
   by_cases h:d<(N.length:Int)
   ·exact h
   ·rw [if_neg h] at hw;exact absurd hw (by decide +kernel)
  obtain ⟨dn,hdn⟩:∃dn:Nat,d=(dn:Int):=⟨d.toNat,by omega⟩;subst hdn;obtain ⟨W,hWn⟩:∃W,N[dn]?=some W:=⟨_,aa (by omega)⟩;obtain ⟨v,hv,wn,qs,rfl,hwn,hqs,_⟩:=hN.get hWn;have eW:N.getD (dn:Int).toNat []=W:=by rw [aB,af,hWn];rfl
  refine (jA rfl (j3 (SqT.of hdd1) rfl (⟨rfl,jA rfl (vL rfl ?_)⟩)));refine (jA rfl (jA rfl (jA rfl (j8 ((s1 _ _ hx)) (T.clN) (T.xl) (hf.2.2.1) ((jA rfl (j3 (SqT.of hst11) rfl (qG (so (s1 _ _ hnl)) (qB hv) ((eD x st wn _ ms _ qs W D R L N (FX rfl (hc0.same s1) (hst.toI.same s1) (s1 _ _ hwn) (hqs.mono (QAt.same s1)) (hdr.night W (ai hWn)) hml (by omega) (by omega) hTg (fun r H2 gs zs s2 hr0 hr hP hS=>?_))))))))))));refine qv r H2 gs zs (s1.trans s2) (s1.free hr0) hr ?_ ?_
  ·show PoursH H2 zs ((ZD (R.length+2*L.length+1) ms (N.getD (dn:Int).toNat []) R.length).filter vD++_) _;rw [eW];exact hP
  ·show Spl _ (kK ms ((ZD (R.length+2*L.length+1) ms (N.getD (dn:Int).toNat []) R.length).filter vD)) gs;rw [eW];exact hS
 |pass b =>
  have hb:b<ys.length:=hin;obtain ⟨y,hy⟩:∃y,ys[b]?=some y:=⟨_,aa hb⟩;obtain ⟨p,hp⟩:∃p,pl[b]?=some p:=⟨_,aa (by rw [hfl.len];exact hb)⟩;have hple:=hfl.le b y p hy hp;have ey:ys.getD b (0,[])=y:=by rw [af,hy];rfl
  have ep:pl.getD b 0=p:=by rw [af,hp];rfl
  have hne:=BR hw;rw [ey,ep] at hne;obtain ⟨s₁,hs⟩:∃s,y.2[p]?=some s:=⟨_,aa (by omega)⟩;have es:y.2.getD p (0,true)=s₁:=by rw [af,hs];rfl
  refine (jA rfl (j3 (SqT.of hdd1) rfl (⟨rfl,jA rfl (qX (fun e=>absurd (V.str.inj e) (by decide +kernel)) ?_)⟩)));refine (jA rfl (j3 (SqT.of hdd1) rfl (⟨rfl,?_⟩)));rw [aK rfl];refine (jA rfl (jA rfl (kU ?_)));refine (jA rfl (jA rfl (jA rfl (jA rfl (j3 (SqT.of hdd1) rfl ((FV x wl st b us ys y p s₁ d ms pl D R L N (yH rfl (hG.same s1) hy hp hs (fun m H2 zs s2 hm0 hm hP=>?_)))))))));have s12:=s1.trans s2;refine (jA rfl (⟨x,dx,jA rfl (⟨(s12 _ _ hx),hf.no (by decide +kernel) (by decide +kernel) (by decide +kernel),JA x D R L N (y0 rfl (hc0.same s12) (by omega) (fun wq ws H3 s3 hwq0 hwq hW=>?_))⟩)⟩));have s13:=s12.trans s3;have hl:=hP.1;refine (jA rfl (j3 (SqT.of (s13 _ _ hst1)) rfl ((jA rfl (⟨wq,wt,m,ws,zs,qD R L.length,ms,jA rfl (⟨pZ hTg hW hwq (.inr (SqT.of (s13 _ _ hwt))) hml (by omega) (by omega),s3 _ _ hm,hP.same s3,?_,fun r H4 gs zs4 s4 hr0 hr hP4 hS=>?_⟩)⟩)))))
  ·rw [hl];exact aG (OS _ _ _ _) (by decide)
  have e:Q0 R L N ys d ms pl (.pass b)=QY R.length L ms s₁:=by show QY R.length L ms _=_;rw [ey,ep,es]
  refine qv r H4 gs zs4 (s13.trans s4) (s13.free hr0) hr ?_ ?_
  ·unfold QP;rw [e];exact hP4
  ·rw [e];exact hS
 |«let» k =>
  have hk:k<L.length:=hin;refine (jA rfl (j3 (SqT.of hdd1) rfl (⟨rfl,jA rfl (qX (fun e=>absurd (V.str.inj e) (by decide +kernel)) ?_)⟩)));refine (jA rfl (j3 (SqT.of hdd1) rfl (⟨rfl,?_⟩)));rw [aI (fun e=>absurd (V.str.inj e) (show ¬("let":Str)="pass" by decide +kernel))];refine (jA rfl (jA rfl (kY ?_)));refine (jA rfl (jA rfl (jA rfl (j3 (SqT.of hdd1) rfl ((u5 x wl st k us ys d ms pl D R L N (y0 rfl (hG.same s1) hk (fun m H2 zs s2 hm0 hm hP=>?_))))))));have s12:=s1.trans s2;refine (jA rfl (⟨x,dx,jA rfl (⟨(s12 _ _ hx),hf.no (by decide +kernel) (by decide +kernel) (by decide +kernel),JA x D R L N (y0 rfl (hc0.same s12) (by omega) (fun wq ws H3 s3 hwq0 hwq hW=>?_))⟩)⟩));have s13:=s12.trans s3;have hl:=hP.1;refine (jA rfl (j3 (SqT.of (s13 _ _ hst1)) rfl ((jA rfl (⟨wq,wt,m,ws,zs,qD R L.length,ms,jA rfl (⟨pZ hTg hW hwq (.inr (SqT.of (s13 _ _ hwt))) hml (by omega) (by omega),s3 _ _ hm,hP.same s3,?_,fun r H4 gs zs4 s4 hr0 hr hP4 hS=>?_⟩)⟩)))))
  ·rw [hl];exact aG (RH _ _ _ _) (by decide)
  exact qv r H4 gs zs4 (s13.trans s4) (s13.free hr0) hr hP4 hS
theorem LX:jT 4 ["canal","ways","state","deed"] oS:=jS
include T in
theorem IJ (F:kH K "after" oS f fd) (uz:Def P w K mg base 2 "counted_on" ["state","deed","waters"] [] (AT)) (xk:Def P w K mg base 1 "poured_all" ["waters","pours"] [] (gA K)) (xax:DefX P w K mg base 9 "pours" ["canal","ways","state","deed"] [] (sM (jF cP cB cU) cR cN eW)):FnOk P w K mg base (vT P w) 10 f fd ["canal","ways","state","deed"] (B6 (jF cP cB cU) cR cN eW):=by
 refine F.okX2 LX fun vs H Q E h=>?_
 refine eB h fun x wl st dd de us ys d ms pl D R L N h=>?_
 refine cK h fun e_ hG hdd hin hd0 qv qe=>?_
 subst e_;refine ⟨rfl,fun _ _ _ _ hr=>?_⟩;refine ⟨_,(jO (jP uz hr rfl (j4 (pv 2) (pv 3) (jP xk hr rfl (jB (jI (jR K) (pv 2) jC) (jB (tO xax CM hr rfl (yG (pv 0) (pv 1) (pv 2) (pv 3))) jE)))))),?_⟩
 try dsimp only [jV,jU]
 obtain ⟨hc,hdr,hwl,hA,hst,hfl,hml⟩:=id hG;obtain ⟨wt,pt,hst1,hwt,hpt⟩:=id hst;have b1:=hdr.r8;have b2:=hdr.l8;have h10:=hfl.n10;have hln:=hfl.len;refine (jA rfl (jA rfl (jA rfl (j3 (SqT.of hst1) rfl ((jA rfl (jA rfl (jA rfl (jA rfl ((cJ x wl st dd de us ys d ms pl D R L N (bD rfl hG hdd hin hd0 (fun hw r H1 gs zs s1 hr0 hr hP hS=>?_) (fun hw H1 s1=>qe hw _ s1)))))))))))));have qv:=qv hw;refine ⟨wt,r,ms,zs,jA rfl (⟨.inr (SqT.of (s1 _ _ hwt)),so hr,hP.pa,by omega,fun wo H2 s2 hwo0 hwo=>?_⟩)⟩;have s12:=s1.trans s2;exact (QF st dd wo de d ms _ pl (yH rfl (hst.same s12) (s12 _ _ hdd) hwo (by omega) (fun r3 H3 s3 hr30 h3=>qv r3 H3 gs (s12.trans s3) (s12.free hr30) h3 hS)))
theorem pS:jT 3 ["canal","ways","state","passes","lets"] cW:=jS
include T in
theorem KF (F:kH K "may" cW f fd) (vi:Def P w K mg base 8 "why_not" ["canal","ways","state","deed"] [] (tW (jF cP cB cU) cR cN)):FnOk P w K mg base jK 9 f fd ["canal","ways","state"] (f7 (jF cP cB cU) cR cN):=by
 refine F.ok2 pS fun vs H Q E h=>?_
 refine uQ h fun x wl st us ys d ms pl D R L N h=>?_
 refine q0 h fun e_ hG q=>?_
 subst e_;refine ⟨rfl,fun _ _ _ _ hr=>?_⟩;refine ⟨_,(@jG _ _ _ _ _ (J0 (i:=3) ["boat"] (q9 1 []) pS.nd rfl (.inl rfl) rfl (qS (jM cW)) (cps 1 []) (JB (by rfl) T.xi (jB (kP K T.xf (pv 1)) jE)) (fun _ _ _ _ _=>(kC (i:=0) (show List.Nodup (["boat"]:List Str) from by decide +kernel) rfl (.inl rfl))) (fun _ _ _ _ _=>zF) (fun _ _ _ _ _=>(qA (jB j6 (jB (pv 0) jE)))))
   (@jG _ _ _ _ _ (J0 (i:=4) ["k"] (q9 1 []) pS.nd rfl (.inl rfl) rfl (qS (jM cW)) (cps 1 []) (JB (by rfl) T.xi (jB (kP K T.xf (j7 K (pv 0) rfl)) jE)) (fun _ _ _ _ _=>(kC (i:=0) (show List.Nodup (["k"]:List Str) from by decide +kernel) rfl (.inl rfl))) (fun _ _ _ _ _=>zF) (fun _ _ _ _ _=>(qA (jB j6 (jB (pv 0) jE)))))
   (jO (cQ ["deed","canal","ways","state"] [0,1,2] (qS (jM cW)) (qV (@jL _ _ _ _ _ _ _ _ ZU (@jL _ _ _ _ _ _ _ _ ZU (pv 3) (pv 4)) (qJ (jB (qA (jB j6 jE)) jE)))) (fun _ _ _ _ _=>(JN (kI qQ (jP vi hr rfl (yG (pv 1) (pv 2) (pv 3) (pv 0))) j6))) (fun _ _ _ _ _=>(pv 0)))))),?_⟩
 try dsimp only [jV,jU]
 obtain ⟨hc,hdr,hwl,hA,hst,hfl,hml⟩:=id hG;obtain ⟨dx,rl,ll,nl,fs,rs,ls,nv,hx,hf,hrl,hll,hnl,hR,hL,hN,d1,d2,d3⟩:=hc;have b1:=hdr.r8;have b2:=hdr.l8;have h10:=hfl.n10;have hul:=hA.1;refine (jA rfl (⟨wl,jA rfl (⟨.inl (so hwl),jA rfl (⟨by omega,by omega,fun D₁ hD₁=>?_⟩)⟩)⟩));refine ZQ (n:=((us.length:Nat):Int).toNat) (caps:=[]) (fun i zs Hi=>AllAt (DdAt Hi) zs (passes i)) hD₁ AllAt.nil ?_ ?_
 ·rintro i zs Hi hi hle sm hY hZ;rw [aB] at hi;rw [dg];refine yF (kU (jA rfl (⟨zz2,fun tp htp=>?_⟩)));have u:=jJ htp (.tup [V.str "pass",V.int (i:Int)]);refine vY hD₁ sm hY hle (by omega) u ?_;rw [show passes (i+1)=passes i++[.pass i] by unfold passes;rw [ic,aJ];rfl];exact ((hZ.mono (DdAt.same u)).snoc (v:=.ref tp) (x:=.pass i) ⟨tp,rfl,jD⟩).mono (DdAt.put (u _ _ hY))
 rintro zs H1 s1 hY1 hle1 hZ1;rw [aB] at hZ1;refine (jA rfl (j8 ((s1 _ _ hx)) (T.clN) (T.xb) (hf.2.1) (⟨ll,jA rfl (⟨.inl (so (s1 _ _ hll)),jA rfl (⟨by omega,by rw [hL.1];omega,fun D₂ hD₂=>?_⟩)⟩)⟩)));refine ZQ (n:=((ls.length:Nat):Int).toNat) (caps:=[]) (fun i zs Hi=>AllAt (DdAt Hi) zs (lets i)) hD₂ AllAt.nil ?_ ?_
 ·rintro i zs Hi hi hle sm hY hZ;rw [aB,hL.1] at hi;rw [dg];refine yF (kU (jA rfl (⟨zz2,fun tp htp=>?_⟩)));have u:=jJ htp (.tup [V.str "let",V.int (i:Int)]);refine vY hD₂ sm hY hle (by omega) u ?_;rw [show lets (i+1)=lets i++[.let i] by unfold lets;rw [ic,aJ];rfl];exact ((hZ.mono (DdAt.same u)).snoc (v:=.ref tp) (x:=.let i) ⟨tp,rfl,jD⟩).mono (DdAt.put (u _ _ hY))
 rintro zs2 H2 s2 hY2 hle2 hZ2;rw [aB,hL.1] at hZ2;have l1:=hZ1.1;have l2:=hZ2.1;unfold passes at l1;unfold lets at l2;rw [ae,bg] at l1 l2;refine (jA rfl (jA rfl (⟨D₁,D₂,_,_,rfl,rfl,s2 _ _ hY1,hY2,small (by omega),fun al hal=>?_⟩)));have s3:=jJ hal (.lst (zs++zs2));refine ⟨zz1,fun tp htp=>?_⟩;have s4:=jJ htp (.tup [V.str "night"]);refine ⟨zz1,fun lp hlp=>?_⟩;have s5:=jJ hlp (.lst [V.ref tp]);have hal5:=s5 _ _ (s4 _ _ (jD:upd H2 al (.lst (zs++zs2)) al=_));refine ⟨al,lp,_,_,rfl,rfl,hal5,jD,small (by rw [ag,l1,l2];show _+1≤1000;omega),fun rr hrr=>?_⟩;have s6:=jJ hrr (.lst (zs++zs2++[V.ref tp]));have s36:=((s3.trans s4).trans s5).trans s6;have s26:=s2.trans s36;have s16:=s1.trans s26;have hZ:AllAt (DdAt (upd (upd (upd (upd H2 al (.lst (zs++zs2))) tp (.tup [V.str "night"])) lp (.lst [V.ref tp])) rr (.lst (zs++zs2++[V.ref tp])))) (zs++zs2++[V.ref tp]) (y7 ys.length L.length):=by
  unfold y7;rw [← hul];exact ((hZ1.mono (DdAt.same s26)).app (hZ2.mono (DdAt.same s36))).snoc (v:=.ref tp) (x:=.night) ⟨tp,rfl,s6 _ _ (s5 _ _ jD)⟩
 have hrr1:upd (upd (upd (upd H2 al (.lst (zs++zs2))) tp (.tup [V.str "night"])) lp (.lst [V.ref tp])) rr (.lst (zs++zs2++[V.ref tp])) rr=_:=jD;generalize upd (upd (upd (upd H2 al (.lst (zs++zs2))) tp (.tup [V.str "night"])) lp (.lst [V.ref tp])) rr (.lst (zs++zs2++[V.ref tp]))=H6 at hZ hrr1 s16 ⊢;have hln:=hZ.1;rw [iY] at hln;generalize zs++zs2++[V.ref tp]=za at hZ hrr1 hln ⊢;refine ⟨rr,rfl,⟨_,so hrr1⟩,fun Df hDf=>?_⟩;refine zR (K:=K) (a:=rr) (xs:=za) (caps:=[some (.ref x),some (.ref wl),some (.ref st)]) (fun i zs Hi=>AllAt (DdAt Hi) zs (((y7 ys.length L.length).take i).filter fun de=>decide (v6 R L N.length ys d ms pl de=""))) hDf (so hrr1) AllAt.nil ?_ ?_
 ·rintro i v zs Hi hv hi hle sm hY hzz;obtain ⟨de,hde,t,rfl,ht⟩:=hZ.2 i v hv;have hin:=rF (ai hde);refine (jA rfl (jA rfl (jA rfl (jA rfl ((cJ x wl st t de us ys d ms pl D R L N (yZ rfl (hG.same (s16.trans sm)) (sm _ _ ht) hin (fun H7 s7=>⟨rfl,jA rfl (?_)⟩))))))))
  by_cases hw:v6 R L N.length ys d ms pl de=""
  ·refine vL (cp V.str hw) (jA rfl (vY hDf sm hY hle (by omega) s7 ?_));rw [CI hde,if_pos hw];exact ((hzz.mono (DdAt.same s7)).snoc (v:=.ref t) (x:=de) ⟨t,rfl,s7 _ _ (sm _ _ ht)⟩).mono (DdAt.put (s7 _ _ hY))
  ·refine qX (fun e=>hw (V.str.inj e)) (J3 sm hY hle s7 ?_);rw [CI hde,if_neg hw,br];exact hzz.mono (DdAt.same s7)
 rintro zr H8 s8 hY hle hzz;rw [hZ.1,aL] at hzz;exact q Df zr H8 (s16.trans s8) (s16.free hDf) hY hzz
theorem MI:jT 2 ["ways","state"] iP:=jS
include T in
theorem KZ (F:kH K "steps_left" iP f fd) (zd:Def P w K mg base 1 "steps_to_do" ["way","place"] [] (tX)):FnOk P w K mg base jK 2 f fd ["ways","state"] (EL):=by
 refine F.ok2 MI fun vs H Q E h=>?_
 refine zB h fun wl st us ys d ms pl L h=>?_
 refine Q4 h fun e_ hwl hA p2_ hfl q=>?_
 subst e_;obtain ⟨wt,pt,hst,hwt,hpt⟩:=p2_;refine ⟨rfl,fun _ _ _ _ hr=>?_⟩;refine ⟨_,(jO (y6 (rZ rfl) (by rfl) T.vo iy (jB (QL ["way","place"] (q9 2 []) rfl (qS (jM iP)) (cps 2 []) (DK (by rfl) T.wc (jB (pv 0) (jB (jI (jR K) (pv 1) jC) jE))) (fun _ _ _ _ _=>(QN (n:=2) K rfl (qW (kC (i:=0) (show List.Nodup (["way","place"]:List Str) from by decide +kernel) rfl (.inl rfl)) (qW (kC (i:=1) (show List.Nodup (["way","place"]:List Str) from by decide +kernel) rfl (.inl rfl)) JD)))) (fun _ _ _ _ _=>zF) (fun _ _ _ _ _=>(jP zd hr rfl (jB (pv 0) (jB (pv 1) jE))))) jE))),?_⟩
 try dsimp only [jV,jU]
 refine (jA rfl (jA rfl (j3 (SqT.of hst) rfl (⟨wl,pt,rfl,⟨_,so hwl⟩,⟨_,SqT.of hpt⟩,fun D₁ hD₁=>?_⟩))));refine xO (K:=K) (a1:=wl) (a2:=pt) (xs:=us) (ys:=pl.map fun (p:Nat)=>V.int (p:Int)) (fun i σ Hi=>∃c1 c2:Option V,σ=[c1,c2]∧Hi D₁=some (.lst (((bZ ys pl).take i).map V.int))∧Same H Hi)
  ⟨none,none,rfl,by rw [jD,take_zero];rfl,jJ hD₁ _⟩ (fun i σ Hi _ ⟨_,_,_,_,s⟩=>⟨so (s _ _ hwl),SqT.of (s _ _ hpt)⟩) (by rw [hA.1,ae,hfl.len]) ?_ ?_
 ·rintro i v z σ Hi T₁ hv hz ⟨c1,c2,rfl,hY,sm⟩ hT;obtain ⟨y,hy,hwy⟩:=hA.2 i v hv;have hi:i<ys.length:=(ad.mp hy).1;obtain ⟨t,st₂,us₂,rfl,hw1,hw2,hw3⟩:=id hwy;have hip:i<pl.length:=by rw [hfl.len];exact hi
  rw [av,aa hip] at hz;cases hz;have u:=jJ hT (.tup [V.ref t,V.int ((pl[i]:Nat):Int)]);have smu:=sm.trans u;have hwy2:=WyAt.same smu _ _ hwy;have hp:=hfl.le i y pl[i] hy (aa hip);have hg1:ys.getD i (0,[])=y:=by rw [af,hy];rfl
  have hg2:pl.getD i 0=pl[i]:=by rw [af,aa hip];rfl
  have h10:=hfl.n10;have hYu:=u _ _ hY;refine ⟨T₁,jA rfl (⟨SqT.of jD,rfl,_,jA rfl (⟨_,_,rfl,rfl,?_⟩)⟩)⟩;generalize upd Hi T₁ (.tup [V.ref t,V.int ((pl[i]:Nat):Int)])=Hj at u smu hwy2 hYu ⊢;refine yF (kU ?_);refine (jA rfl (jA rfl (⟨t,y,jA rfl (⟨hwy2,?_⟩)⟩)));refine ⟨_,hYu,yN (by rw [ae,db];unfold bZ;rw [ae,bg];omega),_,jA rfl (⟨?_,qI hD₁ smu⟩)⟩;rw [jD,aC,show (bZ ys pl)[i]?=some ((y.2.length:Int) - ((pl[i]:Nat):Int)) by unfold bZ;rw [av,cf hi,← hg1,← hg2];rfl,aJ];rfl
 rintro σ Hf ⟨c1,c2,rfl,hY,sm⟩;rw [hA.1,cu (by unfold bZ;rw [ae,bg];exact ar _)] at hY;exact ⟨D₁,jA rfl (⟨so hY,q Hf sm⟩)⟩
theorem LZ:jT 2 ["ways","state"] oU:=jS
include T in
theorem IL (F:kH K "all_home" oU f fd) (ja:Def P w K mg base 2 "steps_left" ["ways","state"] [] (EL)):FnOk P w K mg base jK 3 f fd ["ways","state"] (EM):=by
 refine F.ok2 LZ fun vs H Q E h=>?_
 refine zB h fun wl st us ys d ms pl L h=>?_
 refine Q4 h fun e_ hwl hA hst hfl q=>?_
 subst e_;refine ⟨rfl,fun _ _ _ _ hr=>?_⟩;refine ⟨_,(jO (z9 qQ (jP ja hr rfl (jB (pv 0) (jB (pv 1) jE))) jC)),?_⟩
 try dsimp only [jV,jU]
 refine (jA rfl (jA rfl ((QF wl st us ys d ms pl L (yH rfl hwl hA hst hfl (fun H1 s1=>⟨rfl,?_⟩))))));rw [N8];exact q H1 s1
theorem L6:jT 3 ["canal","ways","state"] o0:=jS
include T in
theorem IU (F:kH K "is_knot" o0 f fd) (wg:Def P w K mg base 9 "may" ["canal","ways","state"] [] (f7 (jF cP cB cU) cR cN)) (xad:Def P w K mg base 3 "all_home" ["ways","state"] [] (EM)):FnOk P w K mg base jK 14 f fd ["canal","ways","state"] (tY (jF cP cB cU) cR cN):=by
 refine F.ok2 L6 fun vs H Q E h=>?_
 refine uQ h fun x wl st us ys d ms pl D R L N h=>?_
 refine q0 h fun e_ hG q=>?_
 subst e_;refine ⟨rfl,fun _ _ _ _ hr=>?_⟩;have hu:_<cLine:=hr.units0;refine ⟨_,(jO (fZ (EU (jP xad hr rfl (jB (pv 1) (jB (pv 2) jE)))) (fY (z9 (T6 hu) (jP wg hr rfl (j4 (pv 0) (pv 1) (pv 2))) (qJ jE))))),?_⟩
 try dsimp only [jV,jU]
 refine (jA rfl (jA rfl ((QF wl st us ys d ms pl L (yH rfl hG.wls hG.wys hG.sts hG.fl (fun H1 s1=>?_))))));have q:∀H',Same H H'→Q (.bl (!decide (QC ys pl=0)&&(vJ R L N.length ys d ms pl).isEmpty)) H':=q;cases hb:decide (QC ys pl=0) with
 |true =>
  rw [hb] at q;exact (jA rfl (jA rfl (kY (q _ s1))))
 |false =>
  rw [hb] at q;refine (jA rfl (jA rfl (kU (jA rfl (jA rfl (jA rfl ((eD x wl st us ys d ms pl D R L N (yE rfl (hG.same s1) (fun r zs H2 s2 hr0 hr1 hdd=>⟨aY _,fun b hb0=>?_⟩))))))))));have u:=jJ hb0 (.lst []);refine ⟨r,b,zs,rfl,rfl,so (u _ _ hr1),so jD,?_⟩;have hz:zs.isEmpty=(vJ R L N.length ys d ms pl).isEmpty:=by
   have:=hdd.1;cases zs<;>cases hm:vJ R L N.length ys d ms pl<;>simp [hm] at this ⊢
  rw [hz];exact q _ ((s1.trans s2).trans u)
theorem LM:LamScope false ["state","ways","canal"] "state" ["ways","canal"] (vZ kZ):=⟨rfl,rfl,rfl,by decide +kernel,rfl,rfl,by decide +kernel,mC (by decide +kernel),(show ∀y∈(vZ kZ).names,y.2≠.cell by decide +kernel)⟩
theorem HI (T:Txt P w base K mg cP cB cU cR cN tkS eW eL eTW tkH) (vj:Def P w K mg base 14 "is_knot" ["canal","ways","state"] [] (tY (jF cP cB cU) cR cN)):FnV P w K mg base jK 15 (JG "knot.<locals>.<lambda>" (yQ kZ) (y8 kZ) (vZ kZ) ["ways","canal"] (zU (jF cP cB cU) cR cN)):=by
 refine DX (k:=14) LM (fun _ _ _ _ _ _=>rfl) fun A outer s H f cdv cl fvs v Q E hcl hr hc h=>?_
 obtain ⟨x,wl,st,H0,us,ys,d,ms,pl,D,R,L,N,rfl,⟨⟩,s0,h0,hcn,hdr,hwl,hA,hst,hfl,hml,q⟩:=h;have hu:_<cLine:=hr.units0;have hu1:=d9 hr;have hu9:=QS hr;have hu10:=QO hr;refine ⟨_,(jP vj hr rfl (j4 (pv 2) (pv 1) (pv 0))),?_⟩;have sd:=lG s0 h0;have hG:Stage _ _ _ D (kR H (cl.map (·.2))) x wl st us R L N ys d ms pl:=⟨hcn.same sd,hdr,sd _ _ hwl,hA.mono (WyAt.same sd),hst.del hc,hfl,hml⟩;exact (jA rfl (jA rfl (jA rfl ((eD x wl st us ys d ms pl D R L N (yE rfl hG (fun H1 s1 hn=>q _ (fL s1))))))))
theorem LK:LamScope true ["state","ways","canal"] "state" ["ways","canal"] (vZ kQ):=⟨rfl,rfl,rfl,by decide +kernel,rfl,rfl,by decide +kernel,mC (by decide +kernel),⟨_,rfl,by decide +kernel⟩⟩
theorem HH (T:Txt P w base K mg cP cB cU cR cN tkS eW eL eTW tkH) (wg:Def P w K mg base 9 "may" ["canal","ways","state"] [] (f7 (jF cP cB cU) cR cN)) (jb:Def P w K mg base 10 "after" ["canal","ways","state","deed"] [] (lA (jF cP cB cU) cR cN)):FnV P w K mg base jK 14 (JG "ahead_on.<locals>.<lambda>" (yQ kQ) (y8 kQ) (vZ kQ) ["ways","canal"] (yP (jF cP cB cU) cR cN)):=by
 refine DX (k:=13) LK (fun _ _ _ _ _ _=>rfl) fun A outer s H f cdv cl fvs v Q E hcl hr hc h=>?_
 obtain ⟨x,wl,st,H0,us,ys,d,ms,pl,D,R,L,N,rfl,⟨⟩,s0,h0,hcn,hdr,hwl,hA,hst,hfl,hml,hd0,q⟩:=h;have hu:_<cLine:=hr.units0;have hu1:=d9 hr;have hu9:=QS hr;have hu10:=QO hr;refine ⟨_,(gI ["deed","canal","ways","state"] [2,1,0] (qS (vZ kQ)) (qV (jP wg hr rfl (j4 (pv 2) (pv 1) (pv 0)))) (fun _ _ _ _ _=>(qA (jB (pv 0) (jB (jP jb hr rfl (yG (pv 1) (pv 2) (pv 3) (pv 0))) jE))))),?_⟩;have sd:=lG s0 h0;have hG:Stage _ _ _ D (kR H (cl.map (·.2))) x wl st us R L N ys d ms pl:=⟨hcn.same sd,hdr,sd _ _ hwl,hA.mono (WyAt.same sd),hst.del hc,hfl,hml⟩;refine (jA rfl (jA rfl (jA rfl ((eD x wl st us ys d ms pl D R L N (yE rfl hG (fun r zs H1 s1 hr0 hr1 hdd=>⟨r,rfl,⟨_,so hr1⟩,fun bt hbt=>?_⟩)))))));have hml0:(vJ R L N.length ys d ms pl).length≤999:=by
  have h1:=bd (fun de=>decide (v6 R L N.length ys d ms pl de="")) (y7 ys.length L.length);rw [iY] at h1;have h2:=hfl.n10;have h3:=hdr.l8;exact aG h1 (by omega)
 refine zR (K:=K) (a:=r) (xs:=zs) (caps:=[some (.ref x),some (.ref wl),some (.ref st)]) (fun j ws Hk=>zK Hk ws (zV R L N ys (d,ms,pl) ((vJ R L N.length ys d ms pl).take j))) hbt (so hr1) ⟨rfl,fun i x e=>by cases e⟩ ?_ ?_
 ·rintro j v ws Hk hv hj hle sm hY hR;obtain ⟨de,hde,ta,rfl,hta⟩:=hdd.2 j v hv;have hin:=aO.mp (ai hde);have hj9:j<(vJ R L N.length ys d ms pl).length:=(ad.mp hde).1;refine yF (kU ?_);refine (jA rfl (jA rfl (jA rfl (jA rfl (jA rfl ((cJ x wl st ta de us ys d ms pl D R L N (bD rfl ((hG.same s1).same sm) (sm _ _ hta) (rF hin.1) hd0 (bu hin.2) (fun r2 H2 gs s2 hr2 hs2 hSp=>⟨small (by show 2≤1000;decide),fun tp htp=>?_⟩)))))))));have u:=jJ htp (.tup [V.ref ta,V.ref r2]);have hnx:=tP (s:=(d,ms,pl)) (ys:=ys) (N:=N) (de:=de) hdr hml hSp;refine vY (R:=fun j ws Hk=>zK Hk ws (zV R L N ys (d,ms,pl) ((vJ R L N.length ys d ms pl).take j))) hbt sm hY hle (by omega) (s2.trans u) ?_;have tk:∀a l,Hk a=some (.tup l)→upd (upd H2 tp (.tup [V.ref ta,V.ref r2])) bt (.lst (ws++[.ref tp])) a=some (.tup l):=fun a l e=>by rw [jH fun z=>by subst z;rw [hY] at e;cases e];exact u _ _ (s2 _ _ e)
  have hbt2:upd H2 tp (.tup [V.ref ta,V.ref r2]) bt=some (.lst ws):=u _ _ (s2 _ _ hY);have tk2:∀a l,upd H2 tp (.tup [V.ref ta,V.ref r2]) a=some (.tup l)→upd (upd H2 tp (.tup [V.ref ta,V.ref r2])) bt (.lst (ws++[.ref tp])) a=some (.tup l):=fun a l e=>by rw [jH fun z=>by subst z;rw [hbt2] at e;cases e];exact e
  have ht:(vJ R L N.length ys d ms pl).take (j+1)=(vJ R L N.length ys d ms pl).take j++[de]:=by rw [aC,hde];rfl
  show zK _ _ (zV R L N ys (d,ms,pl) ((vJ R L N.length ys d ms pl).take (j+1)));rw [ht];unfold zV;rw [aJ];refine rH (p:=(yX de,jZ (QA R L N ys (d,ms,pl) de))) (fG tk hR) (tk2 _ _ jD) (FH (tk _ _ (sm _ _ hta))) ?_ (FI de) (gC _);have h3:(GV (upd H2 tp (.tup [V.ref ta,V.ref r2])) (jZ (QA R L N ys (d,ms,pl) de))).1 (.ref r2):=by
   rw [hnx];exact eA (s:=(Z2 d de,kK ms (QP R L N ys d ms pl de gs),Q7 pl de)) (hs2.same u)
  exact (GV.keep tk2 _).1 _ h3
 ·rintro ws Hg sg hbg hleg hR hn;rw [hdd.1,aL] at hR;have sa:=(s1.trans sg);refine q _ _ _ (fL sa) ?_ (lX hn hbg) ?_
  ·have hb:bt∉cl.map (·.2):=fun hin=>by rw [hn bt hin] at hbg;cases hbg
   cases e:H bt with
   |none=>rfl
   |some o=>have:=s1 bt o (by rw [vG hb];exact e);rw [hbt] at this;cases this
  ·exact fG (fun a l e=>lX hn e) hR
theorem L7:jT 2 ["canal","ways"] kZ:=jS
theorem IV {f:Addr} {fd:FuncData} (F:Fun K "knot" "knot" kZ f fd) {cL tH:Addr} (hcL:fd.code=.ref cL) (hC:W.CodeHd base cL tH) (hB:base.BuiltinsAt mg tH) (hgT:PySem.mainGlobals≠tH):FnOk P w K mg base jK 1 f fd ["canal","ways"] (dO tH 2 (vP kZ) "knot.<locals>.<lambda>" (yQ kZ) (y8 kZ) (vZ kZ) ["ways","canal"] [1,0]) :=
  F.maker (k:=0) hcL L7 hC hB hgT (fun n=>[("ways",n+2),("canal",n+1)]) rfl (fun _=>rfl) (fun _=>rfl) (fun _=>rfl) (fun n=>by simp) (fun _=>rfl) (fun n i x c h=>by
    match i,h with
    |0,h=>cases h;exact ⟨1,rfl,by decide,rfl,rfl,rfl⟩
    |1,h=>cases h;exact ⟨0,rfl,by decide,rfl,rfl,rfl⟩
    |i+2,h=>cases h) rfl
theorem LY:jT 2 ["canal","ways"] kQ:=jS
theorem IK {f:Addr} {fd:FuncData} (F:Fun K "ahead_on" "ahead_on" kQ f fd) {cL tA:Addr} (hcL:fd.code=.ref cL) (hC:W.CodeHd base cL tA) (hB:base.BuiltinsAt mg tA) (hgT:PySem.mainGlobals≠tA):FnOk P w K mg base jK 1 f fd ["canal","ways"] (dO tA 2 (vP kQ) "ahead_on.<locals>.<lambda>" (yQ kQ) (y8 kQ) (vZ kQ) ["ways","canal"] [1,0]) :=
  F.maker (k:=0) hcL LY hC hB hgT (fun n=>[("ways",n+2),("canal",n+1)]) rfl (fun _=>rfl) (fun _=>rfl) (fun _=>rfl) (fun n=>by simp) (fun _=>rfl) (fun n i x c h=>by
    match i,h with
    |0,h=>cases h;exact ⟨1,rfl,by decide,rfl,rfl,rfl⟩
    |1,h=>cases h;exact ⟨0,rfl,by decide,rfl,rfl,rfl⟩
    |i+2,h=>cases h) rfl
theorem iV:jT 2 ["came","state","row","step"] pI:=jS
include T in
theorem KR (F:kH K "row_to" pI f fd) : FnOk P w K mg base jK 2 f fd ["came","state"] (B0 w):=by
  refine F.ok2 iV fun vs H Q E h=>?_
  refine ZO h fun d y T0 met k k0 j0 h=>?_
  refine eF h fun e_ hC hl hy h8 hk hlev q=>?_
  subst e_;refine ⟨rfl,fun _ _ _ _ hr=>?_⟩;have hu9:=QS hr;have hu10:=QO hr;refine ⟨_,(@jG _ _ _ _ _ (jX 2 iV.nd (qJ jE))
      (@jG _ _ _ _ _ (jX 3 iV.nd (DM hu9 (pv 0) (pv 1) (fun _ _=>rfl)))
      (@jG _ _ _ _ _ (sO aX (kI DP (pv 3) ZC) (@jG _ _ _ _ _ (JJ (QX bb bj bn QK (pv 2) (jB (jI (jR K) (pv 3) jC) jE)))
      (@kX _ _ _ (jX 3 iV.nd (DM hu9 (pv 0) (jI (jR K) (pv 3) jC) (fun _ _=>rfl))))))
      (jO (NP rfl (by rfl) T.xn (by rfl) T.xu (jB (pv 2) jE)))))),?_⟩
  try dsimp only [jV,jU]
  refine ⟨aY _,fun r hr0=>?_⟩;have u0:=jJ hr0 (.lst []);obtain ⟨kvs,e1,g,e2,e3⟩:=hC.ex;obtain ⟨i,hi⟩:=aQ.mp hk;have hil:=(ad.mp hi).1;have at_:∀(i:Nat) (k:GK),met[i]?=some k→∃p:qU,kvs[i]?=some p∧p.1=k:=fun i k h=>by
    rw [← e2,av] at h;exact ge.mp h
  obtain ⟨p,hp,hpk⟩:=at_ i k hi;refine (jA rfl (jA rfl (⟨d,kvs,k,jA rfl (⟨.of (u0 _ _ e1),dG u0 g,qM u0 hy,h8,by rw [← hpk];exact DV g.once hp,?_⟩)⟩)));have step:∀(Hi:Hp) (i:Nat) (p:qU),Same H Hi→kvs[i]?=some p→((p.2.2=.non∧p.1=k0)∨∃t yp dv kp de j,p.2.2=.ref t∧Hi t=some (.tup [yp,dv])∧(GV Hi kp).1 yp∧gd kp≤8∧(GV Hi de).1 dv∧gd de≤8∧(de,p.1)∈ZG T0 kp∧wC T0 k0 kp p.1∧met[j]?=some kp∧j<i):=fun Hi i p s hp=>by
    rcases e3 i p hp with ⟨h,hz⟩|⟨t,yp,dv,kp,de,j,a1,a2,a3,a4,a5,a6,a7,a8,a9⟩
    · exact .inl ⟨h,hz⟩
    · exact .inr ⟨t,yp,dv,kp,de,j,a1,s _ _ a2,qM s a3,a4,qM s a5,a6,a9.1,a9.2,a8,a7⟩
  refine ⟨FL H d y r met T0 k k0 j0,⟨i,p.2.2,[],[],k,j0,rfl,u0,jD,⟨rfl,fun i x e=>by cases e⟩,by show 0+i≤1000;omega,rfl,hlev,Nat.zero_add j0,by rw [← hpk];exact step _ i p u0 hp⟩,?_⟩;rintro m σ Hi ⟨sv,xs,rd,c,jc,rfl,s,hr,hks,hlm,hpa,hlc,hj0,hs⟩;refine ⟨_,rfl,rfl,jA rfl (?_)⟩
  rcases hs with ⟨rfl,rfl⟩|⟨t,yp,dv,kp,de,j,rfl,ht,hyp,hp8,hde,hde8,hah,⟨jl,hl1,hl2⟩,hj,hjm⟩
  · refine y9 rfl ?_
    refine (jA rfl (⟨r,xs,rfl,so hr,fun l hl=>q l _ rd.reverse _ (s.trans (jJ hl _)) ?_ jD ?_ hpa ?_⟩))
    · cases e:H l with
      |none=>rfl
      |some o=>have:=s _ _ e;rw [hl] at this;cases this
    · exact (hks.rev).same (jJ hl _)
    · have h0:c∈j5 T0 c 0:=by show c∈[c];simp
      rw [dq];have:=CJ hlc h0;omega
  · refine ZZ (fun z=>by cases z) ⟨fun σ' H'=>∃m',m'<m∧FL H d y r met T0 k k0 j0 m' σ' H',fun _ _ h=>h,?_⟩
    obtain ⟨p',hp',hpk'⟩:=at_ j kp hj;have hxl:=hks.1;refine (jA rfl (⟨.inl ⟨rfl,_,so hr⟩,jA rfl (⟨t,_,_,dv,rfl,rfl,SqT.of ht,rfl,r,_,_,rfl,rfl,hr,J7 (by omega),?_⟩)⟩));have tk:∀a l,Hi a=some (.tup l)→upd Hi r (.lst (xs++[dv])) a=some (.tup l):=fun a l e=>by rw [jH (fun z=>by rw [z,hr] at e;cases e)];exact e
    have s2:Same H (upd Hi r (.lst (xs++[dv]))):=qI hr0 s;refine (jA rfl (jA rfl (⟨t,_,_,yp,rfl,rfl,SqT.of (tk _ _ ht),rfl,d,kvs,kp,jA rfl (⟨.of (s2 _ _ e1),dG s2 g,(GV.keep tk _).1 _ hyp,hp8,by rw [← hpk'];exact DV g.once hp',?_⟩)⟩)));have hjl:=CJ hlc hl2;refine ⟨j,hjm,p'.2.2,xs++[dv],rd++[de],kp,jl,rfl,s2,jD,hks.snoc tk hde hde8,by rw [ag,aN];omega,?_,hl1,by rw [ag,aN];omega,by rw [← hpk'];exact step _ j p' s2 hp'⟩;rw [reverse_append];exact ⟨c,hah,hpa⟩
theorem eX:jT 3 ["layer","ahead","came","fresh","state","deed","behind"] o8:=jS
include T in
theorem KG (F:kH K "next_layer" o8 f fd) (ju:FnV P w K mg base jK 14 (JG "ahead_on.<locals>.<lambda>" (yQ kQ) (y8 kQ) (vZ kQ) ["ways","canal"] (yP (jF cP cB cU) cR cN))):FnOk P w K mg base jK 16 f fd ["layer","ahead","came"] (C6 w (JG "ahead_on.<locals>.<lambda>" (yQ kQ) (y8 kQ) (vZ kQ) ["ways","canal"] (yP (jF cP cB cU) cR cN))):=by
 refine F.ok2 eX fun vs H Q E h=>?_
 refine u4 h fun l fa dc H0 T0 xs lay met R0 h=>?_
 refine uT h fun e_ s0 hdc hA hsh hsz hl hks hsub hdom hC hR0 q=>?_
 subst e_;refine ⟨rfl,fun _ _ _ _ hr=>?_⟩;have hu9:=QS hr;have hu10:=QO hr;refine ⟨_,(@jG _ _ _ _ _ (jX 3 eX.nd (qJ jE))
   (@jG _ _ _ _ _ (yK aX rfl (qV (pv 0)) (kC (i:=4) eX.nd rfl (.inl rfl))
    (@kX _ _ _ (yK aX rfl (qV (bN (i:=1) ju (hr.mono (by decide)) zW rfl (by first|exact .inl rfl|exact .inr rfl|exact .inr (.inl rfl)|exact .inr (.inr rfl)) (jB (pv 4) jE))) (l9 rfl (qW (kC (i:=5) eX.nd rfl (.inl rfl)) (qW (kC (i:=6) eX.nd rfl (.inl rfl)) JD)))
    (@kX _ _ _ (kT (ES (AX hu9 (pv 6) (pv 2))) (@jG _ _ _ _ _ (DG hu9 (pv 2) (pv 6) (qA (jB (pv 4) (jB (pv 5) jE))) rfl)
   (@kX _ _ _ (JJ (QX bb bj bn QK (pv 3) (jB (pv 6) jE))))) kS)))))
   (jO (pv 3)))),?_⟩
 try dsimp only [jV,jU]
 refine ⟨aY _,fun r hr0=>?_⟩;have u0:=jJ hr0 (.lst []);obtain ⟨kvs0,c1,_⟩:=hC.ex;have hne:r≠dc:=fun z=>by rw [z,c1] at hr0;cases hr0
 have lne:l≠dc:=fun z=>by rw [z,c1] at hl;cases hl
 refine (jA rfl (⟨l,rfl,⟨_,so (u0 _ _ hl)⟩,?_⟩));refine JM (K:=K) (xs:=xs) (fun i σ Hi=>∃acc c4 c5 c6,σ=[some (.ref l),some (.ref fa),some (.ref dc),some (.ref r),c4,c5,c6]∧NextIn R0 w H Hi dc r T0 met acc∧acc=qO T0 met [] (lay.take i)) ⟨[],none,none,none,rfl,⟨fun a o _ e=>u0 _ _ e,hr0,hne,⟨[],jD,rfl,fun i x e=>by cases e⟩,by rw [br];exact hC.same u0,fun x hx=>by cases hx⟩,rfl⟩ (fun i σ Hi _ ⟨_,_,_,_,_,hI,_⟩=>so (hI.keep l _ lne hl)) ?_ ?_
 ·rintro i x σ Hi hx ⟨acc,c4,c5,c6,rfl,hI,hacc⟩;obtain ⟨k,hk,hyk,h8⟩:=hks.2 i x hx;have hkm:=hsub k (ai hk);have hps:=hdom k hkm;have tkI:∀a z,H a=some (.tup z)→Hi a=some (.tup z):=fun a z e=>hI.keep a _ (fun y=>by rw [y,c1] at e;cases e) e
  have sI:Same H0 Hi:=fun a o e=>hI.keep a o (q8 e hdc) (s0 _ _ e)
  have hyk':=(GV.keep tkI k).1 _ hyk;refine ⟨fa,rfl,jA rfl (hA _ _ k _ _ sI hps hyk' fun p zs HP up hp0 hpl hPP=>⟨p,rfl,⟨_,so hpl⟩,?_⟩)⟩;obtain ⟨kvsI,d1,_⟩:=hI.came.ex;obtain ⟨ysI,r1,_⟩:=hI.row;have pne:p≠dc:=fun z=>by rw [z,d1] at hp0;cases hp0
  have pnr:p≠r:=fun z=>by rw [z,r1] at hp0;cases hp0
  have hah:T0.1 k=T0.1 k:=rfl;refine JM (K:=K) (a:=p) (xs:=zs) (fun j σ Hj=>∃acc' c5 c6,σ=[some (.ref l),some (.ref fa),some (.ref dc),some (.ref r),some x,c5,c6]∧NextIn R0 w H Hj dc r T0 met acc'∧(∀a o,a≠dc→a≠r→HP a=some o→Hj a=some o)∧acc'=vX met acc ((T0.1 k).take j)) ⟨acc,c5,c6,rfl,⟨fun a o n e=>up _ _ (hI.keep a o n e),hI.rn,hI.nr,⟨ysI,up _ _ r1,?_⟩,hI.came.same up,hI.dom⟩,fun _ _ _ _ e=>e,rfl⟩ (fun j σ Hj _ ⟨_,_,_,_,_,kp,_⟩=>so (kp p _ pne pnr hpl)) ?_ ?_
  ·obtain ⟨ys',r1',r2'⟩:=hI.row;rw [r1] at r1';cases r1'
   exact r2'.same up
  ·rintro j z σ Hj hz ⟨acc',c5,c6,rfl,hJ,kp,hacc'⟩;obtain ⟨pr,t,b,c,p1,rfl,p3,p4,p5,p6,p7⟩:=hPP.2 j z hz;have tkJ:∀a z,HP a=some (.tup z)→Hj a=some (.tup z):=fun a z e=>kp a _ (fun y=>by rw [y,up _ _ d1] at e;cases e) (fun y=>by rw [y,up _ _ r1] at e;cases e) e
   have p3':=tkJ _ _ p3;have p4':=(GV.keep tkJ _).1 _ p4;have p5':=(GV.keep tkJ _).1 _ p5;have hxJ:=(GV.keep tkJ _).1 _ (qM up hyk');have hin:pr∈T0.1 k:=by exact ai p1
   have ht:((T0.1 k).take (j+1))=(T0.1 k).take j++[pr]:=by rw [aC,p1];rfl
   obtain ⟨kvs,e1,g,e2,e3⟩:=hJ.came.ex;refine ⟨t,[b,c],rfl,.inl (.inl p3'),rfl,_,jA rfl (⟨_,_,rfl,rfl,jA rfl (jA rfl ((v8 dc kvs pr.2 (yH rfl (.of e1) g p5' p7 (jA rfl (?_))))))⟩)⟩;rw [BD,e2]
   by_cases hm:pr.2∈met++acc'
   ·rw [aK hm];refine kY ⟨acc',_,jA rfl (⟨hJ,kp,?_⟩)⟩;rw [ht,fD,← hacc',yW,if_pos hm]
   ·rw [aI hm];obtain ⟨ys,er,hky⟩:=hJ.row;have hlen:(met++acc').length≤1000:=by
     have:=sU (l:=met++acc') (m:=met++qO T0 met [] lay) (by rw [← e2];exact g.once) (fun x hx=>(aR.mp hx).elim (fun h=>bz _ h) fun h=>aU _ (sY (i:=i) (j:=j) hk rfl (by rw [← hacc,← hacc'];exact h)));omega
    have hkl:kvs.length=(met++acc').length:=by rw [← e2,ae]
    refine kU (jA rfl (jA rfl (⟨small (by show 2≤1000;decide),fun t2 ht2=>(jA rfl (jA rfl ((v8 dc kvs pr.2 (bD rfl (jJ ht2 _ _ _ e1) (dG (jJ ht2 _) g) (qM (jJ ht2 _) p5') p7 (J7 (by omega)) (?_))))))⟩)));have er3:upd (upd Hj t2 (.tup [x,b])) dc (GO w dc (vQ kvs pr.2 c (.ref t2))) r=some (.lst ys):=by rw [jH hJ.nr];exact jJ ht2 _ _ _ er
    refine (jA rfl (⟨.inl ⟨rfl,_,so er3⟩,jA rfl (⟨r,_,_,rfl,rfl,er3,J7 (by have:=hky.1;rw [ag] at hlen;omega),?_⟩)⟩));refine ⟨acc'++[pr.2],_,jA rfl (⟨hJ.put e1 g e2 e3 er hky hm ht2 hxJ h8 hkm p4' p6 p5' p7 (hR0 k (ai hk) pr hin (sY (i:=i) (j:=j+1) hk hah (by rw [← hacc,ht,fD,← hacc',yW,if_neg hm];exact aU _ (aA.mpr rfl)))) (hsh k pr hps hin),fun a o n1 n2 e=>?_,?_⟩)⟩
    ·rw [jH n2,jH n1];exact jJ ht2 _ _ _ (kp a o n1 n2 e)
    ·rw [ht,fD,← hacc',yW,if_neg hm]
  ·rintro σ Hj ⟨acc',c5,c6,rfl,hJ,kp,hacc'⟩;refine ⟨acc',_,_,jA rfl (⟨hJ,?_⟩)⟩;rw [hPP.1,aL] at hacc';rw [hacc',aC,hk];show _=qO T0 met [] (lay.take i++[k]);rw [rE,← hacc]
 ·rintro σ Hf ⟨acc,c4,c5,c6,rfl,hI,hacc⟩;rw [hks.1,aL] at hacc;subst hacc;obtain ⟨ys,er,hky⟩:=hI.row;exact (jA rfl (q r ys Hf hI.rn hI.nr hI.keep er hky hI.came))
theorem eU:jT 4 ["first","ahead","ended","most","came","layers","ended_ones","layer"] iJ:=jS
include T in
theorem IY (F:kH K "layered" iJ f fd) (xae:FnV P w K mg base jK 15 (JG "knot.<locals>.<lambda>" (yQ kZ) (y8 kZ) (vZ kZ) ["ways","canal"] (zU (jF cP cB cU) cR cN))) (xay:Def P w K mg base 2 "row_to" ["came","state"] [] (B0 w)) (jd:Def P w K mg base 16 "next_layer" ["layer","ahead","came"] [] (C6 w (JG "ahead_on.<locals>.<lambda>" (yQ kQ) (y8 kQ) (vZ kQ) ["ways","canal"] (yP (jF cP cB cU) cR cN)))):FnOk P w K mg base (vT P w) 18 f fd ["first","ahead","ended","most"] (xS w (JG "ahead_on.<locals>.<lambda>" (yQ kQ) (y8 kQ) (vZ kQ) ["ways","canal"] (yP (jF cP cB cU) cR cN)) (JG "knot.<locals>.<lambda>" (yQ kZ) (y8 kZ) (vZ kZ) ["ways","canal"] (zU (jF cP cB cU) cR cN)) eTW):=by
 refine F.okX2 eU fun vs H Q E h=>?_
 refine zB h fun y fa fe most T0 M k0 N h=>?_
 refine uT h fun e_ hA hE hsh hfit hy h8 hk0 hN hSt qF qC qE=>?_
 subst e_;refine ⟨rfl,fun _ _ _ _ hr=>?_⟩;have hu9:=QS hr;have hu10:=QO hr;refine ⟨_,(@jG _ _ _ _ _ (jX 4 eU.nd (CD hu9 (pv 0) ZC))
   (@jG _ _ _ _ _ (jX 5 eU.nd (qJ (jB (qJ (jB (pv 0) jE)) jE)))
   (@jG _ _ _ _ _ (sO EW (kI U3 (y6 AE (by rfl) T.xf PySem.boot_len (jB (pv 4) jE)) (pv 3)) (@jG _ _ _ _ _ (J0 (i:=6) ["state","ended"] (q9 1 [2]) eU.nd rfl (.inl rfl) rfl (qS (jM iJ)) (cps 1 [2]) (qV (jI (kM K) (pv 5) (QW QQ jC))) (fun _ _ _ _ _=>(kC (i:=0) (show List.Nodup (["state","ended"]:List Str) from by decide +kernel) rfl (.inl rfl))) (fun _ _ _ _ _=>(JN (yA (bN (i:=1) xae (hr.mono (by decide)) zW rfl (by first|exact .inl rfl|exact .inr rfl|exact .inr (.inl rfl)|exact .inr (.inr rfl)) (jB (pv 0) jE))))) (fun _ _ _ _ _=>(pv 0)))
   (@jG _ _ _ _ _ (kT (CC (pv 6) (fun _=>rfl)) (jO (qA (j4 j6 (jP xay hr rfl (jB (pv 4) (jB (jI (kM K) (pv 6) jC) jE))) (pv 5)))) kS)
   (@jG _ _ _ _ _ (jX 7 eU.nd (jP jd hr rfl (j4 (jI (kM K) (pv 5) (QW QQ jC)) (pv 1) (pv 4))))
   (@jG _ _ _ _ _ (kT (J8 (CC (pv 7) (fun _=>rfl))) (jO (qA (jB j6 (jB (pv 5) jE)))) kS)
   (@kX _ _ _ (JJ (QX bb bj bn QK (pv 5) (jB (pv 7) jE)))))))))
   (@kX _ _ _ (sP rN rfl rfl T.vf T.vg (jB j6 jE)))))),?_⟩
 try dsimp only [jV,jU]
 have dom:=fun i x (h:x∈(jQ T0 k0 i).flatten)=>bP hsh hk0 i x h
 refine fun dc hdc=>(jA rfl (⟨jD,k0,qM (jJ hdc _) hy,h8,?_⟩))
 have s1:Same H (upd (upd H dc (GO w dc [])) dc (GO w dc [(k0,y,.non)])):=qI hdc (jJ hdc _);have d1:upd (upd H dc (GO w dc [])) dc (GO w dc [(k0,y,.non)]) dc=some (GO w dc [(k0,y,.non)]):=jD;refine (jA rfl (⟨small (by show 1≤1000;decide),fun l1 hl1=>⟨small (by show 1≤1000;decide),fun lr hlr=>?_⟩⟩));have u1:=jJ hl1 (.lst [y]);have u2:=jJ hlr (.lst [.ref l1]);have s2:=(s1.trans u1).trans u2;have ne1:l1≠lr:=fun z=>by rw [← z,jD] at hlr;cases hlr
 have hlr0:H lr=none:=by
  cases e:H lr with
  |none=>rfl
  |some o=>have:=(s1.trans u1) _ _ e;rw [hlr] at this;cases this
 refine ⟨GA w H y fa fe most dc lr T0 k0 N,(yD N 0 none none (yZ rfl (Nat.add_zero N) s2 (RU rfl (u2 _ _ (u1 _ _ d1)) (qM s2 hy) h8) (rK jD (u2 _ _ jD) ne1 (qM s2 hy) h8))),?_⟩;rintro m σ Hi ⟨i,c6,c7,rfl,hm,s,hC,hL⟩;obtain ⟨kvs,e1,g,e2,e3⟩:=hC.ex;have hkl:kvs.length=(jQ T0 k0 i).flatten.length:=by rw [← e2,ae]
 refine (jA rfl (⟨dc,kvs,rfl,.of e1,g,jA rfl (j9 ((jA rfl (cI (fun c=>?_) (fun c=>?_)))))⟩))
 case refine_2 =>
  have c':¬((kvs.length:Nat):Int)≤most:=ik (gn.mpr c);have:=lC (T:=T0) (k0:=k0) (i:=i) m;rw [show i+m=N by omega] at this;exact ⟨by show 1≤sizeLine;decide,qE (by omega) _ s⟩
 have c':((kvs.length:Nat):Int)≤most:=bu c;refine ⟨fun σ' H'=>∃m',m'<m∧GA w H y fa fe most dc lr T0 k0 N m' σ' H',fun _ _ h=>h,?_⟩;obtain ⟨xs,la,ys,f1,f2,f3,f4,f5,f6⟩:=hL.last;have hyl:ys.length≤1000:=by
  rw [f5.1];have:=hfit i (by omega);have h2:(j5 T0 k0 i).length≤(jQ T0 k0 i).flatten.length:=(sublist_flatten_of_mem (ai (sW i))).length_le;omega
 refine (jA rfl (jA rfl (⟨lr,xs,_,_,rfl,rfl,so f1,f2,la,rfl,⟨_,so f4⟩,fun bt hbt=>?_⟩)));refine zR (K:=K) (a:=la) (xs:=ys) (caps:=[some (.ref fe)]) (fun j zs Hj=>KeysAt Hj zs (((j5 T0 k0 i).take j).filter M)) hbt (so f4) ⟨rfl,fun i x e=>by cases e⟩ ?_ ?_
 ·rintro j x zs Hj hx hj hle sm hY hR;obtain ⟨kj,hkj,hgj,h8j⟩:=f5.2 j x hx;have hdj:=dom i kj (Q9 (ai hkj));refine ⟨fe,rfl,jA rfl (hE _ _ kj _ _ (s.trans sm) hdj (qM sm hgj) fun He se=>(jA rfl (?_)))⟩;have ht:((j5 T0 k0 i).take (j+1))=(j5 T0 k0 i).take j++[kj]:=by rw [aC,hkj];rfl
  cases hMk:M kj with
  |true =>
   refine kU (jA rfl (vY hbt sm hY hle (by omega) se ?_));show KeysAt _ _ (((j5 T0 k0 i).take (j+1)).filter M);rw [ht,aT,aP,if_pos hMk];exact hR.snoc (k:=kj) (fun a l e=>by rw [jH fun z=>by subst z;rw [hY] at e;cases e];exact se _ _ e) (qM sm hgj) h8j
  |false =>
   refine kY (J3 sm hY hle se ?_);show KeysAt _ _ (((j5 T0 k0 i).take (j+1)).filter M);rw [ht,aT,aP,if_neg (by rw [hMk];decide)];have hR2:=hR.same se
   simpa using hR2
 rintro zs Hg sg hbtg hleg hR;rw [f5.1,aL] at hR;have hany:=CW (M:=M) (l:=j5 T0 k0 i);have sG:=s.trans sg;cases hf:(j5 T0 k0 i).filter M with
 |cons kf rest =>
  rw [hf] at hR hany;have hi:i=N:=lP hN hm (.inl hany);subst hi
  match zs,hR with
  |[],hR=>exact absurd hR.1 (by simp)
  |z0::zs',hR =>
   obtain ⟨k',a1,a2,a3⟩:=hR.2 0 z0 rfl;cases a1;have hkf:kf∈j5 T0 k0 i:=(aO.mp (by rw [hf];exact aH:kf∈(j5 T0 k0 i).filter M)).1;refine (jA rfl (⟨true,.inl ⟨_,so hbtg,rfl⟩,kU ?_⟩));refine (jA rfl (jA rfl (⟨bt,_,0,z0,rfl,rfl,so hbtg,qB (j:=0) rfl,W1 dc z0 T0 _ kf k0 i (gS rfl (hC.same sg) (hfit i (by omega)) a2 a3 (Q9 hkf) hkf (fun rr xs' des H' s' hrr0 hrr hkd hpa hdl=>(jA rfl (⟨small (by show 3≤1000;decide),fun t ht=>?_⟩))))⟩)));have ut:=jJ ht (.tup [.str "found",.ref rr,.ref lr]);exact qF (by omega) hany t rr lr xs' des kf _ ((sG.trans s').trans ut) jD (ut _ _ hrr) (hkd.same ut) hpa (aO.mp (by rw [hf];exact aH:kf∈(j5 T0 k0 i).filter M)).2 hdl (hL.same ((sg.trans s').trans ut)) (none_of sG hrr0) hlr0 (none_of (sG.trans s') ht) (fun z=>by rw [z,sg _ _ f1] at hrr0;cases hrr0)
 |nil =>
  rw [hf] at hR hany;obtain rfl:zs=[]:=gc hR.1;refine (jA rfl (⟨false,.inl ⟨_,so hbtg,rfl⟩,kY ?_⟩));refine (jA rfl (jA rfl (⟨lr,xs,_,_,rfl,rfl,so (sg _ _ f1),f2,jA rfl (jA rfl (⟨la,fa,dc,H,T0,ys,j5 T0 k0 i,(jQ T0 k0 i).flatten,wM T0 k0,rfl,sG,hdc,hA,hsh,(by have:=hfit (i+1) (by omega);rw [JC] at this;exact this),sg _ _ f4,f5.same sg,fun k hk=>Q9 hk,dom i,hC.same sg,(fun kp hkp p hp hx=>⟨hp,i,hkp,by rw [rL];exact hx⟩),fun r zs2 H' hr0 hrn kB hr2 hk2 hc2=>?_⟩))⟩)));have hL':=hL.same sg |>.keepB kB (sg _ _ e1)
  have sH':Same H H':=fun a o e=>kB a o (q8 e hdc) (sG _ _ e)
  have rlr:r≠lr:=fun z=>by rw [z,sg _ _ f1] at hr0;cases hr0
  cases hnx:QB T0 k0 i with
  |nil =>
   have hi:i=N:=lP hN hm (.inr hnx);subst hi;rw [show qO T0 (jQ T0 k0 i).flatten [] (j5 T0 k0 i)=[] from hnx] at hk2;obtain rfl:zs2=[]:=gc hk2.1;refine (jA rfl (⟨false,.inl ⟨_,so hr2,rfl⟩,kU (jA rfl (⟨small (by show 2≤1000;decide),fun t ht=>?_⟩))⟩));have ut:=jJ ht (.tup [.str "closed",.ref lr]);exact qC (by omega) hany t lr _ (sH'.trans ut) jD (hL'.same ut) hlr0 (none_of sH' ht)
  |cons kx rest =>
   have hk2':=hk2;rw [show qO T0 (jQ T0 k0 i).flatten [] (j5 T0 k0 i)=kx::rest from hnx] at hk2';have hlt:m≠0:=fun z=>by
    have hi:i=N:=by omega
    rw [← hi] at hSt
    rcases hSt with (h|h)|h
    ·rw [hany] at h;cases h
    ·rw [hnx] at h;cases h
    ·omega
   match zs2,hk2',hr2,hk2 with
   |[],hk2',_,_=>exact absurd hk2'.1 (by simp)
   |z1::zs3,_,hr2,hk2 =>
    obtain ⟨xs2,g1,g2,_⟩:=hL'.ex;rw [ZR] at g2;refine (jA rfl (⟨true,.inl ⟨_,so hr2,rfl⟩,kY (jA rfl (⟨.inl ⟨rfl,_,so g1⟩,jA rfl (⟨lr,_,_,rfl,rfl,g1,J7 ?_,?_⟩)⟩))⟩))
    ·have h2:=bM (T:=T0) (M:=M) (k0:=k0) i (fun j hj=>hN j (by omega));have:=hfit i (by omega);omega
    ·refine ⟨m - 1,by omega,i+1,_,jA rfl (⟨by omega,qI hlr0 sH',?_,?_⟩)⟩
     ·rw [JC];exact PF hc2 g1
     ·rw [fH];exact hL'.put g1 hr2 hk2 rlr
def AU (K:W.Frag) (cs:Kd→Addr) (cR cN:Addr):Sp:=fun vs H Q _=>∃(s:Addr) (ns:List Int),vs=[.ref s]∧SqL K H s (ns.map V.int)∧ns.length≤63∧∀(x:Addr) (R:List RC) (L:List LC) (N:List (List (Int×Int))) (H':Hp),Drawn R L N→2≤R.length→1≤L.length→L.length≤2→Same H H'→H x=none→CnAt cs cR cN [] H' x R L N→Q (.ref x) H'
def C5 (K:W.Frag) (cs:Kd→Addr) (cR cN:Addr):Sp:=fun vs H Q _=>∃(s x:Addr) (ns:List Int) (k:Nat) (D:List Addr) (R:List RC) (L:List LC) (N:List (List (Int×Int))),vs=[.ref s,.int (k:Int),.ref x]∧SqL K H s (ns.map V.int)∧ns.length≤63∧k<20∧CnAt cs cR cN D H x R L N∧Drawn R L N∧1≤L.length∧∀(t:Addr) (y:jY) (H':Hp),WyOk L y→Same H H'→H t=none→WyAt H' (.ref t) y→Q (.ref t) H'
def AN (K:W.Frag) (cs:Kd→Addr) (cR cN:Addr):Sp:=fun vs H Q _=>∃(s x wl:Addr) (ns:List Int) (us:List V) (ys:List jY) (D:List Addr) (R:List RC) (L:List LC) (N:List (List (Int×Int))),vs=[.ref s,.ref x,.ref wl]∧SqL K H s (ns.map V.int)∧ns.length≤63∧CnAt cs cR cN D H x R L N∧Drawn R L N∧H wl=some (.lst us)∧AllAt (WyAt H) us ys∧ys.length≤10∧(∀y∈ys,WyOk L y)∧
 ∀(st:Addr) (d:Int) (ms:List Int) (pl:List Nat) (H':Hp),Same H H'→StAt H' st d ms pl→Fleet L ys pl→0≤d→ms.length=R.length+2*L.length+2→Q (.ref st) H'
def yL (L:List LC) (a:Int) (b:Bool) (i:Nat):List (Nat×Bool):=((List.range i).filter fun k=>decide ((vM L (k,b)).1=a)).map fun k=>(k,b)
theorem DF {L:List LC} {a:Int} {b:Bool} {i:Nat} (h:(vM L (i,b)).1=a):yL L a b (i+1)=yL L a b i++[(i,b)]:=by
 unfold yL;rw [ic,aT,aP,if_pos (aK h),aJ];rfl
theorem EQ {L:List LC} {a:Int} {b:Bool} {i:Nat} (h:¬(vM L (i,b)).1=a):yL L a b (i+1)=yL L a b i:=by
 unfold yL;rw [ic,aT,aP,if_neg (by rw [aI h];decide),aJ];exact br _
theorem sdT_mem {L:List LC} {a:Int} {b:Bool} {i:Nat} {p:Nat×Bool}:p∈yL L a b i↔p.1<i∧p.2=b∧(vM L p).1=a:=by
 unfold yL;rw [aw];constructor
 ·rintro ⟨k,hk,rfl⟩;exact ⟨du.mp (aO.mp hk).1,rfl,bu (aO.mp hk).2⟩
 ·rintro ⟨h1,h2,h3⟩;obtain ⟨k,c⟩:=p;have h2:c=b:=h2;subst h2;exact ⟨k,aO.mpr ⟨du.mpr h1,aK h3⟩,rfl⟩
theorem ER {L:List LC} {a:Int} {b:Bool} {i:Nat}:(yL L a b i).length≤i:=by
 unfold yL;rw [ae];have:=bd (fun k=>decide ((vM L (k,b)).1=a)) (List.range i)
 rwa [bg] at this
theorem R5 {L:List LC} {a:Int} {p:Nat×Bool} (h:p∈yL L a true L.length++yL L a false L.length):p.1<L.length∧(vM L p).1=a:=by
 rcases aR.mp h with h|h
 ·exact ⟨(sdT_mem.mp h).1,(sdT_mem.mp h).2.2⟩
 ·exact ⟨(sdT_mem.mp h).1,(sdT_mem.mp h).2.2⟩
theorem R4 {L:List LC} {a:Int} (h:EndAt L a):0<(yL L a true L.length++yL L a false L.length).length:=by
 obtain ⟨p,h1,h2⟩:=h;obtain ⟨k,b⟩:=p;refine ip (a:=(k,b)) ?_;cases b with
 |true=>exact bz _ (sdT_mem.mpr ⟨h1,rfl,h2⟩)
 |false=>exact aU _ (sdT_mem.mpr ⟨h1,rfl,h2⟩)
theorem BV:∀(l:List Int),(∀x∈l,0≤x)→(l.sum=0↔∀x∈l,x=0)
 |[],_=>⟨(fun _ x hx=>by cases hx),fun _=>rfl⟩
 |a::l,h=>by
  have ha:=h a aH;have hl:∀x∈l,0≤x:=fun x hx=>h x (ay _ hx)
  have ih:=BV l hl;have hs:0≤l.sum:=by
   clear ih ha h
   induction l with
   |nil=>exact Int.le_refl _
   |cons b l ih2 =>
    have h1:=hl b aH;have h2:=ih2 fun x hx=>hl x (ay _ hx)
    rw [sum_cons];omega
  rw [sum_cons];constructor
  ·intro e x hx
   rcases ax.mp hx with rfl|hx
   ·omega
   ·exact ih.mp (by omega) x hx
  ·intro e;have e1:=e a aH;have e2:=ih.mpr fun x hx=>e x (ay _ hx)
   omega
theorem OY {L:List LC} {ys:List jY} {pl:List Nat} (hf:Fleet L ys pl):QC ys pl=0↔∀i,i<ys.length→pl.getD i 0=(ys.getD i (0,[])).2.length:=by
 have hle:∀i,i<ys.length→pl.getD i 0≤(ys.getD i (0,[])).2.length:=fun i hi=>by
  have hp:i<pl.length:=by rw [hf.len];exact hi
  rw [af,af,aa hi,aa hp];exact hf.le i _ _ (aa hi) (aa hp)
 unfold QC bZ;rw [BV _ fun x hx=>by
  obtain ⟨i,hi,rfl⟩:=aw.mp hx;have:=hle i (du.mp hi);omega]
 constructor
 ·intro h i hi;have:=h _ (aw.mpr ⟨i,du.mpr hi,rfl⟩);omega
 ·intro h x hx;obtain ⟨i,hi,rfl⟩:=aw.mp hx;have:=h i (du.mp hi);omega
def AS:Sp:=fun vs H Q _=>∃(wl st:Addr) (us:List V) (ys:List jY) (d:Int) (ms:List Int) (pl:List Nat) (L:List LC),vs=[.ref wl,.ref st]∧H wl=some (.lst us)∧AllAt (WyAt H) us ys∧StAt H st d ms pl∧Fleet L ys pl∧Q (.bl (decide (QC ys pl=0))) H
def EO (spA:Addr→Sp):Sp:=fun vs H Q _=>∃(y:V) (fa rr:Addr) (T:Gr) (k0 kf:GK) (xs:List V) (des:List GK),vs=[y,.ref fa,.ref rr]∧cM spA H fa T∧Z8 T∧(∀k,(T.1 k).length≤900)∧(∀k de,T.2 k→((T.1 k).filter fun z=>decide (z.1=de)).length≤1)∧(GV H k0).1 y∧T.2 k0∧H rr=some (.lst xs)∧KeysAt H xs des∧JU T k0 des kf∧
 ∀v H',Same H H'→(GV H' kf).1 v→T.2 kf→Q v H'
theorem N7 (nb nl:Nat):(y7 nb nl).Nodup:=by
 have hp:(passes nb).Nodup:=by
  unfold passes;rw [List.Nodup,pairwise_map];exact (nodup_range (n:=nb)).imp fun h e=>h (by injection e)
 have hl:(lets nl).Nodup:=by
  unfold lets;rw [List.Nodup,pairwise_map];exact (nodup_range (n:=nl)).imp fun h e=>h (by injection e)
 unfold y7;rw [fw,fw];refine ⟨⟨hp,hl,fun a ha b hb e=>?_⟩,by simp,fun a ha b hb e=>?_⟩
 ·obtain ⟨i,_,rfl⟩:=aw.mp ha;obtain ⟨j,_,rfl⟩:=aw.mp hb;cases e
 ·cases aA.mp hb;subst e
  rcases aR.mp ha with ha|ha
  ·obtain ⟨i,_,e⟩:=aw.mp ha;cases e
  ·obtain ⟨i,_,e⟩:=aw.mp ha;cases e
theorem NR {ds:List Deed} (hn:ds.Nodup) (g:Deed→GK) (de:GK):((ds.map fun d=>(yX d,g d)).filter fun z=>decide (z.1=de)).length≤1:=by
 induction ds with
 |nil=>exact aY _
 |cons d ds ih =>
  rw [bc] at hn;rw [bf,aP]
  by_cases h:yX d=de
  ·rw [if_pos (aK h)];have:(ds.map fun d=>(yX d,g d)).filter (fun z=>decide (z.1=de))=[]:=filter_eq_nil_iff.mpr fun z hz=>by
    obtain ⟨d2,h2,rfl⟩:=aw.mp hz;rw [ff];exact fun e=>hn.1 (by rw [EC (h.trans e.symm)];exact h2)
   rw [this];exact ar _
  ·rw [if_neg (by rw [ff];exact h)];exact ih hn.2
theorem S0 {R:List RC} {L:List LC} {N:List (List (Int×Int))} {ys:List jY} (k de:GK):(((kJ R L N ys).1 k).filter fun z=>decide (z.1=de)).length≤1:=NR ((N7 _ _).sublist filter_sublist) _ _
def DC:Sp:=fun vs H Q _=>∃(f d:Addr) (LL:List (List GK)),vs=[.ref f,.ref d]∧LayersAt H f LL∧LayersAt H d LL∧LL.length≤1000∧(∀lay∈LL,∀k∈lay,∃s,k=jZ s)∧∀H',Same H H'→Q (.bl true) H'
structure MetAt (w:World) (H:Hp) (d:Addr) (met:List GK):Prop where
 ex:∃kvs,H d=some (GO w d kvs)∧GOk H kvs∧kvs.map (·.1)=met
theorem MetAt.same {w:World} {H H':Hp} {d:Addr} {met:List GK} (s:Same H H') (h:MetAt w H d met):MetAt w H' d met:=by
 obtain ⟨kvs,e1,g,e2⟩:=h.ex;exact ⟨kvs,s _ _ e1,dG s g,e2⟩
theorem ST {w:World} {H:Hp} {d:Addr} {k:GK} {y v:V} (e:H d=some (GO w d [(k,y,v)])) (hy:(GV H k).1 y) (h8:gd k≤8):MetAt w H d [k]:=by
 refine ⟨_,e,⟨fun p hp=>?_,fun p hp=>?_,by simp⟩,rfl⟩
 ·cases aA.mp hp;exact hy
 ·cases aA.mp hp;exact h8
theorem MetAt.put {w:World} {H:Hp} {d:Addr} {met:List GK} {kvs:List qU} {k:GK} {y v:V} (e1:H d=some (GO w d kvs)) (g:GOk H kvs) (e2:kvs.map (·.1)=met) (hk:k∉met) (hy:(GV H k).1 y) (h8:gd k≤8):MetAt w (upd H d (GO w d (vQ kvs k y v))) d (met++[k]):=by
 have tk:∀a l,H a=some (.tup l)→upd H d (GO w d (vQ kvs k y v)) a=some (.tup l):=fun a l e=>by rw [jH (fun z=>by rw [z,e1] at e;cases e)];exact e
 refine ⟨_,jD,(g.set hy h8).keep tk,?_⟩;rw [B7 (by rw [e2];exact hk),aJ,e2];rfl
theorem MetAt.keep {w:World} {H:Hp} {d lr:Addr} {met:List GK} {xs:List V} {o:HO} (h:MetAt w H d met) (e:H lr=some (.lst xs)):MetAt w (upd H lr o) d met:=by
 obtain ⟨kvs,e1,g,e2⟩:=h.ex;have tk:∀a l,H a=some (.tup l)→upd H lr o a=some (.tup l):=fun a l e'=>by rw [jH (fun z=>by rw [z,e] at e';cases e')];exact e'
 exact ⟨kvs,by rw [jH (fun z=>by rw [z,e] at e1;cases e1)];exact e1,g.keep tk,e2⟩
structure NextM (w:World) (H Hi:Hp) (dc r:Addr) (met acc:List GK):Prop where
 keep:mS dc H Hi
 rn:H r=none
 nr:r≠dc
 row:∃ys,Hi r=some (.lst ys)∧KeysAt Hi ys acc
 came:MetAt w Hi dc (met++acc)
theorem NextM.put {w:World} {H Hj:Hp} {dc r:Addr} {met acc:List GK} {kvs:List qU} {ys:List V} {k:GK} {c:V} (h:NextM w H Hj dc r met acc) (e1:Hj dc=some (GO w dc kvs)) (g:GOk Hj kvs) (e2:kvs.map (·.1)=met++acc) (er:Hj r=some (.lst ys)) (hks:KeysAt Hj ys acc) (hn:k∉met++acc) (hc:(GV Hj k).1 c) (hc8:gd k≤8) :
  NextM w H (upd (upd Hj dc (GO w dc (vQ kvs k c (.bl true)))) r (.lst (ys++[c]))) dc r met (acc++[k]):=by
 have hm:=MetAt.put (v:=.bl true) e1 g e2 hn hc hc8;have er2:upd Hj dc (GO w dc (vQ kvs k c (.bl true))) r=some (.lst ys):=by rw [jH h.nr];exact er
 have tk:∀a l,Hj a=some (.tup l)→upd (upd Hj dc (GO w dc (vQ kvs k c (.bl true)))) r (.lst (ys++[c])) a=some (.tup l):=fun a l e=>by
  rw [jH (fun z=>by rw [z,er] at e;cases e),jH (fun z=>by rw [z,e1] at e;cases e)];exact e
 refine ⟨fun a o n e=>?_,h.rn,h.nr,⟨_,jD,hks.snoc tk hc hc8⟩,?_⟩
 ·rw [jH (q8 e h.rn),jH n];exact h.keep a o n e
 ·have:=hm.keep (o:=.lst (ys++[c])) er2
  rwa [iu] at this
def t6 (w:World) (spA spE:Addr→Sp):Sp:=fun vs H Q _=>∃(y:V) (fa fe:Addr) (most:Int) (T:Gr) (M:GK→Bool) (k0:GK) (N:Nat),vs=[y,.ref fa,.ref fe,.int most]∧cM spA H fa T∧gO spE H fe T M∧Z8 T∧FirstM T M k0 most N∧1≤most∧most≤16∧(GV H k0).1 y∧gd k0≤8∧T.2 k0∧
 ((((jQ T k0 N).flatten.length:Nat):Int)≤most→∀(lr:Addr) (H':Hp),Same H H'→LayersAt H' lr (jQ T k0 N)→Q (.ref lr) H')∧(most<(((jQ T k0 N).flatten.length:Nat):Int)→∀H',Same H H'→Q .non H')
def FM (w:World) (H:Hp) (y:V) (fa fe:Addr) (most:Int) (lr dm:Addr) (T:Gr) (k0:GK) (N m:Nat) (σ:St) (Hi:Hp):Prop:=∃i c6 c7 c8,σ=[some y,some (.ref fa),some (.ref fe),some (.int most),some (.ref lr),some (.ref dm),c6,c7,c8]∧m+i=N∧Same H Hi∧(((jQ T k0 i).flatten.length:Nat):Int)≤most∧MetAt w Hi dm (jQ T k0 i).flatten∧LayersAt Hi lr (jQ T k0 i)
inductive ToldR (H:Hp) (T:Gr) (M:GK→Bool) (k0:GK) (N:Nat) (t:Addr):V→Prop where
 |wide (a:Addr):H t=some (.tup [.str "wide",.ref a])→H a=some (.lst [])→ToldR H T M k0 N t .non
 |doomed (ll lr:Addr):(j5 T k0 N).any M=false→LayersAt H ll (jQ T k0 N)→H t=some (.tup [.str "free",.ref lr])→LayersAt H lr (jQ T k0 N)→ToldR H T M k0 N t (.ref ll)
 |home (ll rr lr:Addr) (xs:List V) (des:List GK) (kf:GK):(j5 T k0 N).any M=true→LayersAt H ll (jQ T k0 N)→H t=some (.tup [.str "knot",.ref rr,.ref lr])→LayersAt H lr (jQ T k0 N)→H rr=some (.lst xs)→KeysAt H xs des→JU T k0 des kf→M kf=true→des.length=N→ToldR H T M k0 N t (.ref ll)
theorem ToldR.same {H H':Hp} {T:Gr} {M:GK→Bool} {k0:GK} {N:Nat} {t:Addr} {v:V} (s:Same H H') (h:ToldR H T M k0 N t v):ToldR H' T M k0 N t v:=by
 cases h with
 |wide a h1 h2=>exact .wide a (s _ _ h1) (s _ _ h2)
 |doomed ll lr h0 h1 h2 h3=>exact .doomed ll lr h0 (h1.same s) (s _ _ h2) (h3.same s)
 |home ll rr lr xs des kf h0 h1 h2 h3 h4 h5 h6 h7 h8=>exact .home ll rr lr xs des kf h0 (h1.same s) (s _ _ h2) (h3.same s) (s _ _ h4) (h5.same s) h6 h7 h8
def rO (spA spE:Addr→Sp):Sp:=fun vs H Q _=>∃(t:Addr) (y:V) (fa fe:Addr) (lv:V) (T:Gr) (M:GK→Bool) (k0:GK) (N:Nat),vs=[.ref t,y,.ref fa,.ref fe,lv]∧cM spA H fa T∧gO spE H fe T M∧Z8 T∧(∀k,(T.1 k).length≤900)∧(∀k de,T.2 k→((T.1 k).filter fun z=>decide (z.1=de)).length≤1)∧(GV H k0).1 y∧T.2 k0∧(jQ T k0 N).flatten.length≤1000∧N+1≤1000∧(∀k,T.2 k→∃s,k=jZ s)∧ToldR H T M k0 N t lv∧∀H',Same H H'→Q (.bl true) H'
theorem P6 {M:GK→Bool} {l:List GK} (h:l.any M=false):l.filter M=[]:=filter_eq_nil_iff.mpr fun k hk hm=>by
 have:=fb.mpr ⟨k,hk,hm⟩;rw [h] at this;cases this
theorem PR {M:GK→Bool} {l:List GK} (h:l.any M=true):(l.filter M).length≠0:=fun z=>by
 obtain ⟨k,hk,hm⟩:=fb.mp h;have:=ip (aO.mpr ⟨hk,hm⟩);omega
theorem mY {α:Type} {P:α→Prop} {a b:α} (h1:P a) (h2:P b):∀q∈[a,b],P q:=fun q hq=>by
 rcases ax.mp hq with rfl|hq
 ·exact h1
 ·cases aA.mp hq;exact h2
def KeepT (tL:Addr) (H H':Hp):Prop:=∀a o,a≠tL→H a=some o→H' a=some o
theorem dD {H HC:Hp} {cs:List Addr} (hn:∀c∈cs,H c=none):Same H (qZ H HC cs):=fun b v e=>by rw [vH fun z=>by rw [hn b z] at e;cases e];exact e
theorem lE {H H' HC:Hp} {cs:List Addr} (hn:∀c∈cs,H c=none) (s:Same (qZ H HC cs) H'):Same H (kR H' cs):=fun b v e=>by
 rw [vG fun z=>by rw [hn b z] at e;cases e];exact s _ _ (dD hn _ _ e)
theorem lW {H:Hp} {P f c:Addr} {o2 o3:HO} {tp:Array Value} (n1:f≠P) (n2:c≠P):upd (upd (upd H P (.tbl tp)) f o2) c o3 P=some (.tbl tp):=by rw [jH n2.symm,jH n1.symm,jD]
theorem fO {H:Hp} {P f c:Addr} {o1 o2 o3:HO} (h1:H f=none) (h2:H c=none):KeepT P H (upd (upd (upd H P o1) f o2) c o3):=fun a o n e=>by
 rw [jH (q8 e h2),jH (q8 e h1),jH n];exact e
theorem NY {H':Hp} {cs:List Addr} {lr:Addr} {L:List (List GK)} (out:∀b xs,H' b=some (.lst xs)→b∉cs) (outT:∀b xs,H' b=some (.tup xs)→b∉cs) (h:LayersAt H' lr L):LayersAt (kR H' cs) lr L:=by
 obtain ⟨xs,e1,e2,e3⟩:=h.ex;refine ⟨xs,by rw [vG (out _ _ e1)];exact e1,e2,fun j x hx=>?_⟩;obtain ⟨a,ys,lay,f1,f2,f3,f4,f5⟩:=e3 j x hx;exact ⟨a,ys,lay,f1,f2,f3,by rw [vG (out _ _ f4)];exact f4,f5.keep fun a l e=>by rw [vG (outT _ _ e)];exact e⟩
theorem AC {H H':Hp} {f:Addr} {qual:Str} {params:Arguments} {body:List Stmt} {scope:Scope} {cl:List (Str×Addr)} {fvs:List V} {cdv:Value} {fd:FuncData} (s:Same H H') (C:CloAt H f qual params body scope cl fvs cdv fd):CloAt H' f qual params body scope cl fvs cdv fd:=by
 obtain ⟨⟨fo,name,doc,pm,an,ct,h1,h2⟩,⟨c,oc,vs,t,g1,g2,g3⟩,once,len,cell⟩:=C;refine ⟨⟨fo,name,doc,pm,an,ct,s _ _ h1,h2⟩,⟨c,oc,vs,t,g1,s _ _ g2,g3⟩,once,len,fun i x c v k1 k2=>?_⟩;obtain ⟨o,u,e1,e2⟩:=cell i x c v k1 k2;exact ⟨o,u,s _ _ e1,e2⟩
def FnM (st:Stmt) (q:Str) (cl:List (Str×Addr)) (H:Hp) (f:Addr):Prop:=∃(fo:Obj) (name:Str) (doc pm:Value) (an:Option Addr) (ct:Value) (c':Addr) (oc:Obj),H f=some (FnO f fo)∧fo.data=.func (W.fnX name q (kN st) (kD st) (jM st) cl .none .none doc pm an (.ref c') ct)∧H c'=some (FnO c' oc)∧∃vs t,oc.data=.fields vs∧vs[1]?=some (.str q t)
section
variable {st:Stmt} {q:Str} {cl:List (Str×Addr)} {H H':Hp} {f:Addr}
theorem FnM.same (s:Same H H') (h:FnM st q cl H f):FnM st q cl H' f:=by
 obtain ⟨fo,name,doc,pm,an,ct,c',oc,e1,e2,e3,e4⟩:=h;exact ⟨fo,name,doc,pm,an,ct,c',oc,s _ _ e1,e2,s _ _ e3,e4⟩
theorem FnM.noT (h:FnM st q cl H f):FnM st q cl (noT H) f:=by
 obtain ⟨fo,name,doc,pm,an,ct,c',oc,e1,e2,e3,e4⟩:=h;exact ⟨fo,name,doc,pm,an,ct,c',oc,vN e1 (fun _ z=>nomatch z),e2,vN e3 (fun _ z=>nomatch z),e4⟩
theorem FnM.clo {HC:Hp} {cs:List Addr} {fvs:List V} (h:FnM st q cl H f) (hn:∀c∈cs,H c=none) (hcl:∀c∈cl.map (·.2),c∈cs) (once:(cl.map (·.2)).Nodup) (len:fvs.length=cl.length) (hce:∀(i:Nat) (x:Str) (c:Addr) (v:V),cl[i]?=some (x,c)→fvs[i]?=some v→∃o u,HC c=some (FnO c o)∧o.data=.cell (some u)∧RelV v u):∃cdv fd,CloAt (qZ H HC cs) f q (kN st) (kD st) (jM st) cl fvs cdv fd:=by
 obtain ⟨fo,name,doc,pm,an,ct,c',oc,f1,f2,f3,vs,t,f4,f5⟩:=h;have s:=dD (HC:=HC) hn;refine ⟨.ref c',_,⟨fo,name,doc,pm,an,ct,s _ _ f1,f2,rfl⟩,⟨c',oc,vs,t,rfl,s _ _ f3,f4,f5⟩,once,len,fun i y c v k1 k2=>?_⟩;obtain ⟨o,u,e1,e2⟩:=hce i y c v k1 k2;exact ⟨o,u,by rw [fU (hcl c (aw.mpr ⟨_,ai k1,rfl⟩))];exact e1,e2⟩
end
structure LF (ck:Kd→Addr) (cR cN:Addr) (sA sE:Stmt) (c1 c2:Addr) (H:Hp) (fa fe x wl st:Addr) (us:List V) (R:List RC) (L:List LC) (N:List (List (Int×Int))) (ys:List jY) (d:Int) (ms:List Int) (pl:List Nat):Prop where
 g:Stage ck cR cN [] H x wl st us R L N ys d ms pl
 d0:0≤d
 five:∀k,((kJ R L N ys).1 k).length≤5
 a:FnM sA "law.<locals>._law_ahead" [("_law_ways",c2),("_law_canal_here",c1)] H fa
 e:FnM sE "law.<locals>._law_ended" [("_law_ways",c2),("_law_canal_here",c1)] H fe
section
variable {ck:Kd→Addr} {cR cN:Addr} {sA sE:Stmt} {c1 c2:Addr} {H H':Hp} {fa fe x wl st:Addr} {us:List V} {R:List RC} {L:List LC} {N:List (List (Int×Int))} {ys:List jY} {d:Int} {ms:List Int} {pl:List Nat}
theorem LF.same (h:LF ck cR cN sA sE c1 c2 H fa fe x wl st us R L N ys d ms pl) (s:Same H H'):LF ck cR cN sA sE c1 c2 H' fa fe x wl st us R L N ys d ms pl:=⟨h.g.same s,h.d0,h.five,h.a.same s,h.e.same s⟩
theorem LF.noT (h:LF ck cR cN sA sE c1 c2 H fa fe x wl st us R L N ys d ms pl):LF ck cR cN sA sE c1 c2 (noT H) fa fe x wl st us R L N ys d ms pl:=⟨h.g.noT,h.d0,h.five,h.a.noT,h.e.noT⟩
abbrev uX (ck:Kd→Addr) (cR cN:Addr) (sA:Stmt):Addr→Sp:=yC "law.<locals>._law_ahead" (kN sA) (kD sA) (jM sA) ["_law_one"] ["_law_ways","_law_canal_here"] (yP ck cR cN)
abbrev mU (ck:Kd→Addr) (cR cN:Addr) (sE:Stmt):Addr→Sp:=yC "law.<locals>._law_ended" (kN sE) (kD sE) (jM sE) ["_law_one"] ["_law_ways","_law_canal_here"] (zU ck cR cN)
theorem LF.clos {HC:Hp} {σ:St} (h:LF ck cR cN sA sE c1 c2 H fa fe x wl st us R L N ys d ms pl) (hne:c1≠c2) (e1:σ[1]?=some (some (.ref x))) (e2:σ[2]?=some (some (.ref wl)))
    (hHC:∀q∈[(1,c1),(2,c2)],∃v o u,σ[q.1]?=some (some v)∧HC q.2=some (FnO q.2 o)∧o.data=.cell (some u)∧RelV v u) (hn:∀q∈[(1,c1),(2,c2)],H q.2=none) :
    cM (uX ck cR cN sA) (qZ H HC ([(1,c1),(2,c2)].map (·.2))) fa (kJ R L N ys)∧gO (mU ck cR cN sE) (qZ H HC ([(1,c1),(2,c2)].map (·.2))) fe (kJ R L N ys) (vV R L N ys):=by
  have hn':∀c∈([(1,c1),(2,c2)]:List (Nat×Addr)).map (·.2),H c=none:=fun c hc=>by
    obtain ⟨q,hq,rfl⟩:=aw.mp hc;exact hn q hq
  obtain ⟨vA,oA,uA,x1,x2,x3,x4⟩:=hHC (1,c1) (by simp);obtain ⟨vW,oW,uW,w1,w2,w3,w4⟩:=hHC (2,c2) (by simp);rw [e1] at x1;cases x1
  rw [e2] at w1;cases w1
  have s:=dD (HC:=HC) hn';obtain ⟨cdA,fdA,CA⟩:=h.a.clo (HC:=HC) (fvs:=[.ref wl,.ref x]) hn' (by simp) (by simp [hne.symm]) rfl fun i y c v k1 k2=>by
    match i,k1,k2 with
    |0,k1,k2=>cases k1;cases k2;exact ⟨oW,uW,w2,w3,w4⟩
    |1,k1,k2=>cases k1;cases k2;exact ⟨oA,uA,x2,x3,x4⟩
    |i+2,k1,_=>cases k1
  obtain ⟨cdE,fdE,CE⟩:=h.e.clo (HC:=HC) (fvs:=[.ref wl,.ref x]) hn' (by simp) (by simp [hne.symm]) rfl fun i y c v k1 k2=>by
    match i,k1,k2 with
    |0,k1,k2=>cases k1;cases k2;exact ⟨oW,uW,w2,w3,w4⟩
    |1,k1,k2=>cases k1;cases k2;exact ⟨oA,uA,x2,x3,x4⟩
    |i+2,k1,_=>cases k1
  constructor
  · rintro H1 y k Q E s1 ⟨t,rfl,h1,h2,h3⟩ hy q
    obtain ⟨a,rfl,hst⟩:=bV hy;refine ⟨rfl,_,_,cdA,fdA,AC s1 CA,rfl,x,wl,a,H,us,ys,t.1,t.2.1,t.2.2,[],R,L,N,rfl,rfl,s.trans s1,(fun c hc=>hn' c (by simp at hc;simp;rcases hc with rfl|rfl<;>simp)),h.g.cn,h.g.dr,h.g.wls,h.g.wys,hst,h2,h3,h1,fun r zs H' s' hr0 hr hP=>q r zs H' s' hr0 hr ?_⟩;rw [uF];exact hP
  · rintro H1 y k Q E s1 ⟨t,rfl,h1,h2,h3⟩ hy q
    obtain ⟨a,rfl,hst⟩:=bV hy;refine ⟨rfl,_,_,cdE,fdE,AC s1 CE,rfl,x,wl,a,H,us,ys,t.1,t.2.1,t.2.2,[],R,L,N,rfl,rfl,s.trans s1,(fun c hc=>hn' c (by simp at hc;simp;rcases hc with rfl|rfl<;>simp)),h.g.cn,h.g.dr,h.g.wls,h.g.wys,hst,h2,h3,fun H' s'=>?_⟩;have:=q H' s';rw [uE] at this;exact this
theorem mB {HC:Hp} {cs:List (Nat×Addr)} {σ:St} (hHC:∀q∈cs,∃v o u,σ[q.1]?=some (some v)∧HC q.2=some (FnO q.2 o)∧o.data=.cell (some u)∧RelV v u) (s':Same (qZ H HC (cs.map (·.2))) H'):(∀q∈cs,H' q.2=HC q.2)∧(∀b o,H' b=some o→(∀ob,o≠FnO b ob)→b∉cs.map (·.2)):=by
 have key:∀q∈cs,H' q.2=HC q.2:=fun q hq=>by
  obtain ⟨v,o,u,_,e,_⟩:=hHC q hq;rw [s' q.2 _ (by rw [fU (aw.mpr ⟨q,hq,rfl⟩)];exact e),e]
 refine ⟨key,fun b o e hno hb=>?_⟩;obtain ⟨q,hq,rfl⟩:=aw.mp hb;obtain ⟨v,ob,u,_,e2,_⟩:=hHC q hq;rw [key q hq,e2] at e;cases e;exact hno _ rfl
inductive BookR (H:Hp) (T:Gr) (k0:GK) (N:Nat) (most:Int):V→Prop where
 |wide:most<(((jQ T k0 N).flatten.length:Nat):Int)→BookR H T k0 N most .non
 |full (ll:Addr):(((jQ T k0 N).flatten.length:Nat):Int)≤most→LayersAt H ll (jQ T k0 N)→BookR H T k0 N most (.ref ll)
theorem LayersAt.keepA {H H':Hp} {lr:Addr} {L:List (List GK)} (k1:∀b xs,H b=some (.lst xs)→H' b=some (.lst xs)) (k2:∀b xs,H b=some (.tup xs)→H' b=some (.tup xs)) (h:LayersAt H lr L):LayersAt H' lr L:=by
 obtain ⟨xs,e1,e2,e3⟩:=h.ex;refine ⟨xs,k1 _ _ e1,e2,fun j x hx=>?_⟩;obtain ⟨a,ys,lay,f1,f2,f3,f4,f5⟩:=e3 j x hx;exact ⟨a,ys,lay,f1,f2,f3,k1 _ _ f4,f5.keep k2⟩
theorem LayersAt.noT {lr:Addr} {L:List (List GK)} (h:LayersAt H lr L):LayersAt (noT H) lr L:=h.keepA (fun b xs e=>vN e (fun _ z=>nomatch z)) (fun b xs e=>vN e (fun _ z=>nomatch z))
theorem BookR.on {T:Gr} {k0:GK} {NN:Nat} {most:Int} {v:V} (s:Same (My.noT H) H') (h:BookR H T k0 NN most v):BookR H' T k0 NN most v:=by
 cases h with
 |wide h=>exact .wide h
 |full ll h1 h2=>exact .full ll h1 (h2.noT.same s)
theorem TC {w:World} {HC:Hp} {σ:St} {P:VK} {most:Int} {NN:Nat} (h:LF ck cR cN sA sE c1 c2 H fa fe x wl st us R L N ys d ms pl) (hF:FirstM (kJ R L N ys) (vV R L N ys) (jZ (d,ms,pl)) most NN) (hm1:1≤most) (hm16:most≤16) (hne:c1≠c2) (e1:σ[1]?=some (some (.ref x))) (e2:σ[2]?=some (some (.ref wl)))
  (hHC:∀q∈[(1,c1),(2,c2)],∃v o u,σ[q.1]?=some (some v)∧HC q.2=some (FnO q.2 o)∧o.data=.cell (some u)∧RelV v u) (hn:∀q∈[(1,c1),(2,c2)],H q.2=none)
  (hP:∀lv H',(∀q∈[(1,c1),(2,c2)],H' q.2=HC q.2)→Same H (kR H' ([(1,c1),(2,c2)].map (·.2)))→BookR (kR H' ([(1,c1),(2,c2)].map (·.2))) (kJ R L N ys) (jZ (d,ms,pl)) NN most lv→P lv H') :
  t6 w (uX ck cR cN sA) (mU ck cR cN sE) [.ref st,.ref fa,.ref fe,.int most] (qZ H HC ([(1,c1),(2,c2)].map (·.2))) P E0:=by
 have hn':∀c∈([(1,c1),(2,c2)]:List (Nat×Addr)).map (·.2),H c=none:=fun c hc=>by
  obtain ⟨q,hq,rfl⟩:=aw.mp hc;exact hn q hq
 obtain ⟨hA,hE⟩:=h.clos hne e1 e2 hHC hn;have s:=dD (HC:=HC) hn';refine ⟨_,fa,fe,most,_,_,_,NN,rfl,hA,hE,mK h.g.dr,hF,hm1,hm16,eA (s:=(d,ms,pl)) (h.g.sts.same s),gC _,⟨_,rfl,h.d0,h.g.fl,h.g.ml⟩,fun hle lr H' s' hL=>?_,fun hlt H' s'=>?_⟩
 ·obtain ⟨f1,o⟩:=mB hHC s';exact hP _ H' f1 (lE hn' s') (.full lr hle (NY (fun b xs e=>o b _ e fun _ z=>by cases z) (fun b xs e=>o b _ e fun _ z=>by cases z) hL))
 ·obtain ⟨f1,o⟩:=mB hHC s';exact hP _ H' f1 (lE hn' s') (.wide hlt)
theorem B9 {HC:Hp} {σ:St} {P:VK} {most:Int} {NN:Nat} {t:Addr} {lv:V} (h:LF ck cR cN sA sE c1 c2 H fa fe x wl st us R L N ys d ms pl) (hF:FirstM (kJ R L N ys) (vV R L N ys) (jZ (d,ms,pl)) most NN) (hne:c1≠c2) (e1:σ[1]?=some (some (.ref x))) (e2:σ[2]?=some (some (.ref wl)))
  (hHC:∀q∈[(1,c1),(2,c2)],∃v o u,σ[q.1]?=some (some v)∧HC q.2=some (FnO q.2 o)∧o.data=.cell (some u)∧RelV v u) (hn:∀q∈[(1,c1),(2,c2)],H q.2=none) (hTo:ToldR H (kJ R L N ys) (vV R L N ys) (jZ (d,ms,pl)) NN t lv)
  (hP:∀H',(∀q∈[(1,c1),(2,c2)],H' q.2=HC q.2)→Same H (kR H' ([(1,c1),(2,c2)].map (·.2)))→P (.bl true) H') :
  rO (uX ck cR cN sA) (mU ck cR cN sE) [.ref t,.ref st,.ref fa,.ref fe,lv] (qZ H HC ([(1,c1),(2,c2)].map (·.2))) P E0:=by
 have hn':∀c∈([(1,c1),(2,c2)]:List (Nat×Addr)).map (·.2),H c=none:=fun c hc=>by
  obtain ⟨q,hq,rfl⟩:=aw.mp hc;exact hn q hq
 obtain ⟨hA,hE⟩:=h.clos hne e1 e2 hHC hn;have s:=dD (HC:=HC) hn';have hl:=bM (T:=kJ R L N ys) (M:=vV R L N ys) (k0:=jZ (d,ms,pl)) NN hF.low;have hf:=hF.fit NN (by omega);refine ⟨t,_,fa,fe,lv,_,_,_,NN,rfl,hA,hE,mK h.g.dr,(fun k=>aG (h.five k) (by decide)),(fun k de _=>S0 k de),eA (s:=(d,ms,pl)) (h.g.sts.same s),⟨_,rfl,h.d0,h.g.fl,h.g.ml⟩,hf,by omega,(fun k ⟨s,e,_⟩=>⟨s,e⟩),hTo.same s,fun H' s'=>?_⟩;exact hP H' (mB hHC s').1 (lE hn' s')
theorem RP {HC:Hp} {σ:St} {P:VK} {k:GK} {y:V} (h:LF ck cR cN sA sE c1 c2 H fa fe x wl st us R L N ys d ms pl) (hne:c1≠c2) (e1:σ[1]?=some (some (.ref x))) (e2:σ[2]?=some (some (.ref wl)))
  (hHC:∀q∈[(1,c1),(2,c2)],∃v o u,σ[q.1]?=some (some v)∧HC q.2=some (FnO q.2 o)∧o.data=.cell (some u)∧RelV v u) (hn:∀q∈[(1,c1),(2,c2)],H q.2=none) (hk:(kJ R L N ys).2 k) (hy:(GV H k).1 y)
  (hP:∀H',(∀q∈[(1,c1),(2,c2)],H' q.2=HC q.2)→Same H (kR H' ([(1,c1),(2,c2)].map (·.2)))→P (.bl (vV R L N ys k)) H') :
  mU ck cR cN sE fe [y] (qZ H HC ([(1,c1),(2,c2)].map (·.2))) P E0:=by
 have hn':∀c∈([(1,c1),(2,c2)]:List (Nat×Addr)).map (·.2),H c=none:=fun c hc=>by
  obtain ⟨q,hq,rfl⟩:=aw.mp hc;exact hn q hq
 exact (h.clos hne e1 e2 hHC hn).2 _ _ k _ _ (Same.refl _) hk (qM (dD hn') hy) fun H' s'=>hP H' (mB hHC s').1 (lE hn' s')
inductive ToldN (H0 H:Hp) (T:Gr) (M:GK→Bool) (k0:GK) (N:Nat) (most:Int) (t:Addr):Prop where
 |wide (a:Addr):most<(((jQ T k0 N).flatten.length:Nat):Int)→H t=some (.tup [.str "wide",.ref a])→H a=some (.lst [])→H0 a=none→ToldN H0 H T M k0 N most t
 |doomed (lr:Addr):(((jQ T k0 N).flatten.length:Nat):Int)≤most→(j5 T k0 N).any M=false→H t=some (.tup [.str "free",.ref lr])→LayersAt H lr (jQ T k0 N)→H0 lr=none→ToldN H0 H T M k0 N most t
 |home (rr lr:Addr) (xs:List V) (des:List GK) (kf:GK):(((jQ T k0 N).flatten.length:Nat):Int)≤most→(j5 T k0 N).any M=true→H t=some (.tup [.str "knot",.ref rr,.ref lr])→LayersAt H lr (jQ T k0 N)→H rr=some (.lst xs)→KeysAt H xs des→JU T k0 des kf→M kf=true→des.length=N→H0 rr=none→H0 lr=none→rr≠lr→ToldN H0 H T M k0 N most t
theorem ToldN.right {H0:Hp} {T:Gr} {M:GK→Bool} {k0:GK} {NN:Nat} {most:Int} {t:Addr} {lv:V} (h:ToldN H0 H T M k0 NN most t) (b:BookR H T k0 NN most lv):ToldR H T M k0 NN t lv:=by
 cases h with
 |wide a h1 h2 h3 h4 =>
  cases b with
  |wide _=>exact .wide a h2 h3
  |full ll g1 g2=>exact absurd h1 (by omega)
 |doomed lr h1 h2 h3 h4 h5 =>
  cases b with
  |wide g1=>exact absurd g1 (by omega)
  |full ll g1 g2=>exact .doomed ll lr h2 g2 h3 h4
 |home rr lr xs des kf h1 h2 h3 h4 h5 h6 h7 h8 h9 h10 h11 h12 =>
  cases b with
  |wide g1=>exact absurd g1 (by omega)
  |full ll g1 g2=>exact .home ll rr lr xs des kf h2 g2 h3 h4 h5 h6 h7 h8 h9
theorem C0 {tA tH:Addr} {pA pH:Pos} {P:VK} {E:XK} {most:Int} {NN:Nat} {hd:Addr} (h:LF ck cR cN sA sE c1 c2 H fa fe x wl st us R L N ys d ms pl) (hhd:H hd=some (.lst us)) (hT:Tabs H tA tH pA pH) (hF:FirstM (kJ R L N ys) (vV R L N ys) (jZ (d,ms,pl)) most NN)
  (hP:∀t H',Same (My.noT H) H'→Tabs H' tA tH pA pH→ToldN (My.noT H) H' (kJ R L N ys) (vV R L N ys) (jZ (d,ms,pl)) NN most t→P (.ref t) H'):tI ck cR cN tA tH pA pH [.ref x,.ref hd,.ref st,.int most] H P E :=
 ⟨x,hd,st,us,ys,d,ms,pl,[],R,L,N,NN,most,rfl,⟨h.g.cn,h.g.dr,hhd,h.g.wys,h.g.sts,h.g.fl,h.g.ml⟩,h.d0,hT,hF,fun hle hany t rr lr xs des kf H' s' hT' ht hrr hks hp hmk hdl hLy g1 g2 g3=>hP t H' s' hT' (.home rr lr xs des kf hle hany ht hLy hrr hks hp hmk hdl g1 g2 g3),fun hle hany t lr H' s' hT' ht hLy g1=>hP t H' s' hT' (.doomed lr hle hany ht hLy g1),fun hlt t a H' s' hT' ht ha g1=>hP t H' s' hT' (.wide a hlt ht ha g1)⟩
end
theorem xX {H:Hp} {T c:Addr} {pos:Pos} {q:Str} {xs:List V} {o:HO} (e:H c=some (.lst xs)) (h:JR H T pos q):JR (upd H c o) T pos q:=by
 have k:∀b o',H b=some o'→(∀l,o'≠.lst l)→upd H c o b=some o':=fun b o' e' n=>by
  rw [jH (fun z=>by rw [z,e] at e';cases e';exact n _ rfl)];exact e'
 rcases h with h|⟨c,oc,vs,t,h1,h2,h3,h4⟩
 ·exact .inl (k _ _ h (fun _ z=>nomatch z))
 ·exact .inr ⟨c,oc,vs,t,k _ _ h1 (fun _ z=>nomatch z),k _ _ h2 (fun _ z=>nomatch z),h3,h4⟩
theorem Tabs.lst {H:Hp} {tA tH c:Addr} {pA pH:Pos} {xs:List V} {o:HO} (e:H c=some (.lst xs)) (h:Tabs H tA tH pA pH):Tabs (upd H c o) tA tH pA pH:=⟨h.ne,xX e h.a,xX e h.h⟩
theorem Tabs.keepT {H H':Hp} {tA tH tL:Addr} {pA pH:Pos} {z:Array Value} (k:KeepT tL H H') (ht:H tL=some (.tbl z)) (nA:tL≠tA) (nH:tL≠tH) (h:Tabs H tA tH pA pH):Tabs H' tA tH pA pH:=⟨h.ne,iZ nA.symm ht (fun b o e n=>k b o n e) h.a,iZ nH.symm ht (fun b o e n=>k b o n e) h.h⟩
theorem KeepT.noT {H H':Hp} {tL:Addr} {z:Array Value} (k:KeepT tL H H') (ht:H tL=some (.tbl z)):Same (My.noT H) H':=sV ht fun b o e n=>k b o n e
def lQ (tA tH tL:Addr) (K:W.Frag):Sp:=fun vs H Q _=>∃(s:Addr) (ns:List Int),vs=[.ref s]∧SqL K H s (ns.map V.int)∧ns.length≤63∧tA≠tH∧tL≠tA∧tL≠tH∧H tA=some (.tbl #[])∧H tH=some (.tbl #[])∧H tL=some (.tbl #[])∧∀H',Q (.bl true) H'
theorem MQ (L f:Addr) (cd:Value):closureFor (jM qR) (PyProof.Rows.envOfC "law" (jM JK) L f cd)=pure [(("_law_ways":Str),L+3),(("_law_canal_here":Str),L+2)]:=rfl
theorem MP (L f:Addr) (cd:Value):closureFor (jM vB) (PyProof.Rows.envOfC "law" (jM JK) L f cd)=pure [(("_law_ways":Str),L+3),(("_law_canal_here":Str),L+2)]:=rfl
theorem wW:jT 3 ["_law_script","_law_k","_law_many","_law_cell"] oM:=jS
include T in
theorem IA (F:kH K "_law_draw" oM f fd) : FnOk P w K mg base jK 1 f fd ["_law_script","_law_k","_law_many"] (bT K):=by
 refine F.ok2 wW fun vs H Q E h=>?_
 refine gK h fun s ns k m h=>?_
 refine cK h fun e_ hS h63 hk0 hk1 hm q=>?_
 subst e_;refine ⟨rfl,fun _ _ _ _ hr=>?_⟩;refine ⟨_,(@jG _ _ _ _ _ (kT (kI qQ (kP K T.xf (pv 0)) jC) (jO (@jL _ _ _ _ _ _ _ _ dQ (@jL _ _ _ _ _ _ _ _ kL (@jL _ _ _ _ _ _ _ _ vC (@jL _ _ _ _ _ _ _ _ vC (pv 1) (pv 1)) jC) (@jL _ _ _ _ _ _ _ _ vC jC (pv 1))) (pv 2))) kS)
   (@jG _ _ _ _ _ (jX 3 wW.nd (@jL _ _ _ _ _ _ _ _ dQ (jI (kM K) (pv 0) (@jL _ _ _ _ _ _ _ _ dQ (pv 1) (kP K T.xf (pv 0)))) jC))
   (jO (@jL _ _ _ _ _ _ _ _ dQ (@jL _ _ _ _ _ _ _ _ dQ (@jL _ _ _ _ _ _ _ _ kL (@jL _ _ _ _ _ _ _ _ vC (pv 3) (@jL _ _ _ _ _ _ _ _ kL (@jL _ _ _ _ _ _ _ _ vC (pv 1) (pv 1)) jC)) (@jL _ _ _ _ _ _ _ _ vC (pv 1) jC)) jC) (pv 2))))),?_⟩
 try dsimp only [jV,jU]
 have hml:(ns.map V.int).length=ns.length:=ae _;obtain ⟨kk0,kk1⟩:=VC hk0 hk1;have hm0:(0:Int)<m:=by omega
 refine (jA rfl (⟨s,jA rfl (⟨.inl hS,rfl,jA rfl (?_)⟩)⟩))
 by_cases h0:ns.length=0
 ·refine vL (by rw [hml,h0];rfl) ?_;refine (jA rfl (jA rfl (j9 (⟨.inl ⟨by omega,by omega⟩,_,_,rfl,rfl,.inr ⟨by decide,by decide⟩,jA rfl (j9 (⟨.inl ⟨by decide,by decide⟩,_,_,rfl,rfl,jA rfl (j9 (⟨hm0,?_⟩))⟩))⟩))));exact q _ (ij _ (by omega)) (gg _ hm0)
 refine qX (fun z=>h0 (by have:=V.int.inj z;rw [hml] at this;omega)) ?_;have hl0:(0:Int)<(((ns.map V.int).length:Nat):Int):=by rw [hml];omega
 obtain ⟨j,ej,lj⟩:=OI (a:=k) hl0;have lj:j<ns.length:=by rw [hml] at lj;omega
 refine (jA rfl (jA rfl (jA rfl (⟨s,jA rfl (⟨.inl hS,_,_,rfl,rfl,hl0,?_⟩)⟩))))
 try dsimp only
 rw [ej];refine ⟨s,_,_,_,rfl,rfl,hS,zI lj,_,_,rfl,rfl,(by show (0:Int)<1000003;decide),?_⟩;have c0:=ij (ns.getD j 0) (by decide:(1000003:Int)≠0);have c1:=gg (ns.getD j 0) (by decide:(0:Int)<1000003)
 try dsimp only
 generalize ns.getD j 0%1000003=cell at c0 c1 ⊢;refine (jA rfl (jA rfl (jA rfl (j9 (⟨.inl ⟨by omega,by omega⟩,_,_,rfl,rfl,_,_,rfl,rfl,.inl ⟨by omega,by omega⟩,jA rfl (j9 (⟨.inr ⟨by decide,by decide⟩,_,_,rfl,rfl,_,_,rfl,rfl,(by show (0:Int)<2147483647;decide),jA rfl (j9 (⟨hm0,?_⟩))⟩))⟩)))));exact q _ (ij _ (by omega)) (gg _ hm0)
theorem eS:jT 3 ["_law_script","_law_k","_law_unit","_law_least","_law_crest","_law_berths","_law_water"] oQ:=jS
include T in
theorem IE (F:kH K "_law_reach" oQ f fd) (xa:Def P w K mg base 1 "_law_draw" ["_law_script","_law_k","_law_many"] [] (bT K)) (xaK:MkD P w K mg base 1 "Reach" cR ["self","name","least","crest","berths","water","target"] (rA cR)):FnOk P w K mg base jK 3 f fd ["_law_script","_law_k","_law_unit"] (B2 K cR):=by
 refine F.ok2 eS fun vs H Q E h=>?_
 refine gK h fun s ns k u h=>?_
 refine cK h fun e_ hS h63 hk hv0 hv1 q=>?_
 subst e_;refine ⟨rfl,fun _ _ _ _ hr=>?_⟩;refine ⟨_,(@jG _ _ _ _ _ (jX 3 eS.nd (@jL _ _ _ _ _ _ _ _ vC (jP xa hr rfl (j4 (pv 0) (@jL _ _ _ _ _ _ _ _ kL (@jL _ _ _ _ _ _ _ _ vC jC (pv 1)) jC) jC)) (pv 2)))
   (@jG _ _ _ _ _ (jX 4 eS.nd (@jL _ _ _ _ _ _ _ _ kL (pv 3) (@jL _ _ _ _ _ _ _ _ vC (jP xa hr rfl (j4 (pv 0) (@jL _ _ _ _ _ _ _ _ kL (@jL _ _ _ _ _ _ _ _ vC jC (pv 1)) jC) jC)) (pv 2))))
   (@jG _ _ _ _ _ (jX 5 eS.nd (jI (kM K) (qJ (yG jC jC jC jC)) (jP xa hr rfl (j4 (pv 0) (@jL _ _ _ _ _ _ _ _ kL (@jL _ _ _ _ _ _ _ _ vC jC (pv 1)) jC) jC))))
   (@jG _ _ _ _ _ (jX 6 eS.nd (@jL _ _ _ _ _ _ _ _ vC (jP xa hr rfl (j4 (pv 0) (@jL _ _ _ _ _ _ _ _ kL (@jL _ _ _ _ _ _ _ _ vC jC (pv 1)) jC) jC)) (pv 2)))
   (jO (gB xaK hr rfl (WY (lJ l7 j6 (gY (pv 1)) lR) (pv 3) (pv 4) (pv 5) (pv 6) (@jL _ _ _ _ _ _ _ _ JE (jP xa hr rfl (j4 (pv 0) (@jL _ _ _ _ _ _ _ _ kL (@jL _ _ _ _ _ _ _ _ vC jC (pv 1)) jC) (@jL _ _ _ _ _ _ _ _ kL (pv 1) jC))) jC)))))))),?_⟩
 try dsimp only [jV,jU]
 refine (jA rfl (jA rfl (j9 (⟨.inl ⟨by decide,by decide⟩,_,_,rfl,rfl,s,ns,_,jA rfl (⟨hS,h63,by omega,by omega,by omega,fun d1 d10 d11=>?_⟩)⟩))));obtain ⟨a1,a2⟩:=mD d10 (show d1≤2 by omega) hv0 hv1 (by decide);refine (jA rfl (j9 (⟨.inl ⟨by omega,by omega⟩,?_⟩)))
 try dsimp only
 generalize d1*u=le at a1 a2 ⊢;refine (jA rfl (jA rfl (jA rfl (j9 (⟨.inl ⟨by decide,by decide⟩,_,_,rfl,rfl,s,ns,_,jA rfl (⟨hS,h63,by omega,by omega,by omega,fun d2 d20 d21=>?_⟩)⟩)))));obtain ⟨b1,b2⟩:=mD d20 (show d2≤8 by omega) hv0 hv1 (by decide);refine (jA rfl (j9 (⟨.inl ⟨by omega,by omega⟩,_,_,rfl,rfl,?_⟩)))
 try dsimp only
 generalize d2*u=cr at b1 b2 ⊢;refine ⟨zz4,fun p2 hp2=>?_⟩;have s2:=jJ hp2 (.lst ([(1:Int),1,2,9].map V.int));have hS2:=s2.seq hS;refine (jA rfl (jA rfl (j9 (⟨.inl ⟨by decide,by decide⟩,_,_,rfl,rfl,s,ns,_,jA rfl (⟨hS2,h63,by omega,by omega,by omega,fun d6 d60 d61=>?_⟩)⟩))));obtain ⟨be,hbe,hat⟩:=uG [(1:Int),1,2,9] d60 d61;refine (qG (so jD) hat (?_));have hbe':1≤be∧be≤9:=by
  simp only [ax,aM,dh] at hbe
  rcases hbe with rfl|rfl|rfl|rfl<;>decide
 refine (jA rfl (jA rfl (j9 (⟨.inl ⟨by decide,by decide⟩,_,_,rfl,rfl,s,ns,_,jA rfl (⟨hS2,h63,by omega,by omega,by omega,fun d4 d40 d41=>?_⟩)⟩))));obtain ⟨c1,c2⟩:=mD d40 (show d4≤9 by omega) hv0 hv1 (by decide);refine (jA rfl (j9 (⟨.inl ⟨by omega,by omega⟩,?_⟩)))
 try dsimp only
 generalize d4*u=wa at c1 c2 ⊢;refine (jA rfl (jA rfl (jA rfl (⟨(show ("mere":Str).length≤sizeLine by decide +kernel),jA rfl (jA rfl (jA rfl (jA rfl (?_))))⟩))));refine (jA rfl (jA rfl (j9 (⟨.inl ⟨by decide,by decide⟩,_,_,rfl,rfl,jA rfl (j9 (⟨s,ns,_,jA rfl (⟨hS2,h63,by omega,by omega,by omega,fun d7 d70 d71=>?_⟩)⟩))⟩))));refine ⟨_,_,rfl,rfl,?_⟩;intro x dx nx ndx nex;refine ⟨x,dx,_,_,_,_,_,jA rfl (⟨jD,fun H' fs kp hx hfl=>⟨rfl,?_⟩⟩)⟩;exact q x ⟨_,le,le+cr,be,wa,d7 - 1⟩ H' ⟨a1,by show le≤le+cr;omega,by show le+cr≤999999999999;omega,hbe'.1,hbe'.2,c1,by show wa≤999999999999;omega,by show -1≤d7 - 1;omega,by show d7 - 1<(k:Int);omega⟩ (s2.trans (fN nx (fT nx ndx) kp)) (s2.free nx) ⟨dx,fs,hx,hfl⟩
theorem cZ:jT 4 ["_law_script","_law_k","_law_reaches","_law_unit","_law_high","_law_low","_law_room","_law_part","_law_made"] oP:=jS
include T in
theorem ID (F:kH K "_law_lock" oP f fd) (xa:Def P w K mg base 1 "_law_draw" ["_law_script","_law_k","_law_many"] [] (bT K)) (jv:MkD P w K mg base 2 "BasinLock" cB ["self","name","high","low","room","side"] (dH (jF cP cB cU) .basin)) (xaf:MkD P w K mg base 2 "PumpLock" cU ["self","name","high","low","room","lift"] (dH (jF cP cB cU) .pump)) (jw:MkD P w K mg base 1 "PlainLock" cP ["self","name","high","low","room"] (dI (jF cP cB cU))):FnOk P w K mg base jK 4 f fd ["_law_script","_law_k","_law_reaches","_law_unit"] (C9 K (jF cP cB cU)):=by
 refine F.ok2 cZ fun vs H Q E h=>?_
 refine Q3 h fun s ns k n u h=>?_
 refine FW h fun e_ hS h63 hk hn2 hn8 hv0 hv1 q=>?_
 subst e_;refine ⟨rfl,fun _ _ _ _ hr=>?_⟩;refine ⟨_,(@jG _ _ _ _ _ (jX 4 cZ.nd (@jL _ _ _ _ _ _ _ _ kL jC (jP xa hr rfl (j4 (pv 0) (@jL _ _ _ _ _ _ _ _ kL jC (@jL _ _ _ _ _ _ _ _ vC jC (pv 1))) (@jL _ _ _ _ _ _ _ _ JE (pv 2) jC)))))
   (@jG _ _ _ _ _ (jX 5 cZ.nd (jP xa hr rfl (j4 (pv 0) (@jL _ _ _ _ _ _ _ _ kL jC (@jL _ _ _ _ _ _ _ _ vC jC (pv 1))) (pv 4))))
   (@jG _ _ _ _ _ (jX 6 cZ.nd (@jL _ _ _ _ _ _ _ _ vC (@jL _ _ _ _ _ _ _ _ kL jC (jP xa hr rfl (j4 (pv 0) (@jL _ _ _ _ _ _ _ _ kL jC (@jL _ _ _ _ _ _ _ _ vC jC (pv 1))) jC))) (pv 3)))
   (@jG _ _ _ _ _ (jX 7 cZ.nd (jI (kM K) (qJ (j4 jC (pv 6) (@jL _ _ _ _ _ _ _ _ kL jC (@jL _ _ _ _ _ _ _ _ SN (pv 6) jC)))) (jP xa hr rfl (j4 (pv 0) (@jL _ _ _ _ _ _ _ _ kL jC (@jL _ _ _ _ _ _ _ _ vC jC (pv 1))) jC))))
   (@jG _ _ _ _ _ (jX 8 cZ.nd (jP xa hr rfl (j4 (pv 0) (@jL _ _ _ _ _ _ _ _ kL jC (@jL _ _ _ _ _ _ _ _ vC jC (pv 1))) jC)))
   (@jG _ _ _ _ _ (kT (kI qQ (pv 8) jC) (jO (gB jv hr rfl (eK (@jL _ _ _ _ _ _ _ _ rJ j6 (lJ l7 j6 (gY (pv 1)) lR)) (pv 4) (pv 5) (pv 6) (pv 7)))) kS)
   (@jG _ _ _ _ _ (kT (kI qQ (pv 8) jC) (jO (gB xaf hr rfl (eK (@jL _ _ _ _ _ _ _ _ rJ j6 (lJ l7 j6 (gY (pv 1)) lR)) (pv 4) (pv 5) (pv 6) (pv 7)))) kS)
   (jO (gB jw hr rfl (yG (@jL _ _ _ _ _ _ _ _ rJ j6 (lJ l7 j6 (gY (pv 1)) lR)) (pv 4) (pv 5) (pv 6))))))))))),?_⟩
 try dsimp only [jV,jU]
 refine (jA rfl (jA rfl (j9 (⟨.inl ⟨by decide,by decide⟩,_,_,rfl,rfl,jA rfl (j9 (⟨s,ns,_,jA rfl (⟨hS,h63,by omega,by omega,by omega,fun h1 h10 h11=>?_⟩)⟩))⟩))));refine ⟨_,_,rfl,rfl,?_⟩;refine (jA rfl (jA rfl (j9 (⟨.inl ⟨by decide,by decide⟩,_,_,rfl,rfl,jA rfl (⟨s,ns,_,jA rfl (⟨hS,h63,by omega,by omega,by omega,fun lo lo0 lo1=>?_⟩)⟩)⟩))));refine (jA rfl (jA rfl (j9 (⟨.inl ⟨by decide,by decide⟩,_,_,rfl,rfl,s,ns,_,jA rfl (⟨hS,h63,by omega,by omega,by omega,fun d2 d20 d21=>?_⟩)⟩))));obtain ⟨b1,b2⟩:=mD (a:=1+d2) (by omega) (show 1+d2≤3 by omega) hv0 hv1 (by decide);refine ⟨_,_,rfl,rfl,jA rfl (j9 (⟨.inl ⟨by omega,by omega⟩,?_⟩))⟩;have b3:1≤(1+d2)*u:=by
  have:=Int.mul_le_mul (show (1:Int)≤1+d2 by omega) hv0 (by decide) (by omega);omega
 try dsimp only
 have ro1:1≤(1+d2)*u:=b3;have ro2:(1+d2)*u≤999999999999:=by omega
 generalize (1+d2)*u=ro at ro1 ro2 ⊢;refine (jA rfl (jA rfl (j9 (⟨⟨by decide,by decide⟩,_,_,rfl,rfl,zz3,fun p2 hp2=>?_⟩))));have s2:=jJ hp2 (.lst ([(1:Int),ro,1+ro / 2].map V.int));have hS2:=s2.seq hS;refine (jA rfl (jA rfl (j9 (⟨.inl ⟨by decide,by decide⟩,_,_,rfl,rfl,s,ns,_,jA rfl (⟨hS2,h63,by omega,by omega,by omega,fun d4 d40 d41=>?_⟩)⟩))));obtain ⟨pa,hpa,hat⟩:=uG [(1:Int),ro,1+ro / 2] d40 d41;refine (qG (so jD) hat (?_));have hpa:1≤pa∧pa≤ro:=by
  simp only [ax,aM,dh] at hpa
  rcases hpa with rfl|rfl|rfl<;>omega
 refine (jA rfl (jA rfl (j9 (⟨.inl ⟨by decide,by decide⟩,_,_,rfl,rfl,s,ns,_,jA rfl (⟨hS2,h63,by omega,by omega,by omega,fun d5 d50 d51=>?_⟩)⟩))));refine ⟨_,rfl,rfl,jA rfl (cI (fun _=>?_) (fun _=>?_))⟩
 ·refine (jA rfl (jA rfl (jA rfl (⟨(show ("ate":Str).length≤sizeLine by decide +kernel),_,_,rfl,rfl,aG (gv (Txt.slice_le _ _ _) _) (show ("g":Str).length+("ate":Str).length≤sizeLine by decide +kernel),jA rfl (jA rfl (jA rfl (jA rfl (?_))))⟩))));intro x dx nx ndx nex;refine ⟨x,dx,_,_,_,_,jA rfl (⟨jD,fun H' kp hx=>⟨rfl,?_⟩⟩)⟩;refine q x ⟨_,1+h1,lo,ro,.basin,pa⟩ H' ⟨by show 1≤1+h1;omega,by show 1+h1<(n:Int);omega,lo0,by show lo<1+h1;omega,ro1,ro2,(fun z=>nomatch z),fun _=>hpa⟩ (s2.trans (fN nx (fT nx ndx) kp)) (s2.free nx) ⟨x,rfl,dx,hx⟩
 refine ⟨_,rfl,rfl,jA rfl (cI (fun _=>?_) (fun _=>?_))⟩
 ·refine (jA rfl (jA rfl (jA rfl (⟨(show ("ate":Str).length≤sizeLine by decide +kernel),_,_,rfl,rfl,aG (gv (Txt.slice_le _ _ _) _) (show ("g":Str).length+("ate":Str).length≤sizeLine by decide +kernel),jA rfl (jA rfl (jA rfl (jA rfl (?_))))⟩))));intro x dx nx ndx nex;refine ⟨x,dx,_,_,_,_,jA rfl (⟨jD,fun H' kp hx=>⟨rfl,?_⟩⟩)⟩;refine q x ⟨_,1+h1,lo,ro,.pump,pa⟩ H' ⟨by show 1≤1+h1;omega,by show 1+h1<(n:Int);omega,lo0,by show lo<1+h1;omega,ro1,ro2,(fun z=>nomatch z),fun _=>hpa⟩ (s2.trans (fN nx (fT nx ndx) kp)) (s2.free nx) ⟨x,rfl,dx,hx⟩
 refine (jA rfl (jA rfl (jA rfl (⟨(show ("ate":Str).length≤sizeLine by decide +kernel),_,_,rfl,rfl,aG (gv (Txt.slice_le _ _ _) _) (show ("g":Str).length+("ate":Str).length≤sizeLine by decide +kernel),jA rfl (jA rfl (jA rfl (?_)))⟩))));intro x dx nx ndx nex;refine ⟨.plain,x,dx,_,_,_,jA rfl (⟨jD,fun H' kp hx=>⟨rfl,?_⟩⟩)⟩;refine q x ⟨_,1+h1,lo,ro,.plain,0⟩ H' ⟨by show 1≤1+h1;omega,by show 1+h1<(n:Int);omega,lo0,by show lo<1+h1;omega,ro1,ro2,fun _=>rfl,fun z=>absurd rfl z⟩ (s2.trans (fN nx (fT nx ndx) kp)) (s2.free nx) ⟨x,rfl,dx,hx⟩
theorem ZP:jT 1 ["_law_script","_law_unit","_law_many","_law_reaches","_law_locks","_law_nights","_law_r"] eP:=jS
include T in
theorem HY (F:kH K "_law_canal" eP f fd) (xa:Def P w K mg base 1 "_law_draw" ["_law_script","_law_k","_law_many"] [] (bT K)) (je:Def P w K mg base 3 "_law_reach" ["_law_script","_law_k","_law_unit"] [] (B2 K cR)) (jx:Def P w K mg base 4 "_law_lock" ["_law_script","_law_k","_law_reaches","_law_unit"] [] (C9 K (jF cP cB cU))) (xaL:MkD P w K mg base 1 "Canal" cN ["self","reaches","locks","nights"] (rB (jF cP cB cU) cR cN)):FnOk P w K mg base jK 6 f fd ["_law_script"] (AU K (jF cP cB cU) cR cN):=by
 refine F.ok2 ZP fun vs H Q E h=>?_
 obtain ⟨s,ns,rfl,hS,h63,q⟩:=h;refine ⟨rfl,fun _ _ _ _ hr=>?_⟩;refine ⟨_,(@jG _ _ _ _ _ (jX 1 ZP.nd (@jL _ _ _ _ _ _ _ _ kL jC (@jL _ _ _ _ _ _ _ _ vC (jP xa hr rfl (j4 (pv 0) jC jC)) (@jL _ _ _ _ _ _ _ _ kL (jP xa hr rfl (j4 (pv 0) jC (@jL _ _ _ _ _ _ _ _ T2 jC jC))) jC))))
   (@jG _ _ _ _ _ (jX 2 ZP.nd (@jL _ _ _ _ _ _ _ _ kL jC (jP xa hr rfl (j4 (pv 0) jC jC))))
   (@jG _ _ _ _ _ (J0 (i:=3) ["_law_k","_law_script","_law_unit"] (q9 1 [0,1]) ZP.nd rfl (.inl rfl) rfl (qS (jM eP)) (cps 1 [0,1]) (JB (by rfl) T.xi (jB (pv 2) jE)) (fun _ _ _ _ _=>(kC (i:=0) (show List.Nodup (["_law_k","_law_script","_law_unit"]:List Str) from by decide +kernel) rfl (.inl rfl))) (fun _ _ _ _ _=>zF) (fun _ _ _ _ _=>(jP je hr rfl (j4 (pv 1) (pv 0) (pv 2)))))
   (@jG _ _ _ _ _ (J0 (i:=4) ["_law_k","_law_script","_law_many","_law_unit"] (q9 1 [0,2,1]) ZP.nd rfl (.inl rfl) rfl (qS (jM eP)) (cps 1 [0,2,1]) (JB (by rfl) T.xi (jB (@jL _ _ _ _ _ _ _ _ kL jC (jP xa hr rfl (j4 (pv 0) jC jC))) jE)) (fun _ _ _ _ _=>(kC (i:=0) (show List.Nodup (["_law_k","_law_script","_law_many","_law_unit"]:List Str) from by decide +kernel) rfl (.inl rfl))) (fun _ _ _ _ _=>zF) (fun _ _ _ _ _=>(jP jx hr rfl (yG (pv 1) (pv 0) (pv 2) (pv 3)))))
   (@jG _ _ _ _ _ (jX 5 ZP.nd (qJ jE))
   (dJ (kT (kI qQ (jP xa hr rfl (j4 (pv 0) jC jC)) jC) (@jG _ _ _ _ _ (yK aX rfl (JB (by rfl) T.xi (jB (pv 2) jE)) (kC (i:=6) ZP.nd rfl (.inl rfl))
    (@kX _ _ _ (JJ (QX bb bj bn QK (pv 5) (jB (qA (jB (@jL _ _ _ _ _ _ _ _ vC (jP xa hr rfl (j4 (pv 0) (@jL _ _ _ _ _ _ _ _ kL jC (pv 6)) jC)) (pv 1)) (jB (@jL _ _ _ _ _ _ _ _ vC (jP xa hr rfl (j4 (pv 0) (@jL _ _ _ _ _ _ _ _ kL jC (pv 6)) jC)) (pv 1)) jE))) jE)))))
   (@kX _ _ _ (jX 5 ZP.nd (qJ (jB (pv 5) jE))))) kS)
   (jO (gB xaL hr rfl (j4 (pv 3) (pv 4) (pv 5)))))))))),?_⟩
 try dsimp only [jV,jU]
 have e9:(10:Int) ^ Int.toNat 9=1000000000:=by decide +kernel
 refine (jA rfl (⟨s,ns,_,jA rfl (⟨hS,h63,by decide,by decide,by decide,fun a a0 a1=>?_⟩)⟩));refine (jA rfl (j9 (⟨⟨by decide,by decide,by decide⟩,s,ns,_,jA rfl (⟨hS,h63,by decide,by decide,(show (1:Int)≤10 ^ Int.toNat 9 by decide +kernel),fun b b0 b1=>?_⟩)⟩)));rw [e9] at b1;obtain ⟨u,hu2,hv0,hv1⟩:∃u:Int,u=1+a*(b+1)∧1≤u∧u≤10000000000:=by
  have h1:=Int.mul_le_mul (show a≤4 by omega) (show b+1≤1000000000 by omega) (by omega) (by decide);have h2:=Int.mul_nonneg a0 (show (0:Int)≤b+1 by omega);exact Exists.intro (1+a*(b+1)) (And.intro rfl (And.intro (by omega) (by omega)))
 refine ⟨_,_,rfl,rfl,_,_,rfl,rfl,.inl ⟨by omega,by omega⟩,_,_,rfl,rfl,?_⟩
 try dsimp only
 rw [← hu2];refine (jA rfl (⟨s,ns,_,jA rfl (⟨hS,h63,by omega,by omega,by omega,fun m0 m00 m01=>?_⟩)⟩));refine ⟨_,_,rfl,rfl,?_⟩;obtain ⟨n,hn⟩:∃n:Nat,2+m0=(n:Int):=⟨(2+m0).toNat,by omega⟩
 try dsimp only
 rw [hn];have hn2:2≤n:=by omega
 have hn8:n≤8:=by omega
 refine (jA rfl (jA rfl (⟨by omega,by omega,fun rl hrl0=>?_⟩)));refine ZQ (n:=((n:Nat):Int).toNat) (caps:=[some (.ref s),some (.int u)]) (fun i ys Hi=>∃R:List RC,AllAt (RcO cR Hi) ys R∧R.length=i∧∀(j:Nat) (r:RC),R[j]?=some r→r.good j) hrl0 ⟨[],AllAt.nil,rfl,fun j r hj=>by cases hj⟩ ?_ ?_
 ·rintro i ys Hi hi hle sm hY ⟨R,hR,hRl,hRg⟩;rw [aB] at hi;rw [dg];refine yF (kU (jA rfl (jA rfl (jA rfl ((yD s ns i u (bD rfl (sm.seq hS) h63 (by omega) hv0 hv1 (fun x r H' hg s' hx0 hx=>vY hrl0 sm hY hle (by omega) s' ?_))))))));refine ⟨R++[r],((hR.mono (RcO.same s')).snoc (v:=.ref x) (x:=r) ⟨x,rfl,hx⟩).mono (RcO.keep ((Keep.refl rl H').upd _) (s' _ _ hY)),by rw [ag,hRl];rfl,fun j r' hj=>?_⟩
  by_cases hl:j<R.length
  ·rw [aq hl] at hj;exact hRg j r' hj
  ·rw [ap (by omega)] at hj;have hz:j - R.length=0:=by
    have:=(ad.mp hj).1;rw [aN] at this;omega
   rw [hz] at hj;cases hj;rw [show j=i by omega];exact hg
 rintro rs H1 s1 hrl hle1 ⟨R,hR,hRl,hRg⟩;rw [aB] at hRl;refine (jA rfl (⟨s,ns,_,jA rfl (⟨s1.seq hS,h63,by omega,by omega,by omega,fun m1 m10 m11=>?_⟩)⟩));refine ⟨_,_,rfl,rfl,?_⟩;obtain ⟨m,hm⟩:∃m:Nat,1+m1=(m:Int):=⟨(1+m1).toNat,by omega⟩
 try dsimp only
 rw [hm];refine (jA rfl (⟨by omega,by omega,fun ll hll0=>?_⟩));refine ZQ (n:=((m:Nat):Int).toNat) (caps:=[some (.ref s),some (.int (n:Int)),some (.int u)]) (fun i ys Hi=>∃L:List LC,AllAt (LkO (jF cP cB cU) Hi) ys L∧L.length=i∧∀l∈L,l.good n) hll0 ⟨[],AllAt.nil,rfl,fun l hl=>by cases hl⟩ ?_ ?_
 ·rintro i ys Hi hi hle sm hY ⟨L,hL,hLl,hLg⟩;rw [aB] at hi;rw [dg];refine yF (kU (jA rfl (jA rfl (jA rfl (jA rfl ((JA s ns i n u (wN rfl ((s1.trans sm).seq hS) h63 (by omega) hn2 hn8 hv0 hv1 (fun x l H' hg s' hx0 hx=>vY hll0 sm hY hle (by omega) s' ?_)))))))));refine ⟨L++[l],((hL.mono (LkO.same s')).snoc (v:=.ref x) (x:=l) hx).mono (LkO.keep ((Keep.refl ll H').upd _) (s' _ _ hY)),by rw [ag,hLl];rfl,fun l' hl'=>?_⟩
  rcases aR.mp hl' with hl'|hl'
  ·exact hLg l' hl'
  ·rw [aA.mp hl'];exact hg
 rintro ls H2 s2 hll hle2 ⟨L,hL,hLl,hLg⟩;rw [aB] at hLl;have s12:=s1.trans s2;refine ⟨zz0,fun n0 hn00=>?_⟩;have s3:=jJ hn00 (.lst []);have hn0:upd H2 n0 (.lst []) n0=_:=jD;generalize upd H2 n0 (.lst [])=H3 at s3 hn0 ⊢;have s13:=s12.trans s3;refine ⟨fun σ' H'=>∃(nl:Addr) (nv:List V) (N:List (List (Int×Int))) (c:Option V),σ'=[some (.ref s),some (.int u),some (.int (n:Int)),some (.ref rl),some (.ref ll),some (.ref nl),c]∧H' nl=some (.lst nv)∧AllAt (NAt [] H') nv N∧N.length≤1∧(∀p∈N,p.length=n)∧Same H2 H',?_,?_⟩
 ·refine (jA rfl (⟨s,ns,_,jA rfl (⟨s13.seq hS,h63,by omega,by omega,by omega,fun m2 m20 m21=>?_⟩)⟩));refine ⟨rfl,jA rfl (cI (fun _=>?_) (fun _=>?_))⟩
  ·refine (jA rfl (jA rfl (⟨by omega,by omega,fI (n:=((n:Nat):Int).toNat) (fun i σ Hi=>∃(us:List V) (p:List (Int×Int)) (c:Option V),σ=[some (.ref s),some (.int u),some (.int (n:Int)),some (.ref rl),some (.ref ll),some (.ref n0),c]∧Hi n0=some (.lst us)∧AllAt (QAt Hi) us p∧p.length=i∧Same H2 Hi) ⟨[],[],none,rfl,hn0,AllAt.nil,rfl,s3⟩ ?_ ?_⟩)))
   ·rintro i σ Hi hi ⟨us,p,c,rfl,hl,hA,hp,sm⟩;rw [aB] at hi;rw [dg];have hSi:=(s12.trans sm).seq hS;refine (jA rfl (⟨.inl ⟨rfl,_,so hl⟩,jA rfl (jA rfl (j9 (⟨s,ns,_,jA rfl (⟨hSi,h63,by omega,by omega,by omega,fun d1 d10 d11=>?_⟩)⟩)))⟩));refine (jA rfl (j9 (⟨.inl ⟨by omega,by omega⟩,?_⟩)));refine (jA rfl (jA rfl (j9 (⟨s,ns,_,jA rfl (⟨hSi,h63,by omega,by omega,by omega,fun d2 d20 d21=>?_⟩)⟩))));refine (jA rfl (j9 (⟨.inl ⟨by omega,by omega⟩,zz2,fun tp htp=>?_⟩)));have v:=jJ htp (.tup [V.int (d1*u),V.int (d2*u)]);refine ⟨n0,_,_,rfl,rfl,v _ _ hl,yN (by rw [hA.1];omega),?_⟩;refine ⟨us++[.ref tp],p++[(d1*u,d2*u)],jA rfl (⟨jD,?_,by rw [ag,hp];rfl,qI hn00 (sm.trans v)⟩)⟩;exact ((hA.mono (QAt.same v)).snoc (v:=.ref tp) (x:=(d1*u,d2*u)) ⟨tp,rfl,jD⟩).mono (QAt.put (v _ _ hl))
   rintro σ Hi ⟨us,p,c,rfl,hl,hA,hp,sm⟩;rw [aB] at hp;refine (jA rfl (⟨zz1,fun nl hnl0=>?_⟩));have v:=jJ hnl0 (.lst [V.ref n0]);exact (yD nl _ ([p]) c (yH rfl jD (AllAt.nil.snoc ⟨n0,us,rfl,v _ _ hl,hA.mono (QAt.same v),by simp⟩) (ar _) (fun p' hp'=>by rw [aA.mp hp'];exact hp) (sm.trans v)))
  ·exact (yD n0 ([]) ([]) none (yH rfl hn0 AllAt.nil (aY _) (fun p hp=>by cases hp) s3))
 rintro σ' H4 ⟨nl,nv,N,c,rfl,hnl,hN,hN1,hNg,s4⟩;have hNl:=hN.1;refine (jA rfl (jA rfl (jA rfl (?_))));intro x dx nx ndx nex;have v:=fun o o'=>fT (o:=o) (o':=o') nx ndx
 refine (eE x dx rl ll _ rs ls R L N (gS rfl jD (v _ _ _ _ (s4 _ _ (s2 _ _ hrl))) (v _ _ _ _ (s4 _ _ hll)) ((hR.mono (RcO.same (s2.trans s4))).mono (RcO.same (v _ _))) ((hL.mono (LkO.same s4)).mono (LkO.same (v _ _))) (.inr ⟨nl,nv,rfl,v _ _ _ _ hnl,hN.mono (NAt.same (v _ _)),by omega⟩) (fun H' kp hC=>⟨rfl,?_⟩)));have w:=s12.trans s4;exact q x R L N H' ⟨by omega,by omega,by omega,by omega,hRg,fun i l hl=>by rw [hRl];exact hLg l (ai hl),fun p hp=>by rw [hRl];exact hNg p hp⟩ (by omega) (by omega) (by omega) (w.trans (fN nx (v _ _) kp)) (w.free nx) (hC [] (fun d hd=>nomatch hd))
theorem QH:jT 3 ["_law_script","_law_k","_law_canal_here","_law_lock_here","_law_at","_law_start","_law_steps","_law_j","_law_some","_law_step"] eQ:=jS
include T in
theorem II (F:kH K "_law_way" eQ f fd) (xa:Def P w K mg base 1 "_law_draw" ["_law_script","_law_k","_law_many"] [] (bT K)):FnOk P w K mg base jK 2 f fd ["_law_script","_law_k","_law_canal_here"] (C5 K (jF cP cB cU) cR cN):=by
 refine F.ok2 QH fun vs H Q E h=>?_
 refine zB h fun s x ns k D R L N h=>?_
 refine eF h fun e_ hS h63 hk hc hdr b1 q=>?_
 subst e_;refine ⟨rfl,fun _ _ _ _ hr=>?_⟩;refine ⟨_,(@jG _ _ _ _ _ (jX 3 QH.nd (jI (kM K) (j7 K (pv 2) rfl) (jP xa hr rfl (j4 (pv 0) (@jL _ _ _ _ _ _ _ _ kL jC (@jL _ _ _ _ _ _ _ _ vC jC (pv 1))) (kP K T.xf (j7 K (pv 2) rfl))))))
   (@jG _ _ _ _ _ (jX 4 QH.nd (jI (kM K) (qJ (jB (j7 K (pv 3) rfl) (jB (j7 K (pv 3) rfl) jE))) (jP xa hr rfl (j4 (pv 0) (@jL _ _ _ _ _ _ _ _ kL jC (@jL _ _ _ _ _ _ _ _ vC jC (pv 1))) jC))))
   (@jG _ _ _ _ _ (jX 5 QH.nd (pv 4))
   (@jG _ _ _ _ _ (jX 6 QH.nd (qJ jE))
   (@jG _ _ _ _ _ (yK aX rfl (JB (by rfl) T.xi (jB (@jL _ _ _ _ _ _ _ _ kL jC (jP xa hr rfl (j4 (pv 0) (@jL _ _ _ _ _ _ _ _ kL jC (@jL _ _ _ _ _ _ _ _ vC jC (pv 1))) jC))) jE)) (kC (i:=7) QH.nd rfl (.inl rfl))
    (@jG _ _ _ _ _ (J0 (i:=8) ["_law_n","_law_at","_law_canal_here"] (q9 1 [4,2]) QH.nd rfl (.inl rfl) rfl (qS (jM eQ)) (cps 1 [4,2]) (JB (by rfl) T.xi (jB (kP K T.xf (j7 K (pv 2) rfl)) jE)) (fun _ _ _ _ _=>(kC (i:=0) (show List.Nodup (["_law_n","_law_at","_law_canal_here"]:List Str) from by decide +kernel) rfl (.inl rfl))) (fun _ _ _ _ _=>(JN (kI qQ (j7 K (jI (kM K) (j7 K (pv 2) rfl) (pv 0)) rfl) (pv 1)))) (fun _ _ _ _ _=>(qA (jB (pv 0) (jB j6 jE)))))
   (@jG _ _ _ _ _ (jX 8 QH.nd (@jL _ _ _ _ _ _ _ _ ZU (pv 8) (cQ ["_law_n","_law_at","_law_canal_here"] [4,2] (qS (jM eQ)) (JB (by rfl) T.xi (jB (kP K T.xf (j7 K (pv 2) rfl)) jE)) (fun _ _ _ _ _=>(JN (kI qQ (j7 K (jI (kM K) (j7 K (pv 2) rfl) (pv 0)) rfl) (pv 1)))) (fun _ _ _ _ _=>(qA (jB (pv 0) (jB j6 jE)))))))
   (@jG _ _ _ _ _ (jX 9 QH.nd (jI (kM K) (pv 8) (jP xa hr rfl (j4 (pv 0) (@jL _ _ _ _ _ _ _ _ kL (@jL _ _ _ _ _ _ _ _ kL jC (@jL _ _ _ _ _ _ _ _ vC jC (pv 1))) (pv 7)) (kP K T.xf (pv 8))))))
   (@jG _ _ _ _ _ (JJ (QX bb bj bn QK (pv 6) (jB (pv 9) jE)))
   (@kX _ _ _ (jX 4 QH.nd (jI (kM K) (qJ (jB (j7 K (jI (kM K) (j7 K (pv 2) rfl) (jI (jR K) (pv 9) jC)) rfl) (jB (j7 K (jI (kM K) (j7 K (pv 2) rfl) (jI (jR K) (pv 9) jC)) rfl) jE))) (zE PK (by rfl) T.uu PyProof.Rows.boot_int (jB (z9 qQ (jI (jR K) (pv 9) jC) j6) jE))))))))))
   (jO (qA (jB (pv 5) (jB (zE (fA K) (by rfl) T.xr cm (jB (pv 6) jE)) jE))))))))),?_⟩
 try dsimp only [jV,jU]
 have hc0:=hc;obtain ⟨dx,rl,ll,nl,fs,rs,ls,nv,hx,hf,hrl,hll,hnl,hR,hL,hN,d1,d2,d3⟩:=hc;have b8:=hdr.l8;refine (jA rfl (j8 hx (T.clN) (T.xb) (hf.2.1) ((jA rfl (jA rfl (j9 (⟨.inl ⟨by decide,by decide⟩,_,_,rfl,rfl,jA rfl (j8 hx (T.clN) (T.xb) (hf.2.1) (⟨ll,jA rfl (⟨.inl (so hll),s,ns,_,jA rfl (⟨hS,h63,by omega,by omega,by rw [hL.1];omega,fun d1 d10 d11=>?_⟩)⟩)⟩))⟩)))))));obtain ⟨k1,hk1⟩:∃k1:Nat,d1=(k1:Int):=⟨d1.toNat,by omega⟩;subst hk1;have hk1L:k1<L.length:=by rw [hL.1] at d11;omega
 obtain ⟨l0,hl0⟩:∃l,L[k1]?=some l:=⟨_,aa hk1L⟩;obtain ⟨v,hv,yl,rfl,dl,hl⟩:=hL.get hl0;refine (qG (so hll) (qB hv) (?_));refine (jA rfl (j8 hl (T.cl l0.kd) (T.vp l0.kd) (dS l0.kd _ _ _ _ _) ((jA rfl (j8 hl (T.cl l0.kd) (T.zt l0.kd) (dN l0.kd _ _ _ _ _) (⟨zz2,fun p1 hp1=>?_⟩))))));have s1:=jJ hp1 (.lst [V.int l0.low,V.int l0.high]);refine (jA rfl (jA rfl (j9 (⟨.inl ⟨by decide,by decide⟩,_,_,rfl,rfl,s,ns,_,jA rfl (⟨s1.seq hS,h63,by omega,by omega,by omega,fun d2 d20 d21=>?_⟩)⟩))));obtain ⟨a0,hat,hend⟩:∃a0:Int,vF [V.int l0.low,V.int l0.high] d2=some (.int a0)∧EndAt L a0:=by
  obtain ⟨k2,hk2⟩:∃k2:Nat,d2=(k2:Int):=⟨d2.toNat,by omega⟩;subst hk2
  rcases k2 with _|_|k2
  ·exact ⟨l0.low,rfl,(k1,true),hk1L,by rw [bS hl0]⟩
  ·exact ⟨l0.high,rfl,(k1,false),hk1L,by rw [bJ hl0]⟩
  ·omega
 refine (qG (so jD) hat (?_));refine (jA rfl (⟨zz0,fun sp hsp0=>?_⟩));have s2:=jJ hsp0 (.lst []);have s12:=s1.trans s2;have hsp:upd (upd H p1 (.lst [V.int l0.low,V.int l0.high])) sp (.lst []) sp=some (.lst []):=jD;have hspf:=s1.free hsp0;generalize upd (upd H p1 (.lst [V.int l0.low,V.int l0.high])) sp (.lst [])=H2 at s2 s12 hsp ⊢;refine (jA rfl (jA rfl (j9 (⟨.inl ⟨by decide,by decide⟩,_,_,rfl,rfl,s,ns,_,jA rfl (⟨s12.seq hS,h63,by omega,by omega,by omega,fun m0 m00 m01=>?_⟩)⟩))));obtain ⟨n,hn⟩:∃n:Nat,1+m0=(n:Int):=⟨(1+m0).toNat,by omega⟩;refine ⟨_,_,rfl,rfl,(n:Int),(by show [V.int (1+m0)]=_;rw [hn]),by omega,by omega,?_⟩;refine fI (n:=((n:Nat):Int).toNat) (fun i σ Hi=>∃(a:Int) (ps:List (Nat×Bool)) (us:List V) (c8 c9 c10:Option V),σ=[some (.ref s),some (.int (k:Int)),some (.ref x),some (.ref yl),some (.int a),some (.int a0),some (.ref sp),c8,c9,c10]∧Hi sp=some (.lst us)∧AllAt (PAt Hi) us ps∧(∀p∈ps,p.1<L.length)∧ps.length=i∧(vK L a0 ps)[ps.length]?=some a∧bB L a0 ps∧EndAt L a∧Same H Hi)
  ⟨a0,[],[],none,none,none,rfl,hsp,AllAt.nil,fun p hp=>(by cases hp),rfl,rfl,SR _ _,hend,s12⟩ ?_ ?_
 ·rintro i σ Hi hi ⟨a,ps,us,c8,c9,c10,rfl,hsp,hA,hlt,hpl,hlast,hok,hen,sm⟩;rw [aB] at hi;rw [dg];refine (jA rfl (j8 ((sm _ _ hx)) (T.clN) (T.xb) (hf.2.1) (⟨ll,jA rfl (⟨.inl (so (sm _ _ hll)),jA rfl (⟨by omega,by rw [hL.1];omega,fun c1 hc10=>?_⟩)⟩)⟩)));refine ZQ (n:=((ls.length:Nat):Int).toNat) (caps:=[some (.int a),some (.ref x)]) (fun j zs Hj=>AllAt (PAt Hj) zs (yL L a true j)) hc10 AllAt.nil ?_ ?_
  ·rintro j zs Hj hj hle sj hY hA1;rw [aB,hL.1] at hj;rw [dg];obtain ⟨l,hl'⟩:∃l,L[j]?=some l:=⟨_,aa hj⟩;obtain ⟨w,hw,y,rfl,dl,hl⟩:=hL.get hl';have smj:=sm.trans sj;have ee:(vM L (j,true)).1=l.low:=by rw [bS hl']
   refine (jA rfl (j8 ((smj _ _ hx)) (T.clN) (T.xb) (hf.2.1) ((jA rfl (qG (so (smj _ _ hll)) (qB hw) (j8 ((smj _ _ hl)) (T.cl l.kd) (T.vp l.kd) (dS l.kd _ _ _ _ _) (⟨_,rfl,rfl,jA rfl (?_)⟩)))))))
   by_cases he:l.low=a
   ·refine vL (cp V.int he) (jA rfl (⟨zz2,fun tp htp=>vY hc10 sj hY hle (by omega) (jJ htp _) ?_⟩));rw [DF (ee.trans he)];have v:=jJ htp (.tup [V.int (j:Int),V.str "up"]);exact ((hA1.mono (PAt.same v)).snoc (v:=.ref tp) (x:=(j,true)) ⟨tp,rfl,jD⟩).mono (PAt.put (v _ _ hY))
   ·refine qX (fun z=>he (V.int.inj z)) (J3 sj hY hle (Same.refl _) ?_);rw [EQ (fun z=>he (ee.symm.trans z))];exact hA1
  rintro z1 Ha sa hc1 hle1 hA1;rw [aB,hL.1] at hA1;have sma:=sm.trans sa;refine (jA rfl (jA rfl (j8 ((sma _ _ hx)) (T.clN) (T.xb) (hf.2.1) (⟨ll,jA rfl (⟨.inl (so (sma _ _ hll)),jA rfl (⟨by omega,by rw [hL.1];omega,fun c2 hc20=>?_⟩)⟩)⟩))));refine ZQ (n:=((ls.length:Nat):Int).toNat) (caps:=[some (.int a),some (.ref x)]) (fun j zs Hj=>AllAt (PAt Hj) zs (yL L a false j)) hc20 AllAt.nil ?_ ?_
  ·rintro j zs Hj hj hle sj hY hA1;rw [aB,hL.1] at hj;rw [dg];obtain ⟨l,hl'⟩:∃l,L[j]?=some l:=⟨_,aa hj⟩;obtain ⟨w,hw,y,rfl,dl,hl⟩:=hL.get hl';have smj:=sma.trans sj;have ee:(vM L (j,false)).1=l.high:=by rw [bJ hl']
   refine (jA rfl (j8 ((smj _ _ hx)) (T.clN) (T.xb) (hf.2.1) ((jA rfl (qG (so (smj _ _ hll)) (qB hw) (j8 ((smj _ _ hl)) (T.cl l.kd) (T.zt l.kd) (dN l.kd _ _ _ _ _) (⟨_,rfl,rfl,jA rfl (?_)⟩)))))))
   by_cases he:l.high=a
   ·refine vL (cp V.int he) (jA rfl (⟨zz2,fun tp htp=>vY hc20 sj hY hle (by omega) (jJ htp _) ?_⟩));rw [DF (ee.trans he)];have v:=jJ htp (.tup [V.int (j:Int),V.str "down"]);exact ((hA1.mono (PAt.same v)).snoc (v:=.ref tp) (x:=(j,false)) ⟨tp,rfl,jD⟩).mono (PAt.put (v _ _ hY))
   ·refine qX (fun z=>he (V.int.inj z)) (J3 sj hY hle (Same.refl _) ?_);rw [EQ (fun z=>he (ee.symm.trans z))];exact hA1
  rintro z2 Hb sb hc2 hle2 hA2;rw [aB,hL.1] at hA2;have smb:=sma.trans sb;have hl1:=ER (L:=L) (a:=a) (b:=true) (i:=L.length);have hl2:=ER (L:=L) (a:=a) (b:=false) (i:=L.length);have hz1:=hA1.1;have hz2:=hA2.1;refine ⟨c1,c2,_,_,rfl,rfl,sb _ _ hc1,hc2,small (by omega),fun sOo hso0=>?_⟩;have s4':=jJ hso0 (.lst (z1++z2));have hTA:AllAt (PAt (upd Hb sOo (.lst (z1++z2)))) (z1++z2) (yL L a true L.length++yL L a false L.length):=((hA1.mono (PAt.same sb)).app hA2).mono (PAt.same s4');have hso:upd Hb sOo (.lst (z1++z2)) sOo=_:=jD;have s4:=(sa.trans sb).trans s4';generalize upd Hb sOo (.lst (z1++z2))=H4 at s4 hTA hso ⊢;have sm4:=sm.trans s4;have htl:=R4 hen;generalize z1++z2=tus at hTA hso ⊢;refine (jA rfl (jA rfl (jA rfl (j9 (⟨.inl ⟨by decide,by decide⟩,_,_,rfl,rfl,jA rfl (j9 ((jA rfl (⟨sOo,jA rfl (⟨.inl (so hso),s,ns,_,jA rfl (⟨sm4.seq hS,h63,by omega,by omega,by rw [hTA.1];omega,fun d4 d40 d41=>?_⟩)⟩)⟩))))⟩)))));obtain ⟨m,hm⟩:∃m:Nat,d4=(m:Int):=⟨d4.toNat,by omega⟩;subst hm;have hml:m<tus.length:=by omega
  obtain ⟨p,hp,t,et,ht⟩:=hTA.2 m _ (aa hml);obtain ⟨hpL,hpe⟩:=R5 (ai hp);refine (qG (so hso) (qB (v:=.ref t) (by rw [aa hml,et])) (?_));have hsp4:=s4 _ _ hsp;refine (jA rfl (⟨.inl ⟨rfl,_,so hsp4⟩,jA rfl (⟨sp,_,_,rfl,rfl,hsp4,yN (by rw [hA.1];omega),?_⟩)⟩));have hA5:AllAt (PAt (upd H4 sp (.lst (us++[.ref t])))) (us++[.ref t]) (ps++[p]):=((hA.mono (PAt.same s4)).snoc ⟨t,rfl,ht⟩).mono (PAt.put hsp4);have sm5:Same H (upd H4 sp (.lst (us++[.ref t]))):=qI hspf sm4;have hsp5:upd H4 sp (.lst (us++[.ref t])) sp=some (.lst (us++[.ref t])):=jD;have ht:upd H4 sp (.lst (us++[.ref t])) t=some (.tup [.int (p.1:Int),.str (gQ p.2)]):=by rw [jH (fun z=>by rw [z,hsp4] at ht;cases ht)];exact ht
  generalize upd H4 sp (.lst (us++[.ref t]))=H5 at hA5 sm5 hsp5 ht ⊢;obtain ⟨l,hl',hlg⟩:=AA hdr hpL;obtain ⟨w,hw,y,rfl,dl,hl⟩:=hL.get hl';refine (jA rfl (j8 ((sm5 _ _ hx)) (T.clN) (T.xb) (hf.2.1) ((jA rfl (j3 (SqT.of ht) rfl (qG (so (sm5 _ _ hll)) (qB hw) (j8 ((sm5 _ _ hl)) (T.cl l.kd) (T.vp l.kd) (dS l.kd _ _ _ _ _) ((jA rfl (j8 ((sm5 _ _ hx)) (T.clN) (T.xb) (hf.2.1) ((jA rfl (j3 (SqT.of ht) rfl (qG (so (sm5 _ _ hll)) (qB hw) (j8 ((sm5 _ _ hl)) (T.cl l.kd) (T.zt l.kd) (dN l.kd _ _ _ _ _) (⟨zz2,fun pl hpl0=>?_⟩))))))))))))))));have u:=jJ hpl0 (.lst [V.int l.low,V.int l.high]);refine (jA rfl (j3 (SqT.of (u _ _ ht)) rfl (⟨rfl,.inr (jA rfl (?_))⟩)));rw [E7];have hat:vF [V.int l.low,V.int l.high] (if p.2=true then 1 else 0)=some (.int (vM L p).2):=by
   obtain ⟨pk,pb⟩:=p;cases pb
   ·rw [bJ hl'];rfl
   ·rw [bS hl'];rfl
  refine (qG (so jD) hat (?_));refine ⟨_,ps++[p],us++[.ref t],_,_,jA rfl (⟨u _ _ hsp5,hA5.mono (PAt.same u),fun p' hp'=>?_,by rw [ag,hpl];rfl,?_,(P4 hlast).mpr ⟨hok,hpe⟩,EndAt.next hpL,sm5.trans u⟩)⟩
  ·rcases aR.mp hp' with h|h
   ·exact hlt p' h
   ·rw [aA.mp h];exact hpL
  ·rw [rY,ag,ap (by rw [fP];exact ar _),fP];show [(vM L p).2][ps.length+1 - (ps.length+1)]?=_;rw [li];rfl
 rintro σ Hi ⟨a,ps,us,c8,c9,c10,rfl,hsp,hA,hlt,hpl,hlast,hok,hen,sm⟩;rw [aB] at hpl;refine (jA rfl (jA rfl (⟨sp,us,rfl,.inl ⟨so hsp,fun st hst0=>?_⟩⟩)));have v1:=jJ hst0 (.tup us);refine ⟨zz2,fun t ht0=>?_⟩;have v2:=jJ ht0 (.tup [V.int a0,V.ref st]);have w:=(sm.trans v1).trans v2;exact q t (a0,ps) _ ⟨hlt,hok,by show ps.length≤8;omega⟩ w ((sm.trans v1).free ht0) (v8 t st us (y0 rfl jD (v2 _ _ jD) (hA.mono (PAt.same (v1.trans v2)))))
theorem eT:jT 3 ["_law_script","_law_canal_here","_law_ways","_law_waters","_law_k","_law_held","_law_places"] iE:=jS
include T in
theorem IG (F:kH K "_law_state" iE f fd) (wj:MeD P w K mg base 5 cN "start" ["self"] (BX (jF cP cB cU) cR cN)) (xa:Def P w K mg base 1 "_law_draw" ["_law_script","_law_k","_law_many"] [] (bT K)) (jf:MeK P w K mg base 1 (jF cP cB cU) "kind" ["self"] (QM (jF cP cB cU) (fun kd _=>V.str (match kd with|.plain=>"plain"|.basin=>"basin"|.pump=>"pump")))) (wk:MeK P w K mg base 1 (jF cP cB cU) "extra" ["self"] (QM (jF cP cB cU) (fun kd v=>V.int (match kd with|.plain=>0|.basin=>v|.pump=>v)))):FnOk P w K mg base jK 6 f fd ["_law_script","_law_canal_here","_law_ways"] (AN K (jF cP cB cU) cR cN):=by
 refine F.ok2 eT fun vs H Q E h=>?_
 refine gE h fun s x wl ns us ys D R L N h=>?_
 refine VO h fun e_ hS h63 hc hdr hwl hA h10 hok q=>?_
 subst e_;refine ⟨rfl,fun _ _ _ _ hr=>?_⟩;refine ⟨_,(@jG _ _ _ _ _ (jX 3 eT.nd (zE (bH K) (by rfl) T.xn aW (jB (ZJ wj hr (pv 1)) jE)))
   (@jG _ _ _ _ _ (yK aX rfl (JB (by rfl) T.xi (jB (kP K T.xf (j7 K (pv 1) rfl)) jE)) (kC (i:=4) eT.nd rfl (.inl rfl))
    (dJ (kT (kI qQ (jP xa hr rfl (j4 (pv 0) (@jL _ _ _ _ _ _ _ _ kL jC (pv 4)) jC)) jC) (@kX _ _ _ (t7 (j7 K (jI (kM K) (j7 K (pv 1) rfl) (pv 4)) rfl) (t9 (pv 3) (@jL _ _ _ _ _ _ _ _ kL (kP K T.xf (j7 K (pv 1) rfl)) (pv 4)) dF))) kS)
   (@kX _ _ _ (kT (kI qQ (EV jf hr (jI (kM K) (j7 K (pv 1) rfl) (pv 4))) j6) (@jG _ _ _ _ _ (jX 5 eT.nd (jI (kM K) (qJ (jB jC (jB (EV wk hr (jI (kM K) (j7 K (pv 1) rfl) (pv 4))) jE))) (jP xa hr rfl (j4 (pv 0) (@jL _ _ _ _ _ _ _ _ kL jC (pv 4)) jC))))
   (@kX _ _ _ (t7 (pv 5) (t9 (pv 3) (@jL _ _ _ _ _ _ _ _ kL (@jL _ _ _ _ _ _ _ _ kL (kP K T.xf (j7 K (pv 1) rfl)) (kP K T.xf (j7 K (pv 1) rfl))) (pv 4)) dF)))) kS))))
   (@jG _ _ _ _ _ (J0 (i:=6) ["_law_k","_law_script","_law_ways"] (q9 1 [0,2]) eT.nd rfl (.inl rfl) rfl (qS (jM iE)) (cps 1 [0,2]) (JB (by rfl) T.xi (jB (kP K T.xf (pv 2)) jE)) (fun _ _ _ _ _=>(kC (i:=0) (show List.Nodup (["_law_k","_law_script","_law_ways"]:List Str) from by decide +kernel) rfl (.inl rfl))) (fun _ _ _ _ _=>zF) (fun _ _ _ _ _=>(@jL _ _ _ _ _ _ _ _ dQ (y6 (BL rfl) (by rfl) T.wb PyProof.Rows.boot_max (jB jC (jB (@jL _ _ _ _ _ _ _ _ JE (jP xa hr rfl (j4 (pv 1) (@jL _ _ _ _ _ _ _ _ kL jC (pv 0)) jC)) jC) jE))) (@jL _ _ _ _ _ _ _ _ kL jC (kP K T.xf (jI (jR K) (jI (kM K) (pv 2) (pv 0)) jC))))))
   (jO (qA (j4 (jP xa hr rfl (j4 (pv 0) jC (@jL _ _ _ _ _ _ _ _ kL (kP K T.xf (j7 K (pv 1) rfl)) jC))) (zE (fA K) (by rfl) T.xr cm (jB (pv 3) jE)) (zE (fA K) (by rfl) T.xr cm (jB (pv 6) jE)))))))),?_⟩
 try dsimp only [jV,jU]
 have hc0:=hc;obtain ⟨dx,rl,ll,nl,fs,rs,ls,nv,hx,hf,hrl,hll,hnl,hR,hL,hN,d1,d2,d3⟩:=hc;have b1:=hdr.r8;have b2:=hdr.l8;have b3:=hdr.n6;refine (jA rfl (⟨x,dx,jA rfl (⟨hx,hf.no (by decide +kernel) (by decide +kernel) (by decide +kernel),JA x D R L N (yH rfl hc0 (by omega) (by omega) (dB hdr) (fun t0 H0 gs s0 ht00 ht0 hSp=>?_))⟩)⟩));refine ⟨t0,jA rfl (⟨.inr (SqT.of ht0),fun wa hwa0=>?_⟩)⟩;have hm0:(Z5 (J4 R L.length) (qD R L.length) gs).length=R.length+2*L.length+2:=by rw [M5,fF]
 generalize Z5 (J4 R L.length) (qD R L.length) gs=m0 at hm0 ⊢;have s1:=jJ hwa0 (.lst (m0.map V.int));have hwaH:=s0.free hwa0;refine (jA rfl (j8 ((s1 _ _ (s0 _ _ hx))) (T.clN) (T.xb) (hf.2.1) (⟨ll,jA rfl (⟨.inl (so (s1 _ _ (s0 _ _ hll))),jA rfl (⟨by omega,by rw [hL.1];omega,fI (n:=((ls.length:Nat):Int).toNat) (fun i σ Hi=>∃(ms:List Int) (c1 c2:Option V),σ=[some (.ref s),some (.ref x),some (.ref wl),some (.ref wa),c1,c2,none]∧Hi wa=some (.lst (ms.map V.int))∧ms.length=R.length+2*L.length+2∧Same H Hi) (v8 m0 none none (y0 rfl jD hm0 (s0.trans s1))) ?_ ?_⟩)⟩)⟩)))
 ·rintro i σ Hi hi ⟨ms,c1,c2,rfl,hwa,hml,sm⟩;rw [aB,hL.1] at hi;rw [dg];obtain ⟨l,hl'⟩:∃l,L[i]?=some l:=⟨_,aa hi⟩;obtain ⟨v,hv,y,rfl,dl,hl⟩:=hL.get hl';refine ⟨fun σ' H'=>∃ms:List Int,σ'=[some (.ref s),some (.ref x),some (.ref wl),some (.ref wa),some (.int (i:Int)),c2,none]∧H' wa=some (.lst (ms.map V.int))∧ms.length=R.length+2*L.length+2∧Same H H',?_,?_⟩
  ·refine (jA rfl (jA rfl (j9 (⟨s,ns,_,jA rfl (⟨sm.seq hS,h63,by omega,by omega,by omega,fun d1 d10 d11=>?_⟩)⟩))));refine ⟨rfl,jA rfl (cI (fun _=>?_) (fun _=>⟨ms,rfl,hwa,hml,sm⟩))⟩;refine (jA rfl (j8 ((sm _ _ hx)) (T.clN) (T.xb) (hf.2.1) ((jA rfl (qG (so (sm _ _ hll)) (qB hv) (j8 ((sm _ _ hl)) (T.cl l.kd) (T.zu l.kd) (dM l.kd _ _ _ _ _) ((jA rfl (jA rfl (j8 ((sm _ _ hx)) (T.clN) (T.xg) (hf.1) (⟨rl,jA rfl (⟨.inl (so (sm _ _ hrl)),jA rfl (j9 ((yD wa _ _ (R.length+i) (yZ rfl (by rw [hR.1];rfl) hwa (dL (by rw [ae];omega)) (?_)))))⟩)⟩)))))))))));rw [dA];exact ⟨ms.set (R.length+i) l.room,rfl,jD,by rw [cx];exact hml,qI hwaH sm⟩
  rintro σ' H1 ⟨ms,rfl,hwa,hml,sm⟩;have hl2:=sm _ _ hl;refine (jA rfl (j8 ((sm _ _ hx)) (T.clN) (T.xb) (hf.2.1) ((jA rfl (qG (so (sm _ _ hll)) (qB hv) (⟨l.kd,y,dl,jA rfl (⟨hl2,S7 l.kd _ _ _ _ _,y,_,_,_,_,jA rfl (⟨⟨dl,hl2⟩,rfl,jA rfl (cI (fun _=>?_) (fun _=>⟨ms,_,jA rfl (⟨hwa,hml,sm⟩)⟩))⟩)⟩)⟩))))));refine (jA rfl (j8 ((sm _ _ hx)) (T.clN) (T.xb) (hf.2.1) ((jA rfl (qG (so (sm _ _ hll)) (qB hv) (⟨l.kd,y,dl,jA rfl (⟨hl2,RM l.kd _ _ _ _ _,y,_,_,_,_,jA rfl (⟨⟨dl,hl2⟩,zz2,fun p1 hp1=>?_⟩)⟩)⟩))))))
  try dsimp only
  generalize hex:(match l.kd with|.plain=>(0:Int)|.basin=>l.extra|.pump=>l.extra)=ex;have u:=jJ hp1 (.lst ([(0:Int),ex].map V.int));have smu:=sm.trans u;refine (jA rfl (jA rfl (j9 (⟨s,ns,_,jA rfl (⟨smu.seq hS,h63,by omega,by omega,by omega,fun d1 d10 d11=>?_⟩)⟩))));obtain ⟨he,hhe,hat⟩:=uG [(0:Int),ex] d10 d11;refine (qG (so jD) hat (?_));have hwau:=u _ _ hwa;refine (jA rfl (jA rfl (jA rfl (j8 ((smu _ _ hx)) (T.clN) (T.xg) (hf.1) (⟨rl,jA rfl (⟨.inl (so (smu _ _ hrl)),jA rfl (j8 ((smu _ _ hx)) (T.clN) (T.xb) (hf.2.1) (⟨ll,jA rfl (⟨.inl (so (smu _ _ hll)),_,_,rfl,rfl,jA rfl (j9 ((yD wa _ _ (R.length+L.length+i) (yZ rfl (by rw [hR.1,hL.1];rfl) hwau (dL (by rw [ae];omega)) (?_)))))⟩)⟩))⟩)⟩)))));rw [dA];exact ⟨ms.set (R.length+L.length+i) he,_,jA rfl (⟨jD,by rw [cx];exact hml,qI hwaH smu⟩)⟩
 rintro σ H2 ⟨ms,c1,c2,rfl,hwa2,hml,sm2⟩;have hA2:=hA.mono (WyAt.same sm2);refine (jA rfl (⟨wl,jA rfl (⟨.inl (so (sm2 _ _ hwl)),jA rfl (⟨by omega,by rw [hA.1];omega,fun pb hpb0=>?_⟩)⟩)⟩));refine ZQ (n:=((us.length:Nat):Int).toNat) (caps:=[some (.ref s),some (.ref wl)]) (fun i zs _=>∃ps:List Nat,zs=ps.map (fun (p:Nat)=>V.int (p:Int))∧ps.length=i∧∀(j:Nat) (y:jY) (p:Nat),ys[j]?=some y→ps[j]?=some p→p≤y.2.length) hpb0 ⟨[],rfl,rfl,fun j y p _ h=>by cases h⟩ ?_ ?_
 ·rintro i zs Hj hi hle sj hY ⟨ps,rfl,hpl,hple⟩;rw [aB,hA.1] at hi;rw [dg];obtain ⟨y,hy⟩:∃y,ys[i]?=some y:=⟨_,aa hi⟩;obtain ⟨v,hv,t,st,vs,rfl,h1,h2,h3⟩:=hA2.get hy;have smj:=sm2.trans sj;refine yF (kU ?_);refine (jA rfl (jA rfl (j9 (⟨s,ns,_,jA rfl (⟨smj.seq hS,h63,by omega,by omega,by omega,fun d d0 d1=>?_⟩)⟩))));refine ⟨_,_,rfl,rfl,_,jA rfl (?_)⟩;refine (jA rfl (jA rfl (qG (so (smj _ _ hwl)) (qB hv) (j3 (SqT.of (sj _ _ h1)) rfl (⟨st,jA rfl (⟨.inr (SqT.of (sj _ _ h2)),_,_,rfl,rfl,_,_,rfl,rfl,(by omega),?_⟩)⟩)))));have hl3:=h3.1;obtain ⟨p,hp,hpy⟩:∃p:Nat,(if 0<d - 1 then d - 1 else 0)%(1+((vs.length:Nat):Int))=(p:Int)∧p≤y.2.length:=by
   have e0:=ij (if 0<d - 1 then d - 1 else 0) (show (1+((vs.length:Nat):Int))≠0 by omega);have e1:=gg (if 0<d - 1 then d - 1 else 0) (show (0:Int)<1+((vs.length:Nat):Int) by omega);exact ⟨_,(Int.toNat_of_nonneg e0).symm,by omega⟩
  try dsimp only
  rw [hp];refine vY hpb0 sj hY hle (by omega) (Same.refl _) ⟨ps++[p],by rw [aJ];rfl,by rw [ag,hpl];rfl,fun j y' p' hj hp'=>?_⟩
  by_cases hl:j<ps.length
  ·rw [aq hl] at hp';exact hple j y' p' hj hp'
  ·rw [ap (by omega)] at hp';have hz:j - ps.length=0:=by
    have:=(ad.mp hp').1;rw [aN] at this;omega
   rw [hz] at hp';cases hp';rw [show j=i by omega,hy] at hj;cases hj;exact hpy
 rintro zs H4 s4 hpb hle4 ⟨pl,rfl,hpl,hple⟩;rw [aB,hA.1] at hpl;have sm4:=sm2.trans s4;refine (jA rfl (jA rfl (j8 ((sm4 _ _ hx)) (T.clN) (T.xl) (hf.2.2.1) (⟨nl,jA rfl (⟨.inl (so (sm4 _ _ hnl)),_,_,rfl,rfl,s,ns,_,jA rfl (⟨sm4.seq hS,h63,by omega,by omega,by rw [hN.1];omega,fun dd dd0 dd1=>?_⟩)⟩)⟩))));refine (jA rfl (⟨wa,jA rfl (.inl ⟨so (s4 _ _ hwa2),fun t1 ht10=>?_⟩)⟩));have v1:=jJ ht10 (.tup (ms.map V.int));refine (jA rfl (⟨pb,jA rfl (.inl ⟨so (v1 _ _ hpb),fun t2 ht20=>?_⟩)⟩));have v2:=jJ ht20 (.tup (pl.map fun (p:Nat)=>V.int (p:Int)));refine ⟨zz3,fun t3 ht30=>?_⟩;have v3:=jJ ht30 (.tup [V.int dd,V.ref t1,V.ref t2]);exact q t3 dd ms pl _ (((sm4.trans v1).trans v2).trans v3) ⟨t1,t2,jD,v3 _ _ (v2 _ _ jD),v3 _ _ jD⟩ ⟨hpl,h10,hok,hple⟩ dd0 hml
theorem wX:jT 2 ["_law_ways","_law_state_here","_law_k"] oN:=jS
include T in
theorem IB (F:kH K "_law_home" oN f fd) : FnOk P w K mg base jK 1 f fd ["_law_ways","_law_state_here"] (AS):=by
  refine F.ok2 wX fun vs H Q E h=>?_
  refine zB h fun wl st us ys d ms pl L h=>?_
  refine Q4 h fun e_ hwl hA p2_ hf q=>?_
  subst e_;obtain ⟨wt,pt,h1,h2,h3⟩:=p2_;refine ⟨rfl,fun _ _ _ _ hr=>?_⟩;refine ⟨_,(@jG _ _ _ _ _ (yK aX rfl (JB (by rfl) T.xi (jB (kP K T.xf (pv 0)) jE)) (kC (i:=2) wX.nd rfl (.inl rfl))
        (@kX _ _ _ (kT (kI zM (jI (jR K) (jI (jR K) (pv 1) jC) (pv 2)) (kP K T.xf (jI (jR K) (jI (kM K) (pv 0) (pv 2)) jC))) (jO yT) kS)))
      (jO yT)),?_⟩
  try dsimp only [jV,jU]
  have h10:=hf.n10;have hul:=hA.1;have hz:=OY hf;refine (jA rfl (⟨wl,jA rfl (⟨.inl (so hwl),jA rfl (⟨by omega,by omega,fI (n:=((us.length:Nat):Int).toNat) (fun i σ Hi=>∃c:Option V,σ=[some (.ref wl),some (.ref st),c]∧(∀j,j<i→pl.getD j 0=(ys.getD j (0,[])).2.length)∧Hi=H) ⟨none,rfl,(fun j hj=>absurd hj (fv _)),rfl⟩ ?_ ?_⟩)⟩)⟩))
  · rintro i σ Hi hi ⟨c,rfl,hall,rfl⟩
    rw [aB,hul] at hi;rw [dg];obtain ⟨y,hy⟩:∃y,ys[i]?=some y:=⟨_,aa hi⟩;obtain ⟨v,hv,t,sp,vs,rfl,g1,g2,g3⟩:=hA.get hy;obtain ⟨p,hp⟩:∃p,pl[i]?=some p:=⟨_,aa (by rw [hf.len];exact hi)⟩;have ep:pl.getD i 0=p:=by rw [af,hp];rfl
    have ey:ys.getD i (0,[])=y:=by rw [af,hy];rfl
    have gl:=g3.1;refine (jA rfl (j3 (SqT.of h1) rfl ((jA rfl (j3 (SqT.of h3) (qB (v:=.int (p:Int)) (by rw [av,hp];rfl)) ((jA rfl (jA rfl (qG (so hwl) (qB hv) (j3 (SqT.of g1) rfl (⟨sp,jA rfl (⟨.inr (SqT.of g2),rfl,jA rfl (?_)⟩)⟩)))))))))))
    by_cases e:p=y.2.length
    · refine y9 (cp V.int (by rw [gl,e])) (jA rfl (⟨fun j hj=>?_,rfl⟩))
      by_cases hji:j<i
      · exact hall j hji
      · rw [show j=i by omega,ep,ey];exact e
    · refine ZZ (fun z=>e (by have:=V.int.inj z;omega)) ?_
      rw [aI (fun z=>e (by have:=hz.mp z i hi;rw [ep,ey] at this;exact this))] at q;exact q
  rintro σ Hi ⟨c,rfl,hall,rfl⟩;rw [aB,hul] at hall;rw [aK (hz.mpr hall)] at q;exact q
theorem K8:LamScope true ["_law_one","_law_ways","_law_canal_here"] "_law_one" ["_law_ways","_law_canal_here"] (jM qR):=⟨rfl,rfl,rfl,by decide +kernel,rfl,rfl,by decide +kernel,mC (by decide +kernel),⟨_,rfl,by decide +kernel⟩⟩
theorem GZ (T:Txt P w base K mg cP cB cU cR cN tkS eW eL eTW tkH) (wg:Def P w K mg base 9 "may" ["canal","ways","state"] [] (f7 (jF cP cB cU) cR cN)) (jb:Def P w K mg base 10 "after" ["canal","ways","state","deed"] [] (lA (jF cP cB cU) cR cN)):FnV P w K mg base jK 14 (yC "law.<locals>._law_ahead" (kN qR) (kD qR) (jM qR) ["_law_one"] ["_law_ways","_law_canal_here"] (yP (jF cP cB cU) cR cN)):=by
 refine DW (k:=13) K8 (fun _ _ _ _ _ _ _ _=>rfl) fun A outer s H f cdv cl fvs v Q E hcl hr hc h=>?_
 obtain ⟨x,wl,st,H0,us,ys,d,ms,pl,D,R,L,N,rfl,⟨⟩,s0,h0,hcn,hdr,hwl,hA,hst,hfl,hml,hd0,q⟩:=h;have hu:_<cLine:=hr.units0;have hu1:=d9 hr;have hu9:=QS hr;have hu10:=QO hr;refine ⟨_,(jO (gI ["_law_deed","_law_canal_here","_law_ways","_law_one"] [2,1,0] (qS (jM qR)) (qV (jP wg hr rfl (j4 (pv 2) (pv 1) (pv 0)))) (fun _ _ _ _ _=>(qA (jB (pv 0) (jB (jP jb hr rfl (yG (pv 1) (pv 2) (pv 3) (pv 0))) jE)))))),?_⟩;have sd:=lG s0 h0;have hG:Stage _ _ _ D (kR H (cl.map (·.2))) x wl st us R L N ys d ms pl:=⟨hcn.same sd,hdr,sd _ _ hwl,hA.mono (WyAt.same sd),hst.del hc,hfl,hml⟩;refine (jA rfl (jA rfl (jA rfl ((eD x wl st us ys d ms pl D R L N (yE rfl hG (fun r zs H1 s1 hr0 hr1 hdd=>⟨r,rfl,⟨_,so hr1⟩,fun bt hbt=>?_⟩)))))));have hml0:(vJ R L N.length ys d ms pl).length≤999:=by
  have h1:=bd (fun de=>decide (v6 R L N.length ys d ms pl de="")) (y7 ys.length L.length);rw [iY] at h1;have h2:=hfl.n10;have h3:=hdr.l8;exact aG h1 (by omega)
 refine zR (K:=K) (a:=r) (xs:=zs) (caps:=[some (.ref x),some (.ref wl),some (.ref st)]) (fun j ws Hk=>zK Hk ws (zV R L N ys (d,ms,pl) ((vJ R L N.length ys d ms pl).take j))) hbt (so hr1) ⟨rfl,fun i x e=>by cases e⟩ ?_ ?_
 ·rintro j v ws Hk hv hj hle sm hY hR;obtain ⟨de,hde,ta,rfl,hta⟩:=hdd.2 j v hv;have hin:=aO.mp (ai hde);have hj9:j<(vJ R L N.length ys d ms pl).length:=(ad.mp hde).1;refine yF (kU ?_);refine (jA rfl (jA rfl (jA rfl (jA rfl (jA rfl ((cJ x wl st ta de us ys d ms pl D R L N (bD rfl ((hG.same s1).same sm) (sm _ _ hta) (rF hin.1) hd0 (bu hin.2) (fun r2 H2 gs s2 hr2 hs2 hSp=>⟨small (by show 2≤1000;decide),fun tp htp=>?_⟩)))))))));have u:=jJ htp (.tup [V.ref ta,V.ref r2]);have hnx:=tP (s:=(d,ms,pl)) (ys:=ys) (N:=N) (de:=de) hdr hml hSp;refine vY (R:=fun j ws Hk=>zK Hk ws (zV R L N ys (d,ms,pl) ((vJ R L N.length ys d ms pl).take j))) hbt sm hY hle (by omega) (s2.trans u) ?_;have tk:∀a l,Hk a=some (.tup l)→upd (upd H2 tp (.tup [V.ref ta,V.ref r2])) bt (.lst (ws++[.ref tp])) a=some (.tup l):=fun a l e=>by rw [jH fun z=>by subst z;rw [hY] at e;cases e];exact u _ _ (s2 _ _ e)
  have hbt2:upd H2 tp (.tup [V.ref ta,V.ref r2]) bt=some (.lst ws):=u _ _ (s2 _ _ hY);have tk2:∀a l,upd H2 tp (.tup [V.ref ta,V.ref r2]) a=some (.tup l)→upd (upd H2 tp (.tup [V.ref ta,V.ref r2])) bt (.lst (ws++[.ref tp])) a=some (.tup l):=fun a l e=>by rw [jH fun z=>by subst z;rw [hbt2] at e;cases e];exact e
  have ht:(vJ R L N.length ys d ms pl).take (j+1)=(vJ R L N.length ys d ms pl).take j++[de]:=by rw [aC,hde];rfl
  show zK _ _ (zV R L N ys (d,ms,pl) ((vJ R L N.length ys d ms pl).take (j+1)));rw [ht];unfold zV;rw [aJ];refine rH (p:=(yX de,jZ (QA R L N ys (d,ms,pl) de))) (fG tk hR) (tk2 _ _ jD) (FH (tk _ _ (sm _ _ hta))) ?_ (FI de) (gC _);have h3:(GV (upd H2 tp (.tup [V.ref ta,V.ref r2])) (jZ (QA R L N ys (d,ms,pl) de))).1 (.ref r2):=by
   rw [hnx];exact eA (s:=(Z2 d de,kK ms (QP R L N ys d ms pl de gs),Q7 pl de)) (hs2.same u)
  exact (GV.keep tk2 _).1 _ h3
 ·rintro ws Hg sg hbg hleg hR hn;rw [hdd.1,aL] at hR;have sa:=(s1.trans sg);refine q _ _ _ (fL sa) ?_ (lX hn hbg) ?_
  ·have hb:bt∉cl.map (·.2):=fun hin=>by rw [hn bt hin] at hbg;cases hbg
   cases e:H bt with
   |none=>rfl
   |some o=>have:=s1 bt o (by rw [vG hb];exact e);rw [hbt] at this;cases this
  ·exact fG (fun a l e=>lX hn e) hR
theorem K9:LamScope false ["_law_one","_law_ways","_law_canal_here"] "_law_one" ["_law_ways","_law_canal_here"] (jM vB):=⟨rfl,rfl,rfl,by decide +kernel,rfl,rfl,by decide +kernel,mC (by decide +kernel),(show ∀y∈(jM vB).names,y.2≠.cell by decide +kernel)⟩
theorem G0 (T:Txt P w base K mg cP cB cU cR cN tkS eW eL eTW tkH) (wg:Def P w K mg base 9 "may" ["canal","ways","state"] [] (f7 (jF cP cB cU) cR cN)) (jy:Def P w K mg base 1 "_law_home" ["_law_ways","_law_state_here"] [] (AS)):FnV P w K mg base jK 14 (yC "law.<locals>._law_ended" (kN vB) (kD vB) (jM vB) ["_law_one"] ["_law_ways","_law_canal_here"] (zU (jF cP cB cU) cR cN)):=by
 refine DW (k:=13) K9 (fun _ _ _ _ _ _ _ _=>rfl) fun A outer s H f cdv cl fvs v Q E hcl hr hc h=>?_
 obtain ⟨x,wl,st,H0,us,ys,d,ms,pl,D,R,L,N,rfl,⟨⟩,s0,h0,hcn,hdr,hwl,hA,hst,hfl,hml,q⟩:=h;have hu:_<cLine:=hr.units0;have hu1:=d9 hr;have hu9:=QS hr;have hu10:=QO hr;refine ⟨_,(jO (fZ (EU (jP jy hr rfl (jB (pv 1) (jB (pv 0) jE)))) (fY (z9 qQ (kP K T.xf (jP wg hr rfl (j4 (pv 2) (pv 1) (pv 0)))) jC)))),?_⟩;have sd:=lG s0 h0;have hG:Stage _ _ _ D (kR H (cl.map (·.2))) x wl st us R L N ys d ms pl:=⟨hcn.same sd,hdr,sd _ _ hwl,hA.mono (WyAt.same sd),hst.del hc,hfl,hml⟩;have q:∀H',Same H H'→Q (.bl (!decide (QC ys pl=0)&&(vJ R L N.length ys d ms pl).isEmpty)) H':=q;refine (jA rfl (jA rfl ((QF wl st us ys d ms pl L (yH rfl hG.wls hG.wys hG.sts hG.fl (?_))))));cases hb:decide (QC ys pl=0) with
 |true =>
  rw [hb] at q;exact (jA rfl (jA rfl (kY fun hn=>q _ (fL (Same.refl _)))))
 |false =>
  rw [hb] at q;refine (jA rfl (jA rfl (kU (jA rfl (jA rfl (jA rfl ((eD x wl st us ys d ms pl D R L N (yE rfl hG (fun r zs H2 s2 hr0 hr1 hdd=>⟨r,jA rfl (⟨.inl (so hr1),rfl,fun hn=>?_⟩)⟩))))))))));have hz:decide (V.int ((zs.length:Nat):Int)=V.int 0)=(vJ R L N.length ys d ms pl).isEmpty:=by
   have:=hdd.1;cases zs<;>cases hm:vJ R L N.length ys d ms pl<;>simp [hm] at this ⊢<;>omega
  rw [hz];exact q _ (fL s2)
theorem eR:jT 3 ["_law_first","_law_ahead","_law_row","_law_state_here","_law_deed","_law_pairs"] iC:=jS
include T in
theorem HZ (F:kH K "_law_come" iC f fd) (zo:FnV P w K mg base jK 14 (yC "law.<locals>._law_ahead" (kN qR) (kD qR) (jM qR) ["_law_one"] ["_law_ways","_law_canal_here"] (yP (jF cP cB cU) cR cN))):FnOk P w K mg base jK 16 f fd ["_law_first","_law_ahead","_law_row"] (EO (yC "law.<locals>._law_ahead" (kN qR) (kD qR) (jM qR) ["_law_one"] ["_law_ways","_law_canal_here"] (yP (jF cP cB cU) cR cN))):=by
 refine F.ok2 eR fun vs H Q E h=>?_
 refine zB h fun y fa rr T0 k0 kf row des h=>?_
 refine FK h fun e_ hA hsh hfew hone hy hk0 hrr hks hpa q=>?_
 subst e_;refine ⟨rfl,fun _ _ _ _ hr=>?_⟩;have hu9:=QS hr;have hu10:=QO hr;refine ⟨_,(@jG _ _ _ _ _ (jX 3 eR.nd (pv 0))
   (@jG _ _ _ _ _ (yK aX rfl (qV (pv 2)) (kC (i:=4) eR.nd rfl (.inr rfl))
    (@jG _ _ _ _ _ (J0 (i:=5) ["_law_pair","_law_deed"] (q9 1 [4]) eR.nd rfl (.inl rfl) rfl (qS (jM iC)) (cps 1 [4]) (qV (bN (i:=1) zo (hr.mono (by decide)) zW rfl (by first|exact .inl rfl|exact .inr rfl|exact .inr (.inl rfl)|exact .inr (.inr rfl)) (jB (pv 3) jE))) (fun _ _ _ _ _=>(kC (i:=0) (show List.Nodup (["_law_pair","_law_deed"]:List Str) from by decide +kernel) rfl (.inl rfl))) (fun _ _ _ _ _=>(JN (kI (T5 hu9) (jI (jR K) (pv 0) jC) (pv 1)))) (fun _ _ _ _ _=>(pv 0)))
   (@jG _ _ _ _ _ (kT (kI zM (kP K T.xf (pv 5)) jC) (jO ZC) kS)
   (@kX _ _ _ (jX 3 eR.nd (jI (jR K) (jI (kM K) (pv 5) jC) jC))))))
   (jO (pv 3)))),?_⟩
 try dsimp only [jV,jU]
 have hrl:=hks.1;refine (jA rfl (jA rfl (⟨rr,rfl,⟨_,so hrr⟩,?_⟩)));refine JM (K:=K) (xs:=row) (fun i σ Hi=>∃yi ki c4 c5,σ=[some y,some (.ref fa),some (.ref rr),some yi,c4,c5]∧Same H Hi∧(GV Hi ki).1 yi∧T0.2 ki∧JU T0 ki (des.drop i) kf) (yD y k0 none none (yZ rfl (Same.refl _) hy hk0 hpa)) (fun i σ Hi _ ⟨_,_,_,_,_,s,_⟩=>so (s _ _ hrr)) ?_ ?_
 ·rintro i x σ Hi hx ⟨yi,ki,c4,c5,rfl,s,hyi,hki,hpi⟩;obtain ⟨de,hde,hxk,hx8⟩:=hks.2 i x hx;have few:=hfew ki;obtain ⟨hlt,hdeE⟩:=ad.mp hde;rw [drop_eq_getElem_cons hlt,hdeE] at hpi;obtain ⟨kb,hb1,hb2⟩:=hpi;refine ⟨fa,rfl,jA rfl (hA _ _ ki _ _ s hki hyi fun p zs HP sp hp0 hpl hP1=>⟨p,rfl,⟨_,so hpl⟩,fun bt hbt=>?_⟩)⟩;have hzp:=hP1.1;have hxP:=qM (s.trans sp) hxk;refine zR (K:=K) (a:=p) (xs:=zs) (caps:=[some x]) (fun j ys Hj=>zK Hj ys (((T0.1 ki).take j).filter fun z=>decide (z.1=de))) hbt (so hpl) ⟨rfl,fun i x e=>by cases e⟩ ?_ ?_
  ·rintro j z ys Hj hz hj hle sm hY hR;obtain ⟨pr,t,b,b',p1,rfl,p3,p4,p5,p6,p7⟩:=hP1.2 j z hz;have p3':=sm _ _ p3;have ht:((T0.1 ki).take (j+1))=(T0.1 ki).take j++[pr]:=by rw [aC,p1];rfl
   refine (jA rfl (⟨t,_,_,b,rfl,rfl,SqT.of p3',rfl,jA rfl (⟨pr.1,de,qM sm p4,qM sm hxP,p6,jA rfl (?_)⟩)⟩))
   by_cases hd:pr.1=de
   ·rw [aK hd];refine kU (jA rfl (⟨ys,hY,J7 (by omega),ys++[.ref t],jA rfl (⟨qI hbt sm,jD,by rw [ag,aN];omega,?_⟩)⟩));show zK _ _ (((T0.1 ki).take (j+1)).filter fun z=>decide (z.1=de));rw [ht,aT,aP,if_pos (aK hd)];have tk:∀a l,Hj a=some (.tup l)→upd Hj bt (.lst (ys++[.ref t])) a=some (.tup l):=fun a l e=>by rw [jH fun z=>by subst z;rw [hY] at e;cases e];exact e
    exact rH (fG tk hR) (tk _ _ p3') ((GV.keep tk _).1 _ (qM sm p4)) ((GV.keep tk _).1 _ (qM sm p5)) p6 p7
   ·rw [aI hd];refine kY (J3 sm hY hle (Same.refl _) ?_);show zK _ _ (((T0.1 ki).take (j+1)).filter fun z=>decide (z.1=de));rw [ht,aT,aP,if_neg (by simpa using hd)]
    simpa using hR
  rintro ys Hg sg hbtg hleg hR;rw [hP1.1,aL] at hR;have h1:=hone ki de hki;have hbm:(de,kb)∈(T0.1 ki).filter (fun z=>decide (z.1=de)):=aO.mpr ⟨hb1,aK rfl⟩;have sF:=(s.trans sp).trans sg;refine (jA rfl (⟨bt,jA rfl (⟨.inl (so hbtg),rfl,jA rfl (?_)⟩)⟩));generalize (T0.1 ki).filter (fun z=>decide (z.1=de))=fs at hR h1 hbm
  match fs,h1,hbm,hR with
  |[],_,hbm,_=>exact absurd hbm (by simp)
  |[pr],_,hbm,hR =>
   obtain rfl:pr=(de,kb):=(aA.mp hbm).symm
   match ys,hR with
   |[],hR=>exact absurd hR.1 (by simp)
   |_::_::_,hR=>exact absurd hR.1 (by simp)
   |[z],hR =>
    obtain ⟨pr',t,b,b',p1,rfl,p3,p4,p5,p6,p7⟩:=hR.2 0 z rfl;cases p1;exact y9 rfl (jA rfl (⟨bt,_,0,.ref t,rfl,rfl,so hbtg,qB (j:=0) rfl,t,_,_,b',rfl,rfl,SqT.of p3,rfl,_,kb,_,jA rfl (⟨sF,p5,hsh ki _ hki hb1,hb2⟩)⟩))
  |_::_::_,h1,_,_=>exact absurd h1 (by simp)
 ·rintro σ Hf ⟨yi,ki,c4,c5,rfl,s,hyi,hki,hpi⟩;rw [hrl,drop_length] at hpi;obtain rfl:ki=kf:=hpi;exact (jA rfl (q yi Hf s hyi hki))
theorem iQ:jT 2 ["_law_found","_law_due","_law_k","_law_state_here"] oO:=jS
include T in
theorem IC (F:kH K "_law_layers_alike" oO f fd) : FnOk P w K mg base jK 2 f fd ["_law_found","_law_due"] (DC):=by
 refine F.ok2 iQ fun vs H Q E h=>?_
 refine gL h fun f d LL h=>?_
 refine Q4 h fun e_ hf hd hll hst q=>?_
 subst e_;refine ⟨rfl,fun _ _ _ _ hr=>?_⟩;have hu9:=QS hr;have hu10:=QO hr;refine ⟨_,(@jG _ _ _ _ _ (kT (PW.pt (QV (J8 (yA (y6 (bK (K:=K)) (by rfl) T.xh bp (jB (pv 0) (jB (bQ (v:=.ty "list") rfl T.xn aW rfl) jE))))) (bU (kI zM (kP K T.xf (pv 0)) (kP K T.xf (pv 1)))))) (jO yT) kS)
   (@jG _ _ _ _ _ (yK aX rfl (JB (by rfl) T.xi (jB (kP K T.xf (pv 1)) jE)) (kC (i:=2) iQ.nd rfl (.inl rfl))
    (@jG _ _ _ _ _ (kT (PW.pt (QV (J8 (yA (y6 (bK (K:=K)) (by rfl) T.xh bp (jB (jI (kM K) (pv 0) (pv 2)) (jB (bQ (v:=.ty "list") rfl T.xn aW rfl) jE))))) (bU (kI zM (kP K T.xf (jI (kM K) (pv 0) (pv 2))) (kP K T.xf (jI (kM K) (pv 1) (pv 2))))))) (jO yT) kS)
   (@jG _ _ _ _ _ (yK aX rfl (qV (jI (kM K) (pv 1) (pv 2))) (kC (i:=3) iQ.nd rfl (.inl rfl))
    (@kX _ _ _ (kT (kI (OT hu10) (pv 3) (jI (kM K) (pv 0) (pv 2))) (jO yT) kS)))
   (@kX _ _ _ (yK aX rfl (qV (jI (kM K) (pv 0) (pv 2))) (kC (i:=3) iQ.nd rfl (.inl rfl))
    (@kX _ _ _ (kT (PW.pt (QV (J8 (yA (y6 (bK (K:=K)) (by rfl) T.xh bp (jB (pv 3) (jB (bQ (v:=.ty "tuple") rfl T.xr cm rfl) jE))))) (bU (kI zM (kP K T.xf (pv 3)) jC)))) (jO yT) kS)))))))
   (jO yT))),?_⟩
 try dsimp only [jV,jU]
 obtain ⟨fs,f1,f2,f3⟩:=hf.ex;obtain ⟨ds,g1,g2,g3⟩:=hd.ex;refine (jA rfl (⟨_,_,_,_,_,rfl,rfl,TyOf.lst f1,ZA "list",jA rfl (kY ?_)⟩));refine (jA rfl (⟨f,jA rfl (⟨.inl (so f1),jA rfl (⟨d,jA rfl (⟨.inl (so g1),rfl,jA rfl (y9 (by rw [f2,g2]) ?_)⟩)⟩)⟩)⟩));refine (jA rfl (⟨d,jA rfl (⟨.inl (so g1),jA rfl (⟨by omega,by omega,fI (n:=((ds.length:Nat):Int).toNat) (fun i σ Hi=>∃c3 c4:Option V,σ=[some (.ref f),some (.ref d),c3,c4]∧Hi=H) ⟨none,none,rfl,rfl⟩ ?_ ?_⟩)⟩)⟩))
 ·rintro i σ Hi hi ⟨c3,c4,rfl,rfl⟩;rw [aB,g2] at hi;rw [dg];obtain ⟨a1,ys1,lay,x1,n1,e1,h1,k1⟩:=f3 i _ (aa (show i<fs.length by omega));obtain ⟨a2,ys2,lay2,x2,n2,e2,h2,k2⟩:=g3 i _ (aa (show i<ds.length by omega));rw [e1] at e2;cases e2;have hfi:fs[i]?=some (.ref a1):=by rw [aa (show i<fs.length by omega),x1]
  have hdi:ds[i]?=some (.ref a2):=by rw [aa (show i<ds.length by omega),x2]
  refine (jA rfl (jA rfl (qG (so f1) (qB hfi) (⟨_,_,_,_,_,rfl,rfl,TyOf.lst h1,ZA "list",jA rfl (kY ?_)⟩))));refine (jA rfl (jA rfl (qG (so f1) (qB hfi) (⟨a1,jA rfl (⟨.inl (so h1),jA rfl (jA rfl (qG (so g1) (qB hdi) (⟨a2,jA rfl (⟨.inl (so h2),rfl,jA rfl (y9 (by rw [k1.1,k2.1]) ?_)⟩)⟩)))⟩)⟩))));refine (jA rfl (jA rfl (qG (so g1) (qB hdi) (⟨a2,rfl,⟨_,so h2⟩,JM (K:=K) (a:=a2) (xs:=ys2) (fun j σ Hj=>∃c:Option V,σ=[some (.ref f),some (.ref d),some (.int (i:Int)),c]∧Hj=Hi) ⟨c4,rfl,rfl⟩ (fun j σ Hj _ ⟨_,_,e⟩=>by rw [e];exact so h2) ?_ ?_⟩))))
  ·rintro j x σ Hj hx ⟨c,rfl,rfl⟩;obtain ⟨k,hk,hg,h8⟩:=k2.2 j x hx;refine (jA rfl (jA rfl (jA rfl (qG (so f1) (qB hfi) ((yD a1 ys1 k lay (yH rfl (so h1) hg h8 k1 (jA rfl (?_)))))))));rw [aK (ai hk)];exact kY ⟨_,rfl,rfl⟩
  rintro σ Hj ⟨c,rfl,rfl⟩;refine (jA rfl (jA rfl (qG (so f1) (qB hfi) (⟨a1,rfl,⟨_,so h1⟩,JM (K:=K) (a:=a1) (xs:=ys1) (fun j σ Hi=>∃c:Option V,σ=[some (.ref f),some (.ref d),some (.int (i:Int)),c]∧Hi=Hj) ⟨c,rfl,rfl⟩ (fun j σ Hj _ ⟨_,_,e⟩=>by rw [e];exact so h1) ?_ ?_⟩))))
  ·rintro j x σ Hi hx ⟨c,rfl,rfl⟩;obtain ⟨k,hk,hg,h8⟩:=k1.2 j x hx;obtain ⟨s,rfl⟩:=hst lay (ai e1) k (ai hk);obtain ⟨t,rfl,wt,pt,t1,_⟩:=bV hg;exact (jA rfl (⟨_,_,_,_,_,rfl,rfl,TyOf.tup t1,ZA "tuple",jA rfl (kY (jA rfl (⟨t,jA rfl (⟨.inr (SqT.of t1),rfl,jA rfl (y9 rfl ⟨_,rfl,rfl⟩)⟩)⟩)))⟩))
  rintro σ Hi ⟨c,rfl,rfl⟩;exact ⟨_,_,rfl,rfl⟩
 rintro σ Hi ⟨c3,c4,rfl,rfl⟩;exact q _ (Same.refl _)
theorem w5:jT 4 ["canal","ways","state","most","answer"] o7:=jS
include T in
theorem KC (F:kH K "look_for_knot" o7 f fd) (xag:DefX P w K mg base 18 "layered" ["first","ahead","ended","most"] [] (xS w (JG "ahead_on.<locals>.<lambda>" (yQ kQ) (y8 kQ) (vZ kQ) ["ways","canal"] (yP (jF cP cB cU) cR cN)) (JG "knot.<locals>.<lambda>" (yQ kZ) (y8 kZ) (vZ kZ) ["ways","canal"] (zU (jF cP cB cU) cR cN)) eTW)) (xah:Def P w K mg base 1 "ahead_on" ["canal","ways"] [] (dO tA 2 (vP kQ) "ahead_on.<locals>.<lambda>" (yQ kQ) (y8 kQ) (vZ kQ) ["ways","canal"] [1,0])) (xaP:Def P w K mg base 1 "knot" ["canal","ways"] [] (dO tH 2 (vP kZ) "knot.<locals>.<lambda>" (yQ kZ) (y8 kZ) (vZ kZ) ["ways","canal"] [1,0])):FnOk P w K mg base (vT P w) 19 f fd ["canal","ways","state","most"] (C8 (jF cP cB cU) cR cN tA tH (vP kQ) (vP kZ) eTW):=by
 refine F.okX2 w5 fun vs H Q E h=>?_
 refine eB h fun x wl st us ys d ms pl D R L N NN most h=>?_
 refine eF h fun e_ hG hd0 hT hF qF qC qE=>?_
 subst e_;refine ⟨rfl,fun _ _ _ _ hr=>?_⟩;refine ⟨_,(@jG _ _ _ _ _ (jX 4 w5.nd (tO xag CM hr rfl (yG (pv 2) (jP xah hr rfl (jB (pv 0) (jB (pv 1) jE))) (jP xaP hr rfl (jB (pv 0) (jB (pv 1) jE))) (pv 3))))
   (@jG _ _ _ _ _ (kT (kI qQ (jI (jR K) (pv 4) jC) j6) (jO (qA (jB j6 (jB (jI (jR K) (pv 4) jC) jE)))) kS)
   (jO (qA (j4 j6 (jI (jR K) (pv 4) jC) (jI (jR K) (pv 4) jC)))))),?_⟩
 try dsimp only [jV,jU]
 refine (jA rfl (jA rfl (⟨_,rfl,rfl,hT.a,fun fa cA cdA H1 hfa0 hLA hnA hCA hTA hcA kA=>?_⟩)));obtain ⟨za,hza⟩:=xW hT.a;have sT1:=sV hza kA;have hTh1:=iZ hT.ne.symm hza kA hT.h;obtain ⟨zh,hzh⟩:=xW hTh1;refine (jA rfl (⟨_,rfl,rfl,hTh1,fun fe cE cdE H2 hfe0 hLE hnE hCE hTE hcE kE=>?_⟩));have sT2:=sV hzh kE;have s12:=rS sT1 sT2;have hT2:Tabs H2 tA tH (vP kQ) (vP kZ):=⟨hT.ne,iZ hT.ne hzh kE hTA,hTE⟩;have hG0:=hG.noT;have hAh:=UN hG0 s12 (fun c hc=>P9 (hcA c hc)) (rM sT2 (OZ hLA)) hnA (pY sT2 (NC hCA));have hEn:=UA hG0 s12 (fun c hc=>none_of sT1 (hcE c hc)) hLE hnE hCE;refine (jA rfl (⟨_,fa,fe,most,kJ R L N ys,vV R L N ys,jZ (d,ms,pl),NN,rfl,hAh,hEn,mK hG.dr,hF.fit,eA (s:=(d,ms,pl)) (hG0.sts.same s12),gC _,(jA rfl (⟨hd0,hG.fl,hG.ml⟩)),hF.low,hF.stop,fun hle hany t rr lr xs des kf H' s' ht hrr hks hp hmk hdl hLay hr0 hl0 _ hne=>?_,fun hle hany t lr H' s' ht hLay hl0 _=>?_,fun hlt H' s'=>qE hlt H' (s12.trans s') (hT2.same s')⟩))
 ·refine (jA rfl (j3 (SqT.of ht) rfl (⟨rfl,jA rfl (qX (fun e=>absurd (V.str.inj e) (by decide +kernel)) (jA rfl (j3 (SqT.of ht) rfl ((jA rfl (j3 (SqT.of ht) rfl (⟨zz3,fun t2 ht20=>?_⟩)))))))⟩)));have u:=jJ ht20 (.tup [V.str "knot",V.ref rr,V.ref lr]);exact qF hle hany t2 rr lr xs des kf _ ((s12.trans s').trans u) ((hT2.same s').same u) jD (u _ _ hrr) (hks.same u) hp hmk hdl (hLay.same u) (none_of s12 hr0) (none_of s12 hl0) hne
 ·refine (jA rfl (j3 (SqT.of ht) rfl (⟨rfl,jA rfl (vL rfl (jA rfl (j3 (SqT.of ht) rfl (⟨zz2,fun t2 ht20=>?_⟩))))⟩)));have u:=jJ ht20 (.tup [V.str "free",V.ref lr]);exact qC hle hany t2 lr _ ((s12.trans s').trans u) ((hT2.same s').same u) jD (hLay.same u) (none_of s12 hl0)
theorem iR:jT 4 ["_law_canal_here","_law_ways","_law_state_here","_law_most","_law_told_here"] oR:=jS
include T in
theorem IH (F:kH K "_law_told" oR f fd) (vk:DefX P w K mg base 19 "look_for_knot" ["canal","ways","state","most"] [] (C8 (jF cP cB cU) cR cN tA tH (vP kQ) (vP kZ) eTW)):FnOk P w K mg base jK 20 f fd ["_law_canal_here","_law_ways","_law_state_here","_law_most"] (tI (jF cP cB cU) cR cN tA tH (vP kQ) (vP kZ)):=by
 refine F.ok2 iR fun vs H Q E h=>?_
 refine eB h fun x wl st us ys d ms pl D R L N NN most h=>?_
 refine eF h fun e_ hG hd0 hT hF qF qC qE=>?_
 subst e_;refine ⟨rfl,fun _ _ _ _ hr=>?_⟩;refine ⟨_,(@jG _ _ _ _ _ (jX 4 iR.nd ZC)
   (@jG _ _ _ _ _ (TW rfl rfl rfl rfl T.vf T.vg (fun _ _ hx=>(kX (jX 4 iR.nd (tO vk hx hr rfl (yG (pv 0) (pv 1) (pv 2) (pv 3)))))) (fun _=>(@kX _ _ _ (jX 4 iR.nd (qA (jB j6 (jB (qJ jE) jE)))))))
   (jO (pv 4)))),?_⟩
 try dsimp only [jV,jU]
 refine ⟨fun σ' c H'=>σ'=[some (.ref x),some (.ref wl),some (.ref st),some (.int most),some .non]∧c=.ref eTW∧most<(((jQ (kJ R L N ys) (jZ (d,ms,pl)) NN).flatten.length:Nat):Int)∧Same (noT H) H'∧Tabs H' tA tH (vP kQ) (vP kZ),?_,?_⟩
 ·refine (jA rfl (jA rfl (jA rfl (jA rfl ((cJ x wl st us ys d ms pl D R L N NN most (gS rfl hG hd0 hT hF (fun hle hany t rr lr xs des kf H' s' hT' ht hrr hks hp hmk hdl hLy h1 h2 h3=>(jA rfl (qF hle hany t rr lr xs des kf H' s' hT' ht hrr hks hp hmk hdl hLy h1 h2 h3))) (fun hle hany t lr H' s' hT' ht hLy h1=>(jA rfl (qC hle hany t lr H' s' hT' ht hLy h1))) (fun hlt H' s' hT'=>⟨rfl,rfl,hlt,s',hT'⟩))))))))
 rintro σ' c H2 ⟨rfl,rfl,hlt,s2,hT2⟩;refine ⟨rfl,zz0,fun a ha0=>?_⟩;have u1:=jJ ha0 (.lst []);refine ⟨zz2,fun t ht0=>?_⟩;have u2:=jJ ht0 (.tup [V.str "wide",V.ref a]);have u:=u1.trans u2;exact (jA rfl (qE hlt t a _ (s2.trans u) (hT2.same u) jD (u2 _ _ jD) (none_of s2 ha0)))
theorem cY:jT 4 ["_law_first","_law_ahead","_law_ended","_law_most","_law_layers","_law_met","_law_following","_law_state_here","_law_pair"] iB:=jS
include T in
theorem HX (F:kH K "_law_book" iB f fd) (xq:FnV P w K mg base jK 14 (yC "law.<locals>._law_ended" (kN vB) (kD vB) (jM vB) ["_law_one"] ["_law_ways","_law_canal_here"] (zU (jF cP cB cU) cR cN))) (zo:FnV P w K mg base jK 14 (yC "law.<locals>._law_ahead" (kN qR) (kD qR) (jM qR) ["_law_one"] ["_law_ways","_law_canal_here"] (yP (jF cP cB cU) cR cN))):FnOk P w K mg base jK 18 f fd ["_law_first","_law_ahead","_law_ended","_law_most"] (t6 w (yC "law.<locals>._law_ahead" (kN qR) (kD qR) (jM qR) ["_law_one"] ["_law_ways","_law_canal_here"] (yP (jF cP cB cU) cR cN)) (yC "law.<locals>._law_ended" (kN vB) (kD vB) (jM vB) ["_law_one"] ["_law_ways","_law_canal_here"] (zU (jF cP cB cU) cR cN))):=by
 refine F.ok2 cY fun vs H Q E h=>?_
 refine zB h fun y fa fe most T0 M k0 N h=>?_
 refine VN h fun e_ hA hE hsh hF hm1 hm16 hy h8 hk0 qL qN=>?_
 subst e_;refine ⟨rfl,fun _ _ _ _ hr=>?_⟩;have hu9:=QS hr;have hu10:=QO hr;refine ⟨_,(@jG _ _ _ _ _ (jX 4 cY.nd (qJ (jB (qJ (jB (pv 0) jE)) jE)))
   (@jG _ _ _ _ _ (jX 5 cY.nd (CD hu9 (pv 0) yT))
   (@jG _ _ _ _ _ (sO aX (kI qQ (kP K T.xf (cQ ["_law_state_here","_law_ended"] [2] (qS (jM iB)) (qV (jI (kM K) (pv 4) (QW QQ jC))) (fun _ _ _ _ _=>(JN (yA (bN (i:=1) xq (hr.mono (by decide)) zW rfl (by first|exact .inl rfl|exact .inr rfl|exact .inr (.inl rfl)|exact .inr (.inr rfl)) (jB (pv 0) jE))))) (fun _ _ _ _ _=>(pv 0)))) jC) (@jG _ _ _ _ _ (jX 6 cY.nd (qJ jE))
   (@jG _ _ _ _ _ (yK aX rfl (qV (jI (kM K) (pv 4) (QW QQ jC))) (kC (i:=7) cY.nd rfl (.inl rfl))
    (@kX _ _ _ (yK aX rfl (qV (bN (i:=1) zo (hr.mono (by decide)) zW rfl (by first|exact .inl rfl|exact .inr rfl|exact .inr (.inl rfl)|exact .inr (.inr rfl)) (jB (pv 7) jE))) (kC (i:=8) cY.nd rfl (.inl rfl))
    (@kX _ _ _ (kT (ES (AX hu9 (jI (jR K) (pv 8) jC) (pv 5))) (@jG _ _ _ _ _ (DG hu9 (pv 5) (jI (jR K) (pv 8) jC) yT rfl)
   (@jG _ _ _ _ _ (JJ (QX bb bj bn QK (pv 6) (jB (jI (jR K) (pv 8) jC) jE)))
   (@kX _ _ _ (kT (kI FF (y6 AE (by rfl) T.xf PySem.boot_len (jB (pv 5) jE)) (pv 3)) (jO ZC) kS)))) kS)))))
   (@jG _ _ _ _ _ (kT (kI qQ (kP K T.xf (pv 6)) jC) (jO (pv 4)) kS)
   (@kX _ _ _ (JJ (QX bb bj bn QK (pv 4) (jB (pv 6) jE))))))))
   (jO (pv 4))))),?_⟩
 try dsimp only [jV,jU]
 have dom:=fun i x (h:x∈(jQ T0 k0 i).flatten)=>bP hsh hk0 i x h
 have hfit:=hF.fit;have hN:=hF.low;have hSt:=hF.stop;refine (jA rfl (⟨small (by show 1≤1000;decide),fun l1 hl1=>⟨small (by show 1≤1000;decide),fun lr hlr=>?_⟩⟩));have u1:=jJ hl1 (.lst [y]);have u2:=jJ hlr (.lst [.ref l1]);have ne1:l1≠lr:=fun z=>by rw [← z,jD] at hlr;cases hlr
 refine fun dm hdm=>(jA rfl (⟨jD,k0,qM ((u1.trans u2).trans (jJ hdm _)) hy,h8,?_⟩))
 have u3:Same (upd (upd H l1 (.lst [y])) lr (.lst [.ref l1])) (upd (upd (upd (upd H l1 (.lst [y])) lr (.lst [.ref l1])) dm (GO w dm [])) dm (GO w dm [(k0,y,.bl true)])):=qI hdm (jJ hdm _);have s3:=(u1.trans u2).trans u3;have hlr0:H lr=none:=none_of u1 hlr;have hdm0:H dm=none:=none_of (u1.trans u2) hdm;have hl0:(jQ T0 k0 0).flatten.length=1:=rfl;refine ⟨FM w H y fa fe most lr dm T0 k0 N,(JA N 0 none none none (yH rfl (Nat.add_zero N) s3 (by rw [hl0];exact hm1) (ST jD (qM s3 hy) h8) (rK (u3 _ _ jD) (u3 _ _ (u2 _ _ jD)) ne1 (qM s3 hy) h8))),?_⟩;rintro m σ Hi ⟨i,c6,c7,c8,rfl,hm,s,hsz,hMt,hL⟩;obtain ⟨xs,la,ys,f1,f2,f3,f4,f5,f6⟩:=hL.last;have hyl:ys.length≤1000:=by
  rw [f5.1];have:=lK (T:=T0) (k0:=k0) i;omega
 refine (jA rfl (jA rfl (⟨lr,xs,_,_,rfl,rfl,so f1,f2,la,rfl,⟨_,so f4⟩,fun bt hbt=>?_⟩)));refine zR (K:=K) (a:=la) (xs:=ys) (caps:=[some (.ref fe)]) (fun j zs Hj=>KeysAt Hj zs (((j5 T0 k0 i).take j).filter M)) hbt (so f4) ⟨rfl,fun i x e=>by cases e⟩ ?_ ?_
 ·rintro j x zs Hj hx hj hle sm hY hR;obtain ⟨kj,hkj,hgj,h8j⟩:=f5.2 j x hx;have hdj:=dom i kj (Q9 (ai hkj));refine ⟨fe,rfl,jA rfl (hE _ _ kj _ _ (s.trans sm) hdj (qM sm hgj) fun He se=>(jA rfl (?_)))⟩;have ht:((j5 T0 k0 i).take (j+1))=(j5 T0 k0 i).take j++[kj]:=by rw [aC,hkj];rfl
  cases hMk:M kj with
  |true =>
   refine kU (jA rfl (vY hbt sm hY hle (by omega) se ?_));show KeysAt _ _ (((j5 T0 k0 i).take (j+1)).filter M);rw [ht,aT,aP,if_pos hMk];exact hR.snoc (k:=kj) (fun a l e=>by rw [jH fun z=>by subst z;rw [hY] at e;cases e];exact se _ _ e) (qM sm hgj) h8j
  |false =>
   refine kY (J3 sm hY hle se ?_);show KeysAt _ _ (((j5 T0 k0 i).take (j+1)).filter M);rw [ht,aT,aP,if_neg (by rw [hMk];decide)];have hR2:=hR.same se
   simpa using hR2
 rintro zs Hg sg hbtg hleg hR;rw [f5.1,aL] at hR;have hany:=CW (M:=M) (l:=j5 T0 k0 i);have sG:=s.trans sg;refine ⟨bt,jA rfl (⟨.inl (so hbtg),rfl,jA rfl (?_)⟩)⟩;cases hf:(j5 T0 k0 i).filter M with
 |cons kf rest =>
  rw [hf] at hR hany;have hi:i=N:=lP hN hm (.inl hany);subst hi;have hz:=hR.1;exact qX (fun e=>by have e:=V.int.inj e;rw [hz,aZ] at e;omega) (jA rfl (qL hsz lr Hg sG (hL.same sg)))
 |nil =>
  rw [hf] at hR hany;obtain rfl:zs=[]:=gc hR.1;refine vL rfl ⟨fun σ' H'=>∃m',m'<m∧FM w H y fa fe most lr dm T0 k0 N m' σ' H',fun _ _ h=>h,?_⟩;have hMg:=hMt.same sg;have hLg:=hL.same sg;have f1g:=sg _ _ f1;have f4g:=sg _ _ f4;have f5g:=f5.same sg;obtain ⟨kvs0,d0,_⟩:=hMg.ex;refine ⟨aY _,fun r hr0=>?_⟩;have u0:=jJ hr0 (.lst []);have hne:r≠dm:=fun z=>by rw [z,d0] at hr0;cases hr0
  have lane:la≠dm:=fun z=>by rw [z,d0] at f4g;cases f4g
  have lrne:lr≠dm:=fun z=>by rw [z,d0] at f1g;cases f1g
  have rlr:r≠lr:=fun z=>by rw [z,f1g] at hr0;cases hr0
  refine (jA rfl (jA rfl (⟨lr,xs,_,_,rfl,rfl,so (u0 _ _ f1g),f2,la,rfl,⟨_,so (u0 _ _ f4g)⟩,?_⟩)));have hiN:QB T0 k0 i≠[]→i+1≤N:=fun hnx=>by
   by_cases h:i=N
   ·subst h
    rcases hSt with (h|h)|h
    ·rw [hany] at h;cases h
    ·exact absurd h hnx
    ·omega
   ·omega
  refine JM (K:=K) (a:=la) (xs:=ys) (fun j σ Hj=>∃acc c7 c8,σ=[some y,some (.ref fa),some (.ref fe),some (.int most),some (.ref lr),some (.ref dm),some (.ref r),c7,c8]∧NextM w Hg Hj dm r (jQ T0 k0 i).flatten acc∧acc=qO T0 (jQ T0 k0 i).flatten [] ((j5 T0 k0 i).take j)∧((((jQ T0 k0 i).flatten++acc).length:Nat):Int)≤most) ⟨[],c7,c8,rfl,⟨fun a o _ e=>u0 _ _ e,hr0,hne,⟨[],jD,rfl,fun i x e=>by cases e⟩,by rw [br];exact hMg.same u0⟩,rfl,by rw [br];exact hsz⟩ (fun j σ Hj _ ⟨_,_,_,_,hI,_⟩=>so (hI.keep la _ lane f4g)) ?_ ?_
  ·rintro j x σ Hj hx ⟨acc,c7,c8,rfl,hI,hacc,hle⟩;obtain ⟨k,hk,hyk,h8k⟩:=f5g.2 j x hx;have hps:=dom i k (Q9 (ai hk));have tkI:∀a z,Hg a=some (.tup z)→Hj a=some (.tup z):=fun a z e=>hI.keep a _ (fun y=>by rw [y,d0] at e;cases e) e
   have sI:Same H Hj:=fun a o e=>hI.keep a o (q8 e hdm0) (sG _ _ e)
   have hyk':=(GV.keep tkI k).1 _ hyk;refine ⟨fa,rfl,jA rfl (hA _ _ k _ _ sI hps hyk' fun p zs HP up hp0 hpl hPP=>⟨p,rfl,⟨_,so hpl⟩,?_⟩)⟩;obtain ⟨kvsI,d1,_⟩:=hI.came.ex;obtain ⟨ysI,r1,r2⟩:=hI.row;have pne:p≠dm:=fun z=>by rw [z,d1] at hp0;cases hp0
   have pnr:p≠r:=fun z=>by rw [z,r1] at hp0;cases hp0
   refine JM (K:=K) (a:=p) (xs:=zs) (fun l σ Hl=>∃acc' c8,σ=[some y,some (.ref fa),some (.ref fe),some (.int most),some (.ref lr),some (.ref dm),some (.ref r),some x,c8]∧NextM w Hg Hl dm r (jQ T0 k0 i).flatten acc'∧(∀a o,a≠dm→a≠r→HP a=some o→Hl a=some o)∧acc'=vX (jQ T0 k0 i).flatten acc ((T0.1 k).take l)∧((((jQ T0 k0 i).flatten++acc').length:Nat):Int)≤most) ⟨acc,c8,rfl,⟨fun a o n e=>up _ _ (hI.keep a o n e),hI.rn,hI.nr,⟨ysI,up _ _ r1,r2.same up⟩,hI.came.same up⟩,fun _ _ _ _ e=>e,rfl,hle⟩ (fun l σ Hl _ ⟨_,_,_,_,kp,_⟩=>so (kp p _ pne pnr hpl)) ?_ ?_
   ·rintro l z σ Hl hz ⟨acc',c8,rfl,hJ,kp,hacc',hle'⟩;obtain ⟨pr,t,b,c,p1,rfl,p3,p4,p5,p6,p7⟩:=hPP.2 l z hz;have tkJ:∀a z,HP a=some (.tup z)→Hl a=some (.tup z):=fun a z e=>kp a _ (fun y=>by rw [y,up _ _ d1] at e;cases e) (fun y=>by rw [y,up _ _ r1] at e;cases e) e
    have p3':=tkJ _ _ p3;have p5':=(GV.keep tkJ _).1 _ p5;have ht:((T0.1 k).take (l+1))=(T0.1 k).take l++[pr]:=by rw [aC,p1];rfl
    obtain ⟨kvs,e1,g,e2⟩:=hJ.came.ex;refine (jA rfl (⟨t,_,_,c,rfl,rfl,SqT.of p3',rfl,jA rfl ((v8 dm kvs pr.2 (yH rfl (.of e1) g p5' p7 (jA rfl (?_)))))⟩));rw [BD,e2]
    by_cases hmm:pr.2∈(jQ T0 k0 i).flatten++acc'
    ·rw [aK hmm];refine kY ⟨acc',jA rfl (⟨hJ,kp,?_,hle'⟩)⟩;rw [ht,fD,← hacc',yW,if_pos hmm]
    ·rw [aI hmm];obtain ⟨ysr,er,hky⟩:=hJ.row;have hkl:kvs.length=((jQ T0 k0 i).flatten++acc').length:=by rw [← e2,ae]
     have hnw:acc'++[pr.2]=vX (jQ T0 k0 i).flatten acc ((T0.1 k).take (l+1)):=by rw [ht,fD,← hacc',yW,if_neg hmm]
     have hin:∀x∈acc'++[pr.2],x∈qO T0 (jQ T0 k0 i).flatten [] (j5 T0 k0 i):=fun x hx=>sY (i:=j) (j:=l+1) hk rfl (by rw [← hacc,← hnw];exact hx)
     refine kU (jA rfl (jA rfl (⟨t,_,_,c,rfl,rfl,SqT.of p3',rfl,v8 dm kvs pr.2 (bD rfl e1 g p5' p7 (J7 (by omega)) (?_))⟩)));have er3:upd Hl dm (GO w dm (vQ kvs pr.2 c (.bl true))) r=some (.lst ysr):=by rw [jH hJ.nr];exact er
     have t3:upd Hl dm (GO w dm (vQ kvs pr.2 c (.bl true))) t=some (.tup [b,c]):=by rw [jH (fun z=>by rw [z,e1] at p3';cases p3')];exact p3'
     refine (jA rfl (⟨.inl ⟨rfl,_,so er3⟩,jA rfl (⟨t,_,_,c,rfl,rfl,SqT.of t3,rfl,r,_,_,rfl,rfl,er3,J7 (by have:=hky.1;rw [ag] at hle';omega),?_⟩)⟩));have hJ':=hJ.put e1 g e2 er hky hmm p5' p7;obtain ⟨kvs2,e1',g',e2'⟩:=hJ'.came.ex;have hk2:kvs2.length=((jQ T0 k0 i).flatten++(acc'++[pr.2])).length:=by rw [← e2',ae]
     refine (jA rfl (⟨dm,kvs2,rfl,.of e1',g',jA rfl (j9 ((jA rfl (cI (fun c=>?_) (fun c=>?_)))))⟩))
     ·have c':most<((kvs2.length:Nat):Int):=bu c;have h1N:=hiN (ne_nil_of_mem (hin pr.2 (by simp)));have hle2:=sU (l:=(jQ T0 k0 i).flatten++(acc'++[pr.2])) (m:=(jQ T0 k0 (i+1)).flatten) (by rw [← e2'];exact g'.once) (fun x hx=>by rw [JC];exact (aR.mp hx).elim (fun h=>bz _ h) fun h=>aU _ (hin x h));have hgrow:=lC (T:=T0) (k0:=k0) (i:=i+1) (N - (i+1));rw [show i+1+(N - (i+1))=N by omega] at hgrow;exact qN (by omega) _ (fun a o e=>hJ'.keep a o (q8 e hdm0) (sG _ _ e))
     ·have c':¬most<((kvs2.length:Nat):Int):=ik (gn.mpr c);exact ⟨acc'++[pr.2],jA rfl (⟨hJ',(fun a o n1 n2 e=>by rw [jH n2,jH n1];exact kp a o n1 n2 e),hnw,by omega⟩)⟩
   ·rintro σ Hl ⟨acc',c8,rfl,hJ,kp,hacc',hle'⟩;refine ⟨acc',_,jA rfl (⟨hJ,?_,hle'⟩)⟩;rw [hPP.1,aL] at hacc';rw [hacc',aC,hk];show _=qO T0 _ [] ((j5 T0 k0 i).take j++[k]);rw [rE,← hacc]
  ·rintro σ Hf ⟨acc,c7,c8,rfl,hI,hacc,hle⟩;rw [f5g.1,aL] at hacc;have hacc:acc=QB T0 k0 i:=hacc;subst hacc;obtain ⟨ysr,er,hky⟩:=hI.row;have hzl:=hky.1;have hLf:=hLg.keepB hI.keep d0;have sF:Same H Hf:=fun a o e=>hI.keep a o (q8 e hdm0) (sG _ _ e)
   have f1f:=hI.keep lr _ lrne f1g;refine (jA rfl (⟨r,jA rfl (⟨.inl (so er),rfl,jA rfl (?_)⟩)⟩));cases hnx:QB T0 k0 i with
   |nil =>
    have hi:i=N:=lP hN hm (.inr hnx);subst hi;rw [hnx] at hzl;exact vL (cp V.int (by rw [hzl];rfl)) (jA rfl (qL hsz lr Hf sF hLf))
   |cons kx rest =>
    have h1N:=hiN (by rw [hnx];simp);rw [hnx,aZ] at hzl;have hll:=bM (T:=T0) (M:=M) (k0:=k0) i (fun j hj=>hN j (by omega));refine qX (fun e=>by have e:=V.int.inj e;omega) (jA rfl (⟨.inl ⟨rfl,_,so f1f⟩,jA rfl (⟨lr,_,_,rfl,rfl,f1f,J7 (by omega),?_⟩)⟩));refine ⟨m - 1,by omega,i+1,_,_,jA rfl (⟨by omega,qI hlr0 sF,?_,?_,?_⟩)⟩
    ·rw [JC];exact hle
    ·rw [JC];exact hI.came.keep f1f
    ·rw [fH];exact hLf.put f1f er hky rlr
theorem wY:jT 5 ["_law_told_here","_law_state_here","_law_ahead","_law_ended","_law_layers","_law_come_here"] iD:=jS
include T in
theorem IF (F:kH K "_law_right" iD f fd) (zz:Def P w K mg base 2 "_law_layers_alike" ["_law_found","_law_due"] [] (DC)) (xq:FnV P w K mg base jK 14 (yC "law.<locals>._law_ended" (kN vB) (kD vB) (jM vB) ["_law_one"] ["_law_ways","_law_canal_here"] (zU (jF cP cB cU) cR cN))) (jz:Def P w K mg base 16 "_law_come" ["_law_first","_law_ahead","_law_row"] [] (EO (yC "law.<locals>._law_ahead" (kN qR) (kD qR) (jM qR) ["_law_one"] ["_law_ways","_law_canal_here"] (yP (jF cP cB cU) cR cN)))):FnOk P w K mg base jK 19 f fd ["_law_told_here","_law_state_here","_law_ahead","_law_ended","_law_layers"] (rO (yC "law.<locals>._law_ahead" (kN qR) (kD qR) (jM qR) ["_law_one"] ["_law_ways","_law_canal_here"] (yP (jF cP cB cU) cR cN)) (yC "law.<locals>._law_ended" (kN vB) (kD vB) (jM vB) ["_law_one"] ["_law_ways","_law_canal_here"] (zU (jF cP cB cU) cR cN))):=by
 refine F.ok2 wY fun vs H Q E h=>?_
 refine u4 h fun t y fa fe lv T0 M k0 N h=>?_
 refine uT h fun e_ hA hE hsh hfew hone hy hk0 hfit hN hdm hTo q=>?_
 subst e_;refine ⟨rfl,fun _ _ _ _ hr=>?_⟩;have hu1:=d9 hr;refine ⟨_,(@jG _ _ _ _ _ (kT (kI uC (pv 4) ZC) (jO (z9 (SO hu1) (pv 0) (qA (jB j6 (jB (qJ jE) jE))))) kS)
   (@jG _ _ _ _ _ (kT (PW.pt (QV (J8 (yA (y6 (bK (K:=K)) (by rfl) T.xh bp (jB (pv 0) (jB (bQ (v:=.ty "tuple") rfl T.xr cm rfl) jE))))) (QV (kI mM (kP K T.xf (pv 0)) jC) (bU (J8 (yA (y6 (bK (K:=K)) (by rfl) T.xh bp (jB (jI (jR K) (pv 0) jC) (jB (bQ (v:=.ty "str") rfl T.uv PyProof.Rows.boot_str rfl) jE))))))))) (jO yT) kS)
   (@jG _ _ _ _ _ (kT (J8 (yA (jP zz hr rfl (jB (jI (jR K) (pv 0) (QW QQ jC)) (jB (pv 4) jE))))) (jO yT) kS)
   (@jG _ _ _ _ _ (kT (kI qQ (kP K T.xf (cQ ["_law_one","_law_ended"] [3] (qS (jM iD)) (qV (jI (kM K) (pv 4) (QW QQ jC))) (fun _ _ _ _ _=>(JN (yA (bN (i:=1) xq (hr.mono (by decide)) zW rfl (by first|exact .inl rfl|exact .inr rfl|exact .inr (.inl rfl)|exact .inr (.inr rfl)) (jB (pv 0) jE))))) (fun _ _ _ _ _=>(pv 0)))) jC) (jO (fZ (z9 qQ (jI (jR K) (pv 0) jC) j6) (fY (z9 qQ (kP K T.xf (pv 0)) jC)))) kS)
   (@jG _ _ _ _ _ (kT (PW.pt (QV (kI zM (jI (jR K) (pv 0) jC) j6) (QV (kI zM (kP K T.xf (pv 0)) jC) (QV (J8 (yA (y6 (bK (K:=K)) (by rfl) T.xh bp (jB (jI (jR K) (pv 0) jC) (jB (bQ (v:=.ty "list") rfl T.xn aW rfl) jE))))) (bU (kI zM (kP K T.xf (jI (jR K) (pv 0) jC)) (@jL _ _ _ _ _ _ _ _ JE (kP K T.xf (pv 4)) jC))))))) (jO yT) kS)
   (@jG _ _ _ _ _ (jX 5 wY.nd (jP jz hr rfl (j4 (pv 1) (pv 2) (jI (jR K) (pv 0) jC))))
   (jO (fZ (z9 DP (pv 5) ZC) (fY (bN (i:=3) xq (hr.mono (by decide)) zW rfl (by first|exact .inl rfl|exact .inr rfl|exact .inr (.inl rfl)|exact .inr (.inr rfl)) (jB (pv 5) jE))))))))))),?_⟩
 try dsimp only [jV,jU]
 have hst:∀lay∈jQ T0 k0 N,∀k∈lay,∃s,k=jZ s:=fun lay hl k hk=>hdm k (bP hsh hk0 N k (mem_flatten.mpr ⟨lay,hl,hk⟩))
 have dom:=fun i x (h:x∈(jQ T0 k0 i).flatten)=>bP hsh hk0 i x h
 cases hTo with
 |wide a h1 h2 =>
  refine ⟨_,rfl,rfl,jA rfl (vL rfl (jA rfl (⟨zz0,fun b hb0=>⟨zz2,fun t2 ht20=>?_⟩⟩)))⟩;have u1:=jJ hb0 (.lst []);have u2:=jJ ht20 (.tup [V.str "wide",V.ref b]);have u:=u1.trans u2;have hab:a≠b:=fun z=>by rw [z,hb0] at h2;cases h2
  refine ⟨t,t2,_,_,[true,true],rfl,rfl,SqT.of (u _ _ h1),SqT.of jD,rfl,rfl,fun j hj=>?_,q _ u⟩
  match j,hj with
  |0,_=>exact .flat rfl rfl
  |1,_=>exact .lst hab (so (u _ _ h2)) (so (u2 _ _ jD)) rfl rfl
  |j+2,hj=>exact absurd hj (by show ¬j+2<2;omega)
 |doomed ll lr hany hll h1 hlr =>
  refine ⟨_,rfl,rfl,jA rfl (qX (fun e=>nomatch e) ?_)⟩;refine (jA rfl (⟨_,_,_,_,_,rfl,rfl,TyOf.tup h1,ZA "tuple",jA rfl (kY ?_)⟩));refine (jA rfl (⟨t,jA rfl (⟨.inr (SqT.of h1),_,_,rfl,rfl,jA rfl (kY ?_)⟩)⟩));refine (jA rfl (⟨t,_,_,.str "free",rfl,rfl,SqT.of h1,rfl,_,_,_,_,_,rfl,rfl,TyOf.str _,ZA "str",jA rfl (kY ?_)⟩));refine (jA rfl (jA rfl (⟨t,_,_,.ref lr,rfl,rfl,SqT.of h1,dE (n:=1) rfl rfl,jA rfl (⟨lr,ll,jA rfl (⟨hlr,hll,by rw [ZR];exact hN,hst,fun H1 s=>(jA rfl (kY ?_))⟩)⟩)⟩)));have hll1:=hll.same s;obtain ⟨xs1,la,ys,f1,f2,f3,f4,f5,f6⟩:=hll1.last;have hyl:ys.length≤1000:=by
   rw [f5.1];have:=lK (T:=T0) (k0:=k0) N;omega
  refine (jA rfl (jA rfl (⟨ll,xs1,_,_,rfl,rfl,so f1,f2,la,rfl,⟨_,so f4⟩,fun bt hbt=>?_⟩)));refine zR (K:=K) (a:=la) (xs:=ys) (caps:=[some (.ref fe)]) (fun j zs Hj=>KeysAt Hj zs (((j5 T0 k0 N).take j).filter M)) hbt (so f4) ⟨rfl,fun i x e=>by cases e⟩ ?_ ?_
  ·rintro j x zs Hj hx hj hle sm hY hR;obtain ⟨kj,hkj,hgj,h8j⟩:=f5.2 j x hx;have hdj:=dom N kj (Q9 (ai hkj));refine ⟨fe,rfl,jA rfl (hE _ _ kj _ _ (s.trans sm) hdj (qM sm hgj) fun He se=>(jA rfl (?_)))⟩;have ht:((j5 T0 k0 N).take (j+1))=(j5 T0 k0 N).take j++[kj]:=by rw [aC,hkj];rfl
   cases hMk:M kj with
   |true =>
    refine kU (jA rfl (vY hbt sm hY hle (by omega) se ?_));show KeysAt _ _ (((j5 T0 k0 N).take (j+1)).filter M);rw [ht,aT,aP,if_pos hMk];exact hR.snoc (k:=kj) (fun a l e=>by rw [jH fun z=>by subst z;rw [hY] at e;cases e];exact se _ _ e) (qM sm hgj) h8j
   |false =>
    refine kY (J3 sm hY hle se ?_);show KeysAt _ _ (((j5 T0 k0 N).take (j+1)).filter M);rw [ht,aT,aP,if_neg (by rw [hMk];decide)];have hR2:=hR.same se
    simpa using hR2
  rintro zs Hg sg hbtg hleg hR;rw [f5.1,aL] at hR;have sG:=s.trans sg;refine ⟨bt,jA rfl (⟨.inl (so hbtg),rfl,jA rfl (?_)⟩)⟩;rw [P6 hany] at hR;have hz:=hR.1;have h1g:=sG _ _ h1;refine vL (cp V.int (by rw [hz];rfl)) (jA rfl (⟨t,_,_,.str "free",rfl,rfl,SqT.of h1g,rfl,rfl,true,rfl,kU (jA rfl (⟨t,jA rfl (⟨.inr (SqT.of h1g),rfl,q _ sG⟩)⟩))⟩))
 |home ll rr lr xs des kf hany hll h1 hlr hrr hks hpa hmk hdl =>
  refine ⟨_,rfl,rfl,jA rfl (qX (fun e=>nomatch e) ?_)⟩;refine (jA rfl (⟨_,_,_,_,_,rfl,rfl,TyOf.tup h1,ZA "tuple",jA rfl (kY ?_)⟩));refine (jA rfl (⟨t,jA rfl (⟨.inr (SqT.of h1),_,_,rfl,rfl,jA rfl (kY ?_)⟩)⟩));refine (jA rfl (⟨t,_,_,.str "knot",rfl,rfl,SqT.of h1,rfl,_,_,_,_,_,rfl,rfl,TyOf.str _,ZA "str",jA rfl (kY ?_)⟩));refine (jA rfl (jA rfl (⟨t,_,_,.ref lr,rfl,rfl,SqT.of h1,dE (n:=2) rfl rfl,jA rfl (⟨lr,ll,jA rfl (⟨hlr,hll,by rw [ZR];exact hN,hst,fun H1 s=>(jA rfl (kY ?_))⟩)⟩)⟩)));have hll1:=hll.same s;obtain ⟨xs1,la,ys,f1,f2,f3,f4,f5,f6⟩:=hll1.last;have hyl:ys.length≤1000:=by
   rw [f5.1];have:=lK (T:=T0) (k0:=k0) N;omega
  refine (jA rfl (jA rfl (⟨ll,xs1,_,_,rfl,rfl,so f1,f2,la,rfl,⟨_,so f4⟩,fun bt hbt=>?_⟩)));refine zR (K:=K) (a:=la) (xs:=ys) (caps:=[some (.ref fe)]) (fun j zs Hj=>KeysAt Hj zs (((j5 T0 k0 N).take j).filter M)) hbt (so f4) ⟨rfl,fun i x e=>by cases e⟩ ?_ ?_
  ·rintro j x zs Hj hx hj hle sm hY hR;obtain ⟨kj,hkj,hgj,h8j⟩:=f5.2 j x hx;have hdj:=dom N kj (Q9 (ai hkj));refine ⟨fe,rfl,jA rfl (hE _ _ kj _ _ (s.trans sm) hdj (qM sm hgj) fun He se=>(jA rfl (?_)))⟩;have ht:((j5 T0 k0 N).take (j+1))=(j5 T0 k0 N).take j++[kj]:=by rw [aC,hkj];rfl
   cases hMk:M kj with
   |true =>
    refine kU (jA rfl (vY hbt sm hY hle (by omega) se ?_));show KeysAt _ _ (((j5 T0 k0 N).take (j+1)).filter M);rw [ht,aT,aP,if_pos hMk];exact hR.snoc (k:=kj) (fun a l e=>by rw [jH fun z=>by subst z;rw [hY] at e;cases e];exact se _ _ e) (qM sm hgj) h8j
   |false =>
    refine kY (J3 sm hY hle se ?_);show KeysAt _ _ (((j5 T0 k0 N).take (j+1)).filter M);rw [ht,aT,aP,if_neg (by rw [hMk];decide)];have hR2:=hR.same se
    simpa using hR2
  rintro zs Hg sg hbtg hleg hR;rw [f5.1,aL] at hR;have sG:=s.trans sg;refine ⟨bt,jA rfl (⟨.inl (so hbtg),rfl,jA rfl (?_)⟩)⟩;have hz:=hR.1;have hne:=PR hany;have h1g:=sG _ _ h1;have hrg:=sG _ _ hrr;have hkg:=hks.same sG;have hkl:=hks.1;refine qX (fun e=>by have e:=V.int.inj e;omega) ?_;refine (jA rfl (⟨t,_,_,.str "knot",rfl,rfl,SqT.of h1g,rfl,rfl,jA rfl (y9 rfl ?_)⟩));refine (jA rfl (⟨t,jA rfl (⟨.inr (SqT.of h1g),rfl,jA rfl (y9 rfl ?_)⟩)⟩));refine (jA rfl (⟨t,_,_,.ref rr,rfl,rfl,SqT.of h1g,rfl,_,_,_,_,_,rfl,rfl,TyOf.lst hrg,ZA "list",jA rfl (kY ?_)⟩));refine (jA rfl (⟨t,_,_,.ref rr,rfl,rfl,SqT.of h1g,rfl,rr,jA rfl (⟨.inl (so hrg),jA rfl (⟨ll,jA rfl (⟨.inl (so (sg _ _ f1)),_,_,rfl,rfl,rfl,jA rfl (y9 (cp V.int (by omega)) ?_)⟩)⟩)⟩)⟩));refine (jA rfl (jA rfl (jA rfl (⟨t,_,_,.ref rr,rfl,rfl,SqT.of h1g,rfl,QF y fa rr T0 k0 kf xs des (FX rfl (fun H y k Q E s=>hA H y k Q E (sG.trans s)) hsh hfew hone (qM sG hy) hk0 hrg hkg hpa (fun v H2 s2 hv hkd=>?_))⟩))));have hvn:v≠.non:=fun z=>by
   subst z;obtain ⟨s,rfl⟩:=hdm kf hkd;obtain ⟨t,e,_⟩:=bV hv;cases e
  refine ⟨_,rfl,rfl,true,(by rw [aI hvn];rfl),kU ⟨fe,rfl,jA rfl (hE _ _ kf _ _ (sG.trans s2) hkd hv fun H3 s3=>?_)⟩⟩;rw [hmk];exact q _ ((sG.trans s2).trans s3)
theorem zS:jT 1 ["_law_script","_law_canal_here","_law_ways","_law_state_here","_law_most","_law_ahead","_law_ended","_law_layers","_law_handed","_law_told_here","_law_layer","_law_one","_law_found"] JK:=jS
include T in
theorem IX (F:kH K "law" JK f fd) {cL tL:Addr} (hcL:fd.code=.ref cL) (hC:W.CodeHd base cL tL) (hB:base.BuiltinsAt mg tL) (hgT:PySem.mainGlobals≠tL) (jg:Def P w K mg base 6 "_law_canal" ["_law_script"] [] (AU K (jF cP cB cU) cR cN)) (xa:Def P w K mg base 1 "_law_draw" ["_law_script","_law_k","_law_many"] [] (bT K)) (xai:Def P w K mg base 2 "_law_way" ["_law_script","_law_k","_law_canal_here"] [] (C5 K (jF cP cB cU) cR cN)) (jh:Def P w K mg base 6 "_law_state" ["_law_script","_law_canal_here","_law_ways"] [] (AN K (jF cP cB cU) cR cN)) (xaa:Def P w K mg base 18 "_law_book" ["_law_first","_law_ahead","_law_ended","_law_most"] [] (t6 w (yC "law.<locals>._law_ahead" (kN qR) (kD qR) (jM qR) ["_law_one"] ["_law_ways","_law_canal_here"] (yP (jF cP cB cU) cR cN)) (yC "law.<locals>._law_ended" (kN vB) (kD vB) (jM vB) ["_law_one"] ["_law_ways","_law_canal_here"] (zU (jF cP cB cU) cR cN)))) (vw:Def P w K mg base 20 "_law_told" ["_law_canal_here","_law_ways","_law_state_here","_law_most"] [] (tI (jF cP cB cU) cR cN tA tH (vP kQ) (vP kZ))) (vd:Def P w K mg base 19 "_law_right" ["_law_told_here","_law_state_here","_law_ahead","_law_ended","_law_layers"] [] (rO (yC "law.<locals>._law_ahead" (kN qR) (kD qR) (jM qR) ["_law_one"] ["_law_ways","_law_canal_here"] (yP (jF cP cB cU) cR cN)) (yC "law.<locals>._law_ended" (kN vB) (kD vB) (jM vB) ["_law_one"] ["_law_ways","_law_canal_here"] (zU (jF cP cB cU) cR cN)))) (vj:Def P w K mg base 14 "is_knot" ["canal","ways","state"] [] (tY (jF cP cB cU) cR cN)) (xq:FnV P w K mg base jK 14 (yC "law.<locals>._law_ended" (kN vB) (kD vB) (jM vB) ["_law_one"] ["_law_ways","_law_canal_here"] (zU (jF cP cB cU) cR cN))):FnOk P w K mg base jK 21 f fd ["_law_script"] (lQ tA tH tL K):=by
 refine F.okC hcL zS (fun vs H Q E h=>?_) (fun A outer s H vs Q E hr h=>?_)
 ·obtain ⟨a,ns,rfl,hS,h63,hne,hLA,hLH,hTA0,hTH0,htL,q⟩:=h;rfl
 obtain ⟨a,ns,rfl,hS,h63,hne,hLA,hLH,hTA0,hTH0,htL,q⟩:=h;have hu:_<cLine:=hr.units0;refine ⟨_,(@jG _ _ _ _ _ (jX 1 zS.nd (jP jg hr rfl (jB (pv 0) jE)))
   (@jG _ _ _ _ _ (jX 2 zS.nd (gI ["_law_k","_law_script","_law_canal_here"] [0,1] (qS (jM JK)) (JB (by rfl) T.xi (jB (jP xa hr rfl (j4 (pv 0) jC jC)) jE)) (fun _ _ _ _ _=>(jP xai hr rfl (j4 (pv 1) (pv 0) (pv 2))))))
   (@jG _ _ _ _ _ (jX 3 zS.nd (jP jh hr rfl (j4 (pv 0) (pv 1) (pv 2))))
   (@jG _ _ _ _ _ (jX 4 zS.nd (@jL _ _ _ _ _ _ _ _ kL jC (jP xa hr rfl (j4 (pv 0) jC jC))))
   (@jG _ _ _ _ _ (DH (i:=5) (c:=cL) (P:=tL) zS.nd rfl (.inl rfl) (.inr rfl) rfl rfl (MQ _ _ _) rfl rfl hC hgT hB rfl)
   (dJ (DH (i:=6) (c:=cL) (P:=tL) zS.nd rfl (.inl rfl) (.inr rfl) rfl rfl (MP _ _ _) rfl rfl hC hgT hB rfl)
   (@jG _ _ _ _ _ (jX 7 zS.nd (sQ (cs:=[(1,s.heap.objs.size+2),(2,s.heap.objs.size+3)]) xaa hr rfl (mH ⟨"_law_canal_here",rfl,rfl,rfl,rfl⟩ ⟨"_law_ways",rfl,rfl,rfl,rfl⟩) (yG (pv 3) (pv 5) (pv 6) (pv 4))))
   (@jG _ _ _ _ _ (jX 8 zS.nd (zE (bH K) (by rfl) T.xn aW (jB (pv 2) jE)))
   (@jG _ _ _ _ _ (jX 9 zS.nd (jP vw hr rfl (yG (pv 1) (pv 8) (pv 3) (pv 4))))
   (@jG _ _ _ _ _ (kT (PW.pt (QV (J8 (yA (sQ (cs:=[(1,s.heap.objs.size+2),(2,s.heap.objs.size+3)]) vd hr rfl (mH ⟨"_law_canal_here",rfl,rfl,rfl,rfl⟩ ⟨"_law_ways",rfl,rfl,rfl,rfl⟩) (eK (pv 9) (pv 3) (pv 5) (pv 6) (pv 7))))) (bU (kI (T3 hu) (pv 8) (pv 2))))) (jO yT) kS)
   (dJ (JJ (QX bb bj bn QK (jI (jR K) (pv 9) (QW QQ jC)) (jB (qJ jE) jE)))
   (@jG _ _ _ _ _ (JJ (T1 bb PySem.F.slot_list_clear PySem.F.type_list_clear RE (jI (jR K) (pv 9) jC)))
   (@jG _ _ _ _ _ (kT (J8 (yA (sQ (cs:=[(1,s.heap.objs.size+2),(2,s.heap.objs.size+3)]) vd hr rfl (mH ⟨"_law_canal_here",rfl,rfl,rfl,rfl⟩ ⟨"_law_ways",rfl,rfl,rfl,rfl⟩) (eK (jP vw hr rfl (yG (pv 1) (pv 8) (pv 3) (pv 4))) (pv 3) (pv 5) (pv 6) (pv 7))))) (jO yT) kS)
   (dJ (kT (kI uC (pv 7) ZC) (@kX _ _ _ (jX 7 zS.nd (qJ (jB (qJ (jB (pv 3) jE)) jE)))) kS)
   (@jG _ _ _ _ _ (yK aX rfl (qV (pv 7)) (kC (i:=10) zS.nd rfl (.inl rfl))
    (@kX _ _ _ (yK aX rfl (qV (pv 10)) (kC (i:=11) zS.nd rfl (.inl rfl))
    (@jG _ _ _ _ _ (jX 12 zS.nd (jP vj hr rfl (j4 (pv 1) (pv 8) (pv 11))))
   (@kX _ _ _ (kT (PW.pt (QV (J8 (yA (y6 (bK (K:=K)) (by rfl) T.xh bp (jB (pv 12) (jB (bQ (v:=.ty "bool") rfl T.ve PyProof.Rows.boot_bool rfl) jE))))) (bU (kI zM (pv 12) (OR (cs:=[(1,s.heap.objs.size+2),(2,s.heap.objs.size+3)]) (i:=6) xq (hr.mono (by decide)) rfl (by first|exact .inl rfl|exact .inr rfl|exact .inr (.inl rfl)|exact .inr (.inr rfl)) (mH ⟨"_law_canal_here",rfl,rfl,rfl,rfl⟩ ⟨"_law_ways",rfl,rfl,rfl,rfl⟩) (jB (pv 11) jE)))))) (jO yT) kS))))))
   (jO (z9 (T4 hu) (pv 8) (pv 2)))))))))))))))))),?_⟩
 try dsimp only [jV,jU]
 have hT0:Tabs H tA tH (vP kQ) (vP kZ):=⟨hne,.inl hTA0,.inl hTH0⟩;refine (jA rfl (⟨a,ns,rfl,hS,h63,fun x R L N H1 hdr hr2 hl1 hl2 s1 hx0 hcn=>?_⟩));have b1:=hdr.r8;have b3:=hdr.n6;have hS1:=s1.seq hS;refine (jA rfl (⟨a,ns,_,jA rfl (⟨hS1,h63,by omega,by omega,by omega,fun m0 m00 m01=>?_⟩)⟩));obtain ⟨n,hn⟩:∃n:Nat,m0=(n:Int):=⟨m0.toNat,by omega⟩;subst hn;refine (jA rfl (⟨by omega,by omega,fun wl hwl0=>?_⟩));refine ZQ (n:=((n:Nat):Int).toNat) (caps:=[some (.ref a),some (.ref x)]) (fun i us Hi=>∃ys:List jY,AllAt (WyAt Hi) us ys∧ys.length=i∧∀y∈ys,WyOk L y) hwl0 ⟨[],AllAt.nil,rfl,fun y hy=>by cases hy⟩ ?_ ?_
 ·rintro i us Hi hi hle sm hY ⟨ys,hA,hyl,hok⟩;rw [aB] at hi;rw [dg];refine yF (kU (jA rfl (jA rfl (jA rfl ((QF a x ns i _ R L N (gS rfl (sm.seq hS1) h63 (by omega) (hcn.same sm) hdr hl1 (fun t y H' hyo s' ht0 hwy=>vY hwl0 sm hY hle (by omega) s' ?_))))))));refine ⟨ys++[y],((hA.mono (WyAt.same s')).snoc hwy).mono (WyAt.put (s' _ _ hY)),by rw [ag,hyl];rfl,fun y' hy'=>?_⟩
  rcases aR.mp hy' with h|h
  ·exact hok y' h
  ·rw [aA.mp h];exact hyo
 rintro us H2 s2 hwl hle2 ⟨ys,hA,hyl,hok⟩;rw [aB] at hyl;have hcn2:=hcn.same s2;refine (jA rfl (jA rfl (jA rfl ((eE a x wl ns us ys _ R L N (WI rfl (s2.seq hS1) h63 hcn2 hdr hwl hA (by omega) hok (fun st d ms pl H3 s3 hst hfl hd0 hml=>?_)))))));have hG:Stage (jF cP cB cU) cR cN [] H3 x wl st us R L N ys d ms pl:=⟨hcn2.same s3,hdr,s3 _ _ hwl,hA.mono (WyAt.same s3),hst,hfl,hml⟩;have s13:=(s1.trans s2).trans s3;have hS3:=s13.seq hS;have few:∀k,((kJ R L N ys).1 k).length≤5:=fun k=>aG (S1 k) (by omega)
 refine (jA rfl (⟨a,ns,_,jA rfl (⟨hS3,h63,by omega,by omega,by omega,fun md md0 md1=>⟨_,_,rfl,rfl,?_⟩⟩)⟩));obtain ⟨NN,hF⟩:=O8 (most:=1+md) (M:=vV R L N ys) (k0:=jZ (d,ms,pl)) (by omega) few;have ht3:=s13 _ _ htL;have hT3:=hT0.same s13;refine ⟨_,ht3,trivial,rfl,fun fa ca cta doca oca n1 n2 n3 hfa hca hoc=>?_⟩;refine ⟨fun σ Hj=>∃fa fe,σ=[some (.ref a),some (.ref x),some (.ref wl),some (.ref st),some (.int (1+md)),some (.ref fa),some (.ref fe),none,none,none,none,none,none]∧LF (jF cP cB cU) cR cN qR vB (s.heap.objs.size+2) (s.heap.objs.size+3) Hj fa fe x wl st us R L N ys d ms pl∧Tabs Hj tA tH (vP kQ) (vP kZ),?_,?_⟩
 ·refine ⟨_,lW n1 n2,trivial,rfl,fun fe ce cte doce oce m1 m2 m3 hfe hce hoce=>⟨fa,fe,rfl,⟨hG.noT.same (rS (KeepT.noT (fO hfa hca) ht3) (KeepT.noT (fO hfe hce) (lW n1 n2))),hd0,few,FnM.same (KeepT.noT (fO hfe hce) (lW n1 n2)) (FnM.noT ⟨_,_,_,_,_,_,ca,oca,by rw [jH n3.symm,jD],rfl,jD,hoc⟩),⟨_,_,_,_,_,_,ce,oce,by rw [jH m3.symm,jD],rfl,jD,hoce⟩⟩,Tabs.keepT (fO hfe hce) (lW n1 n2) hLA hLH (Tabs.keepT (fO hfa hca) ht3 hLA hLH hT3)⟩⟩
 clear hoc n1 n2 n3 hfa hca;rintro σ H6 ⟨fa,fe,rfl,hLF,hT6⟩;have hcc:s.heap.objs.size+2≠s.heap.objs.size+3:=fun z=>by simp only [Addr] at *;omega
 refine (jA rfl (jA rfl (jA rfl (jA rfl (⟨mY ⟨_,rfl⟩ ⟨_,rfl⟩,fun HC hHC hn0=>TC hLF hF (by omega) (by omega) hcc rfl rfl hHC hn0 fun lv H' hcs sT hB=>⟨hcs,?_⟩⟩)))));clear hcs hHC hn0;generalize kR H' _=H7 at sT hB ⊢;have hL7:=hLF.same sT;refine (jA rfl (⟨wl,us,rfl,.inl (so hL7.g.wls),fun hd hhd0=>?_⟩));have u8:=jJ hhd0 (.lst us);have hL8:=hL7.same u8;have hT8:=(hT6.same sT).same u8;have hB8:=hB.on (P8 u8);have hh8:upd H7 hd (.lst us) hd=some (.lst us):=jD;generalize upd H7 hd (.lst us)=H8 at u8 hL8 hT8 hB8 hh8 ⊢;refine (jA rfl (jA rfl (jA rfl (jA rfl (?_)))))
 dsimp only [QD]
 refine C0 hL8 hh8 hT8 hF fun t H9 s9 hT9 hTo=>?_
 have hL9:=hL8.noT.same s9;have hB9:=hB8.on s9;have hhN:=vN hh8 (fun _ z=>nomatch z);refine (jA rfl (jA rfl (jA rfl (jA rfl (jA rfl (⟨mY ⟨_,rfl⟩ ⟨_,rfl⟩,fun HC hHC hn0=>B9 hL9 hF hcc rfl rfl hHC hn0 (hTo.right hB9) fun H' hcs sR=>⟨hcs,jA rfl (kY ?_)⟩⟩))))));clear hcs hHC hn0;generalize kR H' _=HA at sR ⊢;have sA:=s9.trans sR;have hL10:=hL9.same sR;have hTA:=hT9.same sR;refine ⟨_,rfl,_,rfl,hd,wl,us,rfl,rfl,so (sA _ _ hhN),so hL10.g.wls,(fun z hz=>by
  obtain ⟨i,hi⟩:=aQ.mp hz;obtain ⟨y,_,c,_,_,e,_⟩:=hL10.g.wys.2 i z hi;exact ⟨c,e⟩),_,rfl,kY ?_⟩
 refine ⟨fun σ Hj=>σ=[some (.ref a),some (.ref x),some (.ref wl),some (.ref st),some (.int (1+md)),some (.ref fa),some (.ref fe),some lv,some (.ref hd),some (.ref t),none,none,none]∧Same (noT H8) Hj∧Tabs Hj tA tH (vP kQ) (vP kZ)∧∃(c:Addr) (ws items:List V),Hj t=some (.tup items)∧vF items 1=some (.ref c)∧Hj c=some (.lst ws)∧noT H8 c=none,?_,?_⟩
 ·cases hTo with
  |wide c h1 h2 h3 hl0 =>
   have t1:=sR _ _ h2;have c1:=sR _ _ h3;refine (jA rfl (jA rfl (⟨t,_,_,.ref c,rfl,rfl,SqT.of t1,dE (n:=1) rfl rfl,.inl ⟨rfl,_,so c1⟩,aY _,fun n0 hn00=>?_⟩)));have u:=jJ hn00 (.lst []);have c2:=u _ _ c1;have tne:t≠c:=fun z=>by rw [z,c1] at t1;cases t1
   refine ⟨c,_,_,rfl,rfl,c2,J7 (aY _),rfl,qI hl0 (sA.trans u),(hTA.same u).lst c2,c,_,_,by rw [jH tne];exact u _ _ t1,rfl,jD,hl0⟩
  |doomed lr h1 h2 h3 h4 hl0 =>
   have t1:=sR _ _ h3;obtain ⟨zs,c1,hz,_⟩:=(h4.same sR).ex;have hlong:=bM (T:=kJ R L N ys) (M:=vV R L N ys) (k0:=jZ (d,ms,pl)) NN hF.low;rw [ZR] at hz;refine (jA rfl (jA rfl (⟨t,_,_,.ref lr,rfl,rfl,SqT.of t1,dE (n:=1) rfl rfl,.inl ⟨rfl,_,so c1⟩,aY _,fun n0 hn00=>?_⟩)));have u:=jJ hn00 (.lst []);have c2:=u _ _ c1;have tne:t≠lr:=fun z=>by rw [z,c1] at t1;cases t1
   refine ⟨lr,_,_,rfl,rfl,c2,J7 (by omega),rfl,qI hl0 (sA.trans u),(hTA.same u).lst c2,lr,_,_,by rw [jH tne];exact u _ _ t1,rfl,jD,hl0⟩
  |home rr lr xs des kf h1 h2 h3 h4 h5 h6 h7 h8 h9 hr0 hl0 hrl =>
   have t1:=sR _ _ h3;have r1:=sR _ _ h5;obtain ⟨zs,c1,hz,_⟩:=(h4.same sR).ex;have hlong:=bM (T:=kJ R L N ys) (M:=vV R L N ys) (k0:=jZ (d,ms,pl)) NN hF.low;rw [ZR] at hz;refine (jA rfl (jA rfl (⟨t,_,_,.ref lr,rfl,rfl,SqT.of t1,dE (n:=2) rfl rfl,.inl ⟨rfl,_,so c1⟩,aY _,fun n0 hn00=>?_⟩)));have u:=jJ hn00 (.lst []);have c2:=u _ _ c1;have tne:t≠lr:=fun z=>by rw [z,c1] at t1;cases t1
   refine ⟨lr,_,_,rfl,rfl,c2,J7 (by omega),rfl,qI hl0 (sA.trans u),(hTA.same u).lst c2,rr,_,_,by rw [jH tne];exact u _ _ t1,rfl,by rw [jH hrl];exact u _ _ r1,hr0⟩
 rintro σ HB ⟨rfl,sB,hTB,c,ws,items,t1,hat,c1,hc0⟩;refine (jA rfl (⟨t,_,_,.ref c,rfl,rfl,SqT.of t1,hat,.inl ⟨rfl,_,so c1⟩,c,_,rfl,rfl,c1,?_⟩));have sC:Same (noT H8) (upd HB c (.lst [])):=qI hc0 sB;have hLC:=hL8.noT.same sC;have hTC:=hTB.lst c1 (o:=.lst []);have hBC:=hB8.on sC;refine (jA rfl (jA rfl (jA rfl (jA rfl (?_)))))
 dsimp only [QD]
 refine C0 hLC (sC _ _ hhN) hTC hF fun t2 HD sD hTD hTo2=>(jA rfl (jA rfl (jA rfl (jA rfl (⟨mY ⟨_,rfl⟩ ⟨_,rfl⟩,fun HC hHC hn0=>B9 (hLC.noT.same sD) hF hcc rfl rfl hHC hn0 (hTo2.right (hBC.on sD)) fun H' hcs sR=>⟨hcs,jA rfl (kY ?_)⟩⟩)))))
 clear hcs hHC hn0;generalize kR H' _=HE at sR ⊢;have sE:=(rS sC sD).trans sR;have hLE:=hL8.noT.same sE;have hBE:=hB8.on sE;have hhE:=sE _ _ hhN;have hdm:(kJ R L N ys).2 (jZ (d,ms,pl)):=(jA rfl (⟨hd0,hfl,hml⟩));refine ⟨fun σ Hj=>∃(ll:Addr) (LL:List (List GK)),σ=[some (.ref a),some (.ref x),some (.ref wl),some (.ref st),some (.int (1+md)),some (.ref fa),some (.ref fe),some (.ref ll),some (.ref hd),some (.ref t),none,none,none]∧Same HE Hj∧LayersAt Hj ll LL∧∀lay∈LL,∀k∈lay,(kJ R L N ys).2 k,?_,?_⟩
 ·cases hBE with
  |wide h =>
   refine ⟨_,rfl,rfl,jA rfl (vL rfl (jA rfl (⟨small (by show 1≤1000;decide),fun l1 hl1=>⟨small (by show 1≤1000;decide),fun lr hlr=>?_⟩⟩)))⟩;have u1:=jJ hl1 (.lst [.ref st]);have u2:=jJ hlr (.lst [.ref l1]);refine ⟨lr,[[jZ (d,ms,pl)]],rfl,u1.trans u2,rK jD (u2 _ _ jD) (fun z=>by rw [← z,jD] at hlr;cases hlr) (eA (s:=(d,ms,pl)) (hLE.g.sts.same (u1.trans u2))) (gC _),fun lay hl k hk=>?_⟩;cases aA.mp hl;cases aA.mp hk;exact hdm
  |full ll h1 h2=>exact ⟨_,rfl,rfl,jA rfl (qX (fun e=>nomatch e) ⟨ll,jA rfl (⟨Same.refl _,h2,fun lay hl k hk=>bP (mK hdr) hdm NN k (mem_flatten.mpr ⟨lay,hl,hk⟩)⟩)⟩)⟩
 rintro σ HJ ⟨ll,LL,rfl,sJ,hLJ,hdL⟩;obtain ⟨xs,f1,f2,f3⟩:=hLJ.ex;refine (jA rfl (⟨ll,rfl,⟨_,so f1⟩,JM (K:=K) (a:=ll) (xs:=xs) (fun i σ Hi=>∃c1 c2 c3:Option V,σ=[some (.ref a),some (.ref x),some (.ref wl),some (.ref st),some (.int (1+md)),some (.ref fa),some (.ref fe),some (.ref ll),some (.ref hd),some (.ref t),c1,c2,c3]∧Same HJ Hi) ⟨none,none,none,rfl,Same.refl _⟩ (fun i σ Hi _ ⟨_,_,_,_,s⟩=>so (s _ _ f1)) ?_ ?_⟩))
 ·rintro i v σ Hi hv ⟨c1,c2,c3,rfl,sI⟩;obtain ⟨a2,ys2,lay,rfl,_,hlay,h2,hk2⟩:=f3 i v hv;have h2I:=sI _ _ h2;refine (jA rfl (⟨a2,rfl,⟨_,so h2I⟩,JM (K:=K) (a:=a2) (xs:=ys2) (fun j σ Hj=>∃c2 c3:Option V,σ=[some (.ref a),some (.ref x),some (.ref wl),some (.ref st),some (.int (1+md)),some (.ref fa),some (.ref fe),some (.ref ll),some (.ref hd),some (.ref t),some (.ref a2),c2,c3]∧Same HJ Hj) ⟨c2,c3,rfl,sI⟩ (fun j σ Hj _ ⟨_,_,_,s⟩=>so (s _ _ h2)) ?_ ?_⟩))
  ·rintro j v σ Hj hv ⟨c2,c3,rfl,s⟩;obtain ⟨k,hk,hg,h8⟩:=hk2.2 j v hv;have hkd:=hdL lay (ai hlay) k (ai hk);obtain ⟨sk,rfl,d1,d2,d3⟩:=id hkd;have hgj:=qM s hg;obtain ⟨tt,rfl,hst2⟩:=bV hgj;have hLj:=hLE.same (sJ.trans s);refine (jA rfl (jA rfl (jA rfl (⟨x,hd,eE tt us ys sk.1 sk.2.1 sk.2.2 ([]) R L N (yE rfl ⟨hLj.g.cn,hLj.g.dr,s _ _ (sJ _ _ hhE),hLj.g.wys,hst2,d2,d3⟩ (fun H1 s1=>?_))⟩))));have hL1:=hLj.same s1;refine (jA rfl (⟨_,_,_,_,_,rfl,rfl,TyOf.bl _,ZA "bool",jA rfl (kY (jA rfl (⟨fe,rfl,jA rfl (⟨mY ⟨_,rfl⟩ ⟨_,rfl⟩,fun HC hHC hn0=>RP hL1 hcc rfl rfl hHC hn0 hkd (qM s1 hgj) fun H' hcs sR=>⟨hcs,rfl,jA rfl (?_)⟩⟩)⟩)))⟩));rw [uE];have s9:=(s.trans s1).trans sR;exact y9 rfl ⟨_,jA rfl (s9)⟩
  rintro σ Hj ⟨c2,c3,rfl,s⟩;exact ⟨_,_,jA rfl (s)⟩
 rintro σ Hi ⟨c1,c2,c3,rfl,s⟩;have hLi:=hLE.same (sJ.trans s);refine ⟨_,rfl,_,rfl,hd,wl,us,rfl,rfl,so (s _ _ (sJ _ _ hhE)),so hLi.g.wls,(fun z hz=>by
  obtain ⟨i,hi⟩:=aQ.mp hz;obtain ⟨y,_,c,_,_,e,_⟩:=hLi.g.wys.2 i z hi;exact ⟨c,e⟩),q _⟩
end
theorem all_mk {l:W.OpenLaw} {h:Heap} {mg:Str→Option Value} {fa f8 f9 f10 f11 f21 f23 f62 f63 f82:Addr} {ctA ctH ctL tL:Addr} {cP cB cU:Addr} {dn0:Nat} {tkS:Tok} {eL eTW:Addr} {tkH:Tok} (X:K.In h) (G:h.Ns mainGlobals mg) (hfa:mg "law"=some (.ref fa))
 {od23 an23 od62 an62 od63 an63 od82 an82:Option Addr} {sl23 sl62 sl63 sl82:Array (Option Value)} {oc23 kV23 dc23 pm23 cd23 ct23 oc62 kV62 dc62 pm62 cd62 ct62 oc63 kV63 dc63 pm63 cd63 ct63 oc82 kV82 dc82 pm82 cd82 ct82:Value} {T23:Addr} {oT23:Obj}
  (xaQ:vE K "PlainLock" (some (.ref cP)))
  (xaR:vE K "BasinLock" (some (.ref cB)))
  (xaS:vE K "PumpLock" (some (.ref cU)))
  (xaT:vE K "Reach" (some (.ref cR)))
  (xaU:vE K "Canal" (some (.ref cN)))
  (vm:vE K "NotNow" (some (.ref eW)))
  (zp:vE K "NotLinked" (some (.ref eL)))
  (vb:vE K "TooWide" (some (.ref eTW)))
  (p0:kG K "poured_all" pE)
  (p1:kG K "over" pB)
  (p2:kG K "last_first" o4)
  (p3:kG K "spills" pK)
  (p4:kG K "spill_pours" iO)
  (p5:kG K "settled" pJ)
  (p6:kG K "with_spills" pP)
  (p7:kG K "parts_not_nought" iN)
  (a8:qH K cP "__init__" (some (.ref f8)))
  (i8:W.isFn K (.ref f8)=true)
  (ac8:W.findCls K (.ref cP) (.type "type") "__init__"=some (.val (.ref f8)))
  (p8:gX K "__init__" "PlainLock.__init__" n5 f8)
  (a9:qH K cB "__init__" (some (.ref f9)))
  (i9:W.isFn K (.ref f9)=true)
  (p9:gX K "__init__" "BasinLock.__init__" nP f9)
  (a10:qH K cU "__init__" (some (.ref f10)))
  (i10:W.isFn K (.ref f10)=true)
  (p10:gX K "__init__" "PumpLock.__init__" oG f10)
  (a11:qH K cR "__init__" (some (.ref f11)))
  (i11:W.isFn K (.ref f11)=true)
  (p11:gX K "__init__" "Reach.__init__" oK f11)
  (p12:yJ K cP "kind" "PlainLock.kind" oE)
  (p13:yJ K cB "kind" "BasinLock.kind" nS)
  (p14:yJ K cU "kind" "PumpLock.kind" oJ)
  (p15:yJ K cP "extra" "PlainLock.extra" oB)
  (p16:yJ K cB "extra" "BasinLock.extra" nQ)
  (p17:yJ K cU "extra" "PumpLock.extra" oH)
  (p18:yJ K cP "fill_parts" "PlainLock.fill_parts" oC)
  (p19:yJ K cB "fill_parts" "BasinLock.fill_parts" nR)
  (p20:yJ K cU "fill_parts" "PumpLock.fill_parts" oI)
  (a21:qH K cP "let_parts" (some (.ref f21)))
  (a21_U:qH K cU "let_parts" (some (.ref f21)))
  (i21:W.isFn K (.ref f21)=true)
  (p21:gX K "let_parts" "PlainLock.let_parts" oF f21)
  (p22:yJ K cB "let_parts" "BasinLock.let_parts" nU)
  (a23:qH K cN "__init__" (some (.ref f23)))
  (i23:W.isFn K (.ref f23)=true)
  (l23:K.lookup f23=some ⟨oc23,od23,.func (W.fnOf "__init__" "Canal.__init__" (kN bG) (kD bG) (jM bG) (.ref T23) kV23 dc23 pm23 an23 cd23 ct23),sl23⟩)
  (c23:W.codeIn K cd23 "Canal.__init__"=true)
  (k23:W.keepIn K (.ref f23)=true)
  (lT23:K.lookup T23=some oT23)
  (dT23:oT23.data=.seq ([.none]:List Value).toArray dn0)
  (p24:yJ K cN "sea" "Canal.sea" nZ)
  (p25:yJ K cN "sky" "Canal.sky" n4)
  (p26:yJ K cN "many" "Canal.many" nY)
  (p27:yJ K cN "chamber" "Canal.chamber" nW)
  (p28:yJ K cN "basin" "Canal.basin" nV)
  (p29:yJ K cN "weirs" "Canal.weirs" iA)
  (p30:yJ K cN "start" "Canal.start" gZ)
  (p31:yJ K cN "full" "Canal.full" nX)
  (p32:kG K "filling" iH)
  (p33:kG K "letting" iK)
  (p34:kG K "given_by" iI)
  (p35:kG K "basin_after" iF)
  (p36:kG K "passage" pD)
  (p37:kG K "step_ends" pL)
  (p38:kG K "linked" o6)
  (p39:kG K "steps_to_do" pM)
  (p40:kG K "reach_of" pG)
  (p41:kG K "lying" iL)
  (p42:kG K "night_pours" cX)
  (p43:kG K "has_no_berth" oY)
  (p44:kG K "next_step" o9)
  (p45:kG K "one_step_on" iM)
  (p46:kG K "counted_on" oV)
  (p47:kG K "by_number" iG)
  (p48:kG K "pass_pours" pC)
  (p49:kG K "let_pours" o5)
  (p50:kG K "is_below_least" oZ)
  (p51:kG K "falls_short" oX)
  (p52:kG K "why_no_pass" pN)
  (p53:kG K "why_not" pO)
  (p54:kG K "pours" pF)
  (p55:kG K "after" oS)
  (p56:kG K "may" cW)
  (p57:kG K "steps_left" iP)
  (p58:kG K "all_home" oU)
  (p59:kG K "is_knot" o0)
  (a62:vE K "knot" (some (.ref f62)))
  (l62:K.lookup f62=some ⟨oc62,od62,.func (W.fnOf "knot" "knot" (kN kZ) (kD kZ) (jM kZ) .none kV62 dc62 pm62 an62 cd62 ct62),sl62⟩)
  (c62:W.codeIn K cd62 "knot"=true)
  (k62:W.keepIn K (.ref f62)=true)
  (a63:vE K "ahead_on" (some (.ref f63)))
  (l63:K.lookup f63=some ⟨oc63,od63,.func (W.fnOf "ahead_on" "ahead_on" (kN kQ) (kD kQ) (jM kQ) .none kV63 dc63 pm63 an63 cd63 ct63),sl63⟩)
  (c63:W.codeIn K cd63 "ahead_on"=true)
  (k63:W.keepIn K (.ref f63)=true)
  (p64:kG K "row_to" pI)
  (p65:kG K "next_layer" o8)
  (p66:kG K "layered" iJ)
  (p67:kG K "_law_draw" oM)
  (p68:kG K "_law_reach" oQ)
  (p69:kG K "_law_lock" oP)
  (p70:kG K "_law_canal" eP)
  (p71:kG K "_law_way" eQ)
  (p72:kG K "_law_state" iE)
  (p73:kG K "_law_home" oN)
  (p76:kG K "_law_come" iC)
  (p77:kG K "_law_layers_alike" oO)
  (p78:kG K "look_for_knot" o7)
  (p79:kG K "_law_told" oR)
  (p80:kG K "_law_book" iB)
  (p81:kG K "_law_right" iD)
  (a82:vE K "law" (some (.ref f82)))
  (l82:K.lookup f82=some ⟨oc82,od82,.func (W.fnOf "law" "law" (kN JK) (kD JK) (jM JK) .none kV82 dc82 pm82 an82 cd82 ct82),sl82⟩)
  (c82:W.codeIn K cd82 "law"=true)
  (k82:W.keepIn K (.ref f82)=true)
  (xn:vE K "list" none)
  (xr:vE K "tuple" none)
  (wb:vE K "max" none)
  (xi:vE K "range" none)
  (xf:vE K "len" none)
  (vo:vE K "sum" none)
  (wc:vE K "zip" none)
  (xj:vE K "enumerate" none)
  (ur:vE K "min" none)
  (xu:vE K "reversed" none)
  (uu:vE K "int" none)
  (xh:vE K "isinstance" none)
  (uv:vE K "str" none)
  (ve:vE K "bool" none)
  (xaV:W.plainGet K cP Str.empty=true)
  (xaz:W.hasDictIn K cP=true)
  (xaW:W.plainOver K cP=true)
  (xaX:qH K cP "__setattr__" (some (.builtin "object.__setattr__")))
  (xaY:W.makesIn K cP=true)
  (xaZ:W.keepIn K (.ref cP)=true)
  (wm:qH K cP "name" none)
  (wp:qH K cP "high" none)
  (ji:qH K cP "low" none)
  (wr:qH K cP "room" none)
  (xa0:W.plainGet K cB Str.empty=true)
  (xaA:W.hasDictIn K cB=true)
  (xa1:W.plainOver K cB=true)
  (xa2:qH K cB "__setattr__" (some (.builtin "object.__setattr__")))
  (xa3:W.makesIn K cB=true)
  (xa4:W.keepIn K (.ref cB)=true)
  (wu:qH K cB "name" none)
  (ww:qH K cB "high" none)
  (jj:qH K cB "low" none)
  (wx:qH K cB "room" none)
  (wy:qH K cB "side" none)
  (xa5:W.plainGet K cU Str.empty=true)
  (xaB:W.hasDictIn K cU=true)
  (xa6:W.plainOver K cU=true)
  (xa7:qH K cU "__setattr__" (some (.builtin "object.__setattr__")))
  (xa8:W.makesIn K cU=true)
  (xa9:W.keepIn K (.ref cU)=true)
  (wz:qH K cU "name" none)
  (ua:qH K cU "high" none)
  (jk:qH K cU "low" none)
  (uc:qH K cU "room" none)
  (ud:qH K cU "lift" none)
  (g1:W.specialIn K (.ref cP) "__getattribute__"=some (some (.builtin "type.__getattribute__")))
  (g2:W.readsIn K cP (.type "type")=true)
  (xba:W.plainGet K cR Str.empty=true)
  (xaC:W.hasDictIn K cR=true)
  (xbb:W.plainOver K cR=true)
  (xbc:qH K cR "__setattr__" (some (.builtin "object.__setattr__")))
  (xbd:W.makesIn K cR=true)
  (xbe:W.keepIn K (.ref cR)=true)
  (zx:qH K cR "name" none)
  (xx:qH K cR "least" none)
  (xy:qH K cR "crest" none)
  (xv:qH K cR "berths" none)
  (xz:qH K cR "water" none)
  (xt:qH K cR "target" none)
  (xbf:W.plainGet K cN Str.empty=true)
  (xaD:W.hasDictIn K cN=true)
  (xbg:W.plainOver K cN=true)
  (xbh:qH K cN "__setattr__" (some (.builtin "object.__setattr__")))
  (xbi:W.makesIn K cN=true)
  (xbj:W.keepIn K (.ref cN)=true)
  (xg:qH K cN "reaches" none)
  (xb:qH K cN "locks" none)
  (xl:qH K cN "nights" none)
  (gSEA:vE K "SEA" (some (.int (-1) tkS)))
  (vn:W.excIn K eW [.type "ValueError",.type "Exception",.type "BaseException",.type "object"] "ValueError.__new__"=true)
  (zq:W.excIn K eL [.type "ValueError",.type "Exception",.type "BaseException",.type "object"] "ValueError.__new__"=true)
  (vc:W.excIn K eTW [.type "ValueError",.type "Exception",.type "BaseException",.type "object"] "ValueError.__new__"=true)
  (gHOME:vE K "HOME" (some (.int (-1) tkH)))
  (ht63:W.tabIn K "ahead_on"=some (ctA,tA))
  (ht62:W.tabIn K "knot"=some (ctH,tH))
  (ht82:W.tabIn K "law"=some (ctL,tL)) :
  ∃fd:FuncData,(∀(s:Shared) (v:Value),BindsTo s fd ⟨[v],[]⟩ [("_law_script",v)])∧∀base:Heap,K.In base→base.Ns mainGlobals mg→(∀p∈([(ctA,tA),(ctH,tH),(ctL,tL)]:List (Addr×Addr)),W.CodeHd base p.1 p.2∧base.BuiltinsAt mg p.2∧PySem.mainGlobals≠p.2)→FnOk l.prog w K mg base jK 21 fa fd ["_law_script"] (lQ tA tH tL K):=by
 have e:=hfa.symm.trans (ba X G a82);cases e;obtain ⟨_,_,a0,F0⟩:=p0;obtain ⟨_,_,a1,F1⟩:=p1;obtain ⟨_,_,a2,F2⟩:=p2;obtain ⟨_,_,a3,F3⟩:=p3;obtain ⟨_,_,a4,F4⟩:=p4;obtain ⟨_,_,a5,F5⟩:=p5;obtain ⟨_,_,a6,F6⟩:=p6;obtain ⟨_,_,a7,F7⟩:=p7;obtain ⟨_,F8⟩:=p8;have k8:=F8.kp;have b8:=F8.binds (ps:=["self","name","high","low","room"]) fun _ _ _ _ _ _=>wG fun _ _ _ _ _=>rfl
 obtain ⟨_,F9⟩:=p9;have k9:=F9.kp;have b9:=F9.binds (ps:=["self","name","high","low","room","side"]) fun _ _ _ _ _ _=>wF fun _ _ _ _ _ _=>rfl
 obtain ⟨_,F10⟩:=p10;have k10:=F10.kp;have b10:=F10.binds (ps:=["self","name","high","low","room","lift"]) fun _ _ _ _ _ _=>wF fun _ _ _ _ _ _=>rfl
 obtain ⟨_,F11⟩:=p11;have k11:=F11.kp;have b11:=F11.binds (ps:=["self","name","least","crest","berths","water","target"]) fun _ _ _ _ _ _=>WO fun _ _ _ _ _ _ _=>rfl
 obtain ⟨_,_,a12,i12,F12⟩:=p12;obtain ⟨_,_,a13,i13,F13⟩:=p13;obtain ⟨_,_,a14,i14,F14⟩:=p14;obtain ⟨_,_,a15,i15,F15⟩:=p15;obtain ⟨_,_,a16,i16,F16⟩:=p16;obtain ⟨_,_,a17,i17,F17⟩:=p17;obtain ⟨_,_,a18,i18,F18⟩:=p18;obtain ⟨_,_,a19,i19,F19⟩:=p19;obtain ⟨_,_,a20,i20,F20⟩:=p20;obtain ⟨_,F21⟩:=p21;have k21:=F21.kp;have b21:=F21.binds (ps:=["self","basin"]) fun _ _ _ _ _ _=>eJ fun _ _=>rfl
 obtain ⟨_,_,a22,i22,F22⟩:=p22;have F23:=S4 (st:=bG) (ds:=[.none]) (n:=dn0) l23 c23 k23 lT23 (by first|exact dT23|rfl);have b23:Binds K _ ["self","reaches","locks","nights"] []:=F23.binds [] 4 rfl fun _ _ _ _ _ _ _=>nE fun _ _ _ _=>⟨_,rfl,rfl⟩
 have b23_1:Binds K _ ["self","reaches","locks","nights"] [.none]:=F23.binds [.none] 3 rfl fun _ _ _ _ _ _ _=>gP fun _ _ _=>⟨_,rfl,rfl⟩
 obtain ⟨_,_,a24,i24,F24⟩:=p24;obtain ⟨_,_,a25,i25,F25⟩:=p25;obtain ⟨_,_,a26,i26,F26⟩:=p26;obtain ⟨_,_,a27,i27,F27⟩:=p27;obtain ⟨_,_,a28,i28,F28⟩:=p28;obtain ⟨_,_,a29,i29,F29⟩:=p29;obtain ⟨_,_,a30,i30,F30⟩:=p30;obtain ⟨_,_,a31,i31,F31⟩:=p31;obtain ⟨_,_,a32,F32⟩:=p32;obtain ⟨_,_,a33,F33⟩:=p33;obtain ⟨_,_,a34,F34⟩:=p34;obtain ⟨_,_,a35,F35⟩:=p35;obtain ⟨_,_,a36,F36⟩:=p36;obtain ⟨_,_,a37,F37⟩:=p37;obtain ⟨_,_,a38,F38⟩:=p38;obtain ⟨_,_,a39,F39⟩:=p39;obtain ⟨_,_,a40,F40⟩:=p40;obtain ⟨_,_,a41,F41⟩:=p41;obtain ⟨_,_,a42,F42⟩:=p42;obtain ⟨_,_,a43,F43⟩:=p43;obtain ⟨_,_,a44,F44⟩:=p44;obtain ⟨_,_,a45,F45⟩:=p45;obtain ⟨_,_,a46,F46⟩:=p46;obtain ⟨_,_,a47,F47⟩:=p47;obtain ⟨_,_,a48,F48⟩:=p48;obtain ⟨_,_,a49,F49⟩:=p49;obtain ⟨_,_,a50,F50⟩:=p50;obtain ⟨_,_,a51,F51⟩:=p51;obtain ⟨_,_,a52,F52⟩:=p52;obtain ⟨_,_,a53,F53⟩:=p53;obtain ⟨_,_,a54,F54⟩:=p54;obtain ⟨_,_,a55,F55⟩:=p55;obtain ⟨_,_,a56,F56⟩:=p56;obtain ⟨_,_,a57,F57⟩:=p57;obtain ⟨_,_,a58,F58⟩:=p58;obtain ⟨_,_,a59,F59⟩:=p59;have F62:=cV (st:=kZ) l62 c62 k62;have b62:=F62.binds (ps:=["canal","ways"]) fun _ _ _ _ _ _=>eJ fun _ _=>rfl
 have F63:=cV (st:=kQ) l63 c63 k63;have b63:=F63.binds (ps:=["canal","ways"]) fun _ _ _ _ _ _=>eJ fun _ _=>rfl
 obtain ⟨_,_,a64,F64⟩:=p64;obtain ⟨_,_,a65,F65⟩:=p65;obtain ⟨_,_,a66,F66⟩:=p66;obtain ⟨_,_,a67,F67⟩:=p67;obtain ⟨_,_,a68,F68⟩:=p68;obtain ⟨_,_,a69,F69⟩:=p69;obtain ⟨_,_,a70,F70⟩:=p70;obtain ⟨_,_,a71,F71⟩:=p71;obtain ⟨_,_,a72,F72⟩:=p72;obtain ⟨_,_,a73,F73⟩:=p73;obtain ⟨_,_,a76,F76⟩:=p76;obtain ⟨_,_,a77,F77⟩:=p77;obtain ⟨_,_,a78,F78⟩:=p78;obtain ⟨_,_,a79,F79⟩:=p79;obtain ⟨_,_,a80,F80⟩:=p80;obtain ⟨_,_,a81,F81⟩:=p81;have F82:=cV (st:=JK) l82 c82 k82;have b82:=F82.binds (ps:=["_law_script"]) fun _ _ _ _ _ _=>nF fun _=>rfl
 refine ⟨W.fnOf "law" "law" (kN JK) (kD JK) (jM JK) .none kV82 dc82 pm82 an82 cd82 ct82,fun s v=>.of_eq rfl,fun base _ _ hTs=>?_⟩;have T:Txt l.prog w base K mg cP cB cU cR cN tkS eW eL eTW tkH:={xn:=bh X G xn,xr:=bh X G xr,wb:=bh X G wb,xi:=bh X G xi,xf:=bh X G xf,vo:=bh X G vo,wc:=bh X G wc,xj:=bh X G xj,ur:=bh X G ur,xu:=bh X G xu,uu:=bh X G uu,xh:=bh X G xh,uv:=bh X G uv,ve:=bh X G ve,cl:=fun kd=>match kd with|.plain=>⟨xaV,xaz,xaW,xaX⟩|.basin=>⟨xa0,xaA,xa1,xa2⟩|.pump=>⟨xa5,xaB,xa6,xa7⟩,xau:=fun kd=>match kd with|.plain=>wm|.basin=>wu|.pump=>wz,zt:=fun kd=>match kd with|.plain=>wp|.basin=>ww|.pump=>ua,vp:=fun kd=>match kd with|.plain=>ji|.basin=>jj|.pump=>jk,zu:=fun kd=>match kd with|.plain=>wr|.basin=>wx|.pump=>uc,ux:=wy,wd:=ud,zv:=ba X G xaQ,vq:=ba X G xaR,we:=ba X G xaS,clR:=⟨xba,xaC,xbb,xbc⟩,zx:=zx,xx:=xx,xy:=xy,xv:=xv,xz:=xz,xt:=xt,xam:=ba X G xaT,clN:=⟨xbf,xaD,xbg,xbh⟩,xg:=xg,xb:=xb,xl:=xl,xan:=ba X G xaU,xaN:=ba X G gSEA,jo:=ba X G vm,vt:=ba X G zp,vf:=ba X G vb,jp:=vn,vv:=zq,vg:=vc,uy:=ba X G gHOME};have D0:=yY X G a0 F0 (KO T F0);have D1:=yM X G a1 F1 (KK T F1);have D2:=wL X G a2 F2 (IW T F2);have D3:=yY X G a3 F3 (KW T F3 D2 D1);have D4:=yY X G a4 F4 (KU T F4 D3 D2);have D5:=yY X G a5 F5 (KS T F5 D0 D4);have D6:=yM X G a6 F6 (K3 T F6 D4 D0);have D7:=wL X G a7 F7 (KL T F7);have G8:=HK T F8;have jm:MkD l.prog w K mg base 1 "PlainLock" cP ["self","name","high","low","room"] (dI (jF cP cB cU)):=⟨T.zv,_,_,⟨xaY,a8,i8,xaZ⟩,G8,b8⟩;have CM8:CmD l.prog w K mg base 1 "PlainLock" cP "__init__" ["self","name","high","low","room"] (dI (jF cP cB cU)):=⟨T.zv,_,_,⟨g1,g2,ac8,k8⟩,G8,b8⟩;have G9:=GT T F9 CM8;have jn:MkD l.prog w K mg base 2 "BasinLock" cB ["self","name","high","low","room","side"] (dH (jF cP cB cU) .basin):=⟨T.vq,_,_,⟨xa3,a9,i9,xa4⟩,G9,b9⟩;have G10:=HR T F10 CM8;have xab:MkD l.prog w K mg base 2 "PumpLock" cU ["self","name","high","low","room","lift"] (dH (jF cP cB cU) .pump):=⟨T.we,_,_,⟨xa8,a10,i10,xa9⟩,G10,b10⟩;have G11:=HW T F11;have xaE:MkD l.prog w K mg base 1 "Reach" cR ["self","name","least","crest","berths","water","target"] (rA cR):=⟨T.xam,_,_,⟨xbd,a11,i11,xbe⟩,G11,b11⟩;have G12:=HN T F12;have xar:=QE (T.cl .plain) a12 i12 F12 G12;have G13:=GX T F13;have xas:=QE (T.cl .basin) a13 i13 F13 G13;have G14:=HV T F14;have xat:=QE (T.cl .pump) a14 i14 F14 G14;have jf:MeK l.prog w K mg base 1 (jF cP cB cU) "kind" ["self"] (QM (jF cP cB cU) (fun kd _=>V.str (match kd with|.plain=>"plain"|.basin=>"basin"|.pump=>"pump"))):=⟨fun kd=>by cases kd;exact xar;exact xas;exact xat⟩;have G15:=HL T F15;have xaj:=QE (T.cl .plain) a15 i15 F15 G15;have G16:=GU T F16;have xak:=QE (T.cl .basin) a16 i16 F16 G16;have G17:=HS T F17;have xal:=QE (T.cl .pump) a17 i17 F17 G17;have wk:MeK l.prog w K mg base 1 (jF cP cB cU) "extra" ["self"] (QM (jF cP cB cU) (fun kd v=>V.int (match kd with|.plain=>0|.basin=>v|.pump=>v))):=⟨fun kd=>by cases kd;exact xaj;exact xak;exact xal⟩;have G18:=HM T F18 D7;have vx:=eM (T.cl .plain) a18 i18 F18 G18;have G19:=GW T F19 D7;have vy:=eM (T.cl .basin) a19 i19 F19 G19
 have G20:=HU T F20 D7;have vz:=eM (T.cl .pump) a20 i20 F20 G20;have zc:MeK l.prog w K mg base 2 (jF cP cB cU) "fill_parts" ["self","basin"] (JL (jF cP cB cU) Z0):=⟨fun kd=>by cases kd;exact vx;exact vy;exact vz⟩;have G21:=HQ T F21 D7;have ue:MeD l.prog w K mg base 2 cP "let_parts" ["self","basin"] (JL (jF cP cB cU) Q1 .plain):=⟨T.cl .plain,_,_,⟨a21,i21,k21⟩,(G21.imp (sp':=JL (jF cP cB cU) Q1 .plain) (fun vs H Q E ⟨x,n,h,l,room,v,b,e,a,q⟩=>⟨.plain,x,n,h,l,room,v,b,e,a,q⟩)),b21⟩;have uf:MeD l.prog w K mg base 2 cU "let_parts" ["self","basin"] (JL (jF cP cB cU) Q1 .pump):=⟨T.cl .pump,_,_,⟨a21_U,i21,k21⟩,(G21.imp (sp':=JL (jF cP cB cU) Q1 .pump) (fun vs H Q E ⟨x,n,h,l,room,v,b,e,a,q⟩=>⟨.pump,x,n,h,l,room,v,b,e,a,q⟩)),b21⟩;have G22:=GY T F22 D7;have ug:=eM (T.cl .basin) a22 i22 F22 G22;have zk:MeK l.prog w K mg base 2 (jF cP cB cU) "let_parts" ["self","basin"] (JL (jF cP cB cU) Q1):=⟨fun kd=>by cases kd;exact ue;exact ug;exact uf⟩;have G23:=G1 T F23;have xaF:MkD l.prog w K mg base 1 "Canal" cN ["self","reaches","locks","nights"] (rB (jF cP cB cU) cR cN):=⟨T.xan,_,_,⟨xbi,a23,i23,xbj⟩,G23,b23⟩;have G24:=G6 T F24;have xaG:=QE T.clN a24 i24 F24 G24;have G25:=G7 T F25 xaG;have xaH:=QE T.clN a25 i25 F25 G25;have G26:=G5 T F26 xaH;have xaM:=QE T.clN a26 i26 F26 G26;have G27:=G3 T F27;have uh:=eM T.clN a27 i27 F27 G27;have G28:=G2 T F28;have ui:=eM T.clN a28 i28 F28 G28;have G29:=HG T F29 xaG;have uj:=QE T.clN a29 i29 F29 G29;have G30:=HF T F30 xaM D5 uj;have xaI:=QE T.clN a30 i30 F30 G30;have G31:=G4 T F31 uh;have xao:=WZ T.clN a31 i31 F31 G31;have D32:=yY X G a32 F32 (IQ T F32 zc);have D33:=yY X G a33 F33 (KA T F33 zk);have D34:=yY X G a34 F34 (IR T F34);have D35:=yY X G a35 F35 (IM T F35 D34);have D36:=QG X G a36 F36 (KN T F36 D33 D32 D35);have D37:=yY X G a37 F37 (KY T F37);have GX38:=(KB T F38 D37);have DX38:=W2 X G a38 F38 GX38;have D38:=yM X G a38 F38 (GX38.noX (sp':=rQ K (jF cP cB cU) cR cN) NW);have D39:=yY X G a39 F39 (K0 T F39);have D40:=yM X G a40 F40 (KQ T F40 D39 D38);have D41:=QG X G a41 F41 (KD T F41 D40);have D42:=yM X G a42 F42 (KI T F42 xaH D6 uj);have D43:=QG X G a43 F43 (IS T F43 D41);have D44:=yY X G a44 F44 (KH T F44);have D45:=yY X G a45 F45 (KJ T F45);have D46:=yM X G a46 F46 (IO T F46 D45);have D47:=yM X G a47 F47 (IN T F47 ui uh);have D48:=QG X G a48 F48 (KM T F48 D44 ui D47 D36 xao);have D49:=yM X G a49 F49 (IZ T F49 D47 D33 ui);have D50:=yM X G a50 F50 (IT T F50);have D51:=yM X G a51 F51 (IP T F51 D0 D50);have D52:=QG X G a52 F52 (K1 T F52 D40 D43 D51 D48);have D53:=QG X G a53 F53 (K2 T F53 D52 xao);have GX54:=(KP T F54 D53 D42 D48 D49 D6 uj);have DX54:=nL X G a54 F54 GX54;have D54:=QG X G a54 F54 (GX54.noX (sp':=B3 (jF cP cB cU) cR cN) OO);have GX55:=(IJ T F55 D46 D0 DX54);have DX55:=nL X G a55 F55 GX55;have D55:=QG X G a55 F55 (GX55.noX (sp':=lA (jF cP cB cU) cR cN) PL);have D56:=yM X G a56 F56 (KF T F56 D53);have D57:=yY X G a57 F57 (KZ T F57 D39);have D58:=yY X G a58 F58 (IL T F58 D57);have D59:=yM X G a59 F59 (IU T F59 D56 D58)
 have V60:=HI T D59;have V61:=HH T D56 D55;have hcL62:=W.law_code X G ht62 (ba X G a62) (X _ _ l62) rfl;have D62:=bY (IV (P:=l.prog) (w:=w) (base:=base) (mg:=mg) F62 hcL62 (hTs (ctH,tH) (by simp)).1 (hTs (ctH,tH) (by simp)).2.1 (hTs (ctH,tH) (by simp)).2.2) (ba X G a62) k62 b62;have hcL63:=W.law_code X G ht63 (ba X G a63) (X _ _ l63) rfl;have D63:=bY (IK (P:=l.prog) (w:=w) (base:=base) (mg:=mg) F63 hcL63 (hTs (ctA,tA) (by simp)).1 (hTs (ctA,tA) (by simp)).2.1 (hTs (ctA,tA) (by simp)).2.2) (ba X G a63) k63 b63;have D64:=yY X G a64 F64 (KR T F64);have D65:=yM X G a65 F65 (KG T F65 V61);have GX66:=(IY T F66 V60 D64 D65);have DX66:=nL X G a66 F66 GX66;have D67:=yM X G a67 F67 (IA T F67);have D68:=yM X G a68 F68 (IE T F68 D67 xaE);have D69:=QG X G a69 F69 (ID T F69 D67 jn xab jm);have D70:=wL X G a70 F70 (HY T F70 D67 D68 D69 xaF);have D71:=yM X G a71 F71 (II T F71 D67);have D72:=yM X G a72 F72 (IG T F72 xaI D67 jf wk);have D73:=yY X G a73 F73 (IB T F73);have V74:=GZ T D56 D55;have V75:=G0 T D56 D73;have D76:=yM X G a76 F76 (HZ T F76 V74);have D77:=yY X G a77 F77 (IC T F77);have GX78:=(KC T F78 DX66 D63 D62);have DX78:=nL X G a78 F78 GX78;have D79:=QG X G a79 F79 (IH T F79 DX78);have D80:=QG X G a80 F80 (HX T F80 V75 V74);have D81:=W3 X G a81 F81 (IF T F81 D77 V75 D76);have hcL82:=W.law_code X G ht82 hfa (X _ _ l82) rfl;have G82:=IX T F82 hcL82 (hTs (ctL,tL) (by simp)).1 (hTs (ctL,tL) (by simp)).2.1 (hTs (ctL,tL) (by simp)).2.2 D70 D67 D71 D72 D80 D79 D81 D59 V75;exact G82
theorem tabIn_mk {x:Str} {P:Addr} {oc oc2:Value} {od od2:Option Addr} {fd:FuncData} {sl sl2:Array (Option Value)} {vs:Array Value} (h1:W.nsIn K mainGlobals x=some (some (.ref f))) (h2:K.lookup f=some ⟨oc,od,.func fd,sl⟩) (h3:fd.code=.ref c) (h4:K.lookup c=some ⟨oc2,od2,.fields vs,sl2⟩) (h5:(vs[11]?:Option Value)=some (.ref P)):W.tabIn K x=some (c,P):=by
 unfold W.tabIn;simp only [h1,h2,h3,h4,h5]
theorem walk {l:W.OpenLaw} {q:Program} {loose:List Str} {XP:(Str→Option Value)→Heap→Prop} {YP:World→Heap→Prop} {d:DefRec} {K:Params→W.Frag} {ctA ctH ctL tL:Addr} (hn:l.most=some 63) (hdf:d.params.defaults=[])
  (hrtA:((PyProof.Rows.recsOf q).find? (fun e=>e.name == ("ahead_on":Str))).isSome=true) (hrtH:((PyProof.Rows.recsOf q).find? (fun e=>e.name == ("knot":Str))).isSome=true) (hrtL:((PyProof.Rows.recsOf q).find? (fun e=>e.name == ("law":Str))).isSome=true) (httA:∀P:Params,W.tabIn (K P) "ahead_on"=some (ctA,tA)) (httH:∀P:Params,W.tabIn (K P) "knot"=some (ctH,tH)) (httL:∀P:Params,W.tabIn (K P) "law"=some (ctL,tL)) (hno:∀P:Params,W.noTabs (K P)=true) (hne:tA≠tH) (hne1:tL≠tA) (hne2:tL≠tH)
  (hY:∀(w:World) (h:Heap),YP w h→(K w.params).In h)
  (F:∀(w:World) (mg:Str→Option Value) (fa:Addr) (h:Heap),(K w.params).In h→h.Ns mainGlobals mg→mg d.name=some (.ref fa)→
   ∃fd:FuncData,(∀(s:Shared) (u:Value),BindsTo s fd ⟨[u],[]⟩ [("_law_script",u)])∧∀base:Heap,(K w.params).In base→base.Ns mainGlobals mg→(∀p∈([(ctA,tA),(ctH,tH),(ctL,tL)]:List (Addr×Addr)),W.CodeHd base p.1 p.2∧base.BuiltinsAt mg p.2∧PySem.mainGlobals≠p.2)→FnOk l.prog w (K w.params) mg base jK 21 fa fd ["_law_script"] (lQ tA tH tL (K w.params))) :
  W.WalkO q loose XP YP l.row.toRowW d [] (fun f vs=>PySem.call f vs) :=
 L2.walk_ofTs [("ahead_on",ctA,tA),("knot",ctH,tH),("law",ctL,tL)] (n:=63) (k:=21) (x:="_law_script") (CX:=fun _=>jK) (sp:=fun w=>lQ tA tH tL (K w.params)) hn (by decide) hdf ⟨rfl,by decide,by decide⟩ (fun e he=>by
  simp only [ax,aM,dh] at he
  rcases he with rfl|rfl|rfl
  ·exact hrtA
  ·exact hrtH
  ·exact hrtL) (fun P e he=>by
  simp only [ax,aM,dh] at he
  rcases he with rfl|rfl|rfl
  ·exact httA P
  ·exact httH P
  ·exact httL P) hno hY F (fun _ _ a ns hl hO hS=>⟨a,ns,rfl,hS,hl,hne,hne1,hne2,hO.1 tA (by simp),hO.1 tH (by simp),hO.1 tL (by simp),fun _=>rfl⟩) fun _ _ _ _ _ z=>z
end My
/- These names are taken here so that the head below leaves out its twins of whole states (they are not needed,and make the compiled file larger than a hand-in may be). -/
namespace PySem.W.Fast
def tw14110720679893300678:Nat:=0
def tw11385694420692931704:Nat:=0
def tw8358705613096317184:Nat:=0
def tw16421085771897635650:Nat:=0
def tw2588583439412375416:Nat:=0
def tw419147389393885396:Nat:=0
def tw6338578769541572108:Nat:=0
def tw10976400972247456816:Nat:=0
def tw65738978446229475:Nat:=0
def tw5842005015323237735:Nat:=0
def tw1267825091083259396:Nat:=0
def tw375774562328688394:Nat:=0
def tw9601757960727971838:Nat:=0
def tw16225803732592427500:Nat:=0
def tw6135392429210355128:Nat:=0
def tw3915830250634147058:Nat:=0
def tw1565367980864548236:Nat:=0
def tw4807465940192720575:Nat:=0
def tw13828543155859112555:Nat:=0
def tw10095302303864100802:Nat:=0
def tw6535172792063724368:Nat:=0
def tw13283627511824445872:Nat:=0
def tw8857402954443937018:Nat:=0
def tw4935758827266916052:Nat:=0
def tw15671168968533679305:Nat:=0
def tw539078875467962397:Nat:=0
def tw5009037056636907621:Nat:=0
def tw13150099899164372067:Nat:=0
def tw12094604128737501397:Nat:=0
def tw16532748760736106980:Nat:=0
def tw1788517118107537168:Nat:=0
def tw9201412007530475164:Nat:=0
def tw4796902143235046458:Nat:=0
def tw12595929364020752912:Nat:=0
def tw12493429528167481250:Nat:=0
def tw3550601534335647947:Nat:=0
def tw10446636487373018590:Nat:=0
def tw13991772426527524437:Nat:=0
def tw9481613657238399887:Nat:=0
def tw13214371148887647861:Nat:=0
def tw9483538757020214217:Nat:=0
def tw2077288705521596076:Nat:=0
def tw16259453141761063402:Nat:=0
def tw12103677377817383862:Nat:=0
def tw9724604952521534215:Nat:=0
def tw14471981456892942221:Nat:=0
def tw3657314717875986269:Nat:=0
def tw5164254682226645310:Nat:=0
def tw2729104980511534168:Nat:=0
def tw14300660384871247258:Nat:=0
def tw10605794522448378128:Nat:=0
def tw2397771610021400240:Nat:=0
def tw818959984020663847:Nat:=0
def tw6684742031713516953:Nat:=0
def tw12013901128822303911:Nat:=0
def tw5875469591884086277:Nat:=0
def tw10967445103474989705:Nat:=0
def tw9624118606493523105:Nat:=0
def tw10985264558280271032:Nat:=0
def tw16388637487322484196:Nat:=0
def tw4766676982534726129:Nat:=0
def tw16462881769849851354:Nat:=0
def tw3174166431295677143:Nat:=0
def tw2573904730263250355:Nat:=0
def tw7681228566120918989:Nat:=0
def tw15033025310185179171:Nat:=0
def tw5470714039996556567:Nat:=0
def tw8266612196293130506:Nat:=0
def tw18403956850268597895:Nat:=0
def tw2638154495419634078:Nat:=0
def tw16127201065688561750:Nat:=0
def tw8157939427422235800:Nat:=0
def tw14217274922048137974:Nat:=0
def tw8683059719964599383:Nat:=0
def tw18158882362111132007:Nat:=0
def tw8678199940321036064:Nat:=0
def tw6630888765739471550:Nat:=0
def tw2203581214092892019:Nat:=0
def tw798694040576060025:Nat:=0
def tw14231223984475541455:Nat:=0
def tw9203424250127392890:Nat:=0
def tw9010399414983524559:Nat:=0
def tw10143635138602461469:Nat:=0
def tw9927213039559881618:Nat:=0
def tw5252093500208603262:Nat:=0
def tw7934928536880685703:Nat:=0
def tw7536587043759628119:Nat:=0
def tw4421044726176827922:Nat:=0
def tw10759349445046515642:Nat:=0
def tw12157803748516259401:Nat:=0
def tw11833982131041205338:Nat:=0
def tw11385638289527422353:Nat:=0
def tw904330803243051816:Nat:=0
def tw8143945806582831123:Nat:=0
def tw13827746642148159948:Nat:=0
def tw18383898763989259252:Nat:=0
def tw17583878815209719302:Nat:=0
def tw14146350736262636090:Nat:=0
def tw10437361522603011389:Nat:=0
def tw6306213804810090580:Nat:=0
def tw12115081252579004083:Nat:=0
def tw15726186549887316871:Nat:=0
def tw4257554407837682273:Nat:=0
def tw6002032582454727822:Nat:=0
def tw17714949145861178628:Nat:=0
def tw10623962540249661755:Nat:=0
def tw17083842522206420567:Nat:=0
def tw5894654548147321621:Nat:=0
def tw4236104427616087880:Nat:=0
def tw9614418364482393195:Nat:=0
def tw6660194685442690529:Nat:=0
def tw8042013502654292547:Nat:=0
def tw10877481401339491757:Nat:=0
def tw5406685033212529852:Nat:=0
def tw5905593275470002201:Nat:=0
def tw626392125804220111:Nat:=0
def tw4430234525721171946:Nat:=0
def tw13875422128437101951:Nat:=0
def tw3229242504793099202:Nat:=0
def tw5107001712875239774:Nat:=0
def tw12901736835465092912:Nat:=0
def tw14748070187128361349:Nat:=0
def tw3253602662293459699:Nat:=0
def tw5382564552281432723:Nat:=0
def tw3426508156138161509:Nat:=0
def tw15793358263029203382:Nat:=0
def tw11507434709719407284:Nat:=0
def tw11323425206227324480:Nat:=0
def tw15964180555010367983:Nat:=0
def tw893408395894933746:Nat:=0
def tw15231443323572163961:Nat:=0
def tw2805815828041227469:Nat:=0
def tw5883323770653563124:Nat:=0
def tw2367395800152907320:Nat:=0
def tw8807789988942102073:Nat:=0
def tw14928745728030205447:Nat:=0
def tw5098272605210366019:Nat:=0
def tw10934399267350510443:Nat:=0
def tw41461246519382455:Nat:=0
def tw9623303883396797382:Nat:=0
def tw569911812960210644:Nat:=0
def tw12655566200162009243:Nat:=0
def tw14574042075695990506:Nat:=0
def tw3867112322771762000:Nat:=0
def tw14450635567534034374:Nat:=0
def tw1493532714047945192:Nat:=0
def tw3879650658651099363:Nat:=0
def tw9217599116890737239:Nat:=0
def tw12813258750166006071:Nat:=0
def tw3024799274986572183:Nat:=0
def tw7121545151393712131:Nat:=0
def tw1453718545862744457:Nat:=0
def tw1996700893756624331:Nat:=0
def tw13694962407720759216:Nat:=0
def tw9700556551720219991:Nat:=0
def tw2196842218625681886:Nat:=0
def tw4763294495312829757:Nat:=0
def tw7647889332366084198:Nat:=0
def tw14121173161225268111:Nat:=0
def tw4469439772640182748:Nat:=0
def tw13289542793429359163:Nat:=0
def tw7536451898690619466:Nat:=0
def tw15628990850160950960:Nat:=0
def tw16095131265712366338:Nat:=0
def tw6602075556475227568:Nat:=0
def tw15176670715876150279:Nat:=0
def tw12015807634614754494:Nat:=0
def tw17259393780121868640:Nat:=0
def tw8519637837338867924:Nat:=0
def tw16229521647419234030:Nat:=0
def tw16241552076428484833:Nat:=0
def tw5006503098641547199:Nat:=0
def tw12165160678149039147:Nat:=0
def tw10763787043123516137:Nat:=0
def tw8603114110176054588:Nat:=0
def tw16247832125276606877:Nat:=0
def tw5046471672900292375:Nat:=0
def tw2945074149277769161:Nat:=0
def tw6736712335249005504:Nat:=0
def tw16072858059101676824:Nat:=0
def tw863497129151758226:Nat:=0
def tw17818126867263389978:Nat:=0
end PySem.W.Fast
open PySem PySem.W PyProof.Rows
set_option maxRecDepth 100000 in
set_option maxHeartbeats 0 in
theorem PySem.Challenge.cw_lockhouse_k57_knots_holds : PySem.Challenge.rw_lockhouse_k57_knots.Holds := by
 w_on;o_law;k_head;(case hw=>w_witness2)
 k_fill
 refine' My.walk (l:=PySem.Challenge.rw_lockhouse_k57_knots) rfl rfl ?rectA ?rectH ?rectL ?tabtA ?tabtH ?tabtL ?no ?ne ?ne1 ?ne2 (fun w h Y=>PySem.W.km_in_of Y) ?F
 case tabtA|tabtH|tabtL =>
  intro P
  refine' My.tabIn_mk ?t1 ?t2 ?t3 ?t4 ?t5
  (case t1=>k_is)
  (case t2=>k_is)
  (case t3=>rfl)
  (case t4=>k_is)
  (case t5=>rfl)
 case rectA|rectH|rectL=>kernel_rfl
 case no=>intro P;kernel_rfl
 case ne=>decide
 case ne1=>decide
 case ne2=>decide
 case F =>
  intro w mg fa h KX G hmg
  refine' My.all_mk KX G hmg ?xaQ ?xaR ?xaS ?xaT ?xaU ?vm ?zp ?vb ?p0 ?p1 ?p2 ?p3 ?p4 ?p5 ?p6 ?p7 ?a8 ?i8 ?ac8 ?p8 ?a9 ?i9 ?p9 ?a10 ?i10 ?p10 ?a11 ?i11 ?p11 ?p12 ?p13 ?p14 ?p15 ?p16 ?p17 ?p18 ?p19 ?p20 ?a21 ?a21_U ?i21 ?p21 ?p22 ?a23 ?i23 ?l23 ?c23 ?k23 ?lT23 ?dT23 ?p24 ?p25 ?p26 ?p27 ?p28 ?p29 ?p30 ?p31 ?p32 ?p33 ?p34 ?p35 ?p36 ?p37 ?p38 ?p39 ?p40 ?p41 ?p42 ?p43 ?p44 ?p45 ?p46 ?p47 ?p48 ?p49 ?p50 ?p51 ?p52 ?p53 ?p54 ?p55 ?p56 ?p57 ?p58 ?p59 ?a62 ?l62 ?c62 ?k62 ?a63 ?l63 ?c63 ?k63 ?p64 ?p65 ?p66 ?p67 ?p68 ?p69 ?p70 ?p71 ?p72 ?p73 ?p76 ?p77 ?p78 ?p79 ?p80 ?p81 ?a82 ?l82 ?c82 ?k82 ?xn ?xr ?wb ?xi ?xf ?vo ?wc ?xj ?ur ?xu ?uu ?xh ?uv ?ve ?xaV ?xaz ?xaW ?xaX ?xaY ?xaZ ?wm ?wp ?ji ?wr ?xa0 ?xaA ?xa1 ?xa2 ?xa3 ?xa4 ?wu ?ww ?jj ?wx ?wy ?xa5 ?xaB ?xa6 ?xa7 ?xa8 ?xa9 ?wz ?ua ?jk ?uc ?ud ?g1 ?g2 ?xba ?xaC ?xbb ?xbc ?xbd ?xbe ?zx ?xx ?xy ?xv ?xz ?xt ?xbf ?xaD ?xbg ?xbh ?xbi ?xbj ?xg ?xb ?xl ?gSEA ?vn ?zq ?vc ?gHOME ?ht63 ?ht62 ?ht82
  (case xaQ|xaR|xaS|xaT|xaU|vm|zp|vb|a62|a63|a82|xn|xr|wb|xi|xf|vo|wc|xj|ur|xu|uu|xh|uv|ve|gSEA|gHOME=>refine' L2.nsP_mk ?_;first|k_is|k_exc|kit_is|kts_exm|rfl)
  (case a8|a9|a10|a11|a21|a21_U|a23|xaX|wm|wp|ji|wr|xa2|wu|ww|jj|wx|wy|xa7|wz|ua|jk|uc|ud|xbc|zx|xx|xy|xv|xz|xt|xbh|xg|xb|xl=>refine' L2.fnP_mk ?_;first|k_is|k_exc|kit_is|kts_exm|rfl)
  (case i8|ac8|i9|i10|i11|i21|i23|l23|c23|k23|lT23|dT23|l62|c62|k62|l63|c63|k63|l82|c82|k82|xaV|xaz|xaW|xaY|xaZ|xa0|xaA|xa1|xa3|xa4|xa5|xaB|xa6|xa8|xa9|g1|g2|xba|xaC=>first|k_is|k_exc|kit_is|kts_exm|rfl)
  (case xbb|xbd|xbe|xbf|xaD|xbg|xbi|xbj|vn|zq|vc=>first|k_is|k_exc|kit_is|kts_exm|rfl)
  (case ht63=>kernel_rfl)
  (case ht62=>kernel_rfl)
  (case ht82=>kernel_rfl)
  (case p8|p9|p10|p11|p21=>refine' ⟨_,L2.cV ?l ?c ?k⟩;(case l=>k_is);(case c=>k_is);(case k=>k_is))
  (case p0|p1|p2|p3|p4|p5|p6|p7|p32|p33|p34|p35|p36|p37|p38|p39|p40|p41|p42|p43|p44|p45|p46|p47|p48|p49|p50|p51|p52|p53|p54|p55|p56|p57|p58|p59|p64|p65|p66|p67=>refine' L2.fnT_mk ?a ?l ?c ?k;(case a=>k_is);(case l=>k_is);(case c=>k_is);(case k=>k_is))
  (case p68|p69|p70|p71|p72|p73|p76|p77|p78|p79|p80|p81=>refine' L2.fnT_mk ?a ?l ?c ?k;(case a=>k_is);(case l=>k_is);(case c=>k_is);(case k=>k_is))
  (case p12|p13|p14|p15|p16|p17|p18|p19|p20|p22|p24|p25|p26|p27|p28|p29|p30|p31=>refine' L2.fnC_mk ?a ?i ?l ?c ?k;(case a=>k_is);(case i=>first|k_is|rfl);(case l=>k_is);(case c=>k_is);(case k=>k_is))
