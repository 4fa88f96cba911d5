import PyProof.Rows.All
import Wide.All
import OpenK.AllK
import Wide.FinOn
import Lean
import PyProof.EqAt
import PyProof.EqKinds
import PyProof.TupleCall
import PyProof.NeKinds
import OpenK.KOwn
import KE.KTryMore
import KE.RegKTryMore
import PyProof.NsDelKeeps
import KE.KIntText
import PySem.Challenge.RW_lockhouse_k63_entries_refused
set_option Elab.async false
set_option linter.all false
set_option maxRecDepth 100000
namespace L2
abbrev aa:=@List.getElem?_eq_getElem
abbrev ac:=@List.getD_eq_getElem?_getD
abbrev ad:=@List.getElem?_eq_some_iff
abbrev ae:=@List.length_map
abbrev af:=@List.length_append
abbrev ag:=@PySem.wpAny_bind
abbrev ai:=@List.size_toArray
abbrev aj:=@Nat.le_refl
abbrev ak:=@PySem.Heap.get?_push_of_some
abbrev ao:=@List.getElem?_map
abbrev aq:=@List.mem_cons
abbrev ar:=@PySem.Heap.lt_size
abbrev au:=@List.mem_of_getElem?
abbrev av:=@List.getElem?_append_left
abbrev aw:=@List.getElem?_append_right
abbrev ax:=@Nat.lt_of_lt_of_le
abbrev ay:=@Int.toNat_natCast
abbrev az:=@PySem.Heap.get?_push_size
abbrev aA:=@Option.some.inj
abbrev aB:=@Bool.false_ne_true
abbrev aC:=@PySem.F.plainAttrs_list
abbrev aE:=@List.mem_nil_iff
abbrev aF:=@List.length_singleton
abbrev aG:=@PySem.W.mg_of
abbrev aH:=@List.map_append
abbrev aI:=@Nat.le_trans
abbrev aJ:=@decide_eq_false
abbrev aK:=@List.mem_cons_of_mem
abbrev aL:=@List.take_add_one
abbrev aM:=@PySem.F.slot_list_append
abbrev aN:=@PySem.F.type_list_append
abbrev aO:=@Nat.zero_le
abbrev aP:=@Nat.ne_of_lt
abbrev aQ:=@PySem.wpAny_pure
abbrev aR:=@List.mem_singleton
abbrev aS:=@PyProof.Rows.boot_list
abbrev aT:=@decide_eq_true
abbrev aV:=@List.mem_append
abbrev aW:=@Option.map_eq_some_iff
abbrev aX:=@List.mem_append_right
abbrev aY:=@List.length_range
abbrev aZ:=@List.take_length
abbrev ba:=@Int.emod_lt_of_pos
abbrev bb:=@PySem.W.mg_none_of
abbrev bc:=@List.length_set
abbrev bd:=@List.mem_cons_self
abbrev bf:=@List.length_replicate
abbrev bg:=@List.length_filter_le
abbrev bh:=@List.replicate_succ
abbrev bi:=@List.take_of_length_le
abbrev bj:=@List.length_take
abbrev bo:=@List.append_nil
abbrev bp:=@Int.emod_nonneg
abbrev bq:=@List.eq_of_mem_replicate
abbrev bu:=@congrArg
abbrev bv:=@of_decide_eq_true
abbrev bw:=@PyProof.Rows.boot_isinstance
abbrev bx:=@or_false
abbrev bz:=@List.length_cons
abbrev cb:=@Nat.lt_irrefl
abbrev cc:=@PySem.wpAny_mono
abbrev cf:=@PyProof.Rows.boot_tuple
abbrev cg:=@PySem.wpAny_field
abbrev ci:=@List.getElem?_set_self
abbrev ck:=@List.lookup_cons
abbrev cm:=@List.all_eq_true
abbrev cp:=@beq_eq_false_iff_ne
abbrev cq:=@List.getElem?_range
abbrev cu:=@PyProof.Rows.callWith_type1
abbrev cv:=@PySem.W.callWith_K
abbrev cw:=@List.mem_filter
abbrev cx:=@List.getElem?_eq_none
abbrev cy:=@List.mem_iff_getElem?
abbrev da:=@Bool.and_eq_true
abbrev dc:=@List.getElem?_set_ne
abbrev dg:=@PySem.wpAny_callSpecial?_slot
abbrev dh:=@PySem.Heap.size_push
abbrev di:=@Bool.eq_false_iff
abbrev dk:=@PySem.F.slot_tuple_iterator_next
abbrev dm:=@Array.getElem?_eq_some_iff
abbrev dq:=@List.getElem_mem
abbrev dw:=@List.mem_filterMap
abbrev dz:=@PySem.wpAny_Call_Name_kw
abbrev eh:=@PySem.W.methodCall_KW
abbrev ei:=@PySem.wpAny_setField_rec
abbrev em:=@List.mem_range
abbrev eo:=@PySem.wpAny_seqItems
abbrev fb:=@List.flatten_cons
abbrev fe:=@decide_eq_true_eq
abbrev ff:=@PySem.PassesOwn.never
abbrev fg:=@Nat.ne_of_gt
abbrev fh:=@Int.zero_add
abbrev fi:=@List.map_cons
abbrev fj:=@PySem.mem_of_lookup
abbrev fk:=@List.cons.inj
abbrev fm:=@List.length_drop
abbrev fo:=@beq_self_eq_true
abbrev fq:=@List.filter_cons
abbrev ft:=@PySem.Heap.get?_update_other
abbrev fu:=@PySem.wpAny_pyIter_tuple
abbrev fz:=@PySem.SeqAt.EqAt.of_refs
abbrev gb:=@List.nodup_cons
abbrev gc:=@List.find?_cons
abbrev gd:=@List.mem_map
abbrev ge:=@PySem.wpAny_truthy_bool
abbrev gg:=@PySem.wpAny_pyIter_list
abbrev gh:=@PySem.call_meets
abbrev gj:=@List.mem_append_left
abbrev gk:=@PySem.W.looks_findIn
abbrev gl:=@PySem.wpAny_call_entry
abbrev gm:=@List.filterMap_cons
abbrev gq:=@Array.length_toList
abbrev gr:=@List.length_take_le
abbrev gt:=@beq_iff_eq
abbrev gu:=@PySem.AutoSeq1.wpAny_loadPart'
abbrev gv:=@PySem.wpAny_comprehension_free
abbrev gx:=@Nat.succ.inj
abbrev gy:=@PySem.wpAny_passesOwn
abbrev gz:=@Bool.eq_iff_iff
abbrev hJ:=@List.getElem?_replicate
abbrev hU:=@List.range_succ
abbrev hV:=@PySem.Obj.data_mapFields
abbrev hX:=@List.filter_append
abbrev hZ:=@PySem.W.cellsFrom_some
abbrev ia:=@PySem.wpAny_pyIter_enum
abbrev ib:=@PySem.wpAny_newObj_type
abbrev ic:=@Nat.le_of_lt
abbrev ie:=@PySem.codeAny_mono
abbrev ig:=@PySem.Heap.get?_update_self
abbrev ii:=@Nat.lt_succ_self
abbrev ij:=@PySem.wpAny_updateSeq_pair
abbrev ik:=@List.mem_of_mem_take
abbrev il:=@List.any_cons
abbrev im:=@PySem.wpAny_onRaise
abbrev io:=@PySem.wpAny_execs_nil
abbrev ip:=@List.of_mem_zip
abbrev iq:=@PySem.F.slot_int_rmul
abbrev ir:=@PySem.F.slot_zip_next
abbrev iu:=@Nat.not_lt_zero
abbrev iw:=@Nat.sub_self
open PySem PySem.Spec PyProof.Rows
abbrev kQ:=Sum Int Str
def dS:kQ→Value→Bool
 |.inl k,v=>Value.isInt k v
 |.inr x,v=>Value.isStrOf x v
def WI (w:World):kQ→Int
 |.inl k=>hashInt k
 |.inr x=>hashStr w x
theorem QT:∀{k:kQ} {v:Value},dS k v=true→(∃i t,k=Sum.inl i∧v=Value.int i t)∨(∃x t,k=Sum.inr x∧v=Value.str x t)
 |.inl i,v,h=>by
  obtain ⟨t,e⟩:=Value.isInt_shape (k:=i) (v:=v) h;exact .inl ⟨i,t,rfl,e⟩
 |.inr x,v,h=>by
  obtain ⟨t,e⟩:=Value.isStrOf_shape (x:=x) (v:=v) h;exact .inr ⟨x,t,rfl,e⟩
theorem PH (i:Int) (t:Tok):dS (.inl i) (.int i t)=true:=by simp [dS,Value.isInt]
theorem PF (x:Str) (t:Tok):dS (.inr x) (.str x t)=true:=by simp [dS,Value.isStrOf]
theorem UX (a b:Int):decide ((Sum.inl a:kQ)=Sum.inl b)=(a == b):=by
 by_cases e:a=b
 ·subst e;simp
 ·have h:¬(Sum.inl a:kQ)=Sum.inl b:=fun q=>e (Sum.inl.inj q)
  rw [aJ h];exact (cp.mpr e).symm
theorem UU (a b:Str):decide ((Sum.inr a:kQ)=Sum.inr b)=decide (a=b):=by
 by_cases e:a=b
 ·subst e;simp
 ·have h:¬(Sum.inr a:kQ)=Sum.inr b:=fun q=>e (Sum.inr.inj q)
  rw [aJ h,aJ e]
theorem UW (a:Int) (b:Str):decide ((Sum.inl a:kQ)=Sum.inr b)=false:=aJ (fun q=>nomatch q)
theorem UV (a:Str) (b:Int):decide ((Sum.inr a:kQ)=Sum.inl b)=false:=aJ (fun q=>nomatch q)
def zM (prog:Program) (w:World):PySem.KeyKind prog w kQ where
 is:=dS
 hash:=WI w
 inj:=fun v a b ha hb=>by
  rcases QT ha with ⟨i,t,rfl,rfl⟩|⟨x,t,rfl,rfl⟩
  ·rcases QT hb with ⟨j,u,rfl,e⟩|⟨y,u,rfl,e⟩
   ·injection e with e1 _;rw [e1]
   ·exact nomatch e
  ·rcases QT hb with ⟨j,u,rfl,e⟩|⟨y,u,rfl,e⟩
   ·exact nomatch e
   ·injection e with e1 _;rw [e1]
 byValue:=fun k v h=>by
  rcases QT h with ⟨i,t,rfl,rfl⟩|⟨x,t,rfl,rfl⟩<;>rfl
 pyHash:=fun hv h=>by
  rcases QT hv with ⟨i,t,rfl,rfl⟩|⟨x,t,rfl,rfl⟩
  ·exact wpAny_pyHash_int h
  ·exact wpAny_pyHash_str h
 eqBool:=fun hu hv h=>by
  rcases QT hu with ⟨i,t,rfl,rfl⟩|⟨x,t,rfl,rfl⟩
  ·rcases QT hv with ⟨j,u,rfl,rfl⟩|⟨y,u,rfl,rfl⟩
   ·rw [UX] at h;exact wpAny_eqBool_int h
   ·rw [UW] at h;exact SeqAt.EqAt.int_str i t y u _ _ _ _ h
  ·rcases QT hv with ⟨j,u,rfl,rfl⟩|⟨y,u,rfl,rfl⟩
   ·rw [UV] at h;exact SeqAt.EqAt.str_int x t j u _ _ _ _ h
   ·rw [UU] at h;exact wpAny_eqBool_str h
 «strs»:=fun k x t v h=>by
  rcases QT h with ⟨i,u,rfl,e⟩|⟨y,u,rfl,e⟩
  ·exact nomatch e
  ·injection e with e1 _
   subst e1;cases v<;>rfl
theorem NQ (prog:Program) (w:World) (i:Int) (t:Tok):(zM prog w).is (.inl i) (.int i t)=true:=PH i t
theorem NP (prog:Program) (w:World) (x:Str) (t:Tok):(zM prog w).is (.inr x) (.str x t)=true:=PF x t
inductive V where
 |non|bl (b:Bool)|int (i:Int)|str (x:Str)|byt (b:Array UInt8)|flt (b:UInt64)|ref (a:Addr)|ty (n:String)
 deriving DecidableEq
def RelV:V→Value→Prop
 |.non,u=>u=Value.none
 |.bl b,u=>u=Value.bool b
 |.int i,u=>∃t,u=Value.int i t
 |.str x,u=>∃t,u=Value.str x t
 |.byt b,u=>∃t,u=Value.bytes b t
 |.flt b,u=>∃t,u=Value.float b t
 |.ref a,u=>u=Value.ref a
 |.ty n,u=>u=Value.type n
abbrev Vals:List V→List Value→Prop:=Paired RelV
theorem Vals.length {xs:List V} {us:List Value} (r:Vals xs us):xs.length=us.length:=Paired.length r
theorem Vals.get:∀{xs:List V} {us:List Value} {i:Nat} {x:V},Vals xs us→xs[i]?=some x→∃u,us[i]?=some u∧RelV x u
 |_,_,_,_,.nil,e=>by simp at e
 |_,_,0,_,.cons r _,e=>by simp at e;subst e;exact ⟨_,rfl,r⟩
 |_,_,i+1,x,.cons _ t,e=>by
  obtain ⟨u,h1,h2⟩:=Vals.get (i:=i) (x:=x) t (by simpa using e);exact ⟨u,by simpa using h1,h2⟩
theorem Vals.set {x:V} {u:Value} (r:RelV x u):∀{xs:List V} {us:List Value} (i:Nat),Vals xs us→Vals (xs.set i x) (us.set i u)
 |_,_,_,.nil=>.nil
 |_,_,0,.cons _ t=>.cons r t
 |_,_,i+1,.cons q t=>.cons q (Vals.set r i t)
theorem Vals.append:∀{xs ys:List V} {us ws:List Value},Vals xs us→Vals ys ws→Vals (xs++ys) (us++ws)
 |_,_,_,_,.nil,s=>s
 |_,_,_,_,.cons r t,s=>.cons r (Vals.append t s)
theorem Vals.take:∀{xs:List V} {us:List Value} (n:Nat),Vals xs us→Vals (xs.take n) (us.take n)
 |_,_,0,_=>.nil
 |_,_,_+1,.nil=>.nil
 |_,_,n+1,.cons r t=>.cons r (Vals.take n t)
theorem Vals.drop:∀{xs:List V} {us:List Value} (n:Nat),Vals xs us→Vals (xs.drop n) (us.drop n)
 |_,_,0,r=>r
 |_,_,_+1,.nil=>.nil
 |_,_,n+1,.cons _ t=>Vals.drop n t
def RelO:Option V→Option Value→Prop
 |some v,some u=>RelV v u
 |none,none=>True
 |_,_=>False
def KV {κ:Type}:List (κ×V)→List (κ×Value)→Prop:=Paired fun (p:κ×V) (q:κ×Value)=>p.1=q.1∧RelV p.2 q.2
def kV:kQ→V
 |.inl i=>.int i
 |.inr x=>.str x
inductive HO where
 /-- a list -/
 |lst (xs:List V)
 /-- a tuple (never changes) -/
 |tup (xs:List V)
 /-- a dict whose keys are ints and texts;one whose keys are tuples of ints and texts (the empty one is both) -/
 |dK (kvs:List (kQ×V))|dT (kvs:List (List kQ×V))
 /-- a set of ints: its members,its size -/
 |set (S:Int→Bool) (n:Nat)
 /-- an instance of the class at C,its dict at dx,its attributes -/
 |ins (C dx:Addr) (fs:List (Str×V))
 /-- the dict of the instance at x -/
 |own (x:Addr)
 /-- the dict of an exception -/
 |xd (fs:List (Str×V))
 /-- a bound method,f of x -/
 |met (f x:Addr)
 /-- a range object lo,lo+1,.. below hi -/
 |rng (lo hi:Int)
 /-- a thing that is known to the object (the script;a dict while a loop walks it): read,never written while it is so -/
 |frz (o:Obj) (u:HO)
 /-- a code object's table -/
 |tbl (ps:Array Value)
 /-- any other thing,by what is true of its one object (a def of one's own: SetO a S n:=HO.ext fun h=>..) -/
 |ext (φ:Heap→Prop)
abbrev Hp:=Addr→Option HO
def upd (H:Hp) (a:Addr) (o:HO):Hp:=fun b=>if b=a then some o else H b
variable {H:Hp} {a:Addr} {o:HO}
theorem jE:upd H a o a=some o:=by unfold upd;rw [if_pos rfl]
variable {b:Addr}
theorem jX (h:b≠a):upd H a o b=H b:=by unfold upd;rw [if_neg h]
theorem qV {u:HO} (h:H a=some o) (h':H b=some u) (d:o≠u):a≠b:=by
 intro e;subst e;rw [h] at h';exact d (aA h')
theorem kT (h:H a=some o) (h':H b=none):a≠b:=by
 intro e;subst e;rw [h] at h';cases h'
section
variable (P:Program) (w:World)
def ObjOk (H:Hp) (h:Heap) (a:Addr):HO→Prop
 |.lst xs=>xs.length≤sizeLine∧∃(its:List Value) (n:Nat),Vals xs its∧h.get? a=some {cls:=.type "list",data:=.seq its.toArray n}
 |.tup xs=>xs.length≤sizeLine∧∃its:List Value,Vals xs its∧IsTup h a its.toArray
 |.dK kvs=>kvs.length≤sizeLine∧(a == sysModules)=false∧∃vs,KV kvs vs∧h.DictOf (zM P w) a vs
 |.dT kvs=>kvs.length≤sizeLine∧(a == sysModules)=false∧∃xs:List (List kQ×Addr×Value),
   Paired (fun (p:List kQ×V) (q:List kQ×Addr×Value)=>p.1=q.1∧H q.2.1=some (.tup (p.1.map kV))∧RelV p.2 q.2.2) kvs xs∧
   ∃o es ep,h.get? a=some o∧o.ExactDict∧o.data=.dict es ep∧es.toList=xs.map (entryOfKey (tupleKind (zM P w)))∧(xs.map (·.1)).Nodup
 |.set S n=>h.SetOf (intKind P w) a S n
 |.ins C dx fs=>H dx=some (.own a)∧fs.length≤1000∧dx≠a∧h.get? a=some (PySem.W.instObj C dx)∧
   ∃mA,h.Ns1 dx mA∧(∀f,RelO (fs.lookup f) (mA f))∧PySem.Within mA (fs.map (·.1))
 |.own _=>∃o,h.get? a=some o
 |.xd fs=>∃mA,h.Ns1 a mA∧∀f,RelO (fs.lookup f) (mA f)
 |.rng lo hi=>∃t u v,h.get? a=some {cls:=.type "range",data:=.fields #[.int lo t,.int hi u,.int 1 v]}
 |.frz o u=>h.get? a=some o∧ObjOk H h a u
 |.tbl ps=>h.get? a=some {cls:=.none,data:=.fields ps}
 |.met f x=>h.get? a=some (PySem.W.methodObj (.ref f) (.ref x))
 |.ext φ=>φ h∧(∃o,h.get? a=some o)∧∀h1 h2:Heap,φ h1→(∀o,h1.get? a=some o→h2.get? a=some o)→φ h2
def HOk (H:Hp) (h:Heap):Prop:=∀a o,H a=some o→ObjOk P w H h a o
end
section
variable {P:Program} {w:World} {H H':Hp} {h h':Heap} {a:Addr} {o:HO}
theorem ObjOk.lt (x:ObjOk P w H h a o):a<h.objs.size:=by
 cases o with
 |lst xs=>obtain ⟨_,_,_,_,e⟩:=x;exact ar e
 |tup xs=>obtain ⟨_,_,_,p⟩:=x;exact p.lt
 |dK kvs=>obtain ⟨_,_,_,_,o,_,_,e,_⟩:=x;exact ar e
 |dT kvs=>obtain ⟨_,_,_,_,o,_,_,e,_⟩:=x;exact ar e
 |set S n=>obtain ⟨o,_,_,_,e,_⟩:=x;exact ar e
 |ins C dx fs=>obtain ⟨_,_,_,e,_⟩:=x;exact ar e
 |own y=>obtain ⟨_,e⟩:=x;exact ar e
 |xd fs=>obtain ⟨_,⟨_,_,_,e,_⟩,_⟩:=x;exact ar e
 |rng lo hi=>obtain ⟨_,_,_,e⟩:=x;exact ar e
 |frz ob u=>obtain ⟨e,_⟩:=x;exact ar e
 |tbl ps=>exact ar (show h.get? a=some _ from x)
 |met f y=>exact ar (show h.get? a=some _ from x)
 |ext φ=>obtain ⟨_,⟨_,e⟩,_⟩:=x;exact ar e
theorem Paired.mapP {α β:Type} {F G:α→β→Prop}:∀{l₁:List α} {l₂:List β},Paired F l₁ l₂→(∀a b,F a b→G a b)→Paired G l₁ l₂
 |_,_,.nil,_=>.nil
 |_,_,.cons r t,f=>.cons (f _ _ r) (Paired.mapP t f)
theorem ObjOk.stay (x:ObjOk P w H h a o) (k:∀b u,(b=a∨H b=some (.own a))→h.get? b=some u→h'.get? b=some u)
  (ho:∀b,H b=some (.own a)→H' b=some (.own a)) (ht:∀b xs,H b=some (.tup xs)→H' b=some (.tup xs)):ObjOk P w H' h' a o:=by
 induction o with
 |lst xs=>obtain ⟨z,its,n,r,e⟩:=x;exact ⟨z,its,n,r,k _ _ (.inl rfl) e⟩
 |tup xs=>obtain ⟨z,its,r,ob,e,c⟩:=x;exact ⟨z,its,r,ob,k _ _ (.inl rfl) e,c⟩
 |dK kvs=>obtain ⟨z,y,vs,r,ob,es,ep,e,c⟩:=x;exact ⟨z,y,vs,r,ob,es,ep,k _ _ (.inl rfl) e,c⟩
 |dT kvs =>
  obtain ⟨z,y,xs,r,ob,es,ep,e,c⟩:=x;exact ⟨z,y,xs,Paired.mapP r fun p q z=>⟨z.1,ht _ _ z.2.1,z.2.2⟩,ob,es,ep,k _ _ (.inl rfl) e,c⟩
 |set S n=>obtain ⟨ob,es,ep,t,e,c⟩:=x;exact ⟨ob,es,ep,t,k _ _ (.inl rfl) e,c⟩
 |ins C dx fs =>
  obtain ⟨d,z,ne,e,mA,⟨od,es,ep,e2,c⟩,r⟩:=x;exact ⟨ho _ d,z,ne,k _ _ (.inl rfl) e,mA,⟨od,es,ep,k _ _ (.inr d) e2,c⟩,r⟩
 |own y=>obtain ⟨ob,e⟩:=x;exact ⟨ob,k _ _ (.inl rfl) e⟩
 |xd fs=>obtain ⟨mA,⟨od,es,ep,e,c⟩,r⟩:=x;exact ⟨mA,⟨od,es,ep,k _ _ (.inl rfl) e,c⟩,r⟩
 |rng lo hi=>obtain ⟨t,u,v,e⟩:=x;exact ⟨t,u,v,k _ _ (.inl rfl) e⟩
 |frz ob u ih=>obtain ⟨e,q⟩:=x;exact ⟨k _ _ (.inl rfl) e,ih q⟩
 |tbl ps =>
  have e:h.get? a=some {cls:=.none,data:=.fields ps}:=x;show h'.get? a=some {cls:=.none,data:=.fields ps};exact k a _ (.inl rfl) e
 |met f y =>
  have e:h.get? a=some (PySem.W.methodObj (.ref f) (.ref y)):=x;show h'.get? a=some (PySem.W.methodObj (.ref f) (.ref y));exact k a _ (.inl rfl) e
 |ext φ=>obtain ⟨p,⟨o,e⟩,st⟩:=x;exact ⟨st _ _ p fun o q=>k _ _ (.inl rfl) q,⟨o,k _ _ (.inl rfl) e⟩,st⟩
theorem HOk.lt (x:HOk P w H h) (e:H a=some o):a<h.objs.size:=(x a o e).lt
theorem HOk.fresh (x:HOk P w H h) (e:h.objs.size≤a):H a=none:=by
 cases q:H a with
 |none=>rfl
 |some u=>exact absurd (ax (x.lt q) e) (cb _)
theorem HOk.kept (x:HOk P w H h) (k:∀b u,h.get? b=some u→h'.get? b=some u):HOk P w H h':=fun a o e =>
 (x a o e).stay (fun b u _ q=>k b u q) (fun _ q=>q) fun _ _ q=>q
theorem HOk.laid (x:HOk P w H h) (k:∀b u,h.get? b=some u→h'.get? b=some u) (hp:h.objs.size≤a) (new:ObjOk P w (upd H a o) h' a o):HOk P w (upd H a o) h':=fun b u e=>by
 have hn:=x.fresh hp
 by_cases hb:b=a
 ·subst hb;rw [jE] at e;cases e;exact new
 ·rw [jX hb] at e;exact (x b u e).stay (fun c v _ q=>k c v q) (fun c q=>by rw [jX (kT q hn)];exact q) fun c xs q=>by rw [jX (kT q hn)];exact q
end
def Rd (H:Hp) (a:Addr) (u:HO):Prop:=H a=some u∨∃o,H a=some (.frz o u)
variable {h:Heap}
theorem Rd.ok {P:Program} {w:World} {u:HO} (r:Rd H a u) (x:HOk P w H h):ObjOk P w H h a u:=by
 rcases r with r|⟨o,r⟩
 ·exact x a u r
 ·obtain ⟨_,q⟩:=x a _ r;exact q
def gH:Option HO→Prop
 |some (.lst _)=>True
 |some (.dK _)=>True
 |some (.dT _)=>True
 |some (.set _ _)=>True
 |some (.ins _ _ _)=>True
 |some (.ext _)=>True
 |_=>False
section
variable {P:Program} {w:World} {H:Hp} {h h':Heap} {x e:Addr} {o':HO}
theorem HOk.write (ok:HOk P w H h) (mu:gH (H x)) (he:e=x∨H e=some (.own x)) (k:∀b u,b≠e→h.get? b=some u→h'.get? b=some u) (heo:∃u,h'.get? e=some u)
  (new:ObjOk P w (upd H x o') h' x o'):HOk P w (upd H x o') h':=fun b u q=>by
 have nown:∀c y,H c=some (.own y)→c≠x:=fun c y r z=>by subst z;rw [r] at mu;exact mu
 have ntup:∀c xs,H c=some (.tup xs)→c≠x:=fun c xs r z=>by subst z;rw [r] at mu;exact mu
 by_cases hb:b=x
 ·subst hb;rw [jE] at q;cases q;exact new
 ·rw [jX hb] at q
  by_cases hbe:b=e
  ·have q':H b=some (.own x):=by
    rcases he with z|z
    ·exact absurd (hbe.trans z) hb
    ·rw [hbe];exact z
   rw [q] at q';cases q'
   obtain ⟨v,hv⟩:=heo;exact ⟨v,by rw [hbe];exact hv⟩
  ·refine (ok b u q).stay (fun c v hc r=>k c v ?_ r) (fun c r=>by rw [jX (nown c b r)];exact r) fun c xs r=>by rw [jX (ntup c xs r)];exact r
   rcases hc with rfl|hc
   ·exact hbe
   ·rintro rfl
    rcases he with z|z
    ·exact nown c b hc z
    ·rw [hc] at z;cases z;exact hb rfl
end
structure Un (fs ex:List Addr) (H H':Hp) (h h':Heap):Prop where
 keep:∀b o,h.get? b=some o→H b=none→b∉fs→b∉ex→h'.get? b=some o
 slot:∀b o,h.get? b=some o→H b=none→b∈fs→b∉ex→∃sl,h'.get? b=some {o with slots:=sl}
 free:∀b o,h.get? b=some o→H b=none→b∉ex→H' b=none
 there:∀b o,h.get? b=some o→b∉ex→∃o',h'.get? b=some o'
 tups:∀b xs,H b=some (.tup xs)→H' b=some (.tup xs)
 frzs:∀b o u,H b=some (.frz o u)→H' b=some (.frz o u)
 tbls:∀b ps,H b=some (.tbl ps)→∃more,H' b=some (.tbl (ps++more))
section
variable {fs fs' ex ex':List Addr} {H H1 H2:Hp} {h h1 h2 h':Heap} {a x e:Addr} {o:HO}
theorem Un.any (u:Un fs ex H H1 h h1) {b:Addr} {ob:Obj} (q:h.get? b=some ob) (n:H b=none) (hx:b∉ex):∃sl,h1.get? b=some {ob with slots:=sl}:=by
 by_cases hb:b∈fs
 ·exact u.slot b ob q n hb hx
 ·exact ⟨ob.slots,u.keep b ob q n hb hx⟩
theorem Un.kept (k:∀b u,h.get? b=some u→h'.get? b=some u):Un fs ex H H h h' :=
 ⟨fun b ob q _ _ _=>k b ob q,fun b ob q _ _ _=>⟨ob.slots,k b ob q⟩,fun _ _ _ n _=>n,fun b ob q _=>⟨ob,k b ob q⟩,fun _ _ q=>q,fun _ _ _ q=>q,fun _ ps q=>⟨#[],by rw [q];simp⟩⟩
theorem Un.refl:Un fs ex H H h h:=Un.kept fun _ _ q=>q
theorem Un.laid (k:∀b u,h.get? b=some u→h'.get? b=some u) (hp:h.objs.size≤a) (hn:H a=none):Un fs ex H (upd H a o) h h' where
 keep:=fun b u q _ _ _=>k b u q
 slot:=fun b u q _ _ _=>⟨u.slots,k b u q⟩
 free:=fun b u q n _=>by rw [jX (aP (ax (ar q) hp))];exact n
 there:=fun b u q _=>⟨u,k b u q⟩
 tups:=fun b xs q=>by rw [jX (kT q hn)];exact q
 frzs:=fun b u xs q=>by rw [jX (kT q hn)];exact q
 tbls:=fun b ps q=>⟨#[],by rw [jX (kT q hn),q];simp⟩
theorem Un.write (mu:gH (H x)) (he:e=x∨H e=some (.own x)) (k:∀b u,b≠e→h.get? b=some u→h'.get? b=some u) (heo:∃u,h'.get? e=some u):Un fs ex H (upd H x o) h h':=by
 have hx:∀b,H b=none→b≠x:=fun b n z=>by subst z;rw [n] at mu;exact mu
 have hb:∀b,H b=none→b≠e:=fun b n z=>by
  subst z
  rcases he with r|r
  ·exact hx b n r
  ·rw [n] at r;cases r
 have hm:∀b u,H b=some u→¬gH (some u)→b≠x:=fun b u q nm z=>by subst z;rw [q] at mu;exact nm mu
 refine ⟨fun b u q n _ _=>k b u (hb b n) q,fun b u q n _ _=>⟨u.slots,k b u (hb b n) q⟩,fun b u q n _=>by rw [jX (hx b n)];exact n,fun b u q _=>?_,
  fun b xs q=>by rw [jX (hm b _ q fun z=>z)];exact q,fun b u xs q=>by rw [jX (hm b _ q fun z=>z)];exact q,fun b ps q=>⟨#[],by rw [jX (hm b _ q fun z=>z),q];simp⟩⟩
 by_cases hbe:b=e
 ·subst hbe;exact heo
 ·exact ⟨u,k b u hbe q⟩
end
def zJ (h:Heap) (H:Hp):List Addr:=(List.range h.objs.size).filter fun a=>(H a).isSome
def Q8 (h:Heap) (H:Hp):Heap:=PySem.W.hideAll h (zJ h H)
theorem PK (h:Heap) (H:Hp):(Q8 h H).objs.size=h.objs.size:=PySem.W.hideAll_size _ _
theorem RW {o:Obj} (e:h.get? b=some o) (n:H b=none):(Q8 h H).get? b=some o :=
 PySem.W.hideAll_get _ e fun hm=>by
  have q:(H b).isSome=true:=(cw.mp hm).2;rw [n] at q;simp at q
theorem S9 {o:Obj} (e:(Q8 h H).get? b=some o):h.get? b=some o∧H b=none:=by
 have e':h.get? b=some o:=PySem.W.of_hideAll (zJ h H) e;refine ⟨e',?_⟩;cases q:H b with
 |none=>rfl
 |some x =>
  have hm:b∈zJ h H:=cw.mpr ⟨em.mpr (ar e'),by simp [q]⟩;have z:(Q8 h H).get? b=none:=PySem.W.hideAll_none (zJ h H) hm;rw [z] at e;cases e
def T5 (g h:Heap) (L:Addr):List (Addr×Obj):=(List.range h.objs.size).filterMap fun a=>if a=L∨(g.get? a).isSome=true then none else (h.get? a).map fun o=>(a,o)
def rest (g h:Heap) (L d:Addr):List (Addr×Obj):=(T5 g h L).filter fun p=>decide (p.1≠d)
end L2
namespace L2
open PySem PySem.Spec PyProof.Rows
structure Mod (K:PySem.W.Frag) (mg:Str→Option Value) (base:Heap):Prop where
 kin:K.In base
 glob:base.Ns mainGlobals mg
 blt:∃mb,base.Ns builtinsNs mb∧∀x:Str,x≠"__name__"→mb x=bootBuiltins x
 nolimit:base.NoLimit
structure Cx where
 prog:Program
 w:World
 K:PySem.W.Frag
 mg:Str→Option Value
 base:Heap
 A:Around
 N:List Str
 s₀:Shared
 H₀:Hp
 env:Env
 outer:List Env
 stack:List Env
 ex:List Addr
 fn:Str→Bool
 calm:Bool
 pn:List (Addr×Obj)
 xe:Value→Shared→Prop
def kP (l:List Env):List Addr:=l.filterMap (·.frame)
abbrev Cx.fs (X:Cx):List Addr:=kP X.outer
def mY (sc:Scope) (x:Str):Prop:=sc.names.lookup x=some .local∨sc.names.lookup x=some .cell∨sc.names.lookup x=some .free
def eI (sc:Scope) (x:Str):Prop:=sc.names.lookup x=some .local∨sc.names.lookup x=some .cell
def WT (env:Env) (h:Heap) (m:Str→Option Value) (x:Str) (u:Value):Prop :=
 (env.kindOf x=some .local∧m x=some u)∨((env.kindOf x=some .cell∨env.kindOf x=some .free)∧∃c,env.cells.lookup x=some c∧h.IsCell c (some u))
structure Cx.Ok (X:Cx):Prop where
 mod:Mod X.K X.mg X.base
 kind:X.env.scope.kind=.function
 glob:X.env.globals=mainGlobals
 blt:X.env.builtins=builtinsNs
 above:X.s₀.heap.objs.size≤X.env.locals
 inj:∀x y c,X.env.cells.lookup x=some c→X.env.cells.lookup y=some c→x=y
 has:∀x,(X.env.kindOf x=some .cell∨X.env.kindOf x=some .free)→∃c,X.env.cells.lookup x=some c
 cab:∀x c,X.fn x=true→X.env.cells.lookup x=some c→X.s₀.heap.objs.size≤c
 hd:X.calm=true→X.A.handled=none
 frames:X.A.frames=some X.stack
 stk:X.stack=X.outer∨(X.stack=X.env::X.outer∧X.env.frame=some X.env.locals)
 exf:∀b∈X.ex,b≠X.env.locals∧∀x c,X.env.cells.lookup x=some c→c≠b
 bs:∀b o,X.base.get? b=some o→X.s₀.heap.get? b=some o∧X.H₀ b=none
 bsz:X.base.objs.size≤X.s₀.heap.objs.size
 noex:∀b o,X.base.get? b=some o→b∉X.ex
 exfs:∀b∈X.ex,b∉X.fs
 funs:X.s₀.heap.FunFrames X.base X.outer
 frf:∀b∈X.fs,X.H₀ b=none
structure Inv (X:Cx) (pins:List (Addr×Obj)) (σ:List (Option V)) (H:Hp) (s:Shared):Prop where
 ok:X.Ok
 os:s.os=X.s₀.os
 bare:AllBare s.gens
 base:Un X.fs X.ex X.H₀ H X.s₀.heap s.heap
 loc:∃m,s.heap.Ns X.env.locals m∧∀(i:Nat) (x:Str) (v:V),X.N[i]?=some x→σ[i]?=some (some v)→mY X.env.scope x→∃u,RelV v u∧WT X.env s.heap m x u
 cell:∀x c,X.env.cells.lookup x=some c→∃v,s.heap.IsCell c v
 free:H X.env.locals=none
 freeC:∀x c,X.env.cells.lookup x=some c→H c=none
 pin:∀p∈X.pn++pins,s.heap.get? p.1=some p.2∧H p.1=none∧p.1≠X.env.locals∧p.1∉X.fs∧∀v,p.2.data≠.cell v
 hok:HOk X.prog X.w H s.heap
 len:σ.length=X.N.length
section
variable {X:Cx} {pins:List (Addr×Obj)} {σ:List (Option V)} {H H':Hp} {s:Shared} {h':Heap}
theorem Cx.Ok.nofr (ok:X.Ok) {b:Addr} {o:Obj} (e:X.base.get? b=some o):b∉X.fs:=fun hb=>by
 have:=(ok.funs.mem hb).1;rw [e] at this;cases this
theorem Inv.bs (I:Inv X pins σ H s):∀b o,X.base.get? b=some o→s.heap.get? b=some o∧H b=none:=fun b o e =>
 ⟨I.base.keep b o (I.ok.bs b o e).1 (I.ok.bs b o e).2 (I.ok.nofr e) (I.ok.noex b o e),I.base.free b o (I.ok.bs b o e).1 (I.ok.bs b o e).2 (I.ok.noex b o e)⟩
theorem Inv.bk (I:Inv X pins σ H s):∀b o,X.base.get? b=some o→s.heap.get? b=some o:=fun b o e=>(I.bs b o e).1
theorem Inv.mod (I:Inv X pins σ H s):Mod X.K X.mg X.base:=I.ok.mod
theorem Inv.kIn (I:Inv X pins σ H s):X.K.In s.heap:=I.ok.mod.kin.keeps I.bk
theorem Inv.lt (I:Inv X pins σ H s):X.env.locals<s.heap.objs.size:=let ⟨_,hn,_⟩:=I.loc;hn.lt
theorem Inv.sz (I:Inv X pins σ H s):X.s₀.heap.objs.size≤s.heap.objs.size:=aI I.ok.above (ic I.lt)
theorem Inv.nofs (I:Inv X pins σ H s) {a:Addr} (h:s.heap.objs.size≤a):a∉X.fs:=fun hb=>by
 obtain ⟨_,o,ho,_⟩:=I.ok.funs.mem hb;exact absurd (ax (ar ho) (aI I.sz h)) (cb _)
theorem Inv.cne (I:Inv X pins σ H s):∀x c,X.env.cells.lookup x=some c→c≠X.env.locals:=fun x c e z=>by
 obtain ⟨v,o,ho,hd⟩:=I.cell x c e;obtain ⟨m,⟨o',es,ep,ho',hd',_⟩,_⟩:=I.loc;rw [z,ho'] at ho;cases ho;rw [hd'] at hd;cases hd
theorem Inv.funs (I:Inv X pins σ H s):s.heap.FunFrames X.base X.outer:=by
 have all:∀(l:List Env),(∀b∈kP l,b∈X.fs)→X.s₀.heap.FunFrames X.base l→s.heap.FunFrames X.base l:=by
  intro l
  induction l with
  |nil=>intro _ _;trivial
  |cons env r ih =>
   intro hs hl;obtain ⟨hk,⟨L,o,hf,hn,ho,hd⟩,hr⟩:=hl;have hL:L∈X.fs:=hs L (by unfold kP;rw [gm,hf];exact bd);obtain ⟨sl,e⟩:=I.base.slot L o ho (I.ok.frf L hL) hL fun z=>I.ok.exfs L z hL
   exact ⟨hk,⟨L,_,hf,hn,e,hd⟩,ih (fun b hb=>hs b (by unfold kP;rw [gm,hf];exact aK _ hb)) hr⟩
 exact all X.outer (fun _ hb=>hb) I.ok.funs
theorem Inv.stack (I:Inv X pins σ H s):s.heap.FunFrames X.base X.stack:=by
 rcases I.ok.stk with e|⟨e,hf⟩
 ·rw [e];exact I.funs
 ·rw [e];obtain ⟨m,hn,_⟩:=I.loc;refine .cons (by rw [I.ok.kind];decide) hf hn ?_ I.funs;exact Heap.get?_none_of_le (aI I.ok.bsz I.ok.above)
theorem Inv.stkSub (I:Inv X pins σ H s):∀b∈kP X.stack,b∈X.env.locals::X.fs:=fun b hb=>by
 rcases I.ok.stk with e|⟨e,hf⟩
 ·rw [e] at hb;exact aK _ hb
 ·rw [e] at hb;unfold kP at hb;rw [gm,hf] at hb;exact hb
theorem Inv.stkFree (I:Inv X pins σ H s):∀b∈kP X.stack,H b=none:=fun b hb=>by
 rcases aq.mp (I.stkSub b hb) with e|hb
 ·rw [e];exact I.free
 ·obtain ⟨_,o,ho,_⟩:=I.ok.funs.mem hb;exact I.base.free b o ho (I.ok.frf b hb) fun z=>I.ok.exfs b z hb
theorem Inv.step {g':Array GenState} {t':Nat} {d':Drawn} {ch:List Addr} (I:Inv X pins σ H s)
  (hch:∀b∈ch,(b∈X.ex∨X.s₀.heap.objs.size≤b)∧b≠X.env.locals∧(∀x c,X.env.cells.lookup x=some c→c≠b)∧∀p∈X.pn++pins,p.1≠b)
  (keep:∀b o,b≠X.env.locals→b∉X.fs→b∉ch→s.heap.get? b=some o→H b=none→h'.get? b=some o)
  (slot:∀b o,b≠X.env.locals→b∈X.fs→b∉ch→s.heap.get? b=some o→H b=none→∃sl,h'.get? b=some {o with slots:=sl}) (free:∀b o,b∉ch→s.heap.get? b=some o→H b=none→H' b=none)
  (there:∀b o,b∉ch→s.heap.get? b=some o→∃o',h'.get? b=some o')
  (tups:∀b xs,H b=some (.tup xs)→H' b=some (.tup xs)) (frzs:∀b o u,H b=some (.frz o u)→H' b=some (.frz o u)) (tbls:∀b ps,H b=some (.tbl ps)→∃more,H' b=some (.tbl (ps++more)))
  (ns:∀m,s.heap.Ns X.env.locals m→h'.Ns X.env.locals m) (hok:HOk X.prog X.w H' h') (hg:AllBare g') :
  Inv X pins σ H' {s with heap:=h',gens:=g',drawn:=d',toks:=t'}:=by
 have neL:∀b o,X.s₀.heap.get? b=some o→b≠X.env.locals:=fun b o e=>aP (ax (ar e) I.ok.above)
 have neC:∀b o,X.s₀.heap.get? b=some o→b∉X.ex→b∉ch:=fun b o e hx hb=>by
  rcases (hch b hb).1 with z|z
  ·exact hx z
  ·exact absurd (ax (ar e) z) (cb _)
 have cellK:∀x c,X.env.cells.lookup x=some c→∀v,s.heap.IsCell c v→h'.IsCell c v:=fun x c e v ⟨o,ho,hd⟩=>by
  have nch:c∉ch:=fun z=>(hch c z).2.2.1 x c e rfl
  by_cases hc:c∈X.fs
  ·obtain ⟨sl,q⟩:=slot c o (I.cne x c e) hc nch ho (I.freeC x c e);exact ⟨_,q,hd⟩
  ·exact ⟨o,keep c o (I.cne x c e) hc nch ho (I.freeC x c e),hd⟩
 refine ⟨I.ok,I.os,hg,⟨fun b o e n hb hx=>?_,fun b o e n hb hx=>?_,fun b o e n hx=>?_,fun b o e hx=>?_,fun b xs e=>tups b xs (I.base.tups b xs e),fun b o xs e=>frzs b o xs (I.base.frzs b o xs e),fun b ps e=>?_⟩,?_,fun x c e=>?_,?_,fun x c e=>?_,fun p hp=>?_,hok,I.len⟩
 ·exact keep b o (neL b o e) hb (neC b o e hx) (I.base.keep b o e n hb hx) (I.base.free b o e n hx)
 ·obtain ⟨sl,e1⟩:=I.base.slot b o e n hb hx;obtain ⟨sl',e2⟩:=slot b _ (neL b o e) hb (neC b o e hx) e1 (I.base.free b o e n hx);exact ⟨sl',e2⟩
 ·obtain ⟨o',e1⟩:=I.base.there b o e hx;exact free b o' (neC b o e hx) e1 (I.base.free b o e n hx)
 ·obtain ⟨o',e1⟩:=I.base.there b o e hx;exact there b o' (neC b o e hx) e1
 ·obtain ⟨m1,e1⟩:=I.base.tbls b ps e;obtain ⟨m2,e2⟩:=tbls b _ e1;exact ⟨m1++m2,by rw [e2,Array.append_assoc]⟩
 ·obtain ⟨m,hn,hl⟩:=I.loc;refine ⟨m,ns m hn,fun i x v e1 e2 e3=>?_⟩;obtain ⟨u,r,l⟩:=hl i x v e1 e2 e3;refine ⟨u,r,?_⟩
  rcases l with l|⟨k,c,e,z⟩
  ·exact .inl l
  ·exact .inr ⟨k,c,e,cellK x c e _ z⟩
 ·obtain ⟨v,z⟩:=I.cell x c e;exact ⟨v,cellK x c e v z⟩
 ·obtain ⟨m,⟨o,_,_,ho,_⟩,_⟩:=I.loc;exact free _ o (fun z=>(hch _ z).2.1 rfl) ho I.free
 ·obtain ⟨v,o,ho,hd⟩:=I.cell x c e;exact free c o (fun z=>(hch c z).2.2.1 x c e rfl) ho (I.freeC x c e)
 ·obtain ⟨e,n,ne,nf,d⟩:=I.pin p hp;have nch:p.1∉ch:=fun z=>(hch p.1 z).2.2.2 p hp rfl
  exact ⟨keep p.1 p.2 ne nf nch e n,free p.1 p.2 nch e n,ne,nf,d⟩
theorem Inv.un {t':Nat} (I:Inv X pins σ H s) (u:Un X.fs [] H H' s.heap h') (hok:HOk X.prog X.w H' h'):Inv X pins σ H' {s with heap:=h',toks:=t'}:=by
  obtain ⟨m,⟨o,es,ep,ho,r⟩,_⟩:=id I.loc;obtain ⟨sl,hL⟩:=u.any ho I.free (by simp);exact I.step (g':=s.gens) (d':=s.drawn) (ch:=[]) (fun _ z=>nomatch z) (fun b o _ hb _ e n=>u.keep b o e n hb (by simp)) (fun b o _ hb _ e n=>u.slot b o e n hb (by simp)) (fun b o _ e n=>u.free b o e n (by simp)) (fun b o _ e=>u.there b o e (by simp)) u.tups u.frzs u.tbls (fun m' hm=>by
    obtain ⟨o',es',ep',ho',r'⟩:=hm;rw [ho] at ho';cases ho'
    exact ⟨_,es',ep',hL,r'⟩) hok I.bare
theorem Inv.call {g':Array GenState} {t':Nat} {d':Drawn} {ch:List Addr} (I:Inv X pins σ H s) (u:Un (kP X.stack) ch H H' s.heap h') (hok:HOk X.prog X.w H' h') (hg:AllBare g')
  (hch:∀b∈ch,(b∈X.ex∨X.s₀.heap.objs.size≤b)∧b≠X.env.locals∧(∀x c,X.env.cells.lookup x=some c→c≠b)∧∀p∈X.pn++pins,p.1≠b) :
  Inv X pins σ H' {s with heap:=h',gens:=g',drawn:=d',toks:=t'}:=by
 obtain ⟨m,⟨o,es,ep,ho,r⟩,_⟩:=id I.loc;obtain ⟨sl,hL⟩:=u.any ho I.free fun z=>(hch _ z).2.1 rfl
 exact I.step (ch:=ch) hch (fun b o hL hb hc e n=>u.keep b o e n (fun z=>(aq.mp (I.stkSub b z)).elim hL hb) hc) (fun b o _ _ hc e n=>u.any e n hc) (fun b o hc e n=>u.free b o e n hc) (fun b o hc e=>u.there b o e hc) u.tups u.frzs u.tbls (fun m' hm=>by
  obtain ⟨o',es',ep',ho',r'⟩:=hm;rw [ho] at ho';cases ho'
  exact ⟨_,es',ep',hL,r'⟩) hok hg
theorem Inv.turned {t':Nat} {it:Addr} (I:Inv X pins σ H s) (k:∀b o,b≠it→s.heap.get? b=some o→h'.get? b=some o) (hn:H it=none) (hL:it≠X.env.locals)
    (h1:it∈X.ex∨X.s₀.heap.objs.size≤it) (h2:∀x c,X.env.cells.lookup x=some c→c≠it) (h3:∀p∈X.pn++pins,p.1≠it):Inv X pins σ H {s with heap:=h',toks:=t'}:=by
  have nit:∀b u,H b=some u→b≠it:=fun b u e z=>by rw [z,hn] at e;cases e
  refine I.step (g':=s.gens) (d':=s.drawn) (ch:=[it]) (fun b hb=>?_) (fun b o _ _ hc e _=>k b o (fun z=>hc (by simp [z])) e) (fun b o _ _ hc e _=>⟨o.slots,k b o (fun z=>hc (by simp [z])) e⟩) (fun _ _ _ _ n=>n)
    (fun b o hc e=>⟨o,k b o (fun z=>hc (by simp [z])) e⟩) (fun _ _ e=>e) (fun _ _ _ e=>e) (fun b ps e=>⟨#[],by rw [e];simp⟩) (fun m hm=>?_) (fun b u e=>?_) I.bare
  · have e:b=it:=by simpa using hb
    subst e;exact ⟨h1,hL,h2,h3⟩
  · obtain ⟨o,es,ep,ho,r⟩:=hm
    exact ⟨o,es,ep,k _ o (Ne.symm hL) ho,r⟩
  · refine (I.hok b u e).stay (fun c v hc q=>k c v ?_ q) (fun _ q=>q) fun _ _ q=>q
    rcases hc with z|z
    · rw [z];exact nit b u e
    · exact nit c _ z
theorem Inv.tok (I:Inv X pins σ H s) (t:Nat):Inv X pins σ H {s with toks:=t}:=I.un (h':=s.heap) (t':=t) Un.refl I.hok
theorem Inv.kept {t':Nat} (I:Inv X pins σ H s) (k:∀b u,s.heap.get? b=some u→h'.get? b=some u):Inv X pins σ H {s with heap:=h',toks:=t'}:=I.un (Un.kept k) (I.hok.kept k)
theorem Inv.laid {a:Addr} {o:HO} {t':Nat} (I:Inv X pins σ H s) (k:∀b u,s.heap.get? b=some u→h'.get? b=some u) (hp:s.heap.objs.size≤a) (new:ObjOk X.prog X.w (upd H a o) h' a o) :
  Inv X pins σ (upd H a o) {s with heap:=h',toks:=t'}:=I.un (Un.laid k hp (I.hok.fresh hp)) (I.hok.laid k hp new)
theorem Inv.write {x e:Addr} {o:HO} {t':Nat} (I:Inv X pins σ H s) (mu:gH (H x)) (he:e=x∨H e=some (.own x)) (k:∀b u,b≠e→s.heap.get? b=some u→h'.get? b=some u) (heo:∃u,h'.get? e=some u)
  (new:ObjOk X.prog X.w (upd H x o) h' x o):Inv X pins σ (upd H x o) {s with heap:=h',toks:=t'}:=I.un (Un.write mu he k heo) (I.hok.write mu he k heo new)
theorem Inv.pins_of {pins':List (Addr×Obj)} (I:Inv X pins σ H s) (h:∀p∈pins',s.heap.get? p.1=some p.2∧H p.1=none∧p.1≠X.env.locals∧p.1∉X.fs∧∀v,p.2.data≠.cell v):Inv X pins' σ H s :=
 ⟨I.ok,I.os,I.bare,I.base,I.loc,I.cell,I.free,I.freeC,fun p hp=>(aV.mp hp).elim (fun z=>I.pin p (gj _ z)) (h p),I.hok,I.len⟩
theorem tS {N:List Str} (hN:N.Nodup) {i j:Nat} {x:Str} (a:N[i]?=some x) (b:N[j]?=some x):i=j:=by
 obtain ⟨h1,e1⟩:=ad.mp a;obtain ⟨h2,e2⟩:=ad.mp b;exact (List.getElem_inj hN).mp (e1.trans e2.symm)
theorem BG {M:Model} {A:Around} {E:Value→Shared→Prop} {i:Nat} {x:Str} {v:V} {u:Value} {Q:Unit→Shared→Prop} (I:Inv X pins σ H s) (hN:X.N.Nodup) (hi:X.N[i]?=some x) (hx:eI X.env.scope x) (r:RelV v u)
  (h:∀s',Inv X pins (σ.set i (some v)) H s'→(∃a,Heap.SameBut a s.heap s'.heap∧(a=X.env.locals∨X.env.cells.lookup x=some a))→Q () s') (hf:X.fn x=true∨X.env.scope.names.lookup x=some .local:=by first|exact .inl rfl|exact .inr rfl|assumption):wpAny M A (storeName X.env x u) Q E s:=by
 obtain ⟨m,hn,hl⟩:=id I.loc;have hcls:(X.env.scope.kind == .class||(X.env.scope.kind == .module&&X.env.locals != X.env.globals))=false:=by rw [I.ok.kind];rfl
 have hiσ:i<σ.length:=by rw [I.len];exact (ad.mp hi).1
 have cne:=I.cne;have tracked:∀{a:Addr} {h':Heap},(∃o,s.heap.get? a=some o∧H a=none)→Heap.SameBut a s.heap h'→HOk X.prog X.w H h':=fun {a h'} ha hs b ob e=>by
  obtain ⟨_,_,hfree⟩:=ha;refine (I.hok b ob e).stay (fun c w' hc q=>(hs.2 c ?_).trans q) (fun _ q=>q) fun _ _ q=>q
  rintro rfl
  rcases hc with rfl|hc
  ·rw [hfree] at e;cases e
  ·rw [hfree] at hc;cases hc
 rcases hx with hk|hk
 ·refine wpAny_storeName_local hk hn (fun h' hn' hs=>?_) hcls;obtain ⟨oL,_,_,hoL,_⟩:=id hn;refine h _ ⟨I.ok,I.os,I.bare,⟨fun b o e n hb hx=>?_,fun b o e n hb hx=>?_,I.base.free,fun b o e hx=>?_,I.base.tups,I.base.frzs,I.base.tbls⟩,⟨_,hn',fun j y v' e1 e2 e3=>?_⟩,fun y c e=>?_,I.free,I.freeC,fun p hp=>?_,tracked ⟨oL,hoL,I.free⟩ hs,by simpa using I.len⟩ ⟨_,hs,.inl rfl⟩
  ·exact (hs.2 b (aP (ax (ar e) I.ok.above))).trans (I.base.keep b o e n hb hx)
  ·obtain ⟨sl,e1⟩:=I.base.slot b o e n hb hx;exact ⟨sl,(hs.2 b (aP (ax (ar e) I.ok.above))).trans e1⟩
  ·obtain ⟨o',e1⟩:=I.base.there b o e hx;exact ⟨o',(hs.2 b (aP (ax (ar e) I.ok.above))).trans e1⟩
  ·by_cases hj:j=i
   ·subst hj;rw [hi] at e1;cases e1
    rw [ci hiσ] at e2;cases e2;exact ⟨u,r,.inl ⟨hk,by simp⟩⟩
   ·rw [dc (Ne.symm hj)] at e2;obtain ⟨u',r',q⟩:=hl j y v' e1 e2 e3;refine ⟨u',r',?_⟩
    rcases q with ⟨k,e⟩|⟨k,c,e,z⟩
    ·refine .inl ⟨k,?_⟩;have:y≠x:=fun e=>hj (tS hN e1 (e▸hi))
     simp [this,e]
    ·exact .inr ⟨k,c,e,z.sameBut hs (cne y c e)⟩
  ·obtain ⟨w',z⟩:=I.cell y c e;exact ⟨w',z.sameBut hs (cne y c e)⟩
  ·obtain ⟨e,n,ne,nf,d⟩:=I.pin p hp;exact ⟨(hs.2 p.1 ne).trans e,n,ne,nf,d⟩
 ·have hfn:X.fn x=true:=by
   rcases hf with z|z
   ·exact z
   ·rw [z] at hk;cases hk
  obtain ⟨c,hc⟩:=I.ok.has x (.inl hk);obtain ⟨w',z⟩:=I.cell x c hc;refine wpAny_storeName_cell I.ok.kind hk hc z (fun h' hc' hs=>?_);obtain ⟨oc,hoc,hocd⟩:=id z;refine h {s with heap:=h'} ⟨I.ok,I.os,I.bare,⟨fun b o e n hb hx=>?_,fun b o e n hb hx=>?_,I.base.free,fun b o e hx=>?_,I.base.tups,I.base.frzs,I.base.tbls⟩,⟨m,hn.sameBut hs (Ne.symm (cne x c hc)),fun j y v' e1 e2 e3=>?_⟩,fun y c' e=>?_,I.free,I.freeC,fun p hp=>?_,tracked ⟨oc,hoc,I.freeC x c hc⟩ hs,by simpa using I.len⟩ ⟨c,hs,.inr hc⟩
  ·exact (hs.2 b (aP (ax (ar e) (I.ok.cab x c hfn hc)))).trans (I.base.keep b o e n hb hx)
  ·obtain ⟨sl,e1⟩:=I.base.slot b o e n hb hx;exact ⟨sl,(hs.2 b (aP (ax (ar e) (I.ok.cab x c hfn hc)))).trans e1⟩
  ·obtain ⟨o',e1⟩:=I.base.there b o e hx;exact ⟨o',(hs.2 b (aP (ax (ar e) (I.ok.cab x c hfn hc)))).trans e1⟩
  ·by_cases hj:j=i
   ·subst hj;rw [hi] at e1;cases e1
    rw [ci hiσ] at e2;cases e2;exact ⟨u,r,.inr ⟨.inl hk,c,hc,hc'⟩⟩
   ·rw [dc (Ne.symm hj)] at e2;obtain ⟨u',r',q⟩:=hl j y v' e1 e2 e3;refine ⟨u',r',?_⟩
    rcases q with q|⟨k,c',e,z'⟩
    ·exact .inl q
    ·refine .inr ⟨k,c',e,z'.sameBut hs ?_⟩;rintro rfl;exact hj (tS hN e1 (I.ok.inj _ _ _ e hc▸hi))
  ·by_cases hcc:c'=c
   ·subst hcc;exact ⟨_,hc'⟩
   ·obtain ⟨w2,z2⟩:=I.cell y c' e;exact ⟨w2,z2.sameBut hs hcc⟩
  ·obtain ⟨e,n,ne,nf,d⟩:=I.pin p hp;refine ⟨(hs.2 p.1 ?_).trans e,n,ne,nf,d⟩;intro q;rw [q,hoc] at e;have q':oc=p.2:=aA e;exact d w' (by rw [← q'];exact hocd)
theorem tL {M:Model} {A:Around} {E:Value→Shared→Prop} {i:Nat} {x:Str} {v:V} {u:Value} {Q:Unit→Shared→Prop} (I:Inv X pins σ H s) (hN:X.N.Nodup) (hi:X.N[i]?=some x) (hx:eI X.env.scope x) (r:RelV v u)
  (h:∀s',Inv X pins (σ.set i (some v)) H s'→Q () s') (hf:X.fn x=true∨X.env.scope.names.lookup x=some .local:=by first|exact .inl rfl|exact .inr rfl|assumption):wpAny M A (storeName X.env x u) Q E s :=
 BG I hN hi hx r (fun s' I' _=>h s' I') hf
theorem Inv.call' {s':Shared} {ch:List Addr} (I:Inv X pins σ H s) (ho:s'.os=s.os) (u:Un (kP X.stack) ch H H' s.heap s'.heap) (hok:HOk X.prog X.w H' s'.heap) (hg:AllBare s'.gens)
  (hch:∀b∈ch,(b∈X.ex∨X.s₀.heap.objs.size≤b)∧b≠X.env.locals∧(∀x c,X.env.cells.lookup x=some c→c≠b)∧∀p∈X.pn++pins,p.1≠b):Inv X pins σ H' s':=by
 obtain ⟨h',g',d',t',o'⟩:=s';have e:o'=s.os:=ho;subst e;exact I.call (g':=g') (t':=t') (d':=d') u hok hg hch
end
abbrev XK:=Value→Option Addr→Hp→Prop
abbrev St:=List (Option V)
abbrev VK:=V→Hp→Prop
abbrev TE:=St→Hp→VK→Prop
abbrev TT:=St→Hp→(Bool→Hp→Prop)→Prop
abbrev TA:=St→Hp→(List V→Hp→Prop)→Prop
structure Ends where
 nx:St→Hp→Prop
 rt:VK
 bk:St→Hp→Prop:=fun _ _=>False
 ct:St→Hp→Prop:=fun _ _=>False
abbrev TS:=Ends→St→Hp→Prop
def EP (X:Cx) (pins:List (Addr×Obj)) (σ:St) (Q:VK) (u:Value) (s':Shared):Prop:=∃v H',Inv X pins σ H' s'∧RelV v u∧Q v H'
def TP (X:Cx) (pins:List (Addr×Obj)) (σ:St) (Q:Bool→Hp→Prop) (b:Bool) (s':Shared):Prop:=∃H',Inv X pins σ H' s'∧Q b H'
def AP (X:Cx) (pins:List (Addr×Obj)) (σ:St) (Q:List V→Hp→Prop) (us:List Value) (s':Shared):Prop:=∃vs H',Inv X pins σ H' s'∧Vals vs us∧Q vs H'
def SP (X:Cx) (pins:List (Addr×Obj)) (D:Ends) (f:Flow) (s':Shared):Prop :=
 match f with
 |.next=>∃σ' H',Inv X pins σ' H' s'∧D.nx σ' H'
 |.brk=>∃σ' H',Inv X pins σ' H' s'∧D.bk σ' H'
 |.cont=>∃σ' H',Inv X pins σ' H' s'∧D.ct σ' H'
 |.ret u=>∃v σ' H',Inv X pins σ' H' s'∧RelV v u∧D.rt v H'
def PE (X:Cx) (e:Expr) (t:TE):Prop :=
 ∀(pins:List (Addr×Obj)) (s:Shared) (σ:St) (H:Hp) (Q:VK),Inv X pins σ H s→t σ H Q→wpAny (model X.prog X.w) X.A (eval e X.env) (EP X pins σ Q) X.xe s
def PT (X:Cx) (e:Expr) (t:TT):Prop :=
 ∀(pins:List (Addr×Obj)) (s:Shared) (σ:St) (H:Hp) (Q:Bool→Hp→Prop),Inv X pins σ H s→t σ H Q→wpAny (model X.prog X.w) X.A (isTrue e X.env (eval e X.env)) (TP X pins σ Q) X.xe s
def PW (X:Cx) (e:Expr) (t:TT):Prop :=
 ∀(whole:Sem Value) (pins:List (Addr×Obj)) (s:Shared) (σ:St) (H:Hp) (Q:Bool→Hp→Prop),Inv X pins σ H s→t σ H Q→wpAny (model X.prog X.w) X.A (isTrue e X.env whole) (TP X pins σ Q) X.xe s
theorem PW.pt {X:Cx} {e:Expr} {t:TT} (h:PW X e t):PT X e t:=h _
def PA (X:Cx) (es:List Expr) (t:TA):Prop :=
 ∀(pos:Pos) (pins:List (Addr×Obj)) (s:Shared) (σ:St) (H:Hp) (Q:List V→Hp→Prop),Inv X pins σ H s→t σ H Q→wpAny (model X.prog X.w) X.A (spliced (backTo pos (starEach es X.env))) (AP X pins σ Q) X.xe s
def PS (X:Cx) (st:Stmt) (t:TS):Prop :=
 ∀(pins:List (Addr×Obj)) (s:Shared) (σ:St) (H:Hp) (D:Ends),Inv X pins σ H s→t D σ H→wpAny (model X.prog X.w) X.A (exec st X.env) (SP X pins D) X.xe s
def PSs (X:Cx) (st:List Stmt) (t:TS):Prop :=
 ∀(pins:List (Addr×Obj)) (s:Shared) (σ:St) (H:Hp) (D:Ends),Inv X pins σ H s→t D σ H→wpAny (model X.prog X.w) X.A (execs st X.env) (SP X pins D) X.xe s
theorem jW {α:Type} {t:Sem α} {Q Q':α→Shared→Prop} {M:Model} {A:Around} {E:Value→Shared→Prop} {s:Shared} (h:wpAny M A t Q E s) (hQ:∀a s,Q a s→Q' a s):wpAny M A t Q' E s:=cc h hQ fun _ _ x=>x
section
variable {X:Cx}
def FH (i:Nat):TE:=fun σ H Q=>∃v,σ[i]?=some (some v)∧Q v H
def tC (v:V):TE:=fun _ H Q=>Q v H
theorem UM {i:Nat} {x:Str} {pos:Pos} (hN:X.N[i]?=some x) (hv:mY X.env.scope x) (hd:(x == ("__debug__":Str))=false:=by decide) (hcd:(x == ("__classdict__":Str))=false:=by decide):PE X (.Name x pos) (FH i):=by
 intro pins s σ H Q I h;obtain ⟨v,e,h⟩:=h;obtain ⟨m,hn,hl⟩:=I.loc;obtain ⟨u,r,l⟩:=hl i x v hN e hv;have fin:EP X pins σ Q u s:=⟨v,H,I,r,h⟩
 rcases l with ⟨hk,hm⟩|⟨hk,c,hc,hcell⟩
 ·exact wpAny_Name (wpAny_loadName_local I.ok.kind hk hn hm fin) hd
 ·rcases hk with hk|hk
  ·exact wpAny_Name (wpAny_loadName_cell I.ok.kind hk hc hcell fin) hd
  ·exact wpAny_Name (wpAny_loadName_free I.ok.kind hk hc hcell fin hcd) hd
theorem jC {i j pos}:PE X (.Constant (.int i) j pos) (tC (.int i)):=fun _ _ _ H _ I h=>wpAny_Constant_int ⟨.int i,H,I.tok _,⟨_,rfl⟩,h⟩
theorem Q0 {b j pos}:PE X (.Constant (.bool b) j pos) (tC (.bl b)):=fun _ _ _ H _ I h=>Constant_bool ⟨.bl b,H,I,rfl,h⟩
theorem UN {j pos}:PE X (.Constant .none j pos) (tC .non):=fun _ _ _ H _ I h=>Constant_none ⟨.non,H,I,rfl,h⟩
theorem jO {x j pos}:PE X (.Constant (.str x) j pos) (tC (.str x)):=fun _ _ _ H _ I h=>Calls.Constant_str ⟨.str x,H,I.tok _,⟨_,rfl⟩,h⟩
def Gl (X:Cx) (x:Str):Prop:=X.env.kindOf x=some .globalImplicit
theorem bL {E:Value→Shared→Prop} {pins:List (Addr×Obj)} {s:Shared} {σ:St} {H:Hp} {x:Str} {u:Value} {pos:Pos} {Q:Value→Shared→Prop} (I:Inv X pins σ H s) (hg:Gl X x) (hm:X.mg x=some u) (h:Q u s)
  (hd:(x == ("__debug__":Str))=false:=by decide):wpAny (model X.prog X.w) X.A (eval (.Name x pos) X.env) Q E s :=
 Calls.Name_function_global I.ok.kind hg (Calls.loadGlobal_global (by rw [I.ok.glob];exact I.mod.glob.keeps I.bk) hm h) hd
theorem bR {E:Value→Shared→Prop} {pins:List (Addr×Obj)} {s:Shared} {σ:St} {H:Hp} {x:Str} {u:Value} {pos:Pos} {Q:Value→Shared→Prop} (I:Inv X pins σ H s) (hg:Gl X x) (hm:X.mg x=none) (hv:bootBuiltins x=some u) (h:Q u s)
  (hn:x≠"__name__":=by decide) (hd:(x == ("__debug__":Str))=false:=by decide):wpAny (model X.prog X.w) X.A (eval (.Name x pos) X.env) Q E s:=by
 obtain ⟨mb,h1,h2⟩:=I.mod.blt;exact Calls.Name_function_global I.ok.kind hg (Calls.loadGlobal_builtin (by rw [I.ok.glob];exact I.mod.glob.keeps I.bk) hm (by rw [I.ok.blt];exact h1.keeps I.bk) ((h2 x hn).trans hv) h) hd
theorem yK {x:Str} {v:V} {u:Value} {pos:Pos} (hg:Gl X x) (hm:X.mg x=some u) (r:RelV v u) (hd:(x == ("__debug__":Str))=false:=by decide):PE X (.Name x pos) (tC v) :=
 fun _ _ _ H _ I h=>bL I hg hm ⟨v,H,I,r,h⟩ hd
theorem S4 {x:Str} {v:V} {u:Value} {pos:Pos} (hg:Gl X x) (hm:X.mg x=none) (hv:bootBuiltins x=some u) (r:RelV v u) (hn:x≠"__name__":=by decide) (hd:(x == ("__debug__":Str))=false:=by decide):PE X (.Name x pos) (tC v) :=
 fun _ _ _ H _ I h=>bR I hg hm hv ⟨v,H,I,r,h⟩ hn hd
variable {a b:Expr} {ta tb:TE} {pos:Pos}
def tB (t:TE):TT:=fun σ H Q=>t σ H fun x H1=>∃c,x=.bl c∧Q c H1
theorem vP {e:Expr} {t:TE} (h:PE X e t) (he:∀whole,isTrue e X.env whole=(do let v ← whole;standAt e.pos;holding [v] (truthy v)):=by intro _;rfl):PT X e (tB t):=by
 intro pins s σ H Q I hw;refine isTrue_plain (jW (h pins s σ H _ I hw) fun v s1 ⟨x,H1,I1,r1,q1⟩=>?_) (he _);obtain ⟨d,rfl,q⟩:=q1;cases r1;exact ge ⟨H1,I1,q⟩
variable {tA tB':TT} {rest:List Expr}
def WC (t u:TT):TT:=fun σ H Q=>t σ H fun c H1=>if c=true then u σ H1 Q else Q false H1
def W0 (t u:TT):TT:=fun σ H Q=>t σ H fun c H1=>if c=true then Q true H1 else u σ H1 Q
def V7 (t:TT):TT:=fun σ H Q=>t σ H fun c H1=>Q (!c) H1
theorem fH (ha:PT X a tA):PW X (.BoolOp .And [a] pos) tA:=by
 intro wh pins s σ H Q I h;refine isTrue_and (jW (ha pins s σ H Q I h) fun c s1 e=>?_);cases c with
 |true=>exact isTrue_and_nil e
 |false=>exact e
theorem lM (ha:PT X a tA):PW X (.BoolOp .Or [a] pos) tA:=by
 intro wh pins s σ H Q I h;refine isTrue_or (jW (ha pins s σ H Q I h) fun c s1 e=>?_);cases c with
 |false=>exact isTrue_or_nil e
 |true=>exact e
theorem fP (ha:PT X a tA) (hb:PW X (.BoolOp .And (b::rest) pos) tB'):PW X (.BoolOp .And (a::b::rest) pos) (WC tA tB'):=by
 intro wh pins s σ H Q I h;refine isTrue_and (jW (ha pins s σ H _ I h) fun c s1 ⟨H1,I1,q1⟩=>?_);cases c with
 |true=>exact hb wh pins s1 σ H1 Q I1 q1
 |false=>exact ⟨H1,I1,q1⟩
theorem lY (ha:PT X a tA) (hb:PW X (.BoolOp .Or (b::rest) pos) tB'):PW X (.BoolOp .Or (a::b::rest) pos) (W0 tA tB'):=by
 intro wh pins s σ H Q I h;refine isTrue_or (jW (ha pins s σ H _ I h) fun c s1 ⟨H1,I1,q1⟩=>?_);cases c with
 |true=>exact ⟨H1,I1,q1⟩
 |false=>exact hb wh pins s1 σ H1 Q I1 q1
theorem bO (ha:PT X a tA):PT X (.UnaryOp .Not a pos) (V7 tA):=by
 intro pins s σ H Q I h;exact isTrue_not (ha pins s σ H (fun c H1=>Q (!c) H1) I h)
def VE (ta tb:TE):TE:=fun σ H Q=>ta σ H fun x H1=>∃c,x=.bl c∧if c=true then tb σ H1 Q else Q (.bl false) H1
theorem uT {op} {t:TE} (h:PE X a t):PE X (.BoolOp op [a] pos) t:=fun pins s σ H Q I hw=>BoolOp_one (h pins s σ H Q I hw)
theorem uU (ha:PE X a ta) (hb:PE X (.BoolOp .And (b::rest) pos) tb):PE X (.BoolOp .And (a::b::rest) pos) (VE ta tb):=by
 intro pins s σ H Q I h;refine BoolOp_and (jW (ha pins s σ H _ I h) fun v s1 ⟨x,H1,I1,r1,q1⟩=>?_);obtain ⟨c,rfl,q1⟩:=q1;cases r1;refine ge ?_;cases c with
 |true=>exact hb pins s1 σ H1 Q I1 q1
 |false=>exact ⟨.bl false,H1,I1,rfl,q1⟩
def W1 (t:TT) (ta tb:TE):TE:=fun σ H Q=>t σ H fun c H1=>if c=true then ta σ H1 Q else tb σ H1 Q
theorem zL {c:Expr} (hc:PT X c tA) (ha:PE X a ta) (hb:PE X b tb):PE X (.IfExp c a b pos) (W1 tA ta tb):=by
 intro pins s σ H Q I h;refine wpAny_IfExp (jW (hc pins s σ H _ I h) fun d s1 ⟨H1,I1,q1⟩=>?_);cases d with
 |true=>exact ha pins s1 σ H1 Q I1 q1
 |false=>exact hb pins s1 σ H1 Q I1 q1
end
def SqL (K:PySem.W.Frag) (H:Hp) (a:Addr) (xs:List V):Prop :=
 Rd H a (.lst xs)∨
  ∃(o:Obj) (its:Array Value) (n:Nat),K.lookup a=some o∧o.cls=.type "list"∧o.dict=none∧o.data=.seq its n∧its.size≤sizeLine∧Vals xs its.toList
def SqT (K:PySem.W.Frag) (H:Hp) (a:Addr) (xs:List V):Prop :=
 Rd H a (.tup xs)∨
  ∃(o:Obj) (its:Array Value) (n:Nat),K.lookup a=some o∧o.cls=.type "tuple"∧o.data=.seq its n∧its.size≤sizeLine∧Vals xs its.toList
def WS:Value→Option V
 |.none=>some .non
 |.bool b=>some (.bl b)
 |.int i _=>some (.int i)
 |.str x _=>some (.str x)
 |.bytes b _=>some (.byt b)
 |.float b _=>some (.flt b)
 |.ref a=>some (.ref a)
 |.type n=>some (.ty n)
 |_=>none
variable {u:Value}
theorem RelV.abs {x:V} (r:RelV x u):WS u=some x:=by
 cases x with
 |non=>cases r;rfl
 |bl _=>cases r;rfl
 |int _=>obtain ⟨t,rfl⟩:=r;rfl
 |str _=>obtain ⟨t,rfl⟩:=r;rfl
 |byt _=>obtain ⟨t,rfl⟩:=r;rfl
 |flt _=>obtain ⟨t,rfl⟩:=r;rfl
 |ref _=>cases r;rfl
 |ty _=>cases r;rfl
theorem RelV.inj {x y:V} (r:RelV x u) (q:RelV y u):x=y:=aA (r.abs.symm.trans q.abs)
theorem Vals.inj:∀{xs ys:List V} {us:List Value},Vals xs us→Vals ys us→xs=ys
 |_,_,_,.nil,.nil=>rfl
 |_,_,_,.cons r t,.cons r' t'=>by rw [r.inj r',Vals.inj t t']
section
variable {X:Cx} {pins:List (Addr×Obj)} {σ:St} {H:Hp} {s:Shared} {a:Addr} {xs ys:List V}
theorem SqL.of {K:PySem.W.Frag} (h:H a=some (.lst xs)):SqL K H a xs:=.inl (.inl h)
theorem SqT.of {K:PySem.W.Frag} (h:H a=some (.tup xs)):SqT K H a xs:=.inl (.inl h)
theorem Inv.list (I:Inv X pins σ H s) (h:SqL X.K H a xs):∃its:List Value,Vals xs its∧PlainL s.heap a its.toArray∧xs.length≤sizeLine:=by
 rcases h with h|⟨o,its,n,hk,hc,hd,hs,hz,r⟩
 ·obtain ⟨z,its,n,r,e⟩:=h.ok I.hok;exact ⟨its,r,⟨_,n,e,rfl,rfl,rfl⟩,z⟩
 ·refine ⟨its.toList,r,⟨o,n,I.kIn a o hk,hc,hd,by simpa using hs⟩,?_⟩;have e:=r.length;simp only [gq] at e;omega
theorem Inv.tuple (I:Inv X pins σ H s) (h:SqT X.K H a xs):∃its:List Value,Vals xs its∧IsTup s.heap a its.toArray∧xs.length≤sizeLine:=by
 rcases h with h|⟨o,its,n,hk,hc,hs,hz,r⟩
 ·obtain ⟨z,its,r,p⟩:=h.ok I.hok;exact ⟨its,r,p,z⟩
 ·refine ⟨its.toList,r,⟨o,I.kIn a o hk,hc,n,by simpa using hs⟩,?_⟩;have e:=r.length;simp only [gq] at e;omega
theorem Inv.list_inj (I:Inv X pins σ H s) (h:SqL X.K H a xs) (h':SqL X.K H a ys):xs=ys:=by
 obtain ⟨its,r,⟨o,n,e,_,_,d⟩,_⟩:=I.list h;obtain ⟨its',r',⟨o',n',e',_,_,d'⟩,_⟩:=I.list h';rw [e] at e';cases e'
 rw [d] at d';injection d' with d1 _
 have:its=its':=by simpa using bu Array.toList d1
 subst this;exact r.inj r'
theorem Inv.tuple_inj (I:Inv X pins σ H s) (h:SqT X.K H a xs) (h':SqT X.K H a ys):xs=ys:=by
 obtain ⟨its,r,⟨o,e,_,n,d⟩,_⟩:=I.tuple h;obtain ⟨its',r',⟨o',e',_,n',d'⟩,_⟩:=I.tuple h';rw [e] at e';cases e'
 rw [d] at d';injection d' with d1 _
 have:its=its':=by simpa using bu Array.toList d1
 subst this;exact r.inj r'
end
abbrev Cx.wish (X:Cx) (E:Value→Shared→Prop):Cx:={X with xe:=E}
abbrev Cx.nox (X:Cx):Cx:=X.wish fun _ _=>False
variable {X:Cx}
theorem Cx.Ok.wish (ok:X.Ok) (E:Value→Shared→Prop):(X.wish E).Ok :=
 ⟨ok.mod,ok.kind,ok.glob,ok.blt,ok.above,ok.inj,ok.has,ok.cab,ok.hd,ok.frames,ok.stk,ok.exf,ok.bs,ok.bsz,ok.noex,ok.exfs,ok.funs,ok.frf⟩
theorem Cx.Ok.unwish {E:Value→Shared→Prop} (ok:(X.wish E).Ok):X.Ok :=
 ⟨ok.mod,ok.kind,ok.glob,ok.blt,ok.above,ok.inj,ok.has,ok.cab,ok.hd,ok.frames,ok.stk,ok.exf,ok.bs,ok.bsz,ok.noex,ok.exfs,ok.funs,ok.frf⟩
section
variable {X:Cx} {pins:List (Addr×Obj)} {σ:St} {H:Hp} {s:Shared} {E:Value→Shared→Prop}
theorem Inv.wish (I:Inv X pins σ H s) (E:Value→Shared→Prop):Inv (X.wish E) pins σ H s:=⟨I.ok.wish E,I.os,I.bare,I.base,I.loc,I.cell,I.free,I.freeC,I.pin,I.hok,I.len⟩
theorem Inv.unwish (I:Inv (X.wish E) pins σ H s):Inv X pins σ H s:=⟨I.ok.unwish,I.os,I.bare,I.base,I.loc,I.cell,I.free,I.freeC,I.pin,I.hok,I.len⟩
theorem SP.unwish {D:Ends} {f:Flow} {s':Shared} (h:SP (X.wish E) pins D f s'):SP X pins D f s':=by
 cases f with
 |next=>obtain ⟨σ',H',I,q⟩:=h;exact ⟨σ',H',I.unwish,q⟩
 |brk=>obtain ⟨σ',H',I,q⟩:=h;exact ⟨σ',H',I.unwish,q⟩
 |cont=>obtain ⟨σ',H',I,q⟩:=h;exact ⟨σ',H',I.unwish,q⟩
 |ret u=>obtain ⟨v,σ',H',I,r,q⟩:=h;exact ⟨v,σ',H',I.unwish,r,q⟩
theorem PE.nox {e:Expr} {t:TE} (h:PE X.nox e t):PE X e t:=fun pins s σ H Q I hw =>
 cc (h pins s σ H Q (I.wish _) hw) (fun _ _ ⟨v,H',I',r,q⟩=>⟨v,H',I'.unwish,r,q⟩) fun _ _ z=>False.elim z
theorem PSs.nox {st:List Stmt} {t:TS} (h:PSs X.nox st t):PSs X st t:=fun pins s σ H D I hw =>
 cc (h pins s σ H D (I.wish _) hw) (fun _ _ q=>q.unwish) fun _ _ z=>False.elim z
end
section
variable {X:Cx} {st:Stmt} {rest:List Stmt} {t u:TS} {e:Expr} {te:TE} {pos:Pos}
def U9:TS:=fun D σ H=>D.nx σ H
def V6 (t u:TS):TS:=fun D σ H=>t {D with nx:=u D} σ H
theorem kC:PSs X [] U9:=fun _ _ σ H _ I h=>io ⟨σ,H,I,h⟩
theorem jG (h1:PS X st t) (h2:PSs X rest u):PSs X (st::rest) (V6 t u):=by
 intro pins s σ H D I h;refine wpAny_execs_cons (jW (h1 pins s σ H {D with nx:=u D} I h) fun f s1 q=>?_);cases f with
 |next =>
  obtain ⟨σ',H',I',q⟩:=q;exact h2 pins s1 σ' H' D I' q
 |ret v=>exact q
 |brk=>exact q
 |cont=>exact q
theorem kH (h1:PS X st t):PSs X [st] t:=by
 intro pins s σ H D I h;refine wpAny_execs_cons (jW (h1 pins s σ H D I h) fun f s1 q=>?_);cases f with
 |next=>exact io q
 |ret v=>exact q
 |brk=>exact q
 |cont=>exact q
theorem Inv.quiet {pins:List (Addr×Obj)} {σ:St} {H:Hp} {s:Shared} (I:Inv X pins σ H s):interactive X.env=false:=by simp [interactive,I.ok.kind]
def VA (te:TE):TS:=fun D σ H=>te σ H fun _ H1=>D.nx σ H1
theorem qY (he:PE X e te) (hs:swapsWith e none pos.line X.env=pure false:=by rfl):PS X (.Expr e pos) (VA te):=by
 intro pins s σ H D I h;exact wpAny_Expr_any (jW (he pins s σ H _ I h) fun v s1 ⟨x,H1,I1,r1,q1⟩=>⟨σ,H1,I1,q1⟩) I.quiet hs
def FI (te:TE):TS:=fun D σ H=>te σ H D.rt
theorem xH (he:PE X e te):PS X (.Return (some e) pos) (FI te):=by
 intro pins s σ H D I h;exact wpAny_Return_some (jW (he pins s σ H _ I h) fun v s1 ⟨x,H1,I1,r1,q1⟩=>⟨x,σ,H1,I1,r1,q1⟩)
def V9 (c:TT) (t u:TS):TS:=fun D σ H=>c σ H fun b H1=>if b=true then t D σ H1 else u D σ H1
theorem j9 {c:Expr} {a b:List Stmt} {tc:TT} (hc:PT X c tc) (ha:PSs X a t) (hb:PSs X b u):PS X (.If c a b pos) (V9 tc t u):=by
 intro pins s σ H D I h;refine wpAny_If (jW (hc pins s σ H _ I h) fun d s1 ⟨H1,I1,q1⟩=>?_);cases d with
 |true=>exact ha pins s1 σ H1 D I1 q1
 |false=>exact hb pins s1 σ H1 D I1 q1
end
abbrev TG:=V→St→Hp→(St→Hp→Prop)→Prop
abbrev Z8:=List V→St→Hp→(St→Hp→Prop)→Prop
def PG (X:Cx) (target:Expr) (t:TG):Prop :=
 ∀(pins:List (Addr×Obj)) (s:Shared) (σ:St) (H:Hp) (v:V) (u:Value) (Q:St→Hp→Prop),Inv X pins σ H s→RelV v u→t v σ H Q→
  wpAny (model X.prog X.w) X.A (assign target X.env u) (fun _ s'=>∃σ' H',Inv X pins σ' H' s'∧Q σ' H') X.xe s
def gG (X:Cx) (ts:List Expr) (t:Z8):Prop :=
 ∀(pins:List (Addr×Obj)) (s:Shared) (σ:St) (H:Hp) (vs:List V) (us:List Value) (Q:St→Hp→Prop),Inv X pins σ H s→Vals vs us→t vs σ H Q→
  wpAny (model X.prog X.w) X.A (assignInOrder ((assignEach ts X.env).map (·.2)) us) (fun _ s'=>∃σ' H',Inv X pins σ' H' s'∧Q σ' H') X.xe s
abbrev fZ:=V→V→V→Hp→(Hp→Prop)→Prop
def wQ (X:Cx) (t:fZ):Prop :=
 ∀(pins:List (Addr×Obj)) (s:Shared) (σ:St) (H:Hp) (o i v:V) (ov iv u:Value) (Q:Hp→Prop),Inv X pins σ H s→RelV o ov→RelV i iv→RelV v u→t o i v H Q→
  wpAny (model X.prog X.w) X.A (setItem ov iv u) (fun _ s'=>∃H',Inv X pins σ H' s'∧Q H') X.xe s
abbrev mZ:=V→V→Hp→VK→Prop
def xC (X:Cx) (op:Operator) (t:mZ):Prop :=
 ∀(pins:List (Addr×Obj)) (s:Shared) (σ:St) (H:Hp) (x y:V) (v u:Value) (Q:VK),Inv X pins σ H s→RelV x v→RelV y u→t x y H Q→
  wpAny (model X.prog X.w) X.A (inplaceOp op v u) (EP X pins σ Q) X.xe s
section
variable {X:Cx} {pos:Pos}
def Q4 (i:Nat):TG:=fun v σ H Q=>Q (σ.set i (some v)) H
theorem kU {i:Nat} {x:Str} (hN:X.N.Nodup) (hi:X.N[i]?=some x) (hx:eI X.env.scope x) (hf:X.fn x=true∨X.env.scope.names.lookup x=some .local:=by first|exact .inl rfl|exact .inr rfl|assumption):PG X (.Name x pos) (Q4 i):=by
 intro pins s σ H v u Q I r h;exact wpAny_assign_Name (tL I hN hi hx r (fun s' I'=>⟨_,H,I',h⟩) hf)
def WM:Z8:=fun vs σ H Q=>vs=[]∧Q σ H
def VX (t:TG) (u:Z8):Z8:=fun vs σ H Q=>∃v r,vs=v::r∧t v σ H fun σ' H'=>u r σ' H' Q
theorem zC:gG X [] WM:=by
 intro pins s σ H vs us Q I r h;obtain ⟨e,h⟩:=h;subst e;cases r;exact assignInOrder_nil ⟨σ,H,I,h⟩
theorem qI {e:Expr} {es:List Expr} {t:TG} {u:Z8} (h1:PG X e t) (h2:gG X es u)
  (hs:(assignEach (e::es) X.env).map (·.2)=assign e X.env::(assignEach es X.env).map (·.2):=by rfl):gG X (e::es) (VX t u):=by
 intro pins s σ H vs us Q I r h;obtain ⟨v,vr,e1,h⟩:=h;subst e1;cases r with
 |cons r rr =>
  rw [hs];refine assignInOrder_cons (jW (h1 pins s σ H _ _ _ I r h) fun _ s1 ⟨σ1,H1,I1,q1⟩=>?_);exact h2 pins s1 σ1 H1 _ _ Q I1 rr q1
def FS (K:PySem.W.Frag) (n:Nat) (t:Z8):TG:=fun v σ H Q=>∃a xs,v=.ref a∧SqT K H a xs∧xs.length=n∧t xs σ H Q
theorem lN {es:List Expr} {k:Nat} {t:Z8} {n:Nat} (hc:X.calm=true) (h:gG X es t)
  (hn:(assignEach es X.env).length=n:=by rfl) (hst:(assignEach es X.env).findIdx? (·.1)=none:=by rfl):PG X (.Tuple es k pos) (FS X.K n t):=by
 intro pins s σ H v u Q I r hw;obtain ⟨a,xs,e1,hq,hl,hw⟩:=hw;subst e1;cases r;obtain ⟨its,rv,ht,hz⟩:=I.tuple hq;refine assign_Tuple_tuple (I.ok.hd hc) ht (by simp [hn,← hl,rv.length]) hst fun h' hx=>?_
 have I1:Inv X pins σ H {s with heap:=h'}:=I.kept (t':=s.toks) fun b o e=>hx b o (aP (ar e)) e
 exact h pins _ σ H xs _ Q I1 (by simpa using rv) hw
def WL (to ti:TE) (t:fZ):TG:=fun v σ H Q=>to σ H fun o H1=>ti σ H1 fun i H2=>t o i v H2 fun H3=>Q σ H3
theorem uS {o i:Expr} {to ti:TE} {t:fZ} (ho:PE X o to) (hi:PE X i ti) (hs:wQ X t)
  (ha:∀v,assign (.Subscript o i pos) X.env v=(do
   let ov ← holding [v] (eval o X.env)
   let iv ← holding [v,ov] (eval i X.env)
   standAt pos
   holding [v,ov,iv] (setItem ov iv v)
   release [v,ov,iv] []):=by intro _;rfl):PG X (.Subscript o i pos) (WL to ti t):=by
 intro pins s σ H v u Q I r h;rw [ha];refine ag (wpAny_holding (jW (ho pins s σ H _ I h) fun ov s1 ⟨x,H1,I1,r1,q1⟩=>?_));refine ag (wpAny_holding (jW (hi pins s1 σ H1 _ I1 q1) fun iv s2 ⟨y,H2,I2,r2,q2⟩=>?_));refine ag (wpAny_standAt (ag (wpAny_holding (jW (hs pins s2 σ H2 x y v ov iv u _ I2 r1 r2 r q2) fun _ s3 ⟨H3,I3,q3⟩=>?_))));exact wpAny_release ⟨σ,H3,I3,q3⟩
def wJ (te:TE) (g:TG):TS:=fun D σ H=>te σ H fun x H1=>g x σ H1 D.nx
theorem uQ {tg e:Expr} {te:TE} {g:TG} (he:PE X e te) (hg:PG X tg g) (hs:swapsWithSole [tg] e pos.line X.env=pure false:=by rfl) (hw:swappedStores [tg] e X.env=pure none:=by rfl)
  (h1:(assignEach [tg] X.env).map (·.2)=[assign tg X.env]:=by rfl):PS X (.Assign [tg] e pos) (wJ te g):=by
 intro pins s σ H D I h;refine wpAny_Assign_stores (jW (he pins s σ H _ I h) fun v s1 ⟨x,H1,I1,r1,q1⟩=>?_) hs hw;rw [h1];exact jW (hg pins s1 σ H1 x v _ I1 r1 q1) fun _ s2 q=>q
theorem GJ {i:Nat} {x:Str} {e:Expr} {te:TE} {pos':Pos} (hN:X.N.Nodup) (hi:X.N[i]?=some x) (hx:eI X.env.scope x) (he:PE X e te) (hs:swapsWith e (some (.Name x pos')) pos.line X.env=pure false:=by rfl) (hf:X.fn x=true∨X.env.scope.names.lookup x=some .local:=by first|exact .inl rfl|exact .inr rfl|assumption) :
  PS X (.Assign [.Name x pos'] e pos) (wJ te (Q4 i)):=by
 intro pins s σ H D I h;refine wpAny_Assign_Name (jW (he pins s σ H _ I h) fun v s1 ⟨y,H1,I1,r1,q1⟩=>?_) hs;exact tL I1 hN hi hx r1 (fun s2 I2=>⟨_,H1,I2,q1⟩) hf
def VD (to ti te:TE) (tget:V→V→Hp→VK→Prop) (tip:mZ) (tset:fZ):TS:=fun D σ H=>to σ H fun o H1=>ti σ H1 fun i H2=>tget o i H2 fun x H3=>te σ H3 fun y H4=>tip x y H4 fun z H5=>tset o i z H5 fun H6=>D.nx σ H6
def FU (X:Cx) (t:V→V→Hp→VK→Prop):Prop :=
 ∀(pins:List (Addr×Obj)) (s:Shared) (σ:St) (H:Hp) (o i:V) (ov iv:Value) (Q:VK),Inv X pins σ H s→RelV o ov→RelV i iv→t o i H Q→
  wpAny (model X.prog X.w) X.A (getItem ov iv) (EP X pins σ Q) X.xe s
theorem uB {o i e:Expr} {to ti te:TE} {tget:V→V→Hp→VK→Prop} {tip:mZ} {tset:fZ} {op:Operator} {tpos:Pos} (ho:PE X o to) (hi:PE X i ti) (hg:FU X tget) (he:PE X e te) (hp:xC X op tip) (hs:wQ X tset)
  (ha:∀ov iv new,augStore i ov iv new=(do holding [new,ov,iv] (setItem ov iv new);release [new,ov,iv] [];pure .next):=by intros;rfl):PS X (.AugAssign (.Subscript o i tpos) op e pos) (VD to ti te tget tip tset):=by
 intro pins s σ H D I h;refine wpAny_AugAssign_SubscriptAny (jW (ho pins s σ H _ I h) fun ov s1 ⟨x1,H1,I1,r1,q1⟩=>?_) ha;refine jW (hi pins s1 σ H1 _ I1 q1) fun iv s2 ⟨x2,H2,I2,r2,q2⟩=>?_
 refine jW (hg pins s2 σ H2 x1 x2 ov iv _ I2 r1 r2 q2) fun old s3 ⟨x3,H3,I3,r3,q3⟩=>?_
 refine jW (he pins s3 σ H3 _ I3 q3) fun v s4 ⟨x4,H4,I4,r4,q4⟩=>?_
 refine jW (hp pins s4 σ H4 x3 x4 old v _ I4 r3 r4 q4) fun new s5 ⟨x5,H5,I5,r5,q5⟩=>?_
 exact jW (hs pins s5 σ H5 x1 x2 x5 ov iv new _ I5 r1 r2 r5 q5) fun _ s6 ⟨H6,I6,q6⟩=>⟨σ,H6,I6,q6⟩
def GB (f:Int→Int→Int):mZ:=fun x y H Q=>∃i j,x=.int i∧y=.int j∧Q (.int (f i j)) H
theorem ET:xC X .Add (GB fun i j=>i+j):=by
 intro pins s σ H x y v u Q I r1 r2 h;obtain ⟨i,j,e1,e2,q⟩:=h;subst e1;subst e2
 obtain ⟨t,rfl⟩:=r1;obtain ⟨t',rfl⟩:=r2;exact iadd_int ⟨.int _,H,I.tok _,⟨_,rfl⟩,q⟩
theorem UZ:xC X .Sub (GB fun i j=>i - j):=by
 intro pins s σ H x y v u Q I r1 r2 h;obtain ⟨i,j,e1,e2,q⟩:=h;subst e1;subst e2
 obtain ⟨t,rfl⟩:=r1;obtain ⟨t',rfl⟩:=r2;exact isub_int ⟨.int _,H,I.tok _,⟨_,rfl⟩,q⟩
end
structure It where
 go:Nat→Hp→Prop
 yld:Nat→Hp→V→Hp→Prop
 stop:Nat→Hp→Prop
def JF (X:Cx) (pins:List (Addr×Obj)) (H:Hp) (b:Addr):Prop :=
 H b=none∧b≠X.env.locals∧b∉X.fs∧(b∈X.ex∨X.s₀.heap.objs.size≤b)∧(∀x c,X.env.cells.lookup x=some c→c≠b)∧∀p∈X.pn++pins,p.1≠b
theorem Inv.fpOk {pins:List (Addr×Obj)} {σ:St} {H H':Hp} {s:Shared} {b:Addr} (I:Inv X pins σ H s) (hb:s.heap.objs.size≤b) (hn:H' b=none):JF X pins H' b:=by
 refine ⟨hn,fg (ax I.lt hb),I.nofs hb,.inr (aI I.sz hb),fun x c e z=>?_,fun p hp z=>?_⟩
 ·obtain ⟨v,q⟩:=I.cell x c e;exact absurd (ax q.lt (by rw [z];exact hb)) (cb _)
 ·exact absurd (ax (ar (I.pin p hp).1) (by rw [z];exact hb)) (cb _)
structure Turn (P:Program) (w:World) (K:PySem.W.Frag) (tg:Expr) (J:It) (fp:List Addr) (it:Addr) (tn:Nat→Heap→Prop):Prop where
 mem:it∈fp
 obj:∀i h,tn i h→∀b∈fp,∃o,h.get? b=some o∧∀v,o.data≠.cell v
 keep:∀i h h',tn i h→(∀b∈fp,∀o,h.get? b=some o→h'.get? b=some o)→tn i h'
 item:∀(X:Cx),X.prog=P→X.w=w→X.K=K→X.calm=true→∀(i:Nat) (pins:List (Addr×Obj)) (s:Shared) (σ:St) (H:Hp) (E:Value→Shared→Prop),Inv X pins σ H s→(∀b∈fp,JF X pins H b)→tn i s.heap→J.go i H→
  wpAny (model P w) X.A (pyNext (.ref it)) (fun r s1=>∃u,r=some u∧
   wpAny (model P w) X.A (letOwnedTupleGo tg (.ref it) u) (fun _ s2=>∃x H',Inv X pins σ H' s2∧RelV x u∧J.yld i H x H'∧tn (i+1) s2.heap∧∀b∈fp,H' b=none) E s1) E s
 done:∀(X:Cx),X.prog=P→X.w=w→X.K=K→X.calm=true→∀(i:Nat) (pins:List (Addr×Obj)) (s:Shared) (σ:St) (H:Hp) (E:Value→Shared→Prop),Inv X pins σ H s→(∀b∈fp,JF X pins H b)→tn i s.heap→J.stop i H→
  wpAny (model P w) X.A (pyNext (.ref it)) (fun r s1=>r=none∧Inv X pins σ H s1) E s
 self:∀(A:Around) (i:Nat) (s:Shared) (Q:Value→Shared→Prop) (E:Value→Shared→Prop),tn i s.heap→Q (.ref it) s→wpAny (model P w) A (pyIter (.ref it)) Q E s
abbrev TI:=St→Hp→(It→Hp→Prop)→Prop
def xD (X:Cx) (pins:List (Addr×Obj)) (σ:St) (tg:Expr) (R:It→Hp→Prop) (itv:Value) (s2:Shared):Prop :=
 ∃(it:Addr) (fp:List Addr) (tn:Nat→Heap→Prop) (J:It) (H':Hp),itv=.ref it∧Inv X pins σ H' s2∧Turn X.prog X.w X.K tg J fp it tn∧tn 0 s2.heap∧(∀b∈fp,JF X pins H' b)∧R J H'
def PI (X:Cx) (tg iter:Expr) (wi:TI):Prop :=
 ∀(pins:List (Addr×Obj)) (s:Shared) (σ:St) (H:Hp) (R:It→Hp→Prop),Inv X pins σ H s→wi σ H R→
  wpAny (model X.prog X.w) X.A (eval iter X.env) (fun v s1=>wpAny (model X.prog X.w) X.A (pyIter v) (xD X pins σ tg R) X.xe s1) X.xe s
variable {tg:Expr}
theorem mF {M:Model} {A:Around} {E:Value→Shared→Prop} {s:Shared} {it:Addr} {o:Obj} {n:String} {vs:Array Value} {Q:Unit→Shared→Prop} (ho:s.heap.get? it=some o) (hc:o.cls=.type n) (hd:o.data=.fields vs)
    (hn:["enumerate","zip","dict_itemiterator","dict_reverseitemiterator","odict_iterator","itertools.zip_longest","itertools.pairwise"].contains n=false) (hQ:Q () s):wpAny M A (letOwnedTupleGo tg (.ref it) u) Q E s:=by
  unfold letOwnedTupleGo;cases tg<;>first
    |exact aQ hQ
    | (cases u<;>first
        |exact aQ hQ
        | (refine ag (wpAny_load ho ?_)
           rw [hc,hd];show wpAny M A (if (["enumerate","zip","dict_itemiterator","dict_reverseitemiterator","odict_iterator","itertools.zip_longest","itertools.pairwise"].contains n&&vs[0]? == some (rawInt _))=true then _ else _) Q E s;rw [if_neg (by intro h;rw [hn,Bool.false_and] at h;cases h)];exact aQ hQ))
def cL (K:PySem.W.Frag) (a:Addr):It :=
 ⟨fun i H=>∃xs x,SqL K H a xs∧xs[i]?=some x,fun i H x H'=>H'=H∧∀xs,SqL K H a xs→xs[i]?=some x,fun i H=>∃xs,SqL K H a xs∧xs.length≤i⟩
def cK (K:PySem.W.Frag) (a:Addr):It :=
 ⟨fun i H=>∃xs x,SqT K H a xs∧xs[i]?=some x,fun i H x H'=>H'=H∧∀xs,SqT K H a xs→xs[i]?=some x,fun i H=>∃xs,SqT K H a xs∧xs.length≤i⟩
def Z9 (lo:Int) (n:Nat):It:=⟨fun i _=>i<n,fun i H x H'=>H'=H∧x=.int (lo+i),fun i _=>n≤i⟩
variable {P:Program} {w:World} {K:PySem.W.Frag}
theorem OS (a it:Addr):Turn P w K tg (cL K a) [it] it (fun i h=>h.IsListIter it a i) where
 mem:=by simp
 obj:=fun i h st b hb=>by
  have e:b=it:=by simpa using hb
  subst e;obtain ⟨o,e,c,d⟩:=st;exact ⟨o,e,fun v z=>by rw [d] at z;cases z⟩
 keep:=fun i h h' st k=>st.at fun o e=>k it (by simp) o e
 item:=by
  intro X hP hw hK hc i pins s σ H E I hf st hg;subst hP hw hK;obtain ⟨xs,x,hq,hx⟩:=hg;obtain ⟨its,rv,p,hz⟩:=I.list hq;obtain ⟨u,hu,ru⟩:=rv.get hx;obtain ⟨f0,f1,f2,f3,f4,f5⟩:=hf it (by simp);refine wpAny_pyNext_list_item st p.isList (x:=u) (by simpa using hu) fun h' st' sb=>?_
  have I1:Inv X pins σ H {s with heap:=h'}:=I.turned (t':=s.toks) (fun b o hb e=>(sb.2 b hb).trans e) f0 f1 f3 f4 f5;obtain ⟨o,e,c,d⟩:=id st';exact ⟨u,rfl,mF (s:={s with heap:=h'}) e c d (by decide) ⟨x,H,I1,ru,⟨rfl,fun ys hy=>by rw [I.list_inj hy hq];exact hx⟩,st',fun b hb=>(hf b hb).1⟩⟩
 done:=by
  intro X hP hw hK hc i pins s σ H E I hf st hg;subst hP hw hK;obtain ⟨xs,hq,hx⟩:=hg;obtain ⟨its,rv,p,hz⟩:=I.list hq;obtain ⟨f0,f1,f2,f3,f4,f5⟩:=hf it (by simp);have hl:=rv.length;exact wpAny_pyNext_list_end (I.ok.hd hc) st p.isList (by simp;omega) fun h' eb=>⟨rfl,I.turned (t':=s.toks) (fun b o hb e=>eb b o hb e) f0 f1 f3 f4 f5⟩
 self:=fun _ _ _ _ _ st h=>wpAny_pyIter_listiter st h
theorem NX (a it:Addr):Turn P w K tg (cK K a) [it] it (fun i h=>h.IsTupleIter it a i) where
 mem:=by simp
 obj:=fun i h st b hb=>by
  have e:b=it:=by simpa using hb
  subst e;obtain ⟨o,e,c,d⟩:=st;exact ⟨o,e,fun v z=>by rw [d] at z;cases z⟩
 keep:=fun i h h' st k=>st.at fun o e=>k it (by simp) o e
 item:=by
  intro X hP hw hK hc i pins s σ H E I hf st hg;subst hP hw hK;obtain ⟨xs,x,hq,hx⟩:=hg;obtain ⟨its,rv,p,hz⟩:=I.tuple hq;obtain ⟨u,hu,ru⟩:=rv.get hx;obtain ⟨f0,f1,f2,f3,f4,f5⟩:=hf it (by simp);refine wpAny_pyNext_tuple_item st (show s.heap.IsTuple a its.toArray from p) (x:=u) (by simpa using hu) fun h' st' sb=>?_
  have I1:Inv X pins σ H {s with heap:=h'}:=I.turned (t':=s.toks) (fun b o hb e=>(sb.2 b hb).trans e) f0 f1 f3 f4 f5;obtain ⟨o,e,c,d⟩:=id st';exact ⟨u,rfl,mF (s:={s with heap:=h'}) e c d (by decide) ⟨x,H,I1,ru,⟨rfl,fun ys hy=>by rw [I.tuple_inj hy hq];exact hx⟩,st',fun b hb=>(hf b hb).1⟩⟩
 done:=by
  intro X hP hw hK hc i pins s σ H E I hf st hg;subst hP hw hK;obtain ⟨xs,hq,hx⟩:=hg;obtain ⟨its,rv,p,hz⟩:=I.tuple hq;obtain ⟨f0,f1,f2,f3,f4,f5⟩:=hf it (by simp);have hl:=rv.length;exact wpAny_pyNext_tuple_end (I.ok.hd hc) st (show s.heap.IsTuple a its.toArray from p) (by simp;omega) fun h' eb=>⟨rfl,I.turned (t':=s.toks) (fun b o hb e=>eb b o hb e) f0 f1 f3 f4 f5⟩
 self:=fun _ _ _ _ _ st h=>wpAny_pyIter_tupleiter st h
theorem NY (it:Addr) (lo:Int) (n:Nat):Turn P w K tg (Z9 lo n) [it] it (fun i h=>IsRangeIter h it (lo+(i:Nat)*1) ((n:Int) - (i:Nat)) 1) where
 mem:=by simp
 obj:=fun i h st b hb=>by
  have e:b=it:=by simpa using hb
  subst e;exact ⟨_,st,fun v z=>by
   have z':Data.fields _=Data.cell v:=z;cases z'⟩
 keep:=fun i h h' st k=>k it (by simp) _ st
 item:=by
  intro X hP hw hK hc i pins s σ H E I hf st hg;subst hP hw hK;obtain ⟨f0,f1,f2,f3,f4,f5⟩:=hf it (by simp);have W:=Walks.range (prog:=X.prog) (w:=X.w) (I.ok.hd hc) it lo 1 n;refine W.item i s _ _ hg st fun v h' tk hv st' kk=>?_
  obtain ⟨t,rfl⟩:=hv;have I1:Inv X pins σ H {s with heap:=h',toks:=tk}:=I.turned (fun b o hb e=>kk b o (by simpa using hb) e) f0 f1 f3 f4 f5;refine ⟨_,rfl,mF (s:={s with heap:=h',toks:=tk}) (n:="range_iterator") st' rfl rfl (by decide) ⟨.int (lo+i),H,I1,⟨t,?_⟩,⟨rfl,rfl⟩,st',fun b hb=>(hf b hb).1⟩⟩;rw [Int.mul_one]
 done:=by
  intro X hP hw hK hc i pins s σ H E I hf st hg;subst hP hw hK;obtain ⟨f0,f1,f2,f3,f4,f5⟩:=hf it (by simp);exact wpAny_pyNext_range_end (I.ok.hd hc) st (by have:n≤i:=hg;omega) fun h' eb=>⟨rfl,I.turned (t':=s.toks) (fun b o hb e=>eb b o hb e) f0 f1 f3 f4 f5⟩
 self:=fun _ _ _ _ _ st h=>wpAny_pyIter_rangeiter st h
end L2
namespace L2
open PySem PySem.Spec PyProof.Rows
section
variable {X:Cx} {tg:Expr}
def VT (K:PySem.W.Frag) (tl:TE):TI:=fun σ H R=>tl σ H fun x H1=>∃a,x=.ref a∧(∃xs,SqL K H1 a xs)∧R (cL K a) H1
def WJ (K:PySem.W.Frag) (tl:TE):TI:=fun σ H R=>tl σ H fun x H1=>∃a,x=.ref a∧(∃xs,SqT K H1 a xs)∧R (cK K a) H1
theorem yH {l:Expr} {tl:TE} (hl:PE X l tl):PI X tg l (VT X.K tl):=by
 intro pins s σ H R I h;refine jW (hl pins s σ H _ I h) fun v s1 ⟨x,H1,I1,r1,q1⟩=>?_
 obtain ⟨a,e,⟨xs,hq⟩,q⟩:=q1;subst e;cases r1;obtain ⟨its,rv,p,hz⟩:=I1.list hq;refine gg p.isList ?_;refine ⟨s1.heap.objs.size,[s1.heap.objs.size],_,_,H1,rfl,I1.kept (t':=s1.toks) fun b o e=>ak _ e,OS a _,⟨_,az _ rfl,rfl,rfl⟩,fun b hb=>?_,q⟩;have e:b=s1.heap.objs.size:=by simpa using hb
 subst e;exact I1.fpOk (aj _) (I1.hok.fresh (aj _))
theorem uR {l:Expr} {tl:TE} (hl:PE X l tl):PI X tg l (WJ X.K tl):=by
 intro pins s σ H R I h;refine jW (hl pins s σ H _ I h) fun v s1 ⟨x,H1,I1,r1,q1⟩=>?_
 obtain ⟨a,e,⟨xs,hq⟩,q⟩:=q1;subst e;cases r1;obtain ⟨its,rv,p,hz⟩:=I1.tuple hq;refine fu (show s1.heap.IsTuple a its.toArray from p) ?_;refine ⟨s1.heap.objs.size,[s1.heap.objs.size],_,_,H1,rfl,I1.kept (t':=s1.toks) fun b o e=>ak _ e,NX a _,⟨_,az _ rfl,rfl,rfl⟩,fun b hb=>?_,q⟩;have e:b=s1.heap.objs.size:=by simpa using hb
 subst e;exact I1.fpOk (aj _) (I1.hok.fresh (aj _))
theorem RD {pins:List (Addr×Obj)} {σ:St} {H:Hp} {s:Shared} {R:It→Hp→Prop} {E:Value→Shared→Prop} {lo hi:Int} {t u v:Tok} {tk:Nat} (I:Inv X pins σ H s) (h1 : -(2 ^ 62)≤lo) (h2:lo<2 ^ 62) (h3 : -(2 ^ 62)≤hi) (h4:hi<2 ^ 62)
    (q:R (Z9 lo (hi - lo).toNat) H):wpAny (model X.prog X.w) X.A (pyIter (.ref s.heap.objs.size)) (xD X pins σ tg R) E {s with heap:=s.heap.push {cls:=.type "range",data:=.fields #[.int lo t,.int hi u,.int 1 v]},toks:=tk}:=by
  refine wpAny_pyIter_range (IsRange.new ..) (small_one h1 h2 h3 h4) ?_;have I1:Inv X pins σ H {s with heap:=s.heap.push {cls:=.type "range",data:=.fields #[.int lo t,.int hi u,.int 1 v]},toks:=tk}:=I.kept fun b o e=>ak _ e
  refine ⟨(s.heap.push {cls:=.type "range",data:=.fields #[.int lo t,.int hi u,.int 1 v]}).objs.size,[(s.heap.push {cls:=.type "range",data:=.fields #[.int lo t,.int hi u,.int 1 v]}).objs.size],_,_,H,rfl,
    I1.kept (t':=tk) fun b o e=>ak _ e,NY _ lo (hi - lo).toNat,?_,fun b hb=>?_,q⟩
  · have e1:lo+((0:Nat):Int)*1=lo:=by simp
    have e2:(((hi - lo).toNat:Nat):Int) - ((0:Nat):Int)=Builtin.Range.rangeSize lo hi 1:=by rw [rangeSize_one];split<;>omega
    show IsRangeIter _ _ (lo+((0:Nat):Int)*1) ((((hi - lo).toNat:Nat):Int) - ((0:Nat):Int)) 1;rw [e1,e2];exact az _ rfl
  · have e:b=(s.heap.push {cls:=.type "range",data:=.fields #[.int lo t,.int hi u,.int 1 v]}).objs.size:=by simpa using hb
    subst e;exact I1.fpOk (aj _) (I1.hok.fresh (aj _))
def VS (ta:TA):TI:=fun σ H R=>ta σ H fun vs H1=>∃j:Int,vs=[.int j]∧-(2 ^ 62)≤j∧j<2 ^ 62∧R (Z9 0 j.toNat) H1
theorem QU {a:Expr} {ta:TA} {p pos:Pos} (hg:Gl X "range") (hm:X.mg "range"=none) (ha:PA X [a] ta) (hs:starEach [a] X.env=[(false,eval a X.env)]:=by rfl):PI X tg (.Call (.Name "range" p) [a] [] pos) (VS ta):=by
 intro pins s σ H R I h;refine Call_ (bR I hg hm boot_range (cu (jW (ha pos pins s σ H _ I h) fun us s1 ⟨vs,H1,I1,r1,q1⟩=>?_) hs rfl));obtain ⟨j,e,q1,q2,q⟩:=q1;subst e;cases r1 with
 |cons r rr =>
  cases rr;obtain ⟨t,rfl⟩:=r;exact call_range_1 (RD I1 (by omega) (by omega) q1 q2 (by simpa using q))
def WA (wi:TI) (g:TG) (tb:TS):TS:=fun D σ H=>wi σ H fun J H1=>∃W:Nat→Nat→St→Hp→Prop,(∃m,W 0 m σ H1)∧∀i m σ H,W i m σ H→
 (J.stop i H∧D.nx σ H)∨(J.go i H∧∃N:St→Hp→Prop,(∀σ' H',N σ' H'→∃m',m'<m∧W (i+1) m' σ' H')∧∀x H',J.yld i H x H'→g x σ H' fun σ2 H2=>tb {D with nx:=N,ct:=N,bk:=D.nx} σ2 H2)
def fQ (fp:List Addr) (h:Heap):List (Addr×Obj):=fp.filterMap fun b=>(h.get? b).map fun o=>(b,o)
theorem iS {fp:List Addr} {h:Heap} {b:Addr} {o:Obj} (hb:b∈fp) (e:h.get? b=some o):(b,o)∈fQ fp h:=dw.mpr ⟨b,hb,by rw [e];rfl⟩
theorem O5 {fp:List Addr} {h:Heap} {p:Addr×Obj} (hp:p∈fQ fp h):p.1∈fp∧h.get? p.1=some p.2:=by
 obtain ⟨b,hb,e⟩:=dw.mp hp;cases q:h.get? b with
 |none=>rw [q] at e;cases e
 |some o =>
  rw [q] at e;have e':(b,o)=p:=aA e;subst e';exact ⟨hb,q⟩
theorem Inv.pinned {pins:List (Addr×Obj)} {σ:St} {H:Hp} {s:Shared} {fp:List Addr} (I:Inv X pins σ H s) (hf:∀b∈fp,JF X pins H b) (ho:∀b∈fp,∃o,s.heap.get? b=some o∧∀v,o.data≠.cell v):Inv X (pins++fQ fp s.heap) σ H s :=
 I.pins_of fun p hp=>(aV.mp hp).elim (fun z=>I.pin p (aX _ z)) fun z=>by
  obtain ⟨hb,e⟩:=O5 z;obtain ⟨f0,f1,f2,_⟩:=hf p.1 hb;obtain ⟨o,e',d⟩:=ho p.1 hb;rw [e] at e';cases e'
  exact ⟨e,f0,f1,f2,d⟩
theorem Inv.unpinned {pins pl:List (Addr×Obj)} {σ:St} {H:Hp} {s:Shared} (I:Inv X (pins++pl) σ H s):Inv X pins σ H s:=I.pins_of fun p hp=>I.pin p (aX _ (gj _ hp))
theorem JL {iter:Expr} {body:List Stmt} {wi:TI} {g:TG} {tb:TS} {pos:Pos} (hp:PassesOwn (model X.prog X.w) X.A X.env X.xe) (hc:X.calm=true) (hi:PI X tg iter wi) (hg:PG X tg g) (hb:PSs X body tb)
  (hs:∀x,foldedSetIterable iter X.env x=pure x:=by intro _;rfl):PS X (.For tg iter body [] pos) (WA wi g tb):=by
 intro pins s σ H D I h;refine wpAny_For (jW (hi pins s σ H _ I h) fun v s1 h1=>jW h1 fun itv s2 h2=>?_) hs;obtain ⟨it,fp,tn,J,H2,e,I2,T,st2,f2,W,⟨m0,w0⟩,turn⟩:=h2;subst e;have stat:∀{H':Hp},(∀b∈fp,H' b=none)→∀b∈fp,JF X pins H' b:=fun hn b hb=>⟨hn b hb,(f2 b hb).2⟩
 refine codeAny_forLoop_any (fun n s'=>∃i σ' H',Inv X pins σ' H' s'∧tn i s'.heap∧(∀b∈fp,H' b=none)∧W i n σ' H') ?_ m0 ⟨0,σ,H2,I2,st2,fun b hb=>(f2 b hb).1,w0⟩;rintro n s3 ⟨i,σ3,H3,I3,st3,fr3,w3⟩
 rcases turn i n σ3 H3 w3 with ⟨stop,qn⟩|⟨go,N,hN,step⟩
 ·refine gy hp (jW (T.done X rfl rfl rfl hc i pins s3 σ3 H3 X.xe I3 (stat fr3) st3 stop) fun r s4 ⟨hr,I4⟩=>?_);subst hr;exact io ⟨σ3,H3,I4,qn⟩
 ·refine gy hp (jW (T.item X rfl rfl rfl hc i pins s3 σ3 H3 X.xe I3 (stat fr3) st3 go) fun r s4 ⟨u,hr,h4⟩=>?_);subst hr;refine gy hp (jW h4 fun _ s5 ⟨x,H5,I5,r5,y5,st5,fr5⟩=>?_);have I5':=I5.pinned (stat fr5) (T.obj _ _ st5);refine gy hp (jW (hg _ s5 σ3 H5 x u _ I5' r5 (step x H5 y5)) fun _ s6 ⟨σ6,H6,I6,q6⟩=>?_);refine gy hp (jW (hb _ s6 σ6 H6 _ I6 q6) fun f s7 q7=>?_);have again:∀{σ7:St} {H7:Hp},Inv X (pins++fQ fp s5.heap) σ7 H7 s7→N σ7 H7→∃m,m<n∧∃i σ' H',Inv X pins σ' H' s7∧tn i s7.heap∧(∀b∈fp,H' b=none)∧W i m σ' H':=fun {σ7 H7} I7 n7=>by
   obtain ⟨m',hm,w7⟩:=hN σ7 H7 n7;refine ⟨m',hm,i+1,σ7,H7,I7.unpinned,T.keep _ _ _ st5 fun b hb o e=>(I7.pin (b,o) (aX _ (aX _ (iS hb e)))).1,fun b hb=>?_,w7⟩;obtain ⟨o,e,d⟩:=T.obj _ _ st5 b hb;exact (I7.pin (b,o) (aX _ (aX _ (iS hb e)))).2.1
  cases f with
  |next=>obtain ⟨σ7,H7,I7,n7⟩:=q7;exact again I7 n7
  |cont=>obtain ⟨σ7,H7,I7,n7⟩:=q7;exact again I7 n7
  |brk=>obtain ⟨σ7,H7,I7,q7⟩:=q7;exact ⟨σ7,H7,I7.unpinned,q7⟩
  |ret v=>obtain ⟨x7,σ7,H7,I7,r7,q7⟩:=q7;exact ⟨x7,σ7,H7,I7.unpinned,r7,q7⟩
end
variable {g:TG} {tb:TS} {D:Ends} {σ:St} {H:Hp}
theorem lB {K:PySem.W.Frag} {a:Addr} {xs:List V} (Pv:Nat→St→Hp→Prop) (h0:Pv 0 σ H) (hl:∀i σ H,i≤xs.length→Pv i σ H→SqL K H a xs)
    (hs:∀i x σ H,xs[i]?=some x→Pv i σ H→g x σ H fun σ2 H2=>tb {D with nx:=Pv (i+1),ct:=Pv (i+1),bk:=D.nx} σ2 H2) (hd:∀σ H,Pv xs.length σ H→D.nx σ H) :
    ∃W:Nat→Nat→St→Hp→Prop,(∃m,W 0 m σ H)∧∀i m σ H,W i m σ H→
      ((cL K a).stop i H∧D.nx σ H)∨((cL K a).go i H∧∃N:St→Hp→Prop,(∀σ' H',N σ' H'→∃m',m'<m∧W (i+1) m' σ' H')∧∀x H',(cL K a).yld i H x H'→g x σ H' fun σ2 H2=>tb {D with nx:=N,ct:=N,bk:=D.nx} σ2 H2):=by
  refine ⟨fun i m σ H=>m=xs.length - i∧i≤xs.length∧Pv i σ H,⟨xs.length,by simp,aO _,h0⟩,?_⟩;rintro i m σ H ⟨rfl,hi,p⟩;have q:=hl i σ H hi p
  by_cases hlt:i<xs.length
  · refine .inr ⟨⟨xs,xs[i],q,by simp [hlt]⟩,Pv (i+1),fun σ' H' p'=>⟨xs.length - (i+1),by omega,rfl,hlt,p'⟩,fun x H' y=>?_⟩
    obtain ⟨e,y⟩:=y;subst e;exact hs i x σ _ (y xs q) p
  · have e:i=xs.length:=by omega
    subst e;exact .inl ⟨⟨xs,q,aj _⟩,hd σ H p⟩
theorem TV {K:PySem.W.Frag} {a:Addr} {xs:List V} (Pv:Nat→St→Hp→Prop) (h0:Pv 0 σ H) (hl:∀i σ H,i≤xs.length→Pv i σ H→SqT K H a xs)
    (hs:∀i x σ H,xs[i]?=some x→Pv i σ H→g x σ H fun σ2 H2=>tb {D with nx:=Pv (i+1),ct:=Pv (i+1),bk:=D.nx} σ2 H2) (hd:∀σ H,Pv xs.length σ H→D.nx σ H) :
    ∃W:Nat→Nat→St→Hp→Prop,(∃m,W 0 m σ H)∧∀i m σ H,W i m σ H→
      ((cK K a).stop i H∧D.nx σ H)∨((cK K a).go i H∧∃N:St→Hp→Prop,(∀σ' H',N σ' H'→∃m',m'<m∧W (i+1) m' σ' H')∧∀x H',(cK K a).yld i H x H'→g x σ H' fun σ2 H2=>tb {D with nx:=N,ct:=N,bk:=D.nx} σ2 H2):=by
  refine ⟨fun i m σ H=>m=xs.length - i∧i≤xs.length∧Pv i σ H,⟨xs.length,by simp,aO _,h0⟩,?_⟩;rintro i m σ H ⟨rfl,hi,p⟩;have q:=hl i σ H hi p
  by_cases hlt:i<xs.length
  · refine .inr ⟨⟨xs,xs[i],q,by simp [hlt]⟩,Pv (i+1),fun σ' H' p'=>⟨xs.length - (i+1),by omega,rfl,hlt,p'⟩,fun x H' y=>?_⟩
    obtain ⟨e,y⟩:=y;subst e;exact hs i x σ _ (y xs q) p
  · have e:i=xs.length:=by omega
    subst e;exact .inl ⟨⟨xs,q,aj _⟩,hd σ H p⟩
theorem c7 {lo:Int} {n:Nat} (Pv:Nat→St→Hp→Prop) (h0:Pv 0 σ H)
  (hs:∀i σ H,i<n→Pv i σ H→g (.int (lo+i)) σ H fun σ2 H2=>tb {D with nx:=Pv (i+1),ct:=Pv (i+1),bk:=D.nx} σ2 H2) (hd:∀σ H,Pv n σ H→D.nx σ H) :
  ∃W:Nat→Nat→St→Hp→Prop,(∃m,W 0 m σ H)∧∀i m σ H,W i m σ H→
   ((Z9 lo n).stop i H∧D.nx σ H)∨((Z9 lo n).go i H∧∃N:St→Hp→Prop,(∀σ' H',N σ' H'→∃m',m'<m∧W (i+1) m' σ' H')∧∀x H',(Z9 lo n).yld i H x H'→g x σ H' fun σ2 H2=>tb {D with nx:=N,ct:=N,bk:=D.nx} σ2 H2):=by
 refine ⟨fun i m σ H=>m=n - i∧i≤n∧Pv i σ H,⟨n,by simp,aO _,h0⟩,?_⟩;rintro i m σ H ⟨rfl,hi,p⟩
 by_cases hlt:i<n
 ·refine .inr ⟨hlt,Pv (i+1),fun σ' H' p'=>⟨n - (i+1),by omega,rfl,hlt,p'⟩,fun x H' y=>?_⟩;obtain ⟨e,y⟩:=y;subst e y;exact hs i σ _ hlt p
 ·have e:i=n:=by omega
  subst e;exact .inl ⟨aj _,hd σ H p⟩
end L2
namespace L2
open PySem PySem.Spec PyProof.Rows
abbrev R2:=V→V→Hp→VK→Prop
def qH (X:Cx) (f:Value→Value→Sem Value) (r:R2):Prop :=
 ∀(pins:List (Addr×Obj)) (s:Shared) (σ:St) (H:Hp) (x y:V) (v u:Value) (Q:VK),Inv X pins σ H s→RelV x v→RelV y u→r x y H Q→
  wpAny (model X.prog X.w) X.A (f v u) (EP X pins σ Q) X.xe s
def xB (X:Cx) (f:Value→Sem Value) (r:V→Hp→VK→Prop):Prop :=
 ∀(pins:List (Addr×Obj)) (s:Shared) (σ:St) (H:Hp) (x:V) (v:Value) (Q:VK),Inv X pins σ H s→RelV x v→r x H Q→
  wpAny (model X.prog X.w) X.A (f v) (EP X pins σ Q) X.xe s
def yN (X:Cx) (f:Value) (r:List V→Hp→VK→Prop):Prop :=
 ∀(pins:List (Addr×Obj)) (s:Shared) (σ:St) (H:Hp) (xs:List V) (us:List Value) (Q:VK),Inv X pins σ H s→Vals xs us→r xs H Q→
  wpAny (model X.prog X.w) X.A (call f us) (EP X pins σ Q) X.xe s
def cH (r:R2) (ta tb:TE):TE:=fun σ H Q=>ta σ H fun x H1=>tb σ H1 fun y H2=>r x y H2 Q
def WY (r:V→Hp→VK→Prop) (ta:TE):TE:=fun σ H Q=>ta σ H fun x H1=>r x H1 Q
def rI (C:Int→Int→Prop) (g:Int→Int→V):R2:=fun x y H Q=>∃i j,x=.int i∧y=.int j∧C i j∧Q (g i j) H
def Z7 (g:Int→Int→V):R2:=fun x y H Q=>∃i j,x=.int i∧y=.int j∧Q (g i j) H
def rU (g:Int→V):V→Hp→VK→Prop:=fun x H Q=>∃i,x=.int i∧Q (g i) H
section
variable {X:Cx} {a b c:Expr} {ta tb tc:TE} {pos:Pos}
theorem wN (ha:PE X a ta) (hb:PE X b tb) {pins:List (Addr×Obj)} {s:Shared} {σ:St} {H:Hp} {R:V→V→Hp→Prop} (I:Inv X pins σ H s)
  (h:ta σ H fun x H1=>tb σ H1 fun y H2=>R x y H2) {Q:Value→Shared→Prop} {f:Value→Value→Sem Value}
  (hf:∀v u s2 x y H2,Inv X pins σ H2 s2→RelV x v→RelV y u→R x y H2→wpAny (model X.prog X.w) X.A (f v u) Q X.xe s2) :
  wpAny (model X.prog X.w) X.A (eval a X.env) (fun v s₁=>wpAny (model X.prog X.w) X.A (eval b X.env) (fun u s₂=>wpAny (model X.prog X.w) X.A (f v u) Q X.xe s₂) X.xe s₁) X.xe s:=by
 refine jW (ha pins s σ H _ I h) fun v s1 ⟨x,H1,I1,r1,q1⟩=>?_
 refine jW (hb pins s1 σ H1 _ I1 q1) fun u s2 ⟨y,H2,I2,r2,q2⟩=>?_
 exact hf v u s2 x y H2 I2 r1 r2 q2
theorem jJ {op:Operator} {r:R2} (ho:qH X (binaryOp op) r) (ha:PE X a ta) (hb:PE X b tb):PE X (.BinOp a op b pos) (cH r ta tb):=by
 intro pins s σ H Q I h;exact wpAny_BinOp (wN ha hb I h fun v u s2 x y H2 I2 rx ry q=>ho pins s2 σ H2 x y v u Q I2 rx ry q)
theorem u9 {op:UnaryOp} {r:V→Hp→VK→Prop} (ho:xB X (unaryOp op) r) (ha:PE X a ta):PE X (.UnaryOp op a pos) (WY r ta):=by
 intro pins s σ H Q I h;exact UnaryOp_ (jW (ha pins s σ H _ I h) fun v s1 ⟨x,H1,I1,r1,q1⟩=>ho pins s1 σ H1 x v Q I1 r1 q1)
theorem mV {f:Value→Value→Sem Value} {C:Int→Int→Prop} {g:Int→Int→Int}
  (rule:∀(i j:Int) (t u:Tok) (s:Shared) (Q:Value→Shared→Prop) (E:Value→Shared→Prop),C i j→Q (.int (g i j) s.toks) {s with toks:=s.toks+1}→wpAny (model X.prog X.w) X.A (f (.int i t) (.int j u)) Q E s) :
  qH X f (rI C fun i j=>.int (g i j)):=by
 intro pins s σ H x y v u Q I rx ry h;obtain ⟨i,j,rfl,rfl,hc,q⟩:=h;obtain ⟨t,rfl⟩:=rx;obtain ⟨t',rfl⟩:=ry;exact rule i j t t' s _ _ hc ⟨.int (g i j),H,I.tok _,⟨_,rfl⟩,q⟩
theorem FP {f:Value→Value→Sem Value} {g:Int→Int→Int}
  (rule:∀(i j:Int) (t u:Tok) (s:Shared) (Q:Value→Shared→Prop) (E:Value→Shared→Prop),Q (.int (g i j) s.toks) {s with toks:=s.toks+1}→wpAny (model X.prog X.w) X.A (f (.int i t) (.int j u)) Q E s) :
  qH X f (Z7 fun i j=>.int (g i j)):=by
 intro pins s σ H x y v u Q I rx ry h;obtain ⟨i,j,rfl,rfl,q⟩:=h;obtain ⟨t,rfl⟩:=rx;obtain ⟨t',rfl⟩:=ry;exact rule i j t t' s _ _ ⟨.int (g i j),H,I.tok _,⟨_,rfl⟩,q⟩
theorem mM {f:Value→Value→Sem Value} {g:Int→Int→Bool}
  (rule:∀(i j:Int) (t u:Tok) (s:Shared) (Q:Value→Shared→Prop) (E:Value→Shared→Prop),Q (.bool (g i j)) s→wpAny (model X.prog X.w) X.A (f (.int i t) (.int j u)) Q E s) :
  qH X f (Z7 fun i j=>.bl (g i j)):=by
 intro pins s σ H x y v u Q I rx ry h;obtain ⟨i,j,rfl,rfl,q⟩:=h;obtain ⟨t,rfl⟩:=rx;obtain ⟨t',rfl⟩:=ry;exact rule i j t t' s _ _ ⟨.bl (g i j),H,I,rfl,q⟩
def WV (i j:Int):Prop:=0<j∧j<1073741824
def WU (i j:Int):Prop:=0≤j∧j≤1000000∧i.natAbs<2 ^ 64
def CMul (i j:Int):Prop:=(-(2 ^ 64)<i∧i<2 ^ 64)∨(-(2 ^ 64)<j∧j<2 ^ 64)
theorem CMul.ok {i j:Int} (h:CMul i j):IntMulOk i j:=by
 rcases h with ⟨h1,h2⟩|⟨h1,h2⟩
 ·exact .of_left (intBits_le_64 h1 h2)
 ·exact .of_right (intBits_le_64 h1 h2)
theorem kI:qH X (binaryOp .Add) (Z7 fun i j=>.int (i+j)):=FP fun _ _ _ _ _ _ _ q=>add_int q
theorem yL:qH X (binaryOp .Sub) (Z7 fun i j=>.int (i - j)):=FP fun _ _ _ _ _ _ _ q=>sub_int q
theorem qE:qH X (binaryOp .Mult) (rI CMul fun i j=>.int (i*j)):=mV fun _ _ _ _ _ _ _ hc q=>mul_int q hc.ok
theorem zX:qH X (binaryOp .FloorDiv) (rI WV fun i j=>.int (i / j)):=mV fun i j _ _ _ _ _ hc q=>by
 have h1:(0:Int)<j:=hc.1;have h2:j<1073741824:=hc.2;exact floordiv_int (by omega) (by rw [Int.fdiv_eq_ediv_of_nonneg i (by omega)];exact q) (.inl (PyProof.noPylong_small (by omega)))
theorem vQ:qH X (binaryOp .Mod) (rI (fun _ j=>0<j) fun i j=>.int (i%j)):=mV fun i j _ _ _ _ _ hc q=>by
 have h1:(0:Int)<j:=hc;exact mod_int' (by omega) (by rw [Int.fmod_eq_emod_of_nonneg i (by omega)];exact q)
theorem lO:qH X (binaryOp .Pow) (rI WU fun i j=>.int (i ^ j.toNat)):=mV fun _ _ _ _ _ _ _ hc q=>pow_int_small hc.1 hc.2.1 hc.2.2 q
theorem WX {f:Value→Sem Value} {g:Int→Int}
  (rule:∀(i:Int) (t:Tok) (s:Shared) (Q:Value→Shared→Prop) (E:Value→Shared→Prop),Q (.int (g i) s.toks) {s with toks:=s.toks+1}→wpAny (model X.prog X.w) X.A (f (.int i t)) Q E s) :
  xB X f (rU fun i=>.int (g i)):=by
 intro pins s σ H x v Q I rx h;obtain ⟨i,rfl,q⟩:=h;obtain ⟨t,rfl⟩:=rx;exact rule i t s _ _ ⟨.int (g i),H,I.tok _,⟨_,rfl⟩,q⟩
theorem uK:xB X (unaryOp .USub) (rU fun i=>.int (-i)):=WX fun _ _ _ _ _ q=>neg_int q
end
def FK:V→V→Bool
 |.non,.non=>true|.non,.int _=>true|.int _,.non=>true|.non,.bl _=>true|.bl _,.non=>true|.non,.str _=>true|.str _,.non=>true
 |.int _,.int _=>true|.bl _,.bl _=>true|.str _,.str _=>true|.byt _,.byt _=>true
 |.int _,.str _=>true|.str _,.int _=>true|.bl _,.str _=>true|.str _,.bl _=>true
 |_,_=>false
def W5:R2:=fun x y H Q=>FK x y=true∧Q (.bl (decide (x=y))) H
def W4:R2:=fun x y H Q=>FK x y=true∧Q (.bl (!decide (x=y))) H
theorem DY {i j:Int}:decide (V.int i=V.int j)=(i == j):=by
 rw [gz];simp
theorem EW {i j:Bool}:decide (V.bl i=V.bl j)=(i == j):=by
 rw [gz];simp
theorem DX {i j:Str}:decide (V.str i=V.str j)=(i == j):=by
 rw [gz];simp
theorem DZ {i j:Array UInt8}:decide (V.byt i=V.byt j)=(i.toList == j.toList):=by
 rw [gz];cases i;cases j;simp
section
variable {X:Cx} {a b c:Expr} {ta tb tc:TE} {pos:Pos}
theorem qO {pins:List (Addr×Obj)} {σ:St} {H:Hp} {s:Shared} {Q:VK} {k k':Bool} (I:Inv X pins σ H s) (q:Q (.bl k) H) (e:k=k'):EP X pins σ Q (.bool k') s:=by
 subst e;exact ⟨.bl k,H,I,rfl,q⟩
theorem kO:qH X (compareOp .Eq) W5:=by
 intro pins s σ H x y v u Q I rx ry h;obtain ⟨hs,q⟩:=h;cases x with
 |non =>
  cases rx;cases y with
  |non=>cases ry;exact PySem.EqNone.eq_none_none (qO I q (by simp))
  |bl j=>cases ry;exact PySem.EqNone.eq_none_bool (qO I q (by simp))
  |int j=>obtain ⟨t',rfl⟩:=ry;exact PySem.EqNone.eq_none_int (qO I q (by simp))
  |str j=>obtain ⟨t',rfl⟩:=ry;exact PySem.EqNone.eq_none_str (qO I q (by simp))
  |_=>exact absurd (show false=true from hs) aB
 |bl i =>
  cases rx;cases y with
  |non=>cases ry;exact PySem.EqNone.eq_bool_none (qO I q (by simp))
  |bl j=>cases ry;exact eq_bool (qO I q EW)
  |str j=>obtain ⟨t',rfl⟩:=ry;exact PySem.EqMixed.eq_bool_str (qO I q (by simp))
  |_=>exact absurd (show false=true from hs) aB
 |int i =>
  obtain ⟨t,rfl⟩:=rx;cases y with
  |non=>cases ry;exact PySem.EqNone.eq_int_none (qO I q (by simp))
  |int j=>obtain ⟨t',rfl⟩:=ry;exact eq_int (qO I q DY)
  |str j=>obtain ⟨t',rfl⟩:=ry;exact PySem.EqMixed.eq_int_str (qO I q (by simp))
  |_=>exact absurd (show false=true from hs) aB
 |str i =>
  obtain ⟨t,rfl⟩:=rx;cases y with
  |non=>cases ry;exact PySem.EqNone.eq_str_none (qO I q (by simp))
  |bl j=>cases ry;exact PySem.EqMixed.eq_str_bool (qO I q (by simp))
  |int j=>obtain ⟨t',rfl⟩:=ry;exact PySem.EqMixed.eq_str_int (qO I q (by simp))
  |str j=>obtain ⟨t',rfl⟩:=ry;exact eq_str (qO I q DX)
  |_=>exact absurd (show false=true from hs) aB
 |byt i =>
  obtain ⟨t,rfl⟩:=rx;cases y with
  |byt j=>obtain ⟨t',rfl⟩:=ry;exact PySem.W.eq_bytes (qO I q DZ)
  |_=>exact absurd (show false=true from hs) aB
 |_=>cases y<;>exact absurd (show false=true from hs) aB
theorem ZW:qH X (compareOp .NotEq) W4:=by
 intro pins s σ H x y v u Q I rx ry h;obtain ⟨hs,q⟩:=h;cases x with
 |non =>
  cases rx;cases y with
  |non=>cases ry;exact PySem.EqNone.ne_none_none (qO I q (by simp))
  |bl j=>cases ry;exact PySem.EqNone.ne_none_bool (qO I q (by simp))
  |int j=>obtain ⟨t',rfl⟩:=ry;exact PySem.EqNone.ne_none_int (qO I q (by simp))
  |str j=>obtain ⟨t',rfl⟩:=ry;exact PySem.EqNone.ne_none_str (qO I q (by simp))
  |_=>exact absurd (show false=true from hs) aB
 |bl i =>
  cases rx;cases y with
  |non=>cases ry;exact PySem.EqNone.ne_bool_none (qO I q (by simp))
  |bl j=>cases ry;exact ne_bool (qO I q (bu not EW))
  |str j=>obtain ⟨t',rfl⟩:=ry;exact PySem.EqMixed.ne_bool_str (qO I q (by simp))
  |_=>exact absurd (show false=true from hs) aB
 |int i =>
  obtain ⟨t,rfl⟩:=rx;cases y with
  |non=>cases ry;exact PySem.EqNone.ne_int_none (qO I q (by simp))
  |int j=>obtain ⟨t',rfl⟩:=ry;exact ne_int (qO I q (bu not DY))
  |str j=>obtain ⟨t',rfl⟩:=ry;exact PySem.EqMixed.ne_int_str (qO I q (by simp))
  |_=>exact absurd (show false=true from hs) aB
 |str i =>
  obtain ⟨t,rfl⟩:=rx;cases y with
  |non=>cases ry;exact PySem.EqNone.ne_str_none (qO I q (by simp))
  |bl j=>cases ry;exact PySem.EqMixed.ne_str_bool (qO I q (by simp))
  |int j=>obtain ⟨t',rfl⟩:=ry;exact PySem.EqMixed.ne_str_int (qO I q (by simp))
  |str j=>obtain ⟨t',rfl⟩:=ry;exact ne_str (qO I q (bu not DX))
  |_=>exact absurd (show false=true from hs) aB
 |byt i =>
  obtain ⟨t,rfl⟩:=rx;cases y with
  |byt j=>obtain ⟨t',rfl⟩:=ry;exact PySem.W.ne_bytes (qO I q (bu not DZ))
  |_=>exact absurd (show false=true from hs) aB
 |_=>cases y<;>exact absurd (show false=true from hs) aB
theorem Q1:qH X (compareOp .Lt) (Z7 fun i j=>.bl (decide (i<j))):=mM fun _ _ _ _ _ _ _ q=>lt_int q
theorem l9:qH X (compareOp .LtE) (Z7 fun i j=>.bl (decide (i≤j))):=mM fun _ _ _ _ _ _ _ q=>le_int q
theorem wA:qH X (compareOp .Gt) (Z7 fun i j=>.bl (decide (j<i))):=mM fun _ _ _ _ _ _ _ q=>gt_int q
theorem mB:qH X (compareOp .GtE) (Z7 fun i j=>.bl (decide (j≤i))):=mM fun _ _ _ _ _ _ _ q=>ge_int q
theorem O3:qH X (compareOp .In) (fun x y H Q=>∃i j,x=.str i∧y=.str j∧Q (.bl (!(Builtin.Str.occurrences j i 0 j.length 1).isEmpty)) H):=by
 intro pins s σ H x y v u Q I rx ry h;obtain ⟨i,j,rfl,rfl,q⟩:=h;obtain ⟨t,rfl⟩:=rx;obtain ⟨t',rfl⟩:=ry;exact in_str (qO I q rfl)
theorem UO:qH X (compareOp .Is) (fun x y H Q=>y=.non∧Q (.bl (decide (x=.non))) H):=by
 intro pins s σ H x y v u Q I rx ry h;obtain ⟨rfl,q⟩:=h;cases ry;refine is_none_gen (qO I q ?_);cases x<;>first
  | (cases rx;rfl)
  | (obtain ⟨t,rfl⟩:=rx;rfl)
theorem xI (b:Expr) {op:CmpOp} (h:op≠.In:=by decide) (h2:op≠.NotIn:=by decide):behindInMarks op b=false:=by
 have e1:(op == CmpOp.In)=false:=by cases op<;>first|rfl|exact absurd rfl h
 have e2:(op == CmpOp.NotIn)=false:=by cases op<;>first|rfl|exact absurd rfl h2
 cases b<;>simp [behindInMarks,e1,e2]
theorem S0 {op:CmpOp} {r:R2} (ho:qH X (compareOp op) r) (ha:PE X a ta) (hb:PE X b tb) (hm:behindInMarks op b=false):PE X (.Compare a [op] [b] pos) (cH r ta tb):=by
 intro pins s σ H Q I h;exact wpAny_Compare1 (wN ha hb I h fun v u s2 x y H2 I2 rx ry q=>ho pins s2 σ H2 x y v u Q I2 rx ry q) hm
def E2 (t:TE):TT:=fun σ H Q=>t σ H fun x H'=>∃k,x=.bl k∧Q k H'
theorem GH {op:CmpOp} {r:R2} (ho:qH X (compareOp op) r) (ha:PE X a ta) (hb:PE X b tb) (hm:behindInMarks op b=false):PT X (.Compare a [op] [b] pos) (E2 (cH r ta tb)):=by
 intro pins s σ H Q I h;refine wpAny_isTrue_Compare1 (jW (ha pins s σ H _ I h) fun v s1 ⟨x,H1,I1,r1,q1⟩=>jW (hb pins s1 σ H1 _ I1 q1) fun u s2 ⟨y,H2,I2,r2,q2⟩ =>
  jW (ho pins s2 σ H2 x y v u _ I2 r1 r2 q2) fun c s3 ⟨z,H3,I3,r3,k,e,q3⟩=>?_) hm
 subst e;cases r3;exact ge ⟨H3,I3,q3⟩
def UC (r r':R2) (ta tb tc:TE):TE:=fun σ H Q=>ta σ H fun x H1=>tb σ H1 fun y H2=>r x y H2 fun z H3=>∃k,z=.bl k∧
 (if k=true then tc σ H3 fun w' H4=>r' y w' H4 Q else Q (.bl false) H3)
theorem RJ {op op':CmpOp} {r r':R2} (ho:qH X (compareOp op) r) (ho':qH X (compareOp op') r') (ha:PE X a ta) (hb:PE X b tb) (hc:PE X c tc)
  (hm:lastMarks [op,op'] [b,c]=false:=by with_unfolding_all rfl):PE X (.Compare a [op,op'] [b,c] pos) (UC r r' ta tb tc):=by
 intro pins s σ H Q I h;refine Compare_chain (jW (ha pins s σ H _ I h) fun v s1 ⟨x,H1,I1,r1,q1⟩=>chain_link (jW (hb pins s1 σ H1 _ I1 q1) fun u s2 ⟨y,H2,I2,r2,q2⟩ =>
  jW (ho pins s2 σ H2 x y v u _ I2 r1 r2 q2) fun d s3 ⟨z,H3,I3,r3,k,e,q3⟩=>?_)) hm
 subst e;cases r3;refine ge ?_;cases k with
 |false=>exact ite_ff ⟨.bl false,H3,I3,rfl,q3⟩
 |true=>exact ite_tt (chain_last (jW (hc pins s3 σ H3 _ I3 q3) fun w' s4 ⟨z',H4,I4,r4,q4⟩=>ho' pins s4 σ H4 y z' u w' Q I4 r2 r4 q4))
theorem bQ:(sizeLine:Nat)<2 ^ 63:=by rw [sizeLine_eq];decide
theorem AQ:qH X (binaryOp .Add) (fun x y H Q=>∃i j,x=.str i∧y=.str j∧i.length+j.length≤sizeLine∧Q (.str (i++j)) H):=by
 intro pins s σ H x y v u Q I rx ry h;obtain ⟨i,j,rfl,rfl,hz,q⟩:=h;obtain ⟨t,rfl⟩:=rx;obtain ⟨t',rfl⟩:=ry;exact add_str (fun t' tk=>⟨.str (i++j),H,I.tok _,⟨_,rfl⟩,q⟩) hz
theorem QX {x:V} {us:List Value} (r:Vals [x] us):∃u,us=[u]∧RelV x u:=by
 cases r with
 |cons r1 r2=>cases r2;exact ⟨_,rfl,r1⟩
theorem u6 {x y:V} {us:List Value} (r:Vals [x,y] us):∃u w',us=[u,w']∧RelV x u∧RelV y w':=by
 cases r with
 |cons r1 r2 =>
  cases r2 with
  |cons r3 r4=>cases r4;exact ⟨_,_,rfl,r1,r3⟩
theorem P4 (hc:X.calm=true):yN X (.builtin "max") (fun xs H Q=>∃i j,xs=[.int i,.int j]∧Q (.int (if j>i then j else i)) H):=by
 intro pins s σ H xs us Q I r h;obtain ⟨i,j,rfl,q⟩:=h;obtain ⟨u,w',rfl,⟨t,rfl⟩,⟨t',rfl⟩⟩:=u6 r;refine max_two_ints (I.ok.hd hc) fun h' tk k=>⟨_,H,I.kept k,?_,q⟩
 by_cases hj:j>i
 ·rw [if_pos hj,if_pos hj];exact ⟨_,rfl⟩
 ·rw [if_neg hj,if_neg hj];exact ⟨_,rfl⟩
theorem B2 (hc:X.calm=true):yN X (.builtin "min") (fun xs H Q=>∃i j,xs=[.int i,.int j]∧Q (.int (if j<i then j else i)) H):=by
 intro pins s σ H xs us Q I r h;obtain ⟨i,j,rfl,q⟩:=h;obtain ⟨u,w',rfl,⟨t,rfl⟩,⟨t',rfl⟩⟩:=u6 r;refine min_two_ints (I.ok.hd hc) fun h' tk k=>⟨_,H,I.kept k,?_,q⟩
 by_cases hj:j<i
 ·rw [if_pos hj,if_pos hj];exact ⟨_,rfl⟩
 ·rw [if_neg hj,if_neg hj];exact ⟨_,rfl⟩
theorem P5:yN X (.type "int") (fun xs H Q=>(∃i,xs=[.int i]∧Q (.int i) H)∨∃k,xs=[.bl k]∧Q (.int (if k then 1 else 0)) H):=by
 intro pins s σ H xs us Q I r h
 rcases h with ⟨i,rfl,q⟩|⟨k,rfl,q⟩
 ·obtain ⟨u,rfl,t,rfl⟩:=QX r;exact call_int_int ⟨.int i,H,I,⟨_,rfl⟩,q⟩
 ·obtain ⟨u,rfl,r1⟩:=QX r;cases r1;exact call_int_bool ⟨.int (if k then 1 else 0),H,I.tok _,⟨_,rfl⟩,q⟩
end
structure ObjM (h:Heap) (x dx C:Addr) (mA:Str→Option Value):Prop where
 obj:h.get? x=some (PySem.W.instObj C dx)
 ns:h.Ns1 dx mA
 ne:dx≠x
theorem PB {h:Heap} {dx:Addr} {mA:Str→Option Value} (n:h.Ns1 dx mA):∃od,h.get? dx=some od∧∀name,PySem.W.lookIn name od=some (mA name):=by
 obtain ⟨o,es,ep,ho,hd,hk,_,hm⟩:=n;refine ⟨o,ho,fun name=>?_⟩;have e:=hm name;unfold nsFind findBy at e;rw [← Array.find?_toList] at e;unfold PySem.W.lookIn;rw [hd]
 dsimp only
 split
 ·rename_i y q;rw [q] at e;exact bu some e
 ·rename_i q;rw [q] at e;have a:es.toList.any (·.refKey)=false:=by
   rw [List.any_eq_false];intro y hy;obtain ⟨z,t,hkey⟩:=hk y (Array.mem_toList_iff.mp hy);simp [DictEntry.refKey,hkey]
  have a':¬es.toList.any (·.refKey)=true:=by rw [a];exact aB
  rw [if_neg a'];exact bu some e
variable {C:Addr}
theorem ObjM.look {h:Heap} {x dx:Addr} {mA:Str→Option Value} (I:ObjM h x dx C mA):∃od,PySem.W.InstAt h x (PySem.W.instObj C dx) C (some od)∧∀name,PySem.W.lookIn name od=some (mA name) :=
 let ⟨od,ho,hl⟩:=PB I.ns
 ⟨od,⟨I.obj,rfl,rfl,ho⟩,hl⟩
section
variable {prog:Program} {w:World} {A:Around} {E:Value→Shared→Prop} {s:Shared} {K:PySem.W.Frag} {x dx C f:Addr} {mA:Str→Option Value} {name:Str} {v:Value}
theorem TR {expr:Bool} {Q:Value→Shared→Prop} (X:K.In s.heap) (I:ObjM s.heap x dx C mA) (hg:PySem.W.plainGet K C name=true) (hh:PySem.W.hasDictIn K C=true)
  (ha:PySem.W.findIn K (.ref C) name=some none) (hv:mA name=some v) (hv':PySem.W.handedIn v=true) (h:Q v {s with toks:=s.toks+1}) :
  wpAny (model prog w) A (getAttr (.ref x) name expr) Q E s:=by
 obtain ⟨od,J,hl⟩:=I.look;exact PySem.W.get_value X J (PySem.W.plainGet_of hg).1 (PySem.W.findObj_own hh ha rfl (by rw [hl,hv])) hv' h
theorem RY {pl:Sem Bool} {Q:Value×List Value→Shared→Prop} (X:K.In s.heap) (I:ObjM s.heap x dx C mA) (hg:PySem.W.plainGet K C name=true)
  (hf:PySem.W.findIn K (.ref C) name=some (some (.ref f))) (ht:PySem.W.isFn K (.ref f)=true) (hv:mA name=none) (h:Q (.ref f,[.ref x]) s) :
  wpAny (model prog w) A (getMethod (.ref x) name pl) Q E s:=by
 obtain ⟨od,J,hl⟩:=I.look;exact PySem.W.method_fn X J (PySem.W.plainGet_of hg).1 (PySem.W.plainGet_of hg).2 hf (gt.mp ht) (by show (PySem.W.lookIn name od).map (·.isSome)=some false;rw [hl,hv];rfl) h
theorem SM {ns:List Str} {Q:Unit→Shared→Prop} (X:K.In s.heap) (I:ObjM s.heap x dx C mA)
  (hs:PySem.W.findIn K (.ref C) "__setattr__"=some (some (.builtin "object.__setattr__"))) (hp:PySem.W.plainOver K C=true) (ht:PySem.W.takerIn K C name=some none) (hh:PySem.W.hasDictIn K C=true)
  (hw:PySem.Within mA ns) (hsz:ns.length≤sizeLine)
  (h:∀h',ObjM h' x dx C (fun y=>if y=name then some v else mA y)→Heap.SameBut dx s.heap h'→Q () {s with heap:=h',toks:=s.toks+2}) :
  wpAny (model prog w) A (setAttr (.ref x) name v) Q E s:=by
 obtain ⟨od,J,hl⟩:=I.look;refine PySem.W.set_plain X J hs (PySem.W.osa_open (s:={s with toks:=s.toks+1}) (r:=none) X J hp ht fun b=>?_);obtain ⟨cd,hc,hd'⟩:=PySem.W.any_some hh;have hx:s.heap.get? x=some ⟨.ref C,some dx,.plain,#[]⟩:=I.obj;refine ag (aQ (ag (ag (wpAny_loadPart hx (ag (PySem.W.Looks.here (s:={s with toks:=s.toks+1}) (PySem.W.looks_clsIn X hc) ?_))))));rw [hd'];refine aQ (a:=some dx) (ag (aQ (ag ?_)));refine wpAny_nsSet1 (s:={s with toks:=s.toks+1}) I.ns fun h' hn2 hs2=>?_
 obtain ⟨oD,esD,epD,hoD,hdD,hcD⟩:=hn2.count (PySem.Within.cons name v hw);refine ag (wpAny_lookBehind hoD (by rw [hdD];exact pastItsLine_dict (aI hcD (by rw [bz];omega))) ?_);exact aQ (h _ ⟨(hs2.2 _ (Ne.symm I.ne)).trans I.obj,hn2,I.ne⟩ hs2)
theorem RT {R:Result→Shared→Prop} {vs:List Value} {kw:List (Str×Value)} (X:K.In s.heap) (hm:PySem.W.makesIn K C=true)
  (hi:PySem.W.findIn K (.ref C) "__init__"=some (some (.ref f))) (hf:PySem.W.typeIn K (.ref f)=some (.type "function"))
  (h:codeAny (model prog w) (A.under (.builtin "type.__call__" ⟨.ref C::vs,kw⟩)) (.call (.ref f) ⟨.ref (s.heap.objs.size+1)::vs,kw⟩) (PySem.W.InitBack (s.heap.objs.size+1) R)
   {s with heap:=(s.heap.push PySem.W.emptyDict).push (PySem.W.instObj C s.heap.objs.size)}) :
  codeAny (model prog w) A (.call (.ref C) ⟨vs,kw⟩) R s:=by
 obtain ⟨hh,g,d,t,os⟩:=s;exact PySem.W.make_core (PySem.W.makes_of X hm) (gk X hi) (fun self=>PySem.W.bind_fn X self hf) (.inl rfl) h
end
def jL (f:Str) (v:V):List (Str×V)→List (Str×V)
 |[]=>[(f,v)]
 | (g,x)::r=>if g=f then (g,v)::r else (g,x)::jL f v r
theorem vY (f g:Str) (v:V):∀fs:List (Str×V),(jL f v fs).lookup g=if g=f then some v else fs.lookup g
 |[]=>by
  show List.lookup g [(f,v)]=_
  by_cases h:g=f
  ·have hb:(g == f)=true:=gt.mpr h;simp only [List.lookup,hb,if_pos h]
  ·have hb:(g == f)=false:=cp.mpr h;simp only [List.lookup,hb,if_neg h]
 | (k,x)::r=>by
  have ih:=vY f g v r;rw [show jL f v ((k,x)::r)=(if k=f then (k,v)::r else (k,x)::jL f v r) from rfl]
  by_cases hk:k=f
  ·rw [if_pos hk]
   by_cases h:g=k
   ·have hb:(g == k)=true:=gt.mpr h;simp only [List.lookup,hb,if_pos (h.trans hk)]
   ·have hb:(g == k)=false:=cp.mpr h;simp only [List.lookup,hb,if_neg (fun e:g=f=>h (e.trans hk.symm))]
  ·rw [if_neg hk]
   by_cases h:g=k
   ·have hb:(g == k)=true:=gt.mpr h;simp only [List.lookup,hb,if_neg (fun e:g=f=>hk (h.symm.trans e))]
   ·have hb:(g == k)=false:=cp.mpr h;simp only [List.lookup,hb];exact ih
theorem tF (f:Str) (v:V):∀fs:List (Str×V),f∈(jL f v fs).map (·.1)∧∀g,g∈fs.map (·.1)→g∈(jL f v fs).map (·.1)
 |[]=>⟨by simp [jL],fun g h=>by simp at h⟩
 | (k,x)::r=>by
  obtain ⟨i1,i2⟩:=tF f v r;rw [show jL f v ((k,x)::r)=(if k=f then (k,v)::r else (k,x)::jL f v r) from rfl]
  by_cases hk:k=f
  ·rw [if_pos hk];subst hk;exact ⟨by simp,fun g h=>by simpa using h⟩
  ·rw [if_neg hk];refine ⟨?_,fun g h=>?_⟩
   ·rw [fi];exact aK _ i1
   ·rw [fi] at h ⊢
    rcases aq.mp h with e|e
    ·exact aq.mpr (.inl e)
    ·exact aK _ (i2 g e)
theorem zK (f:Str) (v:V):∀fs:List (Str×V),(jL f v fs).length≤fs.length+1
 |[]=>by simp [jL]
 | (k,x)::r=>by
  have ih:=zK f v r;rw [show jL f v ((k,x)::r)=(if k=f then (k,v)::r else (k,x)::jL f v r) from rfl]
  by_cases hk:k=f
  ·rw [if_pos hk,bz,bz];omega
  ·rw [if_neg hk,bz,bz];omega
theorem RelO.some_of {v:V} {o:Option Value} (r:RelO (some v) o):∃u,o=some u∧RelV v u:=by
 cases o with
 |none=>exact (show False from r).elim
 |some u=>exact ⟨u,rfl,r⟩
theorem RelO.none_of {o:Option Value} (r:RelO none o):o=none:=by
 cases o with
 |none=>rfl
 |some u=>exact (show False from r).elim
theorem PM {v:V} {u:Value} (r:RelV v u):PySem.W.handedIn u=true:=by
 cases v with
 |non=>cases (show u=Value.none from r);rfl
 |bl b=>cases (show u=Value.bool b from r);rfl
 |int i=>obtain ⟨t,e⟩:=(show ∃t,u=Value.int i t from r);cases e;rfl
 |str x=>obtain ⟨t,e⟩:=(show ∃t,u=Value.str x t from r);cases e;rfl
 |byt b=>obtain ⟨t,e⟩:=(show ∃t,u=Value.bytes b t from r);cases e;rfl
 |flt b=>obtain ⟨t,e⟩:=(show ∃t,u=Value.float b t from r);cases e;rfl
 |ref a=>cases (show u=Value.ref a from r);rfl
 |ty n=>cases (show u=Value.type n from r);rfl
section
variable {P:Program} {w:World} {H H':Hp} {h h':Heap} {a C dx:Addr} {fs fs':List (Str×V)}
theorem uF (hok:HOk P w H h) (e:H a=some (.ins C dx fs)):∃mA,ObjM h a dx C mA∧(∀f,RelO (fs.lookup f) (mA f))∧PySem.Within mA (fs.map (·.1))∧fs.length≤1000∧H dx=some (.own a):=by
 obtain ⟨d,z,ne,ob,mA,n,r,q⟩:=(show ObjOk P w H h a (.ins C dx fs) from hok a _ e);exact ⟨mA,⟨ob,n,ne⟩,r,q,z,d⟩
end
structure Cls (K:PySem.W.Frag) (C:Addr):Prop where
 pg:PySem.W.plainGet K C Str.empty=true
 hd:PySem.W.hasDictIn K C=true
 po:PySem.W.plainOver K C=true
 sa:PySem.W.findIn K (.ref C) "__setattr__"=some (some (.builtin "object.__setattr__"))
theorem Cls.get {K:PySem.W.Frag} (c:Cls K C) (f:Str):PySem.W.plainGet K C f=true:=c.pg
def NoAttr (K:PySem.W.Frag) (C:Addr) (f:Str):Prop:=PySem.W.findIn K (.ref C) f=some none
theorem NoAttr.taker {K:PySem.W.Frag} {f:Str} (n:NoAttr K C f):PySem.W.takerIn K C f=some none:=by
 unfold PySem.W.takerIn;rw [show PySem.W.findIn K (.ref C) f=some none from n];rfl
structure Meth (K:PySem.W.Frag) (C:Addr) (m:Str) (f:Addr):Prop where
 at_:PySem.W.findIn K (.ref C) m=some (some (.ref f))
 fn:PySem.W.isFn K (.ref f)=true
 kp:PySem.W.keepIn K (.ref f)=true
section
variable {X:Cx} {pins:List (Addr×Obj)} {σ:St} {H:Hp} {s:Shared} {a C dx:Addr} {fs:List (Str×V)} {f:Str} {v:V} {A:Around} {E:Value→Shared→Prop}
theorem OG {b:Bool} {Q:Value→Shared→Prop} (I:Inv X pins σ H s) (e:H a=some (.ins C dx fs)) (c:Cls X.K C) (n:NoAttr X.K C f) (l:fs.lookup f=some v)
  (h:∀u s',Inv X pins σ H s'→RelV v u→Q u s'):wpAny (model X.prog X.w) A (getAttr (.ref a) f b) Q E s:=by
 obtain ⟨mA,O,r,_,_,_⟩:=uF I.hok e;obtain ⟨u,hu,ru⟩:=RelO.some_of (v:=v) (o:=mA f) (by rw [← l];exact r f);exact TR I.kIn O (c.get f) c.hd n hu (PM ru) (h u _ (I.tok _) ru)
theorem iT {m:Str} {g:Addr} {pl:Sem Bool} {Q:Value×List Value→Shared→Prop} (I:Inv X pins σ H s) (e:H a=some (.ins C dx fs)) (c:Cls X.K C) (k:Meth X.K C m g) (l:fs.lookup m=none)
  (h:Q (.ref g,[.ref a]) s):wpAny (model X.prog X.w) A (getMethod (.ref a) m pl) Q E s:=by
 obtain ⟨mA,O,r,_,_,_⟩:=uF I.hok e;have hn:mA m=none:=RelO.none_of (by rw [← l];exact r m);exact RY I.kIn O (c.get m) k.at_ k.fn hn h
theorem N1 {y:V} {u:Value} {Q:Unit→Shared→Prop} (I:Inv X pins σ H s) (e:H a=some (.ins C dx fs)) (c:Cls X.K C) (n:NoAttr X.K C f) (hl:fs.length<1000) (ry:RelV y u)
  (h:∀s',Inv X pins σ (upd H a (.ins C dx (jL f y fs))) s'→Q () s'):wpAny (model X.prog X.w) A (setAttr (.ref a) f u) Q E s:=by
 obtain ⟨mA,O,r,wi,_,ho⟩:=uF I.hok e;have hz:(fs.map (·.1)).length≤sizeLine:=by rw [ae,sizeLine_eq];omega
 refine SM I.kIn O c.sa c.po n.taker c.hd wi hz fun h' O' sb=>h _ ?_
 have hd:∃o,h'.get? dx=some o:=let ⟨o,_,_,e',_⟩:=O'.ns;⟨o,e'⟩
 refine I.write (x:=a) (e:=dx) (by rw [e];exact True.intro) (.inr ho) (fun b q hb z=>(sb.2 b hb).trans z) hd ?_;refine ⟨by rw [jX O.ne];exact ho,?_,O.ne,O'.obj,_,O'.ns,fun g=>?_,fun g hg=>?_⟩
 ·have:=zK f y fs;omega
 ·show RelO ((jL f y fs).lookup g) (if g=f then some u else mA g);rw [vY]
  by_cases q:g=f
  ·rw [if_pos q,if_pos q];exact ry
  ·rw [if_neg q,if_neg q];exact r g
 ·by_cases q:g=f
  ·rw [q];exact (tF f y fs).1
  ·refine (tF f y fs).2 g (wi g fun z=>hg ?_);show (if g=f then some u else mA g)=none;rw [if_neg q];exact z
theorem Inv.made (I:Inv X pins σ H s):Inv X pins σ (upd (upd H s.heap.objs.size (.own (s.heap.objs.size+1))) (s.heap.objs.size+1) (.ins C s.heap.objs.size []))
  {s with heap:=(s.heap.push PySem.W.emptyDict).push (PySem.W.instObj C s.heap.objs.size)}:=by
 have e1:(s.heap.push PySem.W.emptyDict).get? s.heap.objs.size=some PySem.W.emptyDict:=az s.heap rfl;have e2:((s.heap.push PySem.W.emptyDict).push (PySem.W.instObj C s.heap.objs.size)).get? (s.heap.objs.size+1)=some (PySem.W.instObj C s.heap.objs.size):=by
  have:=az (s.heap.push PySem.W.emptyDict) (o:=PySem.W.instObj C s.heap.objs.size) rfl
  rwa [dh] at this
 have e3:(s.heap.push PySem.W.emptyDict).Ns s.heap.objs.size (fun _=>none):=⟨PySem.W.emptyDict,#[],_,e1,rfl,(fun e he=>absurd he (by simp)),fun _=>rfl⟩;have I1:=I.laid (a:=s.heap.objs.size) (o:=.own (s.heap.objs.size+1)) (h':=s.heap.push PySem.W.emptyDict) (t':=s.toks) (fun b u q=>ak _ q) (aj _) ⟨_,e1⟩;refine I1.laid (a:=s.heap.objs.size+1) (o:=.ins C s.heap.objs.size []) (t':=s.toks) (fun b u q=>ak _ q) (Nat.le_of_eq (dh _ _)) ?_;have ne:s.heap.objs.size≠s.heap.objs.size+1:=aP (ii _);refine ⟨by rw [jX ne,jE],aO _,ne,e2,fun _=>none,(Heap.Ns1.of_empty e3).at fun o q=>ak _ q,fun _=>True.intro,fun y hy=>absurd rfl hy⟩
theorem T3 {prog:Program} {w:World} {env:Env} {e:Expr} {f:Str} {pos:Pos} {s:Shared} {Q:Value→Shared→Prop} (hb:attributeBase e f env (eval e env)=eval e env)
  (h:wpAny (model prog w) A (eval e env) (fun o s₁=>wpAny (model prog w) A (getAttr o f true) Q E s₁) E s):wpAny (model prog w) A (eval (.Attribute e f pos) env) Q E s :=
 Attribute_any_ h (by rw [arm_eval_Attribute,hb])
end
def FJ (K:PySem.W.Frag) (ta:TE) (f:Str):TE:=fun σ H Q=>ta σ H fun x H1=>∃a C dx fs v,x=.ref a∧H1 a=some (.ins C dx fs)∧Cls K C∧NoAttr K C f∧fs.lookup f=some v∧Q v H1
def WD (K:PySem.W.Frag) (ta tv:TE) (f:Str):TS:=fun D σ H=>tv σ H fun y H1=>ta σ H1 fun x H2=>∃a C dx fs,x=.ref a∧H2 a=some (.ins C dx fs)∧Cls K C∧NoAttr K C f∧fs.length<1000∧
 D.nx σ (upd H2 a (.ins C dx (jL f y fs)))
section
variable {X:Cx} {o e value:Expr} {f:Str} {pos pos' tpos:Pos} {ta tv:TE}
theorem GL (he:PE X e ta) (hb:attributeBase e f X.env (eval e X.env)=eval e X.env):PE X (.Attribute e f pos) (FJ X.K ta f):=by
 intro pins s σ H Q I h;refine T3 hb (jW (he pins s σ H _ I h) fun u s1 ⟨x,H1,I1,rx,a,C,dx,fs,v,ex,ea,c,n,l,q⟩=>?_);subst ex;obtain rfl:u=Value.ref a:=rx;exact OG I1 ea c n l fun u' s2 I2 ru=>⟨v,H1,I2,ru,q⟩
theorem vJ (ha:PE X o ta) (hv:PE X value tv) (hs:swapsWith value (some (.Attribute o f pos')) pos.line X.env=pure false):PS X (.Assign [.Attribute o f pos'] value pos) (WD X.K ta tv f):=by
 intro pins s σ H D I h;refine plainObj_wpAny_Assign_Attribute (jW (hv pins s σ H _ I h) fun u s1 ⟨y,H1,I1,ry,q⟩=>jW (ha pins s1 σ H1 _ I1 q) fun ov s2 ⟨x,H2,I2,rx,a,C,dx,fs,ex,ea,c,n,l,q2⟩=>?_) hs;subst ex;obtain rfl:ov=Value.ref a:=rx;exact N1 I2 ea c n l ry fun s3 I3=>⟨σ,_,I3,q2⟩
end
section
variable {X:Cx} {pins:List (Addr×Obj)} {σ:St} {H:Hp} {s:Shared} {A:Around} {E:Value→Shared→Prop} {Q:Value→Shared→Prop} {c:Value} {b:Bool}
end
end L2
namespace L2
open PySem PySem.Spec PyProof.Rows
structure Room (k:Nat) (A:Around):Prop where
 hd:A.handled=none
 dp:A.depth+3*k+5<recursionLimit
 un:A.units+16*k+200<cLine
variable {k:Nat} {A:Around}
theorem Room.mono {j:Nat} (r:Room k A) (h:j≤k):Room j A:=⟨r.hd,by have:=r.dp;omega,by have:=r.un;omega⟩
theorem Room.deeper (r:Room (k+1) A) (env:Env):Room k (A.deeper env) :=
 ⟨r.hd,by have:=r.dp;show A.depth+1+3*k+5<_;omega,by have:=r.un;show A.units+3+16*k+200<_;omega⟩
variable {us:List Value}
theorem OB {C:Addr} {kw:List (Str×Value)}:(A.under (.builtin "type.__call__" ⟨.ref C::us,kw⟩)).depth=A.depth+1:=by
 first|rfl|simp [Around.under,Code.weight,Code.isCreation,Code.isGuard,Code.isCaller,Code.frames,Code.isFrame,guardIds]
theorem OA {C:Addr} {kw:List (Str×Value)}:(A.under (.builtin "type.__call__" ⟨.ref C::us,kw⟩)).units=A.units+1:=by
 first|rfl|simp [Around.under,Code.cUnits,Code.frames,Code.isFrame]
theorem Room.make (r:Room (k+1) A) (C:Addr) (us:List Value) (kw:List (Str×Value)):Room k (A.under (.builtin "type.__call__" ⟨.ref C::us,kw⟩)) :=
 ⟨r.hd,by have:=r.dp;rw [OB];omega,by have:=r.un;rw [OA];omega⟩
theorem Room.depth (r:Room k A):A.depth<recursionLimit:=by have:=r.dp;omega
theorem Room.units (r:Room k A):A.units+64<cLine:=by have:=r.un;omega
def Z0:TA:=fun _ H Q=>Q [] H
def vZ (ta:TE) (tr:TA):TA:=fun σ H Q=>ta σ H fun x H1=>tr σ H1 fun xs H2=>Q (x::xs) H2
section
variable {X:Cx} {e:Expr} {es:List Expr} {te:TE} {t:TA} {pos:Pos}
theorem jD:PA X [] Z0:=fun _ _ _ _ H Q I h=>Calls.spliced_nil ⟨[],H,I,.nil,h⟩
theorem jB (ha:PE X e te) (hr:PA X es t) (hs:starEach (e::es) X.env=(false,eval e X.env)::starEach es X.env:=by rfl):PA X (e::es) (vZ te t):=by
 intro pos pins s σ H Q I h;rw [hs];show wpAny _ _ (spliced ((false,eval e X.env)::backTo pos (starEach es X.env))) _ _ s;refine Calls.spliced_cons (jW (ha pins s σ H _ I h) fun u s1 ⟨x,H1,I1,r1,q1⟩=>?_);exact jW (hr pos pins s1 σ H1 _ I1 q1) fun us s2 ⟨xs,H2,I2,r2,q2⟩=>⟨x::xs,H2,I2,.cons r1 r2,q2⟩
def V5 (t:TA):TE:=fun σ H Q=>t σ H fun xs H1=>xs.length≤sizeLine∧∀p,H1 p=none→Q (.ref p) (upd H1 p (.tup xs))
def V8 (t:TA):TE:=fun σ H Q=>t σ H fun xs H1=>xs.length≤sizeLine∧∀p,H1 p=none→Q (.ref p) (upd H1 p (.lst xs))
theorem kD {x1} (h:PA X es t):PE X (.Tuple es x1 pos) (V5 t):=by
 intro pins s σ H Q I hq;refine wpAny_Tuple_spliced (jW (h pos pins s σ H _ I hq) fun us s1 ⟨xs,H1,I1,r,z,q⟩=>⟨by rw [← r.length];exact z,?_⟩);have hf:H1 s1.heap.objs.size=none:=I1.hok.fresh (aj _);refine ⟨.ref s1.heap.objs.size,upd H1 s1.heap.objs.size (.tup xs),I1.laid (t':=s1.toks) (fun b u e=>ak _ e) (aj _) ?_,rfl,q _ hf⟩;exact ⟨z,us,r,⟨_,az _ rfl,rfl,_,rfl⟩⟩
theorem kW (h:PA X es t):PE X (.List es pos) (V8 t):=by
 intro pins s σ H Q I hq;refine wpAny_List_spliced (jW (h pos pins s σ H _ I hq) fun us s1 ⟨xs,H1,I1,r,z,q⟩=>⟨by rw [← r.length];exact z,?_⟩);have hf:H1 s1.heap.objs.size=none:=I1.hok.fresh (aj _);refine ⟨.ref s1.heap.objs.size,upd H1 s1.heap.objs.size (.lst xs),I1.laid (t':=s1.toks) (fun b u e=>ak _ e) (aj _) ?_,rfl,q _ hf⟩;exact ⟨z,us,0,r,az _ rfl⟩
end
abbrev Sp:=List V→Hp→VK→XK→Prop
abbrev yG:=List Env→Hp→Shared→XK→Value→Shared→Prop
structure Env0 (P:Program) (w:World) (K:PySem.W.Frag) (mg:Str→Option Value) (base:Heap) (A:Around) (outer:List Env) (s:Shared) (H:Hp):Prop where
 frames:A.frames=some outer
 mod:Mod K mg base
 bs:∀b o,base.get? b=some o→s.heap.get? b=some o∧H b=none
 bsz:base.objs.size≤s.heap.objs.size
 funs:s.heap.FunFrames base outer
 frf:∀b∈kP outer,H b=none
 hok:HOk P w H s.heap
 bare:AllBare s.gens
def CE (outer:List Env) (P:Program) (w:World) (H:Hp) (s:Shared) (Q:VK) (u:Value) (s':Shared):Prop :=
 ∃v H',s'.os=s.os∧AllBare s'.gens∧Un (kP outer) [] H H' s.heap s'.heap∧HOk P w H' s'.heap∧RelV v u∧Q v H'
def CR (CX:yG) (outer:List Env) (P:Program) (w:World) (H:Hp) (s:Shared) (Q:VK) (E:XK) (r:Result) (s':Shared):Prop :=
 match r with
 |.ok (.ret u)=>CE outer P w H s Q u s'
 |.ok _=>False
 |.error e=>CX outer H s E e s'
structure FnOk (P:Program) (w:World) (K:PySem.W.Frag) (mg:Str→Option Value) (base:Heap) (CX:yG) (k:Nat) (f:Addr) (fd:FuncData) (ps:List Str) (sp:Sp):Prop where
 len:∀vs H Q E,sp vs H Q E→vs.length=ps.length
 run:∀(A:Around) (outer:List Env) (s:Shared) (H:Hp) (args:Args) (us:List Value) (vs:List V) (Q:VK) (E:XK),Room k A→Env0 P w K mg base A outer s H→BindsTo s fd args (ps.zip us)→Vals vs us→sp vs H Q E→
  codeAny (model P w) A (.call (.ref f) args) (CR CX outer P w H s Q E) s
variable {P:Program} {w:World} {K:PySem.W.Frag} {mg:Str→Option Value} {base:Heap} {CX:yG} {f:Addr} {ps:List Str}
theorem FnOk.imp {fd:FuncData} {sp sp':Sp} (F:FnOk P w K mg base CX k f fd ps sp)
  (h:∀vs H Q E,sp' vs H Q E→sp vs H Q E):FnOk P w K mg base CX k f fd ps sp' :=
 ⟨fun vs H Q E q=>F.len vs H Q E (h _ _ _ _ q),fun A outer s H args us vs Q E hr he hb hv hs=>F.run A outer s H args us vs Q E hr he hb hv (h _ _ _ _ hs)⟩
theorem Env0.make {outer:List Env} {s:Shared} {H:Hp} (e:Env0 P w K mg base A outer s H) (C:Addr) (us:List Value) (kw:List (Str×Value)) :
  Env0 P w K mg base (A.under (.builtin "type.__call__" ⟨.ref C::us,kw⟩)) outer s H:=⟨by first|exact e.frames|(simpa [Around.under,Code.envs,Code.isFrame,pushEnvs] using e.frames),e.mod,e.bs,e.bsz,e.funs,e.frf,e.hok,e.bare⟩
section
variable {X:Cx} {pins:List (Addr×Obj)} {σ:St} {H:Hp} {s s':Shared}
theorem Inv.env0 (I:Inv X pins σ H s):Env0 X.prog X.w X.K X.mg X.base X.A X.stack s H :=
 ⟨I.ok.frames,I.ok.mod,I.bs,aI I.ok.bsz I.sz,I.stack,I.stkFree,I.hok,I.bare⟩
theorem Inv.after {Q:VK} {u:Value} (I:Inv X pins σ H s) (h:CE X.stack X.prog X.w H s Q u s'):EP X pins σ Q u s':=by
 obtain ⟨v,H',os,bare,un,hok,r,q⟩:=h;obtain ⟨hh,g,d,t,os'⟩:=s';obtain rfl:os'=s.os:=os;exact ⟨v,H',I.call (h':=hh) (g':=g) (d':=d) (t':=t) (ch:=[]) un hok bare (fun b z=>absurd z (by simp)),r,q⟩
end
def lX (sp:Sp) (dvs:List V) (E:XK) (t:TA):TE:=fun σ H Q=>t σ H fun vs H1=>sp (vs++dvs) H1 Q E
def lV (C:Addr) (m:Str) (sp:Sp) (dvs:List V) (E:XK) (ta:TE) (t:TA):TE:=fun σ H Q=>ta σ H fun x H1=>∃a dx fs,x=.ref a∧H1 a=some (.ins C dx fs)∧fs.lookup m=none∧
 t σ H1 fun vs H2=>sp (x::(vs++dvs)) H2 Q E
def E3 (C:Addr) (sp:Sp) (dvs:List V) (E:XK) (t:TA):TE:=fun σ H Q=>t σ H fun vs H1=>∀x dx,H1 x=none→H1 dx=none→dx≠x→
 sp (.ref x::(vs++dvs)) (upd (upd H1 dx (.own x)) x (.ins C dx [])) (fun v H2=>v=.non∧Q (.ref x) H2) E
def Binds (K:PySem.W.Frag) (fd:FuncData) (ps:List Str) (ds:List Value):Prop :=
 ∀(s:Shared) (us:List Value),K.In s.heap→(us++ds).length=ps.length→BindsTo s fd ⟨us,[]⟩ (ps.zip (us++ds))
theorem Binds.all {fd:FuncData} (h:∀us:List Value,us.length=ps.length→bindArgs fd ⟨us,[]⟩=pure (ps.zip us)):Binds K fd ps []:=fun s us _ hl=>by
 rw [bo] at hl ⊢;exact .of_eq (h us hl)
def bS (CX:yG) (X:Cx) (E:XK):Prop:=∀(pins:List (Addr×Obj)) (σ:St) (H:Hp) (s:Shared) (e:Value) (s':Shared),Inv X pins σ H s→CX X.stack H s E e s'→X.xe e s'
section
variable {X:Cx} {CX:yG} {k:Nat} {f C:Addr} {fd:FuncData} {ps:List Str} {sp:Sp} {dvs:List V} {ds:List Value} {E:XK} {x m:Str} {p pos apos:Pos} {e o:Expr} {es:List Expr} {ta:TE} {t:TA}
theorem fO {pins:List (Addr×Obj)} {σ:St} {H:Hp} {s:Shared} {Q:VK} {us:List Value} {vs:List V} (F:FnOk X.prog X.w X.K X.mg X.base CX k f fd ps sp) (hr:Room k X.A) (hb:Binds X.K fd ps ds) (hd:Vals dvs ds) (hx:bS CX X E)
  (I:Inv X pins σ H s) (r:Vals vs us) (h:sp (vs++dvs) H Q E):wpAny (model X.prog X.w) X.A (call (.ref f) us) (EP X pins σ Q) X.xe s:=by
 have r2:Vals (vs++dvs) (us++ds):=r.append hd;have hl:(us++ds).length=ps.length:=by rw [← r2.length];exact F.len _ _ _ _ h
 refine wpAny_call (ie (F.run X.A X.stack s H ⟨us,[]⟩ (us++ds) (vs++dvs) Q E hr I.env0 (hb s us I.kIn hl) r2 h) fun r s' hq=>?_);cases r with
 |error e=>exact hx pins σ H s e s' I hq
 |ok fl =>
  cases fl with
  |ret u=>exact I.after hq
  |next=>exact False.elim hq
  |brk=>exact False.elim hq
  |cont=>exact False.elim hq
theorem S3 (F:FnOk X.prog X.w X.K X.mg X.base CX k f fd ps sp) (hr:Room k X.A) (hg:Gl X x) (hm:X.mg x=some (.ref f)) (hk:PySem.W.keepIn X.K (.ref f)=true) (hb:Binds X.K fd ps ds) (hd:Vals dvs ds) (hx:bS CX X E)
  (ha:PA X (e::es) t) (hdb:(x == ("__debug__":Str))=false:=by decide) (he:starEach (e::es) X.env=(false,eval e X.env)::starEach es X.env:=by rfl) (hpl:(backTo pos (starEach es X.env)).any (·.1)=false:=by rfl) :
  PE X (.Call (.Name x p) (e::es) [] pos) (lX sp dvs E t):=by
 intro pins s σ H Q I h;refine dz (bL I hg hm ?_ hdb);refine cv (h₀:=X.base) I.ok.mod.kin hk (jW (ha pos pins s σ H _ I h) fun us s1 ⟨vs,H1,I1,r,q⟩=>⟨I1.kIn,?_⟩) he hpl;exact fO F hr hb hd hx I1 r q
theorem SW {pl:Sem Bool} (he:PE X o ta) (c:Cls X.K C) (hm:Meth X.K C m f) (F:FnOk X.prog X.w X.K X.mg X.base CX k f fd ps sp) (hr:Room k X.A) (hb:Binds X.K fd ps ds) (hd:Vals dvs ds) (hx:bS CX X E) (ha:PA X (e::es) t)
  (hst:starEach (e::es) X.env=(false,eval e X.env)::starEach es X.env:=by rfl) (hpl:(backTo pos (starEach es X.env)).any (·.1)=false:=by rfl)
  (ht:eval (.Call (.Attribute o m apos) (e::es) [] pos) X.env=(do
   let ov ← eval o X.env
   standAt apos.atName
   let (f,first) ← holding [ov] (getMethod ov m pl)
   callWith pos f first (backTo pos (starEach (e::es) X.env)) (backToKw pos (keywordEach [] X.env))):=by rfl) :
  PE X (.Call (.Attribute o m apos) (e::es) [] pos) (lV C m sp dvs E ta t):=by
 intro pins s σ H Q I h;refine eh (pl:=pl) (jW (he pins s σ H _ I h) fun u s1 ⟨x,H1,I1,rx,a,dx,fs,ex,ea,l,q⟩=>?_) ht;subst ex;obtain rfl:u=Value.ref a:=rx;refine iT I1 ea c hm l ?_;refine cv (first:=[.ref a]) (h₀:=X.base) I.ok.mod.kin hm.kp (jW (ha pos pins s1 σ H1 _ I1 q) fun us s2 ⟨vs,H2,I2,r,q2⟩=>⟨I2.kIn,?_⟩) hst hpl;exact fO (us:=.ref a::us) (vs:=.ref a::vs) F hr hb hd hx I2 (.cons rfl r) q2
theorem RH {pl:Sem Bool} (he:PE X o ta) (c:Cls X.K C) (hm:Meth X.K C m f) (F:FnOk X.prog X.w X.K X.mg X.base CX k f fd ps sp) (hr:Room k X.A) (hb:Binds X.K fd ps ds) (hd:Vals dvs ds) (hx:bS CX X E)
  (ht:eval (.Call (.Attribute o m apos) [] [] pos) X.env=(do
   let ov ← eval o X.env
   standAt apos.atName
   let (f,first) ← holding [ov] (getMethod ov m pl)
   callWith pos f first (backTo pos (starEach [] X.env)) (backToKw pos (keywordEach [] X.env))):=by rfl) :
  PE X (.Call (.Attribute o m apos) [] [] pos) (lV C m sp dvs E ta Z0):=by
 intro pins s σ H Q I h;refine eh (pl:=pl) (jW (he pins s σ H _ I h) fun u s1 ⟨x,H1,I1,rx,a,dx,fs,ex,ea,l,q⟩=>?_) ht;subst ex;obtain rfl:u=Value.ref a:=rx;refine iT I1 ea c hm l ?_;exact PySem.W.callWith_K0 (first:=[.ref a]) I1.kIn hm.kp (fO (us:=[.ref a]) (vs:=[.ref a]) F hr hb hd hx I1 (.cons rfl .nil) q)
structure Mk (K:PySem.W.Frag) (C f:Addr):Prop where
 makes:PySem.W.makesIn K C=true
 init:PySem.W.findIn K (.ref C) "__init__"=some (some (.ref f))
 fn:PySem.W.isFn K (.ref f)=true
 kp:PySem.W.keepIn K (.ref C)=true
theorem RB {pins:List (Addr×Obj)} {σ:St} {H:Hp} {s:Shared} {Q:VK} {us:List Value} {vs:List V} (M:Mk X.K C f) (F:FnOk X.prog X.w X.K X.mg X.base CX k f fd ps sp) (hr:Room (k+1) X.A) (hb:Binds X.K fd ps ds) (hd:Vals dvs ds)
  (hx:bS CX X E) (I:Inv X pins σ H s) (r:Vals vs us)
  (h:∀x dx,H x=none→H dx=none→dx≠x→sp (.ref x::(vs++dvs)) (upd (upd H dx (.own x)) x (.ins C dx [])) (fun v H2=>v=.non∧Q (.ref x) H2) E) :
  wpAny (model X.prog X.w) X.A (call (.ref C) us) (EP X pins σ Q) X.xe s:=by
 have hq:=h (s.heap.objs.size+1) s.heap.objs.size (I.hok.fresh (Nat.le_succ _)) (I.hok.fresh (aj _)) (aP (ii _));have I2:=Inv.made (C:=C) I;have r2:Vals (V.ref (s.heap.objs.size+1)::(vs++dvs)) (Value.ref (s.heap.objs.size+1)::(us++ds)):=.cons rfl (r.append hd);have hl:(Value.ref (s.heap.objs.size+1)::us++ds).length=ps.length:=by
  have e:=r2.length;rw [F.len _ _ _ _ hq] at e;exact e.symm
 refine wpAny_call (RT (f:=f) I.kIn M.makes M.init (gt.mp M.fn) (ie (F.run _ X.stack _ _ ⟨Value.ref (s.heap.objs.size+1)::us,[]⟩ (Value.ref (s.heap.objs.size+1)::(us++ds)) _ _ E (hr.make C us [])
  (I2.env0.make C us []) (hb _ (Value.ref (s.heap.objs.size+1)::us) I2.kIn hl) r2 hq) fun r s' hq'=>?_))
 cases r with
 |error e=>exact hx pins σ _ _ e s' I2 hq'
 |ok fl =>
  cases fl with
  |ret u =>
   obtain ⟨v,H',I3,rv,ev,q3⟩:=I2.after hq';subst ev;exact ⟨rv,⟨V.ref (s.heap.objs.size+1),H',I3,rfl,q3⟩⟩
  |next=>exact False.elim hq'
  |brk=>exact False.elim hq'
  |cont=>exact False.elim hq'
theorem SX (M:Mk X.K C f) (F:FnOk X.prog X.w X.K X.mg X.base CX k f fd ps sp) (hr:Room (k+1) X.A) (hg:Gl X x) (hm:X.mg x=some (.ref C)) (hb:Binds X.K fd ps ds) (hd:Vals dvs ds) (hx:bS CX X E)
  (ha:PA X (e::es) t) (hdb:(x == ("__debug__":Str))=false:=by decide) (he:starEach (e::es) X.env=(false,eval e X.env)::starEach es X.env:=by rfl) (hpl:(backTo pos (starEach es X.env)).any (·.1)=false:=by rfl) :
  PE X (.Call (.Name x p) (e::es) [] pos) (E3 C sp dvs E t):=by
 intro pins s σ H Q I h;refine dz (bL I hg hm ?_ hdb);refine cv (h₀:=X.base) I.ok.mod.kin M.kp (jW (ha pos pins s σ H _ I h) fun us s1 ⟨vs,H1,I1,r,q⟩=>⟨I1.kIn,?_⟩) he hpl;exact RB M F hr hb hd hx I1 r q
end
section
variable {X:Cx} {CX:yG} {k:Nat} {f C:Addr} {fd:FuncData} {ps ks:List Str} {sp:Sp} {E:XK} {x m:Str} {p pos apos kpos:Pos} {e o:Expr} {es:List Expr} {kws:List Keyword} {te ta:TE} {t tk:TA} {nm:Option Str}
variable {g:List Value→List Value→List Value} {gV:List V→List V→List V}
end
structure FnScope (N P:List Str) (sc:Scope):Prop where
 kind:sc.kind=.function
 co:sc.isCoroutine=false
 gen:sc.isGenerator=false
 nd:N.Nodup
 pre:N.take P.length=P
 par:∀x∈P,sc.names.lookup x=some .local∨sc.names.lookup x=some .cell
 nofree:∀y∈sc.names,y.2≠.free
theorem B4 {kindOf:Str→Option NameKind} {x:Str}:∀{binds:List (Str×Value)} {m:Str→Option Value},(∀v,(x,v)∉binds)→bindL kindOf binds m x=m x
 |[],_,_=>rfl
 | (n,v)::r,m,h=>by
  unfold bindL;rw [B4 fun w hw=>h w (aK _ hw)]
  split
  ·have:x≠n:=by rintro rfl;exact h v bd
   simp [this]
  ·rfl
theorem B6 {kindOf:Str→Option NameKind} {x:Str}:∀{binds:List (Str×Value)} {m:Str→Option Value},(∀v,(x,v)∉binds)→bindC kindOf binds m x=m x
 |[],_,_=>rfl
 | (n,v)::r,m,h=>by
  unfold bindC;rw [B6 fun w hw=>h w (aK _ hw)]
  split
  ·rfl
  ·have:x≠n:=by rintro rfl;exact h v bd
   simp [this]
theorem B5 {kindOf:Str→Option NameKind} {x:Str} {v:Value}:∀{P:List Str} {vs:List Value} {i:Nat} {m:Str→Option Value},P.Nodup→P[i]?=some x→vs[i]?=some v→kindOf x=some .local→
  bindL kindOf (P.zip vs) m x=some v
 |[],_,_,_,_,h,_,_=>by simp at h
 |_::_,[],_,_,_,_,h,_=>by simp at h
 |p::P,w::vs,0,m,nd,h1,h2,hk=>by
  simp at h1 h2;subst h1;subst h2
  show bindL kindOf ((p,w)::P.zip vs) m p=_;unfold bindL;rw [B4 fun v hv=>(gb.mp nd).1 (ip hv).1,if_pos hk];simp
 |p::P,w::vs,i+1,m,nd,h1,h2,hk=>by
  show bindL kindOf ((p,w)::P.zip vs) m x=_;unfold bindL;exact B5 (i:=i) (gb.mp nd).2 (by simpa using h1) (by simpa using h2) hk
theorem B7 {kindOf:Str→Option NameKind} {x:Str} {v:Value}:∀{P:List Str} {vs:List Value} {i:Nat} {m:Str→Option Value},P.Nodup→P[i]?=some x→vs[i]?=some v→kindOf x≠some .local→
  bindC kindOf (P.zip vs) m x=some v
 |[],_,_,_,_,h,_,_=>by simp at h
 |_::_,[],_,_,_,_,h,_=>by simp at h
 |p::P,w::vs,0,m,nd,h1,h2,hk=>by
  simp at h1 h2;subst h1;subst h2
  show bindC kindOf ((p,w)::P.zip vs) m p=_;unfold bindC;rw [B6 fun v hv=>(gb.mp nd).1 (ip hv).1,if_neg hk];simp
 |p::P,w::vs,i+1,m,nd,h1,h2,hk=>by
  show bindC kindOf ((p,w)::P.zip vs) m x=_;unfold bindC;exact B7 (i:=i) (gb.mp nd).2 (by simpa using h1) (by simpa using h2) hk
def start (N:List Str) (vs:List V):St:=vs.map some++List.replicate (N.length - vs.length) none
def qB (CX:yG) (P:Program) (w:World) (K:PySem.W.Frag) (mg:Str→Option Value) (base:Heap) (N:List Str) (qual:Str) (scope:Scope) (f:Addr) (cd:Value) (A:Around) (outer:List Env) (s:Shared) (H:Hp) (E:XK):Cx where
 prog:=P
 w:=w
 K:=K
 mg:=mg
 base:=base
 A:=A.deeper (envOfC qual scope s.heap.objs.size f cd)
 N:=N
 s₀:=s
 H₀:=H
 env:=envOfC qual scope s.heap.objs.size f cd
 outer:=outer
 stack:=envOfC qual scope s.heap.objs.size f cd::outer
 ex:=[]
 calm:=true
 fn:=fun _=>true
 pn:=[]
 xe:=fun e s'=>wpAny (model P w) (A.deeper (envOfC qual scope s.heap.objs.size f cd)) (leaving (envOfC qual scope s.heap.objs.size f cd) e) (fun _ s''=>CX outer H s E e s'') (fun e' s''=>CX outer H s E e' s'') s'
theorem C7 {sc:Scope} {n:Nat} {x:Str} (h:sc.names.lookup x=some .cell):∃c,(cellsFrom n sc.names []).lookup x=some c:=by
 have q:=hZ sc.names n [] (.inl h);exact Option.isSome_iff_exists.mp q
theorem BU {N:List Str} {qual:Str} {scope:Scope} {cd:Value} {outer:List Env} {s s1:Shared} {H:Hp} {E:XK} {vs:List V}
  (S:FnScope N ps scope) (hd:A.handled=none) (e0:Env0 P w K mg base A outer s H) (hl:vs.length=ps.length) (r:Vals vs us)
  (x:InCallC s s.heap.objs.size (bindL (envOfC qual scope s.heap.objs.size f cd).kindOf (ps.zip us) fun _=>none) (cellsFrom (s.heap.objs.size+1) scope.names []) (bindC (envOfC qual scope s.heap.objs.size f cd).kindOf (ps.zip us) fun _=>none) s1) :
  Inv (qB CX P w K mg base N qual scope f cd A outer s H E) [] (start N vs) H s1:=by
 have hpl:ps.length≤N.length:=by have:=bu List.length S.pre;rw [bj] at this;omega
 obtain ⟨h1,tk,rfl,hk⟩:=x.done;have noA:∀b:Addr,b∉(qB CX P w K mg base N qual scope f cd A outer s H E).ex:=fun b z=>absurd (show b∈([]:List Addr) from z) (by simp)
 refine ⟨⟨e0.mod,S.kind,rfl,rfl,aj _,fun y z c h1 h2=>?_,fun y hy=>?_,fun y c _ h=>?_,fun _=>hd,Around.frames_deeper e0.frames,.inr ⟨rfl,rfl⟩,fun b z=>absurd z (noA b),e0.bs,e0.bsz,fun b _ _=>noA b,fun b z=>absurd z (noA b),e0.funs,e0.frf⟩,
  rfl,e0.bare,Un.kept hk,⟨_,x.toInCall.ns,fun i y v h1 h2 h3=>?_⟩,fun y c h=>⟨_,x.cell y c h⟩,e0.hok.fresh (aj _),fun y c h=>?_,fun p hp=>absurd (show p∈([]:List (Addr×Obj)) from hp) (by simp),e0.hok.kept hk,?_⟩
 ·exact name_of_addr x.apart (fj h1) (fj h2)
 ·have hy:scope.names.lookup y=some .cell∨scope.names.lookup y=some .free:=hy
  rcases hy with hy|hy
  ·exact C7 hy
  ·exact absurd rfl (S.nofree _ (fj hy))
 ·exact ic (x.above y c (fj h))
 ·have hi:i<vs.length:=by
   unfold start at h2
   by_cases hi:i<vs.length
   ·exact hi
   ·rw [aw (by simpa using hi)] at h2;rw [hJ] at h2
    split at h2<;>cases h2
  have ha:vs[i]?=some v:=by
   unfold start at h2;rw [av (by simpa using hi),ao] at h2;cases e:vs[i]? with
   |none=>rw [e] at h2;cases h2
   |some a=>rw [e] at h2;cases h2;rfl
  obtain ⟨u,hu,rv⟩:=r.get ha;have hp:ps[i]?=some y:=by
   rw [← S.pre,List.getElem?_take_of_lt (by omega)];exact h1
  have ndP:ps.Nodup:=by rw [← S.pre];exact S.nd.sublist (List.take_sublist _ _)
  refine ⟨u,rv,?_⟩
  rcases S.par y (au hp) with k|k
  ·exact .inl ⟨k,B5 ndP hp hu k⟩
  ·obtain ⟨c,e⟩:=C7 (n:=s.heap.objs.size+1) k;refine .inr ⟨.inl k,c,e,?_⟩;have q:=x.cell y c e;rw [B7 ndP hp hu (by show scope.names.lookup y≠_;rw [k];decide)] at q;exact q
 ·exact e0.hok.fresh (ic (x.above y c (fj h)))
 ·unfold start;show _=N.length;rw [af,ae,bf];omega
theorem wD {name qual:Str} {params:Arguments} {body:List Stmt} {scope:Scope} {dV kV doc pm cdv ct oc:Value} {an od:Option Addr}
  {osl:Array (Option Value)} {N:List Str} {sp:Sp} (lk:K.lookup f=some ⟨oc,od,.func (PySem.W.fnOf name qual params body scope dV kV doc pm an cdv ct),osl⟩) (hcd:PySem.W.codeIn K cdv qual=true) (S:FnScope N ps scope)
  (len:∀vs H Q E,sp vs H Q E→vs.length=ps.length)
  (hbody:∀(A:Around) (outer:List Env) (s:Shared) (H:Hp) (vs:List V) (Q:VK) (E:XK),Room k (A.deeper (envOfC qual scope s.heap.objs.size f cdv))→sp vs H Q E→
   ∃t,PSs (qB CX P w K mg base N qual scope f cdv A outer s H E) body t∧t {nx:=fun _ H'=>Q .non H',rt:=Q} (start N vs) H) :
  FnOk P w K mg base CX (k+1) f (PySem.W.fnOf name qual params body scope dV kV doc pm an cdv ct) ps sp:=by
 refine ⟨len,fun A outer s H args us vs Q E hr e0 hb r hsp=>?_⟩;have hl:=len _ _ _ _ hsp;have KX:K.In s.heap:=e0.mod.kin.keeps fun b o e=>(e0.bs b o e).1
 have lim:s.heap.NoLimit:=e0.mod.nolimit.keeps fun b o e=>(e0.bs b o e).1
 have hkind:∀y∈ps.zip us,scope.names.lookup y.1=some .local∨(scope.names.lookup y.1=some .cell∧((cellsFrom (s.heap.objs.size+1) scope.names []).lookup y.1).isSome=true):=fun ⟨n,v⟩ hy=>by
  rcases S.par n (ip hy).1 with q|q
  ·exact .inl q
  ·exact .inr ⟨q,hZ _ _ _ (.inl q)⟩
 refine codeAny_call_function hr.depth (KX _ _ lk) rfl S.co S.gen rfl (PySem.W.codeRec_of KX hcd) (hb _ _ _ _ ?_);refine wpAny_newFunctionEnv_cells S.kind hkind fun env he s1 x=>?_
 subst he;refine ⟨lim.keeps x.toInCall.keep,codeAny_func ?_⟩;obtain ⟨t,ht,hq⟩:=hbody A outer s H vs Q E (hr.deeper _) hsp;have I:Inv (qB CX P w K mg base N qual scope f cdv A outer s H E) [] (start N vs) H s1:=BU S hr.hd e0 hl r x;refine cc (ht [] s1 (start N vs) H _ I hq) (fun fl s' hs=>?_) fun e s' hs=>hs
 have fin:∀{σ':St} {H':Hp} {v:V} {u:Value},Inv (qB CX P w K mg base N qual scope f cdv A outer s H E) [] σ' H' s'→RelV v u→Q v H'→CE outer P w H s Q u s' :=
  fun {σ' H' v u} J rv q=>⟨v,H',J.os,J.bare,J.base,J.hok,rv,q⟩
 cases fl with
 |ret u =>
  obtain ⟨v,σ',H',J,rv,q⟩:=hs;exact fin J rv q
 |next =>
  obtain ⟨σ',H',J,q⟩:=hs;exact fin (v:=V.non) (u:=Value.none) J rfl q
 |brk =>
  obtain ⟨_,_,_,q⟩:=hs;exact False.elim q
 |cont =>
  obtain ⟨_,_,_,q⟩:=hs;exact False.elim q
end L2
namespace L2
open PySem PySem.Spec PyProof.Rows
section
variable {X:Cx} {x:Str} {p pos:Pos} {e:Expr} {es:List Expr} {t:TA} {id T:String} {r:List V→Hp→VK→Prop}
def wX (r:List V→Hp→VK→Prop) (t:TA):TE:=fun σ H Q=>t σ H fun vs H1=>r vs H1 Q
theorem y7 (hc:yN X (.builtin id) r) (hg:Gl X x) (hm:X.mg x=none) (hv:bootBuiltins x=some (.builtin id)) (ha:PA X (e::es) t) (hn:x≠"__name__":=by decide) (hdb:(x == ("__debug__":Str))=false:=by decide)
  (he:starEach (e::es) X.env=(false,eval e X.env)::starEach es X.env:=by rfl) (hpl:(backTo pos (starEach es X.env)).any (·.1)=false:=by rfl):PE X (.Call (.Name x p) (e::es) [] pos) (wX r t):=by
 intro pins s σ H Q I h;refine dz (bR I hg hm hv ?_ hn hdb);exact PyProof.Rows.callWith_builtin1 (jW (ha pos pins s σ H _ I h) fun us s1 ⟨vs,H1,I1,r1,q1⟩=>hc pins s1 σ H1 vs us Q I1 r1 q1) he hpl
theorem vO (hc:yN X (.type T) r) (hg:Gl X x) (hm:X.mg x=none) (hv:bootBuiltins x=some (.type T)) (ha:PA X (e::es) t) (hn:x≠"__name__":=by decide) (hdb:(x == ("__debug__":Str))=false:=by decide)
  (he:starEach (e::es) X.env=(false,eval e X.env)::starEach es X.env:=by rfl) (hpl:(backTo pos (starEach es X.env)).any (·.1)=false:=by rfl):PE X (.Call (.Name x p) (e::es) [] pos) (wX r t):=by
 intro pins s σ H Q I h;refine dz (bR I hg hm hv ?_ hn hdb);exact cu (jW (ha pos pins s σ H _ I h) fun us s1 ⟨vs,H1,I1,r1,q1⟩=>hc pins s1 σ H1 vs us Q I1 r1 q1) he hpl
end
end L2
namespace HT
open PySem PyProof.Rows
section
open PySem.SeqAt
open PySem.AutoSeq1 (wpAny_loadPart')
open PySem.MeetsSeq PySem.MeetsSeq2 PySem.MeetsSeq3
end
section
variable {prog:Program} {w:World} {A:Around} {E:Value→Shared→Prop} {s:Shared}
theorem cat_tup {t b:Addr} {vs ws:List Value} {Q:Value→Shared→Prop} (ht:IsTup s.heap t vs.toArray) (hb:IsTup s.heap b ws.toArray) (hv:vs≠[])
  (h1:ws=[]→Q (.ref t) s) (h2:ws≠[]→Q (.ref s.heap.objs.size) {s with heap:=s.heap.push {cls:=.type "tuple",data:=.seq (vs++ws).toArray}})
  (hsz:vs.length+ws.length≤sizeLine):wpAny (model prog w) A (binaryOp .Add (.ref t) (.ref b)) Q E s:=by
 obtain ⟨⟨cls,dd,data,sl⟩,ho,hc,n,hd⟩:=id ht;obtain ⟨⟨cls2,dd2,data2,sl2⟩,ho2,hc2,n2,hd2⟩:=id hb;simp only at hc hd hc2 hd2;subst hc hd hc2 hd2;have e:vs.toArray++ws.toArray=(vs++ws).toArray:=by simp
 by_cases hw:ws=[]
 ·exact concat_meets ⟨_,ho,rfl⟩ ⟨_,ho2,rfl⟩ noFill_tuple_add seq_tuple_add PySem.F.slot_tuple_add PySem.F.entry_tuple_add (PySem.F.args_tuple_add_2 _ _)
   (tuple_addW1 t b vs.toArray ws.toArray n n2 dd dd2 sl sl2 (by simpa using hv) (by simp [hw])) ⟨ho,ho2,h1 hw⟩
 ·refine concat_meets ⟨_,ho,rfl⟩ ⟨_,ho2,rfl⟩ noFill_tuple_add seq_tuple_add PySem.F.slot_tuple_add PySem.F.entry_tuple_add (PySem.F.args_tuple_add_2 _ _)
   (tuple_addW2 t b vs.toArray ws.toArray n n2 dd dd2 sl sl2 (by simpa using hv) (by simpa using hw) (by rw [List.size_toArray,List.size_toArray];exact hsz)) ⟨ho,ho2,?_⟩
  rw [e];exact h2 hw
def sIx (n d:Nat):Option Int→Nat
 |none=>d
 |some v=>if v<0 then (v+(n:Int)).toNat else min v.toNat n
theorem sIx_none (n d:Nat):sIx n d none=d:=rfl
theorem sIx_nat (n d k:Nat):sIx n d (some (k:Int))=min k n:=by
 show (if (k:Int)<0 then ((k:Int)+(n:Int)).toNat else min (k:Int).toNat n)=min k n;rw [if_neg (by omega),Int.toNat_natCast]
theorem UF (n d:Nat) (hd:d≤n) (o:Option Int):sIx n d o≤n:=by
 cases o with
 |none=>exact hd
 |some v =>
  show (if v<0 then (v+(n:Int)).toNat else min v.toNat n)≤n
  by_cases hv:v<0
  ·rw [if_pos hv];omega
  ·rw [if_neg hv];exact Nat.min_le_right _ _
theorem D8 (v:Int) (n d:Nat):(if v<0 then max (v+(n:Int)) 0 else min v (n:Int))=((sIx n d (some v):Nat):Int):=by
 show (if v<0 then max (v+(n:Int)) 0 else min v (n:Int))=(((if v<0 then (v+(n:Int)).toNat else min v.toNat n):Nat):Int)
 by_cases hv:v<0
 ·simp only [if_pos hv];omega
 ·simp only [if_neg hv];omega
theorem OM (lo hi:Option Int) (n:Nat):Builtin.Slice.sliceAdjust lo hi 1 (n:Int)=(((sIx n 0 lo:Nat):Int),((sIx n n hi:Nat):Int)):=by
 have h1:¬((1:Int)<0):=by omega
 unfold Builtin.Slice.sliceAdjust;simp only [h1,if_false];refine Prod.ext ?_ ?_
 ·cases lo with
  |none=>rfl
  |some v=>exact D8 v n 0
 ·cases hi with
  |none=>rfl
  |some v=>exact D8 v n n
theorem N4 (i j:Nat):Builtin.Slice.slicePlaces (i:Int) (j:Int) 1=j - i:=by
 unfold Builtin.Slice.slicePlaces;have h1:(1:Int)>0:=by omega
 simp only [h1,if_true,Int.ediv_one]
 split<;>omega
theorem AO {v:Value} {o:Option Int} {Q:Option Int→Shared→Prop} (p:IsPart v o) (h:Q o s):wpAny (model prog w) A (Builtin.Slice.slicePartIndex v) Q E s:=by
 cases p with
 |none=>exact slicePart_none h
 |int i t=>exact slicePart_int h
theorem M8 {sl:Addr} {vl vu:Value} {lo hi:Option Int} {n:Nat} {Q:Int×Int×Nat→Shared→Prop} (hs:s.heap.IsSliceOf sl vl vu .none) (pl:IsPart vl lo) (pu:IsPart vu hi)
  (h:Q (((sIx n 0 lo:Nat):Int),1,sIx n n hi - sIx n 0 lo) s):wpAny (model prog w) A (Builtin.Slice.sliceApplied (.ref sl) (pure (n:Int))) Q E s:=by
 obtain ⟨os,hos,hcs,hds⟩:=id hs;unfold Builtin.Slice.sliceApplied Builtin.Slice.sliceFields;refine wpAny_bind (wpAny_bind (wpAny_field hos hds (x:=vl) rfl (wpAny_bind (wpAny_field hos hds (x:=vu) rfl (wpAny_bind (wpAny_field hos hds (x:=.none) rfl (wpAny_pure ?_)))))));refine wpAny_bind (slicePart_none ?_);show wpAny _ _ (if ((1:Int) == 0)=true then _ else _) _ _ s;rw [if_neg (by decide)];refine wpAny_bind (AO pl (wpAny_bind (AO pu (wpAny_bind (wpAny_pure ?_)))));show wpAny _ _ (match Builtin.Slice.sliceAdjust lo hi 1 (n:Int) with|(lo,hi)=>pure (lo,(1:Int),Builtin.Slice.slicePlaces lo hi 1)) _ _ s;rw [OM lo hi n];show wpAny _ _ (pure (((sIx n 0 lo:Nat):Int),(1:Int),Builtin.Slice.slicePlaces ((sIx n 0 lo:Nat):Int) ((sIx n n hi:Nat):Int) 1)) _ _ s;rw [N4];exact wpAny_pure h
theorem RG (xs:Array Value) (i k:Nat):((List.range k).filterMap fun (m:Nat)=>xs[((i:Int)+(m:Int)*1).toNat]?).toArray=((xs.toList.drop i).take k).toArray:=by
 have e:(fun (m:Nat)=>xs[((i:Int)+(m:Int)*1).toNat]?)=fun m=>xs[i+m]?:=by
  funext m;have:((i:Int)+(m:Int)*1).toNat=i+m:=by omega
  rw [this]
 rw [e];have:=pick_run xs i k;rw [List.filterMap_map] at this;have e2:((fun x=>xs[x]?)∘fun x=>i+x)=fun m=>xs[i+m]?:=rfl
 rw [e2] at this;rw [this]
theorem getItem_tuple_cut {t sl:Addr} {items:Array Value} {vl vu:Value} {lo hi:Option Int} {Q:Value→Shared→Prop} (ht:IsTup s.heap t items) (hs:s.heap.IsSliceOf sl vl vu .none) (pl:IsPart vl lo) (pu:IsPart vu hi)
  (hw:¬(sIx items.size 0 lo=0∧sIx items.size items.size hi=items.size))
  (h:Q (.ref s.heap.objs.size) {s with heap:=s.heap.push {cls:=.type "tuple",data:=.seq ((items.toList.drop (sIx items.size 0 lo)).take (sIx items.size items.size hi - sIx items.size 0 lo)).toArray}})
  (hsz:items.size≤sizeLine):wpAny (model prog w) A (getItem (.ref t) (.ref sl)) Q E s:=by
 have htake:sizeOk (.seq ((items.toList.drop (sIx items.size 0 lo)).take (sIx items.size items.size hi - sIx items.size 0 lo)).toArray):=by
  show ((items.toList.drop (sIx items.size 0 lo)).take (sIx items.size items.size hi - sIx items.size 0 lo)).toArray.size≤sizeLine;rw [List.size_toArray,List.length_take,List.length_drop,Array.length_toList];omega
 have hj:sIx items.size items.size hi≤items.size:=UF _ _ (Nat.le_refl _) hi;obtain ⟨os,hos,hcs,hds⟩:=id hs;have hTs:s.TypeIs (.ref sl) "slice":=⟨os,hos,hcs⟩;unfold getItem
 try with_reducible refine wpAny_holding ?_
 first|refine wpAny_bind (wpAny_pure ?_)|skip
 refine wpAny_bind (wpAny_sequenceKey ht.typeIs (by decide) ?_);refine wpAny_bind (wpAny_callSpecial?_slot (name:=Str.ofString "__getitem__") ht.typeIs PyProof.Rows.slot_tuple_getitem
  (wpAny_call_entry PyProof.Rows.slot_tuple_getitem ht.typeIs entry_tuple_getitem ?_ (args_tuple_getitem _ _)))
 show wpAny _ _ (Builtin.Tuple.tupleItemsOf (.ref t) >>= _) _ _ s;refine wpAny_bind (tupleItemsOf_ ht ?_);refine wpAny_bind (wpAny_typeOf hTs ?_);rw [if_pos (by decide)];refine wpAny_bind (M8 hs pl pu ?_);have hno:¬((((sIx items.size 0 lo:Nat):Int) == 0&&(1:Int) == 1&&(sIx items.size items.size hi - sIx items.size 0 lo) == items.size)=true):=by
  intro q;rw [Bool.and_eq_true,Bool.and_eq_true] at q;have q1:((sIx items.size 0 lo:Nat):Int)=0:=eq_of_beq q.1.1;have q2:sIx items.size items.size hi - sIx items.size 0 lo=items.size:=eq_of_beq q.2;exact hw ⟨by omega,by omega⟩
 show wpAny _ _ (if (((sIx items.size 0 lo:Nat):Int) == 0&&(1:Int) == 1&&(sIx items.size items.size hi - sIx items.size 0 lo) == items.size)=true then _ else _) _ _ s;rw [if_neg hno,RG]
 first
  |exact wpAny_bind (m:=Builtin.Tuple.tupleExact _) (wpAny_newObj_type (wpAny_pure ⟨_,rfl,wpAny_pure h⟩) htake)
  |exact wpAny_bind (m:=Builtin.Tuple.tupleExact _) (wpAny_newObj_type (wpAny_bind (wpAny_pure (wpAny_pure ⟨_,rfl,wpAny_pure h⟩))) htake)
  |exact wpAny_bind (wpAny_bind (m:=Builtin.Tuple.tupleExact _) (wpAny_newObj_type (wpAny_pure (wpAny_pure ⟨_,rfl,wpAny_pure h⟩)) htake))
  |exact wpAny_bind (wpAny_bind (m:=Builtin.Tuple.tupleExact _) (wpAny_newObj_type (wpAny_pure ⟨_,rfl,wpAny_pure h⟩) htake))
end
end HT
namespace L2
open PySem PySem.Spec PyProof.Rows
abbrev TO:=St→Hp→(Option Int→Hp→Prop)→Prop
def PO (X:Cx) (e:Option Expr) (t:TO):Prop :=
 ∀(pins:List (Addr×Obj)) (s:Shared) (σ:St) (H:Hp) (Q:Option Int→Hp→Prop),Inv X pins σ H s→t σ H Q→
  wpAny (model X.prog X.w) X.A (evalPart e X.env) (fun u s'=>∃o H',Inv X pins σ H' s'∧IsPart u o∧Q o H') X.xe s
def SH:TO:=fun _ H Q=>Q none H
def U8 (t:TE):TO:=fun σ H Q=>t σ H fun x H1=>∃i,x=.int i∧Q (some i) H1
section
variable {X:Cx} {e:Expr} {te:TE} {lo hi:Option Expr} {tl th:TO} {pos p2:Pos}
theorem uC:PO X none SH:=by
 intro pins s σ H Q I h;rw [evalPart_none];exact aQ ⟨none,H,I,.none,h⟩
theorem nB (h:PE X e te):PO X (some e) (U8 te):=by
 intro pins s σ H Q I hw;rw [evalPart_some];refine jW (h pins s σ H _ I hw) fun u s1 ⟨x,H1,I1,r1,q1⟩=>?_
 obtain ⟨i,rfl,q⟩:=q1;obtain ⟨t,rfl⟩:=r1;exact ⟨some i,H1,I1,.int i t,q⟩
def gF (X:Cx) (r:V→Option Int→Option Int→Hp→VK→Prop):Prop :=
 ∀(pins:List (Addr×Obj)) (s:Shared) (σ:St) (H:Hp) (x:V) (v vl vu:Value) (lo hi:Option Int) (sl:Addr) (Q:VK),Inv X pins σ H s→RelV x v→s.heap.IsSliceOf sl vl vu .none→IsPart vl lo→IsPart vu hi→r x lo hi H Q→
  ∃T id,typeLookup (.type T) "__getitem__"=pure (some (.builtin id))∧s.TypeIs v T∧wpAny (model X.prog X.w) X.A (getItem v (.ref sl)) (EP X pins σ Q) X.xe s
def WZ (r:V→Option Int→Option Int→Hp→VK→Prop) (te:TE) (tl th:TO):TE:=fun σ H Q=>te σ H fun x H1=>tl σ H1 fun l H2=>th σ H2 fun u H3=>r x l u H3 Q
theorem tR {r:V→Option Int→Option Int→Hp→VK→Prop} (hr:gF X r) (he:PE X e te) (hl:PO X lo tl) (hu:PO X hi th):PE X (.Subscript e (.Slice lo hi none p2) pos) (WZ r te tl th):=by
 intro pins s σ H Q I h;refine Subscript_ (jW (he pins s σ H _ I h) fun v s1 ⟨x,H1,I1,r1,q1⟩=>?_);refine wpAny_Slice (jW (hl pins s1 σ H1 _ I1 q1) fun vl s2 ⟨l,H2,I2,pl,q2⟩=>jW (hu pins s2 σ H2 _ I2 q2) fun vu s3 ⟨u,H3,I3,pu,q3⟩=>?_);rw [evalPart_none];refine aQ ?_;have I4:Inv X pins σ H3 {s3 with heap:=s3.heap.push {cls:=.type "slice",data:=.fields #[vl,vu,.none]}}:=I3.kept (t':=s3.toks) fun b ob q=>ak _ q
 obtain ⟨T,id,hT,ht,hg⟩:=hr pins {s3 with heap:=s3.heap.push {cls:=.type "slice",data:=.fields #[vl,vu,.none]}} σ H3 x v vl vu l u s3.heap.objs.size Q I4 r1 (Heap.IsSliceOf.new ..) pl pu q3;show wpAny (model X.prog X.w) X.A (subscriptTail e (.Slice lo hi none p2) v (.ref s3.heap.objs.size)) (EP X pins σ Q) X.xe {s3 with heap:=s3.heap.push {cls:=.type "slice",data:=.fields #[vl,vu,.none]}};exact tail_any (ops:=[.ref s3.heap.objs.size,v]) ht hT hg (by with_unfolding_all rfl)
def JE (xs:List V) (lo hi:Option Int):List V:=(xs.drop (HT.sIx xs.length 0 lo)).take (HT.sIx xs.length xs.length hi - HT.sIx xs.length 0 lo)
theorem AJ (xs:List V) (lo hi:Option Int):(JE xs lo hi).length≤xs.length:=by
 unfold JE;rw [bj,fm];omega
def FL (K:PySem.W.Frag):V→Option Int→Option Int→Hp→VK→Prop:=fun x lo hi H Q=>∃a xs,x=.ref a∧SqT K H a xs∧
 ¬(HT.sIx xs.length 0 lo=0∧HT.sIx xs.length xs.length hi=xs.length)∧∀p,H p=none→Q (.ref p) (upd H p (.tup (JE xs lo hi)))
theorem UE:gF X (FL X.K):=by
 intro pins s σ H x v vl vu lo hi sl Q I rx hs pl pu h;obtain ⟨a,xs,rfl,hx,hw,q⟩:=h;cases rx;obtain ⟨its,r,ht,hz⟩:=I.tuple hx;have hlen:its.toArray.size=xs.length:=by rw [ai];exact r.length.symm
 refine ⟨"tuple",_,PyProof.Rows.slot_tuple_getitem.lookup,ht.typeIs,?_⟩;refine HT.getItem_tuple_cut ht hs pl pu (by rw [hlen];exact hw) ?_ (by rw [hlen];exact hz);rw [hlen];refine ⟨.ref s.heap.objs.size,_,I.laid (t':=s.toks) (o:=.tup (JE xs lo hi)) (fun b ob q=>ak _ q) (aj _) ?_,rfl,q _ (I.hok.fresh (aj _))⟩;exact ⟨aI (AJ xs lo hi) hz,_,(r.drop (HT.sIx xs.length 0 lo)).take (HT.sIx xs.length xs.length hi - HT.sIx xs.length 0 lo),IsTup.new _ _⟩
def VJ (K:PySem.W.Frag):R2:=fun x y H Q=>∃a b xs ys,x=.ref a∧y=.ref b∧SqT K H a xs∧SqT K H b ys∧xs≠[]∧xs.length+ys.length≤sizeLine∧
 (ys=[]→Q (.ref a) H)∧(ys≠[]→∀p,H p=none→Q (.ref p) (upd H p (.tup (xs++ys))))
theorem Vals.nil_iff {xs:List V} {us:List Value} (r:Vals xs us):us=[]↔xs=[]:=by
 cases r with
 |nil=>simp
 |cons _ _=>simp
theorem S7:qH X (binaryOp .Add) (VJ X.K):=by
 intro pins s σ H x y v u Q I rx ry h;obtain ⟨a,b,xs,ys,rfl,rfl,ha,hb,hx,hz,q1,q2⟩:=h;cases rx;cases ry;obtain ⟨its,r1,p1,_⟩:=I.tuple ha;obtain ⟨its2,r2,p2,_⟩:=I.tuple hb;refine HT.cat_tup p1 p2 (fun z=>hx (r1.nil_iff.mp z)) (fun z=>⟨.ref a,H,I,rfl,q1 (r2.nil_iff.mp z)⟩) (fun z=>?_) (by rw [← r1.length,← r2.length];exact hz);refine ⟨.ref s.heap.objs.size,_,I.laid (t':=s.toks) (o:=.tup (xs++ys)) (fun b ob q=>ak _ q) (aj _) ?_,rfl,q2 (fun w=>z (r2.nil_iff.mpr w)) _ (I.hok.fresh (aj _))⟩;exact ⟨by rw [af];exact hz,_,r1.append r2,IsTup.new _ _⟩
end
def JG (n:Nat) (i:Int):Option Nat:=if 0≤i then (if i<n then some i.toNat else none) else if -(n:Int)≤i then some (i+n).toNat else none
def qU {α:Type} (xs:List α) (i:Int):Option α:=(JG xs.length i).bind fun j=>xs[j]?
theorem DV {n:Nat} {i:Int} {j:Nat} (h:JG n i=some j):seqIndex? i n=some j∧j<n∧-(n:Int)≤i∧i<n:=by
 unfold JG at h
 by_cases h0:0≤i
 ·rw [if_pos h0] at h
  by_cases h1:i<n
  ·rw [if_pos h1] at h;have e:i.toNat=j:=aA h;exact ⟨by rw [seqIndex_of h0 h1,e],by omega,by omega,h1⟩
  ·rw [if_neg h1] at h;cases h
 ·rw [if_neg h0] at h
  by_cases h1 : -(n:Int)≤i
  ·rw [if_pos h1] at h;have e:(i+n).toNat=j:=aA h;exact ⟨by rw [seqIndex_neg (by omega) h1,e],by omega,h1,by omega⟩
  ·rw [if_neg h1] at h;cases h
variable {α:Type}
theorem lL {xs:List α} {i:Int} {v:α} (h:qU xs i=some v):∃j,seqIndex? i xs.length=some j∧xs[j]?=some v∧j<xs.length∧-(xs.length:Int)≤i∧i<xs.length:=by
 unfold qU at h;cases e:JG xs.length i with
 |none=>rw [e] at h;cases h
 |some j =>
  rw [e] at h;obtain ⟨h1,h2,h3,h4⟩:=DV e;exact ⟨j,h1,h,h2,h3,h4⟩
theorem kY {xs:List α} {j:Nat} {v:α} (h:xs[j]?=some v):qU xs (j:Int)=some v:=by
 have hj:j<xs.length:=(ad.mp h).1;have e:JG xs.length (j:Int)=some j:=by
  unfold JG;rw [if_pos (by omega),if_pos (by omega)];simp
 unfold qU;rw [e];exact h
theorem atI_last (xs:List α) (v:α):qU (xs++[v]) (-1)=some v:=by
 have hl:(xs++[v]).length=xs.length+1:=by simp
 have e:JG (xs++[v]).length (-1)=some xs.length:=by
  unfold JG;rw [hl,if_neg (by decide),if_pos (by omega)]
  congr 1
  omega
 unfold qU;rw [e];show (xs++[v])[xs.length]?=some v;simp
def EB (b:Expr):Prop:=∀o i,subscripted b false o i=operate [o,i] (getItem o i)
def IxR (X:Cx) (r:R2):Prop :=
 ∀(value slice:Expr) (pins:List (Addr×Obj)) (s:Shared) (σ:St) (H:Hp) (x y:V) (v u:Value) (Q:VK),Inv X pins σ H s→RelV x v→RelV y u→r x y H Q→
  subscripted slice false v u=operate [v,u] (getItem v u)→wpAny (model X.prog X.w) X.A (subscriptTail value slice v u) (EP X pins σ Q) X.xe s
def GE (X:Cx) (id:String) (r:V→List V→Hp→VK→Prop):Prop :=
 ∀(pins:List (Addr×Obj)) (s:Shared) (σ:St) (H:Hp) (x:V) (xs:List V) (v:Value) (us:List Value) (Q:VK),Inv X pins σ H s→RelV x v→Vals xs us→r x xs H Q→
  wpAny (model X.prog X.w) X.A (call (.builtin id) (v::us)) (EP X pins σ Q) X.xe s
section
variable {X:Cx} {a b:Expr} {ta tb:TE} {pos:Pos}
theorem IxR.or {r r':R2} (h:IxR X r) (h':IxR X r'):IxR X (fun x y H Q=>r x y H Q∨r' x y H Q):=by
 intro value slice pins s σ H x y v u Q I rx ry q hs
 rcases q with q|q
 ·exact h value slice pins s σ H x y v u Q I rx ry q hs
 ·exact h' value slice pins s σ H x y v u Q I rx ry q hs
theorem GI {r:R2} (hr:IxR X r) (ha:PE X a ta) (hb:PE X b tb) (hs:EB b):PE X (.Subscript a b pos) (cH r ta tb):=by
 intro pins s σ H Q I h;exact Subscript_ (wN ha hb I h fun v u s2 x y H2 I2 rx ry q=>hr a b pins s2 σ H2 x y v u Q I2 rx ry q (hs _ _))
def mK (K:PySem.W.Frag):R2:=fun x y H Q=>∃p xs i v,x=.ref p∧y=.int i∧SqL K H p xs∧qU xs i=some v∧Q v H
def wK (K:PySem.W.Frag):R2:=fun x y H Q=>∃p xs i v,x=.ref p∧y=.int i∧SqT K H p xs∧qU xs i=some v∧Q v H
def FN:R2:=fun x y H Q=>∃z i c,x=.str z∧y=.int i∧z.length≤sizeLine∧qU z.cps.toList i=some c∧Q (.str ⟨#[c]⟩) H
theorem xG:IxR X (mK X.K):=by
 intro value slice pins s σ H x y v u Q I rx ry h hs;obtain ⟨p,xs,i,z,rfl,rfl,hq,he,q⟩:=h;cases rx;obtain ⟨t,rfl⟩:=ry;obtain ⟨its,r,pl,hz⟩:=I.list hq;obtain ⟨j,h1,h2,h3,h4,h5⟩:=lL he;obtain ⟨w,ew,rw'⟩:=r.get h2;have hl:=r.length;have hn:=bQ;have fin:EP X pins σ Q w s:=⟨z,H,I,rw',q⟩
 by_cases h0:0≤i
 ·have hj:i.toNat=j:=by
   rw [seqIndex_of h0 h5] at h1;exact aA h1
  exact item_listR pl.isList h0 (by omega) (by rw [hj];simpa using ew) fin hs
 ·have hj:(i+(its.toArray.size:Int)).toNat=j:=by
   rw [seqIndex_neg (by omega) h4] at h1;rw [ai,← hl];exact aA h1
  exact subscriptTail_builtinR (x:=w) pl.isList.typeIs slot_list_getitem.lookup
   (wpAny_getItem_list_neg (Q:=fun r s'=>r=w∧EP X pins σ Q r s') pl.isList (by omega) (by rw [ai]<;>omega) (by omega) (by rw [hj];simpa using ew) ⟨rfl,fin⟩) hs
theorem ix_tup:IxR X (wK X.K):=by
 intro value slice pins s σ H x y v u Q I rx ry h hs;obtain ⟨p,xs,i,z,rfl,rfl,hq,he,q⟩:=h;cases rx;obtain ⟨t,rfl⟩:=ry;obtain ⟨its,r,pl,hz⟩:=I.tuple hq;obtain ⟨j,h1,h2,h3,h4,h5⟩:=lL he;obtain ⟨w,ew,rw'⟩:=r.get h2;have hl:=r.length;have hn:=bQ;have fin:EP X pins σ Q w s:=⟨z,H,I,rw',q⟩;exact subscriptTail_builtinR (x:=w) pl.typeIs slot_tuple_getitem.lookup
  (getItem_tuple (j:=j) (Q:=fun r s'=>r=w∧EP X pins σ Q r s') pl (by omega) (by omega) (by rw [ai,← hl];exact h1) (by simpa using ew) ⟨rfl,fin⟩) hs
theorem uW:IxR X FN:=by
 intro value slice pins s σ H x y v u Q I rx ry h hs;obtain ⟨z,i,c,rfl,rfl,hz,he,q⟩:=h;obtain ⟨t,rfl⟩:=rx;obtain ⟨t',rfl⟩:=ry;obtain ⟨j,h1,h2,h3,h4,h5⟩:=lL he;have hl:z.cps.toList.length=z.length:=by simp [Str.length]
 rw [hl] at h1 h4 h5;have hn:=bQ;exact tail_any (typeIs_str s z t) slot_str_getitem.lookup (getItem_str (c:=c) (by
  have e1:decide (i < -(2 ^ 63:Int))=false:=aJ (by omega);have e2:decide (i≥2 ^ 63)=false:=aJ (by omega);rw [e1,e2,Bool.or_false]) (by rw [h1];simpa using h2) ⟨.str ⟨#[c]⟩,H,I.tok _,⟨_,rfl⟩,q⟩) hs
def wY (K:PySem.W.Frag):R2:=fun x y H Q=>mK K x y H Q∨wK K x y H Q∨FN x y H Q
theorem UY:IxR X (wY X.K):=xG.or (ix_tup.or uW)
theorem N9 (its:List Value) (n j:Nat) (u:Value):Obj.mapSeq (·.setIfInBounds j u) {cls:=.type "list",data:=.seq its.toArray n}={cls:=.type "list",data:=.seq (its.set j u).toArray n}:=by
 simp [Obj.mapSeq]
theorem Inv.lst {pins:List (Addr×Obj)} {σ:St} {H:Hp} {s:Shared} {p:Addr} {xs:List V} (I:Inv X pins σ H s) (h:H p=some (.lst xs)) :
  ∃(its:List Value) (n:Nat),Vals xs its∧s.heap.get? p=some {cls:=.type "list",data:=.seq its.toArray n}∧xs.length≤sizeLine:=by
 obtain ⟨z,its,n,r,e⟩:=I.hok p _ h;exact ⟨its,n,r,e,z⟩
theorem Inv.lstUpd {pins:List (Addr×Obj)} {σ:St} {H:Hp} {s:Shared} {p:Addr} {xs ys:List V} {its its':List Value} {n n':Nat} {f:Obj→Obj} (I:Inv X pins σ H s) (h:H p=some (.lst xs))
  (ho:s.heap.get? p=some {cls:=.type "list",data:=.seq its.toArray n}) (hf:f {cls:=.type "list",data:=.seq its.toArray n}={cls:=.type "list",data:=.seq its'.toArray n'}) (r:Vals ys its') (hz:ys.length≤sizeLine) (t:Nat) :
  Inv X pins σ (upd H p (.lst ys)) {s with heap:=s.heap.update p f,toks:=t}:=by
 have e:(s.heap.update p f).get? p=some {cls:=.type "list",data:=.seq its'.toArray n'}:=by
  rw [ig f ho (by rw [hf]<;>rfl),hf]
 refine I.write (x:=p) (e:=p) (by rw [h];trivial) (.inl rfl) (fun b u hb q=>(ft _ _ (Ne.symm hb)).trans q) ⟨_,e⟩ ?_;exact ⟨hz,its',n',r,e⟩
def VG:V→V→V→Hp→(Hp→Prop)→Prop:=fun o i v H Q=>∃p xs k j,o=.ref p∧i=.int k∧H p=some (.lst xs)∧JG xs.length k=some j∧Q (upd H p (.lst (xs.set j v)))
theorem dA:wQ X VG:=by
 intro pins s σ H o i v ov iv u Q I ro ri rv h;obtain ⟨p,xs,k,j,rfl,rfl,hp,hj,q⟩:=h;cases ro;obtain ⟨t,rfl⟩:=ri;obtain ⟨its,n,r,ho,hz⟩:=I.lst hp;obtain ⟨h1,h2,h3,h4⟩:=DV hj;have hl:=r.length;have hn:=bQ;have I':Inv X pins σ (upd H p (.lst (xs.set j v))) {s with heap:=s.heap.update p (Obj.mapSeq (·.setIfInBounds j u))} :=
  I.lstUpd hp ho (N9 its n j u) (r.set rv j) (by rw [bc];exact hz) s.toks
 by_cases h0:0≤k
 ·have hk:k.toNat=j:=by
   rw [seqIndex_of h0 h4] at h1;exact aA h1
  exact PySem.W.ki_setAt ho h0 (by omega) (by rw [ai,← hl];exact h4) (by rw [hk];exact ⟨_,I',q⟩)
 ·have hk:(k+(its.toArray.size:Int)).toNat=j:=by
   rw [seqIndex_neg (by omega) h3] at h1;rw [ai,← hl];exact aA h1
  exact PySem.W.ki_setBack ho (by omega) (by rw [ai,← hl];exact h3) (by omega) (by rw [hk];exact ⟨_,I',q⟩)
theorem NE (lo hi:Option Int) (n:Nat):(sliceBounds lo hi none n).1=((HT.sIx n 0 lo:Nat):Int)∧(sliceBounds lo hi none n).2.1=((HT.sIx n n hi:Nat):Int)∧(sliceBounds lo hi none n).2.2=1:=by
 refine ⟨?_,?_,rfl⟩
 ·cases lo with
  |none=>simp [sliceBounds,HT.sIx]
  |some i =>
   simp only [sliceBounds,HT.sIx,Option.getD_none,show (1:Int)>0 by decide,if_true]
   by_cases h:i<0
   ·simp only [h,if_true]<;>omega
   ·simp only [h,if_false]<;>omega
 ·cases hi with
  |none=>simp [sliceBounds,HT.sIx]
  |some i =>
   simp only [sliceBounds,HT.sIx,Option.getD_none,show (1:Int)>0 by decide,if_true]
   by_cases h:i<0
   ·simp only [h,if_true]<;>omega
   ·simp only [h,if_false]<;>omega
theorem NA (its:List Value) (lo hi:Option Int):slicePick its.toArray lo hi none=((its.drop (HT.sIx its.length 0 lo)).take (HT.sIx its.length its.length hi - HT.sIx its.length 0 lo)).toArray:=by
 obtain ⟨h1,h2,h3⟩:=NE lo hi its.toArray.size;unfold slicePick;rw [h1,h2,h3];simp only [sliceRange_one,pick_run,ai]<;>rfl
def FM (K:PySem.W.Frag):V→Option Int→Option Int→Hp→VK→Prop:=fun x lo hi H Q=>∃a xs,x=.ref a∧SqL K H a xs∧∀p,H p=none→Q (.ref p) (upd H p (.lst (JE xs lo hi)))
theorem SL:gF X (FM X.K):=by
 intro pins s σ H x v vl vu lo hi sl Q I rx hs pl pu h;obtain ⟨a,xs,rfl,hx,q⟩:=h;cases rx;obtain ⟨its,r,ht,hz⟩:=I.list hx;have hlen:=r.length;refine ⟨"list",_,slot_list_getitem.lookup,ht.isList.typeIs,?_⟩;refine wpAny_getItem_list_slice ht.isList hs pl pu .none (by simp) ?_ (by rw [ai]<;>omega);rw [NA,← hlen];refine ⟨.ref s.heap.objs.size,_,I.laid (t':=s.toks) (o:=.lst (JE xs lo hi)) (fun b ob q=>ak _ q) (aj _) ?_,rfl,q _ (I.hok.fresh (aj _))⟩;exact ⟨aI (AJ xs lo hi) hz,_,0,(r.drop (HT.sIx xs.length 0 lo)).take (HT.sIx xs.length xs.length hi - HT.sIx xs.length 0 lo),az _ rfl⟩
def qR:V→Bool
 |.non=>true
 |.bl _=>true
 |.int _=>true
 |.str _=>true
 |_=>false
def vL:V→V→Bool
 |.non,.non=>true
 |.bl a,.bl b=>a == b
 |.bl a,.int b=>(if a then 1 else 0) == b
 |.int a,.bl b=>a == (if b then 1 else 0)
 |.int a,.int b=>a == b
 |.str a,.str b=>a == b
 |_,_=>false
theorem fT {A:Around} {s:Shared} {y x:V} {u v:Value} (ry:RelV y u) (rx:RelV x v) (fy:qR y=true) (fx:qR x=true):SeqAt.EqAt A s u v (vL y x):=by
 cases y with
 |non =>
  cases ry;cases x with
  |non=>cases rx;exact SeqAt.EqAt.same _
  |bl b=>cases rx;exact SeqAt.EqAt.none_bool b
  |int b=>obtain ⟨t,rfl⟩:=rx;exact SeqAt.EqAt.none_int b t
  |str b=>obtain ⟨t,rfl⟩:=rx;exact SeqAt.EqAt.none_str b t
  |_=>exact absurd (show false=true from fx) aB
 |bl a =>
  cases ry;cases x with
  |non=>cases rx;exact SeqAt.EqAt.bool_none a
  |bl b=>cases rx;exact SeqAt.EqAt.bool_bool a b
  |int b=>obtain ⟨t,rfl⟩:=rx;exact SeqAt.EqAt.bool_int a b t
  |str b=>obtain ⟨t,rfl⟩:=rx;exact SeqAt.EqAt.bool_str a b t
  |_=>exact absurd (show false=true from fx) aB
 |int a =>
  obtain ⟨t',rfl⟩:=ry;cases x with
  |non=>cases rx;exact SeqAt.EqAt.int_none a t'
  |bl b=>cases rx;exact SeqAt.EqAt.int_bool a t' b
  |int b=>obtain ⟨t,rfl⟩:=rx;exact SeqAt.EqAt.int_int a t' b t
  |str b=>obtain ⟨t,rfl⟩:=rx;exact SeqAt.EqAt.int_str a t' b t
  |_=>exact absurd (show false=true from fx) aB
 |str a =>
  obtain ⟨t',rfl⟩:=ry;cases x with
  |non=>cases rx;exact SeqAt.EqAt.str_none a t'
  |bl b=>cases rx;exact SeqAt.EqAt.str_bool a t' b
  |int b=>obtain ⟨t,rfl⟩:=rx;exact SeqAt.EqAt.str_int a t' b t
  |str b=>obtain ⟨t,rfl⟩:=rx;exact SeqAt.EqAt.str_str a t' b t
  |_=>exact absurd (show false=true from fx) aB
 |_=>exact absurd (show false=true from fy) aB
def yE (x:V) (u:Value):Bool:=match u with
 |.none=>vL .non x
 |.bool b=>vL (.bl b) x
 |.int i _=>vL (.int i) x
 |.str z _=>vL (.str z) x
 |_=>false
theorem lR {x y:V} {u:Value} (r:RelV y u) (f:qR y=true):yE x u=vL y x:=by
 cases y with
 |non=>cases r;rfl
 |bl b=>cases r;rfl
 |int i=>obtain ⟨t,rfl⟩:=r;rfl
 |str z=>obtain ⟨t,rfl⟩:=r;rfl
 |_=>exact absurd (show false=true from f) aB
theorem fN {x:V}:∀{xs:List V} {us:List Value},Vals xs us→xs.all qR=true→us.any (yE x)=xs.any fun y=>vL y x
 |_,_,.nil,_=>rfl
 |y::xs,u::us,.cons r t,f=>by
  rw [List.all_cons,da] at f;rw [il,il,lR r f.1,fN t f.2]
theorem bJ {A:Around} {s:Shared} {x:V} {v:Value} (rx:RelV x v) (fx:qR x=true):∀{xs:List V} {us:List Value},Vals xs us→xs.all qR=true→∀u∈us,SeqAt.EqAt A s u v (yE x u)
 |_,_,.nil,_=>fun u hu=>by cases hu
 |y::xs,u::us,.cons r t,f=>fun u' hu=>by
  rw [List.all_cons,da] at f
  rcases aq.mp hu with rfl|hu
  ·rw [lR r f.1];exact fT r rx f.1 fx
  ·exact bJ rx fx t f.2 u' hu
def QN (x:V) (xs:List V):Bool:=xs.any fun y=>vL y x
def FY (K:PySem.W.Frag) (neg:Bool):R2:=fun x y H Q=>∃p xs,y=.ref p∧(SqL K H p xs∨SqT K H p xs)∧qR x=true∧xs.all qR=true∧Q (.bl (if neg then !QN x xs else QN x xs)) H
theorem O4:qH X (compareOp .In) (FY X.K false):=by
 intro pins s σ H x y v u Q I rx ry h;obtain ⟨p,xs,rfl,hq,fx,fs,q⟩:=h;cases ry
 rcases hq with hq|hq
 ·obtain ⟨its,r,pl,hz⟩:=I.list hq;refine SeqAt.in_listAt (yE x) pl.isList (fun w hw=>bJ rx fx r fs w (by simpa using hw)) ⟨.bl _,H,I,rfl,?_⟩;rw [show its.toArray.any (yE x)=its.any (yE x) by simp,fN r fs];exact q
 ·obtain ⟨its,r,pl,hz⟩:=I.tuple hq;refine SeqAt.in_tupleAt (yE x) pl (fun w hw=>bJ rx fx r fs w (by simpa using hw)) ⟨.bl _,H,I,rfl,?_⟩;rw [show its.toArray.any (yE x)=its.any (yE x) by simp,fN r fs];exact q
theorem NG:qH X (compareOp .NotIn) (FY X.K true):=by
 intro pins s σ H x y v u Q I rx ry h;obtain ⟨p,xs,rfl,hq,fx,fs,q⟩:=h;cases ry
 rcases hq with hq|hq
 ·obtain ⟨its,r,pl,hz⟩:=I.list hq;refine SeqAt.notIn_listAt (yE x) pl.isList (fun w hw=>bJ rx fx r fs w (by simpa using hw)) ⟨.bl _,H,I,rfl,?_⟩;rw [show its.toArray.any (yE x)=its.any (yE x) by simp,fN r fs];exact q
 ·obtain ⟨its,r,pl,hz⟩:=I.tuple hq;refine SeqAt.notIn_tupleAt (yE x) pl (fun w hw=>bJ rx fx r fs w (by simpa using hw)) ⟨.bl _,H,I,rfl,?_⟩;rw [show its.toArray.any (yE x)=its.any (yE x) by simp,fN r fs];exact q
theorem GO:yN X (.builtin "len") (fun xs H Q=>∃p ys,xs=[.ref p]∧(SqL X.K H p ys∨SqT X.K H p ys)∧Q (.int ys.length) H):=by
 intro pins s σ H xs us Q I r h;obtain ⟨p,ys,rfl,hq,q⟩:=h;obtain ⟨u,rfl,rx⟩:=QX r;cases rx;have hn:=bQ
 rcases hq with hq|hq
 ·obtain ⟨its,r',pl,hz⟩:=I.list hq;have hlen:=r'.length;exact Calls.call_len_list pl.isList (by simp only [ai]<;>omega) ⟨.int ys.length,H,I.tok _,⟨s.toks+1,by rw [ai,hlen]⟩,q⟩
 ·obtain ⟨its,r',pl,hz⟩:=I.tuple hq;have hlen:=r'.length;exact len_tuple pl (by simp only [ai]<;>omega) ⟨.int ys.length,H,I.tok _,⟨s.toks+1,by rw [ai,hlen]⟩,q⟩
theorem NI:yN X (.builtin "len") (fun xs H Q=>∃z,xs=[.str z]∧z.length≤sizeLine∧Q (.int z.length) H):=by
 intro pins s σ H xs us Q I r h;obtain ⟨z,rfl,hz,q⟩:=h;obtain ⟨u,rfl,t,rfl⟩:=QX r;have hn:=bQ;exact len_str (by omega) ⟨.int z.length,H,I.tok _,⟨_,rfl⟩,q⟩
theorem NH:yN X (.type "list") (fun xs H Q=>∃p ys,xs=[.ref p]∧(SqL X.K H p ys∨SqT X.K H p ys)∧∀l,H l=none→Q (.ref l) (upd H l (.lst ys))):=by
 intro pins s σ H xs us Q I r h;obtain ⟨p,ys,rfl,hq,q⟩:=h;obtain ⟨u,rfl,rx⟩:=QX r;cases rx;have fin:∀(its:List Value),Vals ys its→ys.length≤sizeLine→∀(h':Heap) (c':Nat),(∀b o',s.heap.get? b=some o'→h'.get? b=some o')→
   h'.get? s.heap.objs.size=some {cls:=.type "list",dict:=none,data:=.seq its.toArray c',slots := #[]}→EP X pins σ Q (.ref s.heap.objs.size) {s with heap:=h'}:=fun its r' hz h' c' kp e =>
  ⟨.ref s.heap.objs.size,_,I.laid (t':=s.toks) kp (aj _) (show ObjOk X.prog X.w _ h' _ (.lst ys) from ⟨hz,its,c',r',e⟩),rfl,q _ (I.hok.fresh (aj _))⟩
 rcases hq with hq|hq
 ·obtain ⟨its,r',pl,hz⟩:=I.list hq;have hlen:=r'.length;obtain ⟨o,ho,hc,n,hd⟩:=pl.isList;exact call_list_seq p (.inl rfl) ho hc hd (fun h' c' kp e=>fin its r' hz h' c' kp e) (by simp only [ai]<;>omega)
 ·obtain ⟨its,r',pl,hz⟩:=I.tuple hq;have hlen:=r'.length;obtain ⟨o,ho,hc,n,hd⟩:=pl;exact call_list_seq p (.inr rfl) ho hc hd (fun h' c' kp e=>fin its r' hz h' c' kp e) (by simp only [ai]<;>omega)
theorem NB:yN X (.type "tuple") (fun xs H Q=>∃p ys,xs=[.ref p]∧((SqL X.K H p ys∧∀l,H l=none→Q (.ref l) (upd H l (.tup ys)))∨(SqT X.K H p ys∧Q (.ref p) H))):=by
 intro pins s σ H xs us Q I r h;obtain ⟨p,ys,rfl,h⟩:=h;obtain ⟨u,rfl,rx⟩:=QX r;cases rx
 rcases h with ⟨hq,q⟩|⟨hq,q⟩
 ·obtain ⟨its,r',pl,hz⟩:=I.list hq;have hlen:=r'.length;refine call_tuple_list pl.isList (fun h' kp=>?_) (by simp only [ai]<;>omega);have I1:Inv X pins σ H {s with heap:=h'}:=I.kept (t':=s.toks) kp;have I2:Inv X pins σ (upd H h'.objs.size (.tup ys)) {s with heap:=h'.push {cls:=.type "tuple",data:=.seq its.toArray}} :=
   I1.laid (t':=s.toks) (fun b o e=>ak _ e) (aj _) (show ObjOk X.prog X.w _ _ _ (.tup ys) from ⟨hz,its,r',IsTup.new _ _⟩)
  exact ⟨.ref h'.objs.size,_,I2,rfl,q _ (I1.hok.fresh (aj _))⟩
 ·obtain ⟨its,r',pl,hz⟩:=I.tuple hq;exact call_tuple_same pl ⟨.ref p,H,I,rfl,q⟩
def FX (K:PySem.W.Frag) (T:String) (x:V) (H:Hp):Prop:=match x with
 |.str _=>T="str"
 |.int _=>T="int"
 |.ref p=>(T="list"∧∃xs,SqL K H p xs)∨(T="tuple"∧∃o,K.lookup p=some o∧o.cls=.type "tuple"∧o.dict=none)∨
   (T="dict"∧((∃kvs,H p=some (.dK kvs))∨∃kvs,H p=some (.dT kvs)))∨(T="set"∧∃S n,H p=some (.set S n))
 |_=>False
theorem T8 {pins:List (Addr×Obj)} {σ:St} {H:Hp} {s:Shared} {T:String} {x:V} {v:Value} (I:Inv X pins σ H s) (r:RelV x v) (ty:FX X.K T x H) :
  s.TypeIs v T∧∀a,v=.ref a→∃ob,s.heap.get? a=some ob∧ob.dict=none:=by
 cases x with
 |str z =>
  obtain ⟨t,rfl⟩:=r;cases (show T="str" from ty);exact ⟨typeIs_str s z t,fun _ e=>nomatch e⟩
 |int i =>
  obtain ⟨t,rfl⟩:=r;cases (show T="int" from ty);exact ⟨typeIs_int s i t,fun _ e=>nomatch e⟩
 |ref p =>
  cases r
  rcases ty with ⟨rfl,xs,hq⟩|⟨rfl,o,hk,hc,hd⟩|⟨rfl,hk⟩|⟨rfl,S,n,hk⟩
  ·obtain ⟨its,_,pl,_⟩:=I.list hq;refine ⟨pl.isList.typeIs,fun a e=>?_⟩;cases e;obtain ⟨o,n,e,c,hd,_⟩:=pl;exact ⟨o,e,hd⟩
  ·refine ⟨⟨o,I.kIn p o hk,hc⟩,fun a e=>?_⟩;cases e;exact ⟨o,I.kIn _ o hk,hd⟩
  ·have z:∃o,s.heap.get? p=some o∧o.ExactDict:=by
    rcases hk with ⟨kvs,hk⟩|⟨kvs,hk⟩
    ·obtain ⟨_,_,_,_,o,_,_,e,ex,_⟩:=I.hok p _ hk;exact ⟨o,e,ex⟩
    ·obtain ⟨_,_,_,_,o,_,_,e,ex,_⟩:=I.hok p _ hk;exact ⟨o,e,ex⟩
   obtain ⟨o,e,ex⟩:=z;refine ⟨⟨o,e,ex.1⟩,fun a e2=>?_⟩;cases e2;exact ⟨o,e,ex.2.1⟩
  ·obtain ⟨o,_,_,_,e,ex,_⟩:=I.hok p _ hk;refine ⟨⟨o,e,ex.1⟩,fun a e2=>?_⟩;cases e2;exact ⟨o,e,ex.2.1⟩
 |_=>exact False.elim ty
def W3 (K:PySem.W.Frag) (T:String) (r:V→List V→Hp→VK→Prop) (to:TE) (t:TA):TE:=fun σ H Q=>to σ H fun x H1=>FX K T x H1∧t σ H1 fun xs H2=>r x xs H2 Q
variable {o e:Expr} {es:List Expr} {to:TE} {t:TA} {name:Str} {apos cpos:Pos} {T id:String} {r:V→List V→Hp→VK→Prop}
theorem yB (pa:PlainAttrs T) (slot:Slot T name id) (hty:typeOf (.builtin id)=pure (.type "method_descriptor")) (hm:GE X id r) (ho:PE X o to) (ha:PA X (e::es) t)
  (hbase:attributeBase o name X.env (eval o X.env)=eval o X.env:=by rfl)
  (hfew:((backTo cpos (starEach (e::es) X.env)).all (fun x => !x.1)&&(backToKw cpos (keywordEach [] X.env)).all (fun x=>x.1.isSome)
   && decide ((e::es).length+([]:List Keyword).length+(if ([]:List Keyword).isEmpty then 0 else 1)<30))=true:=by rfl)
  (hline:(apos.endLine == cpos.line)=true:=by rfl) (hs:starEach (e::es) X.env=(false,eval e X.env)::starEach es X.env:=by rfl) (hplain:(backTo cpos (starEach es X.env)).any (·.1)=false:=by rfl) :
  PE X (.Call (.Attribute o name apos) (e::es) [] cpos) (W3 X.K T r to t):=by
 intro pins s σ H Q I h;refine wpAny_Call_method_late hbase hfew hline rfl (jW (ho pins s σ H _ I h) fun v s1 ⟨x,H1,I1,r1,ty,q1⟩=>?_);obtain ⟨h1,h2⟩:=T8 I1 r1 ty;refine ⟨T,id,pa,slot,hty,h1,h2,?_⟩;have hA:=ha cpos pins s1 σ H1 _ I1 q1;rw [hs] at hA ⊢;refine Calls.callWith_builtin (by show (false||(backTo cpos (starEach es X.env)).any (·.1))=false;rw [hplain]<;>rfl) (Calls.evalArgs_plain ?_);exact jW hA fun us s2 ⟨vs,H2,I2,r2,q2⟩=>hm pins s2 σ H2 x vs v us Q I2 r1 r2 q2
/- xs.append(e),list.index on a module's tuple .. are GE facts of 06m -/
end
end L2
namespace L2
open PySem PySem.Spec PyProof.Rows
def nA (X:Cx) (id:String) (r:V→List V→Hp→VK→Prop):Prop :=
 ∀(pins:List (Addr×Obj)) (s:Shared) (σ:St) (H:Hp) (x:V) (xs:List V) (v:Value) (us:List Value) (Q:VK),Inv X pins σ H s→RelV x v→Vals xs us→r x xs H Q→
  wpAny (model X.prog X.w) X.A (call (.builtin id) (v::us)) (EP X pins σ Q) X.xe s
theorem Vals.one:∀{x:V} {us:List Value},Vals [x] us→∃u,us=[u]∧RelV x u
 |_,_,.cons r .nil=>⟨_,rfl,r⟩
theorem Vals.rep {xs:List V} {us:List Value} (h:Vals xs us):∀k:Nat,Vals (List.replicate k xs).flatten (List.replicate k us).flatten
 |0=>.nil
 |k+1=>by
  rw [bh,bh,fb,fb];exact Vals.append h (Vals.rep h k)
theorem BV (its:List Value):∀(k:Nat) (acc:List Value),
  List.foldl (fun x1 x2=>x1++x2) acc.toArray (List.replicate k its.toArray)=(acc++(List.replicate k its).flatten).toArray
 |0,acc=>by simp
 |k+1,acc=>by
  have e:acc.toArray++its.toArray=(acc++its).toArray:=by simp
  have e2:(acc++its)++(List.replicate k its).flatten=acc++(List.replicate (k+1) its).flatten:=by
   rw [bh,fb,List.append_assoc]
  rw [← e2,← BV its k (acc++its),← e,bh,List.foldl_cons]
section
variable {X:Cx} {pins:List (Addr×Obj)} {σ:St} {H:Hp} {s:Shared} {l b:Addr} {xs ys zs:List V}
theorem Inv.lset {its its':List Value} {n:Nat} {f:Array Value→Array Value} {t':Nat} (I:Inv X pins σ H s) (hH:H l=some (.lst xs))
  (e:s.heap.get? l=some {cls:=.type "list",data:=.seq its.toArray n}) (hf:f its.toArray=its'.toArray) (hv:Vals ys its') (hz:ys.length≤sizeLine) :
  Inv X pins σ (upd H l (.lst ys)) {s with heap:=s.heap.update l (Obj.mapSeq f),toks:=t'}:=by
 have q:=PySem.IsL.update e f;rw [hf] at q;refine I.write (x:=l) (e:=l) (by rw [hH];exact trivial) (.inl rfl) (fun b' u hb hu=>(ft s.heap (Obj.mapSeq f) (Ne.symm hb)).trans hu) ⟨_,q⟩ ?_;exact ⟨hz,its',_,hv,q⟩
theorem Inv.lnew {its:List Value} {t':Nat} (I:Inv X pins σ H s) (hv:Vals ys its) (hz:ys.length≤sizeLine) :
  Inv X pins σ (upd H s.heap.objs.size (.lst ys)) {s with heap:=s.heap.push {cls:=.type "list",data:=.seq its.toArray},toks:=t'} :=
 I.laid (fun _ _ q=>ak _ q) (aj _) ⟨hz,its,0,hv,az _ rfl⟩
theorem Inv.fresh (I:Inv X pins σ H s):H s.heap.objs.size=none:=I.hok.fresh (aj _)
theorem Inv.lstM (I:Inv X pins σ H s) (hH:H l=some (.lst xs)):xs.length≤sizeLine∧∃(its:List Value) (n:Nat),Vals xs its∧xs.length=its.length∧s.heap.get? l=some {cls:=.type "list",data:=.seq its.toArray n}:=by
 obtain ⟨z,its,n,r,e⟩:=I.hok l _ hH;exact ⟨z,its,n,r,r.length,e⟩
theorem CW {n:Nat} (h:n≤sizeLine):Builtin.List.listTooLong n=false:=by
 unfold Builtin.List.listTooLong;exact aJ (by omega)
end
section
variable {X:Cx}
def SR:V→List V→Hp→VK→Prop:=fun x vs H Q=>∃l xs y,x=.ref l∧vs=[y]∧H l=some (.lst xs)∧xs.length<sizeLine∧Q .non (upd H l (.lst (xs++[y])))
theorem yS:nA X "list.append" SR:=by
 intro pins s σ H x vs v us Q I rx rv h;obtain ⟨l,xs,y,rfl,rfl,hH,hz,q⟩:=h;cases rx;obtain ⟨u,rfl,ru⟩:=rv.one;obtain ⟨z,its,n,r,hl,e⟩:=I.lstM hH;refine gh F.slot_list_append ⟨_,e,rfl⟩ F.entry_list_append (F.args_list_append_2 _ _) (PySem.list_append l its.toArray n u (by rw [ai];omega)) ⟨e,?_⟩;refine ⟨.non,_,I.lset (its':=its++[u]) hH e (by simp) (r.append (.cons ru .nil)) ?_,rfl,q⟩;rw [af,aF];omega
def SQ:V→List V→Hp→VK→Prop:=fun x vs H Q=>∃l b xs zs,x=.ref l∧vs=[.ref b]∧H l=some (.lst xs)∧H b=some (.lst zs)∧xs.length+zs.length≤sizeLine∧Q .non (upd H l (.lst (xs++zs)))
theorem BR:nA X "list.extend" SQ:=by
 intro pins s σ H x vs v us Q I rx rv h;obtain ⟨l,b,xs,zs,rfl,rfl,hH,hB,hz,q⟩:=h;cases rx;obtain ⟨u,rfl,ru⟩:=rv.one;cases ru;obtain ⟨z,its,n,r,hl,e⟩:=I.lstM hH;obtain ⟨z2,its2,n2,r2,hl2,e2⟩:=I.lstM hB;have hsz:its.toArray.size+its2.toArray.size≤sizeLine:=by rw [ai,ai];omega
 have hlong:¬(!its.toArray.isEmpty&&Builtin.List.listTooLong (its.toArray.size+its2.toArray.size))=true:=by
  rw [CW hsz,Bool.and_false];exact aB
 refine gh F.slot_list_extend ⟨_,e,rfl⟩ F.entry_list_extend (F.args_list_extend_2 _ _)
  (AutoSeq1.list_extend_list_list_0 l its.toArray n b its2.toArray n2 hlong (by rw [ai];omega) (by omega)) ⟨e,e2,?_⟩
 refine ⟨.non,_,I.lset (its':=its++its2) hH e (by simp) (r.append r2) ?_,rfl,q⟩;rw [af];omega
def WG:R2:=fun x y H Q=>∃l b xs zs,x=.ref l∧y=.ref b∧H l=some (.lst xs)∧H b=some (.lst zs)∧xs.length+zs.length≤sizeLine∧∀p,H p=none→Q (.ref p) (upd H p (.lst (xs++zs)))
theorem ZS:qH X (binaryOp .Add) WG:=by
 intro pins s σ H x y v u Q I rx ry h;obtain ⟨l,b,xs,zs,rfl,rfl,hH,hB,hz,q⟩:=h;cases rx;cases ry;obtain ⟨z,its,n,r,hl,e⟩:=I.lstM hH;obtain ⟨z2,its2,n2,r2,hl2,e2⟩:=I.lstM hB;refine PySem.P.add_list e e2 ?_ (by rw [ai,ai];omega);have ea:its.toArray++its2.toArray=(its++its2).toArray:=by simp
 rw [ea];exact ⟨.ref _,_,I.lnew (t':=s.toks) (r.append r2) (by rw [af];omega),rfl,q _ I.fresh⟩
def WE:R2:=fun x y H Q=>∃l k xs,x=.ref l∧y=.int k∧H l=some (.lst xs)∧-(2 ^ 63)≤k∧k<2 ^ 63∧xs.length*k.toNat≤sizeLine∧
 ∀p,H p=none→Q (.ref p) (upd H p (.lst (List.replicate k.toNat xs).flatten))
theorem DT {α:Type} (xs:List α) (k:Nat):(List.replicate k xs).flatten.length=k*xs.length:=by
 induction k with
 |zero=>simp
 |succ k ih=>rw [bh,fb,af,ih,Nat.succ_mul,Nat.add_comm]
theorem EO:qH X (binaryOp .Mult) WE:=by
 intro pins s σ H x y v u Q I rx ry h;obtain ⟨l,k,xs,rfl,rfl,hH,h1,h2,hz,q⟩:=h;cases rx;obtain ⟨t,rfl⟩:=ry;obtain ⟨z,its,n,r,hl,e⟩:=I.lstM hH;have hlen:its.toArray.size*k.toNat≤sizeLine:=by rw [ai,← hl];exact hz
 have hcap:¬its.toArray.size*k.toNat>(2 ^ 63 - 1) / 8:=by
  have:(sizeLine:Nat)≤(2 ^ 63 - 1) / 8:=by decide
  omega
 have hfit:¬(!Builtin.List.listFitsIndex k)=true:=by
  rw [fitsIndex_both h1 h2];exact aB
 have hlong:¬Builtin.List.listTooLong (its.toArray.size*k.toNat)=true:=by
  rw [CW hlen];exact aB
 have hnew:List.foldl (fun x1 x2=>x1++x2) #[] (List.replicate (if its.toArray.isEmpty=true then 0 else k.toNat) its.toArray)=(List.replicate k.toNat its).flatten.toArray:=by
  have f0:∀m:Nat,List.foldl (fun x1 x2=>x1++x2) #[] (List.replicate m its.toArray)=(List.replicate m its).flatten.toArray:=fun m=>by
   have:=BV its m [];rw [List.nil_append] at this;exact this
  rw [f0];cases its with
  |nil=>simp
  |cons a r'=>rw [if_neg (by simp)]
 refine wpAny_binaryOp_repeat_ref (T:="list") (U:="int") (by decide) ⟨_,e,rfl⟩ (fun s'=>typeIs_int s' k t) noFill_list_mul F.fills_int_mul iq repeat_list F.slot_int_index.lookup
  (gh iq (typeIs_int s k t) F.entry_int_rmul (F.args_int_rmul_2 _ _) (int___rmul___int_list k t l its.toArray n)
   ⟨e,rfl,⟨_,e,rfl⟩,gh F.slot_list_mul ⟨_,e,rfl⟩ F.entry_list_mul (F.args_list_mul_2 _ _) (AutoListH.list___mul___list_int_3 l its.toArray n k t hfit hcap hlong) ⟨e,?_⟩⟩)
 rw [hnew];exact ⟨.ref _,_,I.lnew (t':=s.toks) (r.rep k.toNat) (by rw [DT,Nat.mul_comm];exact hz),rfl,q _ I.fresh⟩
end
section
variable {prog:Program} {w:World} {A:Around} {E:Value→Shared→Prop} {s:Shared}
end
section
variable {X:Cx}
end
end L2
namespace Att
open PySem PySem.W PySem.Calls PyProof.Rows
theorem M9 {P:Params} {h:Heap}:∀(ns:List Int) (vs:List Value),WellAll P h vs (ns.map WData.int)→IntsAre vs ns:=by
 intro ns
 induction ns with
 |nil =>
  intro vs w;rw [List.map_nil] at w;cases w;exact .nil
 |cons n ns ih =>
  intro vs w;rw [List.map_cons] at w;cases w with
  |cons a b =>
   cases a;exact .cons _ _ (ih _ b)
theorem OX {l:OpenLaw} {n:Nat} (hn:l.most=some n) {P:Params} {h:Heap} {args:List WData} {vals:List Value}
  (hpre:l.row.toRowW.claim.pre args=true) (hwl:WellAll P h vals args) :
  ∃a vs ns,vals=[Value.ref a]∧args=[WData.list (ns.map WData.int)]∧h.get? a=some {cls:=.type "list",data:=.seq vs.toArray}∧IntsAre vs ns∧ns.length≤n:=by
 have hsh:WShape.hasAll [] args [.list .int]=true:=(pre_splitW hpre).1;have hc:l.pre.holds [] {args:=args}=true:=(pre_splitW hpre).2;obtain ⟨d,r,rfl,h1,h2⟩:=hasAllW_cons hsh;obtain rfl:=hasAllW_nil h2;obtain ⟨xs,rfl,h3⟩:=hasW_list h1;obtain ⟨ns,rfl⟩:=items_int h3;have hlen:ns.length≤n:=by
  unfold OpenLaw.pre at hc;have h4:(WTm.not (.lt (.lit (.int (n:Int))) (.len (.arg 0)))).holds [] {args:=[.list (ns.map .int)]}=true:=by
   have h4:=(holds_andW hc).1;rw [hn] at h4;exact h4
  have h5:=condW_of h4 (w_not (w_lt w_lit (w_len_list (w_arg rfl))));rw [List.length_map] at h5;refine Nat.le_of_not_lt fun q=>?_
  have q':(n:Int)<((ns.length:Nat):Int):=by omega
  first
   | (rw [decide_eq_true q'] at h5;exact absurd h5 (by decide))
   | (simp at h5;omega)
 cases hwl with
 |cons w1 w2 =>
  cases w2;cases w1 with
  |list ho hall=>exact ⟨_,_,ns,rfl,rfl,ho,M9 ns _ hall,hlen⟩
theorem O0 (l:OpenLaw) (args:List WData):l.row.toRowW.claim.post args (.bool true) args=true :=
 postW_of (r:=l.row.toRowW) (X:=(true == true))
  (show WShape.has [] (.bool true) .bool=true by first|rfl|decide|simp [WShape.has,WShape.arms,WShape.armsAll])
  (show (WTm.eq .res (.lit (.bool true))).value [] {args:=args,res:=some (.bool true),after:=args}=some (.bool (true == true)) from w_eq_bool (w_res rfl) w_lit) rfl
theorem attach_call {l:OpenLaw} {n:Nat} {q:Program} {loose:List Str} {XP:(Str→Option Value)→Heap→Prop} {YP:World→Heap→Prop} {d:DefRec}
  (hn:l.most=some n) (hdf:d.params.defaults=[])
  (call:∀(w:World) (s₀ s₁:Shared) (mg mb:Str→Option Value) (fa:Addr) (o:Obj) (pm cd doc:Value) (a:Addr) (vs:List Value) (ns:List Int),
   Ground q loose [] XP w s₀ mg mb s₁.heap→YP w s₁.heap→
   s₁.heap.get? fa=some o→o.data=.func (docDef d.name d.params d.body d.scope pm cd doc)→s₁.heap.CodeRec cd d.name→mg d.name=some (.ref fa)→
   s₁.heap.get? a=some {cls:=.type "list",data:=.seq vs.toArray}→IntsAre vs ns→ns.length≤n→s₁.gens = #[]→
   codeAny (model l.prog w) callerA (.call (.ref fa) ⟨[.ref a],[]⟩) (fun r s'=>r=.ok (.ret (.bool true))∧OldK s₁.heap s'.heap∧s'.os=s₁.os∧AllBare s'.gens) s₁) :
  WalkO q loose XP YP l.row.toRowW d [] (fun f vs=>PySem.call f vs):=by
 intro w s₀ s₁ mg mb G Y fa o pm cd doc dV kV ho hd hcd hD hmg hg args vals as hpre hlay hrd hwl hlo;obtain rfl:dV=.none:=Dflts.none hD hdf;obtain rfl:kV=.none:=Dflts.noKw hD;obtain ⟨a,vs,ns,rfl,rfl,hobj,hints,hlen⟩:=OX hn hpre hwl;refine enter_call (codeAny_mono (call w s₀ s₁ mg mb fa o pm cd doc a vs ns G Y ho (fd_plain hd) hcd hmg hobj hints hlen hg) fun r s' hq=>?_);obtain ⟨rfl,h2,h3,h4⟩:=hq;exact ⟨.inl ⟨.bool true,.bool true,[],rfl,fun _=>rfl,.bool true,O0 l _,fun _=>⟨List.Pairwise.nil,fun _ hm=>(nomatch hm)⟩⟩,h2,h3,h4⟩
section
variable {prog:Program} {w:World} {A:Around} {E:Value→Shared→Prop} {s:Shared} {K:Frag}
def ledger (h:Heap) (L d:Addr):List (Addr×Obj):=(List.range h.objs.size).filterMap fun a=>if a=L∨a=d then none else (h.get? a).map fun o=>(a,o)
end
end Att
namespace L2
open PySem PySem.Spec PyProof.Rows
theorem BD:∀{vs:List Value} {ns:List Int},IntsAre vs ns→Vals (ns.map V.int) vs
 |_,_,.nil=>.nil
 |_,_,.cons n t h=>.cons ⟨t,rfl⟩ (BD h)
def wR (H:Hp):Prop:=∀b,H b=none∨∃o xs,H b=some (.frz o (.lst xs))
theorem RU {P:Program} {w:World} {K:PySem.W.Frag} {mg mb:Str→Option Value} {CX:yG} {k:Nat} {fa a:Addr} {fd:FuncData} {x:Str} {sp:Sp} {s₁:Shared} {vs:List Value} {ns:List Int}
  (KX:K.In s₁.heap) (hns:s₁.heap.Ns mainGlobals mg) (hb:s₁.heap.Ns builtinsNs mb) (hbb:∀x:Str,x≠"__name__"→mb x=bootBuiltins x) (hlim:s₁.heap.NoLimit) (hg:s₁.gens = #[])
  (ha:s₁.heap.get? a=some {cls:=.type "list",data:=.seq vs.toArray}) (hi:IntsAre vs ns) (hl:ns.length≤sizeLine) (hr:Room k callerA)
  (F:∀base:Heap,K.In base→base.Ns mainGlobals mg→FnOk P w K mg base CX k fa fd [x] sp) (hbind:∀(s:Shared) (u:Value),BindsTo s fd ⟨[u],[]⟩ [(x,u)])
  (hsp:∀H:Hp,wR H→SqL K H a (ns.map V.int)→sp [.ref a] H (fun v _=>v=.bl true) fun _ _ _=>False)
  (hCX:∀H e s',CX [] H s₁ (fun _ _ _=>False) e s'→False) :
  codeAny (model P w) callerA (.call (.ref fa) ⟨[.ref a],[]⟩) (fun r s'=>r=.ok (.ret (.bool true))∧OldK s₁.heap s'.heap∧s'.os=s₁.os∧AllBare s'.gens) s₁:=by
 have rv:=BD hi;have lenV:=hi.length;have core:∀H:Hp,wR H→SqL K H a (ns.map V.int)→HOk P w H s₁.heap→(∀b,H b≠none→b=a)→(H a≠none→K.lookup a=none)→
   codeAny (model P w) callerA (.call (.ref fa) ⟨[.ref a],[]⟩) (fun r s'=>r=.ok (.ret (.bool true))∧OldK s₁.heap s'.heap∧s'.os=s₁.os∧AllBare s'.gens) s₁:=by
  intro H hO hS hok hA hK;have base_of:∀{b:Addr} {o:Obj},s₁.heap.get? b=some o→H b=none→(Q8 s₁.heap H).get? b=some o:=fun e n=>RW e n
  have noA:∀{b:Addr} {o:Obj} {es:Array DictEntry} {ep:Nat},s₁.heap.get? b=some o→o.data=.dict es ep→H b=none:=fun {b o es ep} e d=>by
   cases q:H b with
   |none=>rfl
   |some u =>
    have e':b=a:=hA b (by rw [q];simp);subst e';rw [ha] at e;cases e
    have d':Data.seq vs.toArray _=Data.dict es ep:=d;cases d'
  have nsK:∀{b:Addr} {m:Str→Option Value},s₁.heap.Ns b m→(Q8 s₁.heap H).Ns b m:=fun {b m} ⟨o,es,ep,e,d,r⟩=>⟨o,es,ep,base_of e (noA e d),d,r⟩
  have hKb:K.In (Q8 s₁.heap H):=fun b o e=>base_of (KX b o e) (by
   cases q:H b with
   |none=>rfl
   |some u =>
    have e':b=a:=hA b (by rw [q];simp);subst e';rw [hK (by rw [q];simp)] at e;cases e)
  have hM:Mod K mg (Q8 s₁.heap H):=⟨hKb,nsK hns,⟨mb,nsK hb,hbb⟩,let ⟨mc,h1,h2⟩:=hlim;⟨mc,nsK h1,h2⟩⟩;have e0:Env0 P w K mg (Q8 s₁.heap H) callerA [] s₁ H:=⟨rfl,hM,fun b o e=>S9 e,Nat.le_of_eq (PK _ _),trivial,fun b hb=>absurd (show b∈([]:List Addr) from hb) (by simp),hok,.of_eq hg⟩;refine ie ((F _ hKb (nsK hns)).run callerA [] s₁ H ⟨[.ref a],[]⟩ [.ref a] [.ref a] _ _ hr e0 (hbind s₁ (.ref a)) (.cons rfl .nil) (hsp H hO hS)) fun r s' h=>?_
  cases r with
  |error e=>exact (hCX H e s' h).elim
  |ok fl =>
   cases fl with
   |next=>exact False.elim h
   |brk=>exact False.elim h
   |cont=>exact False.elim h
   |ret u =>
    obtain ⟨v,H',os,bare,un,hok',r',q⟩:=h;have q':v=.bl true:=q;subst q';obtain rfl:u=Value.bool true:=r';refine ⟨rfl,OldK.of_keep fun b o e=>?_,os,bare⟩;cases q:H b with
    |none=>exact un.keep b o e q (by intro z;exact absurd (show b∈([]:List Addr) from z) (by simp)) (by simp)
    |some u =>
     rcases hO b with z|⟨ob,xs,z⟩
     ·rw [q] at z;cases z
     ·have z2:=un.frzs b ob _ z;obtain ⟨e1,_⟩:=hok b _ z;obtain ⟨e2,_⟩:=hok' b _ z2;rw [e] at e1;cases e1
      exact e2
 cases hk:K.lookup a with
 |some o =>
  have e:=KX a o hk;rw [ha] at e;cases e;refine core (fun _=>none) (fun _=>.inl rfl) (.inr ⟨_,vs.toArray,_,hk,rfl,rfl,rfl,by rw [ai,lenV];exact hl,by simpa using rv⟩) (fun b u z=>by have z':(none:Option HO)=some u:=z;cases z') (fun b z=>absurd rfl z) fun z=>absurd rfl z
 |none =>
  refine core (fun b=>if b=a then some (.frz {cls:=.type "list",data:=.seq vs.toArray} (.lst (ns.map V.int))) else none) (fun b=>?_) (.inl (.inr ⟨{cls:=.type "list",data:=.seq vs.toArray},if_pos rfl⟩)) (fun b u z=>?_) (fun b z=>?_) fun _=>hk
  ·by_cases hb:b=a
   ·exact .inr ⟨_,_,if_pos hb⟩
   ·exact .inl (if_neg hb)
  ·by_cases hb:b=a
   ·have z':=(if_pos hb).symm.trans z;cases z';subst hb;exact ⟨ha,by rw [ae];exact hl,vs,_,rv,ha⟩
   ·have z':=(if_neg hb).symm.trans z;cases z'
  ·by_cases hb:b=a
   ·exact hb
   ·exact absurd (if_neg hb) z
theorem walk_of {l:PySem.W.OpenLaw} {n k:Nat} {q:Program} {loose:List Str} {XP:(Str→Option Value)→Heap→Prop} {YP:World→Heap→Prop} {d:DefRec} {K:Params→PySem.W.Frag} {CX:World→yG} {sp:World→Sp} {x:Str}
  (hn:l.most=some n) (hn2:n≤sizeLine) (hdf:d.params.defaults=[]) (hr:Room k callerA)
  (hY:∀(w:World) (h:Heap),YP w h→(K w.params).In h)
  (F:∀(w:World) (mg:Str→Option Value) (fa:Addr) (h:Heap),(K w.params).In h→h.Ns mainGlobals mg→mg d.name=some (.ref fa)→
   ∃fd:FuncData,(∀(s:Shared) (u:Value),BindsTo s fd ⟨[u],[]⟩ [(x,u)])∧
    ∀base:Heap,(K w.params).In base→base.Ns mainGlobals mg→FnOk l.prog w (K w.params) mg base (CX w) k fa fd [x] (sp w))
  (hsp:∀(w:World) (H:Hp) (a:Addr) (ns:List Int),ns.length≤n→wR H→SqL (K w.params) H a (ns.map V.int)→sp w [.ref a] H (fun v _=>v=.bl true) fun _ _ _=>False)
  (hCX:∀(w:World) (H:Hp) (s:Shared) (e:Value) (s':Shared),CX w [] H s (fun _ _ _=>False) e s'→False) :
  PySem.W.WalkO q loose XP YP l.row.toRowW d [] (fun f vs=>PySem.call f vs):=by
 refine Att.attach_call hn hdf fun w s₀ s₁ mg mb fa o pm cd doc a vs ns G Y ho hd hcd hmg hobj hints hlen hg=>?_
 have KX:=hY w _ Y;obtain ⟨fd,hb,hF⟩:=F w mg fa _ KX G.T.g hmg;exact RU KX G.T.g G.T.b G.T.builtins G.T.nolimit hg hobj hints (aI hlen hn2) hr hF hb (fun H hO hS=>hsp w H a ns hlen hO hS) fun H e s'=>hCX w H s₁ e s'
def qQ (s:Stmt) (j:Nat):Stmt:=match s with
 |.ClassDef _ _ _ body _ _ _ _ _ _ _=>body.getD j (.Pass ⟨0,0,0,0⟩)
 |_=>.Pass ⟨0,0,0,0⟩
def vI (s:Stmt):Arguments:=match s with
 |.FunctionDef _ a _ _ _ _ _ _ _ _=>a
 |_=>{posonlyargs:=[],args:=[],vararg:=none,kwonlyargs:=[],kw_defaults:=[],kwarg:=none,defaults:=[]}
def qN (s:Stmt):List Stmt:=match s with
 |.FunctionDef _ _ b _ _ _ _ _ _ _=>b
 |_=>[]
def j8 (s:Stmt):Scope:=match s with
 |.FunctionDef _ _ _ _ _ _ sc _ _ _=>sc
 |_=>{kind:=.function,names:=[],isGenerator:=false,isCoroutine:=false}
abbrev jQ:yG:=fun _ _ _ _ _ _=>False
abbrev E0:XK:=fun _ _ _=>False
theorem dQ {X:Cx}:bS jQ X E0:=fun _ _ _ _ _ _ _ h=>h.elim
structure Fun (K:PySem.W.Frag) (x qual:Str) (st:Stmt) (f:Addr) (fd:FuncData):Prop where
 ex:∃(oc:Value) (od:Option Addr) (kV doc pm:Value) (an:Option Addr) (cdv ct:Value) (osl:Array (Option Value)),
  fd=PySem.W.fnOf x qual (vI st) (qN st) (j8 st) .none kV doc pm an cdv ct∧K.lookup f=some ⟨oc,od,.func fd,osl⟩∧PySem.W.codeIn K cdv qual=true
 kp:PySem.W.keepIn K (.ref f)=true
section
variable {P:Program} {w:World} {K:PySem.W.Frag} {mg:Str→Option Value} {base:Heap}
theorem Fun.ok {x qual:Str} {st:Stmt} {f:Addr} {fd:FuncData} {N ps:List Str} {k:Nat} {sp:Sp} (F:Fun K x qual st f fd) (S:FnScope N ps (j8 st)) (len:∀vs H Q E,sp vs H Q E→vs.length=ps.length)
  (hbody:∀(cdv:Value) (A:Around) (outer:List Env) (s:Shared) (H:Hp) (vs:List V) (Q:VK) (E:XK),Room k (A.deeper (envOfC qual (j8 st) s.heap.objs.size f cdv))→sp vs H Q E→
   ∃t,PSs (qB jQ P w K mg base N qual (j8 st) f cdv A outer s H E).nox (qN st) t∧t {nx:=fun _ H'=>Q .non H',rt:=Q} (start N vs) H):FnOk P w K mg base jQ (k+1) f fd ps sp:=by
 obtain ⟨oc,od,kV,doc,pm,an,cdv,ct,osl,rfl,lk,hcd⟩:=F.ex;refine wD lk hcd S len fun A outer s H vs Q E hr hsp=>?_
 obtain ⟨t,h,q⟩:=hbody cdv A outer s H vs Q E hr hsp;exact ⟨t,h.nox,q⟩
theorem Fun.binds {x qual:Str} {st:Stmt} {f:Addr} {fd:FuncData} {ps:List Str} (F:Fun K x qual st f fd)
  (h:∀(kV doc pm:Value) (an:Option Addr) (cdv ct:Value) (us:List Value),us.length=ps.length→bindArgs (PySem.W.fnOf x qual (vI st) (qN st) (j8 st) .none kV doc pm an cdv ct) ⟨us,[]⟩=pure (ps.zip us)):Binds K fd ps []:=by
 obtain ⟨oc,od,kV,doc,pm,an,cdv,ct,osl,rfl,lk,hcd⟩:=F.ex;exact .all (h kV doc pm an cdv ct)
theorem gL {x qual:Str} {st:Stmt} {f:Addr} {oc:Value} {od an:Option Addr} {osl:Array (Option Value)} {kV doc pm cdv ct:Value} (l:K.lookup f=some ⟨oc,od,.func (PySem.W.fnOf x qual (vI st) (qN st) (j8 st) .none kV doc pm an cdv ct),osl⟩)
  (c:PySem.W.codeIn K cdv qual=true) (k:PySem.W.keepIn K (.ref f)=true):Fun K x qual st f (PySem.W.fnOf x qual (vI st) (qN st) (j8 st) .none kV doc pm an cdv ct):=⟨⟨oc,od,kV,doc,pm,an,cdv,ct,osl,rfl,l,c⟩,k⟩
end
theorem FB {A:Around} {k:Nat} (hr:Room k A):A.units+1<cLine:=Nat.lt_of_le_of_lt (Nat.add_le_add_left (by decide:1≤64) _) hr.units
theorem qX {n:Nat} (h:n≤1000):n<sizeLine:=Nat.lt_of_le_of_lt h (by decide)
section
variable {X:Cx}
theorem pv (i:Nat) {x:Str} {pos:Pos} (hN:X.N[i]?=some x:=by rfl) (hv:mY X.env.scope x:=by first|exact Or.inl rfl|exact Or.inr (Or.inl rfl)|exact Or.inr (Or.inr rfl)) (hd:(x == ("__debug__":Str))=false:=by decide)
  (hcd:(x == ("__classdict__":Str))=false:=by decide):PE X (.Name x pos) (FH i):=UM hN hv hd hcd
end
variable {A B:Prop}
theorem vA (h:B):if false=true then A else B:=by
 rw [if_neg aB];exact h
theorem qG (h:A):if true=true then A else B:=by
 rw [if_pos rfl];exact h
theorem zH {c:Prop} [Decidable c] (h1:c→A) (h2:¬c→B):if c then A else B:=by
 by_cases h:c
 ·rw [if_pos h];exact h1 h
 ·rw [if_neg h];exact h2 h
theorem ZY {c:Prop} [Decidable c] (hc:c) (h:B):if (!decide c)=true then A else B:=by
 rw [aT hc];exact vA h
def Same (H H':Hp):Prop:=∀b o,H b=some o→H' b=some o
theorem Same.refl (H:Hp):Same H H:=fun _ _ h=>h
variable {H:Hp}
theorem Same.trans {H1 H2:Hp} (a:Same H H1) (b:Same H1 H2):Same H H2:=fun c o h=>b c o (a c o h)
theorem Same.free {H':Hp} (e:Same H H') {l:Addr} (h:H' l=Option.none):H l=Option.none:=by
 cases q:H l with
 |none=>rfl
 |some o =>
  rw [e l o q] at h;cases h
theorem Same.seq {K:PySem.W.Frag} {H':Hp} {a:Addr} {xs:List V} (e:Same H H') (h:SqL K H a xs):SqL K H' a xs:=by
 rcases h with (h|⟨o,h⟩)|h
 ·exact .inl (.inl (e _ _ h))
 ·exact .inl (.inr ⟨o,e _ _ h⟩)
 ·exact .inr h
end L2
namespace L2
open PySem PySem.Spec PyProof.Rows
def yI (cells:List (Str×Addr)):List (Str×NameKind)→List (Str×Addr)→List (Str×Addr)
 |[],cs=>cs
 | (n,k)::r,cs=>if (k == NameKind.free)=true then yI cells r ((n,(cells.lookup n).getD 0)::cs) else yI cells r cs
variable {scope:Scope}
theorem rX {env:Env} (h:∀x∈scope.names,x.2=.free→∃c,env.cells.lookup x.1=some c):closureFor scope env=pure (yI env.cells scope.names []):=by
 simp only [closureFor];have go:∀(l:List (Str×NameKind)) (cs:List (Str×Addr)),(∀x∈l,x.2=.free→∃c,env.cells.lookup x.1=some c)→
   (forIn l cs fun x r=>match x with|(name,kind)=>if (kind == NameKind.free)=true then do let a ← cellOf env name;pure (ForInStep.yield ((name,a)::r)) else pure (ForInStep.yield r):Sem (List (Str×Addr)))=pure (yI env.cells l cs):=by
  intro l
  induction l with
  |nil=>intro cs _;rfl
  |cons p r ih =>
   intro cs hp;obtain ⟨n,k⟩:=p;rw [List.forIn_cons];have hr:=fun cs=>ih cs fun x hx=>hp x (aK _ hx)
   by_cases hk:(k == NameKind.free)=true
   ·have hk':k=NameKind.free:=by simpa using hk
    obtain ⟨c,hc⟩:=hp (n,k) bd hk';have hc':env.cells.lookup n=some c:=hc;simp only [hk,if_true,yI,cellOf,hc',Option.getD_some,pure_bind];exact hr _
   ·simp only [hk,if_false,yI,pure_bind];exact hr _
 rw [go scope.names [] h];rfl
theorem iQ {cells:List (Str×Addr)}:∀{l:List (Str×NameKind)} {cs:List (Str×Addr)} {x:Str} {c:Addr},(∀y∈l,y.2=.free→∃c,cells.lookup y.1=some c)→(∀y d,cs.lookup y=some d→cells.lookup y=some d)→
  (yI cells l cs).lookup x=some c→cells.lookup x=some c
 |[],cs,x,c,_,hc,e=>hc x c e
 | (n,k)::r,cs,x,c,hl,hc,e=>by
  unfold yI at e
  by_cases hk:(k == NameKind.free)=true
  ·rw [if_pos hk] at e;obtain ⟨d,hd⟩:=hl (n,k) bd (by simpa using hk);have hd':cells.lookup n=some d:=hd;refine iQ (fun y hy=>hl y (aK _ hy)) (fun y d' q=>?_) e;rw [ck] at q
   by_cases hy:(y == n)=true
   ·rw [hy] at q;have hyn:y=n:=by simpa using hy
    subst hyn;rw [hd'] at q ⊢;exact q
   ·rw [Bool.not_eq_true] at hy;rw [hy] at q;exact hc y d' q
  ·rw [if_neg hk] at e;exact iQ (fun y hy=>hl y (aK _ hy)) hc e
theorem sL {cells:List (Str×Addr)}:∀{l:List (Str×NameKind)} {cs:List (Str×Addr)} {x:Str},(∃c,cs.lookup x=some c)→∃c,(yI cells l cs).lookup x=some c
 |[],_,_,h=>h
 | (n,k)::r,cs,x,h=>by
  unfold yI
  by_cases hk:(k == NameKind.free)=true
  ·rw [if_pos hk];refine sL ?_;rw [ck]
   by_cases hy:(x == n)=true
   ·rw [hy];exact ⟨_,rfl⟩
   ·rw [Bool.not_eq_true] at hy;rw [hy];exact h
  ·rw [if_neg hk];exact sL h
theorem iX {cells:List (Str×Addr)}:∀{l:List (Str×NameKind)} {cs:List (Str×Addr)} {x:Str},(x,NameKind.free)∈l→∃c,(yI cells l cs).lookup x=some c
 | (n,k)::r,cs,x,h=>by
  unfold yI
  rcases aq.mp h with e|e
  ·cases e;rw [if_pos (by rfl)];exact sL (by rw [ck,fo];exact ⟨_,rfl⟩)
  ·by_cases hk:(k == NameKind.free)=true
   ·rw [if_pos hk];exact iX e
   ·rw [if_neg hk];exact iX e
def qP (X:Cx) (N:List Str) (scope:Scope) (C:Addr) (s:Shared) (H:Hp) (pins:List (Addr×Obj)) (fp:List Addr):Cx where
 prog:=X.prog
 w:=X.w
 K:=X.K
 mg:=X.mg
 base:=X.base
 A:=X.A
 N:=N
 s₀:=s
 H₀:=H
 env:=compEnvC scope (yI X.env.cells scope.names []) C X.env
 outer:=X.stack
 stack:=X.stack
 ex:=fp
 fn:=fun _=>false
 calm:=X.calm
 pn:=X.pn++pins
 xe:=fun _ _=>False
structure CompScope (X:Cx) (scope:Scope):Prop where
 kind:scope.kind=.function
 nocell:∀y∈scope.names,y.2≠.cell
 names:∀y∈scope.names,y.2=.local→scope.names.lookup y.1=some .local
 free:∀y∈scope.names,y.2=.free→X.env.kindOf y.1=some .cell∨X.env.kindOf y.1=some .free
theorem rW {env:Env} {x:Str}:∀{names:List (Str×NameKind)} {k:NameKind},(names.map fun (n,k)=>if (k == NameKind.free&&env.scope.kind == .function&&env.kindOf n == some .cell) then (n,NameKind.cell) else (n,k)).lookup x=some k→
  ∃k',names.lookup x=some k'∧(k'=k∨(k'=.free∧k=.cell∧env.kindOf x=some .cell))
 |[],k,h=>by simp at h
 | (n,k0)::r,k,h=>by
  have ih:=@rW env x r k;have h':List.lookup x ((if (k0 == NameKind.free&&env.scope.kind == .function&&env.kindOf n == some .cell)=true then (n,NameKind.cell) else (n,k0))::r.map fun (n,k)=>if (k == NameKind.free&&env.scope.kind == .function&&env.kindOf n == some .cell)=true then (n,NameKind.cell) else (n,k))=some k:=h
  by_cases hc:(k0 == NameKind.free&&env.scope.kind == .function&&env.kindOf n == some .cell)=true
  ·rw [if_pos hc] at h';rw [ck] at h';cases hx:x == n with
   |true =>
    rw [hx] at h';have hk:NameKind.cell=k:=aA h';simp only [da,gt] at hc;have hxn:x=n:=by simpa using hx
    refine ⟨k0,by rw [ck,hx],.inr ⟨hc.1.1,hk.symm,by rw [hxn];exact hc.2⟩⟩
   |false =>
    rw [hx] at h';obtain ⟨k',e1,e2⟩:=ih h';exact ⟨k',by rw [ck,hx];exact e1,e2⟩
  ·rw [if_neg hc] at h';rw [ck] at h';cases hx:x == n with
   |true =>
    rw [hx] at h';exact ⟨k0,by rw [ck,hx],.inl (aA h')⟩
   |false =>
    rw [hx] at h';obtain ⟨k',e1,e2⟩:=ih h';exact ⟨k',by rw [ck,hx];exact e1,e2⟩
theorem sI {α:Type}:∀{l:List (Str×α)} {x:Str} {k:α},l.lookup x=some k→(x,k)∈l
 |[],_,_,h=>by simp at h
 | (n,a)::r,x,k,h=>by
  rw [ck] at h;cases hx:x == n with
  |true =>
   rw [hx] at h;have e:a=k:=aA h;have hxn:x=n:=by simpa using hx
   subst e;subst hxn
   exact bd
  |false =>
   rw [hx] at h;exact aK _ (sI h)
def cJ (X:Cx) (ifs:List Expr) (t:TT):Prop :=
 ∀(pins:List (Addr×Obj)) (s:Shared) (σ:St) (H:Hp) (Q:Bool→Hp→Prop),Inv X pins σ H s→t σ H Q→
  wpAny (model X.prog X.w) X.A (forIn ifs true fun c r=>if r=true then do let ok ← isTrue c X.env (eval c X.env);pure (ForInStep.yield ok) else pure (ForInStep.yield r)) (TP X pins σ Q) X.xe s
def wI:TT:=fun _ H Q=>Q true H
variable {X:Cx}
theorem yR:cJ X [] wI:=fun _ _ _ H _ I h=>wpAny_tests_nil ⟨H,I,h⟩
theorem fI {c:Expr} {t:TT} (hc:PT X c t):cJ X [c] t:=fun pins s σ H Q I h=>wpAny_tests_one (hc pins s σ H Q I h)
def JA (D:Addr) (J:It) (g:TG) (tc:TT) (te:TE) (σ₀:St) (H:Hp) (Q:Hp→Prop):Prop :=
 ∃W:Nat→Nat→St→Hp→Prop,(∃m,W 0 m σ₀ (upd H D (.lst [])))∧∀i m σ' H',W i m σ' H'→
  (J.stop i H'∧Q H')∨(J.go i H'∧∃N:St→Hp→Prop,(∀σ'' H'',N σ'' H''→∃m',m'<m∧W (i+1) m' σ'' H'')∧∀x H2,J.yld i H' x H2→g x σ' H2 fun σ2 H3=>tc σ2 H3 fun b H4 =>
   if b=true then te σ2 H4 fun v H5=>∃xs,H5 D=some (.lst xs)∧xs.length<sizeLine∧N σ2 (upd H5 D (.lst (xs++[v]))) else N σ2 H4)
def lW (wi:TI) (cap:St→St) (g:TG) (tc:TT) (te:TE):TE:=fun σ H Q=>wi σ H fun J H1=>∀D,H1 D=none→JA D J g tc te (cap σ) H1 fun H'=>Q (.ref D) H'
def P9 (i:Nat) (wi:TI) (cap:St→St) (g:TG) (tc:TT) (te:TE):TS:=fun D σ H=>wi σ H fun J H1=>∀d,H1 d=none→JA d J g tc te (cap σ) H1 fun H'=>D.nx (σ.set i (some (.ref d))) H'
def ZF (X:Cx) (N:List Str) (scope:Scope) (cap:St→St):Prop :=
 ∀σ:St,σ.length=X.N.length→(cap σ).length=N.length∧∀(i:Nat) (x:Str) (v:V),N[i]?=some x→(cap σ)[i]?=some (some v)→scope.names.lookup x=some .free∧∃j:Nat,X.N[j]?=some x∧σ[j]?=some (some v)
def vF (n:Nat) (js:List Nat):St→St:=fun σ=>List.replicate n none++js.map fun j=>(σ[j]?).join
theorem GN {N:List Str} (n:Nat) (js:List Nat) (h1:N.length=n+js.length) (h2:js.map (fun j=>X.N[j]?)=(N.drop n).map some) (h3:∀x∈N.drop n,scope.names.lookup x=some .free):ZF X N scope (vF n js):=by
 intro σ hσ;refine ⟨by unfold vF;rw [af,bf,ae,h1],fun i x v e1 e2=>?_⟩;unfold vF at e2
 by_cases hi:i<n
 ·rw [av (by simpa using hi),hJ,if_pos hi] at e2;cases e2
 ·rw [aw (by simpa using hi),bf,ao] at e2;cases hj:js[i - n]? with
  |none=>rw [hj] at e2;cases e2
  |some j =>
   rw [hj] at e2;have e3:(σ[j]?).join=some v:=aA e2;have e4:σ[j]?=some (some v):=by
    cases q:σ[j]? with
    |none=>rw [q] at e3;cases e3
    |some o =>
     rw [q] at e3;have e5:o=some v:=e3;rw [e5]
   have hd:(N.drop n)[i - n]?=some x:=by
    rw [List.getElem?_drop,show n+(i - n)=i by omega];exact e1
   have e5:=bu (fun l=>l[i - n]?) h2;simp only [ao,hj,hd,Option.map_some] at e5;exact ⟨h3 x (au hd),j,aA e5,e4⟩
theorem GM (sc:Scope) (hsc:X.env.scope=sc) (kind:scope.kind=.function) (nocell:∀y∈scope.names,y.2≠.cell) (names:∀y∈scope.names,y.2=.local→scope.names.lookup y.1=some .local)
  (free:∀y∈scope.names,y.2=.free→sc.names.lookup y.1=some .cell∨sc.names.lookup y.1=some .free):CompScope X scope:=⟨kind,nocell,names,fun y hy hf=>by
 subst hsc;exact free y hy hf⟩
section
variable {X:Cx} {N:List Str} {scope:Scope} {pins:List (Addr×Obj)} {σ:St} {H:Hp} {s:Shared} {fp:List Addr}
theorem eZ (S:CompScope X scope) (I:Inv X pins σ H s):∀y∈scope.names,y.2=.free→∃c,X.env.cells.lookup y.1=some c:=fun y hy hf=>I.ok.has y.1 (S.free y hy hf)
theorem SC {cap:St→St} {D C:Addr} {h₁:Heap} {t':Nat} {m:Str→Option Value} (S:CompScope X scope) (I:Inv X pins σ H s) (hcap:ZF X N scope cap) (hf:∀b∈fp,JF X pins H b) (hfo:∀b∈fp,∃o,s.heap.get? b=some o)
  (hD:s.heap.objs.size≤D) (hC:s.heap.objs.size≤C) (hDC:D≠C) (old:∀b o,s.heap.get? b=some o→h₁.get? b=some o) (hns:h₁.Ns C m) (hl:h₁.get? D=some {cls:=.type "list",data:=.seq ([]:List Value).toArray}) :
  Inv (qP X N scope C s H pins fp) [] (cap σ) (upd H D (.lst [])) {s with heap:=h₁,toks:=t'}:=by
 have cellsOk:=eZ S I;have look:∀x c,(yI X.env.cells scope.names []).lookup x=some c→X.env.cells.lookup x=some c:=fun x c e=>iQ cellsOk (fun y d q=>by simp at q) e
 have lt:∀{b:Addr} {o:Obj},s.heap.get? b=some o→b<s.heap.objs.size:=fun e=>ar e
 have cellLt:∀x c,X.env.cells.lookup x=some c→c<s.heap.objs.size:=fun x c e=>by
  obtain ⟨v,o,ho,_⟩:=I.cell x c e;exact lt ho
 have nD:H D=none:=I.hok.fresh hD;have nC:H C=none:=I.hok.fresh hC;have stkNe:∀b:Addr,b≠X.env.locals→b∉X.fs→b∉kP X.stack:=fun b h1 h2 z=>by
  rcases aq.mp (I.stkSub b z) with e|e
  ·exact h1 e
  ·exact h2 e
 refine ⟨⟨I.ok.mod,S.kind,I.ok.glob,I.ok.blt,hC,fun x y c h1 h2=>I.ok.inj x y c (look x c h1) (look y c h2),fun x hx=>?_,fun x c hfn _=>(nomatch hfn),I.ok.hd,I.ok.frames,.inl rfl,fun b hb=>⟨?_,fun x c e=>(hf b hb).2.2.2.2.1 x c (look x c e)⟩,
   I.bs,aI I.ok.bsz I.sz,fun b o e hb=>?_,fun b hb=>stkNe b (hf b hb).2.1 (hf b hb).2.2.1,I.stack,I.stkFree⟩,
  rfl,I.bare,Un.laid old hD nD,⟨m,hns,fun i x v h1 h2 h3=>?_⟩,fun x c e=>?_,?_,fun x c e=>?_,fun p hp=>?_,?_,(hcap σ I.len).1⟩
 ·-- has
  have hx':∃k,(relabel scope X.env).names.lookup x=some k∧(k=.cell∨k=.free):=by
   rcases hx with e|e
   ·exact ⟨_,e,.inl rfl⟩
   ·exact ⟨_,e,.inr rfl⟩
  obtain ⟨k,e,hk⟩:=hx';obtain ⟨k',e1,e2⟩:=rW e;have hm:=sI e1;have hfree:k'=.free:=by
   rcases e2 with e2|e2
   ·subst e2
    rcases hk with hk|hk
    ·subst hk;exact absurd rfl (S.nocell _ hm)
    ·exact hk
   ·exact e2.1
  subst hfree;exact iX hm
 ·obtain ⟨o,ho⟩:=hfo b hb;exact aP (ax (lt ho) hC)
 ·rcases (hf b hb).2.2.2.1 with z|z
  ·exact I.ok.noex b o e z
  ·exact absurd (ax (ar e) (aI I.ok.bsz z)) (cb _)
 ·-- names
  obtain ⟨hfr,j,hj,hv⟩:=(hcap σ I.len).2 i x v h1 h2;have hm:=sI hfr;have hk:=S.free _ hm rfl;obtain ⟨m0,_,hl0⟩:=I.loc;have vis:mY X.env.scope x:=by
   rcases hk with k|k
   ·exact .inr (.inl k)
   ·exact .inr (.inr k)
  obtain ⟨u,r,l⟩:=hl0 j x v hj hv vis;refine ⟨u,r,.inr ⟨?_,?_⟩⟩
  ·have hvis:∃k,(relabel scope X.env).names.lookup x=some k:=by
    rcases h3 with e|e|e<;>exact ⟨_,e⟩
   obtain ⟨k,e⟩:=hvis;obtain ⟨k',e1,e2⟩:=rW e;rw [hfr] at e1;cases e1
   rcases e2 with e2|e2
   ·subst e2;exact .inr e
   ·rw [e2.2.1] at e;exact .inl e
  ·rcases l with ⟨k,_⟩|⟨_,c,hc,hcell⟩
   ·exfalso
    rcases hk with q|q
    ·have q':X.env.kindOf x=some .cell:=q;rw [k] at q';cases q'
    ·have q':X.env.kindOf x=some .free:=q;rw [k] at q';cases q'
   ·obtain ⟨c',e'⟩:=iX (cells:=X.env.cells) (cs:=[]) hm;have e2:=look x c' e';have e2':X.env.cells.lookup x=some c':=e2;rw [hc] at e2';cases e2';obtain ⟨o,ho,hd⟩:=hcell;exact ⟨c,e',o,old _ _ ho,hd⟩
 ·obtain ⟨v,o,ho,hd⟩:=I.cell x c (look x c e);exact ⟨v,o,old _ _ ho,hd⟩
 ·show upd H D (.lst []) C=none;rw [jX (Ne.symm hDC)];exact nC
 ·have hc:=look x c e;rw [jX (aP (ax (cellLt x c hc) hD))];exact I.freeC x c hc
 ·have hp':p∈X.pn++pins:=by
   rcases aV.mp hp with z|z
   ·exact z
   ·cases z
  obtain ⟨e,n,ne,nf,d⟩:=I.pin p hp';refine ⟨old _ _ e,?_,aP (ax (lt e) hC),stkNe p.1 ne nf,d⟩;rw [jX (aP (ax (lt e) hD))];exact n
 ·refine I.hok.laid old hD ?_;exact ⟨aO _,[],0,.nil,hl⟩
theorem i3 {σ':St} {H':Hp} {s':Shared} {C:Addr} {σc:St} {Nc:List Str} (I:Inv X pins σ H s) (hf:∀b∈fp,JF X pins H b) (J:Inv (qP X Nc scope C s H pins fp) [] σc H' s'):Inv X pins σ H' s':=by
 refine I.call' (ch:=fp) J.os J.base J.hok J.bare fun b hb=>?_
 obtain ⟨_,h2,_,h4,h5,h6⟩:=hf b hb;exact ⟨h4,h2,h5,h6⟩
theorem tW {σ':St} {H':Hp} {s':Shared} {C:Addr} {h':Heap} (I:Inv X pins σ H s) (hC:s.heap.objs.size≤C) (J:Inv X pins σ' H' s') (hn:H' C=none) (sb:Heap.SameBut C s'.heap h'):Inv X pins σ' H' {s' with heap:=h'}:=by
 refine J.turned (t':=s'.toks) (it:=C) (fun b o hb e=>(sb.2 b hb).trans e) hn (fg (ax I.lt hC)) (.inr (aI I.sz hC)) (fun x c e z=>?_) fun p hp z=>?_
 ·obtain ⟨v,q⟩:=I.cell x c e;exact absurd (ax q.lt (by rw [z];exact hC)) (cb _)
 ·exact absurd (ax (ar (I.pin p hp).1) (by rw [z];exact hC)) (cb _)
end
end L2
namespace L2
open PySem PySem.Spec PyProof.Rows
variable {H:Hp}
theorem v9 {σ:St} {Q:Bool→Hp→Prop} (h:Q true H):wI σ H Q:=h
variable {D:Addr} {xs:List V} {tc:TT} {te:TE} {Q:Hp→Prop}
theorem bF {K:PySem.W.Frag} {a:Addr} {g:TG} {σ₀:St} (Pv:Nat→St→Hp→Prop) (h0:Pv 0 σ₀ (upd H D (.lst []))) (hl:∀i σ H,i≤xs.length→Pv i σ H→SqL K H a xs)
    (hs:∀i x σ H,xs[i]?=some x→Pv i σ H→g x σ H fun σ2 H3=>tc σ2 H3 fun b H4=>if b=true then te σ2 H4 fun v H5=>∃ys,H5 D=some (.lst ys)∧ys.length<sizeLine∧Pv (i+1) σ2 (upd H5 D (.lst (ys++[v]))) else Pv (i+1) σ2 H4)
    (hd:∀σ H,Pv xs.length σ H→Q H):JA D (cL K a) g tc te σ₀ H Q:=by
  refine ⟨fun i m σ H=>m=xs.length - i∧i≤xs.length∧Pv i σ H,⟨xs.length,by simp,aO _,h0⟩,?_⟩;rintro i m σ H ⟨rfl,hi,p⟩;have q:=hl i σ H hi p
  by_cases hlt:i<xs.length
  · refine .inr ⟨⟨xs,xs[i],q,by simp [hlt]⟩,Pv (i+1),fun σ' H' p'=>⟨xs.length - (i+1),by omega,rfl,hlt,p'⟩,fun x H' y=>?_⟩
    obtain ⟨e,y⟩:=y;subst e;exact hs i x σ _ (y xs q) p
  · have e:i=xs.length:=by omega
    subst e;exact .inl ⟨⟨xs,q,aj _⟩,hd σ H p⟩
theorem NK {lo:Int} {n:Nat} {g:TG} {σ₀:St} (Pv:Nat→St→Hp→Prop) (h0:Pv 0 σ₀ (upd H D (.lst [])))
  (hs:∀i σ H,i<n→Pv i σ H→g (.int (lo+i)) σ H fun σ2 H3=>tc σ2 H3 fun b H4=>if b=true then te σ2 H4 fun v H5=>∃ys,H5 D=some (.lst ys)∧ys.length<sizeLine∧Pv (i+1) σ2 (upd H5 D (.lst (ys++[v]))) else Pv (i+1) σ2 H4)
  (hd:∀σ H,Pv n σ H→Q H):JA D (Z9 lo n) g tc te σ₀ H Q:=by
 refine ⟨fun i m σ H=>m=n - i∧i≤n∧Pv i σ H,⟨n,by simp,aO _,h0⟩,?_⟩;rintro i m σ H ⟨rfl,hi,p⟩
 by_cases hlt:i<n
 ·refine .inr ⟨hlt,Pv (i+1),fun σ' H' p'=>⟨n - (i+1),by omega,rfl,hlt,p'⟩,fun x H' y=>?_⟩;obtain ⟨e,y⟩:=y;subst e y;exact hs i σ _ hlt p
 ·have e:i=n:=by omega
  subst e;exact .inl ⟨aj _,hd σ H p⟩
theorem qA {H':Hp} {o:HO} (hD:H D=none) (s:Same H H'):Same H (upd H' D o):=fun b u q=>by
 rw [jX (kT q hD)];exact s b u q
def zD (H:Hp) (D:Addr) (caps:St) (R:Nat→List V→Hp→Prop) (i:Nat) (σ:St) (Hi:Hp):Prop:=∃ys c,σ=c::caps∧Same H Hi∧Hi D=some (.lst ys)∧ys.length≤i∧R i ys Hi
variable {caps:St}
theorem JH {Hi H5:Hp} {R:Nat→List V→Hp→Prop} {i:Nat} {ys:List V} {c:Option V} {v:V} (hD:H D=none) (s:Same H Hi) (hY:Hi D=some (.lst ys)) (hl:ys.length≤i) (hi:i≤999) (s5:Same Hi H5)
  (r:R (i+1) (ys++[v]) (upd H5 D (.lst (ys++[v])))):∃zs,H5 D=some (.lst zs)∧zs.length<sizeLine∧zD H D caps R (i+1) (c::caps) (upd H5 D (.lst (zs++[v]))):=by
 refine ⟨ys,s5 _ _ hY,qX (by omega),ys++[v],c,rfl,qA hD (s.trans s5),jE,?_,r⟩;rw [af,aF];omega
theorem tH {Hi H4:Hp} {R:Nat→List V→Hp→Prop} {i:Nat} {ys:List V} {c:Option V} (s:Same H Hi) (hY:Hi D=some (.lst ys)) (hl:ys.length≤i) (s4:Same Hi H4) (r:R (i+1) ys H4) :
  zD H D caps R (i+1) (c::caps) H4:=⟨ys,c,rfl,s.trans s4,s4 _ _ hY,by omega,r⟩
theorem bA {K:PySem.W.Frag} {a:Addr} (R:Nat→List V→Hp→Prop) (hD:H D=none) (hS:SqL K H a xs) (h0:R 0 [] (upd H D (.lst [])))
  (hs:∀i x ys Hi,xs[i]?=some x→i<xs.length→ys.length≤i→Same H Hi→Hi D=some (.lst ys)→R i ys Hi→tc (some x::caps) Hi fun b H4=>if b=true then te (some x::caps) H4 fun v H5=>∃zs,H5 D=some (.lst zs)∧zs.length<sizeLine∧zD H D caps R (i+1) (some x::caps) (upd H5 D (.lst (zs++[v])))
   else zD H D caps R (i+1) (some x::caps) H4)
  (hd:∀ys Hf,Same H Hf→Hf D=some (.lst ys)→ys.length≤xs.length→R xs.length ys Hf→Q Hf):JA D (cL K a) (Q4 0) tc te (none::caps) H Q:=by
 refine bF (xs:=xs) (zD H D caps R) ⟨[],none,rfl,qA hD (Same.refl H),jE,aj _,h0⟩ (fun i σ Hi _ ⟨_,_,_,s,_⟩=>s.seq hS) ?_ ?_
 ·rintro i x σ Hi hx ⟨ys,c,rfl,s,hY,hl,r⟩;exact hs i x ys Hi hx (ad.mp hx).1 hl s hY r
 ·rintro σ Hf ⟨ys,c,rfl,s,hY,hl,r⟩;exact hd ys Hf s hY hl r
theorem sK {lo:Int} {n:Nat} (R:Nat→List V→Hp→Prop) (hD:H D=none) (h0:R 0 [] (upd H D (.lst [])))
  (hs:∀i ys Hi,i<n→ys.length≤i→Same H Hi→Hi D=some (.lst ys)→R i ys Hi→tc (some (.int (lo+i))::caps) Hi fun b H4=>if b=true then te (some (.int (lo+i))::caps) H4 fun v H5=>∃zs,H5 D=some (.lst zs)∧zs.length<sizeLine∧zD H D caps R (i+1) (some (.int (lo+i))::caps) (upd H5 D (.lst (zs++[v])))
   else zD H D caps R (i+1) (some (.int (lo+i))::caps) H4)
  (hd:∀ys Hf,Same H Hf→Hf D=some (.lst ys)→ys.length≤n→R n ys Hf→Q Hf):JA D (Z9 lo n) (Q4 0) tc te (none::caps) H Q:=by
 refine NK (zD H D caps R) ⟨[],none,rfl,qA hD (Same.refl H),jE,aj _,h0⟩ ?_ ?_
 ·rintro i σ Hi hi ⟨ys,c,rfl,s,hY,hl,r⟩;exact hs i ys Hi hi hl s hY r
 ·rintro σ Hf ⟨ys,c,rfl,s,hY,hl,r⟩;exact hd ys Hf s hY hl r
def WP:V→Option Value
 |.ty n=>some (.type n)
 |.ref a=>some (.ref a)
 |_=>none
section
variable {X:Cx}
end
def QO (xs ys:List V):Bool:=(List.range (min xs.length ys.length)).all (fun j=>vL (xs.getD j .non) (ys.getD j .non))&&xs.length == ys.length
theorem tV {x:V} (h:qR x=true):vL x x=true:=by
 cases x with
 |non=>rfl
 |bl b=>show (b == b)=true;simp
 |int i=>show (i == i)=true;simp
 |str z=>show (z == z)=true;simp
 |_=>exact absurd (show false=true from h) aB
theorem R6 (h:xs.all qR=true):QO xs xs=true:=by
 unfold QO;rw [da];refine ⟨?_,by simp⟩;rw [cm];intro j hj;have hj':j<xs.length:=by simpa using hj
 refine tV ?_;rw [ac,aa hj'];exact cm.mp h _ (dq hj')
theorem zW {us:List Value} (r:Vals xs us) {j:Nat} (h:j<us.toArray.size):RelV (xs.getD j .non) us.toArray[j]:=by
 have hj:j<us.length:=by simpa using h
 have hx:j<xs.length:=by rw [r.length];exact hj
 obtain ⟨u,e,q⟩:=r.get (aa hx);rw [aa hj] at e;have e':=aA e;rw [ac,aa hx];show RelV xs[j] us.toArray[j];rw [List.getElem_toArray,e'];exact q
theorem e9 (h:xs.all qR=true) {j:Nat} (hj:j<xs.length):qR (xs.getD j .non)=true:=by
 rw [ac,aa hj];exact cm.mp h _ (dq hj)
section
variable {X:Cx}
end
end L2
namespace L2
open PySem PySem.Spec PyProof.Rows
section
variable {X:Cx}
end
section
variable {X:Cx} (K:PySem.W.Frag)
theorem kR (h:X.K=K:=by rfl):IxR X (mK K):=by subst h;exact xG
theorem jN (h:X.K=K:=by rfl):IxR X (wK K):=by subst h;exact ix_tup
theorem TN (h:X.K=K:=by rfl):IxR X (wY K):=by subst h;exact UY
theorem CT (h:X.K=K:=by rfl):gF X (FM K):=by subst h;exact SL
theorem ND (h:X.K=K:=by rfl):yN X (.builtin "len") (fun xs H Q=>∃p ys,xs=[.ref p]∧(SqL K H p ys∨SqT K H p ys)∧Q (.int ys.length) H):=by subst h;exact GO
theorem JJ {es:List Expr} {k:Nat} {t:Z8} {n:Nat} {pos:Pos} (hc:X.calm=true) (h:gG X es t) (hK:X.K=K:=by rfl)
  (hn:(assignEach es X.env).length=n:=by rfl) (hst:(assignEach es X.env).findIdx? (·.1)=none:=by rfl):PG X (.Tuple es k pos) (FS K n t):=by subst hK;exact lN hc h hn hst
end
section
variable {X:Cx}
end
section
variable {X:Cx}
def WB (t u:TS):TS:=fun D σ H=>∃P:St→Hp→Prop,t {D with nx:=P} σ H∧∀σ' H',P σ' H'→u D σ' H'
theorem zB {st:Stmt} {rest:List Stmt} {t u:TS} (h1:PS X st t) (h2:PSs X rest u):PSs X (st::rest) (WB t u):=by
 intro pins s σ H D I h;obtain ⟨P,hP,hu⟩:=h;refine wpAny_execs_cons (jW (h1 pins s σ H {D with nx:=P} I hP) fun f s1 q=>?_);cases f with
 |next =>
  obtain ⟨σ',H',I',q⟩:=q;exact h2 pins s1 σ' H' D I' (hu σ' H' q)
 |ret v=>exact q
 |brk=>exact q
 |cont=>exact q
end
structure Def (P:Program) (w:World) (K:PySem.W.Frag) (mg:Str→Option Value) (base:Heap) (k:Nat) (x:Str) (ps:List Str) (dvs:List V) (sp:Sp):Prop where
 ex:∃(f:Addr) (fd:FuncData) (ds:List Value),FnOk P w K mg base jQ k f fd ps sp∧mg x=some (.ref f)∧PySem.W.keepIn K (.ref f)=true∧Vals dvs ds∧Binds K fd ps ds
theorem jP {X:Cx} {k k':Nat} {x:Str} {ps:List Str} {dvs:List V} {sp:Sp} {p pos:Pos} {e:Expr} {es:List Expr} {t:TA} (F:Def X.prog X.w X.K X.mg X.base k x ps dvs sp) (hr:Room k' X.A) (hg:Gl X x) (ha:PA X (e::es) t)
  (hk:k≤k':=by decide) (hdb:(x == ("__debug__":Str))=false:=by decide) (he:starEach (e::es) X.env=(false,eval e X.env)::starEach es X.env:=by rfl) (hpl:(backTo pos (starEach es X.env)).any (·.1)=false:=by rfl) :
  PE X (.Call (.Name x p) (e::es) [] pos) (lX sp dvs E0 t):=by
 obtain ⟨f,fd,ds,G,m,kp,hv,b⟩:=F.ex;exact S3 G (hr.mono hk) hg m kp b hv dQ ha hdb he hpl
structure FunD (K:PySem.W.Frag) (x qual:Str) (st:Stmt) (f:Addr) (fd:FuncData) (ds:List Value):Prop where
 ex:∃(oc:Value) (od:Option Addr) (T:Addr) (kV doc pm:Value) (an:Option Addr) (cdv ct:Value) (osl:Array (Option Value)) (oT:Obj) (n:Nat),
  fd=PySem.W.fnOf x qual (vI st) (qN st) (j8 st) (.ref T) kV doc pm an cdv ct∧K.lookup f=some ⟨oc,od,.func fd,osl⟩∧PySem.W.codeIn K cdv qual=true∧K.lookup T=some oT∧oT.data=.seq ds.toArray n
 kp:PySem.W.keepIn K (.ref f)=true
section
variable {P:Program} {w:World} {K:PySem.W.Frag} {mg:Str→Option Value} {base:Heap}
theorem FunD.ok {x qual:Str} {st:Stmt} {f:Addr} {fd:FuncData} {ds:List Value} {N ps:List Str} {k:Nat} {sp:Sp} (F:FunD K x qual st f fd ds) (S:FnScope N ps (j8 st)) (len:∀vs H Q E,sp vs H Q E→vs.length=ps.length)
  (hbody:∀(cdv:Value) (A:Around) (outer:List Env) (s:Shared) (H:Hp) (vs:List V) (Q:VK) (E:XK),Room k (A.deeper (envOfC qual (j8 st) s.heap.objs.size f cdv))→sp vs H Q E→
   ∃t,PSs (qB jQ P w K mg base N qual (j8 st) f cdv A outer s H E).nox (qN st) t∧t {nx:=fun _ H'=>Q .non H',rt:=Q} (start N vs) H):FnOk P w K mg base jQ (k+1) f fd ps sp:=by
 obtain ⟨oc,od,T,kV,doc,pm,an,cdv,ct,osl,oT,n,rfl,lk,hcd,_,_⟩:=F.ex;refine wD lk hcd S len fun A outer s H vs Q E hr hsp=>?_
 obtain ⟨t,h,q⟩:=hbody cdv A outer s H vs Q E hr hsp;exact ⟨t,h.nox,q⟩
theorem FunD.binds {x qual:Str} {st:Stmt} {f:Addr} {fd:FuncData} {ds:List Value} {ps:List Str} (ds':List Value) (m:Nat) (hm:m+ds'.length=ps.length) (F:FunD K x qual st f fd ds)
  (h:∀(T:Addr) (kV doc pm:Value) (an:Option Addr) (cdv ct:Value) (us:List Value),us.length=m→∃k,bindArgs (PySem.W.fnOf x qual (vI st) (qN st) (j8 st) (.ref T) kV doc pm an cdv ct) ⟨us,[]⟩=seqItems? (.ref T) >>= k∧
   k (some ds.toArray)=pure (ps.zip (us++ds'))):Binds K fd ps ds':=by
 obtain ⟨oc,od,T,kV,doc,pm,an,cdv,ct,osl,oT,n,rfl,lk,hcd,lT,dT⟩:=F.ex;intro s us hK hl;obtain ⟨k,h1,h2⟩:=h T kV doc pm an cdv ct us (by rw [af] at hl;omega);exact BindsTo.of_defaults rfl (hK _ _ lT) dT h1 h2
theorem TU {x qual:Str} {st:Stmt} {f T:Addr} {oc:Value} {od an:Option Addr} {osl:Array (Option Value)} {kV doc pm cdv ct:Value} {oT:Obj} {n:Nat} {ds:List Value}
  (l:K.lookup f=some ⟨oc,od,.func (PySem.W.fnOf x qual (vI st) (qN st) (j8 st) (.ref T) kV doc pm an cdv ct),osl⟩)
  (c:PySem.W.codeIn K cdv qual=true) (k:PySem.W.keepIn K (.ref f)=true) (lT:K.lookup T=some oT) (dT:oT.data=.seq ds.toArray n):FunD K x qual st f (PySem.W.fnOf x qual (vI st) (qN st) (j8 st) (.ref T) kV doc pm an cdv ct) ds :=
 ⟨⟨oc,od,T,kV,doc,pm,an,cdv,ct,osl,oT,n,rfl,l,c,lT,dT⟩,k⟩
end
section
variable {X:Cx}
theorem tT:FU X (mK X.K):=by
 intro pins s σ H o i ov iv Q I ro ri h;obtain ⟨p,xs,k,z,rfl,rfl,hq,he,q⟩:=h;cases ro;obtain ⟨t,rfl⟩:=ri;obtain ⟨its,r,pl,hz⟩:=I.list hq;obtain ⟨j,h1,h2,h3,h4,h5⟩:=lL he;obtain ⟨w,ew,rw'⟩:=r.get h2;have hl:=r.length;have hn:=bQ;have fin:EP X pins σ Q w s:=⟨z,H,I,rw',q⟩
 by_cases h0:0≤k
 ·have hj:k.toNat=j:=by
   rw [seqIndex_of h0 h5] at h1;exact aA h1
  exact wpAny_getItem_list pl.isList h0 (by omega) (by rw [hj];simpa using ew) fin
 ·have hj:(k+(its.toArray.size:Int)).toNat=j:=by
   rw [seqIndex_neg (by omega) h4] at h1;rw [ai,← hl];exact aA h1
  exact wpAny_getItem_list_neg pl.isList (by omega) (by rw [ai]<;>omega) (by omega) (by rw [hj];simpa using ew) fin
end
end L2
namespace L2
open PySem
variable {c A B:Prop}
theorem ZX [Decidable c] (hc:¬c) (h:A):if (!decide c)=true then A else B:=by
 rw [aJ hc];exact qG h
theorem j5 [Decidable c] (hc:¬c) (h:B):if decide c=true then A else B:=by
 rw [aJ hc];exact vA h
theorem kK [Decidable c] (hc:c) (h:A):if decide c=true then A else B:=by
 rw [aT hc];exact qG h
end L2
namespace L2
open PySem PySem.Spec PyProof.Rows
structure MkD (P:Program) (w:World) (K:PySem.W.Frag) (mg:Str→Option Value) (base:Heap) (k:Nat) (x:Str) (C:Addr) (ps:List Str) (sp:Sp):Prop where
 ex:mg x=some (.ref C)∧∃(f:Addr) (fd:FuncData),Mk K C f∧FnOk P w K mg base jQ k f fd ps sp∧Binds K fd ps []
structure MeD (P:Program) (w:World) (K:PySem.W.Frag) (mg:Str→Option Value) (base:Heap) (k:Nat) (C:Addr) (m:Str) (ps:List Str) (sp:Sp):Prop where
 ex:Cls K C∧∃(f:Addr) (fd:FuncData),Meth K C m f∧FnOk P w K mg base jQ k f fd ps sp∧Binds K fd ps []
section
variable {X:Cx} {k k':Nat} {x m:Str} {C:Addr} {ps:List Str} {sp:Sp} {p pos apos:Pos} {o e:Expr} {es:List Expr} {ta:TE} {t:TA}
theorem dP (M:MkD X.prog X.w X.K X.mg X.base k x C ps sp) (hr:Room k' X.A) (hg:Gl X x) (ha:PA X (e::es) t)
  (hk:k+1≤k':=by decide) (hdb:(x == ("__debug__":Str))=false:=by decide) (he:starEach (e::es) X.env=(false,eval e X.env)::starEach es X.env:=by rfl) (hpl:(backTo pos (starEach es X.env)).any (·.1)=false:=by rfl) :
  PE X (.Call (.Name x p) (e::es) [] pos) (E3 C sp [] E0 t):=by
 obtain ⟨hm,f,fd,M,G,b⟩:=M.ex;exact SX M G (hr.mono hk) hg hm b .nil dQ ha hdb he hpl
theorem Z3 {pl:Sem Bool} (M:MeD X.prog X.w X.K X.mg X.base k C m ps sp) (hr:Room k' X.A) (ho:PE X o ta) (ha:PA X (e::es) t) (hk:k≤k':=by decide)
  (hst:starEach (e::es) X.env=(false,eval e X.env)::starEach es X.env:=by rfl) (hpl:(backTo pos (starEach es X.env)).any (·.1)=false:=by rfl)
  (ht:eval (.Call (.Attribute o m apos) (e::es) [] pos) X.env=(do
   let ov ← eval o X.env
   standAt apos.atName
   let (f,first) ← holding [ov] (getMethod ov m pl)
   callWith pos f first (backTo pos (starEach (e::es) X.env)) (backToKw pos (keywordEach [] X.env))):=by rfl) :
  PE X (.Call (.Attribute o m apos) (e::es) [] pos) (lV C m sp [] E0 ta t):=by
 obtain ⟨c,f,fd,M,G,b⟩:=M.ex;exact SW (pl:=pl) ho c M G (hr.mono hk) b .nil dQ ha hst hpl ht
theorem kS {pl:Sem Bool} (M:MeD X.prog X.w X.K X.mg X.base k C m ps sp) (hr:Room k' X.A) (ho:PE X o ta) (hk:k≤k':=by decide)
  (ht:eval (.Call (.Attribute o m apos) [] [] pos) X.env=(do
   let ov ← eval o X.env
   standAt apos.atName
   let (f,first) ← holding [ov] (getMethod ov m pl)
   callWith pos f first (backTo pos (starEach [] X.env)) (backToKw pos (keywordEach [] X.env))):=by rfl) :
  PE X (.Call (.Attribute o m apos) [] [] pos) (lV C m sp [] E0 ta Z0):=by
 obtain ⟨c,f,fd,M,G,b⟩:=M.ex;exact RH (pl:=pl) ho c M G (hr.mono hk) b .nil dQ ht
end
structure ClsM (K:PySem.W.Frag) (C:Addr) (m:Str) (f:Addr):Prop where
 sp:PySem.W.specialIn K (.ref C) "__getattribute__"=some (some (.builtin "type.__getattribute__"))
 rd:PySem.W.readsIn K C (.type "type")=true
 fc:PySem.W.findCls K (.ref C) (.type "type") m=some (.val (.ref f))
 kp:PySem.W.keepIn K (.ref f)=true
structure CmD (P:Program) (w:World) (K:PySem.W.Frag) (mg:Str→Option Value) (base:Heap) (k:Nat) (x:Str) (C:Addr) (m:Str) (ps:List Str) (sp:Sp):Prop where
 ex:mg x=some (.ref C)∧∃(f:Addr) (fd:FuncData),ClsM K C m f∧FnOk P w K mg base jQ k f fd ps sp∧Binds K fd ps []
theorem DS {X:Cx} {k k':Nat} {x m:Str} {C:Addr} {ps:List Str} {sp:Sp} {p pos apos:Pos} {e:Expr} {es:List Expr} {t:TA} {pl:Sem Bool} (M:CmD X.prog X.w X.K X.mg X.base k x C m ps sp) (hr:Room k' X.A) (hg:Gl X x) (ha:PA X (e::es) t) (hk:k≤k':=by decide)
  (hdb:(x == ("__debug__":Str))=false:=by decide) (hst:starEach (e::es) X.env=(false,eval e X.env)::starEach es X.env:=by rfl) (hpl:(backTo pos (starEach es X.env)).any (·.1)=false:=by rfl)
  (ht:eval (.Call (.Attribute (.Name x p) m apos) (e::es) [] pos) X.env=(do
   let ov ← eval (.Name x p) X.env
   standAt apos.atName
   let (f,first) ← holding [ov] (getMethod ov m pl)
   callWith pos f first (backTo pos (starEach (e::es) X.env)) (backToKw pos (keywordEach [] X.env))):=by rfl) :
  PE X (.Call (.Attribute (.Name x p) m apos) (e::es) [] pos) (lX sp [] E0 t):=by
 obtain ⟨hm,f,fd,c,G,b⟩:=M.ex;intro pins s σ H Q I h;refine eh (pl:=pl) (jW ((yK (v:=.ref C) hg hm rfl hdb:PE X (.Name x p) (tC (.ref C))) pins s σ H (fun v H1=>v=.ref C∧H1=H) I ⟨rfl,rfl⟩) fun u s1 ⟨v,H1,I1,rv,e1,e2⟩=>?_) ht;subst e1 e2;obtain rfl:u=Value.ref C:=rv;refine PySem.W.method_cls I1.kIn c.sp (PySem.W.cls_value I1.kIn c.rd c.fc rfl ?_);have I2:=I1.tok (s1.toks+1);refine cv (first:=[]) (h₀:=X.base) I.ok.mod.kin c.kp (jW (ha pos pins _ σ H1 _ I2 h) fun us s2 ⟨vs,H2,I3,r,q2⟩=>⟨I3.kIn,?_⟩) hst hpl;exact fO (us:=us) (vs:=vs) G (hr.mono hk) b .nil dQ I3 r q2
section
variable {X:Cx}
theorem NJ {ns:List Int} {its:List Value} (rv:Vals (ns.map V.int) its) {i:Nat} {v:Value} (h:its.toArray[i]?=some v):∃t,v=Value.int (ns.getD i 0) t:=by
 have h':its[i]?=some v:=by simpa using h
 have hi:i<its.length:=(ad.mp h').1;have hn:i<ns.length:=by have:=rv.length;rw [ae] at this;omega
 obtain ⟨u,e,q⟩:=rv.get (x:=V.int (ns.getD i 0)) (i:=i) (by rw [ao,aa hn,ac,aa hn];rfl);rw [h'] at e;cases e;exact q
theorem NW {bs:List Bool} {its:List Value} (rv:Vals (bs.map V.bl) its) {i:Nat} {v:Value} (h:its.toArray[i]?=some v):v=Value.bool (bs.getD i true):=by
 have h':its[i]?=some v:=by simpa using h
 have hi:i<its.length:=(ad.mp h').1;have hn:i<bs.length:=by have:=rv.length;rw [ae] at this;omega
 obtain ⟨u,e,q⟩:=rv.get (x:=V.bl (bs.getD i true)) (i:=i) (by rw [ao,aa hn,ac,aa hn];rfl);rw [h'] at e;cases e;exact q
theorem x6 (bs:List Bool):(List.range bs.length).all (fun i=>bs.getD i true)=bs.all id:=by
 rw [gz,cm,cm];constructor
 ·intro h x hx;obtain ⟨i,hi,e⟩:=List.mem_iff_getElem.mp hx;have:=h i (by simpa using hi);rw [ac,aa hi,e] at this;exact this
 ·intro h i hi;have hi':i<bs.length:=by simpa using hi
  rw [ac,aa hi'];exact h _ (dq hi')
theorem B0 (hc:X.calm=true):yN X (.builtin "sum") (fun xs H Q=>∃(p:Addr) (ns:List Int),xs=[.ref p]∧SqL X.K H p (ns.map V.int)∧Q (.int ns.sum) H):=by
 intro pins s σ H xs us Q I r h;obtain ⟨p,ns,rfl,hq,q⟩:=h;obtain ⟨u,rfl,rx⟩:=QX r;cases rx;obtain ⟨its,rv,pl,hz⟩:=I.list hq;have hlen:=rv.length;rw [ae] at hlen;have hp:p<s.heap.objs.size:=by obtain ⟨o,n,e,_⟩:=pl;exact ar e
 refine call_sum_walkAnyS (gg pl.isList ?_);refine ⟨s.heap.objs.size,_,_,_,_,_,_,fun i=>ns.getD i 0,rfl,(Walks.list (A:=X.A.in1) (I.ok.hd hc) s.heap.objs.size p (aP hp) its.toArray).toS,⟨⟨_,az _ rfl,rfl,rfl⟩,pl.isList.at fun o e=>ak _ e⟩,fun b hb=>?_,fun i v h=>NJ rv h,fun s' t' m=>?_⟩
 ·rw [dh]
  rcases aq.mp hb with e|e
  ·rw [e];exact ii _
  ·have e':b=p:=by simpa using e
   rw [e'];exact Nat.lt_succ_of_lt hp
 ·obtain ⟨hh,g,d,t,os⟩:=s';obtain ⟨m1,m2,m3,m4,m5⟩:=m;have m2':g=s.gens:=m2;have m3':d=s.drawn:=m3;have m4':os=s.os:=m4;subst m2' m3' m4';have e:preSum (fun i=>ns.getD i 0) its.toArray.size=ns.sum:=by rw [preSum_getD,ai,← hlen,aZ]
  rw [e];refine ⟨.int ns.sum,H,I.kept (t':=t) fun b o e=>m1 b o (fun hb=>?_) (ak _ e),⟨_,rfl⟩,q⟩;have e':b=s.heap.objs.size:=by simpa using hb
  exact absurd (ar e) (by rw [e'];exact cb _)
theorem B3 (hc:X.calm=true):yN X (.builtin "all") (fun xs H Q=>∃(p:Addr) (bs:List Bool),xs=[.ref p]∧SqL X.K H p (bs.map V.bl)∧Q (.bl (bs.all id)) H):=by
 intro pins s σ H xs us Q I r h;obtain ⟨p,bs,rfl,hq,q⟩:=h;obtain ⟨u,rfl,rx⟩:=QX r;cases rx;obtain ⟨its,rv,pl,hz⟩:=I.list hq;have hlen:=rv.length;rw [ae] at hlen;have hp:p<s.heap.objs.size:=by obtain ⟨o,n,e,_⟩:=pl;exact ar e
 refine call_all_walk (gg pl.isList ?_);refine ⟨s.heap.objs.size,_,_,_,_,_,fun i=>bs.getD i true,rfl,Walks.list (A:=X.A.in1) (I.ok.hd hc) s.heap.objs.size p (aP hp) its.toArray,⟨⟨_,az _ rfl,rfl,rfl⟩,pl.isList.at fun o e=>ak _ e⟩,fun i v s' Q' E' h hQ=>?_,fun h' tk hk=>?_⟩
 ·rw [NW rv h];exact ge hQ
 ·rw [ai,← hlen,x6];refine ⟨.bl (bs.all id),H,I.kept (t':=tk) fun b o e=>hk b o (fun hb=>?_) (ak _ e),rfl,q⟩;have e':b=s.heap.objs.size:=by simpa using hb
  exact absurd (ar e) (by rw [e'];exact cb _)
end
def wP (p:Addr) (a b c:Int):HO:=.ext fun h=>∃t u v,IsRange h p a b c t u v
section
variable {X:Cx}
theorem NV:yN X (.type "range") (fun xs H Q=>∃a b c:Int,xs=[.int a,.int b,.int c]∧c≠0∧c.natAbs<1073741824∧∀p,H p=none→Q (.ref p) (upd H p (wP p a b c))):=by
 intro pins s σ H xs us Q I r h;obtain ⟨a,b,c,rfl,hc,hs,q⟩:=h;cases r with
 |cons r1 r2 =>
  cases r2 with
  |cons r3 r4 =>
   cases r4 with
   |cons r5 r6 =>
    cases r6;obtain ⟨t,rfl⟩:=r1;obtain ⟨u,rfl⟩:=r3;obtain ⟨v,rfl⟩:=r5;refine call_range_3 hc ?_ (.inl (PyProof.noPylong_small hs));refine ⟨.ref s.heap.objs.size,_,I.laid (t':=s.toks) (o:=wP s.heap.objs.size a b c) (fun b o e=>ak _ e) (aj _) ?_,rfl,q _ (I.hok.fresh (aj _))⟩;exact ⟨⟨t,u,v,az _ rfl⟩,⟨_,az _ rfl⟩,fun h1 h2 ⟨t,u,v,e⟩ k=>⟨t,u,v,k _ e⟩⟩
theorem x8 {f:Nat→Int}:∀{n:Nat} {acc:List Value},acc.length=n→(∀i v,acc[i]?=some v→∃t,v=Value.int (f i) t)→Vals ((List.range n).map fun (i:Nat)=>V.int (f i)) acc
 |0,acc,hl,h=>by
  cases acc with
  |nil=>exact .nil
  |cons x r=>cases hl
 |n+1,acc,hl,h=>by
  obtain ⟨init,last,rfl⟩:∃init last,acc=init++[last]:=by
   have hne:acc≠[]:=by intro e;rw [e] at hl;cases hl
   exact ⟨acc.dropLast,acc.getLast hne,(List.dropLast_concat_getLast hne).symm⟩
  rw [af,aF] at hl;have hi:init.length=n:=by omega
  rw [hU,aH];refine Vals.append (x8 hi fun i v e=>h i v ?_) (.cons ?_ .nil)
  ·rw [av (ad.mp e).1];exact e
  ·exact h n last (by rw [aw (by omega),hi,iw];rfl)
theorem NC (hc:X.calm=true):yN X (.type "list") (fun xs H Q=>∃(p:Addr) (a b c:Int) (n:Nat),xs=[.ref p]∧H p=some (wP p a b c)∧Builtin.Range.small a b c=true∧Builtin.Range.rangeSize a b c=n∧n≤1000∧
  ∀l,H l=none→Q (.ref l) (upd H l (.lst ((List.range n).map fun (i:Nat)=>V.int (a+(i:Int)*c))))):=by
 intro pins s σ H xs us Q I r h;obtain ⟨p,a,b,c,n,rfl,hp,hsm,hn,hz,q⟩:=h;obtain ⟨u,rfl,rx⟩:=QX r;cases rx;obtain ⟨⟨t,u,v,e⟩,_,_⟩:=I.hok p _ hp;refine call_list_range (I.ok.hd hc) e hsm hn (by omega) fun h' tk acc' c' hk hS' hacc=>?_
 have hl:acc'.toList.length=n:=by have:=hacc.1;simpa using this
 refine ⟨.ref s.heap.objs.size,_,I.laid (t':=tk) (o:=.lst ((List.range n).map fun (i:Nat)=>V.int (a+(i:Int)*c))) hk (aj _) ?_,rfl,q _ (I.hok.fresh (aj _))⟩;refine ⟨by rw [ae,aY];exact ic (qX hz),acc'.toList,c',x8 hl fun i v e=>hacc.2 i v (by simpa using e),by simpa using hS'⟩
end
def zQ (n:Nat):List Nat:=(List.range n).reverse
theorem OH (n:Nat):((List.range n).map fun (i:Nat)=>V.int (((n:Int) - 1)+(i:Int) * -1))=(zQ n).map fun (i:Nat)=>V.int (i:Int):=by
 apply List.ext_getElem?;intro k;unfold zQ;rw [ao,ao]
 by_cases hk:k<n
 ·rw [cq hk,List.getElem?_reverse (by simpa using hk),aY,cq (by omega)];show some (V.int ((n:Int) - 1+(k:Int) * -1))=some (V.int ((n - 1 - k:Nat):Int))
  congr 2
  omega
 ·rw [cx (by simp;omega),cx (by simp;omega)];rfl
theorem BZ (n:Nat):Builtin.Range.rangeSize ((n:Int) - 1) (-1) (-1)=n:=by
 unfold Builtin.Range.rangeSize;rw [if_neg (by decide)]
 by_cases h:(n:Int) - 1 > -1
 ·rw [if_pos h];have e:((n:Int) - 1 - -1 - 1) / (- (-1:Int))=(n:Int) - 1:=by
   have e1:(-(-1:Int))=1:=rfl;rw [e1,Int.ediv_one];omega
  rw [e];omega
 ·rw [if_neg h];omega
theorem OI {n:Nat} (h:n≤1000):Builtin.Range.small ((n:Int) - 1) (-1) (-1)=true:=by
 unfold Builtin.Range.small;rw [BZ];simp only [Builtin.Range.rangeFitsLong,da,Bool.or_eq_true,fe,gt];simp;omega
section
variable {P:Program} {w:World} {H:Hp} {h h':Heap} {a:Addr} {o:HO}
theorem ObjOk.there (x:ObjOk P w H h a o):∃u,h.get? a=some u:=by
 cases o with
 |lst xs=>obtain ⟨_,_,_,_,e⟩:=x;exact ⟨_,e⟩
 |tup xs=>obtain ⟨_,_,_,o,e,_⟩:=x;exact ⟨_,e⟩
 |dK kvs=>obtain ⟨_,_,_,_,o,_,_,e,_⟩:=x;exact ⟨_,e⟩
 |dT kvs=>obtain ⟨_,_,_,_,o,_,_,e,_⟩:=x;exact ⟨_,e⟩
 |set S n=>obtain ⟨o,_,_,_,e,_⟩:=x;exact ⟨_,e⟩
 |ins C dx fs=>obtain ⟨_,_,_,e,_⟩:=x;exact ⟨_,e⟩
 |own y=>obtain ⟨_,e⟩:=x;exact ⟨_,e⟩
 |xd fs=>obtain ⟨_,⟨_,_,_,e,_⟩,_⟩:=x;exact ⟨_,e⟩
 |rng lo hi=>obtain ⟨_,_,_,e⟩:=x;exact ⟨_,e⟩
 |frz ob u=>obtain ⟨e,_⟩:=x;exact ⟨_,e⟩
 |tbl ps=>exact ⟨_,(show h.get? a=some _ from x)⟩
 |met f y=>exact ⟨_,(show h.get? a=some _ from x)⟩
 |ext φ=>obtain ⟨_,e,_⟩:=x;exact e
theorem HOk.there (x:HOk P w H h) (e:H a=some o):∃u,h.get? a=some u:=(x a o e).there
theorem HOk.keepT (x:HOk P w H h) (k:∀b u,H b≠none→h.get? b=some u→h'.get? b=some u):HOk P w H h':=fun a o e =>
 (x a o e).stay (fun b u hb q=>k b u (by
  rcases hb with rfl|hb
  ·rw [e];exact fun z=>nomatch z
  ·rw [hb];exact fun z=>nomatch z) q) (fun _ q=>q) fun _ _ q=>q
end
variable {H:Hp}
theorem Un.go {fs ex:List Addr} {H1:Hp} {h0 h h':Heap} (u:Un fs ex H H1 h0 h) (k:∀b o,h.get? b=some o→b∉fs→b∉ex→(∃o',h0.get? b=some o')→h'.get? b=some o)
  (ks:∀b o,h.get? b=some o→b∈fs→(∃o',h0.get? b=some o')→∃sl,h'.get? b=some {o with slots:=sl}):Un fs ex H H1 h0 h' where
 keep:=fun b o q n hb hx=>k b o (u.keep b o q n hb hx) hb hx ⟨o,q⟩
 slot:=fun b o q n hb hx=>by
  obtain ⟨sl,e⟩:=u.slot b o q n hb hx;obtain ⟨sl',e'⟩:=ks b _ e hb ⟨o,q⟩;exact ⟨sl',e'⟩
 free:=u.free
 there:=fun b o q hx=>by
  obtain ⟨o',e⟩:=u.there b o q hx
  by_cases hb:b∈fs
  ·obtain ⟨sl,e'⟩:=ks b o' e hb ⟨o,q⟩;exact ⟨_,e'⟩
  ·exact ⟨o',k b o' e hb hx ⟨o,q⟩⟩
 tups:=u.tups
 frzs:=u.frzs
 tbls:=u.tbls
def GG (fr:List Env) (Z:Addr→Prop) (h:Heap) (a C:Addr):Prop :=
 ∃(B:Heap) (a0:Value),Heap.FlyingW B fr a (.ref C) a0 h∧∀b o,h.get? b=some o→b∉kP fr→Z b→B.get? b=some o
def kF (P:Program) (w:World):yG:=fun outer H s E e s'=>∃(a C:Addr) (H':Hp),e=.ref a∧s'.os=s.os∧AllBare s'.gens∧Un (kP outer) [] H H' s.heap s'.heap∧HOk P w H' s'.heap∧
 GG outer (fun b=>H' b≠none∨∃o',s.heap.get? b=some o') s'.heap a C∧H' a=none∧s.heap.get? a=none∧E (.ref C) none H'
def EZ (X:Cx) (R:St→Value→Hp→Prop):Prop:=∀pins σ H s e h' C vs,Inv X pins σ H s→Heap.MadeExcOf s.heap h' e (.ref C) vs→R σ (.ref C) H→X.xe (.ref e) {s with heap:=h'}
def bX (X:Cx) (R:St→Value→Hp→Prop):Prop:=∀pins σ H s e s',Inv X pins σ H s→kF X.prog X.w X.stack H s (fun c _ H'=>R σ c H') e s'→X.xe e s'
theorem J9 {P:Program} {w:World} {K:PySem.W.Frag} {mg:Str→Option Value} {base:Heap} {N:List Str} {qual:Str} {scope:Scope} {f:Addr} {cd:Value} {A:Around} {outer:List Env} {s:Shared} {E:XK} :
  EZ (qB (kF P w) P w K mg base N qual scope f cd A outer s H E) (fun _ c H'=>E c none H'):=by
 intro pins σ H1 s1 e h' C vs I hx q;have hin:∀env∈(envOfC qual scope s.heap.objs.size f cd::outer),∀b,env.frame=some b→b∈kP (envOfC qual scope s.heap.objs.size f cd::outer):=fun env he b hb=>dw.mpr ⟨env,he,hb⟩
 have hst:s1.heap.FunFrames base (envOfC qual scope s.heap.objs.size f cd::outer):=I.stack;have hfrees:∀b∈kP (envOfC qual scope s.heap.objs.size f cd::outer),H1 b=none:=I.stkFree;have hfs:kP (envOfC qual scope s.heap.objs.size f cd::outer)=s.heap.objs.size::kP outer:=rfl;have ub:Un (kP outer) [] H H1 s.heap s1.heap:=I.base;have hno:s1.heap.get? e=none:=hx.new;show wpAny (model P w) (A.deeper (envOfC qual scope s.heap.objs.size f cd)) (leaving (envOfC qual scope s.heap.objs.size f cd) (.ref e)) (fun _ s''=>kF P w outer H s E (.ref e) s'') (fun e' s''=>kF P w outer H s E e' s'') {s1 with heap:=h'};refine wpAny_leaves_madeW (base:=PySem.W.hideAll s1.heap (kP (envOfC qual scope s.heap.objs.size f cd::outer))) I.ok.frames rfl (fun b o q=>PySem.W.of_hideAll _ q) (PySem.W.funFrames_hide hst hin) hx fun h2 t fl _ _ up=>?_
 dsimp only at up
 have keep:∀b o,s1.heap.get? b=some o→b∉kP (envOfC qual scope s.heap.objs.size f cd::outer)→(PySem.W.hideAll s1.heap (kP (envOfC qual scope s.heap.objs.size f cd::outer))).get? b=some o:=fun b o q n=>PySem.W.hideAll_get _ q n
 have old:∀b,(∃o',s.heap.get? b=some o')→b∉kP outer→b∉kP (envOfC qual scope s.heap.objs.size f cd::outer):=fun b ⟨o',q⟩ n z=>by
  rw [hfs] at z
  rcases aq.mp z with z|z
  ·exact absurd (ar q) (by rw [z];exact cb _)
  ·exact n z
 have zJ:∀b,H1 b≠none→b∉kP (envOfC qual scope s.heap.objs.size f cd::outer):=fun b hb z=>hb (hfrees b z)
 refine ⟨e,C,H1,rfl,I.os,I.bare,ub.go (fun b o q n _ z=>fl.1 b o (keep b o q (old b z n))) (fun b o q n _=>?_),I.hok.keepT fun b u hb q=>fl.1 b u (keep b u q (zJ b hb)),?_,?_,?_,q⟩
 ·obtain ⟨_,o',ho',hd⟩:=hst.mem (show b∈kP (envOfC qual scope s.heap.objs.size f cd::outer) from by rw [hfs];exact aK _ n);rw [q] at ho';cases ho'
  exact up b o (hx.keeps b o q) hd
 ·refine ⟨_,_,fl,fun b o q n z=>?_⟩;have hn:b∉kP (envOfC qual scope s.heap.objs.size f cd::outer):=by
   rcases z with z|z
   ·exact zJ b z
   ·exact old b z n
  have h1:∃u,s1.heap.get? b=some u:=by
   rcases z with z|⟨o',z⟩
   ·cases r:H1 b with
    |none=>exact absurd r z
    |some v=>exact I.hok.there r
   ·exact ub.there b o' z (by simp)
  obtain ⟨u,hu⟩:=h1;have hB:=keep b u hu hn;have:=fl.1 b u hB;have q':h2.get? b=some o:=q;rw [q'] at this;cases this;exact hB
 ·cases r:H1 e with
  |none=>rfl
  |some v =>
   obtain ⟨u,hu⟩:=I.hok.there r;rw [hno] at hu;cases hu
 ·cases r:s.heap.get? e with
  |none=>rfl
  |some v =>
   obtain ⟨u,hu⟩:=ub.there e v r (by simp);rw [hno] at hu;cases hu
theorem k7 {P:Program} {w:World} {K:PySem.W.Frag} {mg:Str→Option Value} {base:Heap} {N:List Str} {qual:Str} {scope:Scope} {f:Addr} {cd:Value} {A:Around} {outer:List Env} {s:Shared} {E:XK} :
  bX (qB (kF P w) P w K mg base N qual scope f cd A outer s H E) (fun _ c H'=>E c none H'):=by
 intro pins σ H1 s1 e s2 I hx;obtain ⟨a,C,H2,rfl,os,bare,un,hok,⟨B,a0,fl,ground⟩,ha,hs,q⟩:=hx;have fl':Heap.FlyingW B (envOfC qual scope s.heap.objs.size f cd::outer) a (.ref C) a0 s2.heap:=fl;have J:Inv (qB (kF P w) P w K mg base N qual scope f cd A outer s H E) pins σ H2 s2:=I.call' (ch:=[]) os un hok bare fun b z=>absurd z (by simp)
 have ub:Un (kP outer) [] H H2 s.heap s2.heap:=J.base;have hfs:kP (envOfC qual scope s.heap.objs.size f cd::outer)=s.heap.objs.size::kP outer:=rfl;have old:∀b,(∃o',s.heap.get? b=some o')→b∉kP outer→b∉kP (envOfC qual scope s.heap.objs.size f cd::outer):=fun b ⟨o',q⟩ n z=>by
  rw [hfs] at z
  rcases aq.mp z with z|z
  ·exact absurd (ar q) (by rw [z];exact cb _)
  ·exact n z
 have zJ:∀b,H2 b≠none→b∉kP (envOfC qual scope s.heap.objs.size f cd::outer):=fun b hb z=>hb (J.stkFree b z)
 have u1:Un (kP outer) [] H H1 s.heap s1.heap:=I.base;have in1:∀b,(∃o',s.heap.get? b=some o')→∃o',s1.heap.get? b=some o':=fun b ⟨o',z⟩=>u1.there b o' z (by simp)
 have hst:s2.heap.FunFrames base (envOfC qual scope s.heap.objs.size f cd::outer):=J.stack;show wpAny (model P w) (A.deeper (envOfC qual scope s.heap.objs.size f cd)) (leaving (envOfC qual scope s.heap.objs.size f cd) (.ref a)) (fun _ s''=>kF P w outer H s E (.ref a) s'') (fun e' s''=>kF P w outer H s E e' s'') s2;refine wpAny_leaves_onW J.ok.frames rfl fl' fun h3 fl3 up=>?_
 refine ⟨a,C,H2,rfl,J.os,J.bare,ub.go (fun b o q n _ z=>fl3.1 b o (ground b o q (old b z n) (.inr (in1 b z)))) (fun b o q n _=>?_),J.hok.keepT fun b u hb q=>fl3.1 b u (ground b u q (zJ b hb) (.inl hb)),?_,ha,?_,q⟩
 ·obtain ⟨_,o',ho',hd⟩:=hst.mem (show b∈kP (envOfC qual scope s.heap.objs.size f cd::outer) from by rw [hfs];exact aK _ n);rw [q] at ho';cases ho'
  exact up b o q hd
 ·refine ⟨B,a0,fl3,fun b o q n z=>?_⟩;have hn:b∉kP (envOfC qual scope s.heap.objs.size f cd::outer):=by
   rcases z with z|z
   ·exact zJ b z
   ·exact old b z n
  have h1:∃u,s2.heap.get? b=some u:=by
   rcases z with z|⟨o',z⟩
   ·cases r:H2 b with
    |none=>exact absurd r z
    |some v=>exact J.hok.there r
   ·exact ub.there b o' z (by simp)
  obtain ⟨u,hu⟩:=h1;have hB:=ground b u hu hn (by
   rcases z with z|z
   ·exact .inl z
   ·exact .inr (in1 b z))
  have:=fl3.1 b u hB;have q':h3.get? b=some o:=q;rw [q'] at this;cases this;exact hB
 ·cases r:s.heap.get? a with
  |none=>rfl
  |some v =>
   obtain ⟨u,hu⟩:=in1 a ⟨v,r⟩;rw [hs] at hu;cases hu
end L2
namespace L2
open PySem PySem.Spec PyProof.Rows
theorem TX {K:PySem.W.Frag} {h:Heap} {C:Addr} {bmB:List Value} {newId:String} (X:K.In h) (q:PySem.W.excIn K C bmB newId=true) :
  ∃bm N nm qn bs hdct sn sub ab col dd k0 k1 k2 k3 k5 mN,K.lookup C=some (excClassObj nm qn C N bs bm hdct sn sub ab col dd k0 k1 k2 k3 k5 newId)∧h.get? C=some (excClassObj nm qn C N bs bm hdct sn sub ab col dd k0 k1 k2 k3 k5 newId)∧h.Ns N mN∧mN "__init__"=none∧OwnTail h bmB bm:=by
 unfold PySem.W.excIn at q
 split at q
 ·rename_i dd cd sl ho
  split at q
  ·rename_i C' bm k0 k1 k2 k3 n k5 hm hs;simp only [da,gt,Bool.not_eq_true'] at q;obtain ⟨⟨⟨⟨⟨rfl,rfl⟩,hdel⟩,ht⟩,hok⟩,hni⟩:=q;obtain ⟨nm,bs,mro,ns,qn,hd,sn,sub,ab,col,del⟩:=cd
   dsimp only at hm hdel hok hni
   subst hm hdel;have hsl:sl = #[k0,k1,k2,k3,some (.builtin n),k5]:=by
    obtain ⟨l⟩:=sl;simp only at hs;rw [hs]
   subst hsl;exact ⟨bm,ns,nm,qn,bs,hd,sn,sub,ab,col,dd,k0,k1,k2,k3,k5,_,ho,X _ _ ho,.of_isNs (PySem.W.isNs_of_in X hok),PySem.W.nsMap_none_of_in X hok hni,PySem.W.tail_of_in X ht⟩
  ·cases q
 ·cases q
abbrev WH:List Value:=[.type "ValueError",.type "Exception",.type "BaseException",.type "object"]
def ZD (K:PySem.W.Frag) (C:Addr):Prop:=PySem.W.excIn K C WH "ValueError.__new__"=true
section
variable {X:Cx} {R:St→Value→Hp→Prop} {x:Str} {C:Addr} {np cpos pos p:Pos} {e:Expr} {es:List Expr} {t:TA}
theorem QA (hx:EZ X R) (hcalm:X.calm=true) (hg:Gl X x) (hm:X.mg x=some (.ref C)) (hc:ZD X.K C) (ha:PA X (e::es) t) (hdb:(x == ("__debug__":Str))=false:=by decide)
  (he:starEach (e::es) X.env=(false,eval e X.env)::starEach es X.env:=by rfl) (hpl:(backTo cpos (starEach es X.env)).any (·.1)=false:=by rfl) :
  PS X (.Raise (some (.Call (.Name x np) (e::es) [] cpos)) none pos) (fun _ σ H=>t σ H fun vs H1=>vs.length≤sizeLine∧R σ (.ref C) H1):=by
 intro pins s σ H D I h;obtain ⟨tl,N,nm,q,bs,hdct,sn,sub,ab,col,dd,k0,k1,k2,k3,k5,mN,_,hC,hN,hni,T⟩:=TX I.ok.mod.kin hc;refine wpAny_Raise_call_subT (C:=C) (nm:=nm) (q:=q) (N:=N) (bs:=bs) (bm:=tl) (hdct:=hdct) (sn:=sn) (sub:=sub) (ab:=ab) (col:=col) (dd:=dd) (k0:=k0) (k1:=k1) (k2:=k2) (k3:=k3) (k5:=k5)
  PySem.F.excBase_ValueError (mN:=mN) (T.hasType PySem.F.excBase_ValueError.hasBase) (I.ok.hd hcalm) (by rw [he];show (false||(backTo cpos (starEach es X.env)).any (·.1))=false;rw [hpl];rfl) hni (bL I hg hm ⟨rfl,?_⟩ hdb)
 have h1:=ha cpos pins s σ H _ I h;rw [he] at h1 ⊢;refine Calls.evalArgs_plain (cc h1 (fun us s2 ⟨vs,H2,I2,r2,hl,q2⟩=>⟨rfl,by rw [← r2.length];exact hl,I2.bk _ _ hC,hN.keeps I2.bk,T.keeps I2.bk,fun h' a hm=>hx pins σ H2 s2 a h' C us I2 hm q2⟩) fun _ _ y=>y)
def UD (sp:Sp) (dvs:List V) (R:St→Value→Hp→Prop) (t:TA):TE:=fun σ H Q=>t σ H fun vs H1=>sp (vs++dvs) H1 Q (fun c _ H'=>R σ c H')
theorem DO {k:Nat} {f:Addr} {fd:FuncData} {ps:List Str} {sp:Sp} {dvs:List V} {ds:List Value} {pins:List (Addr×Obj)} {σ:St} {H:Hp} {s:Shared} {Q:VK} {us:List Value} {vs:List V} (F:FnOk X.prog X.w X.K X.mg X.base (kF X.prog X.w) k f fd ps sp) (hr:Room k X.A) (hb:Binds X.K fd ps ds) (hd:Vals dvs ds) (hx:bX X R)
  (I:Inv X pins σ H s) (r:Vals vs us) (h:sp (vs++dvs) H Q (fun c _ H'=>R σ c H')):wpAny (model X.prog X.w) X.A (call (.ref f) us) (EP X pins σ Q) X.xe s:=by
 have r2:Vals (vs++dvs) (us++ds):=r.append hd;have hl:(us++ds).length=ps.length:=by rw [← r2.length];exact F.len _ _ _ _ h
 refine wpAny_call (ie (F.run X.A X.stack s H ⟨us,[]⟩ (us++ds) (vs++dvs) Q _ hr I.env0 (hb s us I.kIn hl) r2 h) fun r s' hq=>?_);cases r with
 |error e=>exact hx pins σ H s e s' I hq
 |ok fl =>
  cases fl with
  |ret u=>exact I.after hq
  |next=>exact False.elim hq
  |brk=>exact False.elim hq
  |cont=>exact False.elim hq
end
structure DefX (P:Program) (w:World) (K:PySem.W.Frag) (mg:Str→Option Value) (base:Heap) (k:Nat) (x:Str) (ps:List Str) (dvs:List V) (sp:Sp):Prop where
 ex:∃(f:Addr) (fd:FuncData) (ds:List Value),FnOk P w K mg base (kF P w) k f fd ps sp∧mg x=some (.ref f)∧PySem.W.keepIn K (.ref f)=true∧Vals dvs ds∧Binds K fd ps ds
variable {X:Cx} {R:St→Value→Hp→Prop}
theorem qJ {k k':Nat} {x:Str} {ps:List Str} {dvs:List V} {sp:Sp} {p pos:Pos} {e:Expr} {es:List Expr} {t:TA} (F:DefX X.prog X.w X.K X.mg X.base k x ps dvs sp) (hx:bX X R) (hr:Room k' X.A) (hg:Gl X x) (ha:PA X (e::es) t)
  (hk:k≤k':=by decide) (hdb:(x == ("__debug__":Str))=false:=by decide) (he:starEach (e::es) X.env=(false,eval e X.env)::starEach es X.env:=by rfl) (hpl:(backTo pos (starEach es X.env)).any (·.1)=false:=by rfl) :
  PE X (.Call (.Name x p) (e::es) [] pos) (UD sp dvs R t):=by
 obtain ⟨f,fd,ds,G,m,kp,hv,b⟩:=F.ex;intro pins s σ H Q I h;refine dz (bL I hg m ?_ hdb);refine cv (h₀:=X.base) I.ok.mod.kin kp (jW (ha pos pins s σ H _ I h) fun us s1 ⟨vs,H1,I1,r,q⟩=>⟨I1.kIn,?_⟩) he hpl;exact DO G (hr.mono hk) b hv hx I1 r q
def FG (X:Cx) (pins:List (Addr×Obj)) (a:Addr):Prop:=X.s₀.heap.get? a=none∧a≠X.env.locals∧(∀x c,X.env.cells.lookup x=some c→c≠a)∧∀p∈X.pn++pins,p.1≠a
def ZV (X:Cx) (pins:List (Addr×Obj)) (R:St→Value→Hp→Prop):Cx:={X with
 pn:=X.pn++pins
 xe:=fun e s'=>∃(a C:Addr) (σ':St) (H':Hp),e=.ref a∧Inv X pins σ' H' s'∧GG X.stack (fun b=>H' b≠none∨(∃o,X.s₀.heap.get? b=some o)∨∃p∈X.pn++pins,p.1=b) s'.heap a C∧H' a=none∧FG X pins a∧R σ' (.ref C) H'}
theorem Cx.Ok.intoTry {pins:List (Addr×Obj)} (ok:X.Ok):(ZV X pins R).Ok :=
 ⟨ok.mod,ok.kind,ok.glob,ok.blt,ok.above,ok.inj,ok.has,ok.cab,ok.hd,ok.frames,ok.stk,ok.exf,ok.bs,ok.bsz,ok.noex,ok.exfs,ok.funs,ok.frf⟩
theorem Cx.Ok.outTry {pins:List (Addr×Obj)} (ok:(ZV X pins R).Ok):X.Ok :=
 ⟨ok.mod,ok.kind,ok.glob,ok.blt,ok.above,ok.inj,ok.has,ok.cab,ok.hd,ok.frames,ok.stk,ok.exf,ok.bs,ok.bsz,ok.noex,ok.exfs,ok.funs,ok.frf⟩
section
variable {X:Cx} {pins pins':List (Addr×Obj)} {σ:St} {H:Hp} {s:Shared} {R:St→Value→Hp→Prop}
theorem Inv.intoTry (I:Inv X pins σ H s):Inv (ZV X pins R) [] σ H s :=
 ⟨I.ok.intoTry,I.os,I.bare,I.base,I.loc,I.cell,I.free,I.freeC,fun p hp=>I.pin p (by have hp':p∈(X.pn++pins)++[]:=hp;rw [bo] at hp';exact hp'),I.hok,I.len⟩
theorem Inv.outTry (I:Inv (ZV X pins R) pins' σ H s):Inv X pins σ H s :=
 ⟨I.ok.outTry,I.os,I.bare,I.base,I.loc,I.cell,I.free,I.freeC,fun p hp=>I.pin p (gj _ hp),I.hok,I.len⟩
theorem SP.outTry {D:Ends} {f:Flow} {s':Shared} (h:SP (ZV X pins R) [] D f s'):SP X pins D f s':=by
 cases f with
 |next=>obtain ⟨σ',H',I,q⟩:=h;exact ⟨σ',H',I.outTry,q⟩
 |brk=>obtain ⟨σ',H',I,q⟩:=h;exact ⟨σ',H',I.outTry,q⟩
 |cont=>obtain ⟨σ',H',I,q⟩:=h;exact ⟨σ',H',I.outTry,q⟩
 |ret u=>obtain ⟨v,σ',H',I,r,q⟩:=h;exact ⟨v,σ',H',I.outTry,r,q⟩
theorem PL (hex:X.ex=[]):bX (ZV X pins R) R:=by
 intro pins' σ H1 s1 e s2 I hx;obtain ⟨a,C,H2,rfl,os,bare,un,hok,⟨B,a0,fl,ground⟩,ha,hs,q⟩:=hx;have I0:Inv X pins σ H1 s1:=I.outTry;have J:Inv X pins σ H2 s2:=I0.call' (ch:=[]) os un hok bare fun b z=>absurd z (by simp)
 refine ⟨a,C,σ,H2,rfl,J,⟨B,a0,fl,fun b o q n z=>ground b o q n ?_⟩,ha,⟨?_,fun z=>?_,fun x c e z=>?_,fun p hp z=>?_⟩,q⟩
 ·rcases z with z|⟨o',z⟩|⟨p,hp,rfl⟩
  ·exact .inl z
  ·exact .inr (I0.base.there b o' z (by rw [hex];simp))
  ·exact .inr ⟨_,(I0.pin p hp).1⟩
 ·cases r:X.s₀.heap.get? a with
  |none=>rfl
  |some v =>
   obtain ⟨u,hu⟩:=I0.base.there a v r (by rw [hex];simp);rw [hs] at hu;cases hu
 ·obtain ⟨m,⟨o,_,_,ho,_⟩,_⟩:=I0.loc;rw [← z,hs] at ho;cases ho
 ·obtain ⟨v,o,ho,_⟩:=I0.cell x c e;rw [z,hs] at ho;cases ho
 ·have ho:=(I0.pin p hp).1;rw [z,hs] at ho;cases ho
theorem Inv.fly {h':Heap} (I:Inv X pins σ H s) (hstk:X.stack=X.env::X.outer) (hf:X.env.frame=some X.env.locals)
  (k:∀b o,s.heap.get? b=some o→b∉kP X.stack→(H b≠none∨(∃o,X.s₀.heap.get? b=some o)∨∃p∈X.pn++pins,p.1=b)→h'.get? b=some o) (up:s.heap.UpToSlots h'):Inv X pins σ H {s with heap:=h'}:=by
 have hfs:kP X.stack=X.env.locals::X.fs:=by rw [hstk];unfold kP;rw [gm,hf];rfl
 have cellK:∀c v,s.heap.IsCell c v→h'.IsCell c v:=fun c v ⟨o,ho,hd⟩=>by
  obtain ⟨sl,e⟩:=up c o ho (fun vs q=>by rw [hd] at q;cases q);exact ⟨_,e,hd⟩
 have zJ:∀b,H b≠none→b∉kP X.stack:=fun b hb z=>hb (I.stkFree b z)
 refine ⟨I.ok,I.os,I.bare,I.base.go (fun b o q n _ z=>k b o q (fun m=>?_) (.inr (.inl z))) (fun b o q n z=>?_),?_,fun x c e=>?_,I.free,I.freeC,fun p hp=>?_,I.hok.keepT fun b u hb q=>k b u q (zJ b hb) (.inl hb),I.len⟩
 ·rw [hfs] at m
  rcases aq.mp m with m|m
  ·obtain ⟨o',z⟩:=z;exact absurd (ax (ar z) I.ok.above) (by rw [m];exact cb _)
  ·exact n m
 ·obtain ⟨_,o',ho',hd⟩:=I.stack.mem (show b∈kP X.stack from by rw [hfs];exact aK _ n);rw [q] at ho';cases ho'
  exact up b o q hd
 ·obtain ⟨m,hn,hl⟩:=I.loc;refine ⟨m,up.ns hn,fun i x v h1 h2 h3=>?_⟩;obtain ⟨u,r,l⟩:=hl i x v h1 h2 h3;refine ⟨u,r,?_⟩
  rcases l with l|⟨l1,c,l2,l3⟩
  ·exact .inl l
  ·exact .inr ⟨l1,c,l2,cellK c _ l3⟩
 ·obtain ⟨v,q⟩:=I.cell x c e;exact ⟨v,cellK c v q⟩
 ·obtain ⟨h1,h2,h3,h4,h5⟩:=I.pin p hp;refine ⟨k p.1 p.2 h1 (fun m=>?_) (.inr (.inr ⟨p,hp,rfl⟩)),h2,h3,h4,h5⟩;rw [hfs] at m
  rcases aq.mp m with m|m
  ·exact h3 m
  ·exact h4 m
end
def fG (X:Cx) (e:Value):Cx:={X with A:=X.A.mark (some e),calm:=false,xe:=fun _ _=>False}
section
variable {X:Cx} {pins:List (Addr×Obj)} {σ:St} {H:Hp} {s:Shared} {e:Value}
theorem Inv.intoSuite (I:Inv X pins σ H s) (e:Value):Inv (fG X e) pins σ H s :=
 ⟨⟨I.ok.mod,I.ok.kind,I.ok.glob,I.ok.blt,I.ok.above,I.ok.inj,I.ok.has,I.ok.cab,fun z=>absurd (show false=true from z) (by decide),I.ok.frames,I.ok.stk,I.ok.exf,I.ok.bs,I.ok.bsz,I.ok.noex,I.ok.exfs,I.ok.funs,I.ok.frf⟩,I.os,I.bare,I.base,I.loc,I.cell,I.free,I.freeC,I.pin,I.hok,I.len⟩
theorem Inv.outSuite (ok:X.Ok) (I:Inv (fG X e) pins σ H s):Inv X pins σ H s:=⟨ok,I.os,I.bare,I.base,I.loc,I.cell,I.free,I.freeC,I.pin,I.hok,I.len⟩
theorem SP.outSuite (ok:X.Ok) {D:Ends} {f:Flow} {s':Shared} (h:SP (fG X e) pins D f s'):SP X pins D f s':=by
 cases f with
 |next=>obtain ⟨σ',H',I,q⟩:=h;exact ⟨σ',H',I.outSuite ok,q⟩
 |brk=>obtain ⟨σ',H',I,q⟩:=h;exact ⟨σ',H',I.outSuite ok,q⟩
 |cont=>obtain ⟨σ',H',I,q⟩:=h;exact ⟨σ',H',I.outSuite ok,q⟩
 |ret u=>obtain ⟨v,σ',H',I,r,q⟩:=h;exact ⟨v,σ',H',I.outSuite ok,r,q⟩
end
end L2
namespace L2
open PySem PySem.Spec PyProof.Rows
section
variable {P:Program} {w:World} {K:PySem.W.Frag} {mg:Str→Option Value} {base:Heap}
theorem Fun.okX {x qual:Str} {st:Stmt} {f:Addr} {fd:FuncData} {N ps:List Str} {k:Nat} {sp:Sp} (F:Fun K x qual st f fd) (S:FnScope N ps (j8 st)) (len:∀vs H Q E,sp vs H Q E→vs.length=ps.length)
  (hbody:∀(cdv:Value) (A:Around) (outer:List Env) (s:Shared) (H:Hp) (vs:List V) (Q:VK) (E:XK),Room k (A.deeper (envOfC qual (j8 st) s.heap.objs.size f cdv))→sp vs H Q E→
   ∃t,PSs (qB (kF P w) P w K mg base N qual (j8 st) f cdv A outer s H E) (qN st) t∧t {nx:=fun _ H'=>Q .non H',rt:=Q} (start N vs) H):FnOk P w K mg base (kF P w) (k+1) f fd ps sp:=by
 obtain ⟨oc,od,kV,doc,pm,an,cdv,ct,osl,rfl,lk,hcd⟩:=F.ex;exact wD lk hcd S len fun A outer s H vs Q E hr hsp=>hbody cdv A outer s H vs Q E hr hsp
theorem FnOk.noX {k:Nat} {f:Addr} {fd:FuncData} {ps:List Str} {sp sp':Sp} (F:FnOk P w K mg base (kF P w) k f fd ps sp) (h:∀vs H Q E,sp' vs H Q E→sp vs H Q (fun _ _ _=>False)):FnOk P w K mg base jQ k f fd ps sp' :=
 ⟨fun vs H Q E q=>F.len vs H Q _ (h _ _ _ _ q),fun A outer s H args us vs Q E hr he hb hv hs=>ie (F.run A outer s H args us vs Q _ hr he hb hv (h _ _ _ _ hs)) fun r s' hq=>by
  cases r with
  |ok fl=>cases fl<;>exact hq
  |error e=>obtain ⟨_,_,_,_,_,_,_,_,_,_,_,z⟩:=hq;exact z⟩
end
section
variable {X:Cx}
end
section
variable {X:Cx} {pins:List (Addr×Obj)} {σ:St} {H:Hp} {s:Shared}
theorem Inv.unset {i:Nat} {x:Str} {m':Str→Option Value} {h':Heap} {t':Nat} (I:Inv X pins σ H s) (hN:X.N.Nodup) (hi:X.N[i]?=some x)
  (hm:∀m,s.heap.Ns X.env.locals m→∀y,y≠x→m' y=m y) (hn:h'.Ns X.env.locals m') (hs:Heap.SameBut X.env.locals s.heap h'):Inv X pins (σ.set i none) H {s with heap:=h',toks:=t'}:=by
 obtain ⟨m,hn0,hl⟩:=id I.loc;obtain ⟨oL,_,_,hoL,_⟩:=id hn0;have hiσ:i<σ.length:=by rw [I.len];exact (ad.mp hi).1
 refine ⟨I.ok,I.os,I.bare,⟨fun b o e n hb hx=>?_,fun b o e n hb hx=>?_,I.base.free,fun b o e hx=>?_,I.base.tups,I.base.frzs,I.base.tbls⟩,⟨_,hn,fun j y v' e1 e2 e3=>?_⟩,fun y c e=>?_,I.free,I.freeC,fun p hp=>?_,?_,by simpa using I.len⟩
 ·exact (hs.2 b (aP (ax (ar e) I.ok.above))).trans (I.base.keep b o e n hb hx)
 ·obtain ⟨sl,e1⟩:=I.base.slot b o e n hb hx;exact ⟨sl,(hs.2 b (aP (ax (ar e) I.ok.above))).trans e1⟩
 ·obtain ⟨o',e1⟩:=I.base.there b o e hx;exact ⟨o',(hs.2 b (aP (ax (ar e) I.ok.above))).trans e1⟩
 ·by_cases hj:j=i
  ·subst hj;rw [ci hiσ] at e2;cases e2
  ·rw [dc (Ne.symm hj)] at e2;obtain ⟨u',r',q⟩:=hl j y v' e1 e2 e3;refine ⟨u',r',?_⟩
   rcases q with ⟨k,e⟩|⟨k,c,e,z⟩
   ·refine .inl ⟨k,?_⟩;have:y≠x:=fun e=>hj (tS hN e1 (e▸hi))
    rw [hm m hn0 y this];exact e
   ·exact .inr ⟨k,c,e,z.sameBut hs (I.cne y c e)⟩
 ·obtain ⟨w',z⟩:=I.cell y c e;exact ⟨w',z.sameBut hs (I.cne y c e)⟩
 ·obtain ⟨e,n,ne,nf,d⟩:=I.pin p hp;exact ⟨(hs.2 p.1 ne).trans e,n,ne,nf,d⟩
 ·refine I.hok.keepT fun b u hb q=>(hs.2 b fun z=>?_).trans q
  rw [z] at hb;exact hb I.free
theorem TB {h:Heap} {a:Addr} {m m':Str→Option Value} (x:h.Ns a m) (y:h.Ns a m'):m=m':=by
 obtain ⟨o,es,ep,ho,hd,_,hf⟩:=x;obtain ⟨o',es',ep',ho',hd',_,hf'⟩:=y;rw [ho] at ho';cases ho'
 rw [hd] at hd';cases hd'
 funext n;rw [← hf n,← hf' n]
theorem i0 {A:Around} {E:Value→Shared→Prop} {i:Nat} {x:Str} {pos:Pos} {Q:Unit→Shared→Prop} (I:Inv X pins σ H s) (hN:X.N.Nodup) (hi:X.N[i]?=some x) (hx:X.env.scope.names.lookup x=some .local)
  (h:∀s',Inv X pins (σ.set i none) H s'→Q () s'):wpAny (model X.prog X.w) A (do bindName X.env x .none;unbindBehindTheSuite X.env x pos) Q E s:=by
 have hp:(X.env.scope.kind == .class||(X.env.scope.kind == .module&&X.env.locals != X.env.globals))=false:=by rw [I.ok.kind];rfl
 obtain ⟨m,hn,_⟩:=id I.loc;refine ag (wpAny_bindName (wpAny_storeName_local hx hn (fun h₁ hn₁ hs₁=>?_) hp));unfold unbindBehindTheSuite;refine im ?_;unfold unbindName;refine ag (wpAny_point (ag ?_));unfold deleteName;have hl:X.env.kindOf x=some .local:=hx;simp only [hl,hp];rw [if_neg (by decide)];refine ag (wpAny_nsDel_keeps hn₁ fun h₂ v hn₂ hs₂=>?_);simp only [if_true,Option.isSome_some,Bool.not_true,Bool.false_eq_true,if_false];refine aQ (wpAny_point (h _ ?_));exact I.unset hN hi (fun m0 h0 y hy=>by rw [TB h0 hn];simp [hy]) hn₂ (hs₁.trans hs₂)
theorem Inv.track {a:Addr} {o:HO} (I:Inv X pins σ H s) (ha:H a=none) (ap:FG X pins a) (new:ObjOk X.prog X.w (upd H a o) s.heap a o):Inv X pins σ (upd H a o) s:=by
 obtain ⟨n0,nl,nc,np⟩:=ap;refine ⟨I.ok,I.os,I.bare,⟨I.base.keep,I.base.slot,fun b u q n hx=>?_,I.base.there,fun b xs q=>?_,fun b u xs q=>?_,fun b ps q=>?_⟩,I.loc,I.cell,?_,fun x c e=>?_,fun p hp=>?_,fun b u e=>?_,I.len⟩
 ·rw [jX (fun z=>by rw [z,n0] at q;cases q)];exact I.base.free b u q n hx
 ·have:=I.base.tups b xs q;rw [jX (kT this ha)];exact this
 ·have:=I.base.frzs b u xs q;rw [jX (kT this ha)];exact this
 ·obtain ⟨more,e⟩:=I.base.tbls b ps q;exact ⟨more,by rw [jX (kT e ha)];exact e⟩
 ·rw [jX (Ne.symm nl)];exact I.free
 ·rw [jX (nc x c e)];exact I.freeC x c e
 ·obtain ⟨h1,h2,h3⟩:=I.pin p hp;exact ⟨h1,by rw [jX (np p hp)];exact h2,h3⟩
 ·by_cases hb:b=a
  ·subst hb;rw [jE] at e;cases e;exact new
  ·rw [jX hb] at e;exact (I.hok b u e).stay (fun c v _ q=>q) (fun c q=>by rw [jX (kT q ha)];exact q) fun c xs q=>by rw [jX (kT q ha)];exact q
end
def Z6 (a C:Addr):HO:=.ext fun h=>∃o vs,h.get? a=some o∧o.cls=.ref C∧o.data=.fields vs
def T9 (K:PySem.W.Frag) (C0:Addr) (i:Nat) (tb:(St→Value→Hp→Prop)→TS) (ts:TS):TS:=fun D σ H=>∃R:St→Value→Hp→Prop,tb R D σ H∧∀σ' c H',R σ' c H'→∃C,c=.ref C∧PySem.W.exmOne K (.ref C) (.ref C0)=some true∧
 ∀a,H' a=none→ts {nx:=fun σ2 H2=>D.nx (σ2.set i none) H2,rt:=D.rt,bk:=fun σ2 H2=>D.bk (σ2.set i none) H2,ct:=fun σ2 H2=>D.ct (σ2.set i none) H2} (σ'.set i (some (.ref a))) (upd H' a (Z6 a C))
theorem RF {X:Cx} {body:List Stmt} {x n:Str} {C0:Addr} {i:Nat} {np hpos pos:Pos} {b₀:Stmt} {suite:List Stmt} {tb:(St→Value→Hp→Prop)→TS} {ts:TS} (hex:X.ex=[]) (hstk:X.stack=X.env::X.outer) (hf:X.env.frame=some X.env.locals)
  (hN:X.N.Nodup) (hi:X.N[i]?=some n) (hl:X.env.scope.names.lookup n=some .local)
  (hg:Gl X x) (hm:X.mg x=some (.ref C0)) (hb:∀pins R,bX (ZV X pins R) R→PSs (ZV X pins R) body (tb R)) (hs:∀e,PSs (fG X e) (b₀::suite) ts) (hdb:(x == ("__debug__":Str))=false:=by decide) :
  PS X (.Try body [.ExceptHandler (some (.Name x np)) (some n) (b₀::suite) hpos] [] [] pos) (T9 X.K C0 i tb ts):=by
 intro pins s σ H D I h;obtain ⟨R,h1,h2⟩:=h;refine wpAny_Try_except (cc (hb pins R (PL hex) [] s σ H D I.intoTry h1) (fun f s1 q=>?_) (fun v s1 q=>?_))
 ·have q':=q.outTry;cases f with
  |next=>exact io q'
  |brk=>exact q'
  |cont=>exact q'
  |ret u=>exact q'
 ·obtain ⟨a,C',σ',H',rfl,J,⟨B,a0,fl,ground⟩,ha,ap,r⟩:=q;obtain ⟨C,e1,hexm,h3⟩:=h2 σ' (.ref C') H' r;cases e1;have fl0:Heap.FlyingW B (X.env::X.outer) a (.ref C') a0 s1.heap:=by rw [hstk] at fl;exact fl
  have hfr:X.A.frames=some (X.env::X.outer):=by rw [← hstk];exact J.ok.frames
  refine wpAny_looks_onW hfr hf fl0 fun h4 held4 up4=>?_
  refine wpAny_landsW held4 fun h5 fl5 up5=>?_
  have J5:Inv X pins σ' H' {s1 with heap:=h5}:=J.fly hstk hf (fun b o q n z=>fl5.1 b o (ground b o q n z)) (up4.trans up5);obtain ⟨ob,hob,hobc⟩:=fl5.there;have LT:PySem.W.Looks (model X.prog X.w) h5 (typeOf (.ref a)) (.ref C'):=by
   have:PySem.W.Looks (model X.prog X.w) h5 (typeOf (.ref a)) ob.cls:=(PySem.W.Looks.ld hob).andThen .now;rw [hobc] at this;exact this
  refine wpAny_handleBy_cons (codeAny_handlers_test (bL (J5.intoSuite (.ref a)) hg hm ?_ hdb)) (by intro q;cases q);have KI:X.K.In h5:=J5.kIn;refine (PySem.W.exm_one KI LT hexm).here ?_;refine codeAny_handlers_suite_as ?_;refine lands_againW fl5 fun h6 fl6 up6=>?_
  have J6:Inv X pins σ' H' {s1 with heap:=h6}:=J.fly hstk hf (fun b o q n z=>fl6.1 b o (ground b o q n z)) ((up4.trans up5).trans up6);obtain ⟨oe,vs,hoe,hoec,hoed,_⟩:=fl6.first;have new:ObjOk X.prog X.w (upd H' a (Z6 a C')) h6 a (Z6 a C') :=
   ⟨⟨oe,vs,hoe,hoec,hoed⟩,⟨oe,hoe⟩,fun h1 h2 ⟨o,vs,e1,e2,e3⟩ k=>⟨o,vs,k o e1,e2,e3⟩⟩
  have J7:Inv X pins σ' (upd H' a (Z6 a C')) {s1 with heap:=h6}:=J6.track ha ap new;refine tL (X:=fG X (.ref a)) (i:=i) (v:=.ref a) (J7.intoSuite (.ref a)) hN hi (.inl hl) rfl (fun s7 J8=>?_) (.inr hl);refine cc (hs (.ref a) pins _ _ _ _ J8 (h3 a ha)) (fun f s' q=>?_) fun _ _ z=>False.elim z
  have q':=q.outSuite J6.ok;cases f with
  |next=>obtain ⟨σ2,H2,I2,q2⟩:=q';exact i0 I2 hN hi hl fun s'' I3=>⟨_,_,I3,q2⟩
  |brk=>obtain ⟨σ2,H2,I2,q2⟩:=q';exact i0 I2 hN hi hl fun s'' I3=>⟨_,_,I3,q2⟩
  |cont=>obtain ⟨σ2,H2,I2,q2⟩:=q';exact i0 I2 hN hi hl fun s'' I3=>⟨_,_,I3,q2⟩
  |ret u=>obtain ⟨v,σ2,H2,I2,r2,q2⟩:=q';exact i0 I2 hN hi hl fun s'' I3=>⟨_,_,_,I3,r2,q2⟩
end L2
namespace L2
open PySem PySem.Spec PySem.Calls PyProof.Rows PySem.W
structure ExcAttr (K:PySem.W.Frag) (C:Addr):Prop where
 ga:PySem.W.findIn K (.ref C) "__getattribute__"=some (some (.builtin "BaseException.__getattribute__"))
 gn:PySem.W.findIn K (.ref C) "__getattr__"=some none
 ca:PySem.W.findIn K (.ref C) "__class__"=some (some (.builtin "object.__class__"))
 mo:PySem.W.mroIn K C (.type "object")=some true
 mb:PySem.W.subIn K (.ref C) (.type "BaseException")=some true
section
variable {prog:Program} {w:World} {A:Around} {E:Value→Shared→Prop} {h:Heap} {g:Array GenState} {d:Drawn} {t:Nat} {os:OsState} {a C:Addr} {o:Obj} {K:PySem.W.Frag}
open PySem.Builtin PySem.Builtin.ObjectAttr PySem.Builtin.Getset_descriptor in
theorem TY {R:Result→Shared→Prop} {tp:Value} (X:K.In h) (Z:ExcAttr K C) (hx:h.get? a=some o) (hc:o.cls=.ref C) (hq:R (.ok (.ret (.ref C))) ⟨h,g,d,t,os⟩) :
  codeAny (model prog w) A (.call (.builtin "getset_descriptor.__get__") ⟨[.builtin "object.__class__",.ref a,tp],[]⟩) R ⟨h,g,d,t,os⟩:=by
 have L0:PySem.W.Looks (model prog w) h (typeOf (.ref a)) (.ref C):=hc▸(PySem.W.Looks.ld hx).andThen .now;have L1:=PySem.W.looks_mroIn (M:=model prog w) X Z.mo;refine codeAny_call_builtin KF.slot_gs.plain KF.entry_gs (KF.slot_gs.check _ _ _ _ _ _ _ _ KF.type_class (KF.args_gs _ _ _) ?_);unfold Builtin.«getset_descriptor.__get__» descrGet;rw [dga_obj];refine ag (aQ ?_);unfold descrGetter descrCheckInstance descrNameAndClass isInstance;simp only [KF.owner_class]
 repeat lk
 refine ⟨Code.quiet_builtin _ (by decide +kernel),codeAny_builtin KF.entry_class ?_⟩;unfold Builtin.«object.__class__» shownTypeOf
 repeat lk
 exact hq
theorem PN {tk:Tok} {Q:Fin→Shared→Prop} (X:K.In h) (Z:ExcAttr K C) (hx:h.get? a=some o) (hc:o.cls=.ref C) (hq:Q (.done (.ret (.ref C))) ⟨h,g,d,t,os⟩) :
  wpAny (model prog w) A (Builtin.«object.__getattribute__» ⟨[.ref a,.str "__class__" tk],[]⟩) Q E ⟨h,g,d,t,os⟩:=by
 have hT5:(⟨h,g,d,t,os⟩:Shared).TypeIs (.builtin "object.__class__") "getset_descriptor":=F.typeOf_object_class;have f5:=F.typeOf_object_class;have f6:=F.slot_gs_get.lookup;have f7:=F.slot_gs_set.lookup;have L1:=gk (M:=model prog w) X Z.ca
 repeat (any_goals (first|assumption|(with_reducible refine wpAny_loadPart_at hx ?_;rw [hc])|with_reducible refine L1.at ?_|wp_step))
 refine TY X Z hx hc ?_
 repeat (any_goals (first|assumption|wp_step))
theorem PP {M:Model} {nameV:Value} {Q:Unit→Shared→Prop} (X:K.In h) (Z:ExcAttr K C) (hx:h.get? a=some o) (hc:o.cls=.ref C) (hq:Q () ⟨h,g,d,t,os⟩) :
  wpAny M A (checkBuiltinCall "BaseException.__getattribute__" ⟨[.ref a,nameV],[]⟩) Q E ⟨h,g,d,t,os⟩:=by
 have hk:builtinKind "BaseException.__getattribute__"=some .slot:=by decide +kernel
 have hsplit:splitId "BaseException.__getattribute__"=some ("BaseException","__getattribute__"):=by decide +kernel
 have L1:PySem.W.Looks M h (isSubtype (.ref C) (.type "BaseException")) true:=PySem.W.looks_subIn X Z.mb;have ha:=F.args_bexc_ga (.ref a) nameV;simp only [checkBuiltinCall,hk,hsplit];refine ag ?_
 ·unfold isInstance
  repeat (first|(with_reducible refine wpAny_loadPart_at hx ?_;rw [hc])|with_reducible refine L1.at ?_|wp_step)
  exact hq
theorem R4 {tk:Tok} {R:Result→Shared→Prop} (X:K.In h) (Z:ExcAttr K C) (hx:h.get? a=some o) (hc:o.cls=.ref C) (hq:R (.ok (.ret (.ref C))) ⟨h,g,d,t,os⟩) :
  codeAny (model prog w) A (.call (.builtin "BaseException.__getattribute__") ⟨[.ref a,.str "__class__" tk],[]⟩) R ⟨h,g,d,t,os⟩ :=
 codeAny_call_builtin PySem.F.attr_ValueError.ga.plain F.entry_bexc_ga (PP X Z hx hc (PN X Z hx hc hq))
theorem U2 {tk:Tok} {fill expr:Bool} {Q:Value→Shared→Prop} (X:K.In h) (Z:ExcAttr K C) (hx:h.get? a=some o) (hc:o.cls=.ref C) (hq:Q (.ref C) ⟨h,g,d,t,os⟩) :
  wpAny (model prog w) A (getAttrBy (.ref a) (.str "__class__" tk) fill expr) Q E ⟨h,g,d,t,os⟩:=by
 have f3:=PySem.F.attr_ValueError.ga.bind (.ref a);have hx0:(expr&&onTheHeap (Value.builtin "BaseException.__getattribute__"))=false:=by cases expr<;>rfl
 have hx2:(Value.builtin "BaseException.__getattribute__" == Value.builtin "object.__getattribute__")=false:=by decide +kernel
 have hx1:(onTheHeap (Value.ref C)&&Value.builtin "BaseException.__getattribute__" == Value.builtin "object.__getattribute__")=false:=by rw [hx2];rfl
 have L1:=gk (M:=model prog w) X Z.ga;have L2:=gk (M:=model prog w) X Z.gn
 repeat (any_goals (first|assumption|(with_reducible refine wpAny_loadPart_at hx ?_;rw [hc])|with_reducible refine L1.at ?_|with_reducible refine L2.at ?_|wp_step))
 refine R4 X Z hx hc ?_
 repeat (any_goals (first|assumption|wp_step))
theorem R5 {Q:Option Value→Shared→Prop} (X:K.In h) (Z:ExcAttr K C) (hx:h.get? a=some o) (hc:o.cls=.ref C) (hq:Q (some (.ref C)) ⟨h,g,d,t+1,os⟩) :
  wpAny (model prog w) A (getAttr? (.ref a) "__class__") Q E ⟨h,g,d,t,os⟩:=by
 unfold getAttr? getAttrBy?
 repeat (any_goals (first|assumption|with_reducible apply U2 X Z hx hc|wp_step))
end
theorem C2 {K:PySem.W.Frag} {a C:Addr} (Z:ExcAttr K C) (hcl:(PySem.W.clsIn K C).isSome=true):PySem.W.KitX K (.ref a) (.ref C) (fun h=>∃o vs,h.get? a=some o∧o.cls=.ref C∧o.data=.fields vs) where
 ty:=fun M h _ ⟨o,_,h1,h2,_⟩=>h2▸(PySem.W.Looks.ld h1).andThen .now
 it:=fun _ _ X _=>by
  unfold PySem.W.clsIn at hcl
  split at hcl
  ·rename_i c' d' cd' sl' ho;intro A' Q' E' s' k q;unfold isType loadHead;exact ag (wpAny_loadPart (k _ _ (X _ _ ho)) (aQ q))
  ·cases hcl
 ne:=fun h tp dd its n sl X htp=>by
  refine di.mpr fun q=>?_
  have e:C=tp:=Value.ref.inj (gt.mp q);subst e;unfold PySem.W.clsIn at hcl
  split at hcl
  ·rename_i c' d' cd' sl' ho;have z:=(X _ _ ho).symm.trans htp;cases z
  ·cases hcl
 ca:=fun {_ _ _ _ _ s} X ⟨o,_,h1,h2,_⟩ k=>by
  obtain ⟨h,g,d,t,os⟩:=s;exact R5 X Z h1 h2 k
section
variable {X:Cx}
def WF (K:PySem.W.Frag):List V→Hp→VK→Prop:=fun xs H Q=>∃(a C:Addr) (c:V) (b:Bool),xs=[.ref a,c]∧H a=some (Z6 a C)∧ExcAttr K C∧(PySem.W.clsIn K C).isSome=true∧
 ((∃u,WP c=some u∧PySem.W.kitOne K (.ref C) u=some b)∨∃(p:Addr) (ds:List Addr),c=.ref p∧H p=some (.tup (ds.map V.ref))∧PySem.W.kitAny K (.ref C) (ds.map Value.ref)=some b)∧Q (.bl b) H
theorem BC:∀{ds:List Addr} {us:List Value},Vals (ds.map V.ref) us→us=ds.map Value.ref
 |[],_,r=>by cases r;rfl
 |d::ds,_,r=>by
  cases r with
  |cons h t =>
   cases (show _=Value.ref d from h);rw [BC t];rfl
theorem dC {K:PySem.W.Frag} (hK:X.K=K:=by rfl):yN X (.builtin "isinstance") (WF K):=by
 subst hK;intro pins s σ H xs us Q I r h;obtain ⟨a,C,c,b,rfl,ha,Z,hcl,hc,q⟩:=h;obtain ⟨u1,u2,rfl,r1,r2⟩:=u6 r;cases (show u1=Value.ref a from r1);obtain ⟨p,_,_⟩:=(show ObjOk X.prog X.w H s.heap a (Z6 a C) from I.hok a _ ha)
 rcases hc with ⟨u,hu,e⟩|⟨tp,ds,rfl,ht,e⟩
 ·have e2:u2=u:=by
   cases c with
   |ty n=>cases (show u2=Value.type n from r2);exact aA hu
   |ref a=>cases (show u2=Value.ref a from r2);exact aA hu
   |_=>cases hu
  subst e2;exact PySem.W.kia_one (C2 Z hcl) I.kIn p e (fun z=>nomatch z) fun tk=>⟨.bl b,H,I.tok _,rfl,q⟩
 ·cases (show u2=Value.ref tp from r2);obtain ⟨_,its,rv,ob,h1,h2,n,h3⟩:=(show ObjOk X.prog X.w H s.heap tp (.tup (ds.map V.ref)) from I.hok tp _ ht);have hi:=BC rv;subst hi;obtain ⟨oc,od,odt,osl⟩:=ob
  dsimp only at h2 h3
  subst h2 h3;exact PySem.W.kia_tup (C2 Z hcl) I.kIn p h1 e (fun z=>nomatch z) fun tk=>⟨.bl b,H,I.tok _,rfl,q⟩
end
end L2
namespace L2
open PySem PySem.Spec PyProof.Rows
section
variable {X:Cx} {x:Str} {C:Addr} {pos p:Pos} {e:Expr} {es:List Expr} {t:TA}
end
section
variable {X:Cx}
end
def UA (C:Addr) (m:Str) (sp:Sp) (R:St→Value→Hp→Prop) (ta:TE) (t:TA):TE:=fun σ H Q=>ta σ H fun x H1=>∃a dx fs,x=.ref a∧H1 a=some (.ins C dx fs)∧fs.lookup m=none∧
 t σ H1 fun vs H2=>sp (x::vs) H2 Q (fun c _ H'=>R σ c H')
structure MeX (P:Program) (w:World) (K:PySem.W.Frag) (mg:Str→Option Value) (base:Heap) (k:Nat) (C:Addr) (m:Str) (ps:List Str) (sp:Sp):Prop where
 ex:Cls K C∧∃(f:Addr) (fd:FuncData),Meth K C m f∧FnOk P w K mg base (kF P w) k f fd ps sp∧Binds K fd ps []
section
variable {X:Cx} {R:St→Value→Hp→Prop} {k k':Nat} {x m:Str} {C:Addr} {ps:List Str} {sp:Sp} {p pos apos:Pos} {o e:Expr} {es:List Expr} {ta:TE} {t:TA}
theorem zO {pl:Sem Bool} (M:MeX X.prog X.w X.K X.mg X.base k C m ps sp) (hx:bX X R) (hr:Room k' X.A) (ho:PE X o ta) (ha:PA X (e::es) t) (hk:k≤k':=by decide)
  (hst:starEach (e::es) X.env=(false,eval e X.env)::starEach es X.env:=by rfl) (hpl:(backTo pos (starEach es X.env)).any (·.1)=false:=by rfl)
  (ht:eval (.Call (.Attribute o m apos) (e::es) [] pos) X.env=(do
   let ov ← eval o X.env
   standAt apos.atName
   let (f,first) ← holding [ov] (getMethod ov m pl)
   callWith pos f first (backTo pos (starEach (e::es) X.env)) (backToKw pos (keywordEach [] X.env))):=by rfl) :
  PE X (.Call (.Attribute o m apos) (e::es) [] pos) (UA C m sp R ta t):=by
 obtain ⟨c,f,fd,hm,G,b⟩:=M.ex;intro pins s σ H Q I h;refine eh (pl:=pl) (jW (ho pins s σ H _ I h) fun u s1 ⟨x,H1,I1,rx,a,dx,fs,ex,ea,l,q⟩=>?_) ht;subst ex;obtain rfl:u=Value.ref a:=rx;refine iT I1 ea c hm l ?_;refine cv (first:=[.ref a]) (h₀:=X.base) I.ok.mod.kin hm.kp (jW (ha pos pins s1 σ H1 _ I1 q) fun us s2 ⟨vs,H2,I2,r,q2⟩=>⟨I2.kIn,?_⟩) hst hpl;exact DO (us:=.ref a::us) (vs:=.ref a::vs) (dvs:=[]) G (hr.mono hk) b .nil hx I2 (.cons rfl r) (by rw [bo];exact q2)
theorem fR {CX:yG} {P:Program} {w:World} {K:PySem.W.Frag} {mg:Str→Option Value} {base:Heap} {N:List Str} {qual:Str} {scope:Scope} {f:Addr} {cd:Value} {A:Around} {outer:List Env} {s:Shared} {H:Hp} {E:XK} :
  PassesOwn (model (qB CX P w K mg base N qual scope f cd A outer s H E).prog (qB CX P w K mg base N qual scope f cd A outer s H E).w) (qB CX P w K mg base N qual scope f cd A outer s H E).A (qB CX P w K mg base N qual scope f cd A outer s H E).env (qB CX P w K mg base N qual scope f cd A outer s H E).xe:=by
 intro e s' h;exact PassesOwn.leaving (Q₁:=fun e s''=>CX outer H s E e s'') (E₁:=fun e' s''=>CX outer H s E e' s'') e s' h
end
section
variable {κ:Type} [DecidableEq κ]
def vW (kvs:List (κ×V)) (k:κ):Option V:=(kvs.find? fun kv=>decide (kv.1=k)).map (·.2)
def zR (kvs:List (κ×V)) (k:κ) (v:V):List (κ×V) :=
 if (kvs.any fun kv=>decide (kv.1=k))=true then kvs.map (fun kv=>if kv.1=k then (kv.1,v) else kv) else kvs++[(k,v)]
theorem valV_nil {k:κ}:vW ([]:List (κ×V)) k=none:=rfl
theorem bI {p:κ×V} {r:List (κ×V)} {k:κ} (e:p.1=k):vW (p::r) k=some p.2:=by simp [vW,gc,e]
theorem zA {p:κ×V} {r:List (κ×V)} {k:κ} (e:¬p.1=k):vW (p::r) k=vW r k:=by simp [vW,gc,e]
theorem CC (k:κ):∀kvs:List (κ×V),(kvs.any fun kv=>decide (kv.1=k))=(vW kvs k).isSome
 |[]=>rfl
 |p::r=>by
  rw [il]
  by_cases e:p.1=k
  ·simp only [bI e,aT e,Bool.true_or,Option.isSome_some]
  ·rw [zA e,aJ e,Bool.false_or];exact CC k r
theorem NT (kvs:List (κ×V)) (k:κ) (v:V):(zR kvs k v).length≤kvs.length+1:=by
 unfold zR
 split
 ·rw [ae];omega
 ·rw [af,bz,List.length_nil];omega
theorem i7 {kvs:List (κ×V)} {k:κ} (v:V) (h:vW kvs k=none):zR kvs k v=kvs++[(k,v)]:=by
 unfold zR;rw [CC,h];exact if_neg (by decide)
theorem KV.val {kvs:List (κ×V)} {vs:List (κ×Value)} (r:KV kvs vs) (k:κ):RelO (vW kvs k) (valueAt vs k):=by
 unfold KV at r
 induction r with
 |nil=>exact True.intro
 |@cons p q ps qs h t ih =>
  obtain ⟨h1,h2⟩:=h
  by_cases e:p.1=k
  ·have e':q.1=k:=h1.symm.trans e;have b:valueAt (q::qs) k=some q.2:=by simp [valueAt,gc,e']
   rw [bI e,b];exact h2
  ·have e':¬q.1=k:=fun z=>e (h1.trans z)
   have b:valueAt (q::qs) k=valueAt qs k:=by simp [valueAt,gc,e']
   rw [zA e,b];exact ih
theorem KV.any {kvs:List (κ×V)} {vs:List (κ×Value)} (r:KV kvs vs) (k:κ):(kvs.any fun kv=>decide (kv.1=k))=vs.any fun kv=>decide (kv.1=k):=by
 unfold KV at r
 induction r with
 |nil=>rfl
 |cons h t ih=>rw [il,il,ih,h.1]
theorem KV.repl {kvs:List (κ×V)} {vs:List (κ×Value)} (r:KV kvs vs) (k:κ) {y:V} {u:Value} (ry:RelV y u) :
  KV (kvs.map fun kv=>if kv.1=k then (kv.1,y) else kv) (vs.map fun kv=>if kv.1=k then (kv.1,u) else kv):=by
 unfold KV at r ⊢
 induction r with
 |nil=>exact .nil
 |@cons p q ps qs h t ih =>
  rw [fi,fi];refine .cons ?_ ih;obtain ⟨h1,h2⟩:=h
  by_cases e:p.1=k
  ·rw [if_pos e,if_pos (h1.symm.trans e)];exact ⟨h1,ry⟩
  ·rw [if_neg e,if_neg (fun z=>e (h1.trans z))];exact ⟨h1,h2⟩
theorem KV.put {kvs:List (κ×V)} {vs:List (κ×Value)} (r:KV kvs vs) (k:κ) {y:V} {u:Value} (ry:RelV y u):KV (zR kvs k y) (stored vs k u):=by
 unfold zR stored;rw [r.any k]
 by_cases e:(vs.any fun kv=>decide (kv.1=k))=true
 ·rw [if_pos e,if_pos e];exact r.repl k ry
 ·rw [if_neg e,if_neg e];exact Paired.snoc r ⟨rfl,ry⟩
end
variable {w:World}
theorem wB {P:Program} {k:kQ} {u:Value} (r:RelV (kV k) u):(zM P w).is k u=true:=by
 cases k with
 |inl i=>obtain ⟨t,e⟩:=(show ∃t,u=Value.int i t from r);subst e;exact NQ P w i t
 |inr x=>obtain ⟨t,e⟩:=(show ∃t,u=Value.str x t from r);subst e;exact NP P w x t
theorem BT {P:Program} {w:World}:∀{ks:List kQ} {us:List Value},Vals (ks.map kV) us→ItemsAre (zM P w) ks us
 |[],_,r=>by rw [List.map_nil] at r;cases r;exact .nil
 |k::ks,_,r=>by
  rw [fi] at r;cases r with
  |cons h t=>exact .cons (wB h) (BT t)
abbrev KT (H:Hp):List (List kQ×V)→List (List kQ×Addr×Value)→Prop:=Paired fun p q=>p.1=q.1∧H q.2.1=some (.tup (p.1.map kV))∧RelV p.2 q.2.2
variable {H:Hp}
theorem KT.val {kvs:List (List kQ×V)} {xs:List (List kQ×Addr×Value)} (r:KT H kvs xs) (k:List kQ):RelO (vW kvs k) ((atKey xs k).map (·.2)):=by
 induction r with
 |nil=>exact True.intro
 |@cons p q ps qs h t ih =>
  obtain ⟨h1,_,h2⟩:=h
  by_cases e:p.1=k
  ·have e':q.1=k:=h1.symm.trans e;have b:atKey (q::qs) k=some q.2:=by simp [atKey,gc,e']
   rw [bI e,b];exact h2
  ·have e':¬q.1=k:=fun z=>e (h1.trans z)
   have b:atKey (q::qs) k=atKey qs k:=by simp [atKey,gc,e']
   rw [zA e,b];exact ih
section
variable {P:Program} {w:World} {H:Hp} {h:Heap} {a:Addr}
theorem E6 {u:HO} (ok:HOk P w H h) (e:Rd H a u):ObjOk P w H h a u:=e.ok ok
theorem wG {kvs:List (kQ×V)} (ok:HOk P w H h) (e:Rd H a (.dK kvs)):kvs.length≤sizeLine∧(a == sysModules)=false∧∃vs,KV kvs vs∧h.DictOf (zM P w) a vs :=
 show ObjOk P w H h a (.dK kvs) from E6 ok e
theorem VY {kvs:List (kQ×V)} (ok:HOk P w H h) (e:H a=some (.dK kvs)):kvs.length≤sizeLine∧(a == sysModules)=false∧∃vs,KV kvs vs∧h.DictOf (zM P w) a vs:=wG ok (.inl e)
theorem EQ {ks:List kQ} (ok:HOk P w H h) (e:H a=some (.tup (ks.map kV))):(tupleKind (zM P w)).is h ks a:=by
 obtain ⟨_,its,r,o,h1,h2,n,h3⟩:=(show ObjOk P w H h a (.tup (ks.map kV)) from ok a _ e);exact ⟨o,its.toArray,n,h1,h2,h3,by simpa using BT r⟩
theorem FE {kvs:List (List kQ×V)} (ok:HOk P w H h) (e:Rd H a (.dT kvs)):kvs.length≤sizeLine∧(a == sysModules)=false∧
  ∃xs,KT H kvs xs∧h.DictOfH (tupleKind (zM P w)) a xs:=by
 obtain ⟨z,y,xs,r,o,es,ep,h1,h2,h3,h4,h5⟩:=(show ObjOk P w H h a (.dT kvs) from E6 ok e);refine ⟨z,y,xs,r,o,es,ep,h1,h2,h3,h4,fun x hx=>?_,h5⟩;have all:∀{l:List (List kQ×V)} {m:List (List kQ×Addr×Value)},KT H l m→∀x∈m,(tupleKind (zM P w)).is h x.1 x.2.1:=by
  intro l m q
  induction q with
  |nil=>intro x hx;exact nomatch hx
  |@cons p q ps qs hq t ih =>
   intro x hx
   rcases aq.mp hx with e|hx
   ·subst e;exact EQ ok (by rw [← hq.1];exact hq.2.1)
   ·exact ih x hx
 exact all r x hx
end
def DGet (H:Hp) (a:Addr) (y:V) (r:Option V):Prop :=
 (∃kvs k,Rd H a (.dK kvs)∧y=kV k∧r=vW kvs k)∨∃kvs k b,Rd H a (.dT kvs)∧y=.ref b∧H b=some (.tup (k.map kV))∧r=vW kvs k
theorem DGet.k {a:Addr} {kvs:List (kQ×V)} {k:kQ} (e:H a=some (.dK kvs)):DGet H a (kV k) (vW kvs k):=.inl ⟨kvs,k,.inl e,rfl,rfl⟩
section
variable {X:Cx} {pins:List (Addr×Obj)} {σ:St} {H:Hp} {s:Shared} {a:Addr} {y v:V} {u r:Value} {o:Option V} {A:Around} {E:Value→Shared→Prop}
theorem Inv.big (I:Inv X pins σ H s):sysModules<s.heap.objs.size:=by
 have h:mainGlobals<s.heap.objs.size:=(I.mod.glob.keeps I.bk).lt;exact Nat.lt_trans (by decide) h
theorem PV {Q:Value→Shared→Prop} (hu:A.units+1<cLine) (I:Inv X pins σ H s) (g:DGet H a y (some v)) (ry:RelV y u) (h:∀w' s',Inv X pins σ H s'→RelV v w'→Q w' s') :
  wpAny (model X.prog X.w) A (getItem (.ref a) u) Q E s:=by
 rcases g with ⟨kvs,k,e,ey,l⟩|⟨kvs,k,b,e,ey,eb,l⟩
 ·subst ey;obtain ⟨z,hd,vs,rel,dd⟩:=wG I.hok e;obtain ⟨w',hw,rw'⟩:=RelO.some_of (v:=v) (o:=valueAt vs k) (by rw [l];exact rel.val k);exact wpAny_getItem_of (wB ry) dd.mapOf hw (h w' _ (I.tok _) rw')
 ·subst ey;cases (show u=Value.ref b from ry);obtain ⟨z,hd,xs,rel,dd⟩:=FE I.hok e;obtain ⟨w',hw,rw'⟩:=RelO.some_of (v:=v) (o:=(atKey xs k).map (·.2)) (by rw [l];exact rel.val k);obtain ⟨p,hp,hp2⟩:=aW.mp hw;refine wpAny_getItem_heap (tupleKind_room_in1 hu) (EQ I.hok eb) dd hp ?_;rw [hp2];exact h w' _ (I.tok _) rw'
theorem T2 {h':Heap} {t':Nat} {ob:HO} (I:Inv X pins σ H s) (mu:gH (H a)) (hs:Heap.SameBut a s.heap h') (he:∃q,h'.get? a=some q) (new:ObjOk X.prog X.w (upd H a ob) h' a ob) :
  Inv X pins σ (upd H a ob) {s with heap:=h',toks:=t'} :=
 I.write (x:=a) (e:=a) mu (.inl rfl) (fun b q hb z=>(hs.2 b hb).trans z) he new
theorem U4 {P:Program} {w:World} {H':Hp} {h':Heap} {kvs:List (kQ×V)} {vs:List (kQ×Value)} (z:kvs.length≤sizeLine) (hd:(a == sysModules)=false) (rel:KV kvs vs) (dd:h'.DictOf (zM P w) a vs) :
  ObjOk P w H' h' a (.dK kvs):=⟨z,hd,vs,rel,dd⟩
end
section
variable {X:Cx} {pins:List (Addr×Obj)} {σ:St} {H:Hp} {s:Shared} {a:Addr} {kvs:List (kQ×V)} {k:kQ} {u:Value} {A:Around} {E:Value→Shared→Prop}
end
def FV (i:Expr):Prop:=∀ov iv,subscripted i false ov iv=operate [ov,iv] (getItem ov iv)
variable {pos:Pos}
theorem SI {prog:Program} {A:Around} {E:Value→Shared→Prop} {s:Shared} {env:Env} {value slice:Expr} {T id:String} {Q:Value→Shared→Prop}
  (hl:typeLookup (.type T) "__getitem__"=pure (some (.builtin id))) (hs:FV slice)
  (h:wpAny (model prog w) A (eval value env) (fun o s₁=>wpAny (model prog w) A (eval slice env) (fun i s₂=>s₂.TypeIs o T∧wpAny (model prog w) A (getItem o i) Q E s₂) E s₁) E s) :
  wpAny (model prog w) A (eval (.Subscript value slice pos) env) Q E s:=by
 refine Subscript_ (cc h (fun o s₁ h₁=>cc h₁ (fun i s₂ h₂=>?_) fun _ _ x=>x) fun _ _ x=>x);obtain ⟨hT,h₂⟩:=h₂;unfold subscriptTail;refine ag ?_;rw [getitemInPython_of_ne hT.not_modules];refine ag (wpAny_specialOf hT hl ?_);have fin:wpAny (model prog w) A (subscripted slice false o i) (fun r s₃=>wpAny (model prog w) A (letTemporaryGo value o r >>= fun _=>pure r) Q E s₃) E s₂:=by
  rw [hs o i];exact wpAny_operating (cc h₂ (fun r s₃ h₃=>ag (wpAny_letTemporaryGo (aQ h₃))) fun _ _ x=>x)
 first
  |exact aQ (ag fin)
  |exact ag (aQ (ag fin))
  |exact ag fin
variable {X:Cx}
theorem NU {pins:List (Addr×Obj)} {σ:St} {s:Shared} {a:Addr} {y:V} {o:Option V} (I:Inv X pins σ H s) (g:DGet H a y o):s.TypeIs (.ref a) "dict":=by
 rcases g with ⟨kvs,k,e,_,_⟩|⟨kvs,k,b,e,_,_,_⟩
 ·obtain ⟨_,_,vs,_,dd⟩:=wG I.hok e;exact dd.typeIs
 ·obtain ⟨_,_,xs,_,dd⟩:=FE I.hok e;exact dd.typeIs
def VC (td ty:TE):TE:=fun σ H Q=>td σ H fun x H1=>ty σ H1 fun y H2=>∃a v,x=.ref a∧DGet H2 a y (some v)∧Q v H2
section
variable {X:Cx} {o i e value:Expr} {pos pos' tpos:Pos} {td ty tv:TE}
theorem DR (hu:X.A.units+1<cLine) (ho:PE X o td) (hi:PE X i ty) (hs:FV i):PE X (.Subscript o i pos) (VC td ty):=by
 intro pins s σ H Q I h;refine SI PySem.F.slot_dict_getitem.lookup hs (jW (ho pins s σ H _ I h) fun u s1 ⟨x,H1,I1,rx,q1⟩=>jW (hi pins s1 σ H1 _ I1 q1) fun iv s2 ⟨y,H2,I2,ry,a,v,ex,g,q2⟩=>?_);subst ex;obtain rfl:u=Value.ref a:=rx;exact ⟨NU I2 g,PV hu I2 g ry fun w' s3 I3 rw'=>⟨v,H2,I3,rw',q2⟩⟩
end
theorem R9 {P:Program} (h:Heap) (hb:sysModules<h.objs.size):ObjOk P w H (h.push {cls:=.type "dict",data:=.dict #[]}) h.objs.size (.dK []) :=
 ⟨aO _,cp.mpr (Ne.symm (aP hb)),[],.nil,Heap.DictOf.new h⟩
section
variable {X:Cx} {pos:Pos}
end
def uL:List (TE×TE)→St→Hp→(List (V×V)→Hp→Prop)→Prop
 |[],_,H,Q=>Q [] H
 | (tk,tv)::r,σ,H,Q=>tk σ H fun x H1=>tv σ H1 fun y H2=>uL r σ H2 fun ps H3=>Q ((x,y)::ps) H3
abbrev VV:List (V×V)→List (Value×Value)→Prop:=Paired fun p q=>RelV p.1 q.1∧RelV p.2 q.2
def m6 (X:Cx) (pos:Pos) (keys:List (Option Expr)) (values:List Expr) (trs:List (TE×TE)):Prop :=
 ∀(pins:List (Addr×Obj)) (s:Shared) (σ:St) (H:Hp) (Q:List (V×V)→Hp→Prop),Inv X pins σ H s→uL trs σ H Q→
  wpAny (model X.prog X.w) X.A (evalPairs (pairTrees keys values X.env pos)) (fun vs s'=>∃ps H',Inv X pins σ H' s'∧VV ps vs∧Q ps H') X.xe s
theorem SS:m6 X pos [] [] []:=fun pins s σ H Q I h=>pairTrees_nil_walk ⟨[],H,I,.nil,h⟩
theorem lA {k v:Expr} {ks:List (Option Expr)} {vs:List Expr} {tk tv:TE} {trs:List (TE×TE)} (hk:PE X k tk) (hv:PE X v tv) (hr:m6 X pos ks vs trs) :
  m6 X pos (some k::ks) (v::vs) ((tk,tv)::trs):=fun pins s σ H Q I h =>
 pairTrees_cons_walk (jW (hk pins s σ H _ I h) fun u s1 ⟨x,H1,I1,rx,q1⟩=>jW (hv pins s1 σ H1 _ I1 q1) fun w2 s2 ⟨y,H2,I2,ry,q2⟩ =>
  jW (hr pins s2 σ H2 _ I2 q2) fun ws s3 ⟨ps,H3,I3,rel,q3⟩=>⟨(x,y)::ps,H3,I3,.cons ⟨rx,ry⟩ rel,q3⟩)
def dI (kvs more:List (kQ×V)):List (kQ×V):=more.foldl (fun acc kv=>zR acc kv.1 kv.2) kvs
theorem KV.merge:∀{more:List (kQ×V)} {rs:List (kQ×Value)} {kvs:List (kQ×V)} {vs:List (kQ×Value)},KV more rs→KV kvs vs→KV (dI kvs more) (merged vs rs):=by
 intro more rs kvs vs r;unfold KV at r
 induction r generalizing kvs vs with
 |nil=>intro q;exact q
 |@cons p q ps qs h t ih =>
  intro r0;have e:KV (zR kvs p.1 p.2) (stored vs q.1 q.2):=by
   have:=r0.put p.1 h.2;rw [← h.1];exact this
  exact ih e
theorem AA:∀(more kvs:List (kQ×V)),(dI kvs more).length≤kvs.length+more.length
 |[],kvs=>by show kvs.length≤kvs.length+0;omega
 |p::r,kvs=>by
  have h1:=AA r (zR kvs p.1 p.2);have h2:=NT kvs p.1 p.2;show (dI (zR kvs p.1 p.2) r).length≤_;rw [bz];omega
theorem AW {P:Program} {w:World}:∀{kvs:List (kQ×V)} {ws:List (Value×Value)},VV (kvs.map fun kv=>(kV kv.1,kv.2)) ws→∃rs,Carries (zM P w) ws rs∧KV kvs rs
 |[],_,r=>by rw [List.map_nil] at r;cases r;exact ⟨[],True.intro,.nil⟩
 |p::kvs,_,r=>by
  rw [fi] at r;cases r with
  |@cons a b as bs h t =>
   obtain ⟨rs,c,q⟩:=AW (P:=P) (w:=w) t;obtain ⟨b1,b2⟩:=b;exact ⟨(p.1,b2)::rs,⟨wB h.1,rfl,c⟩,.cons ⟨rfl,h.2⟩ q⟩
def VB (trs:List (TE×TE)):TE:=fun σ H Q=>∀p,H p=none→uL trs σ (upd H p (.dK [])) fun ps H2=>H2 p=some (.dK [])∧∃kvs:List (kQ×V),ps=kvs.map (fun kv=>(kV kv.1,kv.2))∧kvs.length≤15∧Q (.ref p) (upd H2 p (.dK (dI [] kvs)))
theorem SY {keys:List (Option Expr)} {values:List Expr} {trs:List (TE×TE)} (h:m6 X pos keys values trs) (hall:keys.all (·.isSome)=true) (hl:keys.length=values.length) (h0:keys≠[])
  (h15:keys.length≤15):PE X (.Dict keys values pos) (VB trs):=by
 intro pins s σ H Q I q;have hn:=I.hok.fresh (aj s.heap.objs.size);have I1:=I.laid (a:=s.heap.objs.size) (o:=.dK []) (h':=s.heap.push {cls:=.type "dict",data:=.dict #[]}) (t':=s.toks) (fun _ _ q=>ak _ q) (aj _) (R9 s.heap I.big);refine wpAny_Dict_walk (knd:=zM X.prog X.w) hall hl h0 h15 (jW (h pins _ σ _ _ I1 (q _ hn)) fun ws s2 ⟨ps,H2,I2,rel,e,kvs,ep,lk,q2⟩=>?_);subst ep;obtain ⟨rs,c,rk⟩:=AW (P:=X.prog) (w:=X.w) rel;obtain ⟨z,hd,vs0,r0,dd⟩:=VY I2.hok e;cases r0;refine ⟨rs,c,dd,fun h' dd' hs=>⟨.ref s.heap.objs.size,_,?_,rfl,q2⟩⟩;have hz:(dI [] kvs).length≤sizeLine:=by
  have h1:=AA kvs [];rw [List.length_nil] at h1;rw [sizeLine_eq];omega
 have he:∃q,h'.get? s.heap.objs.size=some q:=let ⟨q,_,_,hq,_⟩:=dd';⟨q,hq⟩
 exact T2 I2 (by rw [e];exact True.intro) hs he (U4 hz hd (rk.merge .nil) dd')
end L2
namespace L2
open PySem PySem.Spec PyProof.Rows
section
variable {X:Cx} {tg:Expr}
end
section
variable {X:Cx}
end
inductive Kd where
 |plain|basin|pump
structure MeK (P:Program) (w:World) (K:PySem.W.Frag) (mg:Str→Option Value) (base:Heap) (k:Nat) (cs:Kd→Addr) (m:Str) (ps:List Str) (ss:Kd→Sp):Prop where
 ex:∀kd,MeD P w K mg base k (cs kd) m ps (ss kd)
def UB (cs:Kd→Addr) (m:Str) (ss:Kd→Sp) (ta:TE) (t:TA):TE:=fun σ H Q=>ta σ H fun x H1=>∃(kd:Kd) (a dx:Addr) (fs:List (Str×V)),x=.ref a∧H1 a=some (.ins (cs kd) dx fs)∧fs.lookup m=none∧
 t σ H1 fun vs H2=>ss kd (x::vs) H2 Q E0
section
variable {X:Cx} {k k':Nat} {x m:Str} {cs:Kd→Addr} {ps:List Str} {ss:Kd→Sp} {p pos apos:Pos} {o e:Expr} {es:List Expr} {ta:TE} {t:TA}
theorem E7 {pl:Sem Bool} (M:MeK X.prog X.w X.K X.mg X.base k cs m ps ss) (hr:Room k' X.A) (ho:PE X o ta) (ha:PA X (e::es) t) (hk:k≤k':=by decide)
  (hst:starEach (e::es) X.env=(false,eval e X.env)::starEach es X.env:=by rfl) (hpl:(backTo pos (starEach es X.env)).any (·.1)=false:=by rfl)
  (ht:eval (.Call (.Attribute o m apos) (e::es) [] pos) X.env=(do
   let ov ← eval o X.env
   standAt apos.atName
   let (f,first) ← holding [ov] (getMethod ov m pl)
   callWith pos f first (backTo pos (starEach (e::es) X.env)) (backToKw pos (keywordEach [] X.env))):=by rfl) :
  PE X (.Call (.Attribute o m apos) (e::es) [] pos) (UB cs m ss ta t):=by
 intro pins s σ H Q I h;refine eh (pl:=pl) (jW (ho pins s σ H _ I h) fun u s1 ⟨x,H1,I1,rx,kd,a,dx,fs,ex,ea,l,q⟩=>?_) ht;obtain ⟨c,f,fd,hm,G,b⟩:=(M.ex kd).ex;subst ex;obtain rfl:u=Value.ref a:=rx;refine iT I1 ea c hm l ?_;refine cv (first:=[.ref a]) (h₀:=X.base) I.ok.mod.kin hm.kp (jW (ha pos pins s1 σ H1 _ I1 q) fun us s2 ⟨vs,H2,I2,r,q2⟩=>⟨I2.kIn,?_⟩) hst hpl;exact fO (us:=.ref a::us) (vs:=.ref a::vs) (dvs:=[]) G (hr.mono hk) b .nil dQ I2 (.cons rfl r) (by rw [bo];exact q2)
end
def gI (z:Str):It:=⟨fun i _=>i<z.cps.size,fun i H v H'=>H'=H∧∃c,z.cps[i]?=some c∧v=.str ⟨#[c]⟩,fun i _=>i=z.cps.size⟩
theorem BF {P:Program} {w:World} {K:PySem.W.Frag} {tg:Expr} (it:Addr) (z:Str) (t:Tok) (T:String)
  (W:∀A:Around,A.handled=none→Walks P w A it [it] [it] z.cps.size (SignAt z) (fun i h=>h.IsStrIter it T z t i))
  (hn:["enumerate","zip","dict_itemiterator","dict_reverseitemiterator","odict_iterator","itertools.zip_longest","itertools.pairwise"].contains T=false)
  (hself:∀(A:Around) (i:Nat) (s:Shared) (Q:Value→Shared→Prop) (E:Value→Shared→Prop),s.heap.IsStrIter it T z t i→Q (.ref it) s→wpAny (model P w) A (pyIter (.ref it)) Q E s) :
  Turn P w K tg (gI z) [it] it (fun i h=>h.IsStrIter it T z t i) where
 mem:=by simp
 obj:=fun i h st b hb=>by
  have e:b=it:=by simpa using hb
  subst e;obtain ⟨o,ho,_,hd⟩:=st;exact ⟨o,ho,fun v q=>by rw [hd] at q;cases q⟩
 keep:=fun i h h' st k=>by
  obtain ⟨o,ho,r⟩:=st;exact ⟨o,k it (by simp) o ho,r⟩
 item:=by
  intro X hP hw hK hc i pins s σ H E I hf st hg;subst hP hw hK;obtain ⟨f0,f1,f2,f3,f4,f5⟩:=hf it (by simp);refine (W X.A (I.ok.hd hc)).item i s _ _ hg st fun v h' tk hv st' kk=>?_
  obtain ⟨c,u,hcx,rfl⟩:=hv;have I1:Inv X pins σ H {s with heap:=h',toks:=tk}:=I.turned (fun b o hb e=>kk b o (by simpa using hb) e) f0 f1 f3 f4 f5;have st2:=st';obtain ⟨o,ho,hcl,hd⟩:=st2;exact ⟨_,rfl,mF (s:={s with heap:=h',toks:=tk}) (n:=T) ho hcl hd hn ⟨.str ⟨#[c]⟩,H,I1,⟨u,rfl⟩,⟨rfl,c,hcx,rfl⟩,st',fun b hb=>(hf b hb).1⟩⟩
 done:=by
  intro X hP hw hK hc i pins s σ H E I hf st hg;subst hP hw hK;obtain ⟨f0,f1,f2,f3,f4,f5⟩:=hf it (by simp);have e:i=z.cps.size:=hg;subst e;exact (W X.A (I.ok.hd hc)).done s _ _ st fun h' tk eb=>⟨rfl,I.turned (fun b o hb e=>eb b o (by simpa using hb) e) f0 f1 f3 f4 f5⟩
 self:=fun A i s Q E st h=>hself A i s Q E st h
section
variable {X:Cx} {tg:Expr}
def WK (tl:TE):TI:=fun σ H R=>tl σ H fun x H1=>∃z:Str,x=.str z∧R (gI z) H1
theorem UL {l:Expr} {tl:TE} (hl:PE X l tl):PI X tg l (WK tl):=by
 intro pins s σ H R I h;refine jW (hl pins s σ H _ I h) fun v s1 ⟨x,H1,I1,r1,q1⟩=>?_
 obtain ⟨z,e,q⟩:=q1;subst e;obtain ⟨t,rfl⟩:=r1;have fin:∀(o:Obj) (T:String) (tn:Nat→Heap→Prop),Turn X.prog X.w X.K tg (gI z) [s1.heap.objs.size] s1.heap.objs.size tn→tn 0 (s1.heap.push o)→xD X pins σ tg R (.ref s1.heap.objs.size) {s1 with heap:=s1.heap.push o}:=by
  intro o T tn tu h0;refine ⟨s1.heap.objs.size,[s1.heap.objs.size],tn,_,H1,rfl,I1.kept (t':=s1.toks) fun b o e=>ak _ e,tu,h0,fun b hb=>?_,q⟩;have e:b=s1.heap.objs.size:=by simpa using hb
  subst e;exact I1.fpOk (aj _) (I1.hok.fresh (aj _))
 cases ha:z.cps.all (· < 128)
 ·exact wpAny_pyIter_wide ha (fin _ "str_iterator" _ (BF _ z t "str_iterator" (fun A hA=>Walks.strWide hA _ z t) (by decide) (fun A i s Q E st h=>wpAny_pyIter_striter_wide st h)) ⟨_,az _ rfl,rfl,rfl⟩)
 ·exact wpAny_pyIter_ascii ha (fin _ "str_ascii_iterator" _ (BF _ z t "str_ascii_iterator" (fun A hA=>Walks.strAscii hA _ z t) (by decide) (fun A i s Q E st h=>wpAny_pyIter_striter_ascii st h)) ⟨_,az _ rfl,rfl,rfl⟩)
end
theorem OQ {z:Str} {D:Addr} {g:TG} {tc:TT} {te:TE} {σ₀:St} {H:Hp} {Q:Hp→Prop} (Pv:Nat→St→Hp→Prop) (h0:Pv 0 σ₀ (upd H D (.lst [])))
  (hs:∀i c σ H,z.cps[i]?=some c→Pv i σ H→g (.str ⟨#[c]⟩) σ H fun σ2 H3=>tc σ2 H3 fun b H4=>if b=true then te σ2 H4 fun v H5=>∃ys,H5 D=some (.lst ys)∧ys.length<sizeLine∧Pv (i+1) σ2 (upd H5 D (.lst (ys++[v]))) else Pv (i+1) σ2 H4)
  (hd:∀σ H,Pv z.cps.size σ H→Q H):JA D (gI z) g tc te σ₀ H Q:=by
 refine ⟨fun i m σ H=>m=z.cps.size - i∧i≤z.cps.size∧Pv i σ H,⟨_,rfl,aO _,h0⟩,?_⟩;rintro i m σ H ⟨rfl,hi,p⟩
 by_cases hlt:i<z.cps.size
 ·refine .inr ⟨hlt,Pv (i+1),fun σ' H' p'=>⟨z.cps.size - (i+1),by omega,rfl,hlt,p'⟩,fun x H' y=>?_⟩;obtain ⟨e,c,hc,y⟩:=y;subst e y;exact hs i c σ _ hc p
 ·have e:i=z.cps.size:=by omega
  subst e;exact .inl ⟨rfl,hd σ H p⟩
theorem PZ {z:Str} {D:Addr} {tc:TT} {te:TE} {caps:St} {H:Hp} {Q:Hp→Prop} (R:Nat→List V→Hp→Prop) (hD:H D=none) (h0:R 0 [] (upd H D (.lst [])))
  (hs:∀i c ys Hi,z.cps[i]?=some c→ys.length≤i→Same H Hi→Hi D=some (.lst ys)→R i ys Hi→tc (some (.str ⟨#[c]⟩)::caps) Hi fun b H4=>if b=true then te (some (.str ⟨#[c]⟩)::caps) H4 fun v H5=>∃zs,H5 D=some (.lst zs)∧zs.length<sizeLine∧zD H D caps R (i+1) (some (.str ⟨#[c]⟩)::caps) (upd H5 D (.lst (zs++[v])))
   else zD H D caps R (i+1) (some (.str ⟨#[c]⟩)::caps) H4)
  (hd:∀ys Hf,Same H Hf→Hf D=some (.lst ys)→ys.length≤z.cps.size→R z.cps.size ys Hf→Q Hf):JA D (gI z) (Q4 0) tc te (none::caps) H Q:=by
 refine OQ (zD H D caps R) ⟨[],none,rfl,qA hD (Same.refl H),jE,aj _,h0⟩ ?_ ?_
 ·rintro i c σ Hi hi ⟨ys,c',rfl,s,hY,hl,r⟩;exact hs i c ys Hi hi hl s hY r
 ·rintro σ Hf ⟨ys,c,rfl,s,hY,hl,r⟩;exact hd ys Hf s hY hl r
section
variable {X:Cx}
end
section
variable {X:Cx} {K:PySem.W.Frag} {w:World} {o i:Expr} {pos:Pos} {td ty:TE}
end
theorem DE {K:PySem.W.Frag} {H:Hp} {a:Addr} {o:Obj} {its:List Value} {n:Nat} {xs:List V} (l:K.lookup a=some o) (c:o.cls=.type "tuple") (d:o.data=.seq its.toArray n) (z:its.length≤sizeLine) (v:Vals xs its):SqT K H a xs :=
 .inr ⟨o,its.toArray,n,l,c,d,by rw [ai];exact z,v⟩
inductive DEq (K:PySem.W.Frag) (H:Hp):V→V→Bool→Prop where
 |flat {x y:V} (hx:qR x=true) (hy:qR y=true):DEq K H x y (vL x y)
 |same (a:Addr):DEq K H (.ref a) (.ref a) true
 |tup {a b:Addr} {xs ys:List V} (ne:a≠b) (ha:SqT K H a xs) (hb:SqT K H b ys) (fx:xs.all qR=true) (fy:ys.all qR=true):DEq K H (.ref a) (.ref b) (QO xs ys)
 |lst {a b:Addr} {xs ys:List V} (ne:a≠b) (ha:SqL K H a xs) (hb:SqL K H b ys) (fx:xs.all qR=true) (fy:ys.all qR=true):DEq K H (.ref a) (.ref b) (QO xs ys)
section
variable {X:Cx} {pins:List (Addr×Obj)} {σ:St} {H:Hp} {s:Shared} {A:Around}
theorem DEq.at {x y:V} {u v:Value} {e:Bool} (I:Inv X pins σ H s) (d:DEq X.K H x y e) (rx:RelV x u) (ry:RelV y v) (hu:A.units<cLine):SeqAt.EqAt A s u v e:=by
 cases d with
 |flat hx hy=>exact fT rx ry hx hy
 |same a=>cases rx;cases ry;exact SeqAt.EqAt.same _
 |@tup a b xs ys ne ha hb fx fy =>
  cases rx;cases ry
  obtain ⟨its,r,pl,hz⟩:=I.tuple ha;obtain ⟨its2,r2,pl2,hz2⟩:=I.tuple hb;have hl:=r.length;have hl2:=r2.length;have h:=SeqAt.RcAt.tuples (A:=A) (e:=fun j=>vL (xs.getD j .non) (ys.getD j .non)) pl pl2 hu (fun j h1 h2=>fT (zW r h1) (zW r2 h2) (e9 fx (by rw [hl];simpa using h1)) (e9 fy (by rw [hl2];simpa using h2)));have e:((List.range (min its.toArray.size its2.toArray.size)).all (fun j=>vL (xs.getD j .non) (ys.getD j .non))&&its.toArray.size == its2.toArray.size)=QO xs ys:=by
   unfold QO;rw [ai,ai,← hl,← hl2]
  rw [e] at h;exact fz ne h
 |@lst a b xs ys ne ha hb fx fy =>
  cases rx;cases ry
  obtain ⟨its,r,pl,hz⟩:=I.list ha;obtain ⟨its2,r2,pl2,hz2⟩:=I.list hb;have hl:=r.length;have hl2:=r2.length
  by_cases he:xs.length=ys.length
  ·have h:=SeqAt.RcAt.lists (A:=A) (e:=fun j=>vL (xs.getD j .non) (ys.getD j .non)) pl.isList pl2.isList (by rw [ai,ai,← hl,← hl2,he]) hu (fun j h1 h2=>fT (zW r h1) (zW r2 h2) (e9 fx (by rw [hl];simpa using h1)) (e9 fy (by rw [hl2];simpa using h2)));have e:((List.range its.toArray.size).all (fun j=>vL (xs.getD j .non) (ys.getD j .non)))=QO xs ys:=by
    unfold QO;rw [ai,← hl,← he,Nat.min_self,fo,Bool.and_true]
   rw [e] at h;exact fz ne h
  ·have hf:QO xs ys=false:=by
    unfold QO;rw [show (xs.length == ys.length)=false from cp.mpr he,Bool.and_false]
   rw [hf];exact fz ne (SeqAt.RcAt.lists_lengths pl.isList pl2.isList (by rw [ai,ai,← hl,← hl2];exact bne_iff_ne.mpr he) hu)
end
section
variable {X:Cx}
def UH:V→List V→Hp→VK→Prop:=fun x vs H Q=>∃(l:Addr) (xs:List V) (y:V) (j:Nat),x=.ref l∧vs=[y]∧H l=some (.lst xs)∧qR y=true∧xs.all qR=true∧j<xs.length∧j≤1000∧vL (xs.getD j .non) y=true∧(∀i,i<j→vL (xs.getD i .non) y=false)∧Q (.int (j:Int)) H
theorem RP:nA X "list.index" UH:=by
 intro pins s σ H x vs v us Q I rx rv h;obtain ⟨l,xs,y,j,rfl,rfl,hH,fy,fx,hj,hj2,he,hno,q⟩:=h;cases rx;obtain ⟨u,rfl,ru⟩:=rv.one;obtain ⟨z,its,n,r,hl,e⟩:=I.lstM hH;have get:∀(m:Nat) (hm:m<its.toArray.size),yE y its.toArray[m]=vL (xs.getD m .non) y:=fun m hm=>lR (zW r hm) (e9 fx (by rw [hl];simpa using hm))
 have hjs:j<its.toArray.size:=by rw [ai,← hl];exact hj
 refine gh F.slot_list_index ⟨_,e,rfl⟩ F.entry_list_index (F.args_list_index_2 _ _) (SeqAt.list_indexAt l its.toArray n none #[] u (yE y) j hjs (by omega) (by rw [get j hjs];exact he) (fun m hm hlt=>by rw [get m hm];exact hno m hlt)) ⟨e,fun w hw=>bJ ru fy r fx w (by simpa using hw),⟨.int (j:Int),H,I.tok _,⟨_,rfl⟩,q⟩⟩
end
theorem bC {X:Cx} (K:PySem.W.Frag) (h:X.K=K:=by rfl):yN X (.type "tuple") (fun xs H Q=>∃p ys,xs=[.ref p]∧((SqL K H p ys∧∀l,H l=none→Q (.ref l) (upd H l (.tup ys)))∨(SqT K H p ys∧Q (.ref p) H))):=by subst h;exact NB
section
variable {X:Cx}
end
section
variable {X:Cx} {tg:Expr}
end
theorem BE {K:PySem.W.Frag} {a D:Addr} {xs:List V} {g:TG} {tc:TT} {te:TE} {σ₀:St} {H:Hp} {Q:Hp→Prop} (Pv:Nat→St→Hp→Prop) (h0:Pv 0 σ₀ (upd H D (.lst []))) (hl:∀i σ H,i≤xs.length→Pv i σ H→SqT K H a xs)
    (hs:∀i x σ H,xs[i]?=some x→Pv i σ H→g x σ H fun σ2 H3=>tc σ2 H3 fun b H4=>if b=true then te σ2 H4 fun v H5=>∃ys,H5 D=some (.lst ys)∧ys.length<sizeLine∧Pv (i+1) σ2 (upd H5 D (.lst (ys++[v]))) else Pv (i+1) σ2 H4)
    (hd:∀σ H,Pv xs.length σ H→Q H):JA D (cK K a) g tc te σ₀ H Q:=by
  refine ⟨fun i m σ H=>m=xs.length - i∧i≤xs.length∧Pv i σ H,⟨xs.length,by simp,aO _,h0⟩,?_⟩;rintro i m σ H ⟨rfl,hi,p⟩;have q:=hl i σ H hi p
  by_cases hlt:i<xs.length
  · refine .inr ⟨⟨xs,xs[i],q,by simp [hlt]⟩,Pv (i+1),fun σ' H' p'=>⟨xs.length - (i+1),by omega,rfl,hlt,p'⟩,fun x H' y=>?_⟩
    obtain ⟨e,y⟩:=y;subst e;exact hs i x σ _ (y xs q) p
  · have e:i=xs.length:=by omega
    subst e;exact .inl ⟨⟨xs,q,aj _⟩,hd σ H p⟩
theorem PY {K:PySem.W.Frag} {a D:Addr} {xs:List V} {tc:TT} {te:TE} {caps:St} {H:Hp} {Q:Hp→Prop} (R:Nat→List V→Hp→Prop) (hD:H D=none) (hS:H a=some (.tup xs)) (h0:R 0 [] (upd H D (.lst [])))
  (hs:∀i x ys Hi,xs[i]?=some x→i<xs.length→ys.length≤i→Same H Hi→Hi D=some (.lst ys)→R i ys Hi→tc (some x::caps) Hi fun b H4=>if b=true then te (some x::caps) H4 fun v H5=>∃zs,H5 D=some (.lst zs)∧zs.length<sizeLine∧zD H D caps R (i+1) (some x::caps) (upd H5 D (.lst (zs++[v])))
   else zD H D caps R (i+1) (some x::caps) H4)
  (hd:∀ys Hf,Same H Hf→Hf D=some (.lst ys)→ys.length≤xs.length→R xs.length ys Hf→Q Hf):JA D (cK K a) (Q4 0) tc te (none::caps) H Q:=by
 refine BE (xs:=xs) (zD H D caps R) ⟨[],none,rfl,qA hD (Same.refl H),jE,aj _,h0⟩ (fun i σ Hi _ ⟨_,_,_,s,_⟩=>SqT.of (s _ _ hS)) ?_ ?_
 ·rintro i x σ Hi hx ⟨ys,c,rfl,s,hY,hl,r⟩;exact hs i x ys Hi hx (ad.mp hx).1 hl s hY r
 ·rintro σ Hf ⟨ys,c,rfl,s,hY,hl,r⟩;exact hd ys Hf s hY hl r
section
variable {X:Cx} {pins:List (Addr×Obj)} {σ:List (Option V)} {H:Hp} {s:Shared} {h':Heap}
theorem Inv.turnedN {t':Nat} {fp:List Addr} (I:Inv X pins σ H s) (k:∀b o,b∉fp→s.heap.get? b=some o→h'.get? b=some o) (hf:∀b∈fp,JF X pins H b):Inv X pins σ H {s with heap:=h',toks:=t'}:=by
 have nit:∀b u,H b=some u→b∉fp:=fun b u e z=>by rw [(hf b z).1] at e;cases e
 have hL:X.env.locals∉fp:=fun z=>(hf _ z).2.1 rfl
 refine I.step (g':=s.gens) (d':=s.drawn) (ch:=fp) (fun b hb=>?_) (fun b o _ _ hc e _=>k b o hc e) (fun b o _ _ hc e _=>⟨o.slots,k b o hc e⟩) (fun _ _ _ _ n=>n)
  (fun b o hc e=>⟨o,k b o hc e⟩) (fun _ _ e=>e) (fun _ _ _ e=>e) (fun b ps e=>⟨#[],by rw [e];simp⟩) (fun m hm=>?_) (fun b u e=>?_) I.bare
 ·obtain ⟨f0,f1,f2,f3,f4,f5⟩:=hf b hb;exact ⟨f3,f1,f4,f5⟩
 ·obtain ⟨o,es,ep,ho,r⟩:=hm;exact ⟨o,es,ep,k _ o hL ho,r⟩
 ·refine (I.hok b u e).stay (fun c v hc q=>k c v ?_ q) (fun _ q=>q) fun _ _ q=>q
  rcases hc with z|z
  ·rw [z];exact nit b u e
  ·exact nit c _ z
theorem Inv.laidN {t':Nat} {fp:List Addr} {a:Addr} {o:HO} (I:Inv X pins σ H s) (k:∀b u,b∉fp→s.heap.get? b=some u→h'.get? b=some u) (hf:∀b∈fp,JF X pins H b) (hp:s.heap.objs.size≤a) (new:ObjOk X.prog X.w (upd H a o) h' a o) :
  Inv X pins σ (upd H a o) {s with heap:=h',toks:=t'}:=by
 have hn:=I.hok.fresh hp;have nit:∀b u,H b=some u→b∉fp:=fun b u e z=>by rw [(hf b z).1] at e;cases e
 have hL:X.env.locals∉fp:=fun z=>(hf _ z).2.1 rfl
 refine I.step (g':=s.gens) (d':=s.drawn) (ch:=fp) (fun b hb=>?_) (fun b o _ _ hc e _=>k b o hc e) (fun b o _ _ hc e _=>⟨o.slots,k b o hc e⟩) (fun b u _ e n=>?_)
  (fun b o hc e=>⟨o,k b o hc e⟩) (fun b xs e=>?_) (fun b u v e=>?_) (fun b ps e=>⟨#[],?_⟩) (fun m hm=>?_) (fun b u e=>?_) I.bare
 ·obtain ⟨f0,f1,f2,f3,f4,f5⟩:=hf b hb;exact ⟨f3,f1,f4,f5⟩
 ·rw [jX (aP (ax (ar e) hp))];exact n
 ·rw [jX (kT e hn)];exact e
 ·rw [jX (kT e hn)];exact e
 ·rw [jX (kT e hn),e];simp
 ·obtain ⟨o,es,ep,ho,r⟩:=hm;exact ⟨o,es,ep,k _ o hL ho,r⟩
 ·by_cases hb:b=a
  ·subst hb;rw [jE] at e;cases e;exact new
  ·rw [jX hb] at e;refine (I.hok b u e).stay (fun c v hc q=>k c v ?_ q) (fun c q=>by rw [jX (kT q hn)];exact q) fun c xs q=>by rw [jX (kT q hn)];exact q
   rcases hc with z|z
   ·rw [z];exact nit b u e
   ·exact nit c _ z
end
def gJ (K:PySem.W.Frag) (a:Addr):It :=
 ⟨fun i H=>∃xs x,SqL K H a xs∧xs[i]?=some x,
  fun i H v H'=>∃T x,v=.ref T∧H T=none∧H'=upd H T (.tup [.int (i:Int),x])∧∀xs,SqL K H a xs→xs[i]?=some x,
  fun i H=>∃xs,SqL K H a xs∧xs.length≤i⟩
theorem OT {P:Program} {w:World} {K:PySem.W.Frag} {elts:List Expr} {x1:Nat} {pos:Pos} {a e it:Addr} (hei:e≠it) :
  Turn P w K (.Tuple elts x1 pos) (gJ K a) [e,it] e (fun i h=>(∃old,IsEnum h e it i old)∧h.IsListIter it a i) where
 mem:=by simp
 obj:=fun i h st b hb=>by
  obtain ⟨⟨old,he⟩,⟨o1,e1,c1,d1⟩⟩:=st;simp only [aq,aE,bx] at hb
  rcases hb with rfl|rfl
  ·exact ⟨_,he,fun v y=>by have y':Data.fields _=Data.cell v:=y;cases y'⟩
  ·exact ⟨o1,e1,fun v y=>by rw [d1] at y;cases y⟩
 keep:=fun i h h' st k=>by
  obtain ⟨⟨old,he⟩,h1⟩:=st;exact ⟨⟨old,k _ (by simp) _ he⟩,h1.at fun o e=>k _ (by simp) o e⟩
 item:=by
  intro X hP hw hK hc i pins s σ H E I hf st hg;subst hP hw hK;obtain ⟨⟨old,he⟩,h1⟩:=st;obtain ⟨xs,x,hq1,hx⟩:=hg;obtain ⟨its1,rv1,p1,_⟩:=I.list hq1;obtain ⟨u,hu,ru⟩:=rv1.get hx;refine wpAny_pyNext_enum_item he h1 p1.isList (x:=u) (by simpa using hu) hei fun h' he' h1' hT' hsz hk=>?_
  refine ⟨_,rfl,?_⟩;refine wpAny_letOwnedTupleGo_enum he' fun h2 he2 hs2=>?_
  have lt:∀{b:Addr} {o:Obj},s.heap.get? b=some o→b<s.heap.objs.size:=fun e=>ar e
  have nT:s.heap.objs.size≠e:=fg (lt he);have k2:∀b o,b∉[e,it]→s.heap.get? b=some o→h2.get? b=some o:=fun b o hb q=>by
   simp only [aq,aE,bx,not_or] at hb;exact (hs2.2 b hb.1).trans (hk b o hb.1 hb.2 q)
  have hT2:=(hs2.2 _ nT).trans hT';refine ⟨.ref s.heap.objs.size,upd H s.heap.objs.size (.tup [.int (i:Int),x]),I.laidN (t':=s.toks+1) (fp:=[e,it]) k2 hf (aj _) ⟨(by show 2≤sizeLine;decide),[.int i s.toks,u],.cons ⟨_,rfl⟩ (.cons ru .nil),⟨_,hT2,rfl,_,rfl⟩⟩,rfl,?_,?_,?_⟩
  ·exact ⟨_,x,rfl,I.hok.fresh (aj _),rfl,fun zs hzs=>by rw [I.list_inj hzs hq1];exact hx⟩
  ·exact ⟨⟨_,he2⟩,h1'.at fun o q=>(hs2.2 _ hei.symm).trans q⟩
  ·intro b hb;have:=(hf b hb).1;rw [jX]
   ·exact this
   ·intro q;simp only [aq,aE,bx] at hb;obtain ⟨o1,e1,_⟩:=h1
    rcases hb with rfl|rfl
    ·exact nT q.symm
    ·exact aP (lt e1) q
 done:=by
  intro X hP hw hK hc i pins s σ H E I hf st hg;subst hP hw hK;obtain ⟨⟨old,he⟩,h1⟩:=st;obtain ⟨xs,hq1,hx⟩:=hg;obtain ⟨its1,rv1,p1,_⟩:=I.list hq1;have l1:=rv1.length;refine wpAny_pyNext_enum_end (I.ok.hd hc) he h1 p1.isList (by simp;omega) fun h' hk=>⟨rfl,I.turnedN (t':=s.toks) (fp:=[e,it]) (fun b o hb q=>?_) hf⟩
  simp only [aq,aE,bx,not_or] at hb;exact hk b o hb.2 q
 self:=fun _ _ _ _ _ st h=>by obtain ⟨⟨old,he⟩,_⟩:=st;exact ia he h
section
variable {X:Cx} {elts:List Expr} {x1:Nat} {tpos:Pos}
def VU (K:PySem.W.Frag) (ta:TA):TI:=fun σ H R=>ta σ H fun vs H1=>∃a,vs=[.ref a]∧(∃xs,SqL K H1 a xs)∧R (gJ K a) H1
theorem SV {a:Expr} {ta:TA} {p pos:Pos} (hg:Gl X "enumerate") (hm:X.mg "enumerate"=none) (ha:PA X [a] ta) (hs:starEach [a] X.env=[(false,eval a X.env)]:=by rfl) :
  PI X (.Tuple elts x1 tpos) (.Call (.Name "enumerate" p) [a] [] pos) (VU X.K ta):=by
 intro pins s σ H R I h;refine Call_ (bR I hg hm boot_enumerate (cu (jW (ha pos pins s σ H _ I h) fun us s1 ⟨vs,H1,I1,r1,q1⟩=>?_) hs rfl));obtain ⟨a1,e,⟨xs,hq1⟩,q⟩:=q1;subst e;cases r1 with
 |cons r rr =>
  cases rr;cases r;obtain ⟨its1,rv1,p1,_⟩:=I1.list hq1;refine call_enumerate_list p1.isList fun h' he hit hsz hk=>?_
  refine ia he ?_;refine ⟨_,_,_,_,H1,rfl,I1.kept (t':=s1.toks) hk,OT (Nat.succ_ne_self _),⟨⟨_,he⟩,hit⟩,fun b hb=>?_,q⟩;simp only [aq,aE,bx] at hb;have hb':s1.heap.objs.size≤b:=by rcases hb with rfl|rfl<;>simp only [Addr] at *<;>omega
  exact I1.fpOk hb' (I1.hok.fresh hb')
theorem RZ {K:PySem.W.Frag} {a:Addr} {xs:List V} {g:TG} {tb:TS} {D:Ends} {σ:St} {H:Hp} (P:Nat→St→Hp→Prop) (h0:P 0 σ H) (hl:∀i σ H,i≤xs.length→P i σ H→SqL K H a xs)
  (step:∀i x σ H T,xs[i]?=some x→P i σ H→H T=none→g (.ref T) σ (upd H T (.tup [.int (i:Int),x])) fun σ2 H2=>tb {D with nx:=P (i+1),ct:=P (i+1),bk:=D.nx} σ2 H2) (done:∀σ H,P xs.length σ H→D.nx σ H) :
  ∃W:Nat→Nat→St→Hp→Prop,(∃m,W 0 m σ H)∧∀i m σ H,W i m σ H→((gJ K a).stop i H∧D.nx σ H)∨((gJ K a).go i H∧∃N:St→Hp→Prop,(∀σ' H',N σ' H'→∃m',m'<m∧W (i+1) m' σ' H')∧∀x H',(gJ K a).yld i H x H'→g x σ H' fun σ2 H2=>tb {D with nx:=N,ct:=N,bk:=D.nx} σ2 H2):=by
 refine ⟨fun i m σ H=>i≤xs.length∧m=xs.length - i∧P i σ H,⟨_,aO _,rfl,h0⟩,fun i m σ H w=>?_⟩;obtain ⟨hi,hm,p⟩:=w;have q1:=hl i σ H hi p
 by_cases e:i=xs.length
 ·refine .inl ⟨⟨xs,q1,by omega⟩,done σ H (e▸p)⟩
 ·have l1:i<xs.length:=by omega
  refine .inr ⟨⟨xs,_,q1,aa l1⟩,P (i+1),fun σ' H' n=>⟨_,by omega,by omega,rfl,n⟩,fun v H' hy=>?_⟩;obtain ⟨T,x,rfl,hT,rfl,h1⟩:=hy;exact step i x σ H T (h1 xs q1) p hT
end
section
variable {X:Cx}
end
section
variable {prog:Program} {w:World} {A:Around} {s:Shared} {E:Value→Shared→Prop}
theorem AR {j p:Addr} {i:Nat} {vs:Array Value} {v:Value} {Q:Value→Shared→Prop} (hj:s.heap.IsTupleIter j p i) (hp:s.heap.IsTuple p vs) (hv:vs[i]?=some v) (q:∀h',h'.IsTupleIter j p (i+1)→Heap.SameBut j s.heap h'→Q v {s with heap:=h'}):wpAny (model prog w) A (Builtin.SmallTypes.nextOf (.ref j)) Q E s:=by
 obtain ⟨oj,ej,cj,dj⟩:=id hj;obtain ⟨op,ep,_,np,dp⟩:=hp;unfold Builtin.SmallTypes.nextOf
 refine ag (dg (name:=Str.ofString "__next__") hj.typeIs dk (gl dk hj.typeIs F.entry_tuple_iterator_next ?_ (F.args_tuple_iterator_next_1 _)));show wpAny _ _ (field (.ref j) 0 >>= _) _ _ s;refine ag (cg ej dj (x:=.ref p) rfl ?_);show wpAny _ _ (if (Value.ref p == Value.none)=true then _ else _) _ _ s;rw [if_neg (show ¬((Value.ref p == Value.none)=true) from aB)];show wpAny _ _ (field (.ref j) 1 >>= _) _ _ s;refine ag (cg ej dj (x:=.int i 0) rfl ?_);show wpAny _ _ (seqItems? (.ref p) >>= _) _ _ s;refine ag (eo ep dp ?_);simp only [ay,hv];refine ag (wpAny_setField ej dj (by simp) (aQ ⟨v,rfl,aQ (q _ ?_ (Heap.SameBut.update ..))⟩));exact ⟨_,ig _ ej (Obj.isFreed_of_fields (hV dj _)),(Obj.cls_mapFields ..).trans cj,by rw [hV dj];simp [rawInt]⟩
theorem tD {j p:Addr} {i:Nat} {vs:Array Value} {Q:Value→Shared→Prop} (hh:A.handled=none) (hj:s.heap.IsTupleIter j p i) (hp:s.heap.IsTuple p vs) (hv:vs[i]?=none)
  (q:∀h' e,Heap.ExtBut j s.heap h'→(∃o,h'.get? e=some o∧o.cls=.type "StopIteration")→E (.ref e) {s with heap:=h'}):wpAny (model prog w) A (Builtin.SmallTypes.nextOf (.ref j)) Q E s:=by
 obtain ⟨oj,ej,cj,dj⟩:=id hj;obtain ⟨op,ep,_,np,dp⟩:=hp;unfold Builtin.SmallTypes.nextOf
 refine ag (dg (name:=Str.ofString "__next__") hj.typeIs dk (gl dk hj.typeIs F.entry_tuple_iterator_next ?_ (F.args_tuple_iterator_next_1 _)));show wpAny _ _ (field (.ref j) 0 >>= _) _ _ s;refine ag (cg ej dj (x:=.ref p) rfl ?_);show wpAny _ _ (if (Value.ref p == Value.none)=true then _ else _) _ _ s;rw [if_neg (show ¬((Value.ref p == Value.none)=true) from aB)];show wpAny _ _ (field (.ref j) 1 >>= _) _ _ s;refine ag (cg ej dj (x:=.int i 0) rfl ?_);show wpAny _ _ (seqItems? (.ref p) >>= _) _ _ s;refine ag (eo ep dp ?_);simp only [ay,hv];refine ag (wpAny_rule (ag (wpAny_setField ej dj (by simp) ?_)));refine ag ?_
 simp only [newExc,newTuple];refine ag (ib ?_ (by size_fits))
 refine ag (m:=firstArgMember _ _) (wpAny_of_eq (a:=Value.none) (by first|rfl|(simp only [firstArgMember];rfl)) ?_);refine ib ?_ (by size_fits)
 simp only [raiseNew];refine ag (wpAny_handled ?_);(first|rw [show A.in1.handled=none from hh]|rw [hh])
 refine ag (aQ (wpAny_throw ?_));exact q _ _ (((Heap.SameBut.update ..).extBut.push _).push _) ⟨_,az _ rfl,rfl⟩
end
structure SqK where
 c:String
 It:Heap→Addr→Addr→Nat→Prop
 Sq:Heap→Addr→Array Value→Prop
 R:PySem.W.Frag→Hp→Addr→List V→Prop
structure SqK.Ok (S:SqK):Prop where
 at_:∀{h h':Heap} {j a:Addr} {k:Nat},S.It h j a k→(∀o,h.get? j=some o→h'.get? j=some o)→S.It h' j a k
 sq:∀{h h':Heap} {a:Addr} {us:Array Value},S.Sq h a us→(∀o,h.get? a=some o→h'.get? a=some o)→S.Sq h' a us
 ob:∀{h:Heap} {j a:Addr} {k:Nat},S.It h j a k→∃o,h.get? j=some o∧∀v,o.data≠.cell v
 lt:∀{h:Heap} {a:Addr} {us:Array Value},S.Sq h a us→∃o,h.get? a=some o
 mk0:∀{h:Heap} {j a:Addr},h.get? j=some {cls:=.type S.c,data:=.fields #[.ref a,.int 0 0]}→S.It h j a 0
 item:∀{prog:Program} {w:World} {A:Around} {s:Shared} {E:Value→Shared→Prop} {j p:Addr} {i:Nat} {vs:Array Value} {v:Value} {Q:Value→Shared→Prop},S.It s.heap j p i→S.Sq s.heap p vs→vs[i]?=some v→(∀h',S.It h' j p (i+1)→Heap.SameBut j s.heap h'→Q v {s with heap:=h'})→wpAny (model prog w) A (Builtin.SmallTypes.nextOf (.ref j)) Q E s
 fin:∀{prog:Program} {w:World} {A:Around} {s:Shared} {E:Value→Shared→Prop} {j p:Addr} {i:Nat} {vs:Array Value} {Q:Value→Shared→Prop},A.handled=none→S.It s.heap j p i→S.Sq s.heap p vs→vs[i]?=none→(∀h' e,Heap.ExtBut j s.heap h'→(∃o,h'.get? e=some o∧o.cls=.type "StopIteration")→E (.ref e) {s with heap:=h'})→wpAny (model prog w) A (Builtin.SmallTypes.nextOf (.ref j)) Q E s
 rel:∀{X:Cx} {pins:List (Addr×Obj)} {σ:St} {H:Hp} {s:Shared} {a:Addr} {xs:List V},Inv X pins σ H s→S.R X.K H a xs→∃its:List Value,Vals xs its∧S.Sq s.heap a its.toArray
 inj:∀{X:Cx} {pins:List (Addr×Obj)} {σ:St} {H:Hp} {s:Shared} {a:Addr} {xs ys:List V},Inv X pins σ H s→S.R X.K H a xs→S.R X.K H a ys→xs=ys
def sqL:SqK:=⟨"list_iterator",Heap.IsListIter,Heap.IsList,SqL⟩
def sqT:SqK:=⟨"tuple_iterator",Heap.IsTupleIter,Heap.IsTuple,SqT⟩
theorem EE:sqL.Ok:=⟨fun h k=>Heap.IsListIter.at h k,fun ⟨o,e,c⟩ k=>⟨o,k o e,c⟩,fun ⟨o,e,c,d⟩=>⟨o,e,fun v y=>by rw [d] at y;cases y⟩,fun ⟨o,e,_⟩=>⟨o,e⟩,fun e=>⟨_,e,rfl,rfl⟩,fun n l h q=>wpAny_nextOf_list_item n l h q,fun hh n l h q=>wpAny_nextOf_list_end hh n l h q,fun I h=>by obtain ⟨its,r,p,_⟩:=I.list h;exact ⟨its,r,p.isList⟩,fun I h h'=>I.list_inj h h'⟩
theorem ED:sqT.Ok:=⟨fun h k=>Heap.IsTupleIter.at h k,fun ⟨o,e,c⟩ k=>⟨o,k o e,c⟩,fun ⟨o,e,c,d⟩=>⟨o,e,fun v y=>by rw [d] at y;cases y⟩,fun ⟨o,e,_⟩=>⟨o,e⟩,fun e=>⟨_,e,rfl,rfl⟩,fun n l h q=>AR n l h q,fun hh n l h q=>tD hh n l h q,fun I h=>by obtain ⟨its,r,p,_⟩:=I.tuple h;exact ⟨its,r,p⟩,fun I h h'=>I.tuple_inj h h'⟩
section
variable {S1 S2:SqK}
section
variable (O1:S1.Ok) (O2:S2.Ok) {prog:Program} {w:World} {A:Around} {s:Shared} {E:Value→Shared→Prop}
include O1 O2
theorem OP {z P1 P2 j1 j2 a b:Addr} {k:Nat} {us vs:Array Value} {u v g g':Value} {Q:Value→Shared→Prop} (D:ZipApart z P1 P2 j1 j2 a b)
  (hz:IsZip s.heap z P1 P2 .none) (hP1:IsPair s.heap P1 (.ref j1) (.ref j2)) (hP2:IsPair s.heap P2 g g') (n1:S1.It s.heap j1 a k) (n2:S2.It s.heap j2 b k) (la:S1.Sq s.heap a us) (tb:S2.Sq s.heap b vs) (hu:us[k]?=some u) (hv:vs[k]?=some v)
  (q:∀h',IsZip h' z P1 P2 (rawInt s.heap.objs.size)→IsPair h' P2 u v→S1.It h' j1 a (k+1)→S2.It h' j2 b (k+1)→IsPair h' s.heap.objs.size u v→(∀c o,c≠z→c≠P2→c≠j1→c≠j2→s.heap.get? c=some o→h'.get? c=some o)→Q (.ref s.heap.objs.size) {s with heap:=h'}):wpAny (model prog w) A (Builtin.«zip.__next__» ⟨[.ref z],[]⟩) (fun fin s'=>∃v,fin=.done (.ret v)∧Q v s') E s:=by
 show wpAny _ _ (field (.ref z) 2 >>= _) _ _ _;refine ag (cg hz rfl (x:=.bool false) rfl ?_);show wpAny _ _ (field (.ref z) 3 >>= _) _ _ _
 refine ag (cg hz rfl (x:=.ref P1) rfl ?_);refine ag (eo hP1 rfl ?_)
 show wpAny _ _ (Builtin.SmallTypes.ownedTupleIsFree (.ref z) >>= _) _ _ _;refine ag ?_;unfold Builtin.SmallTypes.ownedTupleIsFree
 refine ag (cg hz rfl (x:=.none) rfl (aQ ?_));simp only [if_true]
 refine ag (wpAny_rule ?_);refine ag (cg hz rfl (x:=.ref P2) rfl ?_)
 refine ag (ei hz (by simp) fun m1 z1 d1=>?_);have z1:IsZip m1 z P1 P2 .ellipsis:=z1;refine ag ?_;simp only [List.zipIdx_cons,List.zipIdx_nil,List.forIn_cons,List.forIn_nil]
 refine ag (ag (im ?_));show wpAny _ _ (Builtin.SmallTypes.nextOf (.ref j1) >>= _) _ _ _
 refine ag (O1.item (O1.at_ n1 (d1.extBut _ · D.i1z)) (O1.sq la (d1.extBut _ · D.l1z)) hu fun m2 n12 d2=>aQ ?_);have p2:IsPair m2 P2 g g':=d2.extBut _ _ D.TOi1 (d1.extBut _ _ D.TOz hP2);refine ag (eo p2 rfl ?_);refine ag (ij p2 fun m3 p3 d3=>?_)
 have p3:IsPair m3 P2 u g':=p3;refine ag (wpAny_letGo (aQ ?_));refine ag (ag (im ?_));show wpAny _ _ (Builtin.SmallTypes.nextOf (.ref j2) >>= _) _ _ _
 refine ag (O2.item (O2.at_ n2 fun o e=>d3.extBut _ o D.TOi2.symm (d2.extBut _ o D.i12.symm (d1.extBut _ o D.i2z e))) (O2.sq tb fun o e=>d3.extBut _ o D.l2TO (d2.extBut _ o D.l2i1 (d1.extBut _ o D.l2z e))) hv fun m4 n24 d4=>aQ ?_);have p4:IsPair m4 P2 u g':=d4.extBut _ _ D.TOi2 p3;refine ag (eo p4 rfl ?_);refine ag (ij p4 fun m5 p5 d5=>?_)
 have p5:IsPair m5 P2 u v:=p5;refine ag (wpAny_letGo (aQ (aQ ?_)));refine ag (eo p5 rfl ?_);refine ag (wpAny_newTuple ?_)
 have sz:m5.objs.size=s.heap.objs.size:=by rw [d5.1,d4.1,d3.1,d2.1,d1.1]
 have z5:IsZip m5 z P1 P2 .ellipsis:=d5.extBut _ _ D.TOz.symm (d4.extBut _ _ D.i2z.symm (d3.extBut _ _ D.TOz.symm (d2.extBut _ _ D.i1z.symm z1)));have kk:∀c o,c≠z→c≠P2→c≠j1→c≠j2→s.heap.get? c=some o→m5.get? c=some o:=fun c o e1 e2 e3 e4 e=>d5.extBut _ _ e2 (d4.extBut _ _ e4 (d3.extBut _ _ e2 (d2.extBut _ _ e3 (d1.extBut _ _ e1 e))))
 have n15:=O1.at_ (h':=m5) n12 fun o e=>d5.extBut _ o D.TOi1.symm (d4.extBut _ o D.i12 (d3.extBut _ o D.TOi1.symm e))
 have n25:=O2.at_ (h':=m5) n24 (d5.extBut _ · D.TOi2.symm);have zl:z<m5.objs.size:=ar z5;show wpAny _ _ (Builtin.SmallTypes.ownedTupleHandOut (.ref z) (.ref m5.objs.size) >>= _) _ _ _;refine ag ?_;unfold Builtin.SmallTypes.ownedTupleHandOut
 have z6:IsZip (m5.push {cls:=.type "tuple",data:=.seq #[u,v]}) z P1 P2 .ellipsis:=ak _ z5;refine ag (ei z6 (by simp) fun m7 z7 d7=>?_);have z7:IsZip m7 z P1 P2 (rawInt m5.objs.size):=z7;refine ei z7 (by simp) fun m8 z8 d8=>?_
 have z8:IsZip m8 z P1 P2 (rawInt m5.objs.size):=z8;have up:∀c o,c≠z→m5.get? c=some o→m8.get? c=some o:=fun c o e1 e=>d8.extBut _ _ e1 (d7.extBut _ _ e1 (ak _ e))
 have t8:IsPair m8 m5.objs.size u v:=d8.extBut _ _ (fg zl) (d7.extBut _ _ (fg zl) (az _ rfl));rw [sz] at z8 t8;refine aQ ⟨_,rfl,?_⟩;show Q (.ref m5.objs.size) _;rw [sz]
 exact q m8 z8 (up _ _ D.TOz p5) (O1.at_ n15 (up _ · D.i1z)) (O2.at_ n25 (up _ · D.i2z)) t8 fun c o e1 e2 e3 e4 e=>up c o e1 (kk c o e1 e2 e3 e4 e)
theorem P8 {z P1 P2 j1 j2 a b:Addr} {k:Nat} {us vs:Array Value} {g g':Value} {Q:Fin→Shared→Prop} (hh:A.handled=none) (D:ZipApart z P1 P2 j1 j2 a b)
  (hz:IsZip s.heap z P1 P2 .none) (hP1:IsPair s.heap P1 (.ref j1) (.ref j2)) (hP2:IsPair s.heap P2 g g') (n1:S1.It s.heap j1 a k) (n2:S2.It s.heap j2 b k) (la:S1.Sq s.heap a us) (tb:S2.Sq s.heap b vs) (he:us[k]?=none∨vs[k]?=none)
  (q:∀h' e,(∀c o,c≠z→c≠P2→c≠j1→c≠j2→s.heap.get? c=some o→h'.get? c=some o)→(∃o,h'.get? e=some o∧o.cls=.type "StopIteration")→E (.ref e) {s with heap:=h'}):wpAny (model prog w) A (Builtin.«zip.__next__» ⟨[.ref z],[]⟩) Q E s:=by
 show wpAny _ _ (field (.ref z) 2 >>= _) _ _ _;refine ag (cg hz rfl (x:=.bool false) rfl ?_);show wpAny _ _ (field (.ref z) 3 >>= _) _ _ _
 refine ag (cg hz rfl (x:=.ref P1) rfl ?_);refine ag (eo hP1 rfl ?_)
 show wpAny _ _ (Builtin.SmallTypes.ownedTupleIsFree (.ref z) >>= _) _ _ _;refine ag ?_;unfold Builtin.SmallTypes.ownedTupleIsFree
 refine ag (cg hz rfl (x:=.none) rfl (aQ ?_));simp only [if_true]
 refine ag (wpAny_rule ?_);refine ag (cg hz rfl (x:=.ref P2) rfl ?_)
 refine ag (ei hz (by simp) fun m1 z1 d1=>?_);have z1:IsZip m1 z P1 P2 .ellipsis:=z1;refine ag ?_;simp only [List.zipIdx_cons,List.zipIdx_nil,List.forIn_cons,List.forIn_nil]
 refine ag (ag (im ?_));show wpAny _ _ (Builtin.SmallTypes.nextOf (.ref j1) >>= _) _ _ _
 cases hu:us[k]? with
 |none =>
  refine ag (O1.fin hh (O1.at_ n1 (d1.extBut _ · D.i1z)) (O1.sq la (d1.extBut _ · D.l1z)) hu fun m2 e d2 st=>?_);obtain ⟨oe,ee,ce⟩:=st
  have z2:IsZip m2 z P1 P2 .ellipsis:=d2 _ _ D.i1z.symm z1;have ne:e≠z:=fun x=>by subst x;rw [z2] at ee;cases ee;simp at ce
  refine ei z2 (by simp) fun m3 _ d3=>q m3 e (fun c o e1 _ e3 _ x=>d3.extBut _ _ e1 (d2 _ _ e3 (d1.extBut _ _ e1 x))) ⟨oe,d3.extBut _ _ ne ee,ce⟩
 |some u =>
  have hv:vs[k]?=none:=by rcases he with h|h;rw [hu] at h;cases h;exact h
  refine ag (O1.item (O1.at_ n1 (d1.extBut _ · D.i1z)) (O1.sq la (d1.extBut _ · D.l1z)) hu fun m2 n12 d2=>aQ ?_);have p2:IsPair m2 P2 g g':=d2.extBut _ _ D.TOi1 (d1.extBut _ _ D.TOz hP2);refine ag (eo p2 rfl ?_);refine ag (ij p2 fun m3 p3 d3=>?_)
  refine ag (wpAny_letGo (aQ ?_));refine ag (ag (im ?_));show wpAny _ _ (Builtin.SmallTypes.nextOf (.ref j2) >>= _) _ _ _
  refine ag (O2.fin hh (O2.at_ n2 fun o e=>d3.extBut _ o D.TOi2.symm (d2.extBut _ o D.i12.symm (d1.extBut _ o D.i2z e))) (O2.sq tb fun o e=>d3.extBut _ o D.l2TO (d2.extBut _ o D.l2i1 (d1.extBut _ o D.l2z e))) hv fun m4 e d4 st=>?_);obtain ⟨oe,ee,ce⟩:=st
  have z4:IsZip m4 z P1 P2 .ellipsis:=d4 _ _ D.i2z.symm (d3.extBut _ _ D.TOz.symm (d2.extBut _ _ D.i1z.symm z1));have ne:e≠z:=fun x=>by subst x;rw [z4] at ee;cases ee;simp at ce
  refine ei z4 (by simp) fun m5 _ d5=>q m5 e (fun c o e1 e2 e3 e4 x=>d5.extBut _ _ e1 (d4 _ _ e4 (d3.extBut _ _ e2 (d2.extBut _ _ e3 (d1.extBut _ _ e1 x))))) ⟨oe,d5.extBut _ _ ne ee,ce⟩
end
def wT (S1 S2:SqK) (K:PySem.W.Frag) (a1 a2:Addr):It :=
 ⟨fun i H=>∃xs ys x y,S1.R K H a1 xs∧S2.R K H a2 ys∧xs[i]?=some x∧ys[i]?=some y,
  fun i H v H'=>∃T x y,v=.ref T∧H T=none∧H'=upd H T (.tup [x,y])∧(∀xs,S1.R K H a1 xs→xs[i]?=some x)∧(∀ys,S2.R K H a2 ys→ys[i]?=some y),
  fun i H=>∃xs ys,S1.R K H a1 xs∧S2.R K H a2 ys∧(xs.length≤i∨ys.length≤i)⟩
theorem OR (O1:S1.Ok) (O2:S2.Ok) {P:Program} {w:World} {K:PySem.W.Frag} {elts:List Expr} {x1:Nat} {pos:Pos} {a1 a2 z TI TO i1 i2:Addr} (D:ZipApart z TI TO i1 i2 a1 a2) :
  Turn P w K (.Tuple elts x1 pos) (wT S1 S2 K a1 a2) [z,TI,TO,i1,i2] z (fun i h=>IsZip h z TI TO .none∧IsPair h TI (.ref i1) (.ref i2)∧(∃a b,IsPair h TO a b)∧S1.It h i1 a1 i∧S2.It h i2 a2 i) where
 mem:=by simp
 obj:=fun i h st b hb=>by
  obtain ⟨hz,hTI,⟨p,q,hTO⟩,h1,h2⟩:=st;simp only [aq,aE,bx] at hb
  rcases hb with rfl|rfl|rfl|rfl|rfl
  ·exact ⟨_,hz,fun v y=>by have y':Data.fields _=Data.cell v:=y;cases y'⟩
  ·exact ⟨_,hTI,fun v y=>by have y':Data.seq _ _=Data.cell v:=y;cases y'⟩
  ·exact ⟨_,hTO,fun v y=>by have y':Data.seq _ _=Data.cell v:=y;cases y'⟩
  ·exact O1.ob h1
  ·exact O2.ob h2
 keep:=fun i h h' st k=>by
  obtain ⟨hz,hTI,⟨p,q,hTO⟩,h1,h2⟩:=st;exact ⟨k _ (by simp) _ hz,k _ (by simp) _ hTI,⟨p,q,k _ (by simp) _ hTO⟩,O1.at_ h1 (k _ (by simp)),O2.at_ h2 (k _ (by simp))⟩
 item:=by
  intro X hP hw hK hc i pins s σ H E I hf st hg;subst hP hw hK;obtain ⟨hz,hTI,⟨p,q,hTO⟩,h1,h2⟩:=st;obtain ⟨xs,ys,x,y,hq1,hq2,hx,hy⟩:=hg;obtain ⟨its1,rv1,p1⟩:=O1.rel I hq1;obtain ⟨its2,rv2,p2⟩:=O2.rel I hq2;obtain ⟨u,hu,ru⟩:=rv1.get hx;obtain ⟨v,hv,rv⟩:=rv2.get hy;have hTz:s.TypeIs (.ref z) "zip":=⟨_,hz,rfl⟩;unfold pyNext;refine ag (wpAny_attempt (dg (name:=Str.ofString "__next__") hTz ir (gl ir hTz F.entry_zip_next (OP O1 O2 D hz hTI hTO h1 h2 p1 p2 (u:=u) (v:=v) (by simpa using hu) (by simpa using hv) fun h' hz' hTO' h1' h2' hT' hk=>aQ ?_) (F.args_zip_next_1 _))));refine ⟨_,rfl,?_⟩;refine wpAny_letOwnedTupleGo_zip hz' fun hp2 hz2 hs2=>?_
  have lt:∀{b:Addr} {o:Obj},s.heap.get? b=some o→b<s.heap.objs.size:=fun e=>ar e
  have nT:s.heap.objs.size≠z:=fg (lt hz);have k2:∀b o,b∉[z,TI,TO,i1,i2]→s.heap.get? b=some o→hp2.get? b=some o:=fun b o hb e=>by
   simp only [aq,aE,bx,not_or] at hb;exact (hs2.2 b hb.1).trans (hk b o hb.1 hb.2.2.1 hb.2.2.2.1 hb.2.2.2.2 e)
  have hT2:IsPair hp2 s.heap.objs.size u v:=(hs2.2 _ nT).trans hT';refine ⟨.ref s.heap.objs.size,upd H s.heap.objs.size (.tup [x,y]),I.laidN (t':=s.toks) (fp:=[z,TI,TO,i1,i2]) k2 hf (aj _) ⟨(by show 2≤sizeLine;decide),[u,v],.cons ru (.cons rv .nil),⟨_,hT2,rfl,_,rfl⟩⟩,rfl,?_,?_,?_⟩
  ·exact ⟨_,x,y,rfl,I.hok.fresh (aj _),rfl,fun zs hzs=>by rw [O1.inj I hzs hq1];exact hx,fun zs hzs=>by rw [O2.inj I hzs hq2];exact hy⟩
  ·refine ⟨hz2,(hs2.2 _ D.TIz).trans (hk _ _ D.TIz D.TITO D.TIi1 D.TIi2 hTI),⟨_,_,(hs2.2 _ D.TOz).trans hTO'⟩,O1.at_ h1' fun o e=>(hs2.2 _ D.i1z).trans e,O2.at_ h2' fun o e=>(hs2.2 _ D.i2z).trans e⟩
  ·intro b hb;have:=(hf b hb).1;rw [jX]
   ·exact this
   ·intro e;simp only [aq,aE,bx] at hb;obtain ⟨o1,e1,_⟩:=O1.ob h1;obtain ⟨o2,e2,_⟩:=O2.ob h2
    rcases hb with rfl|rfl|rfl|rfl|rfl
    ·exact nT e.symm
    ·exact aP (lt hTI) e
    ·exact aP (lt hTO) e
    ·exact aP (lt e1) e
    ·exact aP (lt e2) e
 done:=by
  intro X hP hw hK hc i pins s σ H E I hf st hg;subst hP hw hK;obtain ⟨hz,hTI,⟨p,q,hTO⟩,h1,h2⟩:=st;obtain ⟨xs,ys,hq1,hq2,he⟩:=hg;obtain ⟨its1,rv1,p1⟩:=O1.rel I hq1;obtain ⟨its2,rv2,p2⟩:=O2.rel I hq2;have l1:=rv1.length;have l2:=rv2.length;have hTz:s.TypeIs (.ref z) "zip":=⟨_,hz,rfl⟩;unfold pyNext;refine ag (wpAny_attempt (dg (name:=Str.ofString "__next__") hTz ir (gl ir hTz F.entry_zip_next (P8 O1 O2 (I.ok.hd hc) D hz hTI hTO h1 h2 p1 p2 (he.imp (fun e=>by simp;omega) (fun e=>by simp;omega)) fun h' e hk ho=>?_) (F.args_zip_next_1 _))));obtain ⟨o,ho,hco⟩:=ho;refine ag (wpAny_isInstance (T:="StopIteration") (b:=true) ⟨o,ho,hco⟩ isSubtype_stop (aQ ⟨rfl,I.turnedN (t':=s.toks) (fp:=[z,TI,TO,i1,i2]) (fun b o hb e=>?_) hf⟩));simp only [aq,aE,bx,not_or] at hb;exact hk b o hb.1 hb.2.2.1 hb.2.2.2.1 hb.2.2.2.2 e
 self:=fun _ _ _ _ _ st h=>wpAny_pyIter_zip st.1 h
abbrev gA (c:String) (h:Heap) (a:Addr):Heap:=h.push {cls:=.type c,data:=.fields #[.ref a,.int 0 0]}
abbrev mT (c d:String) (h:Heap) (a b:Addr):Heap:=gA d (gA c h a) b
abbrev mS (c d:String) (h:Heap) (a b:Addr):Heap:=(mT c d h a b).push {cls:=.type "tuple",data:=.seq #[.ref h.objs.size,.ref (gA c h a).objs.size]}
abbrev mR (c d:String) (h:Heap) (a b:Addr):Heap:=(mS c d h a b).push {cls:=.type "tuple",data:=.seq #[.none,.none]}
abbrev eA (c d:String) (h:Heap) (a b:Addr):Heap:=(mR c d h a b).push {cls:=.type "zip",data:=.fields #[.none,.bool false,.bool false,.ref (mT c d h a b).objs.size,.ref (mS c d h a b).objs.size]}
def m9 (S1 S2:SqK) (a b:Addr) (us vs:Array Value):Prop:=Meets (Builtin.«zip.__new__» ⟨[.type "zip",.ref a,.ref b],[]⟩) (fun _ R s=>S1.Sq s.heap a us∧S2.Sq s.heap b vs∧R (.ok (.ret (.ref (mR S1.c S2.c s.heap a b).objs.size))) {s with heap:=eA S1.c S2.c s.heap a b})
theorem N8 (a b:Addr) (us vs:Array Value):m9 sqL sqT a b us vs:=.of_wp fun prog w A R s h=>by
  obtain ⟨hp,g,d,tk,os⟩:=s;obtain ⟨la,tb,h⟩:=h;have hsub:=sub_zip
  have A1:Heap.IsList (Shared.heap ⟨hp,g,d,tk,os⟩) a us:=la;have A2:Heap.IsTuple (Shared.heap ⟨hp.push {cls:=.type "list_iterator",data:=.fields #[.ref a,.int 0 0]},g,d,tk,os⟩) b vs:=Heap.IsTuple.push tb _
  wp_walk using gg A1,fu A2
  exact ⟨_,rfl,h⟩
theorem N7 (a b:Addr) (us vs:Array Value):m9 sqT sqL a b us vs:=.of_wp fun prog w A R s h=>by
  obtain ⟨hp,g,d,tk,os⟩:=s;obtain ⟨la,tb,h⟩:=h;have hsub:=sub_zip
  have A1:Heap.IsTuple (Shared.heap ⟨hp,g,d,tk,os⟩) a us:=la;have A2:Heap.IsList (Shared.heap ⟨hp.push {cls:=.type "tuple_iterator",data:=.fields #[.ref a,.int 0 0]},g,d,tk,os⟩) b vs:=Heap.IsList.push tb _
  wp_walk using fu A1,gg A2
  exact ⟨_,rfl,h⟩
theorem P3 (O1:S1.Ok) (O2:S2.Ok) (M:∀(a b:Addr) (us vs:Array Value),m9 S1 S2 a b us vs) {prog:Program} {w:World} {A:Around} {s:Shared} {E:Value→Shared→Prop} {a b:Addr} {us vs:Array Value} {Q:Value→Shared→Prop} (la:S1.Sq s.heap a us) (tb:S2.Sq s.heap b vs)
  (q:∀h',IsZip h' (s.heap.objs.size+4) (s.heap.objs.size+2) (s.heap.objs.size+3) .none→IsPair h' (s.heap.objs.size+2) (.ref s.heap.objs.size) (.ref (s.heap.objs.size+1))→IsPair h' (s.heap.objs.size+3) .none .none→S1.It h' s.heap.objs.size a 0→S2.It h' (s.heap.objs.size+1) b 0→(∀c o,s.heap.get? c=some o→h'.get? c=some o)→Q (.ref (s.heap.objs.size+4)) {s with heap:=h'}) :
  wpAny (model prog w) A (call (.type "zip") [.ref a,.ref b]) Q E s:=by
 refine callType_new F.called_zip (by decide) (F.typeCall_zip_2 _ _) (F.newCall_zip_2 _ _) (fun obj=>F.args_object_init_3 obj _ _) F.entry_zip_new (M a b us vs) ⟨la,tb,?_⟩;have y1:(gA S1.c s.heap a).objs.size=s.heap.objs.size+1:=dh ..;have y2:(mT S1.c S2.c s.heap a b).objs.size=s.heap.objs.size+2:=by rw [dh,y1]
 have y3:(mS S1.c S2.c s.heap a b).objs.size=s.heap.objs.size+3:=by rw [dh,y2]
 have y4:(mR S1.c S2.c s.heap a b).objs.size=s.heap.objs.size+4:=by rw [dh,y3]
 have up:∀{h:Heap} {o:Obj} {c:Addr} {v:Obj},h.get? c=some v→(h.push o).get? c=some v:=fun e=>ak _ e
 have g5:(eA S1.c S2.c s.heap a b).get? (mR S1.c S2.c s.heap a b).objs.size=some _:=az _ rfl;have g4:(eA S1.c S2.c s.heap a b).get? (mS S1.c S2.c s.heap a b).objs.size=some _:=up (az _ rfl);have g3:(eA S1.c S2.c s.heap a b).get? (mT S1.c S2.c s.heap a b).objs.size=some _:=up (up (az _ rfl));have g2:(eA S1.c S2.c s.heap a b).get? (gA S1.c s.heap a).objs.size=some _:=up (up (up (az _ rfl)));have g1:(eA S1.c S2.c s.heap a b).get? s.heap.objs.size=some _:=up (up (up (up (az _ rfl))));show _∧_;rw [y2,y3,y4] at g5;rw [y1,y2] at g3;rw [y3] at g4;rw [y1] at g2;rw [y4]
 exact ⟨⟨_,g5,rfl⟩,q _ g5 g3 g4 (O1.mk0 g1) (O2.mk0 g2) fun c o x=>up (up (up (up (up x))))⟩
def wC (S1 S2:SqK) (K:PySem.W.Frag) (ta:TA):TI:=fun σ H R=>ta σ H fun vs H1=>∃a1 a2,vs=[.ref a1,.ref a2]∧(∃xs,S1.R K H1 a1 xs)∧(∃ys,S2.R K H1 a2 ys)∧R (wT S1 S2 K a1 a2) H1
section
variable {X:Cx} {elts:List Expr} {x1:Nat} {tpos:Pos}
theorem DQ (O1:S1.Ok) (O2:S2.Ok) (M:∀(a b:Addr) (us vs:Array Value),m9 S1 S2 a b us vs) {a b:Expr} {ta:TA} {p pos:Pos} (hg:Gl X "zip") (hm:X.mg "zip"=none) (ha:PA X [a,b] ta) (hs:starEach [a,b] X.env=[(false,eval a X.env),(false,eval b X.env)]:=by rfl) (hs2:starEach [b] X.env=[(false,eval b X.env)]:=by rfl) :
  PI X (.Tuple elts x1 tpos) (.Call (.Name "zip" p) [a,b] [] pos) (wC S1 S2 X.K ta):=by
 intro pins s σ H R I h;refine Call_ (bR I hg hm boot_zip (cu (jW (ha pos pins s σ H _ I h) fun us s1 ⟨vs,H1,I1,r1,q1⟩=>?_) (by rw [hs,hs2]) (by rw [hs2];rfl)));obtain ⟨a1,a2,e,⟨xs,hq1⟩,⟨ys,hq2⟩,q⟩:=q1;subst e;cases r1 with
 |cons r rr =>
  cases rr with
  |cons r' rr =>
   cases rr;cases r;cases r';obtain ⟨its1,rv1,p1⟩:=O1.rel I1 hq1;obtain ⟨its2,rv2,p2⟩:=O2.rel I1 hq2;have lt1:a1<s1.heap.objs.size:=by obtain ⟨o,e⟩:=O1.lt p1;exact ar e
   have lt2:a2<s1.heap.objs.size:=by obtain ⟨o,e⟩:=O2.lt p2;exact ar e
   refine P3 O1 O2 M p1 p2 fun h' hz hTI hTO h1 h2 hk=>?_
   refine wpAny_pyIter_zip hz ?_;have D:ZipApart (s1.heap.objs.size+4) (s1.heap.objs.size+2) (s1.heap.objs.size+3) s1.heap.objs.size (s1.heap.objs.size+1) a1 a2:=by
    constructor<;>(intro e;simp only [Addr] at *;omega)
   refine ⟨_,_,_,_,H1,rfl,I1.kept (t':=s1.toks) hk,OR O1 O2 D,⟨hz,hTI,⟨_,_,hTO⟩,h1,h2⟩,fun b hb=>?_,q⟩;simp only [aq,aE,bx] at hb;have hb':s1.heap.objs.size≤b:=by rcases hb with rfl|rfl|rfl|rfl|rfl<;>simp only [Addr] at *<;>omega
   exact I1.fpOk hb' (I1.hok.fresh hb')
end
end
section
variable {X:Cx} {elts:List Expr} {x1:Nat} {tpos:Pos} {a b:Expr} {ta:TA} {p pos:Pos}
theorem SU (hg:Gl X "zip") (hm:X.mg "zip"=none) (ha:PA X [a,b] ta) (hs:starEach [a,b] X.env=[(false,eval a X.env),(false,eval b X.env)]:=by rfl) (hs2:starEach [b] X.env=[(false,eval b X.env)]:=by rfl):PI X (.Tuple elts x1 tpos) (.Call (.Name "zip" p) [a,b] [] pos) (wC sqL sqT X.K ta):=DQ EE ED N8 hg hm ha hs hs2
theorem ST (hg:Gl X "zip") (hm:X.mg "zip"=none) (ha:PA X [a,b] ta) (hs:starEach [a,b] X.env=[(false,eval a X.env),(false,eval b X.env)]:=by rfl) (hs2:starEach [b] X.env=[(false,eval b X.env)]:=by rfl):PI X (.Tuple elts x1 tpos) (.Call (.Name "zip" p) [a,b] [] pos) (wC sqT sqL X.K ta):=DQ ED EE N7 hg hm ha hs hs2
end
theorem AK {S1 S2:SqK} {K:PySem.W.Frag} {a1 a2 D:Addr} {xs ys:List V} {g:TG} {tc:TT} {te:TE} {σ₀:St} {H:Hp} {Q:Hp→Prop} (Pv:Nat→St→Hp→Prop) (h0:Pv 0 σ₀ (upd H D (.lst []))) (hl:∀i σ H,i≤xs.length→Pv i σ H→S1.R K H a1 xs∧S2.R K H a2 ys) (hn:xs.length=ys.length)
  (hs:∀i x y σ H T,xs[i]?=some x→ys[i]?=some y→Pv i σ H→H T=none→g (.ref T) σ (upd H T (.tup [x,y])) fun σ2 H3=>tc σ2 H3 fun b H4=>if b=true then te σ2 H4 fun v H5=>∃zs,H5 D=some (.lst zs)∧zs.length<sizeLine∧Pv (i+1) σ2 (upd H5 D (.lst (zs++[v]))) else Pv (i+1) σ2 H4)
  (hd:∀σ H,Pv xs.length σ H→Q H):JA D (wT S1 S2 K a1 a2) g tc te σ₀ H Q:=by
 refine ⟨fun i m σ H=>m=xs.length - i∧i≤xs.length∧Pv i σ H,⟨xs.length,by simp,aO _,h0⟩,?_⟩;rintro i m σ H ⟨rfl,hi,p⟩;obtain ⟨q1,q2⟩:=hl i σ H hi p
 by_cases hlt:i<xs.length
 ·have hlt2:i<ys.length:=by omega
  refine .inr ⟨⟨xs,ys,_,_,q1,q2,aa hlt,aa hlt2⟩,Pv (i+1),fun σ' H' p'=>⟨xs.length - (i+1),by omega,rfl,hlt,p'⟩,fun v H' hy=>?_⟩;obtain ⟨T,x,y,rfl,hT,rfl,e1,e2⟩:=hy;exact hs i x y σ H T (e1 xs q1) (e2 ys q2) p hT
 ·exact .inl ⟨⟨xs,ys,q1,q2,.inl (by omega)⟩,hd σ H (by rw [show xs.length=i by omega];exact p)⟩
set_option maxRecDepth 100000
theorem TD:fillsNumberSlot (.type "tuple") "mul"=pure false:=PySem.fillsNumberSlot_seq (id:="tuple.__mul__") (r:=some (.builtin "tuple.__rmul__")) F.slot_tuple_mul.lookup (by decide +kernel) F.slot_tuple_rmul.lookup (by decide +kernel)
theorem SN:seqRepeat? (.type "tuple")=pure (some (.builtin "tuple.__mul__")):=by
 unfold seqRepeat?;rw [PySem.seqSlot_of (T:="tuple") (name:="__mul__") (id:="tuple.__mul__") F.slot_tuple_mul.lookup (by decide +kernel),PySem.seqSlot_of (T:="tuple") (name:="__rmul__") (id:="tuple.__rmul__") F.slot_tuple_rmul.lookup (by decide +kernel)];rfl
theorem VF (a:Int) (t:Tok) (p:Addr) (vs:Array Value) (n:Nat) (dd:Option Addr) (sl:Array (Option Value)):Meets (Builtin.«int.__rmul__» ⟨[.int a t,.ref p],[]⟩) (fun _ R s=>s.heap.get? p=some {cls:=.type "tuple",dict:=dd,data:=.seq vs n,slots:=sl}∧R (.ok (.ret Value.notImplemented)) s):=.of_wp fun prog w A R s h=>by obtain ⟨hp,g,d,tk,os⟩:=s;obtain ⟨hl,h⟩:=h;wp_walk;exact ⟨_,rfl,h⟩
theorem RO (t:Tok) (p:Addr) (vs:Array Value) (n:Nat) (dd:Option Addr) (sl:Array (Option Value)):Meets (Builtin.«tuple.__mul__» ⟨[.ref p,.int 1 t],[]⟩) (fun _ R s=>s.heap.get? p=some {cls:=.type "tuple",dict:=dd,data:=.seq vs n,slots:=sl}∧R (.ok (.ret (.ref p))) s):=.of_wp fun prog w A R s h=>by obtain ⟨hp,g,d,tk,os⟩:=s;obtain ⟨hl,h⟩:=h;wp_walk;exact ⟨_,rfl,h⟩
theorem O8 (t:Tok) (p:Addr) (vs:Array Value) (n:Nat) (dd:Option Addr) (sl:Array (Option Value)) (h0:vs.isEmpty=false):Meets (Builtin.«tuple.__mul__» ⟨[.ref p,.int 0 t],[]⟩) (fun _ R s=>s.heap.get? p=some {cls:=.type "tuple",dict:=dd,data:=.seq vs n,slots:=sl}∧R (.ok (.ret (.ref s.heap.objs.size))) {s with heap:=s.heap.push {cls:=.type "tuple",data:=.seq #[]}}):=.of_wp fun prog w A R s h=>by
 obtain ⟨hp,g,dr,tk,os⟩:=s;obtain ⟨hl,h⟩:=h
 wp_walk;exact ⟨_,rfl,h⟩
theorem O9 (k:Int) (t:Tok) (p:Addr) (vs:Array Value) (n:Nat) (dd:Option Addr) (sl:Array (Option Value)) (h0:vs.isEmpty=false) (h1:(k == 1)=false) (h2:¬((decide (k < -(2 ^ 63))||decide (k≥2 ^ 63))=true)) (h3:¬((decide (k≤0)||vs.isEmpty)=true)) (h4:¬((vs.size:Int)*k>(2 ^ 63 - 1) / 8)) (h5:¬(Builtin.Tuple.tupleTooMany ((vs.size:Int)*k)=true)) (hz:((List.replicate k.toNat vs).foldl (·++·) (#[]:Array Value)).size≤sizeLine):Meets (Builtin.«tuple.__mul__» ⟨[.ref p,.int k t],[]⟩) (fun _ R s=>s.heap.get? p=some {cls:=.type "tuple",dict:=dd,data:=.seq vs n,slots:=sl}∧R (.ok (.ret (.ref s.heap.objs.size))) {s with heap:=s.heap.push {cls:=.type "tuple",data:=.seq ((List.replicate k.toNat vs).foldl (·++·) #[])}}):=.of_wp fun prog w A R s h=>by
 obtain ⟨hp,g,dr,tk,os⟩:=s;obtain ⟨hl,h⟩:=h
 wp_walk
 rw [if_neg h2]
 wp_walk
 rw [if_neg h3];show wpAny _ _ (if (vs.size:Int)*k>(2 ^ 63 - 1) / 8 then _ else if Builtin.Tuple.tupleTooMany ((vs.size:Int)*k)=true then _ else _) _ _ _;rw [if_neg h4,if_neg h5];refine ag (ib (aQ ⟨_,rfl,h⟩) ?_);exact hz
section
variable {X:Cx}
def VH:R2:=fun x y H Q=>∃(p:Addr) (v:V) (k:Nat),x=.ref p∧y=.int (k:Int)∧H p=some (.tup [v])∧k≤1000∧(k=1→Q (.ref p) H)∧(k≠1→∀l,H l=none→Q (.ref l) (upd H l (.tup (List.replicate k v))))
theorem BW (u:Value):∀(m:Nat) (acc:Array Value),List.foldl (fun x1 x2=>x1++x2) acc (List.replicate m #[u])=acc++(List.replicate m u).toArray
 |0,acc=>by simp
 |m+1,acc=>by rw [bh,List.foldl_cons,BW u m (acc++#[u]),bh,Array.append_assoc];congr 1;apply Array.toList_inj.mp;simp
theorem S5:qH X (binaryOp .Mult) VH:=by
 intro pins s σ H x y v u Q I rx ry h;obtain ⟨p,w,k,rfl,rfl,hH,hk,q1,q2⟩:=h;cases rx;obtain ⟨t,rfl⟩:=ry;obtain ⟨z,its,r,⟨cls,dd,data,sl⟩,e,hc,n,hd⟩:=(show ObjOk X.prog X.w H s.heap p (.tup [w]) from I.hok p _ hH);simp only at hc hd;subst hc hd;cases r with
 |@cons _ u0 _ us ru rt =>
  cases rt;refine wpAny_binaryOp_repeat_ref (T:="tuple") (U:="int") (by decide) ⟨_,e,rfl⟩ (fun s'=>typeIs_int s' (k:Int) t) TD F.fills_int_mul iq SN F.slot_int_index.lookup
   (gh iq (typeIs_int s (k:Int) t) F.entry_int_rmul (F.args_int_rmul_2 _ _) (VF (k:Int) t p #[u0] n dd sl) ⟨e,rfl,⟨_,e,rfl⟩,?_⟩)
  have mk:∀vs:Array Value,vs=(List.replicate k u0).toArray→k≠1→EP X pins σ Q (.ref s.heap.objs.size) {s with heap:=s.heap.push {cls:=.type "tuple",data:=.seq vs}}:=fun vs hvs h1=>by
   have hv:Vals (List.replicate k w) (List.replicate k u0):=by
    have key:∀m,Vals (List.replicate m w) (List.replicate m u0):=fun m=>by
     induction m with
     |zero=>exact .nil
     |succ m ih=>exact .cons ru ih
    exact key k
   refine ⟨.ref s.heap.objs.size,upd H s.heap.objs.size (.tup (List.replicate k w)),I.laid (t':=s.toks) (fun b o e=>ak _ e) (aj _) ⟨by rw [bf];exact aI hk (by decide),_,hv,⟨_,az _ rfl,rfl,0,by rw [hvs]⟩⟩,rfl,q2 h1 _ (I.hok.fresh (aj _))⟩
  by_cases h1:k=1
  ·subst h1;exact gh F.slot_tuple_mul ⟨_,e,rfl⟩ F.entry_tuple_mul (F.args_tuple_mul_2 _ _) (RO t p #[u0] n dd sl) ⟨e,⟨.ref p,H,I,rfl,q1 rfl⟩⟩
  by_cases h0:k=0
  ·subst h0;exact gh F.slot_tuple_mul ⟨_,e,rfl⟩ F.entry_tuple_mul (F.args_tuple_mul_2 _ _) (O8 t p #[u0] n dd sl rfl) ⟨e,mk _ rfl h1⟩
  have hf:(List.replicate (k:Int).toNat #[u0]).foldl (fun x1 x2=>x1++x2) (#[]:Array Value)=(List.replicate k u0).toArray:=by rw [BW,ay];simp
  have hs1:((#[u0]:Array Value).size:Int)*(k:Int)=(k:Int):=by show ((1:Nat):Int)*(k:Int)=_;omega
  refine gh F.slot_tuple_mul ⟨_,e,rfl⟩ F.entry_tuple_mul (F.args_tuple_mul_2 _ _) (O9 (k:Int) t p #[u0] n dd sl rfl ?_ ?_ ?_ ?_ ?_ ?_) ⟨e,?_⟩
  ·exact cp.mpr (by omega)
  ·rw [Bool.or_eq_true,fe,fe];omega
  ·rw [Bool.or_eq_true,fe];rintro (h|h);omega;cases h
  ·rw [hs1];omega
  ·rw [hs1];unfold Builtin.Tuple.tupleTooMany;rw [fe];have:(1000:Nat)≤sizeLine:=by decide
   omega
  ·rw [hf,ai,bf];exact aI hk (by decide)
  ·exact mk _ hf h1
def UI:V→List V→Hp→VK→Prop:=fun x vs H Q=>∃(l:Addr) (xs:List V) (y:V),x=.ref l∧vs=[y]∧H l=some (.lst xs)∧qR y=true∧xs.all qR=true∧Q (.int ((xs.countP fun z=>vL z y:Nat):Int)) H
theorem AV {y:V}:∀{xs:List V} {us:List Value},Vals xs us→xs.all qR=true→us.countP (yE y)=xs.countP fun z=>vL z y
 |[],_,r,_=>by cases r;rfl
 |x::xs,_,r,f=>by
  cases r with
  |@cons _ u _ us ru rt =>
   rw [List.all_cons,da] at f;have ih:=AV (y:=y) rt f.2;rw [List.countP_cons,List.countP_cons,ih,lR ru f.1]
theorem RQ:nA X "list.count" UI:=by
 intro pins s σ H x vs v us Q I rx rv h;obtain ⟨l,xs,y,rfl,rfl,hH,fy,fx,q⟩:=h;cases rx;obtain ⟨u,rfl,ru⟩:=rv.one;obtain ⟨z,its,n,r,hl,e⟩:=I.lstM hH;refine gh F.slot_list_count ⟨_,e,rfl⟩ F.entry_list_count (F.args_list_count_2 _ _) (SeqAt.list_countAt l its.toArray n none #[] u (yE y)) ⟨e,fun w hw=>bJ ru fy r fx w (by simpa using hw),?_⟩;rw [show its.toArray.toList=its from rfl,AV r fx];exact ⟨.int ((xs.countP fun z=>vL z y:Nat):Int),H,I.tok _,⟨_,rfl⟩,q⟩
end
end L2
namespace L2
open PySem PySem.Spec PyProof.Rows
section
variable {prog:Program} {w:World} {A:Around} {s:Shared} {E:Value→Shared→Prop}
end
section
variable {X:Cx} {pins:List (Addr×Obj)} {σ:List (Option V)} {H:Hp} {s:Shared} {h':Heap}
end
section
variable {X:Cx}
end
section
variable {prog:Program} {w:World} {A:Around} {s:Shared} {E:Value→Shared→Prop}
end
section
variable {X:Cx} {e se:Expr} {te:TE} {lo hi:Option Expr} {tl th tk:TO} {pos p2:Pos}
end
section
variable {X:Cx}
end
section
end
section
variable {prog:Program} {w:World} {A:Around} {s:Shared} {E:Value→Shared→Prop}
theorem AC {h h':Heap} {p:Addr} {vs:Array Value} (ht:h.IsTuple p vs) (k:∀o,h.get? p=some o→h'.get? p=some o):h'.IsTuple p vs:=by obtain ⟨o,e,c⟩:=ht;exact ⟨o,k o e,c⟩
theorem PU {it p:Addr} {vs:Array Value} (hh:A.handled=none) (hne:it≠p):Draws prog w A it [it,p] vs.size (fun i x=>vs[i]?=some x) (fun i h=>h.IsTupleIter it p i∧h.IsTuple p vs) where
 live:=fun i h st=>by obtain ⟨⟨o,e,_⟩,_⟩:=st;exact ⟨o,e⟩
 frame:=fun i h h' st k=>⟨st.1.at fun o e=>k _ (by simp) o e,AC st.2 fun o e=>k _ (by simp) o e⟩
 item:=fun i s Q E hi st hQ=>by
  refine AR st.1 st.2 (Array.getElem?_eq_getElem hi) fun h' h1 sb=>?_
  exact hQ _ h' s.toks (Array.getElem?_eq_getElem hi) ⟨h1,AC st.2 fun o e=>(sb.2 _ hne.symm).trans e⟩ sb
 done:=fun s Q E st hE=>tD hh st.1 st.2 (by simp) hE
abbrev mW (h:Heap) (q:Addr):Heap:=h.push {cls:=.type "tuple_iterator",data:=.fields #[.ref q,.int 0 0]}
abbrev w8 (h:Heap) (q:Addr):Heap:=(mW h q).push {cls:=.type "enumerate",data:=.fields #[.none,.bool false,.ref h.objs.size,rawInt 0,.none,.none]}
theorem NR (q:Addr) (us:Array Value) (m:Nat) (dd:Option Addr) (ss:Array (Option Value)):Meets (Builtin.«enumerate.__new__» ⟨[.type "enumerate",.ref q],[]⟩) (fun _ R s=>s.heap.get? q=some {cls:=.type "tuple",dict:=dd,data:=.seq us m,slots:=ss}∧R (.ok (.ret (.ref (mW s.heap q).objs.size))) {s with heap:=w8 s.heap q}):=.of_wp fun prog w A R s h=>by
 obtain ⟨hp,g,d,tk,os⟩:=s;obtain ⟨hq,h⟩:=h;have hsub:=sub_enumerate
 have B1:Heap.IsTuple (Shared.heap ⟨hp,g,d,tk,os⟩) q us:=⟨_,hq,rfl,m,rfl⟩
 wp_walk using gu hq
 refine wpAny_stack_any fun st=>aQ ?_;split
 ·rename_i c _ _ _ _ _;cases (c == Value.type "enumerate")<;>(wp_walk using gu hq,fu B1;exact ⟨_,rfl,h⟩)
 ·wp_walk using gu hq,fu B1;exact ⟨_,rfl,h⟩
theorem OK {q:Addr} {us:Array Value} {Q:Value→Shared→Prop} (hL:s.heap.IsTuple q us)
  (k:∀h',IsEnum h' (s.heap.objs.size+1) s.heap.objs.size 0 .none→h'.IsTupleIter s.heap.objs.size q 0→(∀b o,s.heap.get? b=some o→h'.get? b=some o)→Q (.ref (s.heap.objs.size+1)) {s with heap:=h'}):wpAny (model prog w) A (call (.type "enumerate") [.ref q]) Q E s:=by
 obtain ⟨⟨c,dd,dt,ss⟩,hq,hc,m,hd⟩:=hL;have hc:c=.type "tuple":=hc;have hd:dt=.seq us m:=hd;subst hc;subst hd
 refine callType_new F.called_enumerate (by decide) (F.typeCall_enumerate_1 _) (F.newCall_enumerate_1 _) (fun obj=>F.args_object_init_2 obj _) F.entry_enumerate_new (NR q us m dd ss) ⟨hq,?_⟩;have y1:(mW s.heap q).objs.size=s.heap.objs.size+1:=dh ..;have g2:(w8 s.heap q).get? (mW s.heap q).objs.size=some _:=az _ rfl;have g1:(w8 s.heap q).get? s.heap.objs.size=some _:=ak _ (az _ rfl);show _∧_;rw [y1] at g2 ⊢;exact ⟨⟨_,g2,rfl⟩,k _ g2 ⟨_,g1,rfl,rfl⟩ fun b o x=>ak _ (ak _ x)⟩
end
def wU (K:PySem.W.Frag) (a:Addr):It :=
 ⟨fun i H=>∃xs x,SqT K H a xs∧xs[i]?=some x,
  fun i H v H'=>∃T x,v=.ref T∧H T=none∧H'=upd H T (.tup [.int (i:Int),x])∧∀xs,SqT K H a xs→xs[i]?=some x,
  fun i H=>∃xs,SqT K H a xs∧xs.length≤i⟩
theorem NZ {P:Program} {w:World} {K:PySem.W.Frag} {elts:List Expr} {x1:Nat} {pos:Pos} {a e it:Addr} (hei:e≠it) (hea:e≠a) (hia:it≠a) :
  Turn P w K (.Tuple elts x1 pos) (wU K a) [e,it] e (fun i h=>(∃old,IsEnum h e it i old)∧h.IsTupleIter it a i) where
 mem:=by simp
 obj:=fun i h st b hb=>by
  obtain ⟨⟨old,he⟩,⟨o1,e1,c1,d1⟩⟩:=st;simp only [aq,aE,bx] at hb
  rcases hb with rfl|rfl
  ·exact ⟨_,he,fun v y=>by have y':Data.fields _=Data.cell v:=y;cases y'⟩
  ·exact ⟨o1,e1,fun v y=>by rw [d1] at y;cases y⟩
 keep:=fun i h h' st k=>by
  obtain ⟨⟨old,he⟩,h1⟩:=st;exact ⟨⟨old,k _ (by simp) _ he⟩,h1.at fun o e=>k _ (by simp) o e⟩
 item:=by
  intro X hP hw hK hc i pins s σ H E I hf st hg;subst hP hw hK;obtain ⟨⟨old,he⟩,h1⟩:=st;obtain ⟨xs,x,hq1,hx⟩:=hg;obtain ⟨its1,rv1,p1,_⟩:=I.tuple hq1;have p1:s.heap.IsTuple a its1.toArray:=p1;obtain ⟨u,hu,ru⟩:=rv1.get hx;have hlt:i<its1.toArray.size:=by rw [ai];exact (ad.mp hu).1
  refine wpAny_pyNext_enum_itemD (PU (A:=X.A.in1) (I.ok.hd hc) hia) he ⟨h1,p1⟩ hlt hei (by simp [hei,hea]) fun u' h' tk hu' he' st' hT' hsz hk=>?_
  have eu:u'=u:=by
   have e1:its1.toArray[i]?=some u':=hu';rw [List.getElem?_toArray,hu] at e1;exact (aA e1).symm
  subst eu;refine ⟨_,rfl,?_⟩;refine wpAny_letOwnedTupleGo_enum he' fun h2 he2 hs2=>?_
  have lt:∀{b:Addr} {o:Obj},s.heap.get? b=some o→b<s.heap.objs.size:=fun e=>ar e
  have nT:s.heap.objs.size≠e:=fg (lt he);have k2:∀b o,b∉[e,it]→s.heap.get? b=some o→h2.get? b=some o:=fun b o hb q=>by
   simp only [aq,aE,bx,not_or] at hb;exact (hs2.2 b hb.1).trans (hk b o hb.1 hb.2 q)
  have hT2:=(hs2.2 _ nT).trans hT';refine ⟨.ref s.heap.objs.size,upd H s.heap.objs.size (.tup [.int (i:Int),x]),I.laidN (t':=tk+1) (fp:=[e,it]) k2 hf (aj _) ⟨(by show 2≤sizeLine;decide),[.int i tk,u'],.cons ⟨_,rfl⟩ (.cons ru .nil),⟨_,hT2,rfl,_,rfl⟩⟩,rfl,?_,?_,?_⟩
  ·exact ⟨_,x,rfl,I.hok.fresh (aj _),rfl,fun zs hzs=>by rw [I.tuple_inj hzs hq1];exact hx⟩
  ·exact ⟨⟨_,he2⟩,st'.1.at fun o q=>(hs2.2 _ hei.symm).trans q⟩
  ·intro b hb;have:=(hf b hb).1;rw [jX]
   ·exact this
   ·intro q;simp only [aq,aE,bx] at hb;obtain ⟨o1,e1,_⟩:=h1
    rcases hb with rfl|rfl
    ·exact nT q.symm
    ·exact aP (lt e1) q
 done:=by
  intro X hP hw hK hc i pins s σ H E I hf st hg;subst hP hw hK;obtain ⟨⟨old,he⟩,h1⟩:=st;obtain ⟨xs,hq1,hx⟩:=hg;obtain ⟨its1,rv1,p1,_⟩:=I.tuple hq1;have p1:s.heap.IsTuple a its1.toArray:=p1;have l1:=rv1.length;unfold pyNext;refine ag (wpAny_attempt (dg (name:=Str.ofString "__next__") ⟨_,he,rfl⟩ F.slot_enumerate_next (gl F.slot_enumerate_next ⟨_,he,rfl⟩ F.entry_enumerate_next ?_ (F.args_enumerate_next_1 _))));show wpAny _ _ (field (.ref e) 2 >>= _) _ _ _;refine ag (cg he rfl (x:=.ref it) rfl ?_);refine ag (tD (A:=X.A.in1) (I.ok.hd hc) h1 p1 (by simp;omega) fun h' z hk hz=>?_);obtain ⟨oz,ez,cz⟩:=hz;refine ag (wpAny_isInstance (T:="StopIteration") (b:=true) ⟨oz,ez,cz⟩ isSubtype_stop ?_);refine aQ ⟨rfl,I.turnedN (t':=s.toks) (fp:=[e,it]) (fun b o hb q=>?_) hf⟩;simp only [aq,aE,bx,not_or] at hb;exact hk b o hb.2 q
 self:=fun _ _ _ _ _ st h=>by obtain ⟨⟨old,he⟩,_⟩:=st;exact ia he h
section
variable {X:Cx} {elts:List Expr} {x1:Nat} {tpos:Pos}
def U0 (K:PySem.W.Frag) (ta:TA):TI:=fun σ H R=>ta σ H fun vs H1=>∃a,vs=[.ref a]∧(∃xs,SqT K H1 a xs)∧R (wU K a) H1
theorem tQ {a:Expr} {ta:TA} {p pos:Pos} (hg:Gl X "enumerate") (hm:X.mg "enumerate"=none) (ha:PA X [a] ta) (hs:starEach [a] X.env=[(false,eval a X.env)]:=by rfl) :
  PI X (.Tuple elts x1 tpos) (.Call (.Name "enumerate" p) [a] [] pos) (U0 X.K ta):=by
 intro pins s σ H R I h;refine Call_ (bR I hg hm boot_enumerate (cu (jW (ha pos pins s σ H _ I h) fun us s1 ⟨vs,H1,I1,r1,q1⟩=>?_) hs rfl));obtain ⟨a1,e,⟨xs,hq1⟩,q⟩:=q1;subst e;cases r1 with
 |cons r rr =>
  cases rr;cases r;obtain ⟨its1,rv1,p1,_⟩:=I1.tuple hq1;have p1:s1.heap.IsTuple a1 its1.toArray:=p1;have lt1:a1<s1.heap.objs.size:=by obtain ⟨o,e,_⟩:=p1;exact ar e
  refine OK p1 fun h' he hit hk=>?_
  refine ia he ?_;refine ⟨_,_,_,_,H1,rfl,I1.kept (t':=s1.toks) hk,NZ (Nat.succ_ne_self _) (by intro z;simp only [Addr] at *;omega) (by intro z;simp only [Addr] at *;omega),⟨⟨_,he⟩,hit⟩,fun b hb=>?_,q⟩;simp only [aq,aE,bx] at hb;have hb':s1.heap.objs.size≤b:=by rcases hb with rfl|rfl<;>simp only [Addr] at *<;>omega
  exact I1.fpOk hb' (I1.hok.fresh hb')
theorem sD {K:PySem.W.Frag} {a D:Addr} {xs:List V} {g:TG} {tc:TT} {te:TE} {σ₀:St} {H:Hp} {Q:Hp→Prop} (Pv:Nat→St→Hp→Prop) (h0:Pv 0 σ₀ (upd H D (.lst []))) (hl:∀i σ H,i≤xs.length→Pv i σ H→SqT K H a xs)
  (hs:∀i x σ H T,xs[i]?=some x→Pv i σ H→H T=none→g (.ref T) σ (upd H T (.tup [.int (i:Int),x])) fun σ2 H3=>tc σ2 H3 fun b H4=>if b=true then te σ2 H4 fun v H5=>∃zs,H5 D=some (.lst zs)∧zs.length<sizeLine∧Pv (i+1) σ2 (upd H5 D (.lst (zs++[v]))) else Pv (i+1) σ2 H4)
  (hd:∀σ H,Pv xs.length σ H→Q H):JA D (wU K a) g tc te σ₀ H Q:=by
 refine ⟨fun i m σ H=>m=xs.length - i∧i≤xs.length∧Pv i σ H,⟨xs.length,by simp,aO _,h0⟩,?_⟩;rintro i m σ H ⟨rfl,hi,p⟩;have q1:=hl i σ H hi p
 by_cases hlt:i<xs.length
 ·refine .inr ⟨⟨xs,_,q1,aa hlt⟩,Pv (i+1),fun σ' H' p'=>⟨xs.length - (i+1),by omega,rfl,hlt,p'⟩,fun v H' hy=>?_⟩;obtain ⟨T,x,rfl,hT,rfl,e1⟩:=hy;exact hs i x σ H T (e1 xs q1) p hT
 ·exact .inl ⟨⟨xs,q1,by omega⟩,hd σ H (by rw [show xs.length=i by omega];exact p)⟩
end
section
variable {X:Cx}
end
variable {K:PySem.W.Frag} {H:Hp} {i:Int} {v:V} {P:V→Prop}
theorem kZ {p:Addr} {xs:List V} (h:SqL K H p xs) (t:qU xs i=some v) (q:P v):∃p' xs' i' v',V.ref p=.ref p'∧V.int i=.int i'∧SqL K H p' xs'∧qU xs' i'=some v'∧P v':=⟨p,xs,i,v,rfl,rfl,h,t,q⟩
theorem jI {p:Addr} {xs:List V} (h:SqT K H p xs) (t:qU xs i=some v) (q:P v):∃p' xs' i' v',V.ref p=.ref p'∧V.int i=.int i'∧SqT K H p' xs'∧qU xs' i'=some v'∧P v':=⟨p,xs,i,v,rfl,rfl,h,t,q⟩
theorem j0 {a C dx:Addr} {fs:List (Str×V)} {f:Str} (h:H a=some (.ins C dx fs)) (c:Cls K C) (n:NoAttr K C f) (l:fs.lookup f=some v) (q:P v):∃a' C' dx' fs' v',V.ref a=.ref a'∧H a'=some (.ins C' dx' fs')∧Cls K C'∧NoAttr K C' f∧fs'.lookup f=some v'∧P v':=⟨a,C,dx,fs,v,rfl,h,c,n,l,q⟩
theorem jY {P:Int→Int→Prop} {j:Int} (h:P i j):∃a b,V.int i=V.int a∧V.int j=V.int b∧P a b:=⟨i,j,rfl,rfl,h⟩
end L2
namespace L2
open PySem PySem.Spec PyProof.Rows
section
variable {X:Cx}
def u8 (K:PySem.W.Frag):R2:=fun x y H Q=>∃(a b:Addr) (xs ys:List V) (es:List Bool),x=.ref a∧y=.ref b∧SqT K H a xs∧SqT K H b ys∧xs.length=ys.length∧es.length=xs.length∧(∀j,j<xs.length→DEq K H (xs.getD j .non) (ys.getD j .non) (es.getD j true))∧Q (.bl (!es.all id)) H
theorem uE (hu:X.A.units+1<cLine):qH X (compareOp .NotEq) (u8 X.K):=by
 intro pins s σ H x y v u Q I rx ry h;obtain ⟨a,b,xs,ys,es,rfl,rfl,ha,hb,hlen,hes,hd,q⟩:=h;cases rx;cases ry;obtain ⟨its,r,pl,hz⟩:=I.tuple ha;obtain ⟨its2,r2,pl2,hz2⟩:=I.tuple hb;have hl:=r.length;have hl2:=r2.length;refine SeqAt.RcNeAt.tuples (e:=fun j=>es.getD j true) pl pl2 (by omega) (fun j h1 h2=>?_) X.prog X.w X.xe _ ⟨.bl _,H,I,rfl,?_⟩
 ·exact (hd j (by rw [hl];simpa using h1)).at I (zW r h1) (zW r2 h2) hu
 ·have e:((List.range (min its.toArray.size its2.toArray.size)).all (fun j=>es.getD j true)&&its.toArray.size == its2.toArray.size)=es.all id:=by
   rw [ai,ai,← hl,← hl2,← hlen,Nat.min_self,fo,Bool.and_true,← hes,x6]
  rw [e];exact q
end
end L2
namespace L2
theorem jA {α β:Type} {f:α→β} {b:β} {v:α} {B:α→Prop} (h:b=f v) (q:B v):∃x,b=f x∧B x:=⟨v,h,q⟩
open PySem PySem.Spec PyProof.Rows in
theorem jU {CX:yG} {P:Program} {w:World} {K:PySem.W.Frag} {mg:Str→Option Value} {base:Heap} {N:List Str} {qual:Str} {scope:Scope} {f:Addr} {cd:Value} {A:Around} {outer:List Env} {s:Shared} {H:Hp} {E:XK}:(qB CX P w K mg base N qual scope f cd A outer s H E).K=K:=rfl
open PySem PySem.Spec PyProof.Rows in
theorem jT {CX:yG} {P:Program} {w:World} {K:PySem.W.Frag} {mg:Str→Option Value} {base:Heap} {N:List Str} {qual:Str} {scope:Scope} {f:Addr} {cd:Value} {A:Around} {outer:List Env} {s:Shared} {H:Hp} {E:XK}:(qB CX P w K mg base N qual scope f cd A outer s H E).nox.K=K:=rfl
end L2
namespace L2
variable {α0 α1 α2:Sort _}
theorem vK {P:α0→α1→α2→Prop} (a0:α0) (a1:α1) (a2:α2) (h:P a0 a1 a2):∃a0 a1 a2,P a0 a1 a2:=⟨a0,a1,a2,h⟩
variable {α3:Sort _}
theorem yP {P:α0→α1→α2→α3→Prop} (a0:α0) (a1:α1) (a2:α2) (a3:α3) (h:P a0 a1 a2 a3):∃a0 a1 a2 a3,P a0 a1 a2 a3:=⟨a0,a1,a2,a3,h⟩
variable {α4:Sort _}
theorem yD {P:α0→α1→α2→α3→α4→Prop} (a0:α0) (a1:α1) (a2:α2) (a3:α3) (a4:α4) (h:P a0 a1 a2 a3 a4):∃a0 a1 a2 a3 a4,P a0 a1 a2 a3 a4:=⟨a0,a1,a2,a3,a4,h⟩
variable {α5:Sort _}
theorem J3 {P:α0→α1→α2→α3→α4→α5→Prop} (a0:α0) (a1:α1) (a2:α2) (a3:α3) (a4:α4) (a5:α5) (h:P a0 a1 a2 a3 a4 a5):∃a0 a1 a2 a3 a4 a5,P a0 a1 a2 a3 a4 a5:=⟨a0,a1,a2,a3,a4,a5,h⟩
variable {α6:Sort _}
theorem kX {P:α0→α1→α2→α3→α4→α5→α6→Prop} (a0:α0) (a1:α1) (a2:α2) (a3:α3) (a4:α4) (a5:α5) (a6:α6) (h:P a0 a1 a2 a3 a4 a5 a6):∃a0 a1 a2 a3 a4 a5 a6,P a0 a1 a2 a3 a4 a5 a6:=⟨a0,a1,a2,a3,a4,a5,a6,h⟩
variable {α7:Sort _}
theorem cI {P:α0→α1→α2→α3→α4→α5→α6→α7→Prop} (a0:α0) (a1:α1) (a2:α2) (a3:α3) (a4:α4) (a5:α5) (a6:α6) (a7:α7) (h:P a0 a1 a2 a3 a4 a5 a6 a7):∃a0 a1 a2 a3 a4 a5 a6 a7,P a0 a1 a2 a3 a4 a5 a6 a7:=⟨a0,a1,a2,a3,a4,a5,a6,a7,h⟩
variable {α8:Sort _}
theorem vB {P:α0→α1→α2→α3→α4→α5→α6→α7→α8→Prop} (a0:α0) (a1:α1) (a2:α2) (a3:α3) (a4:α4) (a5:α5) (a6:α6) (a7:α7) (a8:α8) (h:P a0 a1 a2 a3 a4 a5 a6 a7 a8):∃a0 a1 a2 a3 a4 a5 a6 a7 a8,P a0 a1 a2 a3 a4 a5 a6 a7 a8:=⟨a0,a1,a2,a3,a4,a5,a6,a7,a8,h⟩
variable {α9:Sort _}
theorem Z4 {P:α0→α1→α2→α3→α4→α5→α6→α7→α8→α9→Prop} (a0:α0) (a1:α1) (a2:α2) (a3:α3) (a4:α4) (a5:α5) (a6:α6) (a7:α7) (a8:α8) (a9:α9) (h:P a0 a1 a2 a3 a4 a5 a6 a7 a8 a9):∃a0 a1 a2 a3 a4 a5 a6 a7 a8 a9,P a0 a1 a2 a3 a4 a5 a6 a7 a8 a9:=⟨a0,a1,a2,a3,a4,a5,a6,a7,a8,a9,h⟩
variable {α10 α11:Sort _}
theorem mP {P:α0→α1→α2→α3→α4→α5→α6→α7→α8→α9→α10→α11→Prop} (a0:α0) (a1:α1) (a2:α2) (a3:α3) (a4:α4) (a5:α5) (a6:α6) (a7:α7) (a8:α8) (a9:α9) (a10:α10) (a11:α11) (h:P a0 a1 a2 a3 a4 a5 a6 a7 a8 a9 a10 a11):∃a0 a1 a2 a3 a4 a5 a6 a7 a8 a9 a10 a11,P a0 a1 a2 a3 a4 a5 a6 a7 a8 a9 a10 a11:=⟨a0,a1,a2,a3,a4,a5,a6,a7,a8,a9,a10,a11,h⟩
variable {α12:Sort _}
theorem wM {P:α0→α1→α2→α3→α4→α5→α6→α7→α8→α9→α10→α11→α12→Prop} (a0:α0) (a1:α1) (a2:α2) (a3:α3) (a4:α4) (a5:α5) (a6:α6) (a7:α7) (a8:α8) (a9:α9) (a10:α10) (a11:α11) (a12:α12) (h:P a0 a1 a2 a3 a4 a5 a6 a7 a8 a9 a10 a11 a12):∃a0 a1 a2 a3 a4 a5 a6 a7 a8 a9 a10 a11 a12,P a0 a1 a2 a3 a4 a5 a6 a7 a8 a9 a10 a11 a12:=⟨a0,a1,a2,a3,a4,a5,a6,a7,a8,a9,a10,a11,a12,h⟩
variable {α13:Sort _}
theorem fY {P:α0→α1→α2→α3→α4→α5→α6→α7→α8→α9→α10→α11→α12→α13→Prop} (a0:α0) (a1:α1) (a2:α2) (a3:α3) (a4:α4) (a5:α5) (a6:α6) (a7:α7) (a8:α8) (a9:α9) (a10:α10) (a11:α11) (a12:α12) (a13:α13) (h:P a0 a1 a2 a3 a4 a5 a6 a7 a8 a9 a10 a11 a12 a13):∃a0 a1 a2 a3 a4 a5 a6 a7 a8 a9 a10 a11 a12 a13,P a0 a1 a2 a3 a4 a5 a6 a7 a8 a9 a10 a11 a12 a13:=⟨a0,a1,a2,a3,a4,a5,a6,a7,a8,a9,a10,a11,a12,a13,h⟩
theorem wL {α14:Sort _} {α15:Sort _} {P:α0→α1→α2→α3→α4→α5→α6→α7→α8→α9→α10→α11→α12→α13→α14→α15→Prop} (a0:α0) (a1:α1) (a2:α2) (a3:α3) (a4:α4) (a5:α5) (a6:α6) (a7:α7) (a8:α8) (a9:α9) (a10:α10) (a11:α11) (a12:α12) (a13:α13) (a14:α14) (a15:α15) (h:P a0 a1 a2 a3 a4 a5 a6 a7 a8 a9 a10 a11 a12 a13 a14 a15):∃a0 a1 a2 a3 a4 a5 a6 a7 a8 a9 a10 a11 a12 a13 a14 a15,P a0 a1 a2 a3 a4 a5 a6 a7 a8 a9 a10 a11 a12 a13 a14 a15:=⟨a0,a1,a2,a3,a4,a5,a6,a7,a8,a9,a10,a11,a12,a13,a14,a15,h⟩
variable {A0 A1 A2:Prop}
theorem kJ (h0:A0) (h1:A1) (h2:A2):A0∧A1∧A2:=⟨h0,h1,h2⟩
variable {A3:Prop}
theorem vN (h0:A0) (h1:A1) (h2:A2) (h3:A3):A0∧A1∧A2∧A3:=⟨h0,h1,h2,h3⟩
variable {A4:Prop}
theorem vX (h0:A0) (h1:A1) (h2:A2) (h3:A3) (h4:A4):A0∧A1∧A2∧A3∧A4:=⟨h0,h1,h2,h3,h4⟩
variable {A5:Prop}
theorem qW (h0:A0) (h1:A1) (h2:A2) (h3:A3) (h4:A4) (h5:A5):A0∧A1∧A2∧A3∧A4∧A5:=⟨h0,h1,h2,h3,h4,h5⟩
variable {A6:Prop}
theorem vU (h0:A0) (h1:A1) (h2:A2) (h3:A3) (h4:A4) (h5:A5) (h6:A6):A0∧A1∧A2∧A3∧A4∧A5∧A6:=⟨h0,h1,h2,h3,h4,h5,h6⟩
variable {A7:Prop}
theorem zU (h0:A0) (h1:A1) (h2:A2) (h3:A3) (h4:A4) (h5:A5) (h6:A6) (h7:A7):A0∧A1∧A2∧A3∧A4∧A5∧A6∧A7:=⟨h0,h1,h2,h3,h4,h5,h6,h7⟩
variable {A8:Prop}
theorem mX (h0:A0) (h1:A1) (h2:A2) (h3:A3) (h4:A4) (h5:A5) (h6:A6) (h7:A7) (h8:A8):A0∧A1∧A2∧A3∧A4∧A5∧A6∧A7∧A8:=⟨h0,h1,h2,h3,h4,h5,h6,h7,h8⟩
variable {A9:Prop}
theorem FT (h0:A0) (h1:A1) (h2:A2) (h3:A3) (h4:A4) (h5:A5) (h6:A6) (h7:A7) (h8:A8) (h9:A9):A0∧A1∧A2∧A3∧A4∧A5∧A6∧A7∧A8∧A9:=⟨h0,h1,h2,h3,h4,h5,h6,h7,h8,h9⟩
variable {A10:Prop}
theorem WR (h0:A0) (h1:A1) (h2:A2) (h3:A3) (h4:A4) (h5:A5) (h6:A6) (h7:A7) (h8:A8) (h9:A9) (h10:A10):A0∧A1∧A2∧A3∧A4∧A5∧A6∧A7∧A8∧A9∧A10:=⟨h0,h1,h2,h3,h4,h5,h6,h7,h8,h9,h10⟩
theorem WQ {A11:Prop} (h0:A0) (h1:A1) (h2:A2) (h3:A3) (h4:A4) (h5:A5) (h6:A6) (h7:A7) (h8:A8) (h9:A9) (h10:A10) (h11:A11):A0∧A1∧A2∧A3∧A4∧A5∧A6∧A7∧A8∧A9∧A10∧A11:=⟨h0,h1,h2,h3,h4,h5,h6,h7,h8,h9,h10,h11⟩
variable {C:Prop}
theorem fX {P:α0→α1→α2→Prop} (h:∃a0 a1 a2,P a0 a1 a2) (q:∀a0 a1 a2,P a0 a1 a2→C):C:=by
 obtain ⟨a0,a1,a2,h⟩:=h;exact q _ _ _ h
theorem cE {P:α0→α1→α2→α3→Prop} (h:∃a0 a1 a2 a3,P a0 a1 a2 a3) (q:∀a0 a1 a2 a3,P a0 a1 a2 a3→C):C:=by
 obtain ⟨a0,a1,a2,a3,h⟩:=h;exact q _ _ _ _ h
theorem JN {P:α0→α1→α2→α3→α4→Prop} (h:∃a0 a1 a2 a3 a4,P a0 a1 a2 a3 a4) (q:∀a0 a1 a2 a3 a4,P a0 a1 a2 a3 a4→C):C:=by
 obtain ⟨a0,a1,a2,a3,a4,h⟩:=h;exact q _ _ _ _ _ h
theorem ZB {P:α0→α1→α2→α3→α4→α5→Prop} (h:∃a0 a1 a2 a3 a4 a5,P a0 a1 a2 a3 a4 a5) (q:∀a0 a1 a2 a3 a4 a5,P a0 a1 a2 a3 a4 a5→C):C:=by
 obtain ⟨a0,a1,a2,a3,a4,a5,h⟩:=h;exact q _ _ _ _ _ _ h
theorem yC {P:α0→α1→α2→α3→α4→α5→α6→Prop} (h:∃a0 a1 a2 a3 a4 a5 a6,P a0 a1 a2 a3 a4 a5 a6) (q:∀a0 a1 a2 a3 a4 a5 a6,P a0 a1 a2 a3 a4 a5 a6→C):C:=by
 obtain ⟨a0,a1,a2,a3,a4,a5,a6,h⟩:=h;exact q _ _ _ _ _ _ _ h
theorem ZA {P:α0→α1→α2→α3→α4→α5→α6→α7→Prop} (h:∃a0 a1 a2 a3 a4 a5 a6 a7,P a0 a1 a2 a3 a4 a5 a6 a7) (q:∀a0 a1 a2 a3 a4 a5 a6 a7,P a0 a1 a2 a3 a4 a5 a6 a7→C):C:=by
 obtain ⟨a0,a1,a2,a3,a4,a5,a6,a7,h⟩:=h;exact q _ _ _ _ _ _ _ _ h
theorem yO {P:α0→α1→α2→α3→α4→α5→α6→α7→α8→Prop} (h:∃a0 a1 a2 a3 a4 a5 a6 a7 a8,P a0 a1 a2 a3 a4 a5 a6 a7 a8) (q:∀a0 a1 a2 a3 a4 a5 a6 a7 a8,P a0 a1 a2 a3 a4 a5 a6 a7 a8→C):C:=by
 obtain ⟨a0,a1,a2,a3,a4,a5,a6,a7,a8,h⟩:=h;exact q _ _ _ _ _ _ _ _ _ h
theorem dX {P:α0→α1→α2→α3→α4→α5→α6→α7→α8→α9→Prop} (h:∃a0 a1 a2 a3 a4 a5 a6 a7 a8 a9,P a0 a1 a2 a3 a4 a5 a6 a7 a8 a9) (q:∀a0 a1 a2 a3 a4 a5 a6 a7 a8 a9,P a0 a1 a2 a3 a4 a5 a6 a7 a8 a9→C):C:=by
 obtain ⟨a0,a1,a2,a3,a4,a5,a6,a7,a8,a9,h⟩:=h;exact q _ _ _ _ _ _ _ _ _ _ h
theorem FD {P:α0→α1→α2→α3→α4→α5→α6→α7→α8→α9→α10→α11→Prop} (h:∃a0 a1 a2 a3 a4 a5 a6 a7 a8 a9 a10 a11,P a0 a1 a2 a3 a4 a5 a6 a7 a8 a9 a10 a11) (q:∀a0 a1 a2 a3 a4 a5 a6 a7 a8 a9 a10 a11,P a0 a1 a2 a3 a4 a5 a6 a7 a8 a9 a10 a11→C):C:=by
 obtain ⟨a0,a1,a2,a3,a4,a5,a6,a7,a8,a9,a10,a11,h⟩:=h;exact q _ _ _ _ _ _ _ _ _ _ _ _ h
theorem wF {P:α0→α1→α2→α3→α4→α5→α6→α7→α8→α9→α10→α11→α12→Prop} (h:∃a0 a1 a2 a3 a4 a5 a6 a7 a8 a9 a10 a11 a12,P a0 a1 a2 a3 a4 a5 a6 a7 a8 a9 a10 a11 a12) (q:∀a0 a1 a2 a3 a4 a5 a6 a7 a8 a9 a10 a11 a12,P a0 a1 a2 a3 a4 a5 a6 a7 a8 a9 a10 a11 a12→C):C:=by
 obtain ⟨a0,a1,a2,a3,a4,a5,a6,a7,a8,a9,a10,a11,a12,h⟩:=h;exact q _ _ _ _ _ _ _ _ _ _ _ _ _ h
theorem wE {P:α0→α1→α2→α3→α4→α5→α6→α7→α8→α9→α10→α11→α12→α13→Prop} (h:∃a0 a1 a2 a3 a4 a5 a6 a7 a8 a9 a10 a11 a12 a13,P a0 a1 a2 a3 a4 a5 a6 a7 a8 a9 a10 a11 a12 a13) (q:∀a0 a1 a2 a3 a4 a5 a6 a7 a8 a9 a10 a11 a12 a13,P a0 a1 a2 a3 a4 a5 a6 a7 a8 a9 a10 a11 a12 a13→C):C:=by
 obtain ⟨a0,a1,a2,a3,a4,a5,a6,a7,a8,a9,a10,a11,a12,a13,h⟩:=h;exact q _ _ _ _ _ _ _ _ _ _ _ _ _ _ h
theorem FC {α14:Sort _} {α15:Sort _} {P:α0→α1→α2→α3→α4→α5→α6→α7→α8→α9→α10→α11→α12→α13→α14→α15→Prop} (h:∃a0 a1 a2 a3 a4 a5 a6 a7 a8 a9 a10 a11 a12 a13 a14 a15,P a0 a1 a2 a3 a4 a5 a6 a7 a8 a9 a10 a11 a12 a13 a14 a15) (q:∀a0 a1 a2 a3 a4 a5 a6 a7 a8 a9 a10 a11 a12 a13 a14 a15,P a0 a1 a2 a3 a4 a5 a6 a7 a8 a9 a10 a11 a12 a13 a14 a15→C):C:=by
 obtain ⟨a0,a1,a2,a3,a4,a5,a6,a7,a8,a9,a10,a11,a12,a13,a14,a15,h⟩:=h;exact q _ _ _ _ _ _ _ _ _ _ _ _ _ _ _ _ h
theorem qT (h:A0∧A1∧A2) (q:A0→A1→A2→C):C:=by
 obtain ⟨h0,h1,h2⟩:=h;exact q h0 h1 h2
theorem Z5 (h:A0∧A1∧A2∧A3) (q:A0→A1→A2→A3→C):C:=by
 obtain ⟨h0,h1,h2,h3⟩:=h;exact q h0 h1 h2 h3
theorem ZC (h:A0∧A1∧A2∧A3∧A4) (q:A0→A1→A2→A3→A4→C):C:=by
 obtain ⟨h0,h1,h2,h3,h4⟩:=h;exact q h0 h1 h2 h3 h4
theorem y0 (h:A0∧A1∧A2∧A3∧A4∧A5) (q:A0→A1→A2→A3→A4→A5→C):C:=by
 obtain ⟨h0,h1,h2,h3,h4,h5⟩:=h;exact q h0 h1 h2 h3 h4 h5
theorem zI (h:A0∧A1∧A2∧A3∧A4∧A5∧A6) (q:A0→A1→A2→A3→A4→A5→A6→C):C:=by
 obtain ⟨h0,h1,h2,h3,h4,h5,h6⟩:=h;exact q h0 h1 h2 h3 h4 h5 h6
theorem QL (h:A0∧A1∧A2∧A3∧A4∧A5∧A6∧A7) (q:A0→A1→A2→A3→A4→A5→A6→A7→C):C:=by
 obtain ⟨h0,h1,h2,h3,h4,h5,h6,h7⟩:=h;exact q h0 h1 h2 h3 h4 h5 h6 h7
theorem wO (h:A0∧A1∧A2∧A3∧A4∧A5∧A6∧A7∧A8) (q:A0→A1→A2→A3→A4→A5→A6→A7→A8→C):C:=by
 obtain ⟨h0,h1,h2,h3,h4,h5,h6,h7,h8⟩:=h;exact q h0 h1 h2 h3 h4 h5 h6 h7 h8
theorem V3 (h:A0∧A1∧A2∧A3∧A4∧A5∧A6∧A7∧A8∧A9) (q:A0→A1→A2→A3→A4→A5→A6→A7→A8→A9→C):C:=by
 obtain ⟨h0,h1,h2,h3,h4,h5,h6,h7,h8,h9⟩:=h;exact q h0 h1 h2 h3 h4 h5 h6 h7 h8 h9
theorem V2 (h:A0∧A1∧A2∧A3∧A4∧A5∧A6∧A7∧A8∧A9∧A10) (q:A0→A1→A2→A3→A4→A5→A6→A7→A8→A9→A10→C):C:=by
 obtain ⟨h0,h1,h2,h3,h4,h5,h6,h7,h8,h9,h10⟩:=h;exact q h0 h1 h2 h3 h4 h5 h6 h7 h8 h9 h10
theorem V1 {A11:Prop} (h:A0∧A1∧A2∧A3∧A4∧A5∧A6∧A7∧A8∧A9∧A10∧A11) (q:A0→A1→A2→A3→A4→A5→A6→A7→A8→A9→A10→A11→C):C:=by
 obtain ⟨h0,h1,h2,h3,h4,h5,h6,h7,h8,h9,h10,h11⟩:=h;exact q h0 h1 h2 h3 h4 h5 h6 h7 h8 h9 h10 h11
end L2
namespace L2
open PySem PySem.Spec PyProof.Rows
section
variable {X:Cx}
end
section
variable {prog:Program} {w:World} {A:Around} {E:Value→Shared→Prop} {s:Shared}
end
section
variable {X:Cx}
end
section
variable {X:Cx} {pins:List (Addr×Obj)} {σ:St} {H:Hp} {s:Shared} {a:Addr} {y d:V} {u r:Value} {o:Option V} {A:Around} {E:Value→Shared→Prop}
end
section
variable {X:Cx} {o e f:Expr} {apos cpos:Pos} {td ty tx:TE}
end
section
variable {M:Model} {A:Around} {E:Value→Shared→Prop} {s:Shared}
theorem RM {B:Heap} {env:Env} {outer:List Env} {L e:Addr} {cls a0 fl:Value} {Q:Unit→Shared→Prop} (hfr:A.frames=some (env::outer)) (hl:s.heap.FunFrames B (env::outer)) (hf:env.frame=some L) (ht:s.heap.TracedAtW B e cls a0 fl) (hn:fl≠rawInt L) (hb:B.StaysIn s.heap) (he0:B.get? e=none)
  (q:∀h',Heap.NotedW B (env::outer) e cls a0 (rawInt L) s.heap h'→Q () {s with heap:=h'}):wpAny M A (noteFrame (.ref e) env) Q E s:=by
 obtain ⟨oe,vs,T,oT,ts,he,⟨rfl,h0⟩,hd,h1,nT,nTe,hT,dT,h3⟩:=ht;unfold noteFrame;simp only [hf];refine ag (cg he hd h1 ?_);rw [if_pos (show (Value.ref T != Value.none)=true from by simp)];refine ag (cg hT dT h3 ?_);rw [if_neg (show ¬((fl == rawInt L)=true) from fun z=>hn (eq_of_beq z))];refine ag (wpAny_setField hT dT (dm.mp h3).1 ?_);have oth:∀b,b≠T→(s.heap.update T (Obj.mapFields (·.setIfInBounds 3 Value.none))).get? b=s.heap.get? b:=fun b nb=>ft _ _ (Ne.symm nb)
 have nrec:∀b o,s.heap.get? b=some o→(∀vs,o.data≠.fields vs)→b≠T:=fun b o hbo nf z=>by rw [z,hT] at hbo;cases hbo;exact nf ts dT
 refine wpAny_entryW hfr (hl.of_keeps fun b o hbo nf=>⟨o,(oth b (nrec b o hbo nf)).trans hbo,rfl⟩) hf ((oth e (Ne.symm nTe)).trans he) (fun b o hbo=>(oth b fun z=>by rw [z,nT] at hbo;cases hbo).trans (hb b o hbo)) he0 hd (dm.mp h1).1 h0 fun h' y=>?_
 obtain ⟨y1,y2,y3,y4⟩:=y;exact q h' ⟨y1,y2,y3,fun b o hbo nf=>y4 b o ((oth b (nrec b o hbo nf)).trans hbo) nf⟩
theorem OD {B:Heap} {env:Env} {outer:List Env} {L e:Addr} {cls a0 fl:Value} {Q:Unit→Shared→Prop} (hfr:A.frames=some (env::outer)) (hl:s.heap.FunFrames B (env::outer)) (hf:env.frame=some L) (ht:s.heap.TracedAtW B e cls a0 fl) (hb:B.StaysIn s.heap) (he0:B.get? e=none)
  (q:∀h',Heap.FlyingW B outer e cls a0 h'→s.heap.UpToSlots h'→Q () {s with heap:=h'}):wpAny M A (leaving env (.ref e)) Q E s:=by
 have fin:∀h2,Heap.HeldW B (env::outer) e cls a0 L h2→s.heap.UpToSlots h2→wpAny M A (setFlight (.ref e) none) Q E {s with heap:=h2}:=fun h2 hh up=>by
  refine wpAny_landsW (s:={s with heap:=h2}) hh fun h' fly up'=>q h' ?_ (up.trans up')
  obtain ⟨k1,k2,⟨_,_,k3⟩,k4⟩:=fly;exact ⟨k1,k2,k3,k4⟩
 unfold leaving
 by_cases hn:fl=rawInt L
 ·subst hn;exact ag (wpAny_noteFrame_againW hf ht (fin s.heap ⟨hb,he0,hl,ht⟩ (Heap.UpToSlots.refl _)))
 ·refine ag (RM hfr hl hf ht hn hb he0 fun h2 y=>?_);obtain ⟨y1,y2,y3,y4⟩:=y;exact fin h2 ⟨y1,he0,y2,y3⟩ y4
end
theorem O6 {B B':Heap} (k:∀b o,B'.get? b=some o→B.get? b=some o) {b:Addr} (hn:B.get? b=none):B'.get? b=none:=by
 cases r:B'.get? b with
 |none=>rfl
 |some v=>rw [k b v r] at hn;cases hn
theorem AI {h B B':Heap} (k:∀b o,B'.get? b=some o→B.get? b=some o):∀{l:List Env},h.FunFrames B l→h.FunFrames B' l
 |[],_=>trivial
 |_::_,⟨hk,⟨L,o,hf,hn,ho,hd⟩,hr⟩=>⟨hk,⟨L,o,hf,O6 k hn,ho,hd⟩,AI k hr⟩
def dY (X:Cx) (N:List Str) (scope:Scope) (C:Addr) (s:Shared) (H:Hp) (pins:List (Addr×Obj)) (fp:List Addr) (RX:Value→Hp→Prop):Value→Shared→Prop:=fun e s'=>∃pins₁ σ₁ H₁ s₁,Inv (qP X N scope C s H pins fp) pins₁ σ₁ H₁ s₁∧kF X.prog X.w X.stack H₁ s₁ (fun c _ H'=>RX c H') e s'
theorem OF {X:Cx} {N:List Str} {scope:Scope} {C:Addr} {s:Shared} {H:Hp} {pins:List (Addr×Obj)} {fp:List Addr} {RX:Value→Hp→Prop}:bX ((qP X N scope C s H pins fp).wish (dY X N scope C s H pins fp RX)) (fun _ c H'=>RX c H') :=
 fun pins₁ σ₁ H₁ s₁ _ _ I hx=>⟨pins₁,σ₁,H₁,s₁,I.unwish,hx⟩
section
variable {P:Program} {w:World} {K:PySem.W.Frag} {mg:Str→Option Value} {base:Heap} {N:List Str} {qual:Str} {scope:Scope} {f:Addr} {cd:Value} {A:Around} {outer:List Env} {s:Shared} {H:Hp} {E:XK}
theorem SD {Nc:List Str} {sc:Scope} {pins:List (Addr×Obj)} {σ:St} {H2:Hp} {s2:Shared} {fp:List Addr} {C:Addr} {e acc:Value} {s':Shared} {use:Option (Value→Sem Unit)} {Q:Value→Shared→Prop} {E':Value→Shared→Prop}
  (I2:Inv (qB (kF P w) P w K mg base N qual scope f cd A outer s H E) pins σ H2 s2) (f2:∀b∈fp,JF (qB (kF P w) P w K mg base N qual scope f cd A outer s H E) pins H2 b) (hC:s2.heap.objs.size≤C)
  (hx:dY (qB (kF P w) P w K mg base N qual scope f cd A outer s H E) Nc sc C s2 H2 pins fp (fun c H'=>E c none H') e s') (cells:List (Str×Addr)) :
  wpAny (model P w) (A.deeper (envOfC qual scope s.heap.objs.size f cd)) (noteFrame e (compEnvC sc cells C (envOfC qual scope s.heap.objs.size f cd)))
   (fun _ s''=>compPost (model P w) (A.deeper (envOfC qual scope s.heap.objs.size f cd)) (qB (kF P w) P w K mg base N qual scope f cd A outer s H E).xe use Q acc C (.error e) s'') E' s':=by
 obtain ⟨pins₁,σ₁,H₁,s₁,Ic,a,Cc,H3,rfl,os,bare,un,hok,⟨B,a0,fl,ground⟩,ha,hs1,q⟩:=hx;have J1:Inv (qP (qB (kF P w) P w K mg base N qual scope f cd A outer s H E) Nc sc C s2 H2 pins fp) pins₁ σ₁ H3 s':=Ic.call' (ch:=[]) os un hok bare fun b z=>absurd z (by simp)
 have J0:=J1.pins_of (pins':=[]) fun p hp=>nomatch hp
 have JX:Inv (qB (kF P w) P w K mg base N qual scope f cd A outer s H E) pins σ H3 s':=i3 (σ':=σ) I2 f2 J0;have fl':Heap.FlyingW B (envOfC qual scope s.heap.objs.size f cd::outer) a (.ref Cc) a0 s'.heap:=fl;have hfs:kP (envOfC qual scope s.heap.objs.size f cd::outer)=s.heap.objs.size::kP outer:=rfl;have hst2:s2.heap.FunFrames base (envOfC qual scope s.heap.objs.size f cd::outer):=I2.stack;have hst:s'.heap.FunFrames base (envOfC qual scope s.heap.objs.size f cd::outer):=JX.stack;have ub:Un (kP outer) [] H H3 s.heap s'.heap:=JX.base;have u2:Un (kP outer) [] H H2 s.heap s2.heap:=I2.base;have uc:Un (kP (envOfC qual scope s.heap.objs.size f cd::outer)) fp H2 H₁ s2.heap s₁.heap:=Ic.base;have nfC:C∉kP (envOfC qual scope s.heap.objs.size f cd::outer):=fun z=>by
  obtain ⟨_,o,ho,_⟩:=hst2.mem z;exact absurd (ar ho) (Nat.not_lt_of_le hC)
 have old:∀b,(∃o',s.heap.get? b=some o')→b∉kP outer→b∉kP (envOfC qual scope s.heap.objs.size f cd::outer):=fun b ⟨o',z⟩ n y=>by
  rw [hfs] at y
  rcases aq.mp y with y|y
  ·exact absurd (ar z) (by rw [y];exact cb _)
  ·exact n y
 have zJ:∀b,H3 b≠none→b∉kP (envOfC qual scope s.heap.objs.size f cd::outer):=fun b hb z=>hb (JX.stkFree b z)
 have nfp:∀b,(∃o',s.heap.get? b=some o')→b∉fp:=fun b ⟨o',z⟩ y=>by
  obtain ⟨_,_,_,h4,_⟩:=f2 b y
  rcases h4 with h4|h4
  ·cases h4
  ·exact absurd (ar z) (Nat.not_lt_of_le h4)
 have in1:∀b,(∃o',s.heap.get? b=some o')→∃o',s₁.heap.get? b=some o':=fun b z=>by
  obtain ⟨o',z'⟩:=z;obtain ⟨o2,h2⟩:=u2.there b o' z' (by simp);exact uc.there b o2 h2 (nfp b ⟨o',z'⟩)
 have ltC:∀b,(∃o',s.heap.get? b=some o')→b≠C:=fun b z y=>by
  obtain ⟨o',z'⟩:=z;obtain ⟨o2,h2⟩:=u2.there b o' z' (by simp);exact absurd (ar h2) (Nat.not_lt_of_le (by rw [y];exact hC))
 obtain ⟨m,hns,_⟩:=J0.loc;have hns':s'.heap.Ns C m:=hns;have hBC:∃o,B.get? C=some o:=by
  obtain ⟨m1,hn1,_⟩:=Ic.loc;obtain ⟨o1,_,_,ho1,_⟩:=(show s₁.heap.Ns C m1 from hn1);obtain ⟨o2,_,_,ho2,_⟩:=hns';exact ⟨o2,ground C o2 ho2 nfC (.inr ⟨o1,ho1⟩)⟩
 obtain ⟨oC,hBC⟩:=hBC;have h3C:H3 C=none:=J1.free;have leB:∀b o,(PySem.W.hideAll B [C]).get? b=some o→B.get? b=some o:=fun b o z=>PySem.W.of_hideAll _ z
 have inB:∀b o,b≠C→B.get? b=some o→(PySem.W.hideAll B [C]).get? b=some o:=fun b o n z=>PySem.W.hideAll_get _ z fun y=>n (aR.mp y)
 have noB:∀b,B.get? b=none→(PySem.W.hideAll B [C]).get? b=none:=fun b z=>by
  cases r:(PySem.W.hideAll B [C]).get? b with
  |none=>rfl
  |some v=>rw [leB b v r] at z;cases z
 show wpAny (model P w) (A.deeper (envOfC qual scope s.heap.objs.size f cd)) (noteFrame (.ref a) (envOfC qual scope s.heap.objs.size f cd)) _ _ s';refine wpAny_looks_onW J1.ok.frames rfl fl' fun h4 held up=>?_
 obtain ⟨k1,k2,k3,oe,vs,T,oT,ts,he,hcl,hd,h1,nT,nTe,hT,dT,h3⟩:=held;refine ⟨m,up.ns hns',fun h5 sb cenv _=>?_⟩;have naC:a≠C:=fun z=>by rw [z,hBC] at k2;cases k2
 have nTC:T≠C:=fun z=>by rw [z,hBC] at nT;cases nT
 have he5:h5.get? a=some oe:=(sb.2 a naC).trans he;have hT5:h5.get? T=some oT:=(sb.2 T nTC).trans hT;unfold PySem.passOn;refine ag (cg he5 hd h1 ?_);rw [if_neg (by simp)];unfold setFlight;refine ag (ag (cg he5 hd h1 ?_));rw [if_pos (by simp)];have hz3:3<ts.size:=(dm.mp h3).1;refine wpAny_setField hT5 dT hz3 (wpAny_throw ?_);generalize hfv:(cenv.frame.elim Value.none fun f=>rawInt f)=fv;have oth:∀b,b≠T→(h5.update T (Obj.mapFields (·.setIfInBounds 3 fv))).get? b=h5.get? b:=fun b nb=>ft _ _ (Ne.symm nb)
 have hT6:=ig (Obj.mapFields (·.setIfInBounds 3 fv)) hT5 (Obj.isFreed_of_fields (hV dT _));have tr6:(h5.update T (Obj.mapFields (·.setIfInBounds 3 fv))).TracedAtW (PySem.W.hideAll B [C]) a (.ref Cc) a0 fv:=⟨oe,vs,T,_,_,(oth a (Ne.symm nTe)).trans he5,hcl,hd,h1,noB T nT,nTe,hT6,hV dT _,by simp [hz3]⟩;have keepB:(PySem.W.hideAll B [C]).StaysIn (h5.update T (Obj.mapFields (·.setIfInBounds 3 fv))):=fun b o z=>by
  have zb:=leB b o z;have nb:b≠C:=fun y=>by rw [y,PySem.W.hideAll_none [C] bd] at z;cases z
  have nt:b≠T:=fun y=>by rw [y,nT] at zb;cases zb
  rw [oth b nt,sb.2 b nb];exact k1 b o zb
 have upto:∀b o,b≠C→h4.get? b=some o→(∀vs,o.data≠.fields vs)→(h5.update T (Obj.mapFields (·.setIfInBounds 3 fv))).get? b=some o:=fun b o nb z nf=>by
  have nt:b≠T:=fun y=>by rw [y,hT] at z;cases z;exact nf ts dT
  rw [oth b nt,sb.2 b nb];exact z
 have fr6:(h5.update T (Obj.mapFields (·.setIfInBounds 3 fv))).FunFrames (PySem.W.hideAll B [C]) (envOfC qual scope s.heap.objs.size f cd::outer):=by
  have hk3:=AI leB k3;clear tr6 keepB
  revert hk3
  generalize envOfC qual scope s.heap.objs.size f cd::outer=l at nfC;intro hk3
  induction l with
  |nil=>trivial
  |cons env rest ih =>
   obtain ⟨g1,⟨L,o,g2,g3,g4,g5⟩,g6⟩:=hk3;have hm:L∈kP (env::rest):=dw.mpr ⟨env,bd,g2⟩;refine ⟨g1,⟨L,o,g2,g3,upto L o (fun y=>nfC (by rw [← y];exact hm)) g4 g5,g5⟩,ih (fun z=>nfC ?_) g6⟩;obtain ⟨en,hen,hf⟩:=dw.mp z;exact dw.mpr ⟨en,aK _ hen,hf⟩
 show wpAny (model P w) (A.deeper (envOfC qual scope s.heap.objs.size f cd)) (leaving (envOfC qual scope s.heap.objs.size f cd) (.ref a)) (fun _ s''=>kF P w outer H s E (.ref a) s'') (fun e' s''=>kF P w outer H s E e' s'') _;refine OD (B:=PySem.W.hideAll B [C]) JX.ok.frames fr6 rfl tr6 keepB (noB a k2) fun h7 fly up7=>?_
 have g7:∀b o,s'.heap.get? b=some o→b∉kP (envOfC qual scope s.heap.objs.size f cd::outer)→b≠C→(H3 b≠none∨∃o',s₁.heap.get? b=some o')→(PySem.W.hideAll B [C]).get? b=some o:=fun b o z n nb y=>inB b o nb (ground b o z n y)
 refine ⟨a,Cc,H3,rfl,JX.os,JX.bare,ub.go (fun b o z n _ y=>fly.1 b o (g7 b o z (old b y n) (ltC b y) (.inr (in1 b y)))) (fun b o z n _=>?_),JX.hok.keepT fun b u hb z=>fly.1 b u (g7 b u z (zJ b hb) (fun y=>hb (by rw [y];exact h3C)) (.inl hb)),?_,ha,?_,q⟩
 ·have hm:b∈kP (envOfC qual scope s.heap.objs.size f cd::outer):=by rw [hfs];exact aK _ n
  obtain ⟨_,o',ho',hdd⟩:=hst.mem hm;rw [z] at ho';cases ho'
  obtain ⟨sl,e4⟩:=up b o z hdd;have e6:=upto b _ (fun y=>nfC (by rw [← y];exact hm)) e4 hdd;obtain ⟨sl2,e7⟩:=up7 b _ e6 hdd;exact ⟨sl2,e7⟩
 ·refine ⟨_,a0,fly,fun b o z n y=>?_⟩;have hn:b∉kP (envOfC qual scope s.heap.objs.size f cd::outer):=by
   rcases y with y|y
   ·exact zJ b y
   ·exact old b y n
  have nb:b≠C:=by
   rcases y with y|y
   ·exact fun v=>y (by rw [v];exact h3C)
   ·exact ltC b y
  have h1':∃u,s'.heap.get? b=some u:=by
   rcases y with y|⟨o',y⟩
   ·cases r:H3 b with
    |none=>exact absurd r y
    |some v=>exact JX.hok.there r
   ·exact ub.there b o' y (by simp)
  obtain ⟨u,hu⟩:=h1';have hB:=g7 b u hu hn nb (by
   rcases y with y|y
   ·exact .inl y
   ·exact .inr (in1 b y))
  have:=fly.1 b u hB;have z':h7.get? b=some o:=z;rw [z'] at this;cases this;exact hB
 ·cases r:s.heap.get? a with
  |none=>rfl
  |some v =>
   obtain ⟨u,hu⟩:=in1 a ⟨v,r⟩;rw [hs1] at hu;cases hu
end
theorem OJ {prog:Program} {w:World} {A:Around} {elt target iter:Expr} {ifs:List Expr} {scope:Scope} {pos:Pos} {it acc:Value} {env:Env} {R:Result→Shared→Prop} {s:Shared} (I:Nat→Shared→Prop)
  (turn:∀n s,I n s→wpAny (model prog w) A (pyNext it) (fun r s₁=>match r with
   |none=>R (.ok .next) s₁
   |some v=>wpAny (model prog w) A (letOwnedTupleGo target it v) (fun _ s₁'=>wpAny (model prog w) A (assign target env v) (fun _ s₂ =>
     wpAny (model prog w) A (forIn ifs true fun c r=>if r=true then do let ok ← isTrue c env (eval c env);pure (ForInStep.yield ok) else pure (ForInStep.yield r)) (fun ok s₃ =>
      if ok=true then wpAny (model prog w) A (eval elt env) (fun x s₄ =>
       wpAny (model prog w) A (call (.builtin "list.append") [acc,x]) (fun _ s₅=>∃m,m<n∧I m s₅) (fun _ _=>False) s₄) (notedBy (model prog w) A env fun e s'=>R (.error e) s') s₃
      else ∃m,m<n∧I m s₃) (fun _ _=>False) s₂) (fun _ _=>False) s₁') (fun _ _=>False) s₁) (fun _ _=>False) s)
  (n:Nat) (h:I n s):codeAny (model prog w) A (.compLoop (.ListComp elt [⟨target,iter,ifs,0⟩] scope pos) 0 it acc env) R s:=by
 refine codeAny_loop rfl I (fun n s hI=>?_) n h;show wpAny _ A ((compTurn (.ListComp elt [⟨target,iter,ifs,0⟩] scope pos) 0 it acc env).onRaise (fun x=>do noteFrame x env;theTreesLotGoes x)) _ _ s;refine wpAny_noted ?_;rw [compTurn_list];refine ag (wpAny_standAt (ag (cc (turn n s hI) (fun r s₁ h₁=>?_) fun _ _ h'=>h'.elim)));cases r with
 |none=>exact aQ h₁
 |some v =>
  refine ag (cc h₁ (fun _ s₁' h₁'=>?_) fun _ _ h'=>h'.elim);refine ag (cc h₁' (fun _ s₂ h₂=>ag (cc h₂ (fun ok s₃ h₃=>?_) fun _ _ h'=>h'.elim)) fun _ _ h'=>h'.elim);cases ok with
  |false=>exact aQ ⟨rfl,h₃⟩
  |true =>
   exact ag (ag (cc h₃ (fun x s₄ h₄=>ag (cc h₄ (fun _ s₅ h₅=>aQ (aQ ⟨rfl,h₅⟩)) fun _ _ h'=>h'.elim)) fun _ _ h'=>h'))
section
variable {X:Cx} {N:List Str} {scope:Scope} {pins:List (Addr×Obj)} {σ:St} {H:Hp} {s:Shared} {fp:List Addr}
theorem tI {tg iter elt:Expr} {ifs:List Expr} {pos:Pos} {cap:St→St} {g:TG} {tc:TT} {te:TE} {J:It} {it:Addr} {tn:Nat→Heap→Prop} {Q:Addr→Hp→Prop} {RR:Value→Addr→Result→Shared→Prop} {RX:Value→Hp→Prop}
  (hcalm:X.calm=true) (S:CompScope X scope) (hcap:ZF X N scope cap) (I:Inv X pins σ H s) (T:Turn X.prog X.w X.K tg J fp it tn) (st:tn 0 s.heap) (hf:∀b∈fp,JF X pins H b)
  (hg:∀C,PG (qP X N scope C s H pins fp) tg g) (hc:∀C,cJ (qP X N scope C s H pins fp) ifs tc) (he:∀C,PE ((qP X N scope C s H pins fp).wish (dY X N scope C s H pins fp RX)) elt te)
  (hq:∀D,H D=none→JA D J g tc te (cap σ) H (Q D))
  (hRR:∀D C σc H' s',s.heap.objs.size≤C→Inv (qP X N scope C s H pins fp) [] σc H' s'→Q D H'→RR (.ref D) C (.ok .next) s')
  (hRE:∀D C e s',s.heap.objs.size≤C→dY X N scope C s H pins fp RX e s'→wpAny (model X.prog X.w) X.A (noteFrame e (compEnvC scope (yI X.env.cells scope.names []) C X.env)) (fun _ s''=>RR (.ref D) C (.error e) s'') (fun e' s''=>RR (.ref D) C (.error e') s'') s') :
  wpAny (model X.prog X.w) X.A (newList []) (fun acc s₃=>wpAny (model X.prog X.w) X.A (newFunctionEnv scope X.env.globals (yI X.env.cells scope.names []) [] X.env.qual none .none (some X.env)) (fun cenv s₄ =>
   codeAny (model X.prog X.w) X.A (.compStart (.ListComp elt [⟨tg,iter,ifs,0⟩] scope pos) 0 (.ref it) acc {cenv with scope:=relabel scope X.env}) (RR acc cenv.locals) s₄) X.xe s₃) X.xe s:=by
 refine ib (wpAny_newFunctionEnv S.nocell (by intro y hy;simp at hy) (fun h₁ hns₁ hsb₁=>?_) S.kind)
 dsimp only at hns₁ hsb₁ ⊢
 generalize hH2:s.heap.push {cls:=.type "list",dict:=none,data:=.seq ([]:List Value).toArray}=H2 at hns₁ hsb₁ ⊢;have hC:H2.objs.size=s.heap.objs.size+1:=by rw [← hH2,dh]
 have hDC:s.heap.objs.size≠H2.objs.size:=by rw [hC];exact aP (ii _)
 have hCle:s.heap.objs.size≤H2.objs.size:=by rw [hC];exact Nat.le_succ _
 have below:∀b,b<s.heap.objs.size→b≠H2.objs.size:=fun b hb=>by rw [hC];exact aP (Nat.lt_succ_of_lt hb)
 have old:∀b o,s.heap.get? b=some o→h₁.get? b=some o:=fun b o e=>hsb₁.extBut b o (below b (ar e)) (ak _ (hH2▸ak _ e))
 have hacc:h₁.get? s.heap.objs.size=some {cls:=.type "list",data:=.seq ([]:List Value).toArray}:=hsb₁.extBut _ _ hDC (ak _ (hH2▸az _ rfl));have obj0:=T.obj 0 s.heap st;have I1:∀t',Inv (qP X N scope H2.objs.size s H pins fp) [] (cap σ) (upd H s.heap.objs.size (.lst [])) {s with heap:=h₁,toks:=t'}:=fun t' =>
  SC S I hcap hf (fun b hb=>let ⟨o,e,_⟩:=obj0 b hb;⟨o,e⟩) (aj _) hCle hDC old hns₁ hacc
 have st1:tn 0 h₁:=T.keep 0 s.heap h₁ st fun b _ o e=>old b o e
 have stat:∀{H':Hp},(∀b∈fp,H' b=none)→∀b∈fp,JF (qP X N scope H2.objs.size s H pins fp) [] H' b:=fun hn b hb=>by
  obtain ⟨_,h2,h3,h4,h5,h6⟩:=hf b hb;obtain ⟨o,ho,_⟩:=obj0 b hb;refine ⟨hn b hb,below b (ar ho),?_,.inl hb,fun x c e=>h5 x c (iQ (eZ S I) (fun y d q=>by simp at q) e),fun p hp=>?_⟩
  ·intro z
   rcases aq.mp (I.stkSub b z) with e|e
   ·exact h2 e
   ·exact h3 e
  ·rcases aV.mp hp with z|z
   ·exact h6 p z
   ·cases z
 have fr1:∀b∈fp,upd H s.heap.objs.size (.lst []) b=none:=fun b hb=>by
  obtain ⟨o,ho,_⟩:=obj0 b hb;rw [jX (aP (ar ho))];exact (hf b hb).1
 obtain ⟨W,⟨m0,w0⟩,turn⟩:=hq s.heap.objs.size (I.hok.fresh (aj _));have loop:∀s₃:Shared,s₃={s with heap:=h₁,toks:=s.toks+([]:List (Str×Value)).length}→
   codeAny (model X.prog X.w) X.A (.compLoop (.ListComp elt [⟨tg,iter,ifs,0⟩] scope pos) 0 (.ref it) (.ref s.heap.objs.size) (compEnvC scope (yI X.env.cells scope.names []) H2.objs.size X.env))
    (RR (.ref s.heap.objs.size) H2.objs.size) s₃:=by
  rintro s₃ rfl;refine OJ (fun n s'=>∃i σ' H',Inv (qP X N scope H2.objs.size s H pins fp) [] σ' H' s'∧tn i s'.heap∧(∀b∈fp,H' b=none)∧W i n σ' H') ?_ m0 ⟨0,cap σ,_,I1 _,st1,fr1,w0⟩;rintro n s3 ⟨i,σ3,H3,I3,st3,fr3,w3⟩
  rcases turn i n σ3 H3 w3 with ⟨stop,qn⟩|⟨go,Nn,hN,step⟩
  ·refine jW (T.done (qP X N scope H2.objs.size s H pins fp) rfl rfl rfl hcalm i [] s3 σ3 H3 (fun _ _=>False) I3 (stat fr3) st3 stop) fun r s4 ⟨hr,I4⟩=>?_
   subst hr;exact hRR _ _ σ3 H3 s4 hCle I4 qn
  ·refine jW (T.item (qP X N scope H2.objs.size s H pins fp) rfl rfl rfl hcalm i [] s3 σ3 H3 (fun _ _=>False) I3 (stat fr3) st3 go) fun r s4 ⟨u,hr,h4⟩=>?_
   subst hr;refine jW h4 fun _ s5 ⟨x,H5,I5,r5,y5,st5,fr5⟩=>?_
   have I5':=I5.pinned (stat fr5) (T.obj _ _ st5);have again:∀{σ7:St} {H7:Hp} {s7:Shared},Inv (qP X N scope H2.objs.size s H pins fp) ([]++fQ fp s5.heap) σ7 H7 s7→Nn σ7 H7→
     ∃m,m<n∧∃i σ' H',Inv (qP X N scope H2.objs.size s H pins fp) [] σ' H' s7∧tn i s7.heap∧(∀b∈fp,H' b=none)∧W i m σ' H':=fun {σ7 H7 s7} I7 n7=>by
    obtain ⟨m',hm,w7⟩:=hN σ7 H7 n7;refine ⟨m',hm,i+1,σ7,H7,I7.unpinned,T.keep _ _ _ st5 fun b hb o e=>(I7.pin (b,o) (aX _ (aX _ (iS hb e)))).1,fun b hb=>?_,w7⟩;obtain ⟨o,e,d⟩:=T.obj _ _ st5 b hb;exact (I7.pin (b,o) (aX _ (aX _ (iS hb e)))).2.1
   refine jW (hg _ _ s5 σ3 H5 x u _ I5' r5 (step x H5 y5)) fun _ s6 ⟨σ6,H6,I6,q6⟩=>?_
   refine jW (hc _ _ s6 σ6 H6 _ I6 q6) fun ok s7 ⟨H7,I7,q7⟩=>?_
   cases ok with
   |false=>exact again I7 q7
   |true =>
    refine cc (he _ _ s7 σ6 H7 _ (I7.wish _) q7) (fun v s8 ⟨y,H8,I8,r8,xs,hD8,hz8,n8⟩=>?_) fun e se hx=>hRE _ _ e se hCle hx
    have I8:=I8.unwish;refine jW (yS _ s8 σ6 H8 (.ref s.heap.objs.size) [y] (.ref s.heap.objs.size) [v] (fun _ H9=>Nn σ6 H9) I8 rfl (.cons r8 .nil) ⟨_,_,_,rfl,rfl,hD8,hz8,n8⟩) fun _ s9 ⟨_,H9,I9,_,n9⟩=>?_
    exact again I9 n9
 exact codeAny_compStart_list (loop _ rfl) (cc (T.self X.A 0 _ (fun v s'=>v=.ref it∧s'=_) (fun _ _=>False) st1 ⟨rfl,rfl⟩) (fun v s' ⟨e1,e2⟩=>by subst e1;subst e2;exact loop _ rfl) fun _ _ z=>z.elim)
end
section
variable {P:Program} {w:World} {K:PySem.W.Frag} {mg:Str→Option Value} {base:Heap} {Nf:List Str} {qual:Str} {scf:Scope} {f:Addr} {cd:Value} {A:Around} {outer:List Env} {s₀:Shared} {H₀:Hp} {E:XK}
theorem RI {tg iter elt:Expr} {ifs:List Expr} {scope:Scope} {pos:Pos} {wi:TI} {g:TG} {tc:TT} {te:TE} (N:List Str) (cap:St→St) (S:CompScope (qB (kF P w) P w K mg base Nf qual scf f cd A outer s₀ H₀ E) scope) (hcap:ZF (qB (kF P w) P w K mg base Nf qual scf f cd A outer s₀ H₀ E) N scope cap) (hi:PI (qB (kF P w) P w K mg base Nf qual scf f cd A outer s₀ H₀ E) tg iter wi)
  (hg:∀C s H pins fp,PG (qP (qB (kF P w) P w K mg base Nf qual scf f cd A outer s₀ H₀ E) N scope C s H pins fp) tg g) (hc:∀C s H pins fp,cJ (qP (qB (kF P w) P w K mg base Nf qual scf f cd A outer s₀ H₀ E) N scope C s H pins fp) ifs tc)
  (he:∀C s H pins fp,PE ((qP (qB (kF P w) P w K mg base Nf qual scf f cd A outer s₀ H₀ E) N scope C s H pins fp).wish (dY (qB (kF P w) P w K mg base Nf qual scf f cd A outer s₀ H₀ E) N scope C s H pins fp fun c H'=>E c none H')) elt te)
  (hs:∀x,foldedSetIterable iter (qB (kF P w) P w K mg base Nf qual scf f cd A outer s₀ H₀ E).env x=pure x:=by intro _;rfl):PE (qB (kF P w) P w K mg base Nf qual scf f cd A outer s₀ H₀ E) (.ListComp elt [⟨tg,iter,ifs,0⟩] scope pos) (lW wi cap g tc te):=by
 intro pins s σ H Q I h;rw [eval_ListComp];refine gv (use:=none) rfl hs (rX (eZ S I)) S.kind S.names (jW (hi pins s σ H _ I h) fun v s1 h1=>jW h1 fun itv s2 h2=>?_);obtain ⟨it,fp,tn,J,H2,e,I2,T,st2,f2,q2⟩:=h2;subst e;refine tI (RR:=fun acc C=>compPost (model P w) (A.deeper (envOfC qual scf s₀.heap.objs.size f cd)) (qB (kF P w) P w K mg base Nf qual scf f cd A outer s₀ H₀ E).xe none (EP (qB (kF P w) P w K mg base Nf qual scf f cd A outer s₀ H₀ E) pins σ Q) acc C) (Q:=fun D H'=>Q (.ref D) H') rfl S hcap I2 T st2 f2 (fun C=>hg C _ _ _ _) (fun C=>hc C _ _ _ _) (fun C=>he C _ _ _ _) q2 ?_ ?_
 ·intro D C σc H' s' hC Jc q;obtain ⟨m,hn,_⟩:=Jc.loc;refine ⟨m,hn,fun h' hs'=>?_⟩;exact ⟨.ref D,H',tW I2 hC (i3 (σ':=σ) I2 f2 Jc) Jc.free hs',rfl,q⟩
 ·intro D C e s' hC hx;exact SD I2 f2 hC hx _
end
section
variable {X:Cx}
def qF (z:Str) (k:Nat):Str:=⟨(List.replicate k z.cps).foldl (·++·) #[]⟩
theorem C4 (a:Array Nat):∀(k:Nat) (acc:Array Nat),((List.replicate k a).foldl (·++·) acc).toList=acc.toList++(List.replicate k a.toList).flatten
 |0,acc=>by simp
 |k+1,acc=>by rw [bh,List.foldl_cons,C4 a k,bh,fb,Array.toList_append,List.append_assoc]
theorem tP (z:Str) (k:Nat):(qF z k).cps.toList=(List.replicate k z.cps.toList).flatten:=by
 unfold qF;rw [C4];rfl
theorem i6 (z:Str) (k:Nat):(qF z k).length=k*z.length:=by
 show (qF z k).cps.size=k*z.cps.size;rw [← gq,tP,DT,gq]
def VI:R2:=fun x y H Q=>∃(z:Str) (k:Int),x=.str z∧y=.int k∧0≤k∧k≤100∧z.length≤100∧Q (.str (qF z k.toNat)) H
theorem uD:qH X (binaryOp .Mult) VI:=by
 intro pins s σ H x y v u Q I rx ry h;obtain ⟨z,k,rfl,rfl,h0,h1,hz,q⟩:=h;obtain ⟨t,rfl⟩:=rx;obtain ⟨t',rfl⟩:=ry;have hm:z.length*k.toNat≤10000:=aI (Nat.mul_le_mul hz (show k.toNat≤100 by omega)) (aj _);refine P.mul_str ?_ (fun h2 _=>?_) (fun _ _=>?_) ?_
 ·rw [aJ (by omega),aJ (by omega)];rfl
 ·have:(100:Int)≤(2 ^ 63 - 1) / k:=by
   rw [Int.le_ediv_iff_mul_le (by omega)];omega
  omega
 ·exact aJ (Nat.not_lt.mpr (aI hm (by decide)))
 ·by_cases h2:k<1
  ·rw [if_pos h2];have e:k.toNat=0:=by omega
   rw [e] at q;exact ⟨by decide,.str (qF z 0),H,I.tok _,⟨_,rfl⟩,q⟩
  ·rw [if_neg h2]
   by_cases h3:(k == 1||z.length == 0)=true
   ·rw [if_pos h3];have e:qF z k.toNat=z:=by
     have:(qF z k.toNat).cps.toList=z.cps.toList:=by
      rw [tP]
      rcases Bool.or_eq_true_iff.mp h3 with h|h
      ·rw [show k.toNat=1 by have:=eq_of_beq h;omega];simp
      ·have h:z.cps.size=0:=eq_of_beq h;rw [Array.eq_empty_of_size_eq_zero h];simp
     cases hr:qF z k.toNat with
     |mk a=>rw [hr] at this;obtain ⟨b⟩:=z;exact bu Str.mk (Array.toList_inj.mp this)
    rw [e] at q;exact ⟨.str z,H,I,⟨_,rfl⟩,q⟩
   ·rw [if_neg h3];exact ⟨by show (qF z k.toNat).length≤sizeLine;rw [i6,Nat.mul_comm];exact aI hm (by decide),.str (qF z k.toNat),H,I.tok _,⟨_,rfl⟩,q⟩
end
section
variable {P:Program} {w:World} {K:PySem.W.Frag} {mg:Str→Option Value} {base:Heap}
theorem Fun.ok2 {x qual:Str} {st:Stmt} {f:Addr} {fd:FuncData} {N ps:List Str} {k:Nat} {sp:Sp} (F:Fun K x qual st f fd) (S:FnScope N ps (j8 st))
  (h:∀vs H Q E,sp vs H Q E→vs.length=ps.length∧∀cdv A outer s,Room k (A.deeper (envOfC qual (j8 st) s.heap.objs.size f cdv))→∃t,PSs (qB jQ P w K mg base N qual (j8 st) f cdv A outer s H E).nox (qN st) t∧t {nx:=fun _ H'=>Q .non H',rt:=Q} (start N vs) H):FnOk P w K mg base jQ (k+1) f fd ps sp :=
 F.ok S (fun vs H Q E z=>(h vs H Q E z).1) fun cdv A outer s H vs Q E r z=>(h vs H Q E z).2 cdv A outer s r
theorem Fun.okX2 {x qual:Str} {st:Stmt} {f:Addr} {fd:FuncData} {N ps:List Str} {k:Nat} {sp:Sp} (F:Fun K x qual st f fd) (S:FnScope N ps (j8 st))
  (h:∀vs H Q E,sp vs H Q E→vs.length=ps.length∧∀cdv A outer s,Room k (A.deeper (envOfC qual (j8 st) s.heap.objs.size f cdv))→∃t,PSs (qB (kF P w) P w K mg base N qual (j8 st) f cdv A outer s H E) (qN st) t∧t {nx:=fun _ H'=>Q .non H',rt:=Q} (start N vs) H):FnOk P w K mg base (kF P w) (k+1) f fd ps sp :=
 F.okX S (fun vs H Q E z=>(h vs H Q E z).1) fun cdv A outer s H vs Q E r z=>(h vs H Q E z).2 cdv A outer s r
theorem FunD.ok2 {x qual:Str} {st:Stmt} {f:Addr} {fd:FuncData} {ds:List Value} {N ps:List Str} {k:Nat} {sp:Sp} (F:FunD K x qual st f fd ds) (S:FnScope N ps (j8 st))
  (h:∀vs H Q E,sp vs H Q E→vs.length=ps.length∧∀cdv A outer s,Room k (A.deeper (envOfC qual (j8 st) s.heap.objs.size f cdv))→∃t,PSs (qB jQ P w K mg base N qual (j8 st) f cdv A outer s H E).nox (qN st) t∧t {nx:=fun _ H'=>Q .non H',rt:=Q} (start N vs) H):FnOk P w K mg base jQ (k+1) f fd ps sp :=
 F.ok S (fun vs H Q E z=>(h vs H Q E z).1) fun cdv A outer s H vs Q E r z=>(h vs H Q E z).2 cdv A outer s r
theorem fV {x:Str} {f:Addr} {fd:FuncData} {ps:List Str} {k:Nat} {sp:Sp} (G:FnOk P w K mg base jQ k f fd ps sp) (m:mg x=some (.ref f)) (kp:PySem.W.keepIn K (.ref f)=true) (b:Binds K fd ps []):Def P w K mg base k x ps [] sp:=⟨_,_,[],G,m,kp,.nil,b⟩
theorem lQ {x:Str} {f:Addr} {fd:FuncData} {ps:List Str} {k:Nat} {sp:Sp} (G:FnOk P w K mg base (kF P w) k f fd ps sp) (m:mg x=some (.ref f)) (kp:PySem.W.keepIn K (.ref f)=true) (b:Binds K fd ps []):DefX P w K mg base k x ps [] sp:=⟨_,_,[],G,m,kp,.nil,b⟩
end
section
variable {X:Cx} {a b:Expr} {ta tb:TE} {r:R2} {pos:Pos}
theorem jH (hr:IxR X r) (ha:PE X a ta) (hb:PE X b tb) (hs:EB b:=by exact fun _ _=>rfl):PE X (.Subscript a b pos) (cH r ta tb):=GI hr ha hb hs
theorem JY {op:CmpOp} (ho:qH X (compareOp op) r) (ha:PE X a ta) (hb:PE X b tb) (hm:behindInMarks op b=false:=by first|exact xI _|with_unfolding_all rfl):PE X (.Compare a [op] [b] pos) (cH r ta tb):=S0 ho ha hb hm
theorem j6 {op:CmpOp} (ho:qH X (compareOp op) r) (ha:PE X a ta) (hb:PE X b tb) (hm:behindInMarks op b=false:=by first|exact xI _|with_unfolding_all rfl):PT X (.Compare a [op] [b] pos) (E2 (cH r ta tb)):=GH ho ha hb hm
end
theorem SK {X:Cx} (K:PySem.W.Frag) (h:X.K=K:=by rfl):gF X (FL K):=by subst h;exact UE
theorem so {K:PySem.W.Frag} {H:Hp} {a:Addr} {xs:List V} (h:H a=some (.lst xs)):SqL K H a xs:=SqL.of h
section
variable {X:Cx} {N:List Str} {scope:Scope} {pins:List (Addr×Obj)} {σ:St} {H:Hp} {s:Shared} {fp:List Addr}
theorem noX {C:Addr} {e:Value} {s':Shared} {p:Prop} (h:dY X N scope C s H pins fp (fun _ _=>False) e s'):p:=by
 obtain ⟨_,_,_,_,_,h⟩:=h;obtain ⟨_,_,_,_,_,_,_,_,_,_,_,z⟩:=h;exact z.elim
theorem JR {tg iter elt:Expr} {ifs:List Expr} {pos:Pos} {wi:TI} {g:TG} {tc:TT} {te:TE} (N:List Str) (cap:St→St) (hcalm:X.calm=true) (S:CompScope X scope) (hcap:ZF X N scope cap) (hi:PI X tg iter wi)
  (hg:∀C s H pins fp,PG (qP X N scope C s H pins fp) tg g) (hc:∀C s H pins fp,cJ (qP X N scope C s H pins fp) ifs tc) (he:∀C s H pins fp,PE (qP X N scope C s H pins fp) elt te)
  (hs:∀x,foldedSetIterable iter X.env x=pure x:=by intro _;rfl):PE X (.ListComp elt [⟨tg,iter,ifs,0⟩] scope pos) (lW wi cap g tc te):=by
 intro pins s σ H Q I h;rw [eval_ListComp];refine gv (use:=none) rfl hs (rX (eZ S I)) S.kind S.names (jW (hi pins s σ H _ I h) fun v s1 h1=>jW h1 fun itv s2 h2=>?_);obtain ⟨it,fp,tn,J,H2,e,I2,T,st2,f2,q2⟩:=h2;subst e;refine tI (RX:=fun _ _=>False) (RR:=fun acc C=>compPost (model X.prog X.w) X.A X.xe none (EP X pins σ Q) acc C) (Q:=fun D H'=>Q (.ref D) H') hcalm S hcap I2 T st2 f2 (fun C=>hg C _ _ _ _) (fun C=>hc C _ _ _ _) (fun C=>PE.nox (he C _ _ _ _)) q2 ?_ (fun _ _ _ _ _ hx=>noX hx);intro D C σc H' s' hC Jc q;obtain ⟨m,hn,_⟩:=Jc.loc;refine ⟨m,hn,fun h' hs'=>?_⟩;exact ⟨.ref D,H',tW I2 hC (i3 (σ':=σ) I2 f2 Jc) Jc.free hs',rfl,q⟩
theorem bE {tg iter elt:Expr} {ifs:List Expr} {pos spos py:Pos} {i:Nat} {y:Str} {wi:TI} {g:TG} {tc:TT} {te:TE} (N:List Str) (cap:St→St) (hN:X.N.Nodup) (hy:X.N[i]?=some y) (hloc:eI X.env.scope y) (hcalm:X.calm=true) (S:CompScope X scope) (hcap:ZF X N scope cap) (hi:PI X tg iter wi)
  (hg:∀C s H pins fp,PG (qP X N scope C s H pins fp) tg g) (hc:∀C s H pins fp,cJ (qP X N scope C s H pins fp) ifs tc) (he:∀C s H pins fp,PE (qP X N scope C s H pins fp) elt te)
  (hsw:swapsWith (.ListComp elt [⟨tg,iter,ifs,0⟩] scope pos) (some (.Name y py)) spos.line X.env=pure true:=by rfl)
  (hs:∀x,foldedSetIterable iter X.env x=pure x:=by intro _;rfl) (hfn:X.fn y=true∨X.env.scope.names.lookup y=some .local:=by first|exact .inl rfl|exact .inr rfl|assumption) :
  PS X (.Assign [.Name y py] (.ListComp elt [⟨tg,iter,ifs,0⟩] scope pos) spos) (P9 i wi cap g tc te):=by
 intro pins s σ H D I h;rw [exec_Assign_Name_used _ _ _ _ hsw];refine ag (wpAny_standAt (ag ?_));show wpAny _ X.A (do let _ ← comprehension (.ListComp elt [⟨tg,iter,ifs,0⟩] scope pos) scope X.env _ (newList []) false (eval iter X.env) (some (assign (.Name y py) X.env))) _ _ s;refine ag (cc (gv (use:=some (assign (.Name y py) X.env)) (Q:=fun _ s'=>SP X pins D .next s') rfl hs (rX (eZ S I)) S.kind S.names
  (jW (hi pins s σ H _ I h) fun v s1 h1=>jW h1 fun itv s2 h2=>?_)) (fun _ s' hq=>aQ (aQ hq)) fun _ _ e=>e)
 obtain ⟨it,fp,tn,J,H2,e,I2,T,st2,f2,q2⟩:=h2;subst e;refine tI (RX:=fun _ _=>False) (RR:=fun acc C=>compPost (model X.prog X.w) X.A X.xe (some (assign (.Name y py) X.env)) (fun _ s'=>SP X pins D .next s') acc C) (Q:=fun d H'=>D.nx (σ.set i (some (.ref d))) H') hcalm S hcap I2 T st2 f2 (fun C=>hg C _ _ _ _) (fun C=>hc C _ _ _ _) (fun C=>PE.nox (he C _ _ _ _)) q2 ?_ (fun _ _ _ _ _ hx=>noX hx);intro d C σc H' s' hC Jc q;obtain ⟨m,hn,_⟩:=Jc.loc;have J1:Inv X pins σ H' s':=i3 (σ':=σ) I2 f2 Jc;show wpAny _ X.A (assign (.Name y py) X.env (.ref d)) _ _ _;refine wpAny_assign_Name (BG (v:=.ref d) J1 hN hy hloc rfl (fun s'' J2 hsb=>?_) hfn);obtain ⟨a,sb,ha⟩:=hsb;have haC:C≠a:=by
  rcases ha with e|e
  ·rw [e];exact fg (ax I2.lt hC)
  ·obtain ⟨v,q'⟩:=I2.cell y a e;exact fg (ax q'.lt hC)
 refine ⟨m,hn.sameBut sb haC,fun h' hs'=>?_⟩;exact ⟨_,H',tW I2 hC J2 Jc.free hs',q⟩
end
theorem jR {N P:List Str} {sc:Scope} (a:sc.kind=.function:=by rfl) (b:sc.isCoroutine=false:=by rfl) (c:sc.isGenerator=false:=by rfl) (d:N.Nodup:=by decide +kernel) (e:N.take P.length=P:=by rfl)
  (f:∀x∈P,sc.names.lookup x=some .local∨sc.names.lookup x=some .cell:=by decide +kernel) (g:∀y∈sc.names,y.2≠.free:=by decide +kernel):FnScope N P sc:=⟨a,b,c,d,e,f,g⟩
theorem vM {X:Cx} {scope:Scope} (sc:Scope) (a:X.env.scope=sc:=by rfl) (b:scope.kind=.function:=by rfl) (c:∀y∈scope.names,y.2≠.cell:=by decide +kernel) (d:∀y∈scope.names,y.2=.local→scope.names.lookup y.1=some .local:=by decide +kernel)
  (e:∀y∈scope.names,y.2=.free→sc.names.lookup y.1=some .cell∨sc.names.lookup y.1=some .free:=by decide +kernel):CompScope X scope:=GM sc a b c d e
theorem cps {X:Cx} {N:List Str} {scope:Scope} (n:Nat) (js:List Nat) (a:N.length=n+js.length:=by rfl) (b:js.map (fun j=>X.N[j]?)=(N.drop n).map some:=by rfl) (c:∀x∈N.drop n,scope.names.lookup x=some .free:=by decide +kernel):ZF X N scope (vF n js):=GN n js a b c
inductive GK where
 |i (n:Int)
 |s (t:Str)
 |nil
 |cons (a b:GK)
 deriving DecidableEq
section
variable {prog:Program} {w:World} {E:Value→Shared→Prop}
end
section
variable {s:Shared}
end
section
variable {prog:Program} {w:World} {E:Value→Shared→Prop} {s:Shared}
abbrev xE:=GK×Value×Value
end
section
variable {prog:Program} {w:World} {A:Around} {E:Value→Shared→Prop} {s:Shared}
end
section
variable {prog:Program} {w:World} {A:Around} {E:Value→Shared→Prop} {s:Shared} {d:Addr} {xs:List xE} {k:GK} {key v:Value}
end
section
variable {P:Program} {w:World} {H:Hp} {h:Heap}
end
abbrev GF:=GK×V×V
section
variable {X:Cx} {pins:List (Addr×Obj)} {σ:St} {H:Hp} {s:Shared} {d:Addr} {k:GK} {y v:V} {u r:Value} {A:Around} {E:Value→Shared→Prop} {kvs:List GF}
end
section
variable {X:Cx} {o i e value:Expr} {pos pos':Pos} {td ty tv:TE}
end
section
variable {X:Cx} {pins:List (Addr×Obj)} {σ:List (Option V)} {H:Hp} {s:Shared}
end
def kL (H:Hp) (cs:List Addr):Hp:=fun b=>if b∈cs then none else H b
theorem ZQ {H:Hp} {cs:List Addr} {b:Addr} (h:b∈cs):kL H cs b=none:=if_pos h
theorem v7 {H:Hp} {cs:List Addr} {b:Addr} (h:b∉cs):kL H cs b=H b:=if_neg h
section
variable {P:Program} {w:World} {H H' HC:Hp} {h h':Heap} {cs fs:List Addr}
end
section
variable {CX:yG} {P:Program} {w:World} {K:PySem.W.Frag} {mg:Str→Option Value} {base:Heap} {N ps fr:List Str} {qual:Str} {params:Arguments} {body:List Stmt} {scope:Scope} {f:Addr} {cdv:Value} {fd:FuncData} {cl:List (Str×Addr)} {A:Around} {outer:List Env} {s:Shared} {H:Hp} {E:XK} {Q:VK} {us:List Value} {vs fvs:List V} {k:Nat} {args:Args}
end
section
variable {X:Cx} {CX:yG} {k:Nat} {sp:Addr→Sp} {E:XK} {x:Str} {p pos:Pos} {e:Expr} {es:List Expr} {t:TA} {i:Nat}
end
section
variable {X:Cx} {k k':Nat} {f:Addr} {fd:FuncData} {ps:List Str} {sp:Sp} {dvs:List V} {ds:List Value} {x:Str} {p pos:Pos} {e:Expr} {es:List Expr} {t:TA} {cs:List (Nat×Addr)}
end
section
variable {X:Cx} {pins:List (Addr×Obj)} {σ:List (Option V)} {H:Hp} {s:Shared}
end
section
variable {P:Program} {w:World} {K:PySem.W.Frag} {mg:Str→Option Value} {base:Heap}
end
section
variable {prog:Program} {w:World} {A:Around} {E:Value→Shared→Prop} {s:Shared} {d:Addr} {xs:List xE} {k:GK} {key v:Value}
end
section
variable {X:Cx} {pins:List (Addr×Obj)} {σ:St} {H:Hp} {s:Shared} {d:Addr} {k:GK} {y v:V} {u r:Value} {A:Around} {E:Value→Shared→Prop} {kvs:List GF}
end
section
variable {X:Cx} {o i e value:Expr} {pos pos':Pos} {td ty tv:TE}
end
section
variable {X:Cx} {o i:Expr} {pos:Pos} {td ty:TE}
end
section
variable {X:Cx} {pins:List (Addr×Obj)} {σ:St} {H:Hp} {s:Shared}
end
section
variable {prog:Program} {w:World} {A:Around} {s:Shared} {E:Value→Shared→Prop}
end
section
variable {X:Cx}
end
section
variable {prog:Program} {w:World} {A:Around} {E:Value→Shared→Prop} {s:Shared} {d it:Addr} {xs:List xE} {o:Obj} {es:Array DictEntry} {i ep:Nat}
end
section
variable {X:Cx} {tg:Expr}
end
theorem TQ {A:Around} {k:Nat} (hr:Room k A):A.units+15<cLine:=by have:=hr.units;omega
section
variable {X:Cx} {pins:List (Addr×Obj)} {σ:St} {H:Hp} {s:Shared}
end
section
variable {M:Model} {A:Around} {E:Value→Shared→Prop} {s:Shared}
end
section
variable {P:Program} {w:World} {H H':Hp} {h:Heap} {cs:List Addr}
end
section
variable {CX:yG} {P:Program} {w:World} {K:PySem.W.Frag} {mg:Str→Option Value} {base:Heap} {N fr:List Str} {x:Str} {b:Bool} {qual:Str} {params:Arguments} {body:Expr} {scope:Scope} {f:Addr} {cdv:Value} {cl:List (Str×Addr)} {A:Around} {outer:List Env} {s:Shared} {H:Hp} {E:XK} {Q:VK} {u:Value} {v:V} {fvs:List V} {k:Nat} {args:Args}
end
section
variable {X:Cx} {pins:List (Addr×Obj)} {σ:List (Option V)} {H:Hp} {s:Shared}
end
variable {P:List Value→Prop}
theorem eE (h:P []):∀us:List Value,us.length=0→P us
 |[],_=>h
theorem gC (h:∀a0,P [a0]) (us:List Value) (hl:us.length=1):P us:=by
 cases us with
 |nil=>cases hl
 |cons a us=>exact eE (P:=fun l=>P (a::l)) (h a) us (gx hl)
theorem us2 (h:∀a0 a1,P [a0,a1]) (us:List Value) (hl:us.length=2):P us:=by
 cases us with
 |nil=>cases hl
 |cons a us=>exact gC (P:=fun l=>P (a::l)) (fun a1=>h a a1) us (gx hl)
theorem gB (h:∀a0 a1 a2,P [a0,a1,a2]) (us:List Value) (hl:us.length=3):P us:=by
 cases us with
 |nil=>cases hl
 |cons a us=>exact us2 (P:=fun l=>P (a::l)) (fun a1 a2=>h a a1 a2) us (gx hl)
theorem mU (h:∀a0 a1 a2 a3,P [a0,a1,a2,a3]) (us:List Value) (hl:us.length=4):P us:=by
 cases us with
 |nil=>cases hl
 |cons a us=>exact gB (P:=fun l=>P (a::l)) (fun a1 a2 a3=>h a a1 a2 a3) us (gx hl)
theorem wW (h:∀a0 a1 a2 a3 a4,P [a0,a1,a2,a3,a4]) (us:List Value) (hl:us.length=5):P us:=by
 cases us with
 |nil=>cases hl
 |cons a us=>exact mU (P:=fun l=>P (a::l)) (fun a1 a2 a3 a4=>h a a1 a2 a3 a4) us (gx hl)
theorem wV (h:∀a0 a1 a2 a3 a4 a5,P [a0,a1,a2,a3,a4,a5]) (us:List Value) (hl:us.length=6):P us:=by
 cases us with
 |nil=>cases hl
 |cons a us=>exact wW (P:=fun l=>P (a::l)) (fun a1 a2 a3 a4 a5=>h a a1 a2 a3 a4 a5) us (gx hl)
theorem WW (h:∀a0 a1 a2 a3 a4 a5 a6,P [a0,a1,a2,a3,a4,a5,a6]) (us:List Value) (hl:us.length=7):P us:=by
 cases us with
 |nil=>cases hl
 |cons a us=>exact wV (P:=fun l=>P (a::l)) (fun a1 a2 a3 a4 a5 a6=>h a a1 a2 a3 a4 a5 a6) us (gx hl)
end L2
namespace L2
open PySem PySem.Spec PyProof.Rows
section
variable {CX:yG} {P:Program} {w:World} {K:PySem.W.Frag} {mg:Str→Option Value} {base:Heap} {N fr:List Str} {x:Str} {b:Bool} {qual:Str} {params:Arguments} {body:List Stmt} {scope:Scope} {f:Addr} {cdv:Value} {cl:List (Str×Addr)} {A:Around} {outer:List Env} {s:Shared} {H:Hp} {E:XK} {Q:VK} {u:Value} {v:V} {fvs:List V} {k:Nat} {args:Args} {fd:FuncData}
end
section
variable {X:Cx}
end
section
variable {X:Cx} {a b c d e f g h:Expr} {ta tb tc td te tf tg th:TE}
theorem j7 (h1:PE X a ta) (h2:PE X b tb) (h3:PE X c tc) (s1:starEach [a,b,c] X.env=(false,eval a X.env)::starEach [b,c] X.env:=by rfl) (s2:starEach [b,c] X.env=(false,eval b X.env)::starEach [c] X.env:=by rfl) (s3:starEach [c] X.env=(false,eval c X.env)::starEach [] X.env:=by rfl):PA X [a,b,c] (vZ ta (vZ tb (vZ tc Z0))):=jB h1 (jB h2 (jB h3 jD s3) s2) s1
theorem vG (h1:PE X a ta) (h2:PE X b tb) (h3:PE X c tc) (h4:PE X d td) (s1:starEach [a,b,c,d] X.env=(false,eval a X.env)::starEach [b,c,d] X.env:=by rfl) (s2:starEach [b,c,d] X.env=(false,eval b X.env)::starEach [c,d] X.env:=by rfl) (s3:starEach [c,d] X.env=(false,eval c X.env)::starEach [d] X.env:=by rfl) (s4:starEach [d] X.env=(false,eval d X.env)::starEach [] X.env:=by rfl):PA X [a,b,c,d] (vZ ta (vZ tb (vZ tc (vZ td Z0)))):=jB h1 (jB h2 (jB h3 (jB h4 jD s4) s3) s2) s1
theorem eG (h1:PE X a ta) (h2:PE X b tb) (h3:PE X c tc) (h4:PE X d td) (h5:PE X e te) (s1:starEach [a,b,c,d,e] X.env=(false,eval a X.env)::starEach [b,c,d,e] X.env:=by rfl) (s2:starEach [b,c,d,e] X.env=(false,eval b X.env)::starEach [c,d,e] X.env:=by rfl) (s3:starEach [c,d,e] X.env=(false,eval c X.env)::starEach [d,e] X.env:=by rfl) (s4:starEach [d,e] X.env=(false,eval d X.env)::starEach [e] X.env:=by rfl) (s5:starEach [e] X.env=(false,eval e X.env)::starEach [] X.env:=by rfl):PA X [a,b,c,d,e] (vZ ta (vZ tb (vZ tc (vZ td (vZ te Z0))))):=jB h1 (jB h2 (jB h3 (jB h4 (jB h5 jD s5) s4) s3) s2) s1
theorem FZ (h1:PE X a ta) (h2:PE X b tb) (h3:PE X c tc) (h4:PE X d td) (h5:PE X e te) (h6:PE X f tf) (s1:starEach [a,b,c,d,e,f] X.env=(false,eval a X.env)::starEach [b,c,d,e,f] X.env:=by rfl) (s2:starEach [b,c,d,e,f] X.env=(false,eval b X.env)::starEach [c,d,e,f] X.env:=by rfl) (s3:starEach [c,d,e,f] X.env=(false,eval c X.env)::starEach [d,e,f] X.env:=by rfl) (s4:starEach [d,e,f] X.env=(false,eval d X.env)::starEach [e,f] X.env:=by rfl) (s5:starEach [e,f] X.env=(false,eval e X.env)::starEach [f] X.env:=by rfl) (s6:starEach [f] X.env=(false,eval f X.env)::starEach [] X.env:=by rfl):PA X [a,b,c,d,e,f] (vZ ta (vZ tb (vZ tc (vZ td (vZ te (vZ tf Z0)))))):=jB h1 (jB h2 (jB h3 (jB h4 (jB h5 (jB h6 jD s6) s5) s4) s3) s2) s1
theorem jV (i:Nat) {x:Str} {pos pos':Pos} (hN:X.N.Nodup) (he:PE X a ta) (hi:X.N[i]?=some x:=by rfl) (hx:eI X.env.scope x:=by first|exact .inl rfl|exact .inr rfl) (hs:swapsWith a (some (.Name x pos')) pos.line X.env=pure false:=by rfl) (hf:X.fn x=true∨X.env.scope.names.lookup x=some .local:=by first|exact .inl rfl|exact .inr rfl|assumption):PS X (.Assign [.Name x pos'] a pos) (wJ ta (Q4 i)):=GJ hN hi hx he hs hf
theorem qS (K:PySem.W.Frag) {p pos:Pos} (hm:X.mg "len"=none) (ha:PE X a ta) (hK:X.K=K:=by rfl) (hg:Gl X "len":=by rfl) (he:starEach [a] X.env=(false,eval a X.env)::starEach [] X.env:=by rfl) (hpl:(backTo pos (starEach [] X.env)).any (·.1)=false:=by rfl):PE X (.Call (.Name "len" p) [a] [] pos) (wX (fun xs H Q=>∃p ys,xs=[.ref p]∧(SqL K H p ys∨SqT K H p ys)∧Q (.int ys.length) H) (vZ ta Z0)):=y7 (ND K hK) hg hm PySem.boot_len (jB ha jD he) (he:=he) (hpl:=hpl)
theorem jM {pos:Pos} (h:PE X a ta):PSs X [.Return (some a) pos] (FI ta):=kH (xH h)
end
abbrev jS (n:Nat) (N:List Str) (st:Stmt):Prop:=FnScope N (N.take n) (j8 st)
abbrev kB (K:PySem.W.Frag) (x:Str) (st:Stmt) (f:Addr) (fd:FuncData):Prop:=Fun K x x st f fd
abbrev kA (K:PySem.W.Frag) (x:Str) (st:Stmt):Prop:=∃f fd,PySem.W.nsIn K mainGlobals x=some (some (.ref f))∧Fun K x x st f fd
section
variable {P:Program} {w:World} {K:PySem.W.Frag} {mg:Str→Option Value} {base h:Heap} {x q:Str} {st:Stmt} {f:Addr} {fd:FuncData} {k:Nat} {sp:Sp} {p0 p1 p2 p3 p4 p5 p6:Str}
theorem fnT_mk {oc:Value} {od an:Option Addr} {osl:Array (Option Value)} {kV doc pm cdv ct:Value} (a:PySem.W.nsIn K mainGlobals x=some (some (.ref f))) (l:K.lookup f=some ⟨oc,od,.func (PySem.W.fnOf x x (vI st) (qN st) (j8 st) .none kV doc pm an cdv ct),osl⟩) (c:PySem.W.codeIn K cdv x=true) (k:PySem.W.keepIn K (.ref f)=true):kA K x st:=⟨_,_,a,gL l c k⟩
theorem gE (X:K.In h) (G:h.Ns mainGlobals mg) (a:PySem.W.nsIn K mainGlobals x=some (some (.ref f))) (F:Fun K x q st f fd) (ok:FnOk P w K mg base jQ k f fd [p0] sp) (hb:∀(kV doc pm:Value) (an:Option Addr) (cdv ct a0:Value),bindArgs (PySem.W.fnOf x q (vI st) (qN st) (j8 st) .none kV doc pm an cdv ct) ⟨[a0],[]⟩=pure ([p0].zip [a0]):=by intros;rfl):Def P w K mg base k x [p0] [] sp:=fV ok (aG X G a) F.kp (F.binds fun kV doc pm an cdv ct=>gC (hb kV doc pm an cdv ct))
theorem yQ (X:K.In h) (G:h.Ns mainGlobals mg) (a:PySem.W.nsIn K mainGlobals x=some (some (.ref f))) (F:Fun K x q st f fd) (ok:FnOk P w K mg base jQ k f fd [p0,p1] sp) (hb:∀(kV doc pm:Value) (an:Option Addr) (cdv ct a0 a1:Value),bindArgs (PySem.W.fnOf x q (vI st) (qN st) (j8 st) .none kV doc pm an cdv ct) ⟨[a0,a1],[]⟩=pure ([p0,p1].zip [a0,a1]):=by intros;rfl):Def P w K mg base k x [p0,p1] [] sp:=fV ok (aG X G a) F.kp (F.binds fun kV doc pm an cdv ct=>us2 (hb kV doc pm an cdv ct))
theorem zS (X:K.In h) (G:h.Ns mainGlobals mg) (a:PySem.W.nsIn K mainGlobals x=some (some (.ref f))) (F:Fun K x q st f fd) (ok:FnOk P w K mg base (kF P w) k f fd [p0,p1] sp) (hb:∀(kV doc pm:Value) (an:Option Addr) (cdv ct a0 a1:Value),bindArgs (PySem.W.fnOf x q (vI st) (qN st) (j8 st) .none kV doc pm an cdv ct) ⟨[a0,a1],[]⟩=pure ([p0,p1].zip [a0,a1]):=by intros;rfl):DefX P w K mg base k x [p0,p1] [] sp:=lQ ok (aG X G a) F.kp (F.binds fun kV doc pm an cdv ct=>us2 (hb kV doc pm an cdv ct))
theorem y6 (X:K.In h) (G:h.Ns mainGlobals mg) (a:PySem.W.nsIn K mainGlobals x=some (some (.ref f))) (F:Fun K x q st f fd) (ok:FnOk P w K mg base jQ k f fd [p0,p1,p2] sp) (hb:∀(kV doc pm:Value) (an:Option Addr) (cdv ct a0 a1 a2:Value),bindArgs (PySem.W.fnOf x q (vI st) (qN st) (j8 st) .none kV doc pm an cdv ct) ⟨[a0,a1,a2],[]⟩=pure ([p0,p1,p2].zip [a0,a1,a2]):=by intros;rfl):Def P w K mg base k x [p0,p1,p2] [] sp:=fV ok (aG X G a) F.kp (F.binds fun kV doc pm an cdv ct=>gB (hb kV doc pm an cdv ct))
theorem w9 (X:K.In h) (G:h.Ns mainGlobals mg) (a:PySem.W.nsIn K mainGlobals x=some (some (.ref f))) (F:Fun K x q st f fd) (ok:FnOk P w K mg base (kF P w) k f fd [p0,p1,p2] sp) (hb:∀(kV doc pm:Value) (an:Option Addr) (cdv ct a0 a1 a2:Value),bindArgs (PySem.W.fnOf x q (vI st) (qN st) (j8 st) .none kV doc pm an cdv ct) ⟨[a0,a1,a2],[]⟩=pure ([p0,p1,p2].zip [a0,a1,a2]):=by intros;rfl):DefX P w K mg base k x [p0,p1,p2] [] sp:=lQ ok (aG X G a) F.kp (F.binds fun kV doc pm an cdv ct=>gB (hb kV doc pm an cdv ct))
theorem zT (X:K.In h) (G:h.Ns mainGlobals mg) (a:PySem.W.nsIn K mainGlobals x=some (some (.ref f))) (F:Fun K x q st f fd) (ok:FnOk P w K mg base jQ k f fd [p0,p1,p2,p3] sp) (hb:∀(kV doc pm:Value) (an:Option Addr) (cdv ct a0 a1 a2 a3:Value),bindArgs (PySem.W.fnOf x q (vI st) (qN st) (j8 st) .none kV doc pm an cdv ct) ⟨[a0,a1,a2,a3],[]⟩=pure ([p0,p1,p2,p3].zip [a0,a1,a2,a3]):=by intros;rfl):Def P w K mg base k x [p0,p1,p2,p3] [] sp:=fV ok (aG X G a) F.kp (F.binds fun kV doc pm an cdv ct=>mU (hb kV doc pm an cdv ct))
theorem W8 (X:K.In h) (G:h.Ns mainGlobals mg) (a:PySem.W.nsIn K mainGlobals x=some (some (.ref f))) (F:Fun K x q st f fd) (ok:FnOk P w K mg base (kF P w) k f fd [p0,p1,p2,p3] sp) (hb:∀(kV doc pm:Value) (an:Option Addr) (cdv ct a0 a1 a2 a3:Value),bindArgs (PySem.W.fnOf x q (vI st) (qN st) (j8 st) .none kV doc pm an cdv ct) ⟨[a0,a1,a2,a3],[]⟩=pure ([p0,p1,p2,p3].zip [a0,a1,a2,a3]):=by intros;rfl):DefX P w K mg base k x [p0,p1,p2,p3] [] sp:=lQ ok (aG X G a) F.kp (F.binds fun kV doc pm an cdv ct=>mU (hb kV doc pm an cdv ct))
theorem GC (X:K.In h) (G:h.Ns mainGlobals mg) (a:PySem.W.nsIn K mainGlobals x=some (some (.ref f))) (F:Fun K x q st f fd) (ok:FnOk P w K mg base jQ k f fd [p0,p1,p2,p3,p4] sp) (hb:∀(kV doc pm:Value) (an:Option Addr) (cdv ct a0 a1 a2 a3 a4:Value),bindArgs (PySem.W.fnOf x q (vI st) (qN st) (j8 st) .none kV doc pm an cdv ct) ⟨[a0,a1,a2,a3,a4],[]⟩=pure ([p0,p1,p2,p3,p4].zip [a0,a1,a2,a3,a4]):=by intros;rfl):Def P w K mg base k x [p0,p1,p2,p3,p4] [] sp:=fV ok (aG X G a) F.kp (F.binds fun kV doc pm an cdv ct=>wW (hb kV doc pm an cdv ct))
abbrev vH (K:PySem.W.Frag) (C:Addr) (x q:Str) (st:Stmt):Prop:=∃f fd,PySem.W.findIn K (.ref C) x=some (some (.ref f))∧PySem.W.isFn K (.ref f)=true∧Fun K x q st f fd
abbrev qC (K:PySem.W.Frag) (x:Str) (v:Option Value):Prop:=PySem.W.nsIn K mainGlobals x=some v
abbrev kN (K:PySem.W.Frag) (C:Addr) (x:Str) (v:Option Value):Prop:=PySem.W.findIn K (.ref C) x=some v
theorem nsP_mk {v:Option Value} (h:PySem.W.nsIn K mainGlobals x=some v):qC K x v:=h
theorem fnP_mk {C:Addr} {v:Option Value} (h:PySem.W.findIn K (.ref C) x=some v):kN K C x v:=h
theorem fnC_mk {C:Addr} {oc:Value} {od an:Option Addr} {osl:Array (Option Value)} {kV doc pm cdv ct:Value} (a:PySem.W.findIn K (.ref C) x=some (some (.ref f))) (i:PySem.W.isFn K (.ref f)=true) (l:K.lookup f=some ⟨oc,od,.func (PySem.W.fnOf x q (vI st) (qN st) (j8 st) .none kV doc pm an cdv ct),osl⟩) (c:PySem.W.codeIn K cdv q=true) (k:PySem.W.keepIn K (.ref f)=true):vH K C x q st:=⟨_,_,a,i,gL l c k⟩
theorem JP {C:Addr} (cl:Cls K C) (a:PySem.W.findIn K (.ref C) x=some (some (.ref f))) (i:PySem.W.isFn K (.ref f)=true) (F:Fun K x q st f fd) (ok:FnOk P w K mg base jQ k f fd [p0] sp) (hb:∀(kV doc pm:Value) (an:Option Addr) (cdv ct a0:Value),bindArgs (PySem.W.fnOf x q (vI st) (qN st) (j8 st) .none kV doc pm an cdv ct) ⟨[a0],[]⟩=pure ([p0].zip [a0]):=by intros;rfl):MeD P w K mg base k C x [p0] sp:=⟨cl,_,_,⟨a,i,F.kp⟩,ok,F.binds fun kV doc pm an cdv ct=>gC (hb kV doc pm an cdv ct)⟩
theorem eH {C:Addr} (cl:Cls K C) (a:PySem.W.findIn K (.ref C) x=some (some (.ref f))) (i:PySem.W.isFn K (.ref f)=true) (F:Fun K x q st f fd) (ok:FnOk P w K mg base jQ k f fd [p0,p1] sp) (hb:∀(kV doc pm:Value) (an:Option Addr) (cdv ct a0 a1:Value),bindArgs (PySem.W.fnOf x q (vI st) (qN st) (j8 st) .none kV doc pm an cdv ct) ⟨[a0,a1],[]⟩=pure ([p0,p1].zip [a0,a1]):=by intros;rfl):MeD P w K mg base k C x [p0,p1] sp:=⟨cl,_,_,⟨a,i,F.kp⟩,ok,F.binds fun kV doc pm an cdv ct=>us2 (hb kV doc pm an cdv ct)⟩
theorem W6 {C:Addr} (cl:Cls K C) (a:PySem.W.findIn K (.ref C) x=some (some (.ref f))) (i:PySem.W.isFn K (.ref f)=true) (F:Fun K x q st f fd) (ok:FnOk P w K mg base jQ k f fd [p0,p1,p2] sp) (hb:∀(kV doc pm:Value) (an:Option Addr) (cdv ct a0 a1 a2:Value),bindArgs (PySem.W.fnOf x q (vI st) (qN st) (j8 st) .none kV doc pm an cdv ct) ⟨[a0,a1,a2],[]⟩=pure ([p0,p1,p2].zip [a0,a1,a2]):=by intros;rfl):MeD P w K mg base k C x [p0,p1,p2] sp:=⟨cl,_,_,⟨a,i,F.kp⟩,ok,F.binds fun kV doc pm an cdv ct=>gB (hb kV doc pm an cdv ct)⟩
end
section
variable {X:Cx} {scope:Scope}
theorem wZ {x:Str} {iter elt:Expr} {ifs:List Expr} {p pos:Pos} {wi:TI} {tc:TT} {te:TE} (N:List Str) (is:List Nat) (S:CompScope X scope) (hi:PI X (.Name x p) iter wi) (hc:∀C s H pins fp,cJ (qP X N scope C s H pins fp) ifs tc) (he:∀C s H pins fp,PE (qP X N scope C s H pins fp) elt te)
  (hnd:N.Nodup:=by decide +kernel) (hcap:ZF X N scope (vF 1 is):=by exact cps 1 _) (h0:N[0]?=some x:=by rfl) (hl:∀C s H pins fp,List.lookup x (qP X N scope C s H pins fp).env.scope.names=some .local:=by intros;rfl) (hcalm:X.calm=true:=by rfl) (hs:∀x,foldedSetIterable iter X.env x=pure x:=by intro _;rfl):PE X (.ListComp elt [⟨.Name x p,iter,ifs,0⟩] scope pos) (lW wi (vF 1 is) (Q4 0) tc te) :=
 JR N (vF 1 is) hcalm S hcap hi (fun C s H pins fp=>kU (X:=qP X N scope C s H pins fp) hnd h0 (.inl (hl C s H pins fp)) (.inr (hl C s H pins fp))) hc he hs
theorem mL {x:Str} {iter elt:Expr} {p pos:Pos} {wi:TI} {te:TE} (N:List Str) (is:List Nat) (S:CompScope X scope) (hi:PI X (.Name x p) iter wi) (he:∀C s H pins fp,PE (qP X N scope C s H pins fp) elt te)
  (hnd:N.Nodup:=by decide +kernel) (hcap:ZF X N scope (vF 1 is):=by exact cps 1 _) (h0:N[0]?=some x:=by rfl) (hl:∀C s H pins fp,List.lookup x (qP X N scope C s H pins fp).env.scope.names=some .local:=by intros;rfl) (hcalm:X.calm=true:=by rfl) (hs:∀x,foldedSetIterable iter X.env x=pure x:=by intro _;rfl):PE X (.ListComp elt [⟨.Name x p,iter,[],0⟩] scope pos) (lW wi (vF 1 is) (Q4 0) wI te) :=
 JR N (vF 1 is) hcalm S hcap hi (fun C s H pins fp=>kU (X:=qP X N scope C s H pins fp) hnd h0 (.inl (hl C s H pins fp)) (.inr (hl C s H pins fp))) (fun _ _ _ _ _=>yR) he hs
end
section
variable {X:Cx} {k:Nat} {sp:Addr→Sp} {x:Str} {p pos:Pos} {e:Expr} {es:List Expr} {t:TA} {i:Nat} {cs:List (Nat×Addr)}
end
end L2
namespace HT
open PySem PySem.Spec PyProof.Rows
variable {prog:Program} {w:World} {A:Around} {s:Shared} {E:Value→Shared→Prop}
theorem cat_tup0 {t b:Addr} {ws:List Value} {Q:Value→Shared→Prop} (ht:IsTup s.heap t #[]) (hb:IsTup s.heap b ws.toArray) (h1:Q (.ref b) s):wpAny (model prog w) A (binaryOp .Add (.ref t) (.ref b)) Q E s:=by
 obtain ⟨⟨cls,dd,data,sl⟩,ho,hc,n,hd⟩:=id ht;obtain ⟨⟨cls2,dd2,data2,sl2⟩,ho2,hc2,n2,hd2⟩:=id hb;simp only at hc hd hc2 hd2;subst hc hd hc2 hd2;exact concat_meets ⟨_,ho,rfl⟩ ⟨_,ho2,rfl⟩ noFill_tuple_add seq_tuple_add PySem.F.slot_tuple_add PySem.F.entry_tuple_add (PySem.F.args_tuple_add_2 _ _) (tuple_addW0 t b #[] ws.toArray n n2 dd dd2 sl sl2 rfl) ⟨ho,ho2,h1⟩
end HT
namespace L2
open PySem PySem.Spec PyProof.Rows
theorem EM {X:Cx} {ss:List Stmt}:PSs X ss (fun _ _ _=>False):=fun _ _ _ _ _ _ h=>h.elim
section
variable {X:Cx}
def UJ (K:PySem.W.Frag):R2:=fun x y H Q=>∃a b xs ys,x=.ref a∧y=.ref b∧SqT K H a xs∧SqT K H b ys∧ys≠[]∧xs.length+ys.length≤sizeLine∧(xs=[]→Q (.ref b) H)∧(xs≠[]→∀p,H p=none→Q (.ref p) (upd H p (.tup (xs++ys))))
theorem CV:qH X (binaryOp .Add) (UJ X.K):=by
 intro pins s σ H x y v u Q I rx ry h;obtain ⟨a,b,xs,ys,rfl,rfl,ha,hb,hy,hz,q1,q2⟩:=h
 by_cases hx:xs=[]
 ·subst hx;cases rx;cases ry;obtain ⟨its,r1,p1,_⟩:=I.tuple ha;obtain ⟨its2,r2,p2,_⟩:=I.tuple hb;have e:its=[]:=r1.nil_iff.mpr rfl;subst e;exact HT.cat_tup0 p1 p2 ⟨.ref b,H,I,rfl,q1 rfl⟩
 ·exact S7 pins s σ H _ _ v u Q I rx ry ⟨a,b,xs,ys,rfl,rfl,ha,hb,hx,hz,fun h=>absurd h hy,fun _=>q2 hx⟩
end
structure RoomH (k:Nat) (A:Around):Prop where
 dp:A.depth+3*k+5<recursionLimit
 un:A.units+16*k+200<cLine
variable {k:Nat} {A:Around}
theorem Room.hand (r:Room k A) (e:Value):RoomH k (A.mark (some e)):=⟨r.dp,r.un⟩
theorem RoomH.mono {j:Nat} (r:RoomH k A) (h:j≤k):RoomH j A:=⟨by have:=r.dp;omega,by have:=r.un;omega⟩
theorem RoomH.deeper (r:RoomH (k+1) A) (env:Env):RoomH k (A.deeper env) :=
 ⟨by have:=r.dp;show A.depth+1+3*k+5<_;omega,by have:=r.un;show A.units+3+16*k+200<_;omega⟩
structure FnOkH (P:Program) (w:World) (K:PySem.W.Frag) (mg:Str→Option Value) (base:Heap) (k:Nat) (f:Addr) (fd:FuncData) (ps:List Str) (sp:Sp):Prop where
 len:∀vs H Q E,sp vs H Q E→vs.length=ps.length
 run:∀(A:Around) (outer:List Env) (s:Shared) (H:Hp) (us:List Value) (vs:List V) (Q:VK) (E:XK),RoomH k A→Env0 P w K mg base A outer s H→BindsTo s fd ⟨us,[]⟩ (ps.zip us)→Vals vs us→sp vs H Q E→
  codeAny (model P w) A (.call (.ref f) ⟨us,[]⟩) (CR jQ outer P w H s Q E) s
def xA (P:Program) (w:World) (K:PySem.W.Frag) (mg:Str→Option Value) (base:Heap) (N:List Str) (qual:Str) (scope:Scope) (f:Addr) (cd:Value) (A:Around) (outer:List Env) (s:Shared) (H:Hp) (E:XK):Cx :=
 {qB jQ P w K mg base N qual scope f cd A outer s H E with calm:=false}
section
variable {P:Program} {w:World} {K:PySem.W.Frag} {mg:Str→Option Value} {base:Heap}
theorem Fun.okH {x qual:Str} {st:Stmt} {f:Addr} {fd:FuncData} {N ps:List Str} {k:Nat} {sp:Sp} (F:Fun K x qual st f fd) (S:FnScope N ps (j8 st)) (len:∀vs H Q E,sp vs H Q E→vs.length=ps.length)
  (hbody:∀(cdv:Value) (A:Around) (outer:List Env) (s:Shared) (H:Hp) (vs:List V) (Q:VK) (E:XK),RoomH k (A.deeper (envOfC qual (j8 st) s.heap.objs.size f cdv))→sp vs H Q E→
   ∃t,PSs (xA P w K mg base N qual (j8 st) f cdv A outer s H E).nox (qN st) t∧t {nx:=fun _ H'=>Q .non H',rt:=Q} (start N vs) H):FnOkH P w K mg base (k+1) f fd ps sp:=by
 obtain ⟨oc,od,kV,doc,pm,an,cdv,ct,osl,rfl,lk,hcd⟩:=F.ex;refine ⟨len,fun A outer s H us vs Q E hr e0 hb r hsp=>?_⟩;have KX:K.In s.heap:=e0.mod.kin.keeps fun b o e=>(e0.bs b o e).1
 refine codeAny_call_function (by have:=hr.dp;omega) (KX _ _ lk) rfl S.co S.gen rfl (PySem.W.codeRec_of KX hcd) (hb _ _ _ _ ?_);refine wpAny_newFunctionEnv_cells S.kind (fun ⟨n,v⟩ hy=>(S.par n (ip hy).1).imp id fun q=>⟨q,hZ _ _ _ (.inl q)⟩) fun env he s1 z=>?_
 subst he;refine ⟨(e0.mod.nolimit.keeps fun b o e=>(e0.bs b o e).1).keeps z.toInCall.keep,codeAny_func ?_⟩;obtain ⟨t,ht,hq⟩:=hbody cdv A outer s H vs Q E (hr.deeper _) hsp;have J:=BU (CX:=jQ) (E:=E) (A:={A with handled:=none}) S rfl ⟨e0.frames,e0.mod,e0.bs,e0.bsz,e0.funs,e0.frf,e0.hok,e0.bare⟩ (len _ _ _ _ hsp) r z;have I:Inv (xA P w K mg base N qual (j8 st) f cdv A outer s H E) [] (start N vs) H s1 :=
  ⟨⟨J.ok.mod,J.ok.kind,J.ok.glob,J.ok.blt,J.ok.above,J.ok.inj,J.ok.has,J.ok.cab,fun z=>absurd (show false=true from z) (by decide),J.ok.frames,J.ok.stk,J.ok.exf,J.ok.bs,J.ok.bsz,J.ok.noex,J.ok.exfs,J.ok.funs,J.ok.frf⟩,J.os,J.bare,J.base,J.loc,J.cell,J.free,J.freeC,J.pin,J.hok,J.len⟩
 refine cc (ht.nox [] s1 (start N vs) H _ I hq) (fun fl s' hs=>?_) fun e s' hs=>hs
 cases fl with
 |ret u=>obtain ⟨v,σ',H',J,rv,q⟩:=hs;exact ⟨v,H',J.os,J.bare,J.base,J.hok,rv,q⟩
 |next=>obtain ⟨σ',H',J,q⟩:=hs;exact ⟨.non,H',J.os,J.bare,J.base,J.hok,rfl,q⟩
 |brk=>obtain ⟨_,_,_,q⟩:=hs;exact False.elim q
 |cont=>obtain ⟨_,_,_,q⟩:=hs;exact False.elim q
theorem Fun.okH2 {x qual:Str} {st:Stmt} {f:Addr} {fd:FuncData} {N ps:List Str} {k:Nat} {sp:Sp} (F:Fun K x qual st f fd) (S:FnScope N ps (j8 st)) (h:∀vs H Q E,sp vs H Q E→vs.length=ps.length∧∀(cdv:Value) (A:Around) (outer:List Env) (s:Shared),RoomH k (A.deeper (envOfC qual (j8 st) s.heap.objs.size f cdv))→
   ∃t,PSs (xA P w K mg base N qual (j8 st) f cdv A outer s H E).nox (qN st) t∧t {nx:=fun _ H'=>Q .non H',rt:=Q} (start N vs) H):FnOkH P w K mg base (k+1) f fd ps sp:=F.okH S (fun vs H Q E q=>(h vs H Q E q).1) fun cdv A outer s H vs Q E hr q=>(h vs H Q E q).2 cdv A outer s hr
end
structure DefH (P:Program) (w:World) (K:PySem.W.Frag) (mg:Str→Option Value) (base:Heap) (k:Nat) (x:Str) (ps:List Str) (sp:Sp):Prop where
 ex:∃(f:Addr) (fd:FuncData),FnOkH P w K mg base k f fd ps sp∧mg x=some (.ref f)∧PySem.W.keepIn K (.ref f)=true∧Binds K fd ps []
theorem W9 {P:Program} {w:World} {K:PySem.W.Frag} {mg:Str→Option Value} {base h:Heap} {x q:Str} {st:Stmt} {f:Addr} {fd:FuncData} {sp:Sp} {p0:Str} (X:K.In h) (G:h.Ns mainGlobals mg) (a:PySem.W.nsIn K mainGlobals x=some (some (.ref f))) (F:Fun K x q st f fd) (ok:FnOkH P w K mg base k f fd [p0] sp) (hb:∀(kV doc pm:Value) (an:Option Addr) (cdv ct a0:Value),bindArgs (PySem.W.fnOf x q (vI st) (qN st) (j8 st) .none kV doc pm an cdv ct) ⟨[a0],[]⟩=pure ([p0].zip [a0]):=by intros;rfl):DefH P w K mg base k x [p0] sp:=⟨_,_,ok,aG X G a,F.kp,F.binds fun kV doc pm an cdv ct=>gC (hb kV doc pm an cdv ct)⟩
theorem SZ {X:Cx} {k':Nat} {x:Str} {ps:List Str} {sp:Sp} {p pos:Pos} {e:Expr} {es:List Expr} {t:TA} (F:DefH X.prog X.w X.K X.mg X.base k x ps sp) (hr:RoomH k' X.A) (hg:Gl X x) (ha:PA X (e::es) t)
  (hk:k≤k':=by decide) (hdb:(x == ("__debug__":Str))=false:=by decide) (he:starEach (e::es) X.env=(false,eval e X.env)::starEach es X.env:=by rfl) (hpl:(backTo pos (starEach es X.env)).any (·.1)=false:=by rfl) :
  PE X (.Call (.Name x p) (e::es) [] pos) (lX sp [] E0 t):=by
 obtain ⟨f,fd,G,m,kp,b⟩:=F.ex;intro pins s σ H Q I h;refine dz (bL I hg m ?_ hdb);refine cv (h₀:=X.base) I.ok.mod.kin kp (jW (ha pos pins s σ H _ I h) fun us s1 ⟨vs,H1,I1,r,q⟩=>⟨I1.kIn,?_⟩) he hpl;have q:sp (vs++[]) H1 Q E0:=q;rw [bo] at q;have hl:us.length=ps.length:=by rw [← r.length];exact G.len _ _ _ _ q
 have hb:=b s1 us I1.kIn (by rw [bo];exact hl);rw [bo] at hb;refine wpAny_call (ie (G.run X.A X.stack s1 H1 us vs Q E0 (hr.mono hk) I1.env0 hb r q) fun r s' hq=>?_);cases r with
 |error e=>exact False.elim hq
 |ok fl =>
  cases fl with
  |ret u=>exact I1.after hq
  |next=>exact False.elim hq
  |brk=>exact False.elim hq
  |cont=>exact False.elim hq
end L2
namespace L2
open PySem PySem.Spec PyProof.Rows
theorem VW {A:Around} {k:Nat} (hr:Room k A):A.units+15<cLine:=by have:=hr.units;omega
def AEq (K:PySem.W.Frag) (H:Hp):Nat→V→V→Prop
 |0,x,y=>x=y∧(qR x=true∨∃c,x=.ref c)
 |n+1,x,y=>(x=y∧(qR x=true∨∃c,x=.ref c))∨∃(a b:Addr) (xs ys:List V),x=.ref a∧y=.ref b∧a≠b∧((SqL K H a xs∧SqL K H b ys)∨(SqT K H a xs∧SqT K H b ys))∧xs.length=ys.length∧∀j,j<xs.length→AEq K H n (xs.getD j .non) (ys.getD j .non)
section
variable {X:Cx} {pins:List (Addr×Obj)} {σ:St} {H:Hp} {s:Shared}
theorem EY {A:Around} {x y:V} {u v:Value} (h:x=y∧(qR x=true∨∃c,x=.ref c)) (rx:RelV x u) (ry:RelV y v):SeqAt.EqAt A s u v true:=by
 obtain ⟨rfl,f|⟨c,rfl⟩⟩:=h
 ·have:=fT (A:=A) (s:=s) rx ry f f
  rwa [tV f] at this
 ·cases rx;cases ry;exact SeqAt.EqAt.same _
theorem tJ (n:Nat):(List.range n).all (fun _=>true)=true:=by simp
theorem AEq.at (I:Inv X pins σ H s):∀(n:Nat) (A:Around) (x y:V) (u v:Value),AEq X.K H n x y→RelV x u→RelV y v→A.units+n<cLine→SeqAt.EqAt A s u v true
 |0,A,x,y,u,v,h,rx,ry,hu=>EY h rx ry
 |n+1,A,x,y,u,v,h,rx,ry,hu=>by
  rcases h with h|⟨a,b,xs,ys,rfl,rfl,ne,⟨ha,hb⟩|⟨ha,hb⟩,hl,he⟩
  ·exact EY h rx ry
  ·cases rx;cases ry
   obtain ⟨its,r,pl,hz⟩:=I.list ha;obtain ⟨its2,r2,pl2,hz2⟩:=I.list hb;have l1:=r.length;have l2:=r2.length;have h:=SeqAt.RcAt.lists (A:=A) (e:=fun _=>true) pl.isList pl2.isList (by rw [ai,ai,← l1,← l2,hl]) (by omega) (fun j h1 h2=>AEq.at I n A.in1 _ _ _ _ (he j (by rw [l1];simpa using h1)) (zW r h1) (zW r2 h2) (by simp only [Around.in1_units];omega));rw [tJ] at h;exact fz ne h
  ·cases rx;cases ry
   obtain ⟨its,r,pl,hz⟩:=I.tuple ha;obtain ⟨its2,r2,pl2,hz2⟩:=I.tuple hb;have l1:=r.length;have l2:=r2.length;have h:=SeqAt.RcAt.tuples (A:=A) (e:=fun _=>true) pl pl2 (by omega) (fun j h1 h2=>AEq.at I n A.in1 _ _ _ _ (he j (by rw [l1];simpa using h1)) (zW r h1) (zW r2 h2) (by simp only [Around.in1_units];omega));rw [tJ,ai,ai,← l1,← l2,hl,fo,Bool.and_true] at h;exact fz ne h
end
def FO (K:PySem.W.Frag) (n:Nat):R2:=fun x y H Q=>∃(a b:Addr) (xs ys:List V),x=.ref a∧y=.ref b∧SqL K H a xs∧SqL K H b ys∧xs.length=ys.length∧(∀j,j<xs.length→AEq K H n (xs.getD j .non) (ys.getD j .non))∧Q (.bl true) H
theorem S6 {X:Cx} (n:Nat) (hu:X.A.units+12+n<cLine):qH X (compareOp .Eq) (FO X.K n):=by
 intro pins s σ H x y v u Q I rx ry h;obtain ⟨a,b,xs,ys,rfl,rfl,ha,hb,hl,he,q⟩:=h;cases rx;cases ry;obtain ⟨its,r,pl,hz⟩:=I.list ha;obtain ⟨its2,r2,pl2,hz2⟩:=I.list hb;have l1:=r.length;have l2:=r2.length;have h:=SeqAt.RcAt.lists (A:=X.A) (e:=fun _=>true) pl.isList pl2.isList (by rw [ai,ai,← l1,← l2,hl]) (by omega) (fun j h1 h2=>AEq.at I n X.A.in1 _ _ _ _ (he j (by rw [l1];simpa using h1)) (zW r h1) (zW r2 h2) (by simp only [Around.in1_units];omega));rw [tJ] at h;exact h X.prog X.w X.xe _ ⟨.bl true,H,I,rfl,q⟩
end L2
namespace My
open PySem L2 List
theorem zz0:0≤sizeLine:=by decide
theorem zz1:1≤sizeLine:=by decide
theorem zz2:2≤sizeLine:=by decide
theorem zz3:3≤sizeLine:=by decide
theorem zz4:4≤sizeLine:=by decide
theorem zz6:6≤sizeLine:=by decide
theorem zz7:7≤sizeLine:=by decide
def top (i:Nat):Stmt:=PySem.Challenge.pw_lockhouse_k63_entries_refused.main.body.getD i (.Pass ⟨0,0,0,0⟩)
abbrev pR:Stmt:=top 23
abbrev pL:Stmt:=top 25
abbrev pG:Stmt:=top 30
abbrev pZ:Stmt:=top 29
abbrev iA:Stmt:=top 27
abbrev pX:Stmt:=top 26
abbrev rJ:Stmt:=top 28
abbrev gZ:Stmt:=top 84
abbrev oH:Stmt:=qQ (top 85) 0
abbrev nE:Stmt:=qQ (top 86) 0
abbrev oK:Stmt:=qQ (top 87) 0
abbrev oN:Stmt:=qQ (top 81) 0
abbrev oI:Stmt:=qQ (top 85) 1
abbrev nG:Stmt:=qQ (top 86) 1
abbrev oM:Stmt:=qQ (top 87) 1
abbrev oJ:Stmt:=qQ (top 85) 2
abbrev nH:Stmt:=qQ (top 86) 2
abbrev bB:Stmt:=qQ (top 82) 0
abbrev oF:Stmt:=qQ (top 82) 6
abbrev oG:Stmt:=qQ (top 82) 7
abbrev oB:Stmt:=qQ (top 82) 3
abbrev nY:Stmt:=qQ (top 82) 4
abbrev nX:Stmt:=qQ (top 82) 5
abbrev gO:Stmt:=qQ (top 82) 8
abbrev nZ:Stmt:=qQ (top 82) 10
abbrev gN:Stmt:=qQ (top 82) 9
abbrev gT:Stmt:=top 38
abbrev gW:Stmt:=top 39
abbrev gU:Stmt:=top 42
abbrev gR:Stmt:=top 41
abbrev pO:Stmt:=top 40
abbrev rB:Stmt:=top 15
abbrev pI:Stmt:=top 14
abbrev rC:Stmt:=top 20
abbrev pT:Stmt:=top 17
abbrev gX:Stmt:=top 18
abbrev o7:Stmt:=top 16
abbrev cQ:Stmt:=top 32
abbrev iC:Stmt:=top 33
abbrev pD:Stmt:=top 19
abbrev pJ:Stmt:=top 21
abbrev gY:Stmt:=top 53
abbrev o9:Stmt:=top 52
abbrev gS:Stmt:=top 50
abbrev pM:Stmt:=top 48
abbrev pH:Stmt:=top 49
abbrev pE:Stmt:=top 47
abbrev pC:Stmt:=top 46
abbrev rG:Stmt:=top 45
abbrev rH:Stmt:=top 44
abbrev pS:Stmt:=top 51
abbrev pQ:Stmt:=top 80
abbrev oE:Stmt:=qQ (top 82) 1
abbrev oA:Stmt:=qQ (top 82) 2
abbrev iB:Stmt:=top 64
abbrev nK:Stmt:=qQ (top 77) 1
abbrev nV:Stmt:=qQ (top 77) 4
abbrev nS:Stmt:=qQ (top 77) 2
abbrev nW:Stmt:=qQ (top 77) 3
abbrev nQ:Stmt:=qQ (top 77) 5
abbrev nO:Stmt:=qQ (top 77) 7
abbrev gM:Stmt:=qQ (top 77) 6
abbrev nI:Stmt:=qQ (top 77) 0
abbrev iD:Stmt:=top 57
abbrev pF:Stmt:=top 58
abbrev o8:Stmt:=top 66
abbrev pK:Stmt:=top 65
abbrev pV:Stmt:=top 62
abbrev pW:Stmt:=top 63
abbrev pU:Stmt:=top 61
abbrev pA:Stmt:=top 67
abbrev rD:Stmt:=top 69
abbrev rF:Stmt:=top 68
abbrev pY:Stmt:=top 71
abbrev pB:Stmt:=top 70
abbrev pP:Stmt:=top 37
abbrev pN:Stmt:=top 75
abbrev rE:Stmt:=top 72
abbrev rA:Stmt:=top 73
abbrev rK:Stmt:=top 74
abbrev nP:Stmt:=qQ (top 77) 8
abbrev nJ:Stmt:=qQ (top 77) 9
abbrev nM:Stmt:=qQ (top 77) 10
abbrev oQ:Stmt:=top 89
abbrev o3:Stmt:=top 90
abbrev oV:Stmt:=top 91
abbrev oW:Stmt:=top 92
abbrev oS:Stmt:=top 93
abbrev o5:Stmt:=top 94
abbrev cM:Stmt:=top 95
abbrev o0:Stmt:=top 96
abbrev o4:Stmt:=top 97
abbrev gP:Stmt:=top 98
abbrev o6:Stmt:=top 99
abbrev oR:Stmt:=top 100
abbrev oX:Stmt:=top 101
abbrev oP:Stmt:=top 102
abbrev oZ:Stmt:=top 104
abbrev oY:Stmt:=top 105
abbrev gQ:Stmt:=top 103
abbrev oO:Stmt:=top 106
abbrev QP:Stmt:=top 107
abbrev gK (K:W.Frag) (x q:Str) (st:Stmt) (f:Addr):Prop:=∃fd,Fun K x q st f fd
variable {K:W.Frag} {H H':Hp} {a:Addr} {xs:List V}
theorem u7 (e:Same H H') (h:SqT K H a xs):SqT K H' a xs:=by
 rcases h with (h|⟨o,h⟩)|h
 ·exact .inl (.inl (e _ _ h))
 ·exact .inl (.inr ⟨o,e _ _ h⟩)
 ·exact .inr h
theorem jK {p:Addr} (h:H p=none) (o:HO):Same H (upd H p o):=fun b u q=>by rw [jX (kT q h)];exact q
variable {n:Nat}
theorem small (h:n≤1000):n≤sizeLine:=ic (qX h)
def Ints (K:W.Frag) (H:Hp) (a:Addr) (ws:List Int):Prop:=SqL K H a (ws.map V.int)∨SqT K H a (ws.map V.int)
theorem Ints.same {ws:List Int} (e:Same H H') (h:Ints K H a ws):Ints K H' a ws:=by
 rcases h with h|h
 ·exact .inl (e.seq h)
 ·exact .inr (u7 e h)
variable {s:Nat}
theorem bM (h:s<n):JG n (s:Int)=some s:=by
 unfold JG;rw [if_pos (by omega),if_pos (by omega)];simp
theorem yJ {ws:List Int} (h:s<ws.length):qU (ws.map V.int) (s:Int)=some (.int (ws.getD s 0)):=by
 refine kY ?_;rw [ao,aa h,ac,aa h];rfl
theorem RE {p:Addr} {ws:List Int} {Q:VK} (h:Ints K H p ws) (hs:s<ws.length) (q:Q (.int (ws.getD s 0)) H):wY K (.ref p) (.int s) H Q:=by
 rcases h with h|h
 ·exact .inl ⟨p,_,s,_,rfl,rfl,h,yJ hs,q⟩
 ·exact .inr (.inl ⟨p,_,s,_,rfl,rfl,h,yJ hs,q⟩)
theorem iN (ws:List Int) (s:Nat) (z:Int):(ws.map V.int).set s (V.int z)=(ws.set s z).map V.int:=by rw [map_set]
theorem iW {a b:Int} (h:0<b):∃k:Nat,a%b=(k:Int)∧(k:Int)<b:=by
 have h1:=bp a (by omega:b≠0);have h2:=ba a h;exact ⟨(a%b).toNat,by omega,by omega⟩
def bT (K:W.Frag):Sp:=fun vs H Q _=>∃(a:Addr) (ns:List Int),vs=[.ref a]∧SqL K H a (ns.map V.int)∧ns.length≤63∧∀H',Q (.bl true) H'
def pour (ws:List Int) (q:Nat×Nat×Int):List Int:=((ws.set q.1 (ws.getD q.1 0 - q.2.2))).set q.2.1 ((ws.set q.1 (ws.getD q.1 0 - q.2.2)).getD q.2.1 0+q.2.2)
theorem AG (ws:List Int) (q:Nat×Nat×Int):(pour ws q).length=ws.length:=by unfold pour;rw [bc,bc]
def qM (ws:List Int) (qs:List (Nat×Nat×Int)):List Int:=qs.foldl pour ws
theorem J4 (qs:List (Nat×Nat×Int)):∀ws:List Int,(qM ws qs).length=ws.length:=by
 induction qs with
 |nil=>intro ws;rfl
 |cons q r ih=>intro ws;show (qM (pour ws q) r).length=_;rw [ih,AG]
theorem NF (ws:List Int) (qs:List (Nat×Nat×Int)) (q:Nat×Nat×Int):qM ws (qs++[q])=pour (qM ws qs) q:=by
 unfold qM;rw [foldl_append];rfl
theorem rZ (ws:List Int) (qs:List (Nat×Nat×Int)) (i:Nat) (q:Nat×Nat×Int) (h:qs[i]?=some q):qM ws (qs.take (i+1))=pour (qM ws (qs.take i)) q:=by
 rw [aL,h];exact NF ..
def EA (K:W.Frag) (H:Hp) (rs:List V) (qs:List (Nat×Nat×Int)) (n:Nat):Prop :=
 rs.length=qs.length∧∀(i:Nat) (r:V),rs[i]?=some r→∃(a:Addr) (s t:Nat) (m:Int),r=.ref a∧qs[i]?=some (s,t,m)∧SqT K H a [.int s,.int t,.int m]∧s<n∧t<n
def fU (K:W.Frag):Sp:=fun vs H Q _=>∃(w p:Addr) (ws:List Int) (rs:List V) (qs:List (Nat×Nat×Int)),vs=[.ref w,.ref p]∧Ints K H w ws∧SqL K H p rs∧EA K H rs qs ws.length∧ws.length≤1000∧
 ∀(r:Addr) (H':Hp),Same H H'→H r=none→H' r=some (.tup ((qM ws qs).map V.int))→Q (.ref r) H'
def Keep (d:Addr) (H H':Hp):Prop:=∀b o,b≠d→H b=some o→H' b=some o
theorem Keep.refl (d:Addr) (H:Hp):Keep d H H:=fun _ _ _ q=>q
variable {d:Addr}
theorem Keep.of (s:Same H H'):Keep d H H':=fun b o _ q=>s b o q
theorem Keep.trans {H1 H2:Hp} (a:Keep d H H1) (b:Keep d H1 H2):Keep d H H2:=fun c o n q=>b c o n (a c o n q)
theorem Keep.upd (k:Keep d H H') (o:HO):Keep d H (upd H' d o):=fun b u n q=>by rw [jX n];exact k b u n q
variable {ys:List V}
theorem Keep.sqt (k:Keep d H H') (hd:H d=some (.lst ys)) (h:SqT K H a xs):SqT K H' a xs:=by
 rcases h with (h|⟨o,h⟩)|h
 ·exact .inl (.inl (k _ _ (qV h hd (fun z=>nomatch z)) h))
 ·exact .inl (.inr ⟨o,k _ _ (qV h hd (fun z=>nomatch z)) h⟩)
 ·exact .inr h
def lettersS:Str:="abcdefghijklmnopqrstuvwxyz"
theorem NS:lettersS.cps.toList.length=26:=by decide +kernel
def lH (z:Nat):Nat:=lettersS.cps.toList.getD z 0
theorem OL {z:Int} (h0:0≤z) (h1:z<26):qU lettersS.cps.toList z=some (lH z.toNat):=by
 have h:=kY (xs:=lettersS.cps.toList) (j:=z.toNat) (v:=lH z.toNat) (by
  unfold lH;rw [ac,aa (by rw [NS];omega)];rfl)
 have e:((z.toNat:Nat):Int)=z:=by omega
 rwa [e] at h
def yM (n h l r:V):List (Str×V):=jL "room" r (jL "low" l (jL "high" h (jL "name" n [])))
theorem VN:¬(("name":Str)="high"):=by decide +kernel
theorem VM:¬(("name":Str)="low"):=by decide +kernel
theorem VL:¬(("name":Str)="room"):=by decide +kernel
theorem VQ:¬(("high":Str)="low"):=by decide +kernel
theorem VP:¬(("high":Str)="room"):=by decide +kernel
theorem VO:¬(("low":Str)="room"):=by decide +kernel
theorem TK (n h l r:V):(yM n h l r).lookup ("name":Str)=some n:=by
 unfold yM;rw [vY,if_neg VL,vY,if_neg VM,vY,if_neg VN,vY,if_pos rfl]
theorem TL (n h l r:V):(yM n h l r).lookup ("high":Str)=some h:=by
 unfold yM;rw [vY,if_neg VP,vY,if_neg VQ,vY,if_pos rfl]
theorem UT (n h l r:V):(yM n h l r).lookup ("low":Str)=some l:=by
 unfold yM;rw [vY,if_neg VO,vY,if_pos rfl]
theorem TJ (n h l r:V):(yM n h l r).lookup ("room":Str)=some r:=by
 unfold yM;rw [vY,if_pos rfl]
variable {m:Str}
theorem E8 (n h l r:V) (h1:¬m="room") (h2:¬m="low") (h3:¬m="high") (h4:¬m="name"):(yM n h l r).lookup m=none:=by
 unfold yM;rw [vY,if_neg h1,vY,if_neg h2,vY,if_neg h3,vY,if_neg h4];rfl
def PartsAt (H:Hp) (rs:List V) (ps:List (Str×Int)):Prop:=rs.length=ps.length∧∀(i:Nat) (r:V),rs[i]?=some r→∃(a:Addr) (s:Str) (n:Int),r=.ref a∧ps[i]?=some (s,n)∧H a=some (.tup [.str s,.int n])
theorem PartsAt.nil:PartsAt H [] []:=⟨rfl,fun i r hi=>by cases hi⟩
variable {rs:List V}
theorem PartsAt.keep {ps:List (Str×Int)} (k:Keep d H H') (hd:H d=some (.lst ys)) (h:PartsAt H rs ps):PartsAt H' rs ps:=by
 refine ⟨h.1,fun i r hi=>?_⟩;obtain ⟨a,s,n,h1,h2,h3⟩:=h.2 i r hi;exact ⟨a,s,n,h1,h2,k _ _ (qV h3 hd (fun z=>nomatch z)) h3⟩
theorem PartsAt.snoc {ps:List (Str×Int)} {s:Str} {n:Int} (h:PartsAt H rs ps) (ht:H a=some (.tup [.str s,.int n])):PartsAt H (rs++[.ref a]) (ps++[(s,n)]):=by
 refine ⟨by rw [af,af,h.1];rfl,fun i r hi=>?_⟩
 by_cases hl:i<rs.length
 ·rw [av hl] at hi;obtain ⟨b,s',n',h1,h2,h3⟩:=h.2 i r hi;exact ⟨b,s',n',h1,by rw [av (by rw [← h.1];exact hl)];exact h2,h3⟩
 ·rw [aw (by omega)] at hi;have hz:i - rs.length=0:=by
   have:=(ad.mp hi).1;rw [aF] at this;omega
  rw [hz] at hi;have e:V.ref a=r:=aA hi;refine ⟨a,s,n,e.symm,?_,ht⟩;rw [aw (by rw [← h.1];omega),← h.1,hz];rfl
def y9 (q:Str×Int):Bool := !decide (q.2=0)
def dO (K:W.Frag):Sp:=fun vs H Q _=>∃(p:Addr) (rs:List V) (ps:List (Str×Int)),vs=[.ref p]∧SqL K H p rs∧PartsAt H rs ps∧rs.length≤10∧
 ∀(r:Addr) (H':Hp) (rs':List V),Same H H'→H r=none→H' r=some (.lst rs')→PartsAt H' rs' (ps.filter y9)→Q (.ref r) H'
def dN (e:Str) (n h l r v:V):List (Str×V):=jL e v (yM n h l r)
theorem tZ (e:Str) (n h l r v:V):(dN e n h l r v).lookup e=some v:=by
 unfold dN;rw [vY,if_pos rfl]
theorem DC {e:Str} (ne:¬m=e) (n h l r v:V):(dN e n h l r v).lookup m=(yM n h l r).lookup m:=by
 unfold dN;rw [vY,if_neg ne]
theorem AS (n h l r:V):(yM n h l r).length<1000:=by
 have h1:=zK "high" h (jL "name" n []);have h2:=zK "low" l (jL "high" h (jL "name" n []));have h3:=zK "room" r (jL "low" l (jL "high" h (jL "name" n [])));have h4:(jL ("name":Str) n []).length=1:=rfl;unfold yM;omega
def wv (b:Bool):V:=if b then .str "up" else .str "down"
theorem U7:¬(V.str "down"=V.str "up"):=fun h=>absurd (V.str.inj h) (by decide +kernel)
def jF (cP cB cU:Addr):Kd→Addr
 |.plain=>cP
 |.basin=>cB
 |.pump=>cU
def QW (kd:Kd) (n h l r v:V):List (Str×V):=match kd with
 |.plain=>yM n h l r
 |.basin=>dN "side" n h l r v
 |.pump=>dN "lift" n h l r v
theorem dL (kd:Kd) (n h l r v:V) (h1:¬m="side") (h2:¬m="lift"):(QW kd n h l r v).lookup m=(yM n h l r).lookup m:=by
 cases kd
 ·rfl
 ·exact DC h1 _ _ _ _ _
 ·exact DC h2 _ _ _ _ _
theorem fL (kd:Kd) (n h l r v:V):(QW kd n h l r v).lookup ("name":Str)=some n:=by rw [dL kd _ _ _ _ _ (by decide +kernel) (by decide +kernel)];exact TK ..
theorem dH (kd:Kd) (n h l r v:V):(QW kd n h l r v).lookup ("high":Str)=some h:=by rw [dL kd _ _ _ _ _ (by decide +kernel) (by decide +kernel)];exact TL ..
theorem dM (kd:Kd) (n h l r v:V):(QW kd n h l r v).lookup ("low":Str)=some l:=by rw [dL kd _ _ _ _ _ (by decide +kernel) (by decide +kernel)];exact UT ..
theorem fK (kd:Kd) (n h l r v:V):(QW kd n h l r v).lookup ("room":Str)=some r:=by rw [dL kd _ _ _ _ _ (by decide +kernel) (by decide +kernel)];exact TJ ..
theorem TW (kd:Kd) (n h l r v:V):(QW kd n h l r v).lookup ("fill_parts":Str)=none:=by rw [dL kd _ _ _ _ _ (by decide +kernel) (by decide +kernel)];exact E8 _ _ _ _ (by decide +kernel) (by decide +kernel) (by decide +kernel) (by decide +kernel)
theorem U1 (kd:Kd) (n h l r v:V):(QW kd n h l r v).lookup ("let_parts":Str)=none:=by rw [dL kd _ _ _ _ _ (by decide +kernel) (by decide +kernel)];exact E8 _ _ _ _ (by decide +kernel) (by decide +kernel) (by decide +kernel) (by decide +kernel)
def LockAt (cs:Kd→Addr) (H:Hp) (x:Addr) (kd:Kd) (n h l:V) (room v:Int):Prop:=∃dx:Addr,H x=some (.ins (cs kd) dx (QW kd n h l (.int room) (.int v)))
variable {cs:Kd→Addr} {x:Addr}
theorem LockAt.same {kd:Kd} {n h l:V} {room v:Int} (e:Same H H') (a:LockAt cs H x kd n h l room v):LockAt cs H' x kd n h l room v:=by
 obtain ⟨dx,a⟩:=a;exact ⟨dx,e _ _ a⟩
def ZZ (kd:Kd) (room v b:Int):List (Str×Int):=match kd with
 |.plain=>([("high",room)]:List (Str×Int)).filter y9
 |.basin=>([("basin",b),("high",room - b)]:List (Str×Int)).filter y9
 |.pump=>([("low",v),("high",room - v)]:List (Str×Int)).filter y9
def QJ (kd:Kd) (room v b:Int):List (Str×Int):=match kd with
 |.basin=>([("basin",v - b),("low",room - (v - b))]:List (Str×Int)).filter y9
 |_=>([("low",room)]:List (Str×Int)).filter y9
theorem BX (kd:Kd) (room v b:Int):(ZZ kd room v b).length≤2:=by
 cases kd
 ·exact aI (bg _ _) (by show 1≤2;decide)
 ·exact aI (bg _ _) (by show 2≤2;decide)
 ·exact aI (bg _ _) (by show 2≤2;decide)
theorem C1 (kd:Kd) (room v b:Int):(QJ kd room v b).length≤2:=by
 cases kd
 ·exact aI (bg _ _) (by show 1≤2;decide)
 ·exact aI (bg _ _) (by show 2≤2;decide)
 ·exact aI (bg _ _) (by show 1≤2;decide)
def JI (cs:Kd→Addr) (F:Kd→Int→Int→Int→List (Str×Int)) (kd:Kd):Sp:=fun vs H Q _=>∃(x:Addr) (n h l:V) (room v b:Int),vs=[.ref x,.int b]∧LockAt cs H x kd n h l room v∧
 ∀(r:Addr) (H':Hp) (rs:List V),Same H H'→H r=none→H' r=some (.lst rs)→PartsAt H' rs (F kd room v b)→Q (.ref r) H'
def SJ (cs:Kd→Addr):Sp:=fun vs H Q _=>∃(kd:Kd) (x:Addr) (n h l:V) (room v b:Int),vs=[.ref x,.int b]∧LockAt cs H x kd n h l room v∧
 ∀(r:Addr) (H':Hp) (rs:List V),Same H H'→H r=none→H' r=some (.lst rs)→PartsAt H' rs (([("low",room)]:List (Str×Int)).filter y9)→Q (.ref r) H'
def dG (cs:Kd→Addr):Sp:=fun vs H Q _=>∃(kd:Kd) (x dx:Addr) (n h l r:V),vs=[.ref x,n,h,l,r]∧H x=some (.ins (cs kd) dx [])∧∀H':Hp,Keep x H H'→H' x=some (.ins (cs kd) dx (yM n h l r))→Q .non H'
def dF (cs:Kd→Addr) (kd:Kd):Sp:=fun vs H Q _=>∃(x dx:Addr) (n h l r v:V),vs=[.ref x,n,h,l,r,v]∧H x=some (.ins (cs kd) dx [])∧∀H':Hp,Keep x H H'→H' x=some (.ins (cs kd) dx (QW kd n h l r v))→Q .non H'
def PoursS (H:Hp) (rs:List V) (ps:List (Str×Str×Int)):Prop:=rs.length=ps.length∧∀(i:Nat) (r:V),rs[i]?=some r→∃(a:Addr) (s t:Str) (n:Int),r=.ref a∧ps[i]?=some (s,t,n)∧H a=some (.tup [.str s,.str t,.int n])
theorem PoursS.nil:PoursS H [] []:=⟨rfl,fun i r hi=>by cases hi⟩
variable {ps:List (Str×Str×Int)}
theorem PoursS.same (e:Same H H') (h:PoursS H rs ps):PoursS H' rs ps:=by
 refine ⟨h.1,fun i r hi=>?_⟩;obtain ⟨a,s,t,n,h1,h2,h3⟩:=h.2 i r hi;exact ⟨a,s,t,n,h1,h2,e _ _ h3⟩
theorem PoursS.keep (k:Keep d H H') (hd:H d=some (.lst ys)) (h:PoursS H rs ps):PoursS H' rs ps:=by
 refine ⟨h.1,fun i r hi=>?_⟩;obtain ⟨a,s,t,n,h1,h2,h3⟩:=h.2 i r hi;exact ⟨a,s,t,n,h1,h2,k _ _ (qV h3 hd (fun z=>nomatch z)) h3⟩
theorem PoursS.append {rs':List V} {ps':List (Str×Str×Int)} (h:PoursS H rs ps) (h':PoursS H rs' ps'):PoursS H (rs++rs') (ps++ps'):=by
 refine ⟨by rw [af,af,h.1,h'.1],fun i r hi=>?_⟩
 by_cases hl:i<rs.length
 ·rw [av hl] at hi;obtain ⟨b,s',t',n',h1,h2,h3⟩:=h.2 i r hi;exact ⟨b,s',t',n',h1,by rw [av (by rw [← h.1];exact hl)];exact h2,h3⟩
 ·rw [aw (by omega)] at hi;obtain ⟨b,s',t',n',h1,h2,h3⟩:=h'.2 _ r hi;exact ⟨b,s',t',n',h1,by rw [aw (by rw [← h.1];omega),← h.1];exact h2,h3⟩
theorem PoursS.one {s t:Str} {n:Int} (ht:H a=some (.tup [.str s,.str t,.int n])):PoursS H [.ref a] [(s,t,n)]:=by
 refine ⟨rfl,fun i r hi=>?_⟩;cases i with
 |zero=>exact ⟨a,s,t,n,(aA hi).symm,rfl,ht⟩
 |succ i=>cases hi
def zP (kd:Kd) (room v b:Int):List (Str×Str×Int):=(ZZ kd room v b).map fun p=>(p.1,"chamber",p.2)
def yY (kd:Kd) (room v b:Int):List (Str×Str×Int):=(QJ kd room v b).map fun p=>("chamber",p.1,p.2)
theorem fA (kd:Kd) (room v b:Int):(zP kd room v b).length≤2:=by unfold zP;rw [ae];exact BX ..
theorem bK (kd:Kd) (room v b:Int):(yY kd room v b).length≤2:=by unfold yY;rw [ae];exact C1 ..
def Q5 (p:Str×Str×Int→Bool) (qs:List (Str×Str×Int)):List Int:=(qs.filter p).map (·.2.2)
theorem AX (p:Str×Str×Int→Bool) (qs:List (Str×Str×Int)) (i:Nat) (q:Str×Str×Int) (h:qs[i]?=some q):Q5 p (qs.take (i+1))=Q5 p (qs.take i)++(if p q=true then [q.2.2] else []):=by
 unfold Q5;rw [aL,h];simp only [Option.toList,hX,aH]
 by_cases c:p q=true
 ·rw [if_pos c];simp [c]
 ·rw [if_neg c];simp [c]
theorem B8 (p:Str×Str×Int→Bool) (qs:List (Str×Str×Int)) (i:Nat):(Q5 p (qs.take i)).length≤i:=by
 unfold Q5;rw [ae];exact aI (bg _ _) (gr _ _)
def gD (s:Str) (q:Str×Str×Int):Bool:=decide (q.1=s)
def toS (s:Str) (q:Str×Str×Int):Bool:=decide (q.2.1=s)
def EU (s:Str) (qs:List (Str×Str×Int)):Int:=(Q5 (gD s) qs).sum
def QH (b:Int) (qs:List (Str×Str×Int)):Int:=b+(Q5 (toS "basin") qs).sum - EU "basin" qs
theorem C6 (s t:Str):decide (V.str s=V.str t)=decide (s=t):=decide_eq_decide.mpr ⟨V.str.inj,fun e=>by rw [e]⟩
def fC (cs:Kd→Addr) (F:Kd→Int→Int→Int→List (Str×Str×Int)):Sp:=fun vs H Q _=>∃(x:Addr) (kd:Kd) (n h l:V) (room v b:Int),vs=[.ref x,.int b]∧LockAt cs H x kd n h l room v∧
 ∀(r:Addr) (H':Hp) (rs:List V),Same H H'→H r=none→H' r=some (.lst rs)→PoursS H' rs (F kd room v b)→Q (.ref r) H'
def DK:Sp:=fun vs H Q _=>∃(s:Str) (p:Addr) (rs:List V) (qs:List (Str×Str×Int)),vs=[.str s,.ref p]∧H p=some (.lst rs)∧PoursS H rs qs∧rs.length≤999∧∀H',Same H H'→Q (.int (EU s qs)) H'
def DN:Sp:=fun vs H Q _=>∃(b:Int) (p:Addr) (rs:List V) (qs:List (Str×Str×Int)),vs=[.int b,.ref p]∧H p=some (.lst rs)∧PoursS H rs qs∧rs.length≤999∧∀H',Same H H'→Q (.int (QH b qs)) H'
def lZ (kd:Kd) (room v:Int) (f:Bool) (b:Int) (w:Bool):List (Str×Str×Int):=match w,f with
 |true,true=>yY kd room v b++zP kd room v (QH b (yY kd room v b))
 |true,false=>zP kd room v b
 |false,true=>yY kd room v b
 |false,false=>zP kd room v b++yY kd room v (QH b (zP kd room v b))
theorem AY (b:Int):QH b []=b:=by show b+0 - 0=b;omega
theorem BQ (kd:Kd) (room v:Int) (f:Bool) (b:Int) (w:Bool):(lZ kd room v f b w).length≤4:=by
 have h1:=fun b=>fA kd room v b
 have h2:=fun b=>bK kd room v b
 cases w<;>cases f
 ·show (zP kd room v b++yY kd room v (QH b (zP kd room v b))).length≤4;rw [af];have:=h1 b;have:=h2 (QH b (zP kd room v b));omega
 ·exact aI (h2 b) (by decide)
 ·exact aI (h1 b) (by decide)
 ·show (yY kd room v b++zP kd room v (QH b (yY kd room v b))).length≤4;rw [af];have:=h2 b;have:=h1 (QH b (yY kd room v b));omega
def BM (cs:Kd→Addr):Sp:=fun vs H Q _=>∃(x:Addr) (kd:Kd) (n h l:V) (room v b:Int) (f w:Bool),vs=[.ref x,.bl f,.int b,wv w]∧LockAt cs H x kd n h l room v∧
 ∀(r:Addr) (H':Hp) (rs:List V),Same H H'→H r=none→H' r=some (.lst rs)→PoursS H' rs (lZ kd room v f b w)→Q (.ref r) H'
variable {α:Type} {i:Nat}
theorem x9 {β:Type} {f:α→β} {ps:List α} {p:α} (h:ps[i]?=some p):(ps.take (i+1)).map f=(ps.take i).map f++[f p]:=by
 rw [aL,h,aH];rfl
def dR (c m:Int):Int:=if m - c>0 then m - c else 0
def ZR (ws:List (Int×Nat)) (i:Nat):Int:=(ws.getD i (0,0)).1
def qK (ws:List (Int×Nat)) (i:Nat):Nat:=(ws.getD i (0,0)).2
def WeirsAt (K:W.Frag) (H:Hp) (rs:List V) (ws:List (Int×Nat)) (n:Nat):Prop :=
 rs.length=ws.length∧∀(i:Nat) (r:V),rs[i]?=some r→∃(a:Addr) (c:Int) (t:Nat),r=.ref a∧ws[i]?=some (c,t)∧SqT K H a [.int c,.int t]∧t<n
def mI (R:Nat) (ws:List (Int×Nat)):Prop:=∀(i:Nat) (c:Int) (t:Nat),ws[i]?=some (c,t)→t<i∨R≤t
variable {ws:List (Int×Nat)}
theorem WeirsAt.same (e:Same H H') (h:WeirsAt K H rs ws n):WeirsAt K H' rs ws n:=by
 refine ⟨h.1,fun i r hi=>?_⟩;obtain ⟨a,c,t,h1,h2,h3,h4⟩:=h.2 i r hi;exact ⟨a,c,t,h1,h2,u7 e h3,h4⟩
theorem iV (h:WeirsAt K H rs ws n) (hi:i<ws.length):∃a,qU rs (i:Int)=some (V.ref a)∧SqT K H a [.int (ZR ws i),.int (qK ws i)]∧qK ws i<n:=by
 have hk:i<rs.length:=by rw [h.1];exact hi
 obtain ⟨a,c,t,h1,h2,h3,h4⟩:=h.2 i rs[i] (aa hk);have e:ws.getD i (0,0)=(c,t):=by rw [ac,h2];rfl
 refine ⟨a,kY (by rw [aa hk,h1]),?_,?_⟩
 ·unfold ZR qK;rw [e];exact h3
 ·unfold qK;rw [e];exact h4
theorem SF {R:Nat} (h:mI R ws) (hi:i<ws.length):qK ws i<i∨R≤qK ws i:=by
 have e:ws[i]?=some ((ws.getD i (0,0)).1,(ws.getD i (0,0)).2):=by rw [ac,aa hi];rfl
 exact h i _ _ e
def EJ (K:W.Frag):Sp:=fun vs H Q _=>∃(wq wa:Addr) (rs:List V) (ws:List (Int×Nat)) (n:Nat) (ms:List Int) (at_:Nat),vs=[.ref wq,.ref wa,.int at_]∧SqL K H wq rs∧WeirsAt K H rs ws n∧Ints K H wa ms∧at_<ws.length∧at_<ms.length∧
 Q (.int (dR (ZR ws at_) (ms.getD at_ 0))) H
def z3 (t:Nat→Nat) (g:Nat→Int) (j:Nat):Nat→Int
 |0=>0
 |a+1=>z3 t g j a+(if t a=j then g a else 0)
theorem AH (t:Nat→Nat) (j:Nat):∀R:Nat,z3 t (fun _=>0) j R=0
 |0=>rfl
 |R+1=>by
  show z3 t (fun _=>0) j R+_=0;rw [AH t j R]
  split<;>rfl
theorem AU {t:Nat→Nat} {g g':Nat→Int} {i:Nat} (hg:∀a,a≠i→g' a=g a) (j:Nat):∀{R:Nat},z3 t g' j R=z3 t g j R+(if i<R∧t i=j then g' i - g i else 0)
 |0=>by
  show (0:Int)=0+_;rw [if_neg (by omega)];rfl
 |R+1=>by
  show z3 t g' j R+(if t R=j then g' R else 0)=z3 t g j R+(if t R=j then g R else 0)+(if i<R+1∧t i=j then g' i - g i else 0);rw [AU hg j (R:=R)]
  by_cases hi:i=R
  ·subst hi
   repeat' split
   all_goals omega
  ·rw [hg R (fun e=>hi e.symm)]
   repeat' split
   all_goals omega
def T6 (R:Nat) (c:Nat→Int) (t:Nat→Nat) (m:Nat→Int) (g:Nat→Int):Prop:=∀i,i<R→g i=dR (c i) (m i+z3 t g i R)
def E1 (R:Nat) (t:Nat→Nat):Prop:=∀a,a<R→t a<a∨R≤t a
def after (R:Nat) (t:Nat→Nat) (m g:Nat→Int) (j:Nat):Int:=m j+z3 t g j R - (if j<R then g j else 0)
def Q9:List (Nat×Nat×Int)→Nat→Int
 |[],_=>0
 |q::r,j=>(if q.2.1=j then q.2.2 else 0) - (if q.1=j then q.2.2 else 0)+Q9 r j
theorem eV (l:List Int) (i j:Nat) (z:Int) (h:i<l.length):(l.set i z).getD j 0=if i=j then z else l.getD j 0:=by
 rw [ac,ac]
 by_cases e:i=j
 ·subst e;rw [ci h,if_pos rfl];rfl
 ·rw [dc e,if_neg e]
theorem OZ (ms:List Int) (q:Nat×Nat×Int) (j:Nat) (h1:q.1<ms.length) (h2:q.2.1<ms.length):(pour ms q).getD j 0=ms.getD j 0+((if q.2.1=j then q.2.2 else 0) - (if q.1=j then q.2.2 else 0)):=by
 unfold pour;rw [eV _ _ _ _ (by rw [bc];exact h2),eV _ _ _ _ h1,eV _ _ _ _ h1]
 by_cases a:q.2.1=j
 ·rw [if_pos a,if_pos a];rw [a]
  by_cases b:q.1=j
  ·rw [if_pos b,if_pos b];rw [b];omega
  ·rw [if_neg b,if_neg b];omega
 ·rw [if_neg a,if_neg a]
  by_cases b:q.1=j
  ·rw [if_pos b,if_pos b];rw [b];omega
  ·rw [if_neg b,if_neg b];omega
theorem r9:∀(qs:List (Nat×Nat×Int)) (ms:List Int) (j:Nat),(∀q∈qs,q.1<ms.length∧q.2.1<ms.length)→(qM ms qs).getD j 0=ms.getD j 0+Q9 qs j
 |[],ms,j,_=>by
  show ms.getD j 0=ms.getD j 0+0;omega
 |q::r,ms,j,h=>by
  show (qM (pour ms q) r).getD j 0=_;obtain ⟨h1,h2⟩:=h q bd;rw [r9 r (pour ms q) j (fun x hx=>by rw [AG];exact h x (aK _ hx)),OZ ms q j h1 h2];show _=ms.getD j 0+((if q.2.1=j then q.2.2 else 0) - (if q.1=j then q.2.2 else 0)+Q9 r j);omega
theorem mem_downs {a:Nat}:a∈zQ n↔a<n:=by
 unfold zQ;rw [mem_reverse,em]
theorem cX (n:Nat):(zQ n).length=n:=by
 unfold zQ;rw [length_reverse,aY]
variable {k:Nat}
theorem BY (h:k<n):(zQ n)[k]?=some (n - 1 - k):=by
 unfold zQ;rw [List.getElem?_reverse (by simpa using h),aY,cq (by omega)]
def yT (t:Nat→Nat) (g:Nat→Int) (R:Nat):List (Nat×Nat×Int):=(zQ R).map fun a=>(a,t a,g a)
theorem R3 {l l':List Int} (h:l.length=l'.length) (e:∀j,j<l.length→l.getD j 0=l'.getD j 0):l=l':=by
 apply ext_getElem h;intro i h1 h2;have:=e i h1;rw [ac,ac,aa h1,aa h2] at this;exact this
def Z2 (ms:List Int) (ws:List (Int×Nat)) (gs:List Int):List Int:=qM ms (yT (qK ws) (fun a=>gs.getD a 0) ws.length)
def ZH (ws:List (Int×Nat)) (ms gs:List Int):Prop:=gs.length=ws.length∧T6 ws.length (ZR ws) (qK ws) (fun j=>ms.getD j 0) (fun a=>gs.getD a 0)
theorem P7 (h:mI ws.length ws):E1 ws.length (qK ws):=fun a ha=>SF h ha
theorem AZ (h:WeirsAt K H rs ws n):∀a,a<ws.length→qK ws a<n:=fun a ha=>let ⟨_,_,_,q⟩:=iV h ha;q
structure SplInv (ws:List (Int×Nat)) (ms hs gs:List Int) (k:Nat):Prop where
 lh:hs.length=ms.length
 lg:gs.length=ws.length
 flow:∀j,j<ms.length→hs.getD j 0=ms.getD j 0+z3 (qK ws) (fun a=>gs.getD a 0) j ws.length
 zero:∀a,a<ws.length - k→gs.getD a 0=0
 done:∀a,ws.length - k≤a→a<ws.length→gs.getD a 0=dR (ZR ws a) (ms.getD a 0+z3 (qK ws) (fun a=>gs.getD a 0) a ws.length)
theorem SplInv.start (ws:List (Int×Nat)) (ms:List Int):SplInv ws ms ms (List.replicate ws.length 0) 0:=by
 have ez:(fun a:Nat=>(List.replicate ws.length (0:Int)).getD a 0)=fun _=>0:=by
  funext a;rw [ac,hJ]
  split<;>rfl
 refine ⟨rfl,by simp,fun j _=>?_,fun a _=>congrFun ez a,fun a h1 h2=>by omega⟩;rw [ez,AH];omega
variable {ms:List Int}
theorem SplInv.step {hs gs:List Int} (hA:E1 ws.length (qK ws)) (hR:ws.length≤ms.length) (hk:k<ws.length) (ht:qK ws (ws.length - 1 - k)<ms.length) (h:SplInv ws ms hs gs k) :
  SplInv ws ms (hs.set (qK ws (ws.length - 1 - k)) (hs.getD (qK ws (ws.length - 1 - k)) 0+(gs.set (ws.length - 1 - k) (dR (ZR ws (ws.length - 1 - k)) (hs.getD (ws.length - 1 - k) 0))).getD (ws.length - 1 - k) 0))
   (gs.set (ws.length - 1 - k) (dR (ZR ws (ws.length - 1 - k)) (hs.getD (ws.length - 1 - k) 0))) (k+1):=by
 obtain ⟨i,hi⟩:∃i,i=ws.length - 1 - k:=⟨_,rfl⟩;rw [← hi] at ht ⊢;obtain ⟨lh,lg,flow,zero,done⟩:=h;have hil:i<gs.length:=by rw [lg];omega
 obtain ⟨v,hv⟩:∃v,v=dR (ZR ws i) (hs.getD i 0):=⟨_,rfl⟩;rw [← hv];have gset:∀a,(gs.set i v).getD a 0=if i=a then v else gs.getD a 0:=fun a=>eV gs i a v hil
 have g0:gs.getD i 0=0:=zero i (by omega);have gi:(gs.set i v).getD i 0=v:=by rw [gset,if_pos rfl]
 have infl:∀j,z3 (qK ws) (fun a=>(gs.set i v).getD a 0) j ws.length=z3 (qK ws) (fun a=>gs.getD a 0) j ws.length+(if qK ws i=j then v else 0):=fun j=>by
  rw [AU (g:=fun a=>gs.getD a 0) (i:=i) (fun a ha=>by show (gs.set i v).getD a 0=gs.getD a 0;rw [gset,if_neg (Ne.symm ha)]) j];show _+(if i<ws.length∧qK ws i=j then (gs.set i v).getD i 0 - gs.getD i 0 else 0)=_;rw [gi,g0];have hiw:i<ws.length:=by omega
  repeat' split
  all_goals omega
 have hti:=hA i (by omega);refine ⟨by rw [bc,lh],by rw [bc,lg],fun j hj=>?_,fun a ha=>?_,fun a h1 h2=>?_⟩
 ·rw [eV _ _ _ _ (by rw [lh];exact ht),infl,gi];have:=flow j hj
  by_cases e:qK ws i=j
  ·rw [if_pos e,if_pos e,e];omega
  ·rw [if_neg e,if_neg e];omega
 ·rw [gset,if_neg (by omega)];exact zero a (by omega)
 ·rw [infl]
  by_cases e:i=a
  ·subst e;rw [gi,if_neg (by omega),Int.add_zero,hv,flow i (by omega)]
  ·rw [gset,if_neg e,if_neg (by omega),Int.add_zero];exact done a (by omega) h2
theorem SplInv.spl {hs gs:List Int} (h:SplInv ws ms hs gs ws.length):ZH ws ms gs:=⟨h.lg,fun i hi=>h.done i (by omega) hi⟩
theorem CU (n:Nat):(List.replicate n [V.int 0]).flatten=(List.replicate n (0:Int)).map V.int:=by
 induction n with
 |zero=>rfl
 |succ n ih =>
  rw [bh,fb,ih,bh,fi];rfl
structure Ready (K:W.Frag) (H:Hp) (wq wa:Addr) (rs:List V) (ws:List (Int×Nat)) (ms:List Int):Prop where
 w:SqL K H wq rs
 a:WeirsAt K H rs ws ms.length
 m:Ints K H wa ms
 ah:mI ws.length ws
 le:ws.length≤ms.length
 sm:ms.length≤1000
theorem Ready.same {wq wa:Addr} (e:Same H H') (h:Ready K H wq wa rs ws ms):Ready K H' wq wa rs ws ms:=⟨e.seq h.w,h.a.same e,h.m.same e,h.ah,h.le,h.sm⟩
def uP (K:W.Frag):Sp:=fun vs H Q _=>∃(wq:Addr) (rs:List V),vs=[.ref wq]∧SqL K H wq rs∧rs.length≤1000∧∀(r:Addr) (H':Hp),Same H H'→H r=none→H' r=some (.lst ((zQ rs.length).map fun (i:Nat)=>V.int (i:Int)))→Q (.ref r) H'
def CH (K:W.Frag):Sp:=fun vs H Q _=>∃(wq wa:Addr) (rs:List V) (ws:List (Int×Nat)) (ms:List Int),vs=[.ref wq,.ref wa]∧Ready K H wq wa rs ws ms∧
 ∀(r:Addr) (H':Hp) (gs:List Int),Same H H'→H r=none→H' r=some (.lst (gs.map V.int))→ZH ws ms gs→Q (.ref r) H'
def BI (K:W.Frag):Sp:=fun vs H Q _=>∃(wq wa:Addr) (rs:List V) (ws:List (Int×Nat)) (ms:List Int),vs=[.ref wq,.ref wa]∧Ready K H wq wa rs ws ms∧
 ∀(r:Addr) (H':Hp) (gs:List Int),Same H H'→H r=none→H' r=some (.tup ((Z2 ms ws gs).map V.int))→ZH ws ms gs→Q (.ref r) H'
theorem C5 {R:Nat} {x:V} (h:((zQ R).map fun (i:Nat)=>V.int (i:Int))[i]?=some x):i<R∧x=V.int ((R - 1 - i:Nat):Int):=by
 rw [ao] at h
 by_cases hi:i<R
 ·rw [BY hi] at h;exact ⟨hi,(aA h).symm⟩
 ·rw [cx (by rw [cX];omega)] at h;cases h
theorem NM {t:Nat→Nat} {g:Nat→Int} {R:Nat} (h:i<R):(yT t g R)[i]?=some (R - 1 - i,t (R - 1 - i),g (R - 1 - i)):=by
 unfold yT;rw [ao,BY h];rfl
def q9 (q:Nat×Nat×Int):Bool := !decide (q.2.2=0)
theorem uG (j:Nat):∀qs:List (Nat×Nat×Int),Q9 (qs.filter q9) j=Q9 qs j
 |[]=>rfl
 |q::r=>by
  rw [fq]
  by_cases h:q.2.2=0
  ·rw [if_neg (by unfold q9;rw [aT h];decide)];show Q9 (r.filter q9) j=(if q.2.1=j then q.2.2 else 0) - (if q.1=j then q.2.2 else 0)+Q9 r j;rw [uG j r,h]
   repeat' split
   all_goals omega
  ·rw [if_pos (by unfold q9;rw [aJ h];rfl)];show _+Q9 (r.filter q9) j=_+Q9 r j;rw [uG j r]
variable {qs:List (Nat×Nat×Int)}
theorem N3 (h:∀q∈qs,q.1<ms.length∧q.2.1<ms.length):qM ms (qs.filter q9)=qM ms qs:=by
 refine R3 (by rw [J4,J4]) fun j _=>?_
 rw [r9 _ _ _ h,r9 _ _ _ (fun q hq=>h q (cw.mp hq).1),uG]
theorem N0 {g:Nat→Int} (hR:ws.length≤n) (ht:∀a,a<ws.length→qK ws a<n):∀q∈yT (qK ws) g ws.length,q.1<n∧q.2.1<n:=fun q hq=>by
 obtain ⟨a,ha,rfl⟩:=gd.mp hq;have:=mem_downs.mp ha;exact ⟨by show a<n;omega,ht a this⟩
def PoursH (H:Hp) (rs:List V) (qs:List (Nat×Nat×Int)) (n:Nat):Prop:=rs.length=qs.length∧∀(i:Nat) (r:V),rs[i]?=some r→∃(a:Addr) (s t:Nat) (m:Int),r=.ref a∧qs[i]?=some (s,t,m)∧H a=some (.tup [.int s,.int t,.int m])∧s<n∧t<n
theorem PoursH.nil (H:Hp) (n:Nat):PoursH H [] [] n:=⟨rfl,fun i r hi=>by cases hi⟩
theorem PoursH.pa (h:PoursH H rs qs n):EA K H rs qs n:=⟨h.1,fun i r hi=>by
 obtain ⟨a,s,t,m,h1,h2,h3,h4⟩:=h.2 i r hi;exact ⟨a,s,t,m,h1,h2,SqT.of h3,h4⟩⟩
theorem PoursH.same (h:PoursH H rs qs n) (e:Same H H'):PoursH H' rs qs n:=⟨h.1,fun i r hi=>by
 obtain ⟨a,s,t,m,h1,h2,h3,h4⟩:=h.2 i r hi;exact ⟨a,s,t,m,h1,h2,e _ _ h3,h4⟩⟩
variable {o:HO}
theorem PoursH.put (h:PoursH H rs qs n) (hd:H d=some (.lst ys)):PoursH (upd H d o) rs qs n:=⟨h.1,fun i r hi=>by
 obtain ⟨a,s,t,m,h1,h2,h3,h4⟩:=h.2 i r hi;exact ⟨a,s,t,m,h1,h2,by rw [jX (fun z=>by rw [z,hd] at h3;cases h3)];exact h3,h4⟩⟩
theorem PoursH.append {rs':List V} {qs':List (Nat×Nat×Int)} (h:PoursH H rs qs n) (h':PoursH H rs' qs' n):PoursH H (rs++rs') (qs++qs') n:=by
 refine ⟨by rw [af,af,h.1,h'.1],fun i r hi=>?_⟩
 by_cases hl:i<rs.length
 ·rw [av hl] at hi;obtain ⟨a,s,t,m,h1,h2,h3⟩:=h.2 i r hi;exact ⟨a,s,t,m,h1,by rw [av (by rw [← h.1];exact hl)];exact h2,h3⟩
 ·rw [aw (by omega)] at hi;obtain ⟨a,s,t,m,h1,h2,h3⟩:=h'.2 _ r hi;exact ⟨a,s,t,m,h1,by rw [aw (by rw [← h.1];omega),← h.1];exact h2,h3⟩
theorem PoursH.snoc {t:Nat} {m:Int} (h:PoursH H rs qs n) (ha:H a=some (.tup [.int s,.int t,.int m])) (hs:s<n) (ht:t<n):PoursH H (rs++[.ref a]) (qs++[(s,t,m)]) n:=h.append ⟨rfl,fun i r hi=>by
 rcases i with _|i
 ·cases hi;exact ⟨a,s,t,m,rfl,rfl,ha,hs,ht⟩
 ·cases hi⟩
def tN (K:W.Frag):Sp:=fun vs H Q _=>∃(wq wa:Addr) (rs:List V) (ws:List (Int×Nat)) (ms:List Int),vs=[.ref wq,.ref wa]∧Ready K H wq wa rs ws ms∧
 ∀(r:Addr) (H':Hp) (gs:List Int) (ys:List V),Same H H'→H r=none→H' r=some (.lst ys)→PoursH H' ys ((yT (qK ws) (fun a=>gs.getD a 0) ws.length).filter q9) ms.length→ZH ws ms gs→Q (.ref r) H'
def lE (K:W.Frag):Sp:=fun vs H Q _=>∃(wq wa p:Addr) (rs ps:List V) (ws:List (Int×Nat)) (ms:List Int) (qs:List (Nat×Nat×Int)),vs=[.ref wq,.ref wa,.ref p]∧Ready K H wq wa rs ws ms∧H p=some (.lst ps)∧PoursH H ps qs ms.length∧ps.length≤500∧
 ∀(r:Addr) (H':Hp) (gs:List Int) (ys:List V),Same H H'→H r=none→H' r=some (.lst ys)→PoursH H' ys (qs++(yT (qK ws) (fun a=>gs.getD a 0) ws.length).filter q9) ms.length→ZH ws (qM ms qs) gs→Q (.ref r) H'
theorem NN (ws:List (Int×Nat)) (g:Nat→Int):((yT (qK ws) g ws.length).filter q9).length≤ws.length:=by
 refine aI (bg ..) ?_;unfold yT;rw [ae,cX];exact aj _
structure RC where
 name:Str
 least:Int
 crest:Int
 berths:Int
 water:Int
 target:Int
def RC.good (r:RC) (n:Nat):Prop:=0≤r.least∧r.least≤r.crest∧r.crest≤999999999999∧1≤r.berths∧r.berths≤9∧0≤r.water∧r.water≤999999999999∧-1≤r.target∧r.target<(n:Int)
theorem W7:(10:Int) ^ Int.toNat 12=1000000000000:=by decide +kernel
structure LC where
 name:Str
 high:Int
 low:Int
 room:Int
 kd:Kd
 extra:Int
def LC.good (l:LC) (n:Nat):Prop:=1≤l.high∧l.high<(n:Int)∧0≤l.low∧l.low<l.high∧1≤l.room∧l.room≤999999999999∧(l.kd=.plain→l.extra=0)∧(l.kd≠.plain→1≤l.extra∧l.extra≤l.room)
def AllAt {α:Type} (P:V→α→Prop) (vs:List V) (xs:List α):Prop:=vs.length=xs.length∧∀(i:Nat) (v:V),vs[i]?=some v→∃x,xs[i]?=some x∧P v x
theorem AllAt.nil {P:V→α→Prop}:AllAt P [] ([]:List α):=⟨rfl,fun i v h=>by cases h⟩
variable {vs:List V}
theorem AllAt.mono {P P':V→α→Prop} {xs:List α} (m:∀v x,P v x→P' v x) (h:AllAt P vs xs):AllAt P' vs xs:=⟨h.1,fun i v hv=>by obtain ⟨x,h1,h2⟩:=h.2 i v hv;exact ⟨x,h1,m v x h2⟩⟩
variable {v:V}
theorem AllAt.snoc {P:V→α→Prop} {xs:List α} {x:α} (h:AllAt P vs xs) (hv:P v x):AllAt P (vs++[v]) (xs++[x]):=by
 refine ⟨by rw [af,af,h.1];rfl,fun i w hw=>?_⟩
 by_cases hl:i<vs.length
 ·rw [av hl] at hw;rw [av (by rw [← h.1];exact hl)];exact h.2 i w hw
 ·rw [aw (by omega)] at hw;have e:i=vs.length:=by
   by_cases z:i - vs.length=0
   ·omega
   ·rw [cx (by show 1≤i - vs.length;omega)] at hw;cases hw
  rw [e,iw] at hw;cases hw;refine ⟨x,?_,hv⟩;rw [e,h.1,aw (aj _),iw];rfl
theorem AllAt.get {P:V→α→Prop} {xs:List α} (h:AllAt P vs xs) {x:α} (hx:xs[i]?=some x):∃v,vs[i]?=some v∧P v x:=by
 have hi:i<vs.length:=by rw [h.1];exact (ad.mp hx).1
 obtain ⟨y,h1,h2⟩:=h.2 i _ (aa hi);rw [hx] at h1;cases h1;exact ⟨_,aa hi,h2⟩
def QAt (H:Hp) (v:V) (p:Int×Int):Prop:=∃t,v=.ref t∧H t=some (.tup [.int p.1,.int p.2])
def NAt (D:List Addr) (H:Hp) (v:V) (ps:List (Int×Int)):Prop:=∃(l:Addr) (qs:List V),v=.ref l∧H l=some (.lst qs)∧AllAt (QAt H) qs ps∧l∉D
theorem QAt.same (e:Same H H') (v:V) (r:Int×Int):QAt H v r→QAt H' v r:=fun ⟨t,h1,h2⟩=>⟨t,h1,e _ _ h2⟩
theorem QAt.put (hd:H d=some (.lst ys)) (v:V) (r:Int×Int):QAt H v r→QAt (upd H d o) v r:=fun ⟨t,h1,h2⟩=>⟨t,h1,by rw [jX (fun z=>by rw [z,hd] at h2;cases h2)];exact h2⟩
variable {D:List Addr}
theorem NAt.same (e:Same H H') (v:V) (r:List (Int×Int)):NAt D H v r→NAt D H' v r:=fun ⟨l,qs,h1,h2,h3,h4⟩=>⟨l,qs,h1,e _ _ h2,h3.mono (QAt.same e),h4⟩
theorem NAt.put (hd:H d=some (.lst ys)) (hD:d∈D) (v:V) (r:List (Int×Int)):NAt D H v r→NAt D (upd H d o) v r:=fun ⟨l,qs,h1,h2,h3,h4⟩=>⟨l,qs,h1,by rw [jX (fun z=>h4 (by rw [z];exact hD))];exact h2,h3.mono (QAt.put hd),h4⟩
theorem NAt.less {D':List Addr} (hD:∀d∈D',d∈D) (v:V) (r:List (Int×Int)):NAt D H v r→NAt D' H v r:=fun ⟨l,qs,h1,h2,h3,h4⟩=>⟨l,qs,h1,h2,h3,fun z=>h4 (hD _ z)⟩
variable {f:Str} {fs:List (Str×V)}
theorem yF:(jL f v fs).lookup f=some v:=by rw [vY,if_pos rfl]
theorem kG {g:Str} (h:¬g=f):(jL f v fs).lookup g=fs.lookup g:=by rw [vY,if_neg h]
def tY (fs:List (Str×V)) (v_name v_least v_crest v_berths v_water v_target:V):Prop:=fs.lookup ("name":Str)=some v_name∧fs.lookup ("least":Str)=some v_least∧fs.lookup ("crest":Str)=some v_crest∧fs.lookup ("berths":Str)=some v_berths∧fs.lookup ("water":Str)=some v_water∧fs.lookup ("target":Str)=some v_target
theorem ON (v_name v_least v_crest v_berths v_water v_target:V):tY (jL "target" v_target (jL "water" v_water (jL "berths" v_berths (jL "crest" v_crest (jL "least" v_least (jL "name" v_name [])))))) v_name v_least v_crest v_berths v_water v_target:=by
 refine ⟨?_,?_,?_,?_,?_,?_⟩
 ·rw [kG (f:="target") (g:="name") (by decide +kernel),kG (f:="water") (g:="name") (by decide +kernel),kG (f:="berths") (g:="name") (by decide +kernel),kG (f:="crest") (g:="name") (by decide +kernel),kG (f:="least") (g:="name") (by decide +kernel),yF]
 ·rw [kG (f:="target") (g:="least") (by decide +kernel),kG (f:="water") (g:="least") (by decide +kernel),kG (f:="berths") (g:="least") (by decide +kernel),kG (f:="crest") (g:="least") (by decide +kernel),yF]
 ·rw [kG (f:="target") (g:="crest") (by decide +kernel),kG (f:="water") (g:="crest") (by decide +kernel),kG (f:="berths") (g:="crest") (by decide +kernel),yF]
 ·rw [kG (f:="target") (g:="berths") (by decide +kernel),kG (f:="water") (g:="berths") (by decide +kernel),yF]
 ·rw [kG (f:="target") (g:="water") (by decide +kernel),yF]
 ·rw [yF]
def sE (c:Addr):Sp:=fun vs H Q _=>∃(x dx:Addr) (v_name v_least v_crest v_berths v_water v_target:V),vs=[.ref x,v_name,v_least,v_crest,v_berths,v_water,v_target]∧H x=some (.ins c dx [])∧∀(H':Hp) (fs:List (Str×V)),Keep x H H'→H' x=some (.ins c dx fs)→tY fs v_name v_least v_crest v_berths v_water v_target→Q .non H'
def RcAt (cR:Addr) (H:Hp) (x:Addr) (r:RC):Prop:=∃(dx:Addr) (fs:List (Str×V)),H x=some (.ins cR dx fs)∧tY fs (.str r.name) (.int r.least) (.int r.crest) (.int r.berths) (.int r.water) (.int r.target)
variable {cR:Addr}
theorem RcAt.same {r:RC} (e:Same H H') (h:RcAt cR H x r):RcAt cR H' x r:=by
 obtain ⟨dx,fs,h1,h2⟩:=h;exact ⟨dx,fs,e _ _ h1,h2⟩
theorem zV {X:Cx} (K:W.Frag) (h:X.K=K:=by rfl):yN X (.type "list") (fun xs H Q=>∃p ys,xs=[.ref p]∧(SqL K H p ys∨SqT K H p ys)∧∀l,H l=none→Q (.ref l) (upd H l (.lst ys))):=by subst h;exact NH
theorem jZ {X:Cx} (K:W.Frag) {e:Expr} {pos:Pos} {ta:TE} (he:PE X e ta) (hb:attributeBase e f X.env (eval e X.env)=eval e X.env) (h:X.K=K:=by rfl):PE X (.Attribute e f pos) (FJ K ta f):=by subst h;exact GL he hb
def CanalFld (fs:List (Str×V)) (r l n:V):Prop:=fs.lookup ("reaches":Str)=some r∧fs.lookup ("locks":Str)=some l∧fs.lookup ("nights":Str)=some n∧∀m:Str,¬m="reaches"→¬m="locks"→¬m="nights"→fs.lookup m=none
theorem OO (r l n:V):CanalFld (jL "nights" n (jL "locks" l (jL "reaches" r []))) r l n:=by
 refine ⟨?_,?_,?_,fun m h1 h2 h3=>?_⟩
 ·rw [kG (f:="nights") (g:="reaches") (by decide +kernel),kG (f:="locks") (g:="reaches") (by decide +kernel),yF]
 ·rw [kG (f:="nights") (g:="locks") (by decide +kernel),yF]
 ·rw [yF]
 ·rw [kG h3,kG h2,kG h1];rfl
theorem CanalFld.no {r l n:V} (h:CanalFld fs r l n) (h1:¬m="reaches") (h2:¬m="locks") (h3:¬m="nights"):fs.lookup m=none:=h.2.2.2 m h1 h2 h3
def RcO (cR:Addr) (H:Hp) (v:V) (r:RC):Prop:=∃x,v=.ref x∧RcAt cR H x r
def LkO (cs:Kd→Addr) (H:Hp) (v:V) (l:LC):Prop:=∃x,v=.ref x∧LockAt cs H x l.kd (.str l.name) (.int l.high) (.int l.low) l.room l.extra
theorem RcO.same (e:Same H H') (v:V) (r:RC):RcO cR H v r→RcO cR H' v r:=fun ⟨x,h1,h2⟩=>⟨x,h1,h2.same e⟩
theorem LkO.same (e:Same H H') (v:V) (l:LC):LkO cs H v l→LkO cs H' v l:=fun ⟨x,h1,h2⟩=>⟨x,h1,h2.same e⟩
variable {y:Addr}
theorem RcO.keep (k:Keep y H H') (hy:H y=some (.lst ys)) (v:V) (r:RC):RcO cR H v r→RcO cR H' v r:=fun ⟨x,h1,dx,fs,h2,h3⟩=>⟨x,h1,dx,fs,k _ _ (qV h2 hy (fun z=>nomatch z)) h2,h3⟩
theorem LkO.keep (k:Keep y H H') (hy:H y=some (.lst ys)) (v:V) (l:LC):LkO cs H v l→LkO cs H' v l:=fun ⟨x,h1,dx,h2⟩=>⟨x,h1,dx,k _ _ (qV h2 hy (fun z=>nomatch z)) h2⟩
variable {c:Addr}
theorem RcO.keepI (k:Keep y H H') (hy:H y=some (.ins c d [])) (v:V) (r:RC):RcO cR H v r→RcO cR H' v r:=fun ⟨x,h1,dx,fs,h2,h3⟩=>⟨x,h1,dx,fs,k _ _ (fun z=>by rw [z,hy] at h2;cases h2;cases h3.1) h2,h3⟩
theorem LkO.keepI (k:Keep y H H') (hy:H y=some (.ins c d [])) (v:V) (l:LC):LkO cs H v l→LkO cs H' v l:=fun ⟨x,h1,dx,h2⟩=>⟨x,h1,dx,k _ _ (fun z=>by
 rw [z,hy] at h2;have e:=fL l.kd (.str l.name) (.int l.high) (.int l.low) (.int l.room) (.int l.extra);injection h2 with h2;injection h2 with h2 h3 h4
 rw [← h4] at e;cases e) h2⟩
theorem QAt.keep (k:Keep y H H') (hy:H y=some o) (ho:∀xs,o≠.tup xs) (v:V) (p:Int×Int):QAt H v p→QAt H' v p:=fun ⟨t,h1,h2⟩=>⟨t,h1,k _ _ (fun z=>by rw [z,hy] at h2;exact ho _ (aA h2)) h2⟩
def CnAt (cs:Kd→Addr) (cR cN:Addr) (D:List Addr) (H:Hp) (x:Addr) (R:List RC) (L:List LC) (N:List (List (Int×Int))):Prop:=∃(dx rl ll nl:Addr) (fs:List (Str×V)) (rs ls ns:List V),H x=some (.ins cN dx fs)∧CanalFld fs (.ref rl) (.ref ll) (.ref nl)∧H rl=some (.lst rs)∧H ll=some (.lst ls)∧H nl=some (.lst ns)∧AllAt (RcO cR H) rs R∧AllAt (LkO cs H) ls L∧AllAt (NAt D H) ns N∧rl∉D∧ll∉D∧nl∉D
variable {cN:Addr} {R:List RC} {L:List LC} {N:List (List (Int×Int))}
theorem CnAt.same (e:Same H H') (h:CnAt cs cR cN D H x R L N):CnAt cs cR cN D H' x R L N:=by
 obtain ⟨dx,rl,ll,nl,fs,rs,ls,ns,h1,h2,h3,h4,h5,h6,h7,h8,h9⟩:=h;exact ⟨dx,rl,ll,nl,fs,rs,ls,ns,e _ _ h1,h2,e _ _ h3,e _ _ h4,e _ _ h5,h6.mono (RcO.same e),h7.mono (LkO.same e),h8.mono (NAt.same e),h9⟩
def V4 (H:Hp) (nv:V) (N:List (List (Int×Int))):Prop:=(nv=.non∧N=[])∨∃(nl:Addr) (ns:List V),nv=.ref nl∧H nl=some (.lst ns)∧AllAt (NAt [] H) ns N∧ns.length≤100
def sF (cs:Kd→Addr) (cR cN:Addr):Sp:=fun vs H Q _=>∃(x dx rl ll:Addr) (nv:V) (rs ls:List V) (R:List RC) (L:List LC) (N:List (List (Int×Int))),vs=[.ref x,.ref rl,.ref ll,nv]∧H x=some (.ins cN dx [])∧H rl=some (.lst rs)∧H ll=some (.lst ls)∧AllAt (RcO cR H) rs R∧AllAt (LkO cs H) ls L∧V4 H nv N∧
 ∀H',Keep x H H'→(∀D:List Addr,(∀d∈D,H d≠none)→CnAt cs cR cN D H' x R L N)→Q .non H'
def Q6 (cs:Kd→Addr) (cR cN:Addr) (F:Nat→Nat→Int):Sp:=fun vs H Q _=>∃(x:Addr) (D:List Addr) (R:List RC) (L:List LC) (N:List (List (Int×Int))),vs=[.ref x]∧CnAt cs cR cN D H x R L N∧Q (.int (F R.length L.length)) H
def bU (cs:Kd→Addr) (cR cN:Addr) (F:Nat→Nat→Int→Int):Sp:=fun vs H Q _=>∃(x:Addr) (D:List Addr) (R:List RC) (L:List LC) (N:List (List (Int×Int))) (k:Int),vs=[.ref x,.int k]∧CnAt cs cR cN D H x R L N∧Q (.int (F R.length L.length k)) H
def JK (sea:Int) (r:RC):Int×Int:=(r.crest,if r.target = -1 then sea else r.target)
def JD (n m:Nat):Int:=(n:Int)+2*(m:Int)
def Z1 (n m:Nat):Int:=(n:Int)+2*(m:Int)+1
def mC (n m:Nat):Int:=(n:Int)+2*(m:Int)+1+1
def JM (n _m:Nat) (k:Int):Int:=(n:Int)+k
def yZ (n m:Nat) (k:Int):Int:=(n:Int)+(m:Int)+k
def fB (cs:Kd→Addr) (cR cN:Addr):Sp:=fun vs H Q _=>∃(x:Addr) (D:List Addr) (R:List RC) (L:List LC) (N:List (List (Int×Int))),vs=[.ref x]∧CnAt cs cR cN D H x R L N∧R.length≤100∧
 ∀(l:Addr) (ws:List V) (H':Hp),Same H H'→H l=none→H' l=some (.lst ws)→AllAt (QAt H') ws (R.map (JK (JD R.length L.length)))→Q (.ref l) H'
structure Drawn (R:List RC) (L:List LC) (N:List (List (Int×Int))):Prop where
 r8:R.length≤8
 r1:1≤R.length
 l8:L.length≤8
 n6:N.length≤6
 good:∀(i:Nat) (r:RC),R[i]?=some r→r.good i
 lock:∀(i:Nat) (l:LC),L[i]?=some l→l.good R.length
 night:∀p∈N,p.length=R.length
variable {o':HO}
theorem fJ {dx:Addr} (nx:H x=none) (ndx:H dx=none):Same H (upd (upd H dx o) x o'):=fun b u e=>by rw [jX (kT e nx),jX (kT e ndx)];exact e
theorem fD {H1 H2:Hp} (nx:H x=none) (u:Same H H1) (k:Keep x H1 H2):Same H H2:=fun b o e=>k b o (kT e nx) (u b o e)
def u4 (sea:Nat) (r:RC):Int×Nat:=(r.crest,if r.target = -1 then sea else r.target.toNat)
def vC (R:List RC) (m:Nat):List (Int×Nat):=R.map (u4 (R.length+2*m))
def zN (R:List RC) (m:Nat):List Int:=R.map (·.water)++List.replicate (2*m+2) 0
theorem eX (R:List RC) (m:Nat):(vC R m).length=R.length:=ae _
theorem eY (R:List RC) (m:Nat):(zN R m).length=R.length+2*m+2:=by
 unfold zN;rw [af,ae,bf];omega
def bW (R:List RC):Prop:=∀(i:Nat) (r:RC),R[i]?=some r→-1≤r.target∧r.target<(i:Int)
theorem AB {m:Nat} (h:bW R):mI (vC R m).length (vC R m):=by
 intro i c t hi;rw [eX];unfold vC at hi;rw [ao] at hi;cases hr:R[i]? with
 |none=>rw [hr] at hi;cases hi
 |some r =>
  rw [hr] at hi;have e:u4 (R.length+2*m) r=(c,t):=aA hi;obtain ⟨h1,h2⟩:=h i r hr;unfold u4 at e;have e2:(if r.target = -1 then R.length+2*m else r.target.toNat)=t:=bu Prod.snd e
  by_cases ht:r.target = -1
  ·rw [if_pos ht] at e2;omega
  ·rw [if_neg ht] at e2;omega
theorem CA {ws:List V} {m:Nat} (hT:bW R) (h:AllAt (QAt H) ws (R.map (JK (JD R.length m)))):WeirsAt K H ws (vC R m) (zN R m).length:=by
 refine ⟨by rw [h.1,ae,eX],fun i v hv=>?_⟩;obtain ⟨p,hp,t,rfl,ht⟩:=h.2 i v hv;rw [ao] at hp;cases hr:R[i]? with
 |none=>rw [hr] at hp;cases hp
 |some r =>
  rw [hr] at hp;cases hp;obtain ⟨h1,h2⟩:=hT i r hr;have hi:i<R.length:=(ad.mp hr).1;refine ⟨t,r.crest,if r.target = -1 then R.length+2*m else r.target.toNat,rfl,?_,?_,?_⟩
  ·unfold vC;rw [ao,hr];rfl
  ·have e:(((if r.target = -1 then R.length+2*m else r.target.toNat):Nat):Int)=(JK (JD R.length m) r).2:=by
    unfold JK JD
    by_cases ht:r.target = -1
    ·rw [if_pos ht,if_pos ht];omega
    ·rw [if_neg ht,if_neg ht];omega
   rw [e];exact SqT.of ht
  ·rw [eY];split<;>omega
def CG (cs:Kd→Addr) (cR cN:Addr):Sp:=fun vs H Q _=>∃(x:Addr) (D:List Addr) (R:List RC) (L:List LC) (N:List (List (Int×Int))),vs=[.ref x]∧CnAt cs cR cN D H x R L N∧R.length≤100∧L.length≤100∧bW R∧
 ∀(r:Addr) (H':Hp) (gs:List Int),Same H H'→H r=none→H' r=some (.tup ((Z2 (zN R L.length) (vC R L.length) gs).map V.int))→ZH (vC R L.length) (zN R L.length) gs→Q (.ref r) H'
def lF (cs:Kd→Addr) (cR cN:Addr):Sp:=fun vs H Q _=>∃(x wa:Addr) (D:List Addr) (R:List RC) (L:List LC) (N:List (List (Int×Int))) (ms:List Int) (k:Nat),vs=[.ref x,.ref wa,.int (k:Int)]∧CnAt cs cR cN D H x R L N∧H wa=some (.tup (ms.map V.int))∧R.length+k<ms.length∧Q (.bl (decide (0<ms.getD (R.length+k) 0))) H
theorem sJ (h:Drawn R L N):bW R:=fun i r hr=>by
 obtain ⟨g1,g2,g3,g4,g5,g6,g7,g8,g9⟩:=h.good i r hr;exact ⟨g8,g9⟩
def bN (K:W.Frag):Sp:=fun vs H Q _=>∃(s:Addr) (ns:List Int) (k:Int) (m:Int),vs=[.ref s,.int k,.int m]∧SqL K H s (ns.map V.int)∧ns.length≤63∧0≤k∧k≤100000∧1≤m∧∀z:Int,0≤z→z<m→Q (.int z) H
def uN (K:W.Frag):Sp:=fun vs H Q _=>∃(s:Addr) (ns:List Int),vs=[.ref s]∧SqL K H s (ns.map V.int)∧ns.length≤63∧∀z:Int,1≤z→z≤10000000000→Q (.int z) H
theorem VR {k:Int} (h0:0≤k) (h1:k≤100000):0≤k*k∧k*k≤10000000000:=by
 refine ⟨Int.mul_nonneg h0 h0,?_⟩;have:=Int.mul_le_mul h1 h1 h0 (by decide:(0:Int)≤100000);omega
def BH (K:W.Frag):Sp:=fun vs H Q _=>∃(s:Addr) (ns:List Int) (k n:Nat) (u:Int),vs=[.ref s,.int (k:Int),.int (n:Int),.int u]∧SqL K H s (ns.map V.int)∧ns.length≤63∧k<6∧n≤8∧1≤u∧u≤10000000000∧∀(l:Addr) (p:List (Int×Int)) (H':Hp),p.length=n→(∀q∈p,0≤q.1∧0≤q.2)→Same H H'→H l=none→NAt [] H' (.ref l) p→Q (.ref l) H'
theorem EX (zs:List Int) {i:Int} (h0:0≤i) (h:i<(zs.length:Int)):∃z∈zs,qU (zs.map V.int) i=some (.int z):=by
 have hl:i.toNat<zs.length:=by omega
 have:=kY (xs:=zs.map V.int) (j:=i.toNat) (v:=.int zs[i.toNat]) (by rw [ao,aa hl];rfl);rw [show ((i.toNat:Nat):Int)=i by omega] at this;exact ⟨_,dq hl,this⟩
theorem bP {a u:Int} {m:Int} (h0:0≤a) (h1:a≤m) (u0:1≤u) (u1:u≤10000000000) (hm:0≤m):0≤a*u∧a*u≤m*10000000000:=by
 refine ⟨Int.mul_nonneg h0 (by omega),?_⟩;exact Int.mul_le_mul h1 u1 (by omega) hm
def ZG (b:Bool):Str:=if b then "up" else "down"
def yA (L:List LC) (p:Nat×Bool):Int×Int:=match L[p.1]? with
 |some l=>if p.2 then (l.low,l.high) else (l.high,l.low)
 |none=>(0,0)
theorem ZP {l:LC} (h:L[k]?=some l):yA L (k,true)=(l.low,l.high):=by unfold yA;rw [h];rfl
theorem ZL {l:LC} (h:L[k]?=some l):yA L (k,false)=(l.high,l.low):=by unfold yA;rw [h];rfl
def PAt (H:Hp) (v:V) (p:Nat×Bool):Prop:=∃t,v=.ref t∧H t=some (.tup [.int (p.1:Int),.str (ZG p.2)])
theorem PAt.same (e:Same H H') (v:V) (p:Nat×Bool):PAt H v p→PAt H' v p:=fun ⟨t,h1,h2⟩=>⟨t,h1,e _ _ h2⟩
theorem PAt.put (hd:H d=some (.lst ys)) (v:V) (p:Nat×Bool):PAt H v p→PAt (upd H d o) v p:=fun ⟨t,h1,h2⟩=>⟨t,h1,by rw [jX (fun z=>by rw [z,hd] at h2;cases h2)];exact h2⟩
def vE (L:List LC) (s:Int) (ps:List (Nat×Bool)):List Int:=s::ps.map fun p=>(yA L p).2
def JO (L:List LC) (s:Int) (ps:List (Nat×Bool)):Prop:=∀(j:Nat) (p:Nat×Bool),ps[j]?=some p→(vE L s ps)[j]?=some (yA L p).1
theorem tG (L:List LC) (s:Int) (ps:List (Nat×Bool)) (p:Nat×Bool):vE L s (ps++[p])=vE L s ps++[(yA L p).2]:=by unfold vE;rw [aH];rfl
theorem fE (L:List LC) (s:Int) (ps:List (Nat×Bool)):(vE L s ps).length=ps.length+1:=by unfold vE;rw [bz,ae]
theorem PR (L:List LC) (s:Int) (ps:List (Nat×Bool)) (i:Nat):(vE L s ps).take (i+1)=vE L s (ps.take i):=by unfold vE;rw [take_succ_cons,map_take]
variable {j:Nat}
theorem TZ {s:Int} {ps:List (Nat×Bool)} (h:j<ps.length+1):(vE L s ps)[j]?=(vE L s (ps.take j))[j]?:=by
 rw [← PR,List.getElem?_take,if_pos (by omega)]
variable {p:Nat×Bool}
theorem sQ (d:Drawn R L N) (h:p.1<L.length):∃l,L[p.1]?=some l∧l.good R.length:=⟨_,aa h,d.lock _ _ (aa h)⟩
def ZU (L:List LC) (r:Int) (k:Nat):List (Nat×Bool):=match L[k]? with
 |some l=>(if l.low=r then [(k,true)] else [])++(if l.high=r then [(k,false)] else [])
 |none=>[]
def ZO (L:List LC) (r:Int) (n:Nat):List (Nat×Bool):=(List.range n).flatMap (ZU L r)
def lC (L:List LC) (r:Int):List (Nat×Bool):=ZO L r L.length
theorem rY (L:List LC) (r:Int) (n:Nat):ZO L r (n+1)=ZO L r n++ZU L r n:=by unfold ZO;rw [hU,flatMap_append];simp
variable {r:Int}
theorem turnK_mem:p∈ZU L r k↔p.1=k∧k<L.length∧(yA L p).1=r:=by
 unfold ZU
 by_cases hk:k<L.length
 ·rw [aa hk];show p∈(if L[k].low=r then [(k,true)] else [])++(if L[k].high=r then [(k,false)] else [])↔_;rw [aV];have e1:=ZP (aa hk);have e2:=ZL (aa hk);obtain ⟨pk,pb⟩:=p;constructor
  ·rintro (h|h)
   ·split at h
    ·cases aR.mp h;rw [e1];exact ⟨rfl,hk,by assumption⟩
    ·cases h
   ·split at h
    ·cases aR.mp h;rw [e2];exact ⟨rfl,hk,by assumption⟩
    ·cases h
  ·rintro ⟨h1,_,h3⟩;have h1:pk=k:=h1;subst h1;cases pb
   ·rw [e2] at h3;exact .inr (by rw [if_pos h3];simp)
   ·rw [e1] at h3;exact .inl (by rw [if_pos h3];simp)
 ·rw [cx (by omega)];constructor
  ·intro h;cases h
  ·intro h;omega
theorem turns_mem:p∈lC L r↔p.1<L.length∧(yA L p).1=r:=by
 unfold lC ZO;rw [mem_flatMap];constructor
 ·rintro ⟨k,hk,h⟩;obtain ⟨h1,h2,h3⟩:=turnK_mem.mp h;exact ⟨by omega,h3⟩
 ·rintro ⟨h1,h2⟩;exact ⟨p.1,em.mpr h1,turnK_mem.mpr ⟨rfl,h1,h2⟩⟩
theorem OU (L:List LC) (r:Int) (k:Nat):(ZU L r k).length≤2:=by
 unfold ZU
 split
 ·rw [af];split<;>split<;>simp
 ·exact aO _
theorem NL (L:List LC) (r:Int) (n:Nat):(ZO L r n).length≤2*n:=by
 induction n with
 |zero=>exact aj _
 |succ n ih=>rw [rY,af];have:=OU L r n;omega
def DG (cs:Kd→Addr) (cR cN:Addr):Sp:=fun vs H Q _=>∃(x:Addr) (r:Int) (D:List Addr) (R:List RC) (L:List LC) (N:List (List (Int×Int))),vs=[.ref x,.int r]∧CnAt cs cR cN D H x R L N∧L.length≤8∧∀(l:Addr) (us:List V) (H':Hp),Same H H'→H l=none→H' l=some (.lst us)→AllAt (PAt H') us (lC L r)→Q (.ref l) H'
def EK (cs:Kd→Addr):Sp:=fun vs H Q _=>∃(y:Addr) (l:LC) (b:Bool),vs=[.ref y,.str (ZG b)]∧LkO cs H (.ref y) l∧∀(t:Addr) (H':Hp),Same H H'→H t=none→H' t=some (.tup [.int (if b then l.low else l.high),.int (if b then l.high else l.low)])→Q (.ref t) H'
theorem EV (b:Bool):decide (V.str (ZG b)=V.str "up")=b:=by
 cases b
 ·exact aJ fun h=>absurd (V.str.inj h) (by decide +kernel)
 ·exact aT rfl
theorem RL {s:Int} {ps:List (Nat×Bool)} {a:Int} (h:(vE L s ps)[ps.length]?=some a):JO L s (ps++[p])↔JO L s ps∧(yA L p).1=a:=by
 have e:∀j,j≤ps.length→(vE L s (ps++[p]))[j]?=(vE L s ps)[j]?:=fun j hj=>by
  rw [tG,av (by rw [fE];omega)]
 constructor
 ·intro ok;refine ⟨fun j q hq=>?_,?_⟩
  ·have hj:j<ps.length:=(ad.mp hq).1;have:=ok j q (by rw [av hj];exact hq)
   rwa [e j (by omega)] at this
  ·have:=ok ps.length p (by rw [aw (aj _),iw];rfl);rw [e _ (aj _),h] at this;exact (aA this).symm
 ·rintro ⟨ok,ha⟩ j q hq
  by_cases hj:j<ps.length
  ·rw [av hj] at hq;rw [e j (by omega)];exact ok j q hq
  ·rw [aw (by omega)] at hq;have hz:j - ps.length=0:=by
    have:=(ad.mp hq).1;rw [aF] at this;omega
   rw [hz] at hq;cases hq;rw [show j=ps.length by omega,e _ (aj _),h,ha]
theorem OE (zs:List Int):(zs.map V.int).all qR=true:=by
 rw [cm];intro x hx;obtain ⟨z,_,rfl⟩:=gd.mp hx;rfl
abbrev qD:=Int×List (Nat×Bool)
def WyAt (H:Hp) (v:V) (y:qD):Prop:=∃(t st:Addr) (us:List V),v=.ref t∧H t=some (.tup [.int y.1,.ref st])∧H st=some (.tup us)∧AllAt (PAt H) us y.2
theorem WyAt.same (e:Same H H') (v:V) (y:qD):WyAt H v y→WyAt H' v y:=fun ⟨t,st,us,h1,h2,h3,h4⟩=>⟨t,st,us,h1,e _ _ h2,e _ _ h3,h4.mono (PAt.same e)⟩
structure WyOk (L:List LC) (y:qD):Prop where
 lt:∀p∈y.2,p.1<L.length
 ok:JO L y.1 y.2
 le:y.2.length≤8
def StAt (H:Hp) (t:Addr) (d:Int) (ms:List Int) (pl:List Nat):Prop:=∃wt pt:Addr,H t=some (.tup [.int d,.ref wt,.ref pt])∧H wt=some (.tup (ms.map V.int))∧H pt=some (.tup (pl.map fun (p:Nat)=>V.int (p:Int)))
variable {t:Addr} {pl:List Nat}
theorem StAt.same {d:Int} (e:Same H H') (h:StAt H t d ms pl):StAt H' t d ms pl:=by
 obtain ⟨wt,pt,h1,h2,h3⟩:=h;exact ⟨wt,pt,e _ _ h1,e _ _ h2,e _ _ h3⟩
structure Fleet (L:List LC) (ys:List qD) (pl:List Nat):Prop where
 len:pl.length=ys.length
 n10:ys.length≤10
 ok:∀y∈ys,WyOk L y
 le:∀(i:Nat) (y:qD) (p:Nat),ys[i]?=some y→pl[i]?=some p→p≤y.2.length
def EndAt (L:List LC) (r:Int):Prop:=∃p:Nat×Bool,p.1<L.length∧(yA L p).1=r
theorem EndAt.turns (h:EndAt L r):0<(lC L r).length:=by
 obtain ⟨p,h1,h2⟩:=h;exact length_pos_of_mem (turns_mem.mpr ⟨h1,h2⟩)
theorem EndAt.next (h:p.1<L.length):EndAt L (yA L p).2:=by
 obtain ⟨pk,pb⟩:=p;have e:=aa h;cases pb
 ·exact ⟨(pk,true),h,by rw [ZP e,ZL e]⟩
 ·exact ⟨(pk,false),h,by rw [ZP e,ZL e]⟩
theorem S8 (L:List LC) (s:Int):JO L s []:=fun j p hp=>by cases hp
theorem atI_last (hn:xs.length=n+1) (h:xs[n]?=some v):qU xs (-1)=some v:=by
 have e:JG xs.length (-1)=some n:=by
  unfold JG;rw [if_neg (by decide),if_pos (by omega)]
  congr 1
  omega
 unfold qU;rw [e];exact h
def tO (K:W.Frag) (cs:Kd→Addr) (cR cN eL:Addr):Sp:=fun vs H Q E=>∃(x st:Addr) (s:Int) (us:List V) (ps:List (Nat×Bool)) (D:List Addr) (R:List RC) (L:List LC) (N:List (List (Int×Int))),vs=[.ref x,.int s,.ref st]∧CnAt cs cR cN D H x R L N∧H st=some (.tup us)∧AllAt (PAt H) us ps∧(∀p∈ps,p.1<L.length)∧ps.length≤100∧
 (JO L s ps→∀(r:Addr) (H':Hp),Same H H'→H r=none→H' r=some (.lst ((vE L s ps).map V.int))→Q (.ref r) H')∧(¬JO L s ps→∀H',Same H H'→E (.ref eL) none H')
def sZ (K:W.Frag) (cs:Kd→Addr) (cR cN:Addr):Sp:=fun vs H Q _=>∃(x st:Addr) (s:Int) (us:List V) (ps:List (Nat×Bool)) (D:List Addr) (R:List RC) (L:List LC) (N:List (List (Int×Int))),vs=[.ref x,.int s,.ref st]∧CnAt cs cR cN D H x R L N∧H st=some (.tup us)∧AllAt (PAt H) us ps∧(∀p∈ps,p.1<L.length)∧ps.length≤100∧JO L s ps∧
 ∀(r:Addr) (H':Hp),Same H H'→H r=none→H' r=some (.lst ((vE L s ps).map V.int))→Q (.ref r) H'
theorem OC {eL:Addr}:∀vs H Q E,sZ K cs cR cN vs H Q E→tO K cs cR cN eL vs H Q (fun _ _ _=>False):=by
 rintro vs H Q E ⟨x,st,s,us,ps,D,R,L,N,e,h1,h2,h3,h4,h5,h6,q⟩;exact ⟨x,st,s,us,ps,D,R,L,N,e,h1,h2,h3,h4,h5,fun _=>q,fun hno=>absurd h6 hno⟩
def GD (H:Hp) (t:Addr) (d:Int) (ms ps:List Int):Prop:=∃wt pt:Addr,H t=some (.tup [.int d,.ref wt,.ref pt])∧H wt=some (.tup (ms.map V.int))∧H pt=some (.tup (ps.map V.int))
theorem StAt.toI {d:Int} (h:StAt H t d ms pl):GD H t d ms (pl.map fun (p:Nat)=>(p:Int)):=by
 obtain ⟨wt,pt,h1,h2,h3⟩:=h;exact ⟨wt,pt,h1,h2,by rw [map_map];exact h3⟩
def bZ (p q:List (Int×Int)) (i:Nat):Bool:=decide ((q.getD i (0,0)).1≤(p.getD i (0,0)).1)&&decide ((p.getD i (0,0)).2≤(q.getD i (0,0)).2)
def JC (p q:List (Int×Int)):Bool:=(List.range p.length).all (bZ p q)
theorem C9 {p q:List (Int×Int)} {a b:Int×Int} (h1:p[i]?=some a) (h2:q[i]?=some b):bZ p q i=(decide (b.1≤a.1)&&decide (a.2≤b.2)):=by
 unfold bZ;rw [ac,ac,h1,h2];rfl
def EH:Sp:=fun vs H Q _=>∃(a b:Addr) (us ws:List V) (p p':List (Int×Int)),vs=[.ref a,.ref b]∧H a=some (.tup us)∧H b=some (.lst ws)∧AllAt (QAt H) us p∧AllAt (QAt H) ws p'∧p'.length=p.length∧p.length≤100∧∀H',Same H H'→Q (.bl (JC p p')) H'
def dZ (ms:List Int) (W:List (Int×Int)) (r:Nat):Int:=if ms.getD r 0<(W.getD r (0,0)).2 then ms.getD r 0 else (W.getD r (0,0)).2
def cA (k:Nat) (ms:List Int) (W:List (Int×Int)) (n:Nat):List (Nat×Nat×Int):=(List.range n).map fun r=>(r,k,dZ ms W r)
def bV (k:Nat) (W:List (Int×Int)) (n:Nat):List (Nat×Nat×Int):=(List.range n).map fun r=>(k,r,(W.getD r (0,0)).1)
def QF (k:Nat) (ms:List Int) (W:List (Int×Int)) (n:Nat):List (Nat×Nat×Int):=cA k ms W n++bV k W n
theorem i5 (k:Nat) (ms:List Int) (W:List (Int×Int)) (n:Nat):(cA k ms W n).length=n:=by unfold cA;rw [ae,aY]
theorem iZ (k:Nat) (W:List (Int×Int)) (n:Nat):(bV k W n).length=n:=by unfold bV;rw [ae,aY]
theorem N5 (k:Nat) (ms:List Int) (W:List (Int×Int)) (n:Nat):(QF k ms W n).length=n+n:=by unfold QF;rw [af,i5,iZ]
theorem OV {W:List (Int×Int)} (h:i<n):(cA k ms W n).take (i+1)=(cA k ms W n).take i++[(i,k,dZ ms W i)]:=by
 rw [aL];unfold cA;rw [ao,cq h];rfl
theorem N2 {W:List (Int×Int)} (h:i<n):(bV k W n).take (i+1)=(bV k W n).take i++[(k,i,(W.getD i (0,0)).1)]:=by
 rw [aL];unfold bV;rw [ao,cq h];rfl
theorem FW {W:List (Int×Int)} {y:Int×Int} (h:W[i]?=some y):W.getD i (0,0)=y:=by rw [ac,h];rfl
theorem DB {W:List (Int×Int)} {y:Int×Int} (h:W[i]?=some y):dZ ms W i=if ms.getD i 0<y.2 then ms.getD i 0 else y.2:=by unfold dZ;rw [FW h]
theorem RA {W:List (Int×Int)} {y:Int×Int} (h:W[i]?=some y):dZ ms W i=if y.2<ms.getD i 0 then y.2 else ms.getD i 0:=by rw [DB h];split<;>split<;>omega
def CY (R:List RC) (m:Nat) (ms:List Int) (W:List (Int×Int)) (gs:List Int):List (Nat×Nat×Int):=(QF (R.length+2*m+1) ms W R.length).filter q9++(yT (qK (vC R m)) (fun a=>gs.getD a 0) (vC R m).length).filter q9
def UR (R:List RC) (m:Nat) (ms:List Int) (W:List (Int×Int)):List Int:=qM ms ((QF (R.length+2*m+1) ms W R.length).filter q9)
theorem iM {wq wa:Addr} {ws:List V} {m:Nat} (hT:bW R) (h:AllAt (QAt H) ws (R.map (JK (JD R.length m)))) (hwq:H wq=some (.lst ws)) (hwa:Ints K H wa ms) (hms:ms.length=R.length+2*m+2) (h1:R.length≤100) (h2:m≤100):Ready K H wq wa ws (vC R m) ms :=
 ⟨so hwq,by have:=CA (K:=K) hT h;rw [eY] at this;rw [hms];exact this,hwa,AB hT,by rw [eX];omega,by omega⟩
def CN (K:W.Frag) (cs:Kd→Addr) (cR cN:Addr):Sp:=fun vs H Q _=>∃(x t wl:Addr) (d:Int) (ms ps:List Int) (us:List V) (W:List (Int×Int)) (D:List Addr) (R:List RC) (L:List LC) (N:List (List (Int×Int))),vs=[.ref x,.ref t,.ref wl]∧CnAt cs cR cN D H x R L N∧GD H t d ms ps∧H wl=some (.tup us)∧AllAt (QAt H) us W∧W.length=R.length∧ms.length=R.length+2*L.length+2∧R.length≤100∧L.length≤100∧bW R∧
 ∀(r:Addr) (H':Hp) (gs:List Int) (ys:List V),Same H H'→H r=none→H' r=some (.lst ys)→PoursH H' ys (CY R L.length ms W gs) ms.length→ZH (vC R L.length) (UR R L.length ms W) gs→Q (.ref r) H'
def vR (L:List LC) (y:qD) (p:Nat):Int:=if p=y.2.length then -1 else (vE L y.1 y.2).getD p 0
def EI:Sp:=fun vs H Q _=>∃(t:Addr) (y:qD) (p:Int),vs=[.ref t,.int p]∧WyAt H (.ref t) y∧Q (.int ((y.2.length:Int) - p)) H
def sX (cs:Kd→Addr) (cR cN:Addr):Sp:=fun vs H Q _=>∃(x t:Addr) (y:qD) (p:Nat) (D:List Addr) (R:List RC) (L:List LC) (N:List (List (Int×Int))),vs=[.ref x,.ref t,.int (p:Int)]∧CnAt cs cR cN D H x R L N∧WyAt H (.ref t) y∧WyOk L y∧p≤y.2.length∧∀H',Same H H'→Q (.int (vR L y p)) H'
def yX (L:List LC) (ys:List qD) (pl:List Nat):List Int:=(List.range ys.length).map fun i=>vR L (ys.getD i (0,[])) (pl.getD i 0)
def DH (cs:Kd→Addr) (cR cN:Addr):Sp:=fun vs H Q _=>∃(x wl st:Addr) (r:Int) (us:List V) (ys:List qD) (d:Int) (ms:List Int) (pl:List Nat) (D:List Addr) (R:List RC) (L:List LC) (N:List (List (Int×Int))),vs=[.ref x,.ref wl,.ref st,.int r]∧CnAt cs cR cN D H x R L N∧H wl=some (.lst us)∧AllAt (WyAt H) us ys∧StAt H st d ms pl∧Fleet L ys pl∧∀H',Same H H'→Q (.int (((yX L ys pl).countP fun z=>decide (z=r):Nat):Int)) H'
theorem U6 (b:Bool):wv b=.str (ZG b):=by cases b<;>rfl
def JB (r l k:Nat) (lc:LC) (s:Str):Nat:=if s="high" then lc.high.toNat else if s="low" then lc.low.toNat else if s="chamber" then r+k else r+l+k
def mO (r l k:Nat) (lc:LC) (q:Str×Str×Int):Nat×Nat×Int:=(JB r l k lc q.1,JB r l k lc q.2.1,q.2.2)
inductive okW:Str→Prop
 |high:okW "high"
 |low:okW "low"
 |cham:okW "chamber"
 |bas:okW "basin"
theorem CB (r l k:Nat) (lc:LC):JB r l k lc "high"=lc.high.toNat:=if_pos rfl
theorem DA (r l k:Nat) (lc:LC):JB r l k lc "low"=lc.low.toNat:=by unfold JB;rw [if_neg (show ¬("low":Str)="high" by decide +kernel),if_pos rfl]
theorem BA (r l k:Nat) (lc:LC):JB r l k lc "chamber"=r+k:=by unfold JB;rw [if_neg (show ¬("chamber":Str)="high" by decide +kernel),if_neg (show ¬("chamber":Str)="low" by decide +kernel),if_pos rfl]
theorem BB (r l k:Nat) (lc:LC):JB r l k lc "basin"=r+l+k:=by unfold JB;rw [if_neg (show ¬("basin":Str)="high" by decide +kernel),if_neg (show ¬("basin":Str)="low" by decide +kernel),if_neg (show ¬("basin":Str)="chamber" by decide +kernel)]
theorem EC {r l:Nat} {lc:LC} {s:Str} (h:okW s) (hg:lc.good r) (hk:k<l):JB r l k lc s<r+2*l+2:=by
 obtain ⟨g1,g2,g3,g4,_⟩:=hg;cases h
 ·rw [CB];omega
 ·rw [DA];omega
 ·rw [BA];omega
 ·rw [BB];omega
def d4 (a b c d:V):List (kQ×V):=[(.inr "high",a),(.inr "low",b),(.inr "chamber",c),(.inr "basin",d)]
theorem JQ {s t:Str} (h:¬s=t):¬((Sum.inr s:kQ)=(Sum.inr t:kQ)):=fun e=>h (Sum.inr.inj e)
theorem US (a b c d:V):dI [] [((.inr "high":kQ),a),(.inr "low",b),(.inr "chamber",c),(.inr "basin",d)]=d4 a b c d:=by
 show zR (zR (zR (zR ([]:List (kQ×V)) (Sum.inr "high") a) (Sum.inr "low") b) (Sum.inr "chamber") c) (Sum.inr "basin") d=_;rw [i7 a (valV_nil:vW [] (Sum.inr "high":kQ)=none)];rw [i7 b (by show vW [((.inr "high":kQ),a)] (.inr "low")=none;rw [zA (JQ (by decide +kernel))];rfl)];rw [i7 c (by show vW [((.inr "high":kQ),a),(.inr "low",b)] (.inr "chamber")=none;rw [zA (JQ (by decide +kernel)),zA (JQ (by decide +kernel))];rfl)];rw [i7 d (by show vW [((.inr "high":kQ),a),(.inr "low",b),(.inr "chamber",c)] (.inr "basin")=none;rw [zA (JQ (by decide +kernel)),zA (JQ (by decide +kernel)),zA (JQ (by decide +kernel))];rfl)];rfl
theorem VZ {p:Addr} {a b c d:V} (h:H p=some (.dK (d4 a b c d))):DGet H p (.str "high") (some a)∧DGet H p (.str "low") (some b)∧DGet H p (.str "chamber") (some c)∧DGet H p (.str "basin") (some d):=by
 have e1:vW (d4 a b c d) (.inr "high")=some a:=by unfold d4;rw [bI rfl]
 have e2:vW (d4 a b c d) (.inr "low")=some b:=by unfold d4;rw [zA (JQ (by decide +kernel)),bI rfl]
 have e3:vW (d4 a b c d) (.inr "chamber")=some c:=by unfold d4;rw [zA (JQ (by decide +kernel)),zA (JQ (by decide +kernel)),bI rfl]
 have e4:vW (d4 a b c d) (.inr "basin")=some d:=by unfold d4;rw [zA (JQ (by decide +kernel)),zA (JQ (by decide +kernel)),zA (JQ (by decide +kernel)),bI rfl]
 refine ⟨?_,?_,?_,?_⟩
 ·rw [← e1];exact DGet.k (k:=.inr "high") h
 ·rw [← e2];exact DGet.k (k:=.inr "low") h
 ·rw [← e3];exact DGet.k (k:=.inr "chamber") h
 ·rw [← e4];exact DGet.k (k:=.inr "basin") h
theorem tU (kd:Kd) (room v b:Int):∀q∈zP kd room v b,okW q.1∧okW q.2.1:=fun q hq=>by
 obtain ⟨p,hp,rfl⟩:=gd.mp hq;refine ⟨?_,.cham⟩;cases kd
 ·have:=(cw.mp hp).1;rw [aR] at this;rw [this];exact .high
 ·have:=(cw.mp hp).1;simp only [aq,aE,bx] at this
  rcases this with rfl|rfl
  ·exact .bas
  ·exact .high
 ·have:=(cw.mp hp).1;simp only [aq,aE,bx] at this
  rcases this with rfl|rfl
  ·exact .low
  ·exact .high
theorem lI (kd:Kd) (room v b:Int):∀q∈yY kd room v b,okW q.1∧okW q.2.1:=fun q hq=>by
 obtain ⟨p,hp,rfl⟩:=gd.mp hq;refine ⟨.cham,?_⟩;cases kd
 ·have:=(cw.mp hp).1;rw [aR] at this;rw [this];exact .low
 ·have:=(cw.mp hp).1;simp only [aq,aE,bx] at this
  rcases this with rfl|rfl
  ·exact .bas
  ·exact .low
 ·have:=(cw.mp hp).1;rw [aR] at this;rw [this];exact .low
theorem RK (kd:Kd) (room v:Int) (f:Bool) (b:Int) (w:Bool):∀q∈lZ kd room v f b w,okW q.1∧okW q.2.1:=fun q hq=>by
 cases w<;>cases f
 ·rcases aV.mp hq with h|h
  ·exact tU _ _ _ _ q h
  ·exact lI _ _ _ _ q h
 ·exact lI _ _ _ _ q hq
 ·exact tU _ _ _ _ q hq
 ·rcases aV.mp hq with h|h
  ·exact lI _ _ _ _ q h
  ·exact tU _ _ _ _ q h
def dW (r:Nat) (ms:List Int) (k:Nat):Bool:=decide (0<ms.getD (r+k) 0)
def QI (r:Nat) (L:List LC) (ms:List Int) (s:Nat×Bool):List (Nat×Nat×Int):=match L[s.1]? with
 |some l=>(lZ l.kd l.room l.extra (dW r ms s.1) (ms.getD (r+L.length+s.1) 0) s.2).map (mO r L.length s.1 l)
 |none=>[]
def fW (r:Nat) (L:List LC) (ms:List Int) (k:Nat):List (Nat×Nat×Int):=match L[k]? with
 |some l=>(yY l.kd l.room l.extra (ms.getD (r+L.length+k) 0)).map (mO r L.length k l)
 |none=>[]
def Q7 (R:List RC) (ms:List Int) (v:Nat):Bool:=match R[v]? with
 |some r=>decide (ms.getD v 0<r.least)
 |none=>false
def QD (R:List RC):List Int→List (Nat×Nat×Int)→Bool
 |_,[]=>false
 |ms,q::qs=>Q7 R (pour ms q) q.1||QD R (pour ms q) qs
def fF (R:List RC) (t:Int):Int:=match R[t.toNat]? with
 |some r=>r.berths
 |none=>0
def bY (R:List RC) (L:List LC) (ys:List qD) (ms:List Int) (pl:List Nat) (b:Nat):Str :=
 if pl.getD b 0=(ys.getD b (0,[])).2.length then "home" else
 if ¬vR L (ys.getD b (0,[])) (pl.getD b 0+1) = -1∧fF R (vR L (ys.getD b (0,[])) (pl.getD b 0+1))≤(((yX L ys pl).countP fun z=>decide (z=vR L (ys.getD b (0,[])) (pl.getD b 0+1)):Nat):Int) then "berth" else
 if QD R ms (QI R.length L ms ((ys.getD b (0,[])).2.getD (pl.getD b 0) (0,true)))=true then "water" else ""
inductive Deed
 |pass (b:Nat)
 |let (k:Nat)
 |night
def mG:Deed→List V
 |.pass b=>[.str "pass",.int (b:Int)]
 |.let k=>[.str "let",.int (k:Int)]
 |.night=>[.str "night"]
def JU (R:List RC) (L:List LC) (n:Nat) (ys:List qD) (d:Int) (ms:List Int) (pl:List Nat):Deed→Str
 |.pass b=>bY R L ys ms pl b
 |.let k=>if dW R.length ms k=true then "" else "empty"
 |.night=>if d<(n:Int) then "" else "over"
def uY (nb nl:Nat):Deed→Prop
 |.pass b=>b<nb
 |.let k=>k<nl
 |.night=>True
def uA (cs:Kd→Addr) (cR cN:Addr):Sp:=fun vs H Q _=>∃(x p:Addr) (k:Nat) (l:LC) (rs:List V) (ps:List (Str×Str×Int)) (D:List Addr) (R:List RC) (L:List LC) (N:List (List (Int×Int))),vs=[.ref x,.int (k:Int),.ref p]∧CnAt cs cR cN D H x R L N∧L[k]?=some l∧l.good R.length∧H p=some (.lst rs)∧PoursS H rs ps∧(∀q∈ps,okW q.1∧okW q.2.1)∧ps.length≤10∧
 ∀(r:Addr) (H':Hp) (zs:List V),Same H H'→H r=none→H' r=some (.lst zs)→PoursH H' zs (ps.map (mO R.length L.length k l)) (R.length+2*L.length+2)→Q (.ref r) H'
structure Stage (cs:Kd→Addr) (cR cN:Addr) (D:List Addr) (H:Hp) (x wl st:Addr) (us:List V) (R:List RC) (L:List LC) (N:List (List (Int×Int))) (ys:List qD) (d:Int) (ms:List Int) (pl:List Nat):Prop where
 cn:CnAt cs cR cN D H x R L N
 dr:Drawn R L N
 wls:H wl=some (.lst us)
 wys:AllAt (WyAt H) us ys
 sts:StAt H st d ms pl
 fl:Fleet L ys pl
 ml:ms.length=R.length+2*L.length+2
theorem Stage.same {wl st:Addr} {us:List V} {ys:List qD} {d:Int} (h:Stage cs cR cN D H x wl st us R L N ys d ms pl) (e:Same H H'):Stage cs cR cN D H' x wl st us R L N ys d ms pl:=⟨h.cn.same e,h.dr,e _ _ h.wls,h.wys.mono (WyAt.same e),h.sts.same e,h.fl,h.ml⟩
def uO:Sp:=fun vs H Q _=>∃(t:Addr) (y:qD) (p:Nat) (s:Nat×Bool),vs=[.ref t,.int (p:Int)]∧WyAt H (.ref t) y∧y.2[p]?=some s∧∀v,PAt H v s→Q v H
def sY (cs:Kd→Addr) (cR cN:Addr):Sp:=fun vs H Q _=>∃(x wl st:Addr) (b:Nat) (r:RC) (us:List V) (ys:List qD) (d:Int) (ms:List Int) (pl:List Nat) (D:List Addr) (R:List RC) (L:List LC) (N:List (List (Int×Int))),vs=[.ref x,.ref wl,.ref st,.int (b:Int)]∧Stage cs cR cN D H x wl st us R L N ys d ms pl∧R[b]?=some r∧∀H',Same H H'→Q (.bl (decide (r.berths≤(((yX L ys pl).countP fun z=>decide (z=(b:Int)):Nat):Int)))) H'
def t9 (cs:Kd→Addr) (cR cN:Addr):Sp:=fun vs H Q _=>∃(x wl st:Addr) (b:Nat) (us:List V) (ys:List qD) (y:qD) (p:Nat) (s:Nat×Bool) (d:Int) (ms:List Int) (pl:List Nat) (D:List Addr) (R:List RC) (L:List LC) (N:List (List (Int×Int))),vs=[.ref x,.ref wl,.ref st,.int (b:Int)]∧Stage cs cR cN D H x wl st us R L N ys d ms pl∧ys[b]?=some y∧pl[b]?=some p∧y.2[p]?=some s∧
 ∀(r:Addr) (H':Hp) (zs:List V),Same H H'→H r=none→H' r=some (.lst zs)→PoursH H' zs (QI R.length L ms s) ms.length→Q (.ref r) H'
def DJ (cs:Kd→Addr) (cR cN:Addr):Sp:=fun vs H Q _=>∃(x wl st:Addr) (k:Nat) (us:List V) (ys:List qD) (d:Int) (ms:List Int) (pl:List Nat) (D:List Addr) (R:List RC) (L:List LC) (N:List (List (Int×Int))),vs=[.ref x,.ref st,.int (k:Int)]∧Stage cs cR cN D H x wl st us R L N ys d ms pl∧k<L.length∧
 ∀(r:Addr) (H':Hp) (zs:List V),Same H H'→H r=none→H' r=some (.lst zs)→PoursH H' zs (fW R.length L ms k) ms.length→Q (.ref r) H'
def E4 (cs:Kd→Addr) (cR cN:Addr):Sp:=fun vs H Q _=>∃(x w:Addr) (v:Nat) (ms:List Int) (D:List Addr) (R:List RC) (L:List LC) (N:List (List (Int×Int))),vs=[.ref x,.ref w,.int (v:Int)]∧CnAt cs cR cN D H x R L N∧H w=some (.tup (ms.map V.int))∧v<ms.length∧Q (.bl (Q7 R ms v)) H
def CJ (cs:Kd→Addr) (cR cN:Addr):Sp:=fun vs H Q _=>∃(x w p:Addr) (ms:List Int) (zs:List V) (qs:List (Nat×Nat×Int)) (D:List Addr) (R:List RC) (L:List LC) (N:List (List (Int×Int))),vs=[.ref x,.ref w,.ref p]∧CnAt cs cR cN D H x R L N∧H w=some (.tup (ms.map V.int))∧H p=some (.lst zs)∧PoursH H zs qs ms.length∧ms.length≤1000∧∀H',Same H H'→Q (.bl (QD R ms qs)) H'
def EG (cs:Kd→Addr) (cR cN:Addr):Sp:=fun vs H Q _=>∃(x wl st:Addr) (b:Nat) (us:List V) (ys:List qD) (d:Int) (ms:List Int) (pl:List Nat) (D:List Addr) (R:List RC) (L:List LC) (N:List (List (Int×Int))),vs=[.ref x,.ref wl,.ref st,.int (b:Int)]∧Stage cs cR cN D H x wl st us R L N ys d ms pl∧b<ys.length∧∀H',Same H H'→Q (.str (bY R L ys ms pl b)) H'
def uM (cs:Kd→Addr) (cR cN:Addr):Sp:=fun vs H Q _=>∃(x wl st dd:Addr) (de:Deed) (us:List V) (ys:List qD) (d:Int) (ms:List Int) (pl:List Nat) (D:List Addr) (R:List RC) (L:List LC) (N:List (List (Int×Int))),vs=[.ref x,.ref wl,.ref st,.ref dd]∧Stage cs cR cN D H x wl st us R L N ys d ms pl∧H dd=some (.tup (mG de))∧uY ys.length L.length de∧∀H',Same H H'→Q (.str (JU R L N.length ys d ms pl de)) H'
theorem UK {y:qD} {p:Nat} {s:Nat×Bool} (ok:WyOk L y) (hs:y.2[p]?=some s):vR L y p=(yA L s).1:=by
 have hp:=(ad.mp hs).1;unfold vR;rw [if_neg (by omega),ac,ok.ok p s hs];rfl
theorem R7 (d:Drawn R L N) {s:Nat×Bool} (h:s.1<L.length):0≤(yA L s).1∧(yA L s).1<(R.length:Int):=by
 obtain ⟨l,hl,g1,g2,g3,g4,_⟩:=sQ d h;obtain ⟨k,b⟩:=s;cases b
 ·rw [ZL hl];show 0≤l.high∧l.high<_;omega
 ·rw [ZP hl];show 0≤l.low∧l.low<_;omega
theorem EN (d:Drawn R L N) {y:qD} (ok:WyOk L y) {p:Nat} (hp:p<y.2.length):0≤vR L y p∧vR L y p<(R.length:Int):=by
 have hs:=aa hp;rw [UK ok hs];exact R7 d (ok.lt _ (au hs))
theorem DP (L:List LC) (y:qD):vR L y y.2.length = -1:=if_pos rfl
def mH (R:List RC) (L:List LC) (N:List (List (Int×Int))) (ys:List qD) (d:Int) (ms:List Int) (pl:List Nat):Deed→List (Nat×Nat×Int)
 |.pass b=>QI R.length L ms ((ys.getD b (0,[])).2.getD (pl.getD b 0) (0,true))
 |.let k=>fW R.length L ms k
 |.night=>(QF (R.length+2*L.length+1) ms (N.getD d.toNat []) R.length).filter q9
def uJ (R:List RC) (L:List LC) (N:List (List (Int×Int))) (ys:List qD) (d:Int) (ms:List Int) (pl:List Nat) (de:Deed) (gs:List Int):List (Nat×Nat×Int):=mH R L N ys d ms pl de++(yT (qK (vC R L.length)) (fun a=>gs.getD a 0) (vC R L.length).length).filter q9
def JS (pl:List Nat) (b:Nat):List Nat:=(List.range pl.length).map fun i=>if i=b then pl.getD i 0+1 else pl.getD i 0
def FF (d:Int):Deed→Int
 |.night=>d+1
 |_=>d
def QV (pl:List Nat):Deed→List Nat
 |.pass b=>JS pl b
 |_=>pl
def CL (cs:Kd→Addr) (cR cN eW:Addr):Sp:=fun vs H Q E=>∃(x wl st dd:Addr) (de:Deed) (us:List V) (ys:List qD) (d:Int) (ms:List Int) (pl:List Nat) (D:List Addr) (R:List RC) (L:List LC) (N:List (List (Int×Int))),vs=[.ref x,.ref wl,.ref st,.ref dd]∧Stage cs cR cN D H x wl st us R L N ys d ms pl∧H dd=some (.tup (mG de))∧uY ys.length L.length de∧0≤d∧de≠.night∧
 (JU R L N.length ys d ms pl de=""→∀(r:Addr) (H':Hp) (gs:List Int) (zs:List V),Same H H'→H r=none→H' r=some (.lst zs)→PoursH H' zs (uJ R L N ys d ms pl de gs) ms.length→ZH (vC R L.length) (qM ms (mH R L N ys d ms pl de)) gs→Q (.ref r) H')∧
 (¬JU R L N.length ys d ms pl de=""→∀H',Same H H'→E (.ref eW) none H')
def CF:Sp:=fun vs H Q _=>∃(pt:Addr) (pl:List Nat) (b:Nat),vs=[.ref pt,.int (b:Int)]∧H pt=some (.tup (pl.map fun (p:Nat)=>V.int (p:Int)))∧pl.length≤100∧∀(r:Addr) (H':Hp),Same H H'→H r=none→H' r=some (.tup ((JS pl b).map fun (p:Nat)=>V.int (p:Int)))→Q (.ref r) H'
theorem tK {ys:List qD} {b:Nat} (h:bY R L ys ms pl b=""):¬pl.getD b 0=(ys.getD b (0,[])).2.length:=fun e=>by
 unfold bY at h;rw [if_pos e] at h;exact absurd h (by decide +kernel)
theorem BP (r:Nat) (L:List LC) (ms:List Int) (s:Nat×Bool):(QI r L ms s).length≤4:=by
 unfold QI
 split
 ·rw [ae];exact BQ _ _ _ _ _ _
 ·exact aO _
theorem CZ (r:Nat) (L:List LC) (ms:List Int) (k:Nat):(fW r L ms k).length≤4:=by
 unfold fW
 split
 ·rw [ae];exact aI (bK _ _ _ _) (by decide)
 ·exact aO _
theorem iR (pl:List Nat) (b:Nat):(JS pl b).length=pl.length:=by unfold JS;rw [ae,aY]
theorem AE {b:Nat} (h:i<pl.length):(JS pl b).take (i+1)=(JS pl b).take i++[if i=b then pl.getD i 0+1 else pl.getD i 0]:=by
 rw [aL];unfold JS;rw [ao,cq h];rfl
def BO:Sp:=fun vs H Q _=>∃(st dd wo:Addr) (de:Deed) (d:Int) (ms mo:List Int) (pl:List Nat),vs=[.ref st,.ref dd,.ref wo]∧StAt H st d ms pl∧H dd=some (.tup (mG de))∧H wo=some (.tup (mo.map V.int))∧pl.length≤100∧∀(r:Addr) (H':Hp),Same H H'→H r=none→StAt H' r (FF d de) mo (QV pl de)→Q (.ref r) H'
def DL (cs:Kd→Addr) (cR cN:Addr):Sp:=fun vs H Q _=>∃(x wl:Addr) (us:List V) (D:List Addr) (R:List RC) (L:List LC) (N:List (List (Int×Int))),vs=[.ref x,.ref wl]∧CnAt cs cR cN D H x R L N∧H wl=some (.lst us)∧us.length≤100∧R.length≤100∧L.length≤100∧bW R∧
 ∀(t wt zt:Addr) (H':Hp) (gs:List Int),Same H H'→H' t=some (.tup [.int 0,.ref wt,.ref zt])→H' wt=some (.tup ((Z2 (zN R L.length) (vC R L.length) gs).map V.int))→ZH (vC R L.length) (zN R L.length) gs→H' zt=some (.tup (List.replicate us.length (.int 0)))→Q (.ref t) H'
def wH (K:W.Frag) (H:Hp) (v:V) (nm:Str):Prop:=∃(x C dx:Addr) (fs:List (Str×V)),v=.ref x∧H x=some (.ins C dx fs)∧Cls K C∧NoAttr K C "name"∧fs.lookup ("name":Str)=some (.str nm)
def FirstAt (zs:List Str) (nm:Str) (i:Nat):Prop:=zs[i]?=some nm∧∀j:Nat,j<i→zs[j]?≠some nm
def QC (zs:List Str) (nm:Str):Prop:=∀i:Nat,zs[i]?≠some nm
variable {zs:List Str} {nm:Str}
theorem FirstAt.uniq (h:FirstAt zs nm i) (h':FirstAt zs nm j):i=j:=by
 rcases Nat.lt_trichotomy i j with c|c|c
 ·exact absurd h.1 (h'.2 i c)
 ·exact c
 ·exact absurd h'.1 (h.2 j c)
theorem R1 (zs:List Str) (nm:Str):(∃i,FirstAt zs nm i)∨QC zs nm:=by
 have key:∀n:Nat,(∃i,FirstAt zs nm i)∨∀j:Nat,j<n→zs[j]?≠some nm:=by
  intro n
  induction n with
  |zero=>exact .inr fun j hj=>absurd hj (iu j)
  |succ n ih =>
   rcases ih with h|h
   ·exact .inl h
   ·by_cases e:zs[n]?=some nm
    ·exact .inl ⟨n,e,h⟩
    ·refine .inr fun j hj=>?_
     by_cases c:j=n
     ·rw [c];exact e
     ·exact h j (by omega)
 rcases key zs.length with h|h
 ·exact .inl h
 ·refine .inr fun i hi=>h i ?_ hi
  exact (ad.mp hi).1
def t7 (K:W.Frag) (eU:Addr):Sp:=fun vs H Q E=>∃(nm:Str) (l:Addr) (us:List V) (zs:List Str),vs=[.str nm,.ref l]∧H l=some (.lst us)∧AllAt (wH K H) us zs∧us.length≤100∧(∀i:Nat,FirstAt zs nm i→∀H',Same H H'→Q (.int (i:Int)) H')∧(QC zs nm→∀H',Same H H'→E (.ref eU) none H')
def lP (w:Nat) (R:List RC) (L:List LC):List Str:=if w=0 then R.map (·.name) else L.map (·.name)
def QZ (cs:Kd→Addr) (cR cN eU:Addr) (w:Nat):Sp:=fun vs H Q E=>∃(x:Addr) (D:List Addr) (R:List RC) (L:List LC) (N:List (List (Int×Int))) (nm:Str),vs=[.ref x,.str nm]∧CnAt cs cR cN D H x R L N∧R.length≤100∧L.length≤100∧(∀i:Nat,FirstAt (lP w R L) nm i→∀H',Same H H'→Q (.int (i:Int)) H')∧(QC (lP w R L) nm→∀H',Same H H'→E (.ref eU) none H')
theorem NO (c:Cls K cR) (n:NoAttr K cR "name") (h:AllAt (RcO cR H) rs R):AllAt (wH K H) rs (R.map (·.name)):=by
 refine ⟨by rw [h.1,ae],fun i v hv=>?_⟩;obtain ⟨r,hr,x,rfl,dx,fs,hx,hf⟩:=h.2 i v hv;exact ⟨r.name,by rw [ao,hr];rfl,x,cR,dx,fs,rfl,hx,c,n,hf.1⟩
theorem N6 (c:∀kd,Cls K (cs kd)) (n:∀kd,NoAttr K (cs kd) "name") (h:AllAt (LkO cs H) rs L):AllAt (wH K H) rs (L.map (·.name)):=by
 refine ⟨by rw [h.1,ae],fun i v hv=>?_⟩;obtain ⟨l,hl,x,rfl,dx,hx⟩:=h.2 i v hv;exact ⟨l.name,by rw [ao,hl];rfl,x,_,dx,_,rfl,hx,c _,n _,fL ..⟩
theorem bD (h:n≤1000):n≤sizeLine:=ic (qX h)
def SAt (H:Hp) (v:V) (p:Str×Bool):Prop:=∃t,v=.ref t∧H t=some (.tup [.str p.1,.str (ZG p.2)])
theorem SAt.same (e:Same H H') (v:V) (p:Str×Bool):SAt H v p→SAt H' v p:=fun ⟨t,h1,h2⟩=>⟨t,h1,e _ _ h2⟩
theorem SAt.put (hd:H d=some (.lst ys)) (v:V) (p:Str×Bool):SAt H v p→SAt (upd H d o) v p:=fun ⟨t,h1,h2⟩=>⟨t,h1,by rw [jX (fun z=>by rw [z,hd] at h2;cases h2)];exact h2⟩
structure CoE where
 name:Str
 start:Str
 steps:List (Str×Bool)
def CoAt (H:Hp) (t:Addr) (e:CoE):Prop:=∃(st:Addr) (us:List V),H t=some (.tup [.str "come",.str e.name,.str e.start,.ref st])∧H st=some (.tup us)∧AllAt (SAt H) us e.steps
theorem CoAt.same {e:CoE} (s:Same H H') (h:CoAt H t e):CoAt H' t e:=by
 obtain ⟨st,us,h1,h2,h3⟩:=h;exact ⟨st,us,s _ _ h1,s _ _ h2,h3.mono (SAt.same s)⟩
def kM:List Str→Str→Option Nat
 |[],_=>none
 |z::zs,n=>if z=n then some 0 else (kM zs n).map (· + 1)
theorem cY:∀{zs:List Str} {n:Str} {i:Nat},kM zs n=some i→FirstAt zs n i
 |[],n,i,h=>by cases h
 |z::zs,n,i,h=>by
  unfold kM at h
  split at h
  ·rename_i e;cases h;exact ⟨by rw [e];rfl,fun j hj=>absurd hj (iu j)⟩
  ·rename_i ne;obtain ⟨k,hk,rfl⟩:=aW.mp h;obtain ⟨h1,h2⟩:=cY hk;refine ⟨h1,fun j hj=>?_⟩;cases j with
   |zero=>exact fun e=>ne (aA e)
   |succ j=>exact h2 j (by omega)
theorem iO:∀{zs:List Str} {n:Str},kM zs n=none→QC zs n
 |[],n,_=>fun i h=>by cases h
 |z::zs,n,h=>by
  unfold kM at h
  split at h
  ·cases h
  ·rename_i ne;have h':=Option.map_eq_none_iff.mp h;intro i hi;cases i with
   |zero=>exact ne (aA hi)
   |succ i=>exact iO h' i hi
theorem bG {n:Str} (h:FirstAt zs n i):kM zs n=some i:=by
 cases e:kM zs n with
 |none=>exact absurd h.1 (iO e i)
 |some j=>rw [(cY e).uniq h]
theorem bH {n:Str} (h:QC zs n):kM zs n=none:=by
 cases e:kM zs n with
 |none=>rfl
 |some j=>exact absurd (cY e).1 (h j)
theorem ZK {n:Str} (h:kM zs n=some i):i<zs.length:=(ad.mp (cY h).1).1
def v8 (zs:List Str):List (Str×Bool)→Option (List (Nat×Bool))
 |[]=>some []
 | (n,b)::r=>match kM zs n with
  |none=>none
  |some k=>(v8 zs r).map ((k,b) :: ·)
theorem AD {zs:List Str} {p:Str×Bool} {k:Nat} (hk:kM zs p.1=some k):∀{l:List (Str×Bool)} {ps:List (Nat×Bool)},v8 zs l=some ps→v8 zs (l++[p])=some (ps++[(k,p.2)])
 |[],ps,h=>by
  cases h;show (match kM zs p.1 with|none=>none|some k=>(v8 zs []).map ((k,p.2) :: ·))=_;rw [hk];rfl
 | (n,b)::r,ps,h=>by
  unfold v8 at h;show (match kM zs n with|none=>none|some k=>(v8 zs (r++[p])).map ((k,b) :: ·))=_;cases hn:kM zs n with
  |none=>rw [hn] at h;cases h
  |some j =>
   rw [hn] at h;obtain ⟨qs,hq,rfl⟩:=aW.mp h;show (v8 zs (r++[p])).map ((j,b) :: ·)=_;rw [AD hk hq];rfl
theorem AM {zs:List Str} {p:Str×Bool} (hp:kM zs p.1=none):∀{l:List (Str×Bool)},p∈l→v8 zs l=none
 | (n,b)::r,h=>by
  unfold v8
  rcases aq.mp h with e|h
  ·cases e;have hp:kM zs n=none:=hp;rw [hp]
  ·cases kM zs n with
   |none=>rfl
   |some k=>show (v8 zs r).map _=none;rw [AM hp h];rfl
theorem sV {zs:List Str}:∀{l:List (Str×Bool)} {ps:List (Nat×Bool)},v8 zs l=some ps→ps.length=l.length∧∀p∈ps,p.1<zs.length
 |[],ps,h=>by cases h;exact ⟨rfl,fun p hp=>by cases hp⟩
 | (n,b)::r,ps,h=>by
  unfold v8 at h;cases hn:kM zs n with
  |none=>rw [hn] at h;cases h
  |some k =>
   rw [hn] at h;obtain ⟨qs,hq,rfl⟩:=aW.mp h;obtain ⟨h1,h2⟩:=sV hq;refine ⟨by rw [bz,h1];rfl,fun p hp=>?_⟩
   rcases aq.mp hp with rfl|hp
   ·exact ZK hn
   ·exact h2 p hp
def yW (R:List RC) (L:List LC) (e:CoE):Option qD:=match kM (R.map (·.name)) e.start with
 |none=>none
 |some a=>(v8 (L.map (·.name)) e.steps).map fun ps=>((a:Int),ps)
def sW (cs:Kd→Addr) (cR cN eU:Addr):Sp:=fun vs H Q E=>∃(x t:Addr) (e:CoE) (D:List Addr) (R:List RC) (L:List LC) (N:List (List (Int×Int))),vs=[.ref x,.ref t]∧CnAt cs cR cN D H x R L N∧R.length≤100∧L.length≤100∧CoAt H t e∧e.steps.length≤100∧
 (∀y,yW R L e=some y→∀(w:Addr) (H':Hp),Same H H'→H w=none→WyAt H' (.ref w) y→Q (.ref w) H')∧(yW R L e=none→∀H',Same H H'→E (.ref eU) none H')
def BkFld (fs:List (Str×V)) (v0 v1 v2 v3 v4 v5 v6:V):Prop:=fs.lookup ("kept_canal":Str)=some v0∧fs.lookup ("kept_names":Str)=some v1∧fs.lookup ("kept_ways":Str)=some v2∧fs.lookup ("kept_state":Str)=some v3∧fs.lookup ("kept_pours":Str)=some v4∧fs.lookup ("kept_words":Str)=some v5∧fs.lookup ("kept_entries":Str)=some v6∧∀m:Str,¬m="kept_canal"→¬m="kept_names"→¬m="kept_ways"→¬m="kept_state"→¬m="kept_pours"→¬m="kept_words"→¬m="kept_entries"→fs.lookup m=none
theorem T7 (v0 v1 v2 v3 v4 v5 v6:V):BkFld (jL "kept_entries" v6 (jL "kept_words" v5 (jL "kept_pours" v4 (jL "kept_state" v3 (jL "kept_ways" v2 (jL "kept_names" v1 (jL "kept_canal" v0 []))))))) v0 v1 v2 v3 v4 v5 v6:=by
 refine ⟨?_,?_,?_,?_,?_,?_,?_,fun m n0 n1 n2 n3 n4 n5 n6=>?_⟩
 ·rw [kG (f:="kept_entries") (g:="kept_canal") (by decide +kernel),kG (f:="kept_words") (g:="kept_canal") (by decide +kernel),kG (f:="kept_pours") (g:="kept_canal") (by decide +kernel),kG (f:="kept_state") (g:="kept_canal") (by decide +kernel),kG (f:="kept_ways") (g:="kept_canal") (by decide +kernel),kG (f:="kept_names") (g:="kept_canal") (by decide +kernel),yF]
 ·rw [kG (f:="kept_entries") (g:="kept_names") (by decide +kernel),kG (f:="kept_words") (g:="kept_names") (by decide +kernel),kG (f:="kept_pours") (g:="kept_names") (by decide +kernel),kG (f:="kept_state") (g:="kept_names") (by decide +kernel),kG (f:="kept_ways") (g:="kept_names") (by decide +kernel),yF]
 ·rw [kG (f:="kept_entries") (g:="kept_ways") (by decide +kernel),kG (f:="kept_words") (g:="kept_ways") (by decide +kernel),kG (f:="kept_pours") (g:="kept_ways") (by decide +kernel),kG (f:="kept_state") (g:="kept_ways") (by decide +kernel),yF]
 ·rw [kG (f:="kept_entries") (g:="kept_state") (by decide +kernel),kG (f:="kept_words") (g:="kept_state") (by decide +kernel),kG (f:="kept_pours") (g:="kept_state") (by decide +kernel),yF]
 ·rw [kG (f:="kept_entries") (g:="kept_pours") (by decide +kernel),kG (f:="kept_words") (g:="kept_pours") (by decide +kernel),yF]
 ·rw [kG (f:="kept_entries") (g:="kept_words") (by decide +kernel),yF]
 ·rw [yF]
 ·rw [kG n6,kG n5,kG n4,kG n3,kG n2,kG n1,kG n0];rfl
variable {v0 v1 v2 v3 v4 v5 v6:V}
theorem BkFld.put2 (z:V) (h:BkFld fs v0 v1 v2 v3 v4 v5 v6):BkFld (jL "kept_ways" z fs) v0 v1 z v3 v4 v5 v6:=by
 obtain ⟨h0,h1,h2,h3,h4,h5,h6,hn⟩:=h;refine ⟨?_,?_,?_,?_,?_,?_,?_,fun m n0 n1 n2 n3 n4 n5 n6=>?_⟩
 ·rw [kG (f:="kept_ways") (g:="kept_canal") (by decide +kernel)];exact h0
 ·rw [kG (f:="kept_ways") (g:="kept_names") (by decide +kernel)];exact h1
 ·rw [yF]
 ·rw [kG (f:="kept_ways") (g:="kept_state") (by decide +kernel)];exact h3
 ·rw [kG (f:="kept_ways") (g:="kept_pours") (by decide +kernel)];exact h4
 ·rw [kG (f:="kept_ways") (g:="kept_words") (by decide +kernel)];exact h5
 ·rw [kG (f:="kept_ways") (g:="kept_entries") (by decide +kernel)];exact h6
 ·rw [kG n2];exact hn m n0 n1 n2 n3 n4 n5 n6
theorem BkFld.put3 (z:V) (h:BkFld fs v0 v1 v2 v3 v4 v5 v6):BkFld (jL "kept_state" z fs) v0 v1 v2 z v4 v5 v6:=by
 obtain ⟨h0,h1,h2,h3,h4,h5,h6,hn⟩:=h;refine ⟨?_,?_,?_,?_,?_,?_,?_,fun m n0 n1 n2 n3 n4 n5 n6=>?_⟩
 ·rw [kG (f:="kept_state") (g:="kept_canal") (by decide +kernel)];exact h0
 ·rw [kG (f:="kept_state") (g:="kept_names") (by decide +kernel)];exact h1
 ·rw [kG (f:="kept_state") (g:="kept_ways") (by decide +kernel)];exact h2
 ·rw [yF]
 ·rw [kG (f:="kept_state") (g:="kept_pours") (by decide +kernel)];exact h4
 ·rw [kG (f:="kept_state") (g:="kept_words") (by decide +kernel)];exact h5
 ·rw [kG (f:="kept_state") (g:="kept_entries") (by decide +kernel)];exact h6
 ·rw [kG n3];exact hn m n0 n1 n2 n3 n4 n5 n6
theorem BkFld.no (h:BkFld fs v0 v1 v2 v3 v4 v5 v6) (n0:¬m="kept_canal") (n1:¬m="kept_names") (n2:¬m="kept_ways") (n3:¬m="kept_state") (n4:¬m="kept_pours") (n5:¬m="kept_words") (n6:¬m="kept_entries"):fs.lookup m=none:=h.2.2.2.2.2.2.2 m n0 n1 n2 n3 n4 n5 n6
theorem QB (H:Hp) (A:List Addr):Same (kL H A) H:=fun a o e=>by
 by_cases h:a∈A
 ·rw [ZQ h] at e;cases e
 ·rw [v7 h] at e;exact e
variable {A:List Addr}
theorem y8 (s:Same H H'):Same (kL H A) (kL H' A):=fun a o e=>by
 by_cases h:a∈A
 ·rw [ZQ h] at e;cases e
 ·rw [v7 h] at e ⊢;exact s a o e
theorem SA {B:List Addr} (h:∀a∈B,a∈A):Same (kL H A) (kL H B):=fun a o e=>by
 by_cases ha:a∈A
 ·rw [ZQ ha] at e;cases e
 ·rw [v7 ha] at e;rw [v7 fun z=>ha (h a z)];exact e
theorem fM (h:a∈A):kL (upd H a o) A=kL H A:=by
 funext b
 by_cases hb:b∈A
 ·rw [ZQ hb,ZQ hb]
 ·rw [v7 hb,v7 hb,jX (fun z=>hb (by rw [z];exact h))]
theorem T0 (h:H a=none):Same (kL H A) (kL H (a::A)):=fun b o e=>by
 by_cases hb:b∈A
 ·rw [ZQ hb] at e;cases e
 ·rw [v7 hb] at e;rw [v7 fun z=>(aq.mp z).elim (fun z=>by rw [z,h] at e;cases e) hb];exact e
variable {b:Addr}
theorem lK {Hi:Hp} (hb:b∈A) (h:Hi a=none) (s:Same (kL H [b]) (kL Hi A)):Same (kL H [b]) (kL (upd (upd Hi a o) b o') (a::A)):=by
 rw [fM (aK _ hb),fM bd];exact s.trans (T0 h)
theorem RV {Hi:Hp} (hb:b∈A) (h:Hi a=none) (s:Same (kL H [b]) (kL Hi A)):Same (kL H [b]) (kL (upd (upd Hi a o) b o') A):=by
 rw [fM hb];exact s.trans (y8 (jK h _))
theorem put2 {u:HO} (h:H a=none) (hc:H c=some u) (n:c≠b):upd (upd H a o) b o' c=some u:=by
 rw [jX n,jX (kT hc h)];exact hc
theorem put3 {u:HO} (h:H a=none) (hb:H b=some u):upd (upd H a o) b o' a=some o:=by
 rw [jX (kT hb h).symm];exact jE
theorem StAt.put2 {cl db:Addr} {d:Int} (ha:H a=none) (hb:H b=some (.ins cl db fs)) (h:StAt H t d ms pl):StAt (upd (upd H a o) b o') t d ms pl:=by
 obtain ⟨wt,pt,h1,h2,h3⟩:=h;have k:∀(c:Addr) (l:List V),H c=some (.tup l)→upd (upd H a o) b o' c=some (.tup l):=fun c l e=>My.put2 ha e (qV e hb (fun z=>nomatch z))
 exact ⟨wt,pt,k _ _ h1,k _ _ h2,k _ _ h3⟩
theorem StAt.del {d:Int} (hA:∀a∈A,∀l,H a≠some (.tup l)) (h:StAt H t d ms pl):StAt (kL H A) t d ms pl:=by
 obtain ⟨wt,pt,h1,h2,h3⟩:=h;have k:∀(a:Addr) (l:List V),H a=some (.tup l)→kL H A a=some (.tup l):=fun a l e=>by rw [v7 fun z=>hA a z l e];exact e
 exact ⟨wt,pt,k _ _ h1,k _ _ h2,k _ _ h3⟩
theorem WyAt.del (hA:∀a∈A,∀l,H a≠some (.tup l)) (v:V) (y:qD) (h:WyAt H v y):WyAt (kL H A) v y:=by
 have k:∀(a:Addr) (l:List V),H a=some (.tup l)→kL H A a=some (.tup l):=fun a l e=>by rw [v7 fun z=>hA a z l e];exact e
 obtain ⟨t,st,us,e,h1,h2,h3⟩:=h;exact ⟨t,st,us,e,k _ _ h1,k _ _ h2,h3.mono fun v p ⟨t,e,h⟩=>⟨t,e,k _ _ h⟩⟩
def WdAt (H:Hp) (v:V) (p:Str×List Str):Prop:=∃t l:Addr,v=.ref t∧H t=some (.tup [.str p.1,.ref l])∧H l=some (.lst (p.2.map V.str))
theorem WdAt.same (s:Same H H') (v:V) (p:Str×List Str):WdAt H v p→WdAt H' v p:=fun ⟨t,l,e,h1,h2⟩=>⟨t,l,e,s _ _ h1,s _ _ h2⟩
def WdNew (H0:Hp) (D:Addr) (H:Hp) (v:V) (p:Str×List Str):Prop:=∃t l:Addr,v=.ref t∧H0 t=none∧H0 l=none∧l≠D∧H t=some (.tup [.str p.1,.ref l])∧H l=some (.lst (p.2.map V.str))
theorem WdNew.same {H0:Hp} {D:Addr} (s:Same H H') (v:V) (p:Str×List Str):WdNew H0 D H v p→WdNew H0 D H' v p:=fun ⟨t,l,e,n1,n2,n3,h1,h2⟩=>⟨t,l,e,n1,n2,n3,s _ _ h1,s _ _ h2⟩
theorem WdNew.put {H0:Hp} {D:Addr} (hd:H D=some (.lst ys)) (v:V) (p:Str×List Str):WdNew H0 D H v p→WdNew H0 D (upd H D o) v p:=fun ⟨t,l,e,n1,n2,n3,h1,h2⟩=>⟨t,l,e,n1,n2,n3,by rw [jX (qV h1 hd (fun z=>nomatch z))];exact h1,by rw [jX n3];exact h2⟩
structure BkS where
 zs:List Str
 ys:List qD
 d:Int
 ms:List Int
 pl:List Nat
 us:List V
 st:Addr
 ps:List V
 qs:List V
 qd:List (Str×List Str)
 es:List V
structure BkOk (R:List RC) (L:List LC) (N:List (List (Int×Int))) (B:BkS):Prop where
 dr:Drawn R L N
 fl:Fleet L B.ys B.pl
 ml:B.ms.length=R.length+2*L.length+2
 d0:0≤B.d
 zl:B.zs.length=B.ys.length
 z9:B.zs.length≤9
 e15:B.es.length≤15
 pn:B.ps.length≤24*B.es.length
 qn:B.qs.length≤B.es.length
 pr:∀z∈B.ps,∃c,z=.ref c
 er:∀z∈B.es,∃c,z=.ref c
structure BkAt (cs:Kd→Addr) (cR cN cO:Addr) (A:List Addr) (H:Hp) (b x:Addr) (R:List RC) (L:List LC) (N:List (List (Int×Int))) (B:BkS):Prop where
 ob:∃(db nl wl pl ql el:Addr) (fs:List (Str×V)),A=[b,nl,pl,ql,el]∧H b=some (.ins cO db fs)∧fs.length≤7+2*B.es.length∧BkFld fs (.ref x) (.ref nl) (.ref wl) (.ref B.st) (.ref pl) (.ref ql) (.ref el)∧H nl=some (.lst (B.zs.map V.str))∧H pl=some (.lst B.ps)∧H ql=some (.lst B.qs)∧H el=some (.lst B.es)∧[nl,pl,ql,el].Nodup∧kL H A wl=some (.lst B.us)
 cn:CnAt cs cR cN [] (kL H A) x R L N
 wy:AllAt (WyAt (kL H A)) B.us B.ys
 sts:StAt (kL H A) B.st B.d B.ms B.pl
 wd:AllAt (WdAt (kL H A)) B.qs B.qd
 ok:BkOk R L N B
section
variable {cs:Kd→Addr} {cR cN cO:Addr} {A:List Addr} {H H':Hp} {b x:Addr} {R:List RC} {L:List LC} {N:List (List (Int×Int))} {B:BkS}
theorem BkAt.same (s:Same H H') (h:BkAt cs cR cN cO A H b x R L N B):BkAt cs cR cN cO A H' b x R L N B:=by
 obtain ⟨db,nl,wl,pl,ql,el,fs,h0,h1,h2,h3,h4,h5,h6,h7,h8,h9⟩:=h.ob;have sd:Same (kL H A) (kL H' A):=y8 s;exact ⟨⟨db,nl,wl,pl,ql,el,fs,h0,s _ _ h1,h2,h3,s _ _ h4,s _ _ h5,s _ _ h6,s _ _ h7,h8,sd _ _ h9⟩,h.cn.same sd,h.wy.mono (WyAt.same sd),h.sts.same sd,h.wd.mono (WdAt.same sd),h.ok⟩
theorem BkAt.cnH (h:BkAt cs cR cN cO A H b x R L N B):CnAt cs cR cN [] H x R L N:=h.cn.same (QB _ _)
theorem BkAt.wyH (h:BkAt cs cR cN cO A H b x R L N B):AllAt (WyAt H) B.us B.ys:=h.wy.mono (WyAt.same (QB _ _))
theorem BkAt.stH (h:BkAt cs cR cN cO A H b x R L N B):StAt H B.st B.d B.ms B.pl:=h.sts.same (QB _ _)
theorem BkAt.stage {l:Addr} (h:BkAt cs cR cN cO A H b x R L N B) (hl:H l=some (.lst B.us)):Stage cs cR cN [] H x l B.st B.us R L N B.ys B.d B.ms B.pl:=⟨h.cnH,h.ok.dr,hl,h.wyH,h.stH,h.ok.fl,h.ok.ml⟩
theorem BkAt.ins (h:BkAt cs cR cN cO A H b x R L N B):∃(db:Addr) (fs:List (Str×V)),H b=some (.ins cO db fs)∧∀m:Str,m∉(["kept_canal","kept_names","kept_ways","kept_state","kept_pours","kept_words","kept_entries"]:List Str)→fs.lookup m=none:=by
 obtain ⟨db,nl,wl,pl,ql,el,fs,_,hb,_,hf,_⟩:=h.ob;refine ⟨db,fs,hb,fun m hm=>?_⟩;simp only [aq,aE,bx,not_or] at hm;exact hf.no hm.1 hm.2.1 hm.2.2.1 hm.2.2.2.1 hm.2.2.2.2.1 hm.2.2.2.2.2.1 hm.2.2.2.2.2.2
end
def vD (cs:Kd→Addr) (cR cN cO:Addr) (P:BkS→Hp→VK→Prop):Sp:=fun vs H Q _=>∃(b x:Addr) (A:List Addr) (R:List RC) (L:List LC) (N:List (List (Int×Int))) (B:BkS),vs=[.ref b]∧BkAt cs cR cN cO A H b x R L N B∧P B H Q
def QY (cs:Kd→Addr) (cR cN cO:Addr):Sp:=fun vs H Q _=>∃(b x:Addr) (A:List Addr) (R:List RC) (L:List LC) (N:List (List (Int×Int))) (B:BkS),vs=[.ref b]∧BkAt cs cR cN cO A H b x R L N B∧Q (.ref x) H
def zG (f:BkS→List V) (B:BkS) (H:Hp) (Q:VK):Prop:=∀(l:Addr) (H':Hp),Same H H'→H l=none→H' l=some (.lst (f B))→Q (.ref l) H'
def QG (B:BkS) (H:Hp) (Q:VK):Prop:=Q (.ref B.st) H
def ER (B:BkS) (H:Hp) (Q:VK):Prop:=∀(l:Addr) (vs:List V) (H':Hp),Same H H'→H l=none→H' l=some (.lst vs)→AllAt (WdNew H l H') vs B.qd→Q (.ref l) H'
def sO (cs:Kd→Addr) (cR cN cO:Addr):Sp:=fun vs H Q _=>∃(b db x:Addr) (R:List RC) (L:List LC) (N:List (List (Int×Int))),vs=[.ref b,.ref x]∧H b=some (.ins cO db [])∧CnAt cs cR cN [] (kL H [b]) x R L N∧Drawn R L N∧
 ∀(A:List Addr) (B:BkS) (H':Hp),BkAt cs cR cN cO A H' b x R L N B→B.zs=[]→B.es=[]→Same (kL H [b]) (kL H' A)→Q .non H'
def mE (S:Str) (c:Nat):Bool := !(Builtin.Str.occurrences S ⟨#[c]⟩ 0 S.length 1).isEmpty
def cG (S w:Str) (i:Nat):Bool:=(w.cps.toList.take i).all (mE S)
theorem P6 {S w:Str} {c:Nat} (h:w.cps[i]?=some c):cG S w (i+1)=(cG S w i&&mE S c):=by
 unfold cG;rw [aL,show w.cps.toList[i]?=some c by rw [Array.getElem?_toList];exact h,all_append];simp
def zE (S w:Str):Bool:=decide (0<w.length)&&decide (w.length<13)&&cG S w w.cps.size
theorem sU (zs:List Str):(zs.map V.str).all qR=true:=by rw [all_map,cm];intro _ _;rfl
theorem TC (h:QC zs nm):QN (.str nm) (zs.map V.str)=false:=by
 unfold QN;rw [any_map,di];intro e;obtain ⟨z,hz,e⟩:=any_eq_true.mp e;obtain ⟨i,hi⟩:=cy.mp hz;have e:(z == nm)=true:=e;rw [eq_of_beq e] at hi;exact h i hi
theorem in_iff:QN (.str nm) (zs.map V.str)=true↔¬QC zs nm:=by
 refine ⟨fun h hn=>?_,fun h=>?_⟩
 ·rw [TC hn] at h;cases h
 ·cases e:QN (.str nm) (zs.map V.str) with
  |true=>rfl
  |false =>
   refine absurd (fun i hi=>?_) h;unfold QN at e;rw [any_map,di] at e;exact e (any_eq_true.mpr ⟨nm,au hi,by show (nm == nm)=true;exact fo nm⟩)
open Classical in
def EF:Sp:=fun vs H Q _=>∃w S:Str,vs=[.str w,.str S]∧w.length≤100∧∀H',Same H H'→Q (.bl (zE S w)) H'
def CO:Sp:=fun vs H Q _=>∃w:Str,vs=[.str w]∧w.length≤100∧∀H',Same H H'→Q (.bl (zE lettersS w)) H'
open Classical in
noncomputable def qZ (R:List RC) (L:List LC) (zs:List Str) (e:CoE):Nat:=if zE lettersS e.name=false then 1 else if e.name∈zs then 2 else if 9≤zs.length then 3 else match yW R L e with
 |none=>4
 |some y=>if JO L y.1 y.2 then 0 else 5
def mQ (eB eT eM eU eL:Addr) (c:Nat):Addr:=if c=1 then eB else if c=2 then eT else if c=3 then eM else if c=4 then eU else eL
theorem mem_inV:QN (V.str nm) (zs.map V.str)=true↔nm∈zs:=by
 rw [in_iff];constructor
 ·intro h
  rcases R1 zs nm with ⟨i,hi⟩|h'
  ·exact au hi.1
  ·exact absurd h' h
 ·intro h hn;obtain ⟨i,hi⟩:=cy.mp h;exact hn i hi
theorem PJ (h:FirstAt zs nm j):j<(zs.map V.str).length∧vL ((zs.map V.str).getD j .non) (.str nm)=true∧∀i,i<j→vL ((zs.map V.str).getD i .non) (.str nm)=false:=by
 have hj:=(ad.mp h.1).1;refine ⟨by rw [ae];exact hj,?_,fun i hi=>?_⟩
 ·rw [ac,ao,h.1];show (nm == nm)=true;exact fo nm
 ·have hz:zs[i]?=some zs[i]:=aa (by omega);rw [ac,ao,hz];show (zs[i] == nm)=false;exact cp.mpr fun e=>h.2 i hi (by rw [hz,e])
theorem sR {e:CoE} {y:qD} (h:yW R L e=some y):∃a:Nat,y.1=(a:Int)∧kM (R.map (·.name)) e.start=some a∧a<R.length∧y.2.length=e.steps.length∧∀p∈y.2,p.1<L.length:=by
 unfold yW at h;cases ha:kM (R.map (·.name)) e.start with
 |none=>rw [ha] at h;cases h
 |some a =>
  rw [ha] at h;obtain ⟨ps,hps,rfl⟩:=aW.mp h;have h1:=ZK ha;rw [ae] at h1;obtain ⟨h2,h3⟩:=sV hps;exact ⟨a,rfl,rfl,h1,h2,fun p hp=>by have:=h3 p hp;rwa [ae] at this⟩
open Classical in
theorem tX {R:List RC} {L:List LC} {zs:List Str} {e:CoE} (h:qZ R L zs e=0):∃y,yW R L e=some y∧JO L y.1 y.2∧e.name∉zs∧zs.length<9:=by
 unfold qZ at h
 by_cases hg:zE lettersS e.name=false
 ·rw [if_pos hg] at h;cases h
 rw [if_neg hg] at h
 by_cases hz:e.name∈zs
 ·rw [if_pos hz] at h;cases h
 rw [if_neg hz] at h
 by_cases h9:9≤zs.length
 ·rw [if_pos h9] at h;cases h
 rw [if_neg h9] at h;cases hy:yW R L e with
 |none=>rw [hy] at h;cases h
 |some y =>
  rw [hy] at h
  by_cases hok:JO L y.1 y.2
  ·exact ⟨y,rfl,hok,hz,by omega⟩
  ·have h:(if JO L y.1 y.2 then 0 else 5)=0:=h;rw [if_neg hok] at h;cases h
theorem SE (R:List RC) (L:List LC) (zs:List Str) (e:CoE):qZ R L zs e≤5:=by
 unfold qZ
 split
 ·decide
 split
 ·decide
 split
 ·decide
 split
 ·decide
 split<;>decide
inductive Ent
 |come (e:CoE)
 |pas (n:Str)
 |lt (n:Str)
 |night (W:List (Int×Int))
 |take (n:Str) (a:Int)
 |rain (n:Str) (a:Int)
def EnAt (H:Hp) (t:Addr):Ent→Prop
 |.come e=>CoAt H t e
 |.pas n=>H t=some (.tup [.str "pass",.str n])
 |.lt n=>H t=some (.tup [.str "let",.str n])
 |.night W=>∃(wt:Addr) (us:List V),H t=some (.tup [.str "night",.ref wt])∧H wt=some (.tup us)∧AllAt (QAt H) us W
 |.take n a=>H t=some (.tup [.str "take",.str n,.int a])
 |.rain n a=>H t=some (.tup [.str "rain",.str n,.int a])
theorem EnAt.same {H H':Hp} {t:Addr} (s:Same H H'):∀{e:Ent},EnAt H t e→EnAt H' t e
 |.come _,h=>CoAt.same s h
 |.pas _,h=>s _ _ h
 |.lt _,h=>s _ _ h
 |.night _,⟨wt,us,h1,h2,h3⟩=>⟨wt,us,s _ _ h1,s _ _ h2,h3.mono (QAt.same s)⟩
 |.take _ _,h=>s _ _ h
 |.rain _ _,h=>s _ _ h
def ZE:Ent→Prop
 |.come e=>e.name.length≤100∧e.steps.length≤8∧1≤e.steps.length
 |.night W=>W.length≤100
 |_=>True
def Q2:Ent→Str
 |.come _=>"come"
 |.pas _=>"pass"
 |.lt _=>"let"
 |.night _=>"night"
 |.take _ _=>"take"
 |.rain _ _=>"rain"
theorem yU {x:V} {l:List V}:qU (x::l) 0=some x:=kY (j:=0) rfl
theorem EnAt.head:∀{e:Ent},EnAt H t e→∃l,H t=some (.tup (.str (Q2 e)::l))
 |.come _,⟨_,_,h,_⟩=>⟨_,h⟩
 |.pas _,h=>⟨_,h⟩
 |.lt _,h=>⟨_,h⟩
 |.night _,⟨_,_,h,_⟩=>⟨_,h⟩
 |.take _ _,h=>⟨_,h⟩
 |.rain _ _,h=>⟨_,h⟩
def JV (R:List RC) (L:List LC) (zs:List Str):Ent→Option Nat
 |.pas n=>kM zs n
 |.lt n=>kM (L.map (·.name)) n
 |.take n _=>kM (R.map (·.name)) n
 |.rain n _=>kM (R.map (·.name)) n
 |_=>none
def Q3:Ent→Bool
 |.come _=>false
 |.night _=>false
 |_=>true
noncomputable def kE (R:List RC) (L:List LC) (N:List (List (Int×Int))) (B:BkS):Ent→Nat
 |.come e=>qZ R L B.zs e
 |.night W=>if W.length=R.length then (if B.d<(N.length:Int)∧JC W (N.getD B.d.toNat [])=false then 8 else 0) else 7
 |e=>if JV R L B.zs e=none then 4 else 0
def lS (R:List RC) (L:List LC) (B:BkS) (e:CoE):Bool:=match yW R L e with
 |some y=>decide (((R[y.1.toNat]?).map (·.berths)).getD 0≤(((yX L B.ys B.pl).countP fun z=>decide (z=y.1):Nat):Int))
 |none=>false
def yV (R:List RC) (L:List LC) (zs:List Str):Ent→Option Deed
 |.pas n=>(kM zs n).map Deed.pass
 |.lt n=>(kM (L.map (·.name)) n).map Deed.let
 |.night _=>some .night
 |_=>none
def vV (R:List RC) (L:List LC) (N:List (List (Int×Int))) (B:BkS):Ent→Str
 |.come e=>if lS R L B e=true then "berth" else ""
 |.take n a=>match kM (R.map (·.name)) n with
  |some i=>if B.ms.getD i 0 - a<((R[i]?).map (·.least)).getD 0 then "water" else ""
  |none=>""
 |.rain _ _=>""
 |e=>match yV R L B.zs e with
  |some de=>JU R L N.length B.ys B.d B.ms B.pl de
  |none=>""
def QK (eB eT eM eU eL eN eD:Addr) (c:Nat):Addr:=if c=7 then eN else if c=8 then eD else mQ eB eT eM eU eL c
def qL (cs:Kd→Addr) (cR cN cO:Addr) (P:List RC→List LC→List (List (Int×Int))→BkS→Addr→Ent→Hp→VK→XK→Prop):Sp:=fun vs H Q E=>∃(b t x:Addr) (A:List Addr) (R:List RC) (L:List LC) (N:List (List (Int×Int))) (B:BkS) (e:Ent),vs=[.ref b,.ref t]∧BkAt cs cR cN cO A H b x R L N B∧EnAt H t e∧ZE e∧P R L N B t e H Q E
def cD (eU:Addr) (R:List RC) (L:List LC) (_:List (List (Int×Int))) (B:BkS) (_:Addr) (e:Ent) (H:Hp) (Q:VK) (E:XK):Prop:=Q3 e=true∧(∀i,JV R L B.zs e=some i→∀H',Same H H'→Q (.int ((i:Nat):Int)) H')∧(JV R L B.zs e=none→∀H',Same H H'→E (.ref eU) none H')
def FR (eB eT eM eU eL eN eD:Addr) (R:List RC) (L:List LC) (N:List (List (Int×Int))) (B:BkS) (_:Addr) (e:Ent) (H:Hp) (Q:VK) (E:XK):Prop:=(kE R L N B e=0→∀H',Same H H'→Q .non H')∧(kE R L N B e≠0→∀H',Same H H'→E (.ref (QK eB eT eM eU eL eN eD (kE R L N B e))) none H')
def EL (eU:Addr):Sp:=fun vs H Q E=>∃(nm:Str) (l:Addr) (zs:List Str),vs=[.str nm,.ref l]∧H l=some (.lst (zs.map V.str))∧zs.length≤100∧(∀i,kM zs nm=some i→Q (.int ((i:Nat):Int)) H)∧(kM zs nm=none→E (.ref eU) none H)
def BL (cs:Kd→Addr) (cR cN cO eB eT eM eU eL:Addr):Sp:=fun vs H Q E=>∃(b t x:Addr) (A:List Addr) (R:List RC) (L:List LC) (N:List (List (Int×Int))) (B:BkS) (e:CoE),vs=[.ref b,.ref t]∧BkAt cs cR cN cO A H b x R L N B∧CoAt H t e∧ZE (.come e)∧(qZ R L B.zs e=0→∀H',Same H H'→Q .non H')∧(qZ R L B.zs e≠0→∀H',Same H H'→E (.ref (mQ eB eT eM eU eL (qZ R L B.zs e))) none H')
def AN (cs:Kd→Addr) (cR cN cO eN eD:Addr):Sp:=fun vs H Q E=>∃(b wt x:Addr) (A:List Addr) (R:List RC) (L:List LC) (N:List (List (Int×Int))) (B:BkS) (us:List V) (W:List (Int×Int)),vs=[.ref b,.ref wt]∧BkAt cs cR cN cO A H b x R L N B∧H wt=some (.tup us)∧AllAt (QAt H) us W∧W.length≤100∧(kE R L N B (.night W)=0→∀H',Same H H'→Q .non H')∧(kE R L N B (.night W)=7→∀H',Same H H'→E (.ref eN) none H')∧(kE R L N B (.night W)=8→∀H',Same H H'→E (.ref eD) none H')
def mD (R:List RC) (L:List LC) (_:List (List (Int×Int))) (B:BkS) (_:Addr) (e:Ent) (H:Hp) (Q:VK) (_:XK):Prop:=∃de,yV R L B.zs e=some de∧∀(dd:Addr) (H':Hp),Same H H'→H' dd=some (.tup (mG de))→Q (.ref dd) H'
def FA (R:List RC) (_:List LC) (_:List (List (Int×Int))) (B:BkS) (_:Addr) (e:Ent) (H:Hp) (Q:VK) (_:XK):Prop:=∃n a i,e=.take n a∧kM (R.map (·.name)) n=some i∧∀H',Same H H'→Q (.bl (decide (B.ms.getD i 0 - a<((R[i]?).map (·.least)).getD 0))) H'
def FQ (R:List RC) (L:List LC) (N:List (List (Int×Int))) (B:BkS) (_:Addr) (e:Ent) (H:Hp) (Q:VK) (_:XK):Prop:=kE R L N B e=0∧∀H',Same H H'→Q (.str (vV R L N B e)) H'
variable {B:BkS} {e:Ent}
theorem ZN (h:Q3 e=true) (hc:kE R L N B e=0):∃i,JV R L B.zs e=some i:=by
 cases hn:JV R L B.zs e with
 |some i=>exact ⟨i,rfl⟩
 |none =>
  have:kE R L N B e=if JV R L B.zs e=none then 4 else 0:=by cases e<;>first|rfl|cases h
  rw [hn,if_pos rfl,hc] at this;cases this
def dJ:Ent→Bool
 |.pas _=>true
 |.lt _=>true
 |.night _=>true
 |_=>false
theorem C3:∀{e:Ent},Q3 e=true→Q2 e≠"come"∧Q2 e≠"night"
 |.pas _,_=>⟨(show ("pass":Str)≠"come" by decide +kernel),(show ("pass":Str)≠"night" by decide +kernel)⟩
 |.lt _,_=>⟨(show ("let":Str)≠"come" by decide +kernel),(show ("let":Str)≠"night" by decide +kernel)⟩
 |.take _ _,_=>⟨(show ("take":Str)≠"come" by decide +kernel),(show ("take":Str)≠"night" by decide +kernel)⟩
 |.rain _ _,_=>⟨(show ("rain":Str)≠"come" by decide +kernel),(show ("rain":Str)≠"night" by decide +kernel)⟩
theorem tE:∀{e:Ent},dJ e=true→Q2 e≠"come"∧Q2 e≠"take"∧Q2 e≠"rain"
 |.pas _,_=>⟨(show ("pass":Str)≠"come" by decide +kernel),(show ("pass":Str)≠"take" by decide +kernel),(show ("pass":Str)≠"rain" by decide +kernel)⟩
 |.lt _,_=>⟨(show ("let":Str)≠"come" by decide +kernel),(show ("let":Str)≠"take" by decide +kernel),(show ("let":Str)≠"rain" by decide +kernel)⟩
 |.night _,_=>⟨(show ("night":Str)≠"come" by decide +kernel),(show ("night":Str)≠"take" by decide +kernel),(show ("night":Str)≠"rain" by decide +kernel)⟩
theorem BS:∀e:Ent,Q2 e≠"come"∨∃e',e=.come e'
 |.come e=>.inr ⟨e,rfl⟩
 |.pas _=>.inl (show ("pass":Str)≠"come" by decide +kernel)
 |.lt _=>.inl (show ("let":Str)≠"come" by decide +kernel)
 |.night _=>.inl (show ("night":Str)≠"come" by decide +kernel)
 |.take _ _=>.inl (show ("take":Str)≠"come" by decide +kernel)
 |.rain _ _=>.inl (show ("rain":Str)≠"come" by decide +kernel)
theorem PD:∀e:Ent,(Q2 e≠"let"∧Q2 e≠"pass")∨(∃n,e=.pas n)∨∃n,e=.lt n
 |.pas n=>.inr (.inl ⟨n,rfl⟩)
 |.lt n=>.inr (.inr ⟨n,rfl⟩)
 |.come _=>.inl ⟨(show ("come":Str)≠"let" by decide +kernel),(show ("come":Str)≠"pass" by decide +kernel)⟩
 |.night _=>.inl ⟨(show ("night":Str)≠"let" by decide +kernel),(show ("night":Str)≠"pass" by decide +kernel)⟩
 |.take _ _=>.inl ⟨(show ("take":Str)≠"let" by decide +kernel),(show ("take":Str)≠"pass" by decide +kernel)⟩
 |.rain _ _=>.inl ⟨(show ("rain":Str)≠"let" by decide +kernel),(show ("rain":Str)≠"pass" by decide +kernel)⟩
theorem uI (zl:B.zs.length=B.ys.length) (h:dJ e=true) (hc:kE R L N B e=0):∃de,yV R L B.zs e=some de∧uY B.ys.length L.length de∧vV R L N B e=JU R L N.length B.ys B.d B.ms B.pl de∧(Q3 e=true→de≠.night∧(mH R L N B.ys B.d B.ms B.pl de).length≤4):=by
 cases e with
 |night W=>exact ⟨.night,rfl,trivial,rfl,fun z=>nomatch z⟩
 |pas n =>
  obtain ⟨i,hi⟩:=ZN (e:=.pas n) rfl hc;have hi:kM B.zs n=some i:=hi;have hd:yV R L B.zs (.pas n)=some (.pass i):=by show (kM B.zs n).map Deed.pass=_;rw [hi];rfl
  refine ⟨.pass i,hd,?_,?_,fun _=>⟨(fun z=>nomatch z),BP _ _ _ _⟩⟩
  ·have:=ZK hi;show i<B.ys.length;omega
  ·show (match yV R L B.zs (.pas n) with|some de=>JU R L N.length B.ys B.d B.ms B.pl de|none=>"")=_;rw [hd]
 |lt n =>
  obtain ⟨i,hi⟩:=ZN (e:=.lt n) rfl hc;have hi:kM (L.map (·.name)) n=some i:=hi;have hd:yV R L B.zs (.lt n)=some (.let i):=by show (kM (L.map (·.name)) n).map Deed.let=_;rw [hi];rfl
  refine ⟨.let i,hd,?_,?_,fun _=>⟨(fun z=>nomatch z),CZ _ _ _ _⟩⟩
  ·have:=ZK hi
   rwa [ae] at this
  ·show (match yV R L B.zs (.lt n) with|some de=>JU R L N.length B.ys B.d B.ms B.pl de|none=>"")=_;rw [hd]
 |come e=>cases h
 |take n a=>cases h
 |rain n a=>cases h
def CI:Sp:=fun vs H Q _=>∃(s t m:Nat) (a:Int),vs=[.int (s:Int),.int (t:Int),.int a]∧s<m∧t<m∧∀(r:Addr) (zs:List V) (qs:List (Nat×Nat×Int)) (H':Hp),Same H H'→H r=none→H' r=some (.lst zs)→PoursH H' zs qs m→zs.length≤1→Q (.ref r) H'
def uV (R:List RC) (L:List LC) (N:List (List (Int×Int))) (B:BkS) (_:Addr) (e:Ent) (H:Hp) (Q:VK) (_:XK):Prop:=kE R L N B e=0∧vV R L N B e=""∧∀(r:Addr) (zs:List V) (qs:List (Nat×Nat×Int)) (H':Hp),Same H H'→H r=none→H' r=some (.lst zs)→PoursH H' zs qs B.ms.length→zs.length≤24→Q (.ref r) H'
theorem tM {m:Nat} {f:Nat→Int}:((yT (qK (vC R m)) f (vC R m).length).filter q9).length≤R.length:=by
 refine aI (bg _ _) ?_;unfold yT;rw [ae,cX,eX];exact aj _
theorem RN {W:List (Int×Int)} (hc:kE R L N B (.night W)=0):W.length=R.length:=by
 have:kE R L N B (.night W)=if W.length=R.length then (if B.d<(N.length:Int)∧JC W (N.getD B.d.toNat [])=false then 8 else 0) else 7:=rfl
 by_cases h:W.length=R.length
 ·exact h
 ·rw [if_neg h,hc] at this;cases this
def ZT (R:List RC) (L:List LC) (B:BkS):Ent→List qD
 |.come e=>B.ys++(yW R L e).toList
 |_=>B.ys
def JW (R:List RC) (L:List LC) (B:BkS) (e:Ent):List Nat:=match e with
 |.come _=>B.pl++[0]
 |_=>match yV R L B.zs e with
  |some de=>QV B.pl de
  |none=>B.pl
def d9 (B:BkS):Ent→Int
 |.night _=>B.d+1
 |_=>B.d
def QM (B:BkS):Ent→List Str
 |.come e=>B.zs++[e.name]
 |_=>B.zs
theorem U5 {de:Deed} (h:dJ e=true) (hd:yV R L B.zs e=some de):d9 B e=FF B.d de∧JW R L B e=QV B.pl de:=by
 cases e with
 |come e=>cases h
 |take n a=>cases h
 |rain n a=>cases h
 |night W=>cases hd;exact ⟨rfl,rfl⟩
 |pas n =>
  have hp:JW R L B (.pas n)=QV B.pl de:=by show (match yV R L B.zs (.pas n) with|some de=>QV B.pl de|none=>B.pl)=_;rw [hd]
  obtain ⟨i,_,rfl⟩:=aW.mp hd;exact ⟨rfl,hp⟩
 |lt n =>
  have hp:JW R L B (.lt n)=QV B.pl de:=by show (match yV R L B.zs (.lt n) with|some de=>QV B.pl de|none=>B.pl)=_;rw [hd]
  obtain ⟨i,_,rfl⟩:=aW.mp hd;exact ⟨rfl,hp⟩
def ES (R:List RC) (L:List LC) (N:List (List (Int×Int))) (B:BkS) (_:Addr) (e:Ent) (H:Hp) (Q:VK) (_:XK):Prop:=kE R L N B e=0∧∀(l:Addr) (us:List V) (H':Hp),Same H H'→H l=none→H' l=some (.lst us)→AllAt (WyAt H') us (ZT R L B e)→Q (.ref l) H'
def DU (R:List RC) (L:List LC) (N:List (List (Int×Int))) (B:BkS) (_:Addr) (e:Ent) (H:Hp) (Q:VK) (_:XK):Prop:=kE R L N B e=0∧vV R L N B e=""∧∀(st:Addr) (ms:List Int) (H':Hp),Same H H'→StAt H' st (d9 B e) ms (JW R L B e)→ms.length=B.ms.length→Q (.ref st) H'
def E9 (R:List RC) (L:List LC) (N:List (List (Int×Int))) (B:BkS) (_:Addr) (e:Ent) (H:Hp) (Q:VK) (_:XK):Prop:=kE R L N B e=0∧vV R L N B e=""∧∀(l:Addr) (vs:List V) (ds:List (Str×List Str)) (H':Hp),Same H H'→H l=none→H' l=some (.lst vs)→AllAt (WdNew H l H') vs ds→vs.length≤1→Q (.ref l) H'
def CM:Sp:=fun vs H Q _=>∃f w:Bool,vs=[.bl f,.str (ZG w)]∧∀(l:Addr) (ws:List Str) (H':Hp),Same H H'→H l=none→H' l=some (.lst (ws.map V.str))→Q (.ref l) H'
def CD (cs:Kd→Addr) (cR cN:Addr):Sp:=fun vs H Q _=>∃(x wl st:Addr) (b:Nat) (us:List V) (ys:List qD) (y:qD) (p:Nat) (s:Nat×Bool) (d:Int) (ms:List Int) (pl:List Nat) (D:List Addr) (R:List RC) (L:List LC) (N:List (List (Int×Int))),vs=[.ref x,.ref wl,.ref st,.int (b:Int)]∧Stage cs cR cN D H x wl st us R L N ys d ms pl∧ys[b]?=some y∧pl[b]?=some p∧y.2[p]?=some s∧
 ∀(t l:Addr) (nm:Str) (ws:List Str) (H':Hp),Same H H'→H t=none→H l=none→H' t=some (.tup [.str nm,.ref l])→H' l=some (.lst (ws.map V.str))→Q (.ref t) H'
def upT:List Str:=["open low","in low","shut low","fill","open high","out high","shut high"]
def downT:List Str:=["open high","in high","shut high","let","open low","out low","shut low"]
def fS (eB eT eM eU eL eN eD:Addr) (R:List RC) (L:List LC) (N:List (List (Int×Int))) (B:BkS) (_:Addr) (e:Ent) (H:Hp) (Q:VK) (E:XK):Prop:=(kE R L N B e=0→∀H',Same H H'→Q (.str (vV R L N B e)) H')∧(kE R L N B e≠0→∀H',Same H H'→E (.ref (QK eB eT eM eU eL eN eD (kE R L N B e))) none H')
def lJ (eB eT eM eU eL eN eD eW:Addr) (R:List RC) (L:List LC) (N:List (List (Int×Int))) (B:BkS) (_:Addr) (e:Ent) (H:Hp) (Q:VK) (E:XK):Prop :=
 (kE R L N B e=0→vV R L N B e=""→∀(p l st:Addr) (us:List V) (ms:List Int) (H':Hp),Same H H'→H' p=some (.tup [.ref l,.ref st])→H l=none→H' l=some (.lst us)→AllAt (WyAt H') us (ZT R L B e)→StAt H' st (d9 B e) ms (JW R L B e)→ms.length=B.ms.length→Q (.ref p) H')∧
 (kE R L N B e=0→vV R L N B e≠""→∀H',Same H H'→E (.ref eW) none H')∧(kE R L N B e≠0→∀H',Same H H'→E (.ref (QK eB eT eM eU eL eN eD (kE R L N B e))) none H')
def mJ (cs:Kd→Addr) (cR cN cO eB eT eM eU eL eN eD eW:Addr):Sp:=fun vs H Q E=>∃(b t x:Addr) (A:List Addr) (R:List RC) (L:List LC) (N:List (List (Int×Int))) (B:BkS) (e:Ent),vs=[.ref b,.ref t]∧BkAt cs cR cN cO A H b x R L N B∧EnAt H t e∧ZE e∧
 (kE R L N B e=0→vV R L N B e=""→B.es.length<15∧∀(B':BkS) (H':Hp),BkAt cs cR cN cO A H' b x R L N B'→B'.zs=QM B e→B'.es.length=B.es.length+1→Same (kL H A) (kL H' A)→Q .non H')∧
 (kE R L N B e=0→vV R L N B e≠""→∀H',Same H H'→E (.ref eW) none H')∧(kE R L N B e≠0→∀H',Same H H'→E (.ref (QK eB eT eM eU eL eN eD (kE R L N B e))) none H')
theorem T1 (h:∀a,a∉A→H a=H' a):kL H A=kL H' A:=by
 funext a
 by_cases ha:a∈A
 ·rw [ZQ ha,ZQ ha]
 ·rw [v7 ha,v7 ha,h a ha]
theorem AllAt.app {P:V→α→Prop} {as bs:List α} (h:AllAt P xs as) (h':AllAt P ys bs):AllAt P (xs++ys) (as++bs):=by
 refine ⟨by rw [af,af,h.1,h'.1],fun i v hv=>?_⟩
 by_cases hi:i<xs.length
 ·rw [av hi] at hv;rw [av (by rw [← h.1];exact hi)];exact h.2 i v hv
 ·rw [aw (by omega)] at hv;rw [aw (by rw [← h.1];omega),← h.1];exact h'.2 _ v hv
theorem OW {b p:Nat} (h:(JS pl b)[i]?=some p):∃q,pl[i]?=some q∧p=if i=b then q+1 else q:=by
 unfold JS at h;rw [ao] at h;obtain ⟨j,hj,rfl⟩:=aW.mp h;have hi:i<pl.length:=by
  have:=(ad.mp hj).1
  rwa [aY] at this
 rw [cq hi] at hj;cases hj;exact ⟨_,aa hi,by rw [ac,aa hi];rfl⟩
theorem R0 (ok:BkOk R L N B) (hsm:ZE e) (hc:kE R L N B e=0) (hw:vV R L N B e=""):Fleet L (ZT R L B e) (JW R L B e)∧(QM B e).length=(ZT R L B e).length∧(QM B e).length≤9:=by
 have fl:=ok.fl;have zl:=ok.zl;have z9:=ok.z9;cases e with
 |come e =>
  obtain ⟨y,hy,hok,hnz,h9⟩:=tX (show qZ R L B.zs e=0 from hc);obtain ⟨a,ha,hfa,haR,hyl,hlt⟩:=sR hy;have hwe:ZT R L B (.come e)=B.ys++[y]:=by show B.ys++(yW R L e).toList=_;rw [hy];rfl
  have hpe:JW R L B (.come e)=B.pl++[0]:=rfl;have hze:QM B (.come e)=B.zs++[e.name]:=rfl;have h8:=hsm.2.1;rw [hwe,hpe,hze];simp only [af,aF];refine ⟨⟨by simp only [af,aF];rw [fl.len],by simp only [af,aF];omega,fun y' hy'=>?_,fun i y' p hy' hp=>?_⟩,by omega,by omega⟩
  ·rcases aV.mp hy' with h|h
   ·exact fl.ok y' h
   ·rw [aR.mp h];exact ⟨hlt,hok,by omega⟩
  ·by_cases hi:i<B.ys.length
   ·rw [av hi] at hy';rw [av (by rw [fl.len];exact hi)] at hp;exact fl.le i y' p hy' hp
   ·rw [aw (by rw [fl.len];omega)] at hp;have:p=0:=by
     have h1:=(ad.mp hp).1;rw [aF] at h1;rw [show i - B.pl.length=0 by omega] at hp;cases hp;rfl
    omega
 |pas n =>
  obtain ⟨i,hi⟩:=ZN (e:=.pas n) rfl hc;have hi:kM B.zs n=some i:=hi;have hde:yV R L B.zs (.pas n)=some (.pass i):=by show (kM B.zs n).map Deed.pass=_;rw [hi];rfl
  have hpe:JW R L B (.pas n)=JS B.pl i:=by
   show (match yV R L B.zs (.pas n) with|some de=>QV B.pl de|none=>B.pl)=_;rw [hde];rfl
  have hwd:bY R L B.ys B.ms B.pl i="":=by
   have e1:vV R L N B (.pas n)=match yV R L B.zs (.pas n) with|some de=>JU R L N.length B.ys B.d B.ms B.pl de|none=>"":=rfl
   rw [e1,hde] at hw;exact hw
  have hne:=tK hwd;rw [hpe];refine ⟨⟨by rw [iR];exact fl.len,fl.n10,fl.ok,fun j y p hy hp=>?_⟩,zl,z9⟩;have hy:B.ys[j]?=some y:=hy;obtain ⟨q,hq,rfl⟩:=OW hp;have h1:=fl.le j y q hy hq
  by_cases hj:j=i
  ·subst hj;rw [if_pos rfl];rw [ac,hq,ac,hy] at hne;have hne:¬q=y.2.length:=hne;omega
  ·rw [if_neg hj];exact h1
 |lt n =>
  obtain ⟨i,hi⟩:=ZN (e:=.lt n) rfl hc;have hi:kM (L.map (·.name)) n=some i:=hi;have hpe:JW R L B (.lt n)=B.pl:=by
   show (match (kM (L.map (·.name)) n).map Deed.let with|some de=>QV B.pl de|none=>B.pl)=_;rw [hi];rfl
  rw [hpe];exact ⟨fl,zl,z9⟩
 |night W=>exact ⟨fl,zl,z9⟩
 |take n a=>exact ⟨fl,zl,z9⟩
 |rain n a=>exact ⟨fl,zl,z9⟩
theorem SB (h:0≤B.d):0≤d9 B e:=by
 cases e
 case night W=>show 0≤B.d+1;omega
 all_goals exact h
structure Txt (P:Program) (w:World) (base:Heap) (K:W.Frag) (mg:Str→Option Value) (cP cB cU:Addr) (cR:Addr) (cN:Addr) (tkS:Tok) (eC eS eB eT eM eU eL eW eN eD:Addr) (tkH:Tok) (cO:Addr) (cT:Tok) (cW:Tok) (cV:Tok) (aU aD:Addr):Prop where
 xu:mg "list"=none
 zg:mg "tuple"=none
 xaE:mg "max"=none
 xv:mg "range"=none
 xl:mg "len"=none
 jm:mg "sum"=none
 jn:mg "zip"=none
 xp:mg "enumerate"=none
 jo:mg "min"=none
 jp:mg "all"=none
 xaF:mg "int"=none
 xj:mg "isinstance"=none
 zc:mg "ValueError"=none
 cl:∀kd,Cls K ((jF cP cB cU) kd)
 ul:∀kd,NoAttr K ((jF cP cB cU) kd) "name"
 vt:∀kd,NoAttr K ((jF cP cB cU) kd) "high"
 uz:∀kd,NoAttr K ((jF cP cB cU) kd) "low"
 wm:∀kd,NoAttr K ((jF cP cB cU) kd) "room"
 xba:NoAttr K cB "side"
 xaM:NoAttr K cU "lift"
 vw:mg "PlainLock"=some (.ref cP)
 ja:mg "BasinLock"=some (.ref cB)
 jq:mg "PumpLock"=some (.ref cU)
 clR:Cls K cR
 zo:NoAttr K cR "name"
 zm:NoAttr K cR "least"
 zp:NoAttr K cR "crest"
 zi:NoAttr K cR "berths"
 zq:NoAttr K cR "water"
 zh:NoAttr K cR "target"
 xbf:mg "Reach"=some (.ref cR)
 clN:Cls K cN
 xf:NoAttr K cN "reaches"
 xh:NoAttr K cN "locks"
 xm:NoAttr K cN "nights"
 xbg:mg "Canal"=some (.ref cN)
 xbJ:mg "SEA"=some (.int (-1) tkS)
 ua:mg "CanalError"=some (.ref eC)
 xbh:mg "Short"=some (.ref eS)
 jr:mg "BadRow"=some (.ref eB)
 xaN:mg "Twice"=some (.ref eT)
 xaG:mg "TooMany"=some (.ref eM)
 wf:mg "Unknown"=some (.ref eU)
 jb:mg "NotLinked"=some (.ref eL)
 ud:mg "NotNow"=some (.ref eW)
 vx:mg "BadNumber"=some (.ref eN)
 jt:mg "TooDry"=some (.ref eD)
 xa1:ZD K eB
 xbi:ZD K eT
 xaH:ZD K eM
 um:ZD K eU
 jc:ZD K eL
 ju:ZD K eW
 jd:ZD K eN
 xa2:ZD K eD
 at_Unknown:ExcAttr K eU
 jv:(W.clsIn K eU).isSome=true
 exm_Unknown:W.exmOne K (.ref eU) (.ref eC)=some true
 k_Unknown_ValueError:W.kitOne K (.ref eU) (.type "ValueError")=some true
 k_Unknown_Unknown:W.kitOne K (.ref eU) (.ref eU)=some true
 k_Unknown_NotNow:W.kitOne K (.ref eU) (.ref eW)=some false
 k_Unknown_BadNumber:W.kitOne K (.ref eU) (.ref eN)=some false
 k_Unknown_TooDry:W.kitOne K (.ref eU) (.ref eD)=some false
 ka_Unknown_0:W.kitAny K (.ref eU) [.ref eT,.ref eB,.ref eS]=some false
 at_NotNow:ExcAttr K eW
 xaI:(W.clsIn K eW).isSome=true
 exm_NotNow:W.exmOne K (.ref eW) (.ref eC)=some true
 k_NotNow_ValueError:W.kitOne K (.ref eW) (.type "ValueError")=some true
 k_NotNow_Unknown:W.kitOne K (.ref eW) (.ref eU)=some false
 k_NotNow_NotNow:W.kitOne K (.ref eW) (.ref eW)=some true
 k_NotNow_BadNumber:W.kitOne K (.ref eW) (.ref eN)=some false
 k_NotNow_TooDry:W.kitOne K (.ref eW) (.ref eD)=some false
 ka_NotNow_0:W.kitAny K (.ref eW) [.ref eT,.ref eB,.ref eS]=some false
 at_BadNumber:ExcAttr K eN
 ue:(W.clsIn K eN).isSome=true
 exm_BadNumber:W.exmOne K (.ref eN) (.ref eC)=some true
 k_BadNumber_ValueError:W.kitOne K (.ref eN) (.type "ValueError")=some true
 k_BadNumber_Unknown:W.kitOne K (.ref eN) (.ref eU)=some false
 k_BadNumber_NotNow:W.kitOne K (.ref eN) (.ref eW)=some false
 k_BadNumber_BadNumber:W.kitOne K (.ref eN) (.ref eN)=some true
 k_BadNumber_TooDry:W.kitOne K (.ref eN) (.ref eD)=some false
 ka_BadNumber_0:W.kitAny K (.ref eN) [.ref eT,.ref eB,.ref eS]=some false
 at_TooDry:ExcAttr K eD
 xaJ:(W.clsIn K eD).isSome=true
 exm_TooDry:W.exmOne K (.ref eD) (.ref eC)=some true
 k_TooDry_ValueError:W.kitOne K (.ref eD) (.type "ValueError")=some true
 k_TooDry_Unknown:W.kitOne K (.ref eD) (.ref eU)=some false
 k_TooDry_NotNow:W.kitOne K (.ref eD) (.ref eW)=some false
 k_TooDry_BadNumber:W.kitOne K (.ref eD) (.ref eN)=some false
 k_TooDry_TooDry:W.kitOne K (.ref eD) (.ref eD)=some true
 ka_TooDry_0:W.kitAny K (.ref eD) [.ref eT,.ref eB,.ref eS]=some false
 xaO:mg "HOME"=some (.int (-1) tkH)
 clO:Cls K cO
 nO_kept_canal:NoAttr K cO "kept_canal"
 nO_kept_names:NoAttr K cO "kept_names"
 nO_kept_ways:NoAttr K cO "kept_ways"
 nO_kept_state:NoAttr K cO "kept_state"
 nO_kept_pours:NoAttr K cO "kept_pours"
 nO_kept_words:NoAttr K cO "kept_words"
 nO_kept_entries:NoAttr K cO "kept_entries"
 xbo:mg "Book"=some (.ref cO)
 xaK:mg "LETTERS"=some (.str lettersS cT)
 uf:mg "MOST_SIGNS"=some (.int 12 cW)
 ug:mg "MOST_BOATS"=some (.int 9 cV)
 xcm:mg "UP"=some (.ref aU)
 xbp:mg "DOWN"=some (.ref aD)
 up:∀H:Hp,SqT K H aU (upT.map V.str)
 down:∀H:Hp,SqT K H aD (downT.map V.str)
set_option maxHeartbeats 4000000
section
variable {P:Program} {w:World} {K:W.Frag} {mg:Str→Option Value} {base:Heap} {cP cB cU:Addr} {cR:Addr} {cN:Addr} {tkS:Tok} {eC eS eB eT eM eU eL eW eN eD:Addr} {tkH:Tok} {cO:Addr} {cT:Tok} {cW:Tok} {cV:Tok} {aU aD:Addr} {f:Addr} {fd:FuncData}
variable (T:Txt P w base K mg cP cB cU cR cN tkS eC eS eB eT eM eU eL eW eN eD tkH cO cT cW cV aU aD)
theorem eR:jS 2 ["waters","pours","held","source","target","amount"] pR:=jR
include T in
theorem KS (F:kB K "poured_all" pR f fd) : FnOk P w K mg base jQ 1 f fd ["waters","pours"] (fU K):=by
 refine F.ok2 eR fun vs H Q E h=>?_
 refine JN h fun w p ws rs qs h=>?_
 refine y0 h fun e_ hW hP hA hn q=>?_
 subst e_;refine ⟨rfl,fun _ _ _ _ hr=>?_⟩;refine ⟨_,(@jG _ _ _ _ _ (jV 2 eR.nd (vO (zV K) (by rfl) T.xu aS (jB (pv 0) jD)))
   (@jG _ _ _ _ _ (JL ff rfl (yH (pv 1)) (lN rfl (qI (kU (i:=3) eR.nd rfl (.inl rfl)) (qI (kU (i:=4) eR.nd rfl (.inl rfl)) (qI (kU (i:=5) eR.nd rfl (.inl rfl)) zC))))
    (@jG _ _ _ _ _ (uB (pv 2) (pv 3) tT (pv 5) UZ dA)
   (@kH _ _ _ (uB (pv 2) (pv 4) tT (pv 5) ET dA))))
   (jM (vO (bC K) (by rfl) T.zg cf (jB (pv 2) jD))))),?_⟩
 try dsimp only [jU,jT]
 refine (jA rfl (⟨w,jA rfl (⟨hW,fun l hl=>?_⟩)⟩));have s0:Same H (upd H l (.lst (ws.map V.int))):=jK hl _;refine ⟨_,rfl,p,rfl,⟨rs,s0.seq hP⟩,lB (K:=K) (a:=p) (xs:=rs) (fun i σ Hi=>∃c3 c4 c5,σ=[some (.ref w),some (.ref p),some (.ref l),c3,c4,c5]∧Hi l=some (.lst ((qM ws (qs.take i)).map V.int))∧Same H Hi)
  (vK none none none (kJ rfl jE s0)) (fun i σ Hi _ ⟨_,_,_,_,_,s⟩=>s.seq hP) ?_ ?_⟩
 ·rintro i x σ Hi hx ⟨c3,c4,c5,rfl,hH,sm⟩;obtain ⟨a,s,t,m,rfl,hq,hT,hs,ht⟩:=hA.2 i x hx;have e0:(qM ws (qs.take i)).length=ws.length:=J4 _ _;refine ⟨a,jA rfl (⟨u7 sm hT,rfl,_,jA rfl (⟨_,jA rfl (⟨_,_,rfl,rfl,?_⟩)⟩)⟩)⟩;refine (jA rfl (jA rfl (⟨_,_,_,_,rfl,rfl,so hH,yJ (by rw [e0];exact hs),jA rfl (jY (⟨_,_,_,_,rfl,rfl,hH,bM (by rw [ae,e0];exact hs),?_⟩))⟩)))
  try dsimp only
  rw [iN];refine (jA rfl (jA rfl (⟨_,_,_,_,rfl,rfl,so jE,yJ (by rw [bc,e0];exact ht),jA rfl (jY (⟨_,_,_,_,rfl,rfl,jE,bM (by rw [ae,bc,e0];exact ht),?_⟩))⟩)))
  try dsimp only
  rw [iN];refine ⟨_,_,jA rfl (⟨?_,qA hl (qA hl sm)⟩)⟩;rw [jE,rZ ws qs i _ hq];rfl
 ·rintro σ Hi ⟨c3,c4,c5,rfl,hH,sm⟩;refine (jA rfl (⟨_,jA rfl (.inl ⟨so hH,fun r hr=>?_⟩)⟩));refine q r _ (qA (sm.free hr) sm) (sm.free hr) ?_;rw [jE,hA.1,aZ]
theorem xU:jS 3 ["weirs","waters","at","crest"] pL:=jR
include T in
theorem KL (F:kB K "over" pL f fd) : FnOk P w K mg base jQ 1 f fd ["weirs","waters","at"] (EJ K):=by
 refine F.ok2 xU fun vs H Q E h=>?_
 refine yC h fun wq wa rs ws n ms i₁ h=>?_
 refine zI h fun e_ hW hA hM h1 h2 q=>?_
 subst e_;refine ⟨rfl,fun _ _ _ _ hr=>?_⟩;refine ⟨_,(@jG _ _ _ _ _ (jV 3 xU.nd (jH (jN K) (jH (kR K) (pv 0) (pv 2)) jC))
   (jM (y7 (P4 rfl) (by rfl) T.xaE PyProof.Rows.boot_max (jB jC (jB (@jJ _ _ _ _ _ _ _ _ yL (jH (TN K) (pv 1) (pv 2)) (pv 3)) jD))))),?_⟩
 try dsimp only [jU,jT]
 obtain ⟨ta,hat,hT,_⟩:=iV hA h1;refine (jA rfl (jA rfl (⟨wq,_,_,_,rfl,rfl,hW,hat,ta,_,_,_,rfl,rfl,hT,rfl,?_⟩)));refine (jA rfl (jA rfl (RE hM h2 ?_)));exact (jA rfl (jY (⟨_,jA rfl (q)⟩)))
theorem MO:jS 1 ["weirs"] pG:=jR
include T in
theorem IY (F:kB K "last_first" pG f fd) : FnOk P w K mg base jQ 1 f fd ["weirs"] (uP K):=by
 refine F.ok2 MO fun vs H Q E h=>?_
 obtain ⟨wq,rs,rfl,hW,hn,q⟩:=h;refine ⟨rfl,fun _ _ _ _ hr=>?_⟩;refine ⟨_,(jM (vO (NC rfl) (by rfl) T.xu aS (jB (vO NV (by rfl) T.xv PyProof.Rows.boot_range (j7 (@jJ _ _ _ _ _ _ _ _ yL (qS K T.xl (pv 0)) jC) (u9 uK jC) (u9 uK jC))) jD))),?_⟩
 try dsimp only [jU,jT]
 refine (jA rfl (⟨wq,jA rfl (⟨.inl hW,_,_,rfl,rfl,jA rfl (jA rfl (⟨_,_,jA rfl (⟨(by decide),(by decide),fun p hp=>?_⟩)⟩))⟩)⟩));refine (yD p _ _ _ rs.length (qW rfl jE (OI hn) (BZ _) hn (fun l hl=>?_)));refine q l _ ((jK hp _).trans (jK hl _)) ((jK hp _).free hl) ?_;rw [jE];exact bu (fun x=>some (HO.lst x)) (OH rs.length)
theorem iK:jS 2 ["weirs","waters","held","given","at"] pZ:=jR
include T in
theorem K4 (F:kB K "spills" pZ f fd) (vd:Def P w K mg base 1 "last_first" ["weirs"] [] (uP K)) (xbK:Def P w K mg base 1 "over" ["weirs","waters","at"] [] (EJ K)):FnOk P w K mg base jQ 2 f fd ["weirs","waters"] (CH K):=by
 refine F.ok2 iK fun vs H Q E h=>?_
 refine JN h fun wq wa rs ws ms h=>?_
 refine qT h fun e_ hRd q=>?_
 subst e_;refine ⟨rfl,fun _ _ _ _ hr=>?_⟩;refine ⟨_,(@jG _ _ _ _ _ (jV 2 iK.nd (vO (zV K) (by rfl) T.xu aS (jB (pv 1) jD)))
   (@jG _ _ _ _ _ (jV 3 iK.nd (@jJ _ _ _ _ _ _ _ _ EO (kW (jB jC jD)) (qS K T.xl (pv 0))))
   (@jG _ _ _ _ _ (JL ff rfl (yH (jP vd hr rfl (jB (pv 0) jD))) (kU (i:=4) iK.nd rfl (.inl rfl))
    (@jG _ _ _ _ _ (uQ (jP xbK hr rfl (j7 (pv 0) (pv 2) (pv 4))) (uS (pv 3) (pv 4) dA))
   (@kH _ _ _ (uB (pv 2) (jH (jN K) (jH (kR K) (pv 0) (pv 4)) jC) tT (jH (kR K) (pv 3) (pv 4)) ET dA))))
   (jM (pv 3))))),?_⟩
 try dsimp only [jU,jT]
 obtain ⟨hW,hA,hM,hAh,hRn,hn⟩:=id hRd;have hAF:=P7 hAh;refine (jA rfl (⟨wa,jA rfl (⟨hM,fun hl hhl=>?_⟩)⟩));have t1:=jK hhl (.lst (ms.map V.int));refine ⟨zz1,fun lp hlp=>?_⟩;have t2:=jK hlp (.lst [V.int 0]);refine (jA rfl (⟨wq,jA rfl (⟨.inl ((t1.trans t2).seq hW),lp,_,_,rfl,rfl,jE,by omega,by rw [hA.1];omega,?_,fun gp hgp=>?_⟩)⟩))
 ·rw [ay,aF,Nat.one_mul,hA.1];exact small (by omega)
 rw [ay,CU,hA.1];have t3:=jK hgp (.lst ((List.replicate ws.length (0:Int)).map V.int));have u3:=(t1.trans t2).trans t3;have hlp':hl≠gp:=kT (t2 _ _ jE) hgp;refine (jA rfl (⟨wq,rs,rfl,u3.seq hW,by rw [hA.1];omega,fun df H1 s1 hdf0 hdf=>?_⟩));have hl1:=s1 _ _ (t3 _ _ (t2 _ _ (jE:upd H hl (.lst (ms.map V.int)) hl=_)));have gp1:=s1 _ _ (jE:upd _ gp (.lst ((List.replicate ws.length (0:Int)).map V.int)) gp=_);have dhl:hl≠df:=kT (t3 _ _ (t2 _ _ jE)) hdf0;have dgp:gp≠df:=kT jE hdf0;have gf:H gp=none:=(t1.trans t2).free hgp;refine ⟨df,rfl,⟨_,so hdf⟩,lB (K:=K) (a:=df) (xs:=(zQ rs.length).map fun (i:Nat)=>V.int (i:Int)) (fun k σ Hi=>∃(hs gs:List Int) (c:Option V),σ=[some (.ref wq),some (.ref wa),some (.ref hl),some (.ref gp),c]∧Hi hl=some (.lst (hs.map V.int))∧Hi gp=some (.lst (gs.map V.int))∧
   Hi df=some (.lst ((zQ rs.length).map fun (i:Nat)=>V.int (i:Int)))∧SplInv ws ms hs gs k∧Same H Hi)
  ⟨ms,List.replicate ws.length 0,none,rfl,hl1,gp1,hdf,SplInv.start ws ms,u3.trans s1⟩ (fun i σ Hi _ ⟨_,_,_,_,_,_,hd,_⟩=>so hd) ?_ ?_⟩
 ·rintro k x σ Hi hx ⟨hs,gs,c,rfl,hH,hG,hD,hI,sm⟩;obtain ⟨hk,rfl⟩:=C5 hx;rw [hA.1] at hk ⊢;obtain ⟨i₁,hi₁⟩:∃i,i=ws.length - 1 - k:=⟨_,rfl⟩;have hi:i₁<ws.length:=by omega
  have hst:=hI.step hAF hRn hk (by rw [← hi₁];exact AZ hA i₁ hi);rw [← hi₁] at hst ⊢;obtain ⟨ta,hat,hT,ht⟩:=iV (hA.same sm) hi;have hAl:WeirsAt K Hi rs ws hs.length:=by rw [hI.lh];exact hA.same sm
  refine (jA rfl (jA rfl (jA rfl (⟨wq,hl,rs,ws,_,hs,i₁,rfl,sm.seq hW,hAl,.inl (so hH),hi,by rw [hI.lh];omega,?_⟩))));refine (jA rfl (jA rfl (⟨gp,_,_,_,rfl,rfl,hG,bM (by rw [ae,hI.lg];exact hi),?_⟩)));rw [iN];have k1:∀o,Keep gp Hi (upd Hi gp o):=fun o=>(Keep.refl gp Hi).upd o
  have sG:∀o,Same H (upd Hi gp o):=fun o=>qA gf sm
  have hH':∀o,upd Hi gp o hl=some (.lst (hs.map V.int)):=fun o=>(k1 o) hl _ hlp' hH
  refine (jA rfl (jA rfl (jA rfl (⟨wq,_,_,_,rfl,rfl,(sG _).seq hW,hat,ta,_,_,_,rfl,rfl,(k1 _).sqt hG hT,rfl,kZ (so (hH' _)) (yJ (by rw [hI.lh];exact ht)) ((jA rfl (jA rfl (kZ (so jE) (yJ (by rw [bc,hI.lg];exact hi)) (jY (⟨hl,_,_,_,rfl,rfl,hH' _,bM (by rw [ae,hI.lh];exact ht),?_⟩))))))⟩))));rw [iN];refine ⟨_,_,jA rfl (⟨jE,?_,?_,hst,qA hhl (sG _)⟩)⟩
  ·rw [jX (Ne.symm hlp'),jE]
  ·rw [jX (Ne.symm dhl),jX (Ne.symm dgp),hD,hA.1]
 ·rintro σ Hi ⟨hs,gs,c,rfl,hH,hG,hD,hI,sm⟩;rw [ae,cX,hA.1] at hI;refine (jA rfl (?_));exact q gp Hi gs sm gf hG hI.spl
theorem xX:jS 2 ["weirs","waters","given"] iA:=jR
include T in
theorem K3 (F:kB K "spill_pours" iA f fd) (xbq:Def P w K mg base 2 "spills" ["weirs","waters"] [] (CH K)) (vd:Def P w K mg base 1 "last_first" ["weirs"] [] (uP K)):FnOk P w K mg base jQ 3 f fd ["weirs","waters"] (tN K):=by
 refine F.ok2 xX fun vs H Q E h=>?_
 refine JN h fun wq wa rs ws ms h=>?_
 refine qT h fun e_ hRd q=>?_
 subst e_;refine ⟨rfl,fun _ _ _ _ hr=>?_⟩;refine ⟨_,(@jG _ _ _ _ _ (jV 2 xX.nd (jP xbq hr rfl (jB (pv 0) (jB (pv 1) jD))))
   (jM (wZ ["at","given","weirs"] [2,0] (vM (j8 iA)) (yH (jP vd hr rfl (jB (pv 0) jD))) (fun _ _ _ _ _=>(fI (j6 ZW (jH (kR K) (pv 1) (pv 0)) jC))) (fun _ _ _ _ _=>(kD (j7 (pv 0) (jH (jN K) (jH (kR K) (pv 2) (pv 0)) jC) (jH (kR K) (pv 1) (pv 0)))))))),?_⟩
 try dsimp only [jU,jT]
 refine (jA rfl (jA rfl ((yD wq wa rs ws ms (kJ rfl hRd (fun gp H1 gs s1 hgp0 hgp hS=>?_))))));obtain ⟨hW,hA,hM,hAh,hRn,hn⟩:=hRd.same s1;refine (jA rfl (⟨wq,rs,rfl,hW,by rw [hA.1];omega,fun df H2 s2 hdf0 hdf=>?_⟩));refine ⟨df,rfl,⟨_,so hdf⟩,fun D hD=>?_⟩;refine bA (K:=K) (a:=df) (xs:=(zQ rs.length).map fun (i:Nat)=>V.int (i:Int)) (caps:=[some (.ref gp),some (.ref wq)]) (fun i ys Hi=>PoursH Hi ys (((yT (qK ws) (fun a=>gs.getD a 0) ws.length).take i).filter q9) ms.length) hD (so hdf) (PoursH.nil _ _) ?_ ?_
 ·rintro i x ys Hi hx hi hle sm hY hR;obtain ⟨hk,rfl⟩:=C5 hx;rw [hA.1] at hk ⊢;obtain ⟨i₁,hi₁⟩:∃i',i'=ws.length - 1 - i:=⟨_,rfl⟩;have hi':i₁<ws.length:=by omega
  rw [← hi₁];have s12:=s2.trans sm;obtain ⟨ta,hat,hT,ht⟩:=iV (hA.same s12) hi';have ef:((yT (qK ws) (fun a=>gs.getD a 0) ws.length).take (i+1)).filter q9=((yT (qK ws) (fun a=>gs.getD a 0) ws.length).take i).filter q9++[(i₁,qK ws i₁,gs.getD i₁ 0)].filter q9:=by
   rw [aL,NM hk,← hi₁,hX];rfl
  refine (jA rfl (jA rfl (kZ (so (s12 _ _ hgp)) (yJ (by rw [hS.1];exact hi')) (⟨rfl,jA rfl (?_)⟩))))
  by_cases hz:gs.getD i₁ 0=0
  ·refine ZY (bu V.int hz) (tH sm hY hle (Same.refl _) ?_);rw [ef,fq,if_neg (by unfold q9;rw [aT (show gs.getD i₁ 0=0 from hz)];decide)];show PoursH Hi ys (_++[]) _;rw [bo];exact hR
  refine ZX (fun e=>hz (V.int.inj e)) ?_;refine (jA rfl (jA rfl (jA rfl (⟨wq,_,_,_,rfl,rfl,s12.seq hW,hat,ta,_,_,_,rfl,rfl,hT,rfl,jA rfl (jA rfl (kZ (so (s12 _ _ hgp)) (yJ (by rw [hS.1];exact hi')) (⟨zz3,fun tp htp=>?_⟩)))⟩))));have st:=jK htp (.tup [.int (i₁:Int),.int (qK ws i₁:Int),.int (gs.getD i₁ 0)]);refine JH hD sm hY hle (by omega) st ?_;rw [ef,fq,if_pos (by unfold q9;rw [aJ (show ¬gs.getD i₁ 0=0 from hz)];rfl)];exact ((hR.same st).snoc jE (by omega) ht).put (st _ _ hY)
 ·intro ys Hf sm hY hle hR;rw [ae,cX,hA.1,bi (by unfold yT;rw [ae,cX];exact aj _)] at hR;have s12:=s2.trans sm;exact q D Hf gs ys (s1.trans s12) ((s1.trans s2).free hD) hY hR hS
theorem MY:jS 2 ["weirs","waters"] pX:=jR
include T in
theorem K1 (F:kB K "settled" pX f fd) (xw:Def P w K mg base 1 "poured_all" ["waters","pours"] [] (fU K)) (va:Def P w K mg base 3 "spill_pours" ["weirs","waters"] [] (tN K)):FnOk P w K mg base jQ 4 f fd ["weirs","waters"] (BI K):=by
 refine F.ok2 MY fun vs H Q E h=>?_
 refine JN h fun wq wa rs ws ms h=>?_
 refine qT h fun e_ hRd q=>?_
 subst e_;refine ⟨rfl,fun _ _ _ _ hr=>?_⟩;refine ⟨_,(jM (jP xw hr rfl (jB (pv 1) (jB (jP va hr rfl (jB (pv 0) (jB (pv 1) jD))) jD)))),?_⟩
 try dsimp only [jU,jT]
 obtain ⟨hW,hA,hM,hAh,hRn,hn⟩:=id hRd;refine (jA rfl (jA rfl (jA rfl ((yD wq wa rs ws ms (kJ rfl hRd (fun p H1 gs ys s1 hp0 hp hP hS=>?_)))))));refine ⟨wa,p,ms,ys,jA rfl (⟨hM.same s1,so hp,hP.pa,hn,fun r H' s' hr0 hr=>?_⟩)⟩;rw [N3 (N0 hRn (AZ hA))] at hr;exact q r H' gs (s1.trans s') (s1.free hr0) hr hS
theorem M5:jS 3 ["weirs","waters","pours"] rJ:=jR
include T in
theorem LG (F:kB K "with_spills" rJ f fd) (va:Def P w K mg base 3 "spill_pours" ["weirs","waters"] [] (tN K)) (xw:Def P w K mg base 1 "poured_all" ["waters","pours"] [] (fU K)):FnOk P w K mg base jQ 4 f fd ["weirs","waters","pours"] (lE K):=by
 refine F.ok2 M5 fun vs H Q E h=>?_
 refine ZA h fun wq wa p rs ps ws ms qs h=>?_
 refine y0 h fun e_ hRd hp hP h500 q=>?_
 subst e_;refine ⟨rfl,fun _ _ _ _ hr=>?_⟩;refine ⟨_,(jM (@jJ _ _ _ _ _ _ _ _ ZS (pv 2) (jP va hr rfl (jB (pv 0) (jB (jP xw hr rfl (jB (pv 1) (jB (pv 2) jD))) jD))))),?_⟩
 try dsimp only [jU,jT]
 obtain ⟨hW,hA,hM,hAh,hRn,hn⟩:=id hRd;refine (jA rfl (jA rfl (jA rfl (jA rfl ((yD wa p ms ps qs (qW rfl hM (so hp) hP.pa hn (fun wt H1 s1 hwt0 hwt=>?_))))))));have el:(qM ms qs).length=ms.length:=J4 _ _;refine ⟨wq,wt,rs,ws,qM ms qs,rfl,⟨s1.seq hW,by rw [el];exact hA.same s1,.inr (SqT.of hwt),hAh,by rw [el];exact hRn,by rw [el];exact hn⟩,fun sp H2 gs ys s2 hsp0 hsp hPs hS=>?_⟩;rw [el] at hPs;have hl:=NN ws (fun a=>gs.getD a 0);refine ⟨p,sp,_,_,rfl,rfl,s2 _ _ (s1 _ _ hp),hsp,aI (show ps.length+ys.length≤1500 by rw [hPs.1];omega) (by decide),fun al hal=>?_⟩;have s3:=jK hal (.lst (ps++ys));have s12:=s1.trans s2;exact q al _ gs _ (s12.trans s3) (s12.free hal) jE ((hP.same (s12.trans s3)).append (hPs.same s3)) hS
theorem MV:jS 1 ["parts"] gZ:=jR
include T in
theorem KM (F:kB K "parts_not_nought" gZ f fd) : FnOk P w K mg base jQ 1 f fd ["parts"] (dO K):=by
  refine F.ok2 MV fun vs H Q E h=>?_
  refine fX h fun p rs ps h=>?_
  refine ZC h fun e_ hP hA hn q=>?_
  subst e_;refine ⟨rfl,fun _ _ _ _ hr=>?_⟩;refine ⟨_,(jM (wZ ["part"] [] (vM (j8 gZ)) (yH (pv 0)) (fun _ _ _ _ _=>(fI (j6 ZW (jH (jN K) (pv 0) jC) jC))) (fun _ _ _ _ _=>(pv 0)))),?_⟩
  try dsimp only [jU,jT]
  refine (jA rfl (⟨p,rfl,⟨rs,hP⟩,fun l hl=>?_⟩));refine bA (K:=K) (a:=p) (xs:=rs) (caps:=[]) (fun i ys Hi=>PartsAt Hi ys ((ps.take i).filter y9)) hl hP PartsAt.nil ?_ ?_
  · rintro i x ys Hi hx hi hle sm hY hR
    obtain ⟨t,sN,nN,rfl,hps,hT⟩:=hA.2 i x hx;have et:(ps.take (i+1)).filter y9=(ps.take i).filter y9++[(sN,nN)].filter y9:=by
      rw [aL,hps,hX];rfl
    refine (jA rfl (jI (SqT.of (sm _ _ hT)) rfl (⟨rfl,jA rfl (?_)⟩)))
    by_cases hz:nN=0
    · refine ZY (by rw [hz]) ?_
      refine tH sm hY hle (Same.refl _) ?_;have e2:[(sN,nN)].filter y9=[]:=by rw [hz];rfl
      rw [et,e2,bo];exact hR
    · refine ZX (fun e=>hz (V.int.inj e)) ?_
      refine (jA rfl (JH hl sm hY hle (by omega) (Same.refl _) ?_));have e2:[(sN,nN)].filter y9=[(sN,nN)]:=by
        rw [fq,if_pos (show y9 (sN,nN)=true by unfold y9;rw [aJ hz];rfl)];rfl
      rw [et,e2];exact (hR.snoc (sm _ _ hT)).keep ((Keep.refl l Hi).upd _) hY
  · intro ys Hf sm hY hle hR
    rw [hA.1,aZ] at hR;exact q l Hf ys sm hl hY hR
theorem L8:jS 5 ["self","name","high","low","room"] oH:=jR
include T in
theorem HL (F:Fun K "__init__" "PlainLock.__init__" oH f fd) : FnOk P w K mg base jQ 1 f fd ["self","name","high","low","room"] (dG (jF cP cB cU)):=by
 refine F.ok2 L8 fun vs H Q E h=>?_
 refine yC h fun kd x dx n h₁ l r h=>?_
 refine qT h fun e_ hx q=>?_
 subst e_;refine ⟨rfl,fun _ _ _ _ hr=>?_⟩;refine ⟨_,(@jG _ _ _ _ _ (vJ (pv 0) (pv 1) rfl)
   (@jG _ _ _ _ _ (vJ (pv 0) (pv 2) rfl)
   (@jG _ _ _ _ _ (vJ (pv 0) (pv 3) rfl)
   (@kH _ _ _ (vJ (pv 0) (pv 4) rfl))))),?_⟩
 try dsimp only [jU,jT]
 refine (jA rfl (jA rfl (⟨x,_,dx,jA rfl (⟨hx,T.cl kd,T.ul kd,(by show 0<1000;decide),?_⟩)⟩)));refine (jA rfl (jA rfl (⟨x,_,dx,jA rfl (⟨jE,T.cl kd,T.vt kd,(by show 1<1000;decide),?_⟩)⟩)));refine (jA rfl (jA rfl (⟨x,_,dx,jA rfl (⟨jE,T.cl kd,T.uz kd,?_,?_⟩)⟩)))
 ·have:=zK "high" h₁ (jL "name" n []);have h2:(jL ("name":Str) n []).length=1:=rfl;omega
 refine (jA rfl (jA rfl (⟨x,_,dx,jA rfl (⟨jE,T.cl kd,T.wm kd,?_,?_⟩)⟩)))
 ·have:=zK "low" l (jL "high" h₁ (jL "name" n []));have h1:=zK "high" h₁ (jL "name" n []);have h2:(jL ("name":Str) n []).length=1:=rfl;omega
 exact q _ (((((Keep.refl x H).upd _).upd _).upd _).upd _) jE
theorem LJ:jS 6 ["self","name","high","low","room","side"] nE:=jR
include T in
theorem GP (F:Fun K "__init__" "BasinLock.__init__" nE f fd) (xy:CmD P w K mg base 1 "PlainLock" cP "__init__" ["self","name","high","low","room"] (dG (jF cP cB cU))):FnOk P w K mg base jQ 2 f fd ["self","name","high","low","room","side"] (dF (jF cP cB cU) .basin):=by
 refine F.ok2 LJ fun vs H Q E h=>?_
 refine yC h fun x dx n h₁ l r v h=>?_
 refine qT h fun e_ hx q=>?_
 subst e_;refine ⟨rfl,fun _ _ _ _ hr=>?_⟩;refine ⟨_,(@jG _ _ _ _ _ (qY (DS xy hr rfl (eG (pv 0) (pv 1) (pv 2) (pv 3) (pv 4))))
   (@kH _ _ _ (vJ (pv 0) (pv 5) rfl))),?_⟩
 try dsimp only [jU,jT]
 refine (jA rfl (jA rfl (jA rfl (jA rfl (jA rfl (⟨.basin,x,dx,n,h₁,l,r,rfl,hx,fun H' kp hx'=>?_⟩))))));refine (jA rfl (jA rfl (⟨x,_,dx,jA rfl (⟨hx',T.cl .basin,T.xba,AS _ _ _ _,?_⟩)⟩)));exact q _ (kp.upd _) jE
theorem MB:jS 6 ["self","name","high","low","room","lift"] oK:=jR
include T in
theorem HP (F:Fun K "__init__" "PumpLock.__init__" oK f fd) (xy:CmD P w K mg base 1 "PlainLock" cP "__init__" ["self","name","high","low","room"] (dG (jF cP cB cU))):FnOk P w K mg base jQ 2 f fd ["self","name","high","low","room","lift"] (dF (jF cP cB cU) .pump):=by
 refine F.ok2 MB fun vs H Q E h=>?_
 refine yC h fun x dx n h₁ l r v h=>?_
 refine qT h fun e_ hx q=>?_
 subst e_;refine ⟨rfl,fun _ _ _ _ hr=>?_⟩;refine ⟨_,(@jG _ _ _ _ _ (qY (DS xy hr rfl (eG (pv 0) (pv 1) (pv 2) (pv 3) (pv 4))))
   (@kH _ _ _ (vJ (pv 0) (pv 5) rfl))),?_⟩
 try dsimp only [jU,jT]
 refine (jA rfl (jA rfl (jA rfl (jA rfl (jA rfl (⟨.pump,x,dx,n,h₁,l,r,rfl,hx,fun H' kp hx'=>?_⟩))))));refine (jA rfl (jA rfl (⟨x,_,dx,jA rfl (⟨hx',T.cl .pump,T.xaM,AS _ _ _ _,?_⟩)⟩)));exact q _ (kp.upd _) jE
theorem MD:jS 7 ["self","name","least","crest","berths","water","target"] oN:=jR
include T in
theorem HR (F:Fun K "__init__" "Reach.__init__" oN f fd) : FnOk P w K mg base jQ 1 f fd ["self","name","least","crest","berths","water","target"] (sE cR):=by
 refine F.ok2 MD fun vs H Q E h=>?_
 refine ZA h fun x dx v_name v_least v_crest v_berths v_water v_target h=>?_
 refine qT h fun e_ hx q=>?_
 subst e_;refine ⟨rfl,fun _ _ _ _ hr=>?_⟩;refine ⟨_,(@jG _ _ _ _ _ (vJ (pv 0) (pv 1) rfl)
   (@jG _ _ _ _ _ (vJ (pv 0) (pv 2) rfl)
   (@jG _ _ _ _ _ (vJ (pv 0) (pv 3) rfl)
   (@jG _ _ _ _ _ (vJ (pv 0) (pv 4) rfl)
   (@jG _ _ _ _ _ (vJ (pv 0) (pv 5) rfl)
   (@kH _ _ _ (vJ (pv 0) (pv 6) rfl))))))),?_⟩
 try dsimp only [jU,jT]
 have ln:∀(f:Str) (z:V) (fs:List (Str×V)) (m:Nat),fs.length≤m→(jL f z fs).length≤m+1:=fun f z fs m h=>aI (zK f z fs) (by omega)
 have l0:([]:List (Str×V)).length≤0:=aj _;refine (jA rfl (jA rfl (⟨x,cR,dx,jA rfl (⟨hx,T.clR,T.zo,by omega,?_⟩)⟩)));have l1:=ln "name" v_name _ _ l0;refine (jA rfl (jA rfl (⟨x,cR,dx,jA rfl (⟨jE,T.clR,T.zm,by omega,?_⟩)⟩)));have l2:=ln "least" v_least _ _ l1;refine (jA rfl (jA rfl (⟨x,cR,dx,jA rfl (⟨jE,T.clR,T.zp,by omega,?_⟩)⟩)));have l3:=ln "crest" v_crest _ _ l2;refine (jA rfl (jA rfl (⟨x,cR,dx,jA rfl (⟨jE,T.clR,T.zi,by omega,?_⟩)⟩)));have l4:=ln "berths" v_berths _ _ l3;refine (jA rfl (jA rfl (⟨x,cR,dx,jA rfl (⟨jE,T.clR,T.zq,by omega,?_⟩)⟩)));have l5:=ln "water" v_water _ _ l4;refine (jA rfl (jA rfl (⟨x,cR,dx,jA rfl (⟨jE,T.clR,T.zh,by omega,?_⟩)⟩)));have l6:=ln "target" v_target _ _ l5;exact q _ _ (((((((Keep.refl x H).upd _).upd _).upd _).upd _).upd _).upd _) jE (ON _ _ _ _ _ _)
theorem L9:jS 2 ["self","basin"] oI:=jR
include T in
theorem HM (F:Fun K "fill_parts" "PlainLock.fill_parts" oI f fd) (xg:Def P w K mg base 1 "parts_not_nought" ["parts"] [] (dO K)):FnOk P w K mg base jQ 2 f fd ["self","basin"] (JI (jF cP cB cU) ZZ .plain):=by
 refine F.ok2 L9 fun vs H Q E h=>?_
 refine yC h fun x n h₁ l room v b h=>?_
 refine qT h fun e_ p0_ q=>?_
 subst e_;obtain ⟨dx,hx⟩:=p0_;refine ⟨rfl,fun _ _ _ _ hr=>?_⟩;refine ⟨_,(jM (jP xg hr rfl (jB (kW (jB (kD (jB jO (jB (jZ K (pv 0) rfl) jD))) jD)) jD))),?_⟩
 try dsimp only [jU,jT]
 refine (jA rfl (j0 hx (T.cl .plain) (T.wm .plain) (fK .plain _ _ _ _ _) (⟨zz2,fun tp htp=>⟨zz1,fun lp hlp=>?_⟩⟩)));have s1:=jK htp (.tup [.str "high",.int room]);have s2:=jK hlp (.lst [V.ref tp]);refine (vK lp ([.ref tp]) ([("high",room)]) (vX rfl (so jE) (PartsAt.nil.snoc (s2 _ _ jE)) (by show 1≤10;decide) (fun rr H' rs' sm hrr0 hrr hP=>?_)));exact q rr H' rs' ((s1.trans s2).trans sm) ((s1.trans s2).free hrr0) hrr hP
theorem LK:jS 2 ["self","basin"] nG:=jR
include T in
theorem GQ (F:Fun K "fill_parts" "BasinLock.fill_parts" nG f fd) (xg:Def P w K mg base 1 "parts_not_nought" ["parts"] [] (dO K)):FnOk P w K mg base jQ 2 f fd ["self","basin"] (JI (jF cP cB cU) ZZ .basin):=by
 refine F.ok2 LK fun vs H Q E h=>?_
 refine yC h fun x n h₁ l room v b h=>?_
 refine qT h fun e_ p0_ q=>?_
 subst e_;obtain ⟨dx,hx0⟩:=p0_;refine ⟨rfl,fun _ _ _ _ hr=>?_⟩;refine ⟨_,(jM (jP xg hr rfl (jB (kW (jB (kD (jB jO (jB (pv 1) jD))) (jB (kD (jB jO (jB (@jJ _ _ _ _ _ _ _ _ yL (jZ K (pv 0) rfl) (pv 1)) jD))) jD))) jD))),?_⟩
 try dsimp only [jU,jT]
 refine (jA rfl (⟨zz2,fun tp htp=>?_⟩));have s1:=jK htp (.tup [.str "basin",.int b]);have hx:=s1 _ _ hx0;refine (jA rfl (j0 hx (T.cl .basin) (T.wm .basin) (fK .basin _ _ _ _ _) ((jA rfl (jY (⟨zz2,fun tq htq=>⟨zz2,fun lp hlp=>?_⟩⟩))))));have s2:=jK htq (.tup [.str "high",.int (room - b)]);have s3:=jK hlp (.lst [V.ref tp,V.ref tq]);refine (vK lp ([.ref tp,.ref tq]) ([("basin",b),("high",room - b)]) (vX rfl (so jE) ((PartsAt.nil.snoc (s3 _ _ (s2 _ _ jE))).snoc (s3 _ _ jE)) (by show 2≤10;decide) (fun rr H' rs' sm hrr0 hrr hP=>?_)));exact q rr H' rs' (((s1.trans s2).trans s3).trans sm) (((s1.trans s2).trans s3).free hrr0) hrr hP
theorem MC:jS 2 ["self","basin"] oM:=jR
include T in
theorem HQ (F:Fun K "fill_parts" "PumpLock.fill_parts" oM f fd) (xg:Def P w K mg base 1 "parts_not_nought" ["parts"] [] (dO K)):FnOk P w K mg base jQ 2 f fd ["self","basin"] (JI (jF cP cB cU) ZZ .pump):=by
 refine F.ok2 MC fun vs H Q E h=>?_
 refine yC h fun x n h₁ l room v b h=>?_
 refine qT h fun e_ p0_ q=>?_
 subst e_;obtain ⟨dx,hx0⟩:=p0_;refine ⟨rfl,fun _ _ _ _ hr=>?_⟩;refine ⟨_,(jM (jP xg hr rfl (jB (kW (jB (kD (jB jO (jB (jZ K (pv 0) rfl) jD))) (jB (kD (jB jO (jB (@jJ _ _ _ _ _ _ _ _ yL (jZ K (pv 0) rfl) (jZ K (pv 0) rfl)) jD))) jD))) jD))),?_⟩
 try dsimp only [jU,jT]
 refine (jA rfl (j0 hx0 (T.cl .pump) (T.xaM) (tZ _ _ _ _ _ _) (⟨zz2,fun tp htp=>?_⟩)));have s1:=jK htp (.tup [.str "low",.int v]);have hx:=s1 _ _ hx0;refine (jA rfl (j0 hx (T.cl .pump) (T.wm .pump) (fK .pump _ _ _ _ _) ((jA rfl (j0 hx (T.cl .pump) (T.xaM) (tZ _ _ _ _ _ _) (jY (⟨zz2,fun tq htq=>⟨zz2,fun lp hlp=>?_⟩⟩)))))));have s2:=jK htq (.tup [.str "high",.int (room - v)]);have s3:=jK hlp (.lst [V.ref tp,V.ref tq]);refine (vK lp ([.ref tp,.ref tq]) ([("low",v),("high",room - v)]) (vX rfl (so jE) ((PartsAt.nil.snoc (s3 _ _ (s2 _ _ jE))).snoc (s3 _ _ jE)) (by show 2≤10;decide) (fun rr H' rs' sm hrr0 hrr hP=>?_)));exact q rr H' rs' (((s1.trans s2).trans s3).trans sm) (((s1.trans s2).trans s3).free hrr0) hrr hP
theorem MA:jS 2 ["self","basin"] oJ:=jR
include T in
theorem HN (F:Fun K "let_parts" "PlainLock.let_parts" oJ f fd) (xg:Def P w K mg base 1 "parts_not_nought" ["parts"] [] (dO K)):FnOk P w K mg base jQ 2 f fd ["self","basin"] (SJ (jF cP cB cU)):=by
 refine F.ok2 MA fun vs H Q E h=>?_
 refine ZA h fun kd x n h₁ l room v b h=>?_
 refine qT h fun e_ p0_ q=>?_
 subst e_;obtain ⟨dx,hx⟩:=p0_;refine ⟨rfl,fun _ _ _ _ hr=>?_⟩;refine ⟨_,(jM (jP xg hr rfl (jB (kW (jB (kD (jB jO (jB (jZ K (pv 0) rfl) jD))) jD)) jD))),?_⟩
 try dsimp only [jU,jT]
 refine (jA rfl (j0 hx (T.cl kd) (T.wm kd) (fK kd _ _ _ _ _) (⟨zz2,fun tp htp=>⟨zz1,fun lp hlp=>?_⟩⟩)));have s1:=jK htp (.tup [.str "low",.int room]);have s2:=jK hlp (.lst [V.ref tp]);refine (vK lp ([.ref tp]) ([("low",room)]) (vX rfl (so jE) (PartsAt.nil.snoc (s2 _ _ jE)) (by show 1≤10;decide) (fun rr H' rs' sm hrr0 hrr hP=>?_)));exact q rr H' rs' ((s1.trans s2).trans sm) ((s1.trans s2).free hrr0) hrr hP
theorem xJ:jS 2 ["self","basin","saved"] nH:=jR
include T in
theorem GR (F:Fun K "let_parts" "BasinLock.let_parts" nH f fd) (xg:Def P w K mg base 1 "parts_not_nought" ["parts"] [] (dO K)):FnOk P w K mg base jQ 2 f fd ["self","basin"] (JI (jF cP cB cU) QJ .basin):=by
 refine F.ok2 xJ fun vs H Q E h=>?_
 refine yC h fun x n h₁ l room v b h=>?_
 refine qT h fun e_ p0_ q=>?_
 subst e_;obtain ⟨dx,hx0⟩:=p0_;refine ⟨rfl,fun _ _ _ _ hr=>?_⟩;refine ⟨_,(@jG _ _ _ _ _ (jV 2 xJ.nd (@jJ _ _ _ _ _ _ _ _ yL (jZ K (pv 0) rfl) (pv 1)))
   (jM (jP xg hr rfl (jB (kW (jB (kD (jB jO (jB (pv 2) jD))) (jB (kD (jB jO (jB (@jJ _ _ _ _ _ _ _ _ yL (jZ K (pv 0) rfl) (pv 2)) jD))) jD))) jD)))),?_⟩
 try dsimp only [jU,jT]
 have hx:=hx0;refine (jA rfl (j0 hx (T.cl .basin) (T.xba) (tZ _ _ _ _ _ _) ((jA rfl (jY (?_))))));refine (jA rfl (⟨zz2,fun tp htp=>?_⟩));have s1:=jK htp (.tup [.str "basin",.int (v - b)]);have hx:=s1 _ _ hx0;refine (jA rfl (j0 hx (T.cl .basin) (T.wm .basin) (fK .basin _ _ _ _ _) ((jA rfl (jY (⟨zz2,fun tq htq=>⟨zz2,fun lp hlp=>?_⟩⟩))))));have s2:=jK htq (.tup [.str "low",.int (room - (v - b))]);have s3:=jK hlp (.lst [V.ref tp,V.ref tq]);refine (vK lp ([.ref tp,.ref tq]) ([("basin",v - b),("low",room - (v - b))]) (vX rfl (so jE) ((PartsAt.nil.snoc (s3 _ _ (s2 _ _ jE))).snoc (s3 _ _ jE)) (by show 2≤10;decide) (fun rr H' rs' sm hrr0 hrr hP=>?_)));exact q rr H' rs' (((s1.trans s2).trans s3).trans sm) (((s1.trans s2).trans s3).free hrr0) hrr hP
theorem LV:jS 4 ["self","reaches","locks","nights"] bB:=jR
include T in
theorem G7 {ds:List Value} (F:FunD K "__init__" "Canal.__init__" bB f fd ds) : FnOk P w K mg base jQ 1 f fd ["self","reaches","locks","nights"] (sF (jF cP cB cU) cR cN):=by
 refine F.ok2 LV fun vs H Q E h=>?_
 refine dX h fun x dx rl ll nv rs ls R L N h=>?_
 refine QL h fun e_ hx hrl hll hR hL hN q=>?_
 subst e_;refine ⟨rfl,fun _ _ _ _ hr=>?_⟩;refine ⟨_,(@jG _ _ _ _ _ (vJ (pv 0) (vO (zV K) (by rfl) T.xu aS (jB (pv 1) jD)) rfl)
   (@jG _ _ _ _ _ (vJ (pv 0) (vO (zV K) (by rfl) T.xu aS (jB (pv 2) jD)) rfl)
   (@kH _ _ _ (vJ (pv 0) (zL (j6 UO (pv 3) UN) (kW jD) (mL ["night"] [] (vM (j8 bB)) (yH (pv 3)) (fun _ _ _ _ _=>(vO (zV K) (by rfl) T.xu aS (jB (pv 0) jD))))) rfl)))),?_⟩
 try dsimp only [jU,jT]
 have ln:∀(f:Str) (z:V) (fs:List (Str×V)) (m:Nat),fs.length≤m→(jL f z fs).length≤m+1:=fun f z fs m h=>aI (zK f z fs) (by omega)
 have nrx:rl≠x:=qV hrl hx (fun z=>nomatch z);have nlx:ll≠x:=qV hll hx (fun z=>nomatch z);refine (jA rfl (⟨rl,jA rfl (⟨.inl (so hrl),fun r2 hr20=>?_⟩)⟩));have s1:=jK hr20 (.lst rs);have nr2:r2≠x:=(kT hx hr20).symm;refine (jA rfl (⟨x,cN,dx,jA rfl (⟨s1 _ _ hx,T.clN,T.xf,(by show 0<1000;decide),?_⟩)⟩));have k1:Keep x H (upd (upd H r2 (.lst rs)) x (.ins cN dx (jL "reaches" (.ref r2) []))):=(Keep.of s1).upd _;have hr2:upd (upd H r2 (.lst rs)) x (.ins cN dx (jL "reaches" (.ref r2) [])) r2=some (.lst rs):=by rw [jX nr2];exact jE
 have hx1:upd (upd H r2 (.lst rs)) x (.ins cN dx (jL "reaches" (.ref r2) [])) x=some (.ins cN dx (jL "reaches" (.ref r2) [])):=jE;generalize upd (upd H r2 (.lst rs)) x (.ins cN dx (jL "reaches" (.ref r2) []))=H1 at k1 hr2 hx1 ⊢;have l1:=ln "reaches" (.ref r2) [] 0 (aj _);refine (jA rfl (⟨ll,jA rfl (⟨.inl (so (k1 _ _ nlx hll)),fun l2 hl20=>?_⟩)⟩));have s2:=jK hl20 (.lst ls);have nl2:l2≠x:=(kT hx1 hl20).symm;refine (jA rfl (⟨x,cN,dx,jA rfl (⟨s2 _ _ hx1,T.clN,T.xh,by omega,?_⟩)⟩));have l2':=ln "locks" (.ref l2) _ _ l1;have k2:Keep x H (upd (upd H1 l2 (.lst ls)) x (.ins cN dx (jL "locks" (.ref l2) (jL "reaches" (.ref r2) [])))):=(k1.trans (Keep.of s2)).upd _;have hr2b:upd (upd H1 l2 (.lst ls)) x (.ins cN dx (jL "locks" (.ref l2) (jL "reaches" (.ref r2) []))) r2=some (.lst rs):=by rw [jX nr2];exact s2 _ _ hr2
 have hl2:upd (upd H1 l2 (.lst ls)) x (.ins cN dx (jL "locks" (.ref l2) (jL "reaches" (.ref r2) []))) l2=some (.lst ls):=by rw [jX nl2];exact jE
 have hx2:upd (upd H1 l2 (.lst ls)) x (.ins cN dx (jL "locks" (.ref l2) (jL "reaches" (.ref r2) []))) x=some (.ins cN dx (jL "locks" (.ref l2) (jL "reaches" (.ref r2) []))):=jE;generalize upd (upd H1 l2 (.lst ls)) x (.ins cN dx (jL "locks" (.ref l2) (jL "reaches" (.ref r2) [])))=H2 at k2 hr2b hl2 hx2 ⊢;have frR:∀D:List Addr,(∀d∈D,H d≠none)→r2∉D:=fun D hD z=>hD _ z hr20
 have frL:∀D:List Addr,(∀d∈D,H d≠none)→l2∉D:=fun D hD z=>by
  by_cases e:l2=x
  ·exact nl2 e
  ·cases hh:H l2 with
   |none=>exact hD _ z hh
   |some o=>rw [k1 _ _ e hh] at hl20;cases hl20
 have done:∀(n2:Addr) (ns:List V) (H3:Hp),Keep x H2 H3→H2 n2=none→H3 x=some (.ins cN dx (jL "locks" (.ref l2) (jL "reaches" (.ref r2) [])))→H3 n2=some (.lst ns)→(∀D:List Addr,(∀d∈D,H2 d≠none)→AllAt (NAt D H3) ns N)→Q .non (upd H3 x (.ins cN dx (jL "nights" (.ref n2) (jL "locks" (.ref l2) (jL "reaches" (.ref r2) []))))):=by
  intro n2 ns H3 k3 hn20 hx3 hn2 hNs;have kf:Keep x H (upd H3 x (.ins cN dx (jL "nights" (.ref n2) (jL "locks" (.ref l2) (jL "reaches" (.ref r2) []))))):=(k2.trans k3).upd _;have kl:Keep x H3 (upd H3 x (.ins cN dx (jL "nights" (.ref n2) (jL "locks" (.ref l2) (jL "reaches" (.ref r2) []))))):=(Keep.refl x H3).upd _;have nn2:n2≠x:=fun z=>by rw [z,hx2] at hn20;cases hn20
  have old:∀d,H d≠none→H2 d≠none:=fun d hd=>by
   by_cases e:d=x
   ·rw [e,hx2];exact fun z=>nomatch z
   ·cases hh:H d with
    |none=>exact absurd hh hd
    |some o=>rw [k2 _ _ e hh];exact fun z=>nomatch z
  refine q _ kf fun D hD=>⟨dx,r2,l2,n2,_,rs,ls,ns,jE,OO _ _ _,?_,?_,?_,hR.mono (RcO.keepI kf hx),hL.mono (LkO.keepI kf hx),?_,frR D hD,frL D hD,fun z=>old _ (hD _ z) hn20⟩
  ·rw [jX nr2];exact k3 _ _ nr2 hr2b
  ·rw [jX nl2];exact k3 _ _ nl2 hl2
  ·rw [jX nn2];exact hn2
  ·refine (hNs D (fun d hd=>old d (hD d hd))).mono ?_;rintro v p ⟨l,qs,e1,e2,e3,e4⟩;exact ⟨l,qs,e1,kl _ _ (fun z=>by rw [z,hx3] at e2;cases e2) e2,e3.mono (QAt.keep kl hx3 (fun _ z=>nomatch z)),e4⟩
 refine ⟨_,rfl,rfl,jA rfl (?_)⟩
 rcases hN with ⟨rfl,rfl⟩|⟨nl,ns,rfl,hnl,hN,hnl100⟩
 ·refine kK rfl ⟨zz0,fun n2 hn20=>?_⟩;have s3:=jK hn20 (.lst []);refine (jA rfl (⟨x,cN,dx,jA rfl (⟨s3 _ _ hx2,T.clN,T.xm,by omega,?_⟩)⟩));exact done n2 [] _ (Keep.of s3) hn20 (s3 _ _ hx2) jE (fun D _=>AllAt.nil)
 ·have nnx:nl≠x:=qV hnl hx (fun z=>nomatch z);have hnl2:=k2 _ _ nnx hnl;have hN2:AllAt (NAt [] H2) ns N:=hN.mono fun v p=>by
   rintro ⟨l,qs,e1,e2,e3,e4⟩;exact ⟨l,qs,e1,k2 _ _ (qV e2 hx (fun z=>nomatch z)) e2,e3.mono (QAt.keep k2 hx (fun _ z=>nomatch z)),e4⟩
  refine j5 (fun z=>nomatch z) (jA rfl (⟨nl,rfl,⟨_,so hnl2⟩,fun n2 hn20=>?_⟩));refine bA (K:=K) (a:=nl) (xs:=ns) (caps:=[]) (fun i ys Hi=>(∀D:List Addr,n2∈D→(∀d∈D,d≠n2→H2 d≠none)→AllAt (NAt D Hi) ys (N.take i))) hn20 (so hnl2) (fun D _ _=>AllAt.nil) ?_ ?_
  ·rintro i v ys Hi hv hi hle sm hY hI;obtain ⟨p,hp,l,qs,rfl,hl,hq,_⟩:=hN2.2 i v hv;refine v9 (qG ?_);refine (jA rfl (⟨l,qs,rfl,.inl (so (sm _ _ hl)),fun c hc0=>?_⟩));have u:=jK hc0 (.lst qs);refine JH hn20 sm hY hle (by omega) u ?_;intro D hnD hD;rw [aL,hp];refine (((hI D hnD hD).mono (NAt.same u)).snoc (v:=.ref c) (x:=p) ⟨c,qs,rfl,jE,(hq.mono (QAt.same sm)).mono (QAt.same u),fun z=>?_⟩).mono (NAt.put (u _ _ hY) hnD)
   by_cases e:c=n2
   ·rw [e,hY] at hc0;cases hc0
   ·cases hh:H2 c with
    |none=>exact hD _ z e hh
    |some o=>rw [sm _ _ hh] at hc0;cases hc0
  rintro ys H3 s3 hY hle hI;rw [hN2.1,aZ] at hI;refine (jA rfl (⟨x,cN,dx,jA rfl (⟨s3 _ _ hx2,T.clN,T.xm,by omega,?_⟩)⟩));exact done n2 ys H3 (Keep.of s3) hn20 (s3 _ _ hx2) hY (fun D hD=>(hI (n2::D) bd (fun d hd ne=>(aq.mp hd).elim (fun z=>absurd z ne) (hD d))).mono (NAt.less (fun d hd=>aK _ hd)))
theorem L5:jS 1 ["self"] oF:=jR
include T in
theorem HH (F:Fun K "sea" "Canal.sea" oF f fd) : FnOk P w K mg base jQ 1 f fd ["self"] (Q6 (jF cP cB cU) cR cN JD):=by
 refine F.ok2 L5 fun vs H Q E h=>?_
 refine JN h fun x D R L N h=>?_
 refine qT h fun e_ p0_ q=>?_
 subst e_;obtain ⟨dx,rl,ll,nl,fs,rs,ls,ns,hx,hf,hrl,hll,hnl,hR,hL,hN,d1,d2,d3⟩:=p0_;refine ⟨rfl,fun _ _ _ _ hr=>?_⟩;refine ⟨_,(jM (@jJ _ _ _ _ _ _ _ _ kI (qS K T.xl (jZ K (pv 0) rfl)) (@jJ _ _ _ _ _ _ _ _ qE jC (qS K T.xl (jZ K (pv 0) rfl))))),?_⟩
 try dsimp only [jU,jT]
 refine (jA rfl (j0 hx (T.clN) (T.xf) (hf.1) (⟨_,jA rfl (⟨.inl (so hrl),jA rfl (j0 hx (T.clN) (T.xh) (hf.2.1) (⟨_,jA rfl (⟨.inl (so hll),_,_,rfl,rfl,.inl ⟨by decide,by decide⟩,_,_,rfl,rfl,?_⟩)⟩))⟩)⟩)));rw [hR.1,hL.1];exact q
theorem L6:jS 1 ["self"] oG:=jR
include T in
theorem HI (F:Fun K "sky" "Canal.sky" oG f fd) (ve:MeD P w K mg base 1 cN "sea" ["self"] (Q6 (jF cP cB cU) cR cN JD)):FnOk P w K mg base jQ 2 f fd ["self"] (Q6 (jF cP cB cU) cR cN Z1):=by
 refine F.ok2 L6 fun vs H Q E h=>?_
 refine JN h fun x D R L N h=>?_
 refine qT h fun e_ hc q=>?_
 subst e_;refine ⟨rfl,fun _ _ _ _ hr=>?_⟩;refine ⟨_,(jM (@jJ _ _ _ _ _ _ _ _ kI (kS ve hr (pv 0)) jC)),?_⟩
 try dsimp only [jU,jT]
 have hc0:=hc;obtain ⟨dx,rl,ll,nl,fs,rs,ls,ns,hx,hf,hrl,hll,hnl,hR,hL,hN,d1,d2,d3⟩:=hc;exact (jA rfl (⟨x,dx,jA rfl (⟨hx,hf.no (by decide +kernel) (by decide +kernel) (by decide +kernel),x,D,R,L,N,rfl,hc0,_,_,rfl,rfl,q⟩)⟩))
theorem L3:jS 1 ["self"] oB:=jR
include T in
theorem HF (F:Fun K "many" "Canal.many" oB f fd) (zd:MeD P w K mg base 2 cN "sky" ["self"] (Q6 (jF cP cB cU) cR cN Z1)):FnOk P w K mg base jQ 3 f fd ["self"] (Q6 (jF cP cB cU) cR cN mC):=by
 refine F.ok2 L3 fun vs H Q E h=>?_
 refine JN h fun x D R L N h=>?_
 refine qT h fun e_ hc q=>?_
 subst e_;refine ⟨rfl,fun _ _ _ _ hr=>?_⟩;refine ⟨_,(jM (@jJ _ _ _ _ _ _ _ _ kI (kS zd hr (pv 0)) jC)),?_⟩
 try dsimp only [jU,jT]
 have hc0:=hc;obtain ⟨dx,rl,ll,nl,fs,rs,ls,ns,hx,hf,hrl,hll,hnl,hR,hL,hN,d1,d2,d3⟩:=hc;exact (jA rfl (⟨x,dx,jA rfl (⟨hx,hf.no (by decide +kernel) (by decide +kernel) (by decide +kernel),x,D,R,L,N,rfl,hc0,_,_,rfl,rfl,q⟩)⟩))
theorem LX:jS 2 ["self","k"] nY:=jR
include T in
theorem HB (F:Fun K "chamber" "Canal.chamber" nY f fd) : FnOk P w K mg base jQ 1 f fd ["self","k"] (bU (jF cP cB cU) cR cN JM):=by
 refine F.ok2 LX fun vs H Q E h=>?_
 refine ZB h fun x D R L N k h=>?_
 refine qT h fun e_ p0_ q=>?_
 subst e_;obtain ⟨dx,rl,ll,nl,fs,rs,ls,ns,hx,hf,hrl,hll,hnl,hR,hL,hN,d1,d2,d3⟩:=p0_;refine ⟨rfl,fun _ _ _ _ hr=>?_⟩;refine ⟨_,(jM (@jJ _ _ _ _ _ _ _ _ kI (qS K T.xl (jZ K (pv 0) rfl)) (pv 1))),?_⟩
 try dsimp only [jU,jT]
 refine (jA rfl (j0 hx (T.clN) (T.xf) (hf.1) (⟨_,jA rfl (⟨.inl (so hrl),jA rfl (jY (?_))⟩)⟩)));rw [hR.1];exact q
theorem LW:jS 2 ["self","k"] nX:=jR
include T in
theorem HA (F:Fun K "basin" "Canal.basin" nX f fd) : FnOk P w K mg base jQ 1 f fd ["self","k"] (bU (jF cP cB cU) cR cN yZ):=by
 refine F.ok2 LW fun vs H Q E h=>?_
 refine ZB h fun x D R L N k h=>?_
 refine qT h fun e_ p0_ q=>?_
 subst e_;obtain ⟨dx,rl,ll,nl,fs,rs,ls,ns,hx,hf,hrl,hll,hnl,hR,hL,hN,d1,d2,d3⟩:=p0_;refine ⟨rfl,fun _ _ _ _ hr=>?_⟩;refine ⟨_,(jM (@jJ _ _ _ _ _ _ _ _ kI (@jJ _ _ _ _ _ _ _ _ kI (qS K T.xl (jZ K (pv 0) rfl)) (qS K T.xl (jZ K (pv 0) rfl))) (pv 1))),?_⟩
 try dsimp only [jU,jT]
 refine (jA rfl (j0 hx (T.clN) (T.xf) (hf.1) (⟨_,jA rfl (⟨.inl (so hrl),jA rfl (j0 hx (T.clN) (T.xh) (hf.2.1) (⟨_,jA rfl (⟨.inl (so hll),_,_,rfl,rfl,jA rfl (jY (?_))⟩)⟩))⟩)⟩)));rw [hR.1,hL.1];exact q
theorem L7:jS 1 ["self"] gO:=jR
include T in
theorem HK (F:Fun K "weirs" "Canal.weirs" gO f fd) (ve:MeD P w K mg base 1 cN "sea" ["self"] (Q6 (jF cP cB cU) cR cN JD)):FnOk P w K mg base jQ 2 f fd ["self"] (fB (jF cP cB cU) cR cN):=by
 refine F.ok2 L7 fun vs H Q E h=>?_
 refine JN h fun x D R L N h=>?_
 refine Z5 h fun e_ hc hR100 q=>?_
 subst e_;refine ⟨rfl,fun _ _ _ _ hr=>?_⟩;refine ⟨_,(jM (mL ["reach","self"] [0] (vM (j8 gO)) (yH (jZ K (pv 0) rfl)) (fun _ _ _ _ _=>(kD (jB (jZ K (pv 0) rfl) (jB (zL (j6 kO (jZ K (pv 0) rfl) (yK (v:=.int (-1)) rfl T.xbJ ⟨_,rfl⟩)) (kS ve hr (pv 1)) (jZ K (pv 0) rfl)) jD)))))),?_⟩
 try dsimp only [jU,jT]
 have hc0:=hc;obtain ⟨dx,rl,ll,nl,fs,rs,ls,ns,hx,hf,hrl,hll,hnl,hR,hL,hN,d1,d2,d3⟩:=hc;refine (jA rfl (j0 hx (T.clN) (T.xf) (hf.1) (⟨rl,rfl,⟨_,so hrl⟩,fun wl hwl0=>?_⟩)));refine bA (K:=K) (a:=rl) (xs:=rs) (caps:=[some (.ref x)]) (fun i ys Hi=>AllAt (QAt Hi) ys ((R.take i).map (JK (JD R.length L.length)))) hwl0 (so hrl) AllAt.nil ?_ ?_
 ·rintro i v ys Hi hv hi hle sm hY hW;obtain ⟨r,hr,y,rfl,dy,gs,hy,hg⟩:=hR.2 i v hv;have hy:=sm _ _ hy;have hi100:i<100:=by rw [hR.1] at hi;omega
  refine v9 (qG ?_);refine (jA rfl (j0 hy (T.clR) (T.zp) (hg.2.2.1) ((jA rfl (j0 hy (T.clR) (T.zh) (hg.2.2.2.2.2) (⟨rfl,jA rfl (?_)⟩))))));have put:∀z:Int,z=(JK (JD R.length L.length) r).2→∀tp,Hi tp=none→∃ys',upd Hi tp (.tup [.int r.crest,.int z]) wl=some (.lst ys')∧ys'.length<sizeLine∧zD H wl [some (.ref x)] (fun i ys Hi=>AllAt (QAt Hi) ys ((R.take i).map (JK (JD R.length L.length)))) (i+1) [some (.ref y),some (.ref x)] (upd (upd Hi tp (.tup [.int r.crest,.int z])) wl (.lst (ys'++[.ref tp]))):=by
   intro z hz tp htp;have u:=jK htp (.tup [V.int r.crest,V.int z]);exact JH (R:=fun i ys Hi=>AllAt (QAt Hi) ys ((R.take i).map (JK (JD R.length L.length)))) (c:=some (.ref y)) (caps:=[some (.ref x)]) (v:=.ref tp) hwl0 sm hY hle (by omega) u (by
    rw [aL,hr,aH];exact ((hW.mono (QAt.same u)).snoc (v:=.ref tp) (x:=JK (JD R.length L.length) r) ⟨tp,rfl,by rw [← hz];exact jE⟩).mono (QAt.put (u _ _ hY)))
  by_cases ht:r.target = -1
  ·refine kK (bu V.int ht) (jA rfl (⟨x,dx,jA rfl (⟨(sm _ _ hx),hf.no (by decide +kernel) (by decide +kernel) (by decide +kernel),yD x D R L N (vN rfl (hc0.same sm) zz2 (fun tp htp=>?_))⟩)⟩));exact put _ (by unfold JK;rw [if_pos ht]) tp htp
  ·refine j5 (fun z=>ht (V.int.inj z)) (jA rfl (j0 hy (T.clR) (T.zh) (hg.2.2.2.2.2) (⟨zz2,fun tp htp=>?_⟩)));exact put _ (by unfold JK;rw [if_neg ht]) tp htp
 rintro ys Hf sm hY hle hW;rw [hR.1,aZ] at hW;exact q wl ys Hf sm hwl0 hY hW
theorem LY:jS 3 ["self","waters","k"] nZ:=jR
include T in
theorem HD (F:Fun K "full" "Canal.full" nZ f fd) (zj:MeD P w K mg base 1 cN "chamber" ["self","k"] (bU (jF cP cB cU) cR cN JM)):FnOk P w K mg base jQ 2 f fd ["self","waters","k"] (lF (jF cP cB cU) cR cN):=by
 refine F.ok2 LY fun vs H Q E h=>?_
 refine ZA h fun x wa D R L N ms k h=>?_
 refine ZC h fun e_ hc hwa hk q=>?_
 subst e_;refine ⟨rfl,fun _ _ _ _ hr=>?_⟩;refine ⟨_,(jM (JY wA (jH (jN K) (pv 1) (Z3 zj hr (pv 0) (jB (pv 2) jD))) jC)),?_⟩
 try dsimp only [jU,jT]
 have hc0:=hc;obtain ⟨dx,rl,ll,nl,fs,rs,ls,ns,hx,hf,hrl,hll,hnl,hR,hL,hN,d1,d2,d3⟩:=hc;have hat:qU (ms.map V.int) (JM R.length L.length (k:Int))=some (.int (ms.getD (R.length+k) 0)):=by
  rw [show JM R.length L.length (k:Int)=((R.length+k:Nat):Int) by unfold JM;omega];exact yJ hk
 exact (jA rfl (jA rfl (⟨x,dx,jA rfl (⟨hx,hf.no (by decide +kernel) (by decide +kernel) (by decide +kernel),jA rfl (⟨x,D,R,L,N,jA rfl (⟨hc0,jI (SqT.of hwa) hat (jY (q))⟩)⟩)⟩)⟩)))
theorem rL:jS 1 ["self","waters","others"] gN:=jR
include T in
theorem HJ (F:Fun K "start" "Canal.start" gN f fd) (xaw:MeD P w K mg base 3 cN "many" ["self"] (Q6 (jF cP cB cU) cR cN mC)) (xbj:Def P w K mg base 4 "settled" ["weirs","waters"] [] (BI K)) (xo:MeD P w K mg base 2 cN "weirs" ["self"] (fB (jF cP cB cU) cR cN)):FnOk P w K mg base jQ 5 f fd ["self"] (CG (jF cP cB cU) cR cN):=by
 refine F.ok2 rL fun vs H Q E h=>?_
 refine JN h fun x D R L N h=>?_
 refine y0 h fun e_ hc hR100 hL100 hT q=>?_
 subst e_;refine ⟨rfl,fun _ _ _ _ hr=>?_⟩;refine ⟨_,(@jG _ _ _ _ _ (bE (i:=1) ["reach"] (vF 1 []) rL.nd rfl (.inl rfl) rfl (vM (j8 gN)) (cps 1 []) (yH (jZ K (pv 0) rfl)) (fun _ _ _ _ _=>(kU (i:=0) (show List.Nodup (["reach"]:List Str) from by decide +kernel) rfl (.inl rfl))) (fun _ _ _ _ _=>yR) (fun _ _ _ _ _=>(jZ K (pv 0) rfl)))
   (@jG _ _ _ _ _ (jV 2 rL.nd (@jJ _ _ _ _ _ _ _ _ EO (kW (jB jC jD)) (@jJ _ _ _ _ _ _ _ _ yL (kS xaw hr (pv 0)) (qS K T.xl (pv 1)))))
   (jM (jP xbj hr rfl (jB (kS xo hr (pv 0)) (jB (@jJ _ _ _ _ _ _ _ _ ZS (pv 1) (pv 2)) jD)))))),?_⟩
 try dsimp only [jU,jT]
 have hc0:=hc;obtain ⟨dx,rl,ll,nl,fs,rs,ls,ns,hx,hf,hrl,hll,hnl,hR,hL,hN,d1,d2,d3⟩:=hc;refine (jA rfl (j0 hx (T.clN) (T.xf) (hf.1) (⟨rl,rfl,⟨_,so hrl⟩,fun wl hwl0=>?_⟩)));refine bA (K:=K) (a:=rl) (xs:=rs) (caps:=[]) (fun i ys Hi=>ys=((R.take i).map (·.water)).map V.int) hwl0 (so hrl) rfl ?_ ?_
 ·rintro i v ys Hi hv hi hle sm hY rfl;obtain ⟨r,hr,y,rfl,dy,gs,hy,hg⟩:=hR.2 i v hv;have hy:=sm _ _ hy;have hi100:i<100:=by rw [hR.1] at hi;omega
  refine v9 (qG (jA rfl (j0 hy (T.clR) (T.zq) (hg.2.2.2.2.1) (JH hwl0 sm hY hle (by omega) (Same.refl _) ?_))));rw [aL,hr,aH,aH];rfl
 rintro ys H1 s1 hwl hle rfl;rw [hR.1,aZ] at hwl;refine ⟨zz1,fun lp hlp=>?_⟩;have s2:=jK hlp (.lst [V.int 0]);have s12:=s1.trans s2;refine (jA rfl (⟨x,dx,jA rfl (⟨(s12 _ _ hx),hf.no (by decide +kernel) (by decide +kernel) (by decide +kernel),yD x D R L N (kJ rfl (hc0.same s12) (jA rfl (⟨wl,jA rfl (⟨.inl (so (s2 _ _ hwl)),_,_,rfl,rfl,?_⟩)⟩)))⟩)⟩));have e1:mC R.length L.length - (((((R.map (·.water)).map V.int).length:Nat)):Int)=((2*L.length+2:Nat):Int):=by
  rw [ae,ae];unfold mC;omega
 try dsimp only
 rw [e1];refine ⟨lp,_,_,rfl,rfl,jE,by omega,by omega,?_,fun gp hgp=>?_⟩
 ·rw [ay,aF,Nat.one_mul];exact small (by omega)
 rw [ay,CU];have s3:=jK hgp (.lst ((List.replicate (2*L.length+2) (0:Int)).map V.int));have s13:=s12.trans s3;have hgp3:upd (upd H1 lp (.lst [V.int 0])) gp (.lst ((List.replicate (2*L.length+2) (0:Int)).map V.int)) gp=_:=jE;have hwl3:=s3 _ _ (s2 _ _ hwl);generalize upd (upd H1 lp (.lst [V.int 0])) gp (.lst ((List.replicate (2*L.length+2) (0:Int)).map V.int))=H3 at s3 s13 hgp3 hwl3 ⊢;refine (jA rfl (⟨x,dx,jA rfl (⟨(s13 _ _ hx),hf.no (by decide +kernel) (by decide +kernel) (by decide +kernel),yD x D R L N (vN rfl (hc0.same s13) hR100 (fun wq ws H4 s4 hwq0 hwq hW=>?_))⟩)⟩));refine (jA rfl (jA rfl (⟨wl,gp,_,_,rfl,rfl,s4 _ _ hwl3,s4 _ _ hgp3,?_,fun al hal=>?_⟩)))
 ·rw [ae,ae,ae,bf];exact small (by omega)
 have e2:(R.map (·.water)).map V.int++(List.replicate (2*L.length+2) (0:Int)).map V.int=(zN R L.length).map V.int:=by unfold zN;rw [aH]
 rw [e2];have s5:=jK hal (.lst ((zN R L.length).map V.int));have s15:=(s13.trans s4).trans s5;refine ⟨wq,al,ws,vC R L.length,zN R L.length,rfl,⟨so (s5 _ _ hwq),CA hT (hW.mono (QAt.same s5)),.inl (so jE),AB hT,by rw [eX,eY];omega,by rw [eY];omega⟩,fun r H' gs s' hr0 hr hSp=>?_⟩;exact q r H' gs (s15.trans s') (s15.free hr0) hr hSp
theorem MJ:jS 2 ["lock","basin"] gT:=jR
include T in
theorem IT (F:kB K "filling" gT f fd) (vb:MeK P w K mg base 2 (jF cP cB cU) "fill_parts" ["self","basin"] (JI (jF cP cB cU) ZZ)):FnOk P w K mg base jQ 3 f fd ["lock","basin"] (fC (jF cP cB cU) zP):=by
 refine F.ok2 MJ fun vs H Q E h=>?_
 refine ZA h fun x kd n h₁ l room v b h=>?_
 refine qT h fun e_ p0_ q=>?_
 subst e_;obtain ⟨dx,hx⟩:=p0_;refine ⟨rfl,fun _ _ _ _ hr=>?_⟩;refine ⟨_,(jM (JR ["giver","amount"] (vF 2 []) rfl (vM (j8 gT)) (cps 2 []) (yH (E7 vb hr (pv 0) (jB (pv 1) jD))) (fun _ _ _ _ _=>(JJ (n:=2) K rfl (qI (kU (i:=0) (show List.Nodup (["giver","amount"]:List Str) from by decide +kernel) rfl (.inl rfl)) (qI (kU (i:=1) (show List.Nodup (["giver","amount"]:List Str) from by decide +kernel) rfl (.inl rfl)) zC)))) (fun _ _ _ _ _=>yR) (fun _ _ _ _ _=>(kD (j7 (pv 0) jO (pv 1)))))),?_⟩
 try dsimp only [jU,jT]
 refine (jA rfl (⟨kd,x,dx,jA rfl (⟨hx,TW kd _ _ _ _ _,jA rfl (⟨x,n,h₁,yP l room v b (kJ rfl ⟨dx,hx⟩ (fun pl H1 rs s1 hpl0 hpl hP=>?_))⟩)⟩)⟩));have hplen:=BX kd room v b;refine ⟨pl,rfl,⟨_,so hpl⟩,fun D hD=>?_⟩;have u0:=jK hD (.lst []);refine bF (K:=K) (a:=pl) (xs:=rs) (fun i σ Hi=>∃(c1 c2:Option V) (ys:List V),σ=[c1,c2]∧Hi D=some (.lst ys)∧PoursS Hi ys ((ZZ kd room v b).take i |>.map (fun p=>(p.1,"chamber",p.2)))∧Same H1 Hi)
  (vK none none ([]) (vN rfl jE PoursS.nil u0)) (fun i σ Hi _ ⟨_,_,_,_,_,_,s⟩=>so (s _ _ hpl)) ?_ ?_
 ·rintro i y σ Hi hy ⟨c1,c2,ys,rfl,hY,hA,sm⟩;have hi:i<rs.length:=(ad.mp hy).1;obtain ⟨t,sN,nN,rfl,hps,hT⟩:=hP.2 i y hy;have hl:ys.length≤i:=by rw [hA.1,ae];exact gr _ _
  refine ⟨t,jA rfl (⟨SqT.of (sm _ _ hT),rfl,_,jA rfl (⟨_,_,rfl,rfl,?_⟩)⟩)⟩;refine v9 (qG ?_);refine (jA rfl (jA rfl (⟨zz3,fun tp htp=>?_⟩)));have v1:∀o,Same Hi (upd Hi tp o):=fun o=>jK htp o
  refine ⟨ys,v1 _ _ _ hY,qX (by rw [hP.1] at hi;omega),_,_,ys++[.ref tp],rfl,jE,?_,qA hD (sm.trans (v1 _))⟩;rw [x9 hps];exact PoursS.keep ((Keep.refl D _).upd _) (v1 _ _ _ hY) ((hA.same (v1 _)).append (PoursS.one jE))
 ·rintro σ Hi ⟨c1,c2,ys,rfl,hY,hA,sm⟩;rw [hP.1,aZ] at hA;exact q D Hi ys (s1.trans sm) (s1.free hD) hY hA
theorem MQ:jS 2 ["lock","basin"] gW:=jR
include T in
theorem KB (F:kB K "letting" gW f fd) (vf:MeK P w K mg base 2 (jF cP cB cU) "let_parts" ["self","basin"] (JI (jF cP cB cU) QJ)):FnOk P w K mg base jQ 3 f fd ["lock","basin"] (fC (jF cP cB cU) yY):=by
 refine F.ok2 MQ fun vs H Q E h=>?_
 refine ZA h fun x kd n h₁ l room v b h=>?_
 refine qT h fun e_ p0_ q=>?_
 subst e_;obtain ⟨dx,hx⟩:=p0_;refine ⟨rfl,fun _ _ _ _ hr=>?_⟩;refine ⟨_,(jM (JR ["taker","amount"] (vF 2 []) rfl (vM (j8 gW)) (cps 2 []) (yH (E7 vf hr (pv 0) (jB (pv 1) jD))) (fun _ _ _ _ _=>(JJ (n:=2) K rfl (qI (kU (i:=0) (show List.Nodup (["taker","amount"]:List Str) from by decide +kernel) rfl (.inl rfl)) (qI (kU (i:=1) (show List.Nodup (["taker","amount"]:List Str) from by decide +kernel) rfl (.inl rfl)) zC)))) (fun _ _ _ _ _=>yR) (fun _ _ _ _ _=>(kD (j7 jO (pv 0) (pv 1)))))),?_⟩
 try dsimp only [jU,jT]
 refine (jA rfl (⟨kd,x,dx,jA rfl (⟨hx,U1 kd _ _ _ _ _,jA rfl (⟨x,n,h₁,yP l room v b (kJ rfl ⟨dx,hx⟩ (fun pl H1 rs s1 hpl0 hpl hP=>?_))⟩)⟩)⟩));have hplen:=C1 kd room v b;refine ⟨pl,rfl,⟨_,so hpl⟩,fun D hD=>?_⟩;have u0:=jK hD (.lst []);refine bF (K:=K) (a:=pl) (xs:=rs) (fun i σ Hi=>∃(c1 c2:Option V) (ys:List V),σ=[c1,c2]∧Hi D=some (.lst ys)∧PoursS Hi ys ((QJ kd room v b).take i |>.map (fun p=>("chamber",p.1,p.2)))∧Same H1 Hi)
  (vK none none ([]) (vN rfl jE PoursS.nil u0)) (fun i σ Hi _ ⟨_,_,_,_,_,_,s⟩=>so (s _ _ hpl)) ?_ ?_
 ·rintro i y σ Hi hy ⟨c1,c2,ys,rfl,hY,hA,sm⟩;have hi:i<rs.length:=(ad.mp hy).1;obtain ⟨t,sN,nN,rfl,hps,hT⟩:=hP.2 i y hy;have hl:ys.length≤i:=by rw [hA.1,ae];exact gr _ _
  refine ⟨t,jA rfl (⟨SqT.of (sm _ _ hT),rfl,_,jA rfl (⟨_,_,rfl,rfl,?_⟩)⟩)⟩;refine v9 (qG ?_);refine (jA rfl (jA rfl (⟨zz3,fun tp htp=>?_⟩)));have v1:∀o,Same Hi (upd Hi tp o):=fun o=>jK htp o
  refine ⟨ys,v1 _ _ _ hY,qX (by rw [hP.1] at hi;omega),_,_,ys++[.ref tp],rfl,jE,?_,qA hD (sm.trans (v1 _))⟩;rw [x9 hps];exact PoursS.keep ((Keep.refl D _).upd _) (v1 _ _ _ hY) ((hA.same (v1 _)).append (PoursS.one jE))
 ·rintro σ Hi ⟨c1,c2,ys,rfl,hY,hA,sm⟩;rw [hP.1,aZ] at hA;exact q D Hi ys (s1.trans sm) (s1.free hD) hY hA
theorem MK:jS 2 ["vessel","pours"] gU:=jR
include T in
theorem IU (F:kB K "given_by" gU f fd) : FnOk P w K mg base jQ 1 f fd ["vessel","pours"] (DK):=by
 refine F.ok2 MK fun vs H Q E h=>?_
 refine cE h fun s₁ p rs qs h=>?_
 refine ZC h fun e_ hP hA hn q=>?_
 subst e_;refine ⟨rfl,fun _ _ _ _ hr=>?_⟩;refine ⟨_,(jM (y7 (B0 rfl) (by rfl) T.jm PyProof.Rows.boot_sum (jB (JR ["source","target","amount","vessel"] (vF 3 [0]) rfl (vM (j8 gU)) (cps 3 [0]) (yH (pv 1)) (fun _ _ _ _ _=>(JJ (n:=3) K rfl (qI (kU (i:=0) (show List.Nodup (["source","target","amount","vessel"]:List Str) from by decide +kernel) rfl (.inl rfl)) (qI (kU (i:=1) (show List.Nodup (["source","target","amount","vessel"]:List Str) from by decide +kernel) rfl (.inl rfl)) (qI (kU (i:=2) (show List.Nodup (["source","target","amount","vessel"]:List Str) from by decide +kernel) rfl (.inl rfl)) zC))))) (fun _ _ _ _ _=>(fI (j6 kO (pv 0) (pv 3)))) (fun _ _ _ _ _=>(pv 2))) jD))),?_⟩
 try dsimp only [jU,jT]
 refine (jA rfl (⟨p,rfl,⟨_,so hP⟩,fun D hD=>?_⟩));have u0:=jK hD (.lst []);refine bF (K:=K) (a:=p) (xs:=rs) (fun i σ Hi=>∃(c1 c2 c3:Option V),σ=[c1,c2,c3,some (.str s₁)]∧Hi D=some (.lst ((Q5 (gD s₁) (qs.take i)).map V.int))∧Same H Hi)
  (vK none none none (kJ rfl jE u0)) (fun i σ Hi _ ⟨_,_,_,_,_,s⟩=>so (s _ _ hP)) ?_ ?_
 ·rintro i y σ Hi hy ⟨c1,c2,c3,rfl,hY,sm⟩;have hi:i<rs.length:=(ad.mp hy).1;obtain ⟨t,sS,sT,nN,rfl,hq,hT⟩:=hA.2 i y hy;have hat:=AX (gD s₁) qs i _ hq;have hal:=B8 (gD s₁) qs i;refine ⟨t,jA rfl (⟨SqT.of (sm _ _ hT),rfl,_,jA rfl (⟨_,jA rfl (⟨_,_,rfl,rfl,?_⟩)⟩)⟩)⟩;refine (jA rfl (⟨_,rfl,rfl,jA rfl (?_)⟩));rw [C6]
  by_cases c:(gD s₁) (sS,sT,nN)=true
  ·rw [if_pos c] at hat
   have c':=bv c;refine kK c' (jA rfl (⟨_,hY,qX (by rw [ae];omega),_,_,jA rfl (⟨?_,qA hD sm⟩)⟩));rw [jE,hat,aH];rfl
  ·rw [if_neg c,bo] at hat
   have c':¬_:=of_decide_eq_false (di.mpr c);refine j5 c' ⟨_,_,jA rfl (⟨?_,sm⟩)⟩;rw [hY,hat]
 ·rintro σ Hi ⟨c1,c2,c3,rfl,hY,sm⟩;rw [hA.1,aZ] at hY;exact ⟨D,jA rfl (⟨so hY,q Hi sm⟩)⟩
theorem xT:jS 2 ["basin","pours","got"] gR:=jR
include T in
theorem IL (F:kB K "basin_after" gR f fd) (xbb:Def P w K mg base 1 "given_by" ["vessel","pours"] [] (DK)):FnOk P w K mg base jQ 2 f fd ["basin","pours"] (DN):=by
 refine F.ok2 xT fun vs H Q E h=>?_
 refine cE h fun b p rs qs h=>?_
 refine ZC h fun e_ hP hA hn q=>?_
 subst e_;refine ⟨rfl,fun _ _ _ _ hr=>?_⟩;refine ⟨_,(@jG _ _ _ _ _ (jV 2 xT.nd (y7 (B0 rfl) (by rfl) T.jm PyProof.Rows.boot_sum (jB (JR ["source","target","amount"] (vF 3 []) rfl (vM (j8 gR)) (cps 3 []) (yH (pv 1)) (fun _ _ _ _ _=>(JJ (n:=3) K rfl (qI (kU (i:=0) (show List.Nodup (["source","target","amount"]:List Str) from by decide +kernel) rfl (.inl rfl)) (qI (kU (i:=1) (show List.Nodup (["source","target","amount"]:List Str) from by decide +kernel) rfl (.inl rfl)) (qI (kU (i:=2) (show List.Nodup (["source","target","amount"]:List Str) from by decide +kernel) rfl (.inl rfl)) zC))))) (fun _ _ _ _ _=>(fI (j6 kO (pv 1) jO))) (fun _ _ _ _ _=>(pv 2))) jD)))
   (jM (@jJ _ _ _ _ _ _ _ _ yL (@jJ _ _ _ _ _ _ _ _ kI (pv 0) (pv 2)) (jP xbb hr rfl (jB jO (jB (pv 1) jD)))))),?_⟩
 try dsimp only [jU,jT]
 refine (jA rfl (⟨p,rfl,⟨_,so hP⟩,fun D hD=>?_⟩));have u0:=jK hD (.lst []);refine bF (K:=K) (a:=p) (xs:=rs) (fun i σ Hi=>∃(c1 c2 c3:Option V),σ=[c1,c2,c3]∧Hi D=some (.lst ((Q5 (toS "basin") (qs.take i)).map V.int))∧Same H Hi)
  (vK none none none (kJ rfl jE u0)) (fun i σ Hi _ ⟨_,_,_,_,_,s⟩=>so (s _ _ hP)) ?_ ?_
 ·rintro i y σ Hi hy ⟨c1,c2,c3,rfl,hY,sm⟩;have hi:i<rs.length:=(ad.mp hy).1;obtain ⟨t,sS,sT,nN,rfl,hq,hT⟩:=hA.2 i y hy;have hat:=AX (toS "basin") qs i _ hq;have hal:=B8 (toS "basin") qs i;refine ⟨t,jA rfl (⟨SqT.of (sm _ _ hT),rfl,_,jA rfl (⟨_,jA rfl (⟨_,_,rfl,rfl,?_⟩)⟩)⟩)⟩;refine ⟨_,rfl,rfl,jA rfl (?_)⟩;rw [C6]
  by_cases c:(toS "basin") (sS,sT,nN)=true
  ·rw [if_pos c] at hat
   have c':=bv c;refine kK c' (jA rfl (⟨_,hY,qX (by rw [ae];omega),_,_,jA rfl (⟨?_,qA hD sm⟩)⟩));rw [jE,hat,aH];rfl
  ·rw [if_neg c,bo] at hat
   have c':¬_:=of_decide_eq_false (di.mpr c);refine j5 c' ⟨_,_,jA rfl (⟨?_,sm⟩)⟩;rw [hY,hat]
 ·rintro σ Hi ⟨c1,c2,c3,rfl,hY,sm⟩;rw [hA.1,aZ] at hY;refine ⟨D,jA rfl (⟨so hY,?_⟩)⟩;refine (jA rfl (jA rfl (jY ((jA rfl (⟨"basin",vK p rs qs (vX rfl (sm _ _ hP) (hA.same sm) hn (fun H' s2=>⟨_,_,rfl,rfl,q H' (sm.trans s2)⟩))⟩))))))
theorem rP:jS 4 ["lock","full","basin","way","made_ready"] pO:=jR
include T in
theorem KP (F:kB K "passage" pO f fd) (wg:Def P w K mg base 3 "letting" ["lock","basin"] [] (fC (jF cP cB cU) yY)) (xaL:Def P w K mg base 3 "filling" ["lock","basin"] [] (fC (jF cP cB cU) zP)) (wj:Def P w K mg base 2 "basin_after" ["basin","pours"] [] (DN)):FnOk P w K mg base jQ 4 f fd ["lock","full","basin","way"] (BM (jF cP cB cU)):=by
 refine F.ok2 rP fun vs H Q E h=>?_
 refine dX h fun x kd n h₁ l room v b f w h=>?_
 refine qT h fun e_ hx q=>?_
 subst e_;refine ⟨rfl,fun _ _ _ _ hr=>?_⟩;refine ⟨_,(@jG _ _ _ _ _ (j9 (j6 kO (pv 3) jO) (@jG _ _ _ _ _ (jV 4 rP.nd (zL (vP (pv 1)) (jP wg hr rfl (jB (pv 0) (jB (pv 2) jD))) (kW jD)))
   (jM (@jJ _ _ _ _ _ _ _ _ ZS (pv 4) (jP xaL hr rfl (jB (pv 0) (jB (jP wj hr rfl (jB (pv 2) (jB (pv 4) jD))) jD)))))) kC)
   (@jG _ _ _ _ _ (jV 4 rP.nd (zL (vP (pv 1)) (kW jD) (jP xaL hr rfl (jB (pv 0) (jB (pv 2) jD)))))
   (jM (@jJ _ _ _ _ _ _ _ _ ZS (pv 4) (jP wg hr rfl (jB (pv 0) (jB (jP wj hr rfl (jB (pv 2) (jB (pv 4) jD))) jD))))))),?_⟩
 try dsimp only [jU,jT]
 cases w with
 |true =>
  refine ⟨_,rfl,rfl,jA rfl (kK rfl ?_)⟩;cases f with
  |true =>
   refine (jA rfl (jA rfl (qG (jA rfl (jA rfl (⟨x,kd,n,h₁,yP l room v b (kJ rfl hx (fun m H1 rs s1 hm0 hm hA=>?_))⟩))))));have hl:=bK kd room v b;have hl2:=fA kd room v (QH b (yY kd room v b));refine (jA rfl (jA rfl (jA rfl (jA rfl (⟨b,m,rs,jA rfl (⟨hm,hA,by rw [hA.1];omega,fun H2 s2=>?_⟩)⟩)))));refine ⟨x,kd,n,h₁,l,room,v,jA rfl (⟨(hx.same s1).same s2,fun z H3 rs3 s3 hz0 hz hA3=>?_⟩)⟩;refine ⟨m,z,_,_,rfl,rfl,s3 _ _ (s2 _ _ hm),hz,small (by rw [hA.1,hA3.1];omega),fun y hy0=>?_⟩;have s4:=jK hy0 (.lst (rs++rs3));exact q y _ (rs++rs3) (((s1.trans s2).trans s3).trans s4) (((s1.trans s2).trans s3).free hy0) jE ((((hA.same s2).same s3).append hA3).same s4)
  |false =>
   refine (jA rfl (jA rfl (vA ⟨zz0,fun m hm0=>?_⟩)));have s1:=jK hm0 (.lst []);have hm:upd H m (.lst []) m=some (.lst []):=jE;generalize upd H m (.lst [])=H1 at s1 hm ⊢;refine (jA rfl (jA rfl (jA rfl (jA rfl ((yP b m ([]) ([]) (vX rfl hm PoursS.nil (by decide) (fun H2 s2=>?_))))))));rw [AY];refine ⟨x,kd,n,h₁,yP l room v b (kJ rfl ((hx.same s1).same s2) (fun z H3 rs3 s3 hz0 hz hA3=>?_))⟩;refine ⟨m,z,_,_,rfl,rfl,s3 _ _ (s2 _ _ hm),hz,small (by rw [hA3.1];have:=fA kd room v b;have:=bK kd room v b;show 0+_≤1000;omega),fun y hy0=>?_⟩;have s4:=jK hy0 (.lst ([]++rs3));exact q y _ rs3 (((s1.trans s2).trans s3).trans s4) (((s1.trans s2).trans s3).free hy0) jE (hA3.same s4)
 |false =>
  refine ⟨_,rfl,rfl,jA rfl (j5 U7 ?_)⟩;cases f with
  |false =>
   refine (jA rfl (jA rfl (vA (jA rfl (jA rfl (⟨x,kd,n,h₁,yP l room v b (kJ rfl hx (fun m H1 rs s1 hm0 hm hA=>?_))⟩))))));have hl:=fA kd room v b;have hl2:=bK kd room v (QH b (zP kd room v b));refine (jA rfl (jA rfl (jA rfl (jA rfl (⟨b,m,rs,jA rfl (⟨hm,hA,by rw [hA.1];omega,fun H2 s2=>?_⟩)⟩)))));refine ⟨x,kd,n,h₁,l,room,v,jA rfl (⟨(hx.same s1).same s2,fun z H3 rs3 s3 hz0 hz hA3=>?_⟩)⟩;refine ⟨m,z,_,_,rfl,rfl,s3 _ _ (s2 _ _ hm),hz,small (by rw [hA.1,hA3.1];omega),fun y hy0=>?_⟩;have s4:=jK hy0 (.lst (rs++rs3));exact q y _ (rs++rs3) (((s1.trans s2).trans s3).trans s4) (((s1.trans s2).trans s3).free hy0) jE ((((hA.same s2).same s3).append hA3).same s4)
  |true =>
   refine (jA rfl (jA rfl (qG ⟨zz0,fun m hm0=>?_⟩)));have s1:=jK hm0 (.lst []);have hm:upd H m (.lst []) m=some (.lst []):=jE;generalize upd H m (.lst [])=H1 at s1 hm ⊢;refine (jA rfl (jA rfl (jA rfl (jA rfl ((yP b m ([]) ([]) (vX rfl hm PoursS.nil (by decide) (fun H2 s2=>?_))))))));rw [AY];refine ⟨x,kd,n,h₁,yP l room v b (kJ rfl ((hx.same s1).same s2) (fun z H3 rs3 s3 hz0 hz hA3=>?_))⟩;refine ⟨m,z,_,_,rfl,rfl,s3 _ _ (s2 _ _ hm),hz,small (by rw [hA3.1];have:=fA kd room v b;have:=bK kd room v b;show 0+_≤1000;omega),fun y hy0=>?_⟩;have s4:=jK hy0 (.lst ([]++rs3));exact q y _ rs3 (((s1.trans s2).trans s3).trans s4) (((s1.trans s2).trans s3).free hy0) jE (hA3.same s4)
theorem M0:jS 2 ["lock","side"] rB:=jR
include T in
theorem K6 (F:kB K "step_ends" rB f fd) : FnOk P w K mg base jQ 1 f fd ["lock","side"] (EK (jF cP cB cU)):=by
 refine F.ok2 M0 fun vs H Q E h=>?_
 refine fX h fun y l b h=>?_
 refine qT h fun e_ p0_ q=>?_
 subst e_;obtain ⟨y₂,e,dl,hl⟩:=p0_;refine ⟨rfl,fun _ _ _ _ hr=>?_⟩;refine ⟨_,(jM (zL (j6 kO (pv 1) jO) (kD (jB (jZ K (pv 0) rfl) (jB (jZ K (pv 0) rfl) jD))) (kD (jB (jZ K (pv 0) rfl) (jB (jZ K (pv 0) rfl) jD))))),?_⟩
 try dsimp only [jU,jT]
 cases e;refine ⟨_,rfl,rfl,jA rfl (?_)⟩;rw [EV];cases b with
 |true=>exact qG (jA rfl (j0 hl (T.cl l.kd) (T.uz l.kd) (dM l.kd _ _ _ _ _) ((jA rfl (j0 hl (T.cl l.kd) (T.vt l.kd) (dH l.kd _ _ _ _ _) (⟨zz2,fun t ht=>q t _ (jK ht _) ht jE⟩))))))
 |false=>exact vA (jA rfl (j0 hl (T.cl l.kd) (T.vt l.kd) (dH l.kd _ _ _ _ _) ((jA rfl (j0 hl (T.cl l.kd) (T.uz l.kd) (dM l.kd _ _ _ _ _) (⟨zz2,fun t ht=>q t _ (jK ht _) ht jE⟩))))))
theorem eP:jS 3 ["canal","start","steps","along","k","side","ends"] pI:=jR
include T in
theorem KC (F:kB K "linked" pI f fd) (xa3:Def P w K mg base 1 "step_ends" ["lock","side"] [] (EK (jF cP cB cU))):FnOk P w K mg base (kF P w) 2 f fd ["canal","start","steps"] (tO K (jF cP cB cU) cR cN eL):=by
 refine F.okX2 eP fun vs H Q E h=>?_
 refine yO h fun x st s₁ us ps D R L N h=>?_
 refine QL h fun e_ p0_ hst hP hlt h100 qv qe=>?_
 subst e_;obtain ⟨dx,rl,ll,nl,fs,rs,ls,ns,hx,hf,hrl,hll,hnl,hR,hL,hN,d1,d2,d3⟩:=p0_;refine ⟨rfl,fun _ _ _ _ hr=>?_⟩;refine ⟨_,(@jG _ _ _ _ _ (jV 3 eP.nd (kW (jB (pv 1) jD)))
   (@jG _ _ _ _ _ (JL fR rfl (uR (pv 2)) (lN rfl (qI (kU (i:=4) eP.nd rfl (.inl rfl)) (qI (kU (i:=5) eP.nd rfl (.inl rfl)) zC)))
    (@jG _ _ _ _ _ (jV 6 eP.nd (jP xa3 hr rfl (jB (jH (kR K) (jZ K (pv 0) rfl) (pv 4)) (jB (pv 5) jD))))
   (@jG _ _ _ _ _ (j9 (j6 ZW (jH (jN K) (pv 6) jC) (jH (kR K) (pv 3) (u9 uK jC))) (@kH _ _ _ (QA J9 rfl rfl T.jb T.jc (jB jO jD))) kC)
   (@kH _ _ _ (qY (yB aC aM aN yS (pv 3) (jB (jH (jN K) (pv 6) jC) jD)))))))
   (jM (pv 3)))),?_⟩
 try dsimp only [jU,jT]
 refine (jA rfl (⟨zz1,fun al hal0=>?_⟩));have s1:=jK hal0 (.lst [V.int s₁]);refine ⟨_,rfl,st,rfl,⟨_,SqT.of (s1 _ _ hst)⟩,TV (K:=K) (a:=st) (xs:=us) (fun i σ Hi=>∃c4 c5 c6:Option V,σ=[some (.ref x),some (.int s₁),some (.ref st),some (.ref al),c4,c5,c6]∧Hi al=some (.lst ((vE L s₁ (ps.take i)).map V.int))∧(∀(j:Nat) (p:Nat×Bool),j<i→ps[j]?=some p→(vE L s₁ ps)[j]?=some (yA L p).1)∧Same H Hi)
  (vK none none none (vN rfl jE (fun j p hj=>absurd hj (iu j)) s1)) (fun i σ Hi _ ⟨_,_,_,_,_,_,s⟩=>SqT.of (s _ _ hst)) ?_ ?_⟩
 ·rintro i v σ Hi hv ⟨c4,c5,c6,rfl,hal,hok,sm⟩;obtain ⟨⟨pk,pb⟩,hp,t,rfl,ht⟩:=hP.2 i v hv;have hpl:pk<L.length:=hlt _ (au hp);have hi:i<ps.length:=(ad.mp hp).1;obtain ⟨l,hl'⟩:∃l,L[pk]?=some l:=⟨_,aa hpl⟩;obtain ⟨w,hw,y,rfl,dl,hl⟩:=hL.get hl';have hdl:(vE L s₁ (ps.take i)).length=i+1:=by rw [fE,bj];omega
  obtain ⟨z,hz⟩:∃z,(vE L s₁ (ps.take i))[i]?=some z:=⟨_,aa (by omega)⟩;have hlast:qU ((vE L s₁ (ps.take i)).map V.int) (-1)=some (.int z):=atI_last (n:=i) (by rw [ae,hdl]) (by rw [ao,hz];rfl);refine ⟨t,jA rfl (⟨SqT.of (sm _ _ ht),rfl,_,jA rfl (⟨_,_,rfl,rfl,?_⟩)⟩)⟩;refine (jA rfl (j0 ((sm _ _ hx)) (T.clN) (T.xh) (hf.2.1) ((jA rfl (kZ (so (sm _ _ hll)) (kY hw) ((jA rfl ((vK y l pb (kJ rfl ⟨y,rfl,dl,sm _ _ hl⟩ (fun te He se hte0 hte=>?_)))))))))));have smE:=sm.trans se;have halE:=se _ _ hal;have ee:yA L (pk,pb)=(if pb then l.low else l.high,if pb then l.high else l.low):=by cases pb;exact ZL hl';exact ZP hl'
  have hdue:(vE L s₁ ps)[i]?=some z:=by rw [TZ (by omega)];exact hz
  refine (jA rfl (jI (SqT.of hte) rfl ((jA rfl (jA rfl (kZ (so halE) hlast (⟨rfl,jA rfl (?_)⟩)))))))
  by_cases h:(if pb then l.low else l.high)=z
  ·refine ZY (bu V.int h) ?_;refine (jA rfl (⟨.inl ⟨rfl,_,so halE⟩,jA rfl (jI (SqT.of hte) rfl (⟨al,_,_,rfl,rfl,halE,qX (by rw [ae,hdl];omega),?_⟩))⟩));refine ⟨_,_,jA rfl (⟨?_,fun j p hj hpj=>?_,qA hal0 smE⟩)⟩
   ·rw [jE,aL,hp];show _=some (HO.lst ((vE L s₁ (ps.take i++[(pk,pb)])).map V.int));rw [tG,aH,ee];rfl
   ·by_cases c:j=i
    ·subst c;rw [hp] at hpj;cases hpj;rw [hdue,ee,h]
    ·exact hok j p (by omega) hpj
  ·refine ZX (fun e=>h (V.int.inj e)) ⟨by show 1≤sizeLine;decide,qe (fun ok=>h ?_) _ smE⟩;have:=ok i _ hp;rw [hdue,ee] at this;exact (aA this).symm
 rintro σ Hi ⟨c4,c5,c6,rfl,hal,hok,sm⟩;rw [hP.1,aZ] at hal;exact (jA rfl (qv (fun j p hp=>hok j p (by rw [hP.1];exact (ad.mp hp).1) hp) al Hi sm hal0 hal))
theorem M1:jS 2 ["way","place"] rC:=jR
include T in
theorem K7 (F:kB K "steps_to_do" rC f fd) : FnOk P w K mg base jQ 1 f fd ["way","place"] (EI):=by
 refine F.ok2 M1 fun vs H Q E h=>?_
 refine fX h fun t y p h=>?_
 refine qT h fun e_ p0_ q=>?_
 subst e_;obtain ⟨t₂,st,us,e,h1,h2,h3⟩:=p0_;refine ⟨rfl,fun _ _ _ _ hr=>?_⟩;refine ⟨_,(jM (@jJ _ _ _ _ _ _ _ _ yL (qS K T.xl (jH (jN K) (pv 0) jC)) (pv 1))),?_⟩
 try dsimp only [jU,jT]
 cases e;refine (jA rfl (jI (SqT.of h1) rfl (⟨st,jA rfl (⟨.inr (SqT.of h2),jA rfl (jY (?_))⟩)⟩)));rw [h3.1];exact q
theorem MW:jS 3 ["canal","way","place"] pT:=jR
include T in
theorem KW (F:kB K "reach_of" pT f fd) (xax:Def P w K mg base 1 "steps_to_do" ["way","place"] [] (EI)) (xbr:Def P w K mg base 2 "linked" ["canal","start","steps"] [] (sZ K (jF cP cB cU) cR cN)):FnOk P w K mg base jQ 3 f fd ["canal","way","place"] (sX (jF cP cB cU) cR cN):=by
 refine F.ok2 MW fun vs H Q E h=>?_
 refine ZA h fun x t y p D R L N h=>?_
 refine y0 h fun e_ hc hwy ok hp q=>?_
 subst e_;refine ⟨rfl,fun _ _ _ _ hr=>?_⟩;refine ⟨_,(@jG _ _ _ _ _ (j9 (j6 kO (jP xax hr rfl (jB (pv 1) (jB (pv 2) jD))) jC) (jM (yK (v:=.int (-1)) rfl T.xaO ⟨_,rfl⟩)) kC)
   (jM (jH (kR K) (jP xbr hr rfl (j7 (pv 0) (jH (jN K) (pv 1) jC) (jH (jN K) (pv 1) jC))) (pv 2)))),?_⟩
 try dsimp only [jU,jT]
 obtain ⟨t₂,st,us,e,h1,h2,h3⟩:=id hwy;cases e;refine (jA rfl (jA rfl (⟨t,y,jA rfl (⟨hwy,rfl,jA rfl (?_)⟩)⟩)))
 by_cases h:p=y.2.length
 ·refine kK (bu V.int (by omega)) ?_;have:=q H (Same.refl _);rw [show vR L y p = -1 from if_pos h] at this;exact this
 ·refine j5 (fun z=>h (by have:=V.int.inj z;omega)) ?_;have hle:=ok.le;refine (jA rfl (jA rfl (jI (SqT.of h1) rfl ((jA rfl (jI (SqT.of h1) rfl ((vB x st y.1 us y.2 D R L N (zU rfl hc h2 h3 ok.lt (by omega) ok.ok (fun r H' s' hr0 hr=>?_))))))))));have hl:p<(vE L y.1 y.2).length:=by rw [fE];omega
  refine (jA rfl (kZ (so hr) (yJ hl) (?_)));have:=q H' s';rw [show vR L y p=(vE L y.1 y.2).getD p 0 from if_neg h] at this;exact this
theorem MR:jS 4 ["canal","ways","state","reach"] gX:=jR
include T in
theorem KD (F:kB K "lying" gX f fd) (vg:Def P w K mg base 3 "reach_of" ["canal","way","place"] [] (sX (jF cP cB cU) cR cN)):FnOk P w K mg base jQ 4 f fd ["canal","ways","state","reach"] (DH (jF cP cB cU) cR cN):=by
 refine F.ok2 MR fun vs H Q E h=>?_
 refine wF h fun x wl st r us ys d ms pl D R L N h=>?_
 refine zI h fun e_ hc hwl hA p3_ hfl q=>?_
 subst e_;obtain ⟨wt,pt,hst,hwt,hpt⟩:=p3_;refine ⟨rfl,fun _ _ _ _ hr=>?_⟩;refine ⟨_,(jM (yB aC PySem.F.slot_list_count PySem.F.type_list_count RQ (JR ["way","place","canal"] (vF 2 [0]) rfl (vM (j8 gX)) (cps 2 [0]) (SU (by rfl) T.jn (jB (pv 1) (jB (jH (jN K) (pv 2) jC) jD))) (fun _ _ _ _ _=>(JJ (n:=2) K rfl (qI (kU (i:=0) (show List.Nodup (["way","place","canal"]:List Str) from by decide +kernel) rfl (.inl rfl)) (qI (kU (i:=1) (show List.Nodup (["way","place","canal"]:List Str) from by decide +kernel) rfl (.inl rfl)) zC)))) (fun _ _ _ _ _=>yR) (fun _ _ _ _ _=>(jP vg hr rfl (j7 (pv 2) (pv 0) (pv 1))))) (jB (pv 3) jD))),?_⟩
 try dsimp only [jU,jT]
 refine (jA rfl (jA rfl (jI (SqT.of hst) rfl (⟨wl,pt,rfl,⟨_,so hwl⟩,⟨_,SqT.of hpt⟩,fun D₁ hD₁=>?_⟩))));refine AK (K:=K) (a1:=wl) (a2:=pt) (xs:=us) (ys:=pl.map fun (p:Nat)=>V.int (p:Int)) (fun i σ Hi=>∃c1 c2:Option V,σ=[c1,c2,some (.ref x)]∧Hi D₁=some (.lst (((yX L ys pl).take i).map V.int))∧Same H Hi)
  ⟨none,none,rfl,by rw [jE,take_zero];rfl,jK hD₁ _⟩ (fun i σ Hi _ ⟨_,_,_,_,s⟩=>⟨so (s _ _ hwl),SqT.of (s _ _ hpt)⟩) (by rw [hA.1,ae,hfl.len]) ?_ ?_
 ·rintro i v z σ Hi T₁ hv hz ⟨c1,c2,rfl,hY,sm⟩ hT;obtain ⟨y,hy,hwy⟩:=hA.2 i v hv;have hi:i<ys.length:=(ad.mp hy).1;obtain ⟨t,st₂,us₂,rfl,hw1,hw2,hw3⟩:=id hwy;have hip:i<pl.length:=by rw [hfl.len];exact hi
  rw [ao,aa hip] at hz;cases hz;have u:=jK hT (.tup [V.ref t,V.int ((pl[i]:Nat):Int)]);have smu:=sm.trans u;have hwy2:=WyAt.same smu _ _ hwy;have hp:=hfl.le i y pl[i] hy (aa hip);have hg1:ys.getD i (0,[])=y:=by rw [ac,hy];rfl
  have hg2:pl.getD i 0=pl[i]:=by rw [ac,aa hip];rfl
  have h10:=hfl.n10;have hYu:=u _ _ hY;refine ⟨T₁,jA rfl (⟨SqT.of jE,rfl,_,jA rfl (⟨_,_,rfl,rfl,?_⟩)⟩)⟩;generalize upd Hi T₁ (.tup [V.ref t,V.int ((pl[i]:Nat):Int)])=Hj at u smu hwy2 hYu ⊢;refine v9 (qG ?_);refine (jA rfl (jA rfl (jA rfl (⟨x,t,y,pl[i],yP D R L N (qW rfl (hc.same smu) hwy2 (hfl.ok y (au hy)) hp (fun H' s'=>?_))⟩))));refine ⟨_,s' _ _ hYu,qX (by rw [ae,bj];unfold yX;rw [ae,aY];omega),_,jA rfl (⟨?_,qA hD₁ (smu.trans s')⟩)⟩;rw [jE,aL,show (yX L ys pl)[i]?=some (vR L y pl[i]) by unfold yX;rw [ao,cq hi,← hg1,← hg2];rfl,aH];rfl
 rintro σ Hf ⟨c1,c2,rfl,hY,sm⟩;rw [hA.1,bi (by unfold yX;rw [ae,aY];exact aj _)] at hY;refine ⟨.inl ⟨rfl,_,so hY⟩,jA rfl (⟨D₁,_,_,rfl,rfl,hY,rfl,OE _,?_⟩)⟩;have e:((yX L ys pl).map V.int).countP (fun z=>vL z (.int r))=(yX L ys pl).countP fun z=>decide (z=r):=by rw [countP_map];rfl
 rw [e];exact q Hf sm
theorem MF:jS 2 ["canal","ways"] o7:=jR
include T in
theorem IM (F:kB K "begun" o7 f fd) (jw:MeD P w K mg base 5 cN "start" ["self"] (CG (jF cP cB cU) cR cN)):FnOk P w K mg base jQ 6 f fd ["canal","ways"] (DL (jF cP cB cU) cR cN):=by
 refine F.ok2 MF fun vs H Q E h=>?_
 refine yC h fun x wl us D R L N h=>?_
 refine QL h fun e_ hc hwl h100 b1 b2 hT q=>?_
 subst e_;refine ⟨rfl,fun _ _ _ _ hr=>?_⟩;refine ⟨_,(jM (kD (j7 jC (kS jw hr (pv 0)) (@jJ _ _ _ _ _ _ _ _ S5 (kD (jB jC jD)) (qS K T.xl (pv 1)))))),?_⟩
 try dsimp only [jU,jT]
 have hc0:=hc;obtain ⟨dx,rl,ll,nl,fs,rs,ls,nv,hx,hf,hrl,hll,hnl,hR,hL,hN,d1,d2,d3⟩:=hc;refine (jA rfl (⟨x,dx,jA rfl (⟨hx,hf.no (by decide +kernel) (by decide +kernel) (by decide +kernel),yD x D R L N (qW rfl hc0 b1 b2 hT (fun wt H1 gs s1 hwt0 hwt hSp=>?_))⟩)⟩));refine ⟨zz1,fun p hp=>?_⟩;have s2:=jK hp (.tup [V.int 0]);refine (jA rfl (⟨wl,jA rfl (⟨.inl (so (s2 _ _ (s1 _ _ hwl))),?_⟩)⟩));have s12:=s1.trans s2;have fin:∀(zt:Addr) (H3:Hp),Same (upd H1 p (.tup [V.int 0])) H3→H3 zt=some (.tup (List.replicate us.length (.int 0)))→(3≤sizeLine∧∀t,H3 t=none→Q (.ref t) (upd H3 t (.tup [.int 0,.ref wt,.ref zt]))):=fun zt H3 s3 hzt=>⟨by decide,fun t ht=>by
  have s4:=jK ht (.tup [V.int 0,V.ref wt,V.ref zt]);exact q t wt zt _ gs ((s12.trans s3).trans s4) jE (s4 _ _ (s3 _ _ (s2 _ _ hwt))) hSp (s4 _ _ hzt)⟩
 refine ⟨p,.int 0,us.length,rfl,rfl,jE,by omega,fun h1=>?_,fun h1 zt hzt=>?_⟩
 ·exact fin p _ (Same.refl _) (by rw [h1];exact jE)
 ·exact fin zt _ (jK hzt _) jE
theorem eQ:jS 3 ["canal","state","weather","waters","sky","sun","rain"] cQ:=jR
include T in
theorem KH (F:kB K "night_pours" cQ f fd) (zd:MeD P w K mg base 2 cN "sky" ["self"] (Q6 (jF cP cB cU) cR cN Z1)) (ze:Def P w K mg base 4 "with_spills" ["weirs","waters","pours"] [] (lE K)) (xo:MeD P w K mg base 2 cN "weirs" ["self"] (fB (jF cP cB cU) cR cN)):FnOk P w K mg base jQ 5 f fd ["canal","state","weather"] (CN K (jF cP cB cU) cR cN):=by
 refine F.ok2 eQ fun vs H Q E h=>?_
 refine FD h fun x t wl d ms ps us W D R L N h=>?_
 refine V2 h fun e_ hc p1_ hwl hA hWR hms hR100 hL100 hTg q=>?_
 subst e_;obtain ⟨wt,pt,h1,h2,h3⟩:=p1_;refine ⟨rfl,fun _ _ _ _ hr=>?_⟩;refine ⟨_,(@jG _ _ _ _ _ (jV 3 eQ.nd (jH (jN K) (pv 1) jC))
   (@jG _ _ _ _ _ (jV 4 eQ.nd (kS zd hr (pv 0)))
   (@jG _ _ _ _ _ (bE (i:=5) ["at","pair","sky","waters"] (vF 2 [4,3]) eQ.nd rfl (.inl rfl) rfl (vM (j8 cQ)) (cps 2 [4,3]) (tQ (by rfl) T.xp (jB (pv 2) jD)) (fun _ _ _ _ _=>(JJ (n:=2) K rfl (qI (kU (i:=0) (show List.Nodup (["at","pair","sky","waters"]:List Str) from by decide +kernel) rfl (.inl rfl)) (qI (kU (i:=1) (show List.Nodup (["at","pair","sky","waters"]:List Str) from by decide +kernel) rfl (.inl rfl)) zC)))) (fun _ _ _ _ _=>yR) (fun _ _ _ _ _=>(kD (j7 (pv 0) (pv 2) (y7 (B2 rfl) (by rfl) T.jo PyProof.Rows.boot_min (jB (jH (jN K) (pv 1) jC) (jB (jH (jN K) (pv 3) (pv 0)) jD)))))))
   (@jG _ _ _ _ _ (bE (i:=6) ["at","pair","sky"] (vF 2 [4]) eQ.nd rfl (.inl rfl) rfl (vM (j8 cQ)) (cps 2 [4]) (tQ (by rfl) T.xp (jB (pv 2) jD)) (fun _ _ _ _ _=>(JJ (n:=2) K rfl (qI (kU (i:=0) (show List.Nodup (["at","pair","sky"]:List Str) from by decide +kernel) rfl (.inl rfl)) (qI (kU (i:=1) (show List.Nodup (["at","pair","sky"]:List Str) from by decide +kernel) rfl (.inl rfl)) zC)))) (fun _ _ _ _ _=>yR) (fun _ _ _ _ _=>(kD (j7 (pv 2) (pv 0) (jH (jN K) (pv 1) jC)))))
   (jM (jP ze hr rfl (j7 (kS xo hr (pv 0)) (pv 3) (wZ ["pour"] [] (vM (j8 cQ)) (yH (@jJ _ _ _ _ _ _ _ _ ZS (pv 5) (pv 6))) (fun _ _ _ _ _=>(fI (j6 ZW (jH (jN K) (pv 0) jC) jC))) (fun _ _ _ _ _=>(pv 0)))))))))),?_⟩
 try dsimp only [jU,jT]
 have hc0:=hc;obtain ⟨dx,rl,ll,nl,fs,rs,ls,nv,hx,hf,hrl,hll,hnl,hR,hL,hN,d1,d2,d3⟩:=hc;obtain ⟨sk,hsk⟩:∃sk,sk=R.length+2*L.length+1:=⟨_,rfl⟩;have esk:Z1 R.length L.length=(sk:Int):=by unfold Z1;omega
 refine (jA rfl (jI (SqT.of h1) rfl (?_)));refine (jA rfl (⟨x,dx,jA rfl (⟨hx,hf.no (by decide +kernel) (by decide +kernel) (by decide +kernel),yD x D R L N (kJ rfl hc0 (?_))⟩)⟩));rw [esk];refine (jA rfl (⟨wl,rfl,⟨_,SqT.of hwl⟩,fun D₁ hD₁=>?_⟩));refine sD (K:=K) (a:=wl) (xs:=us) (fun i σ Hi=>∃c1 c2:Option V,σ=[c1,c2,some (.int (sk:Int)),some (.ref wt)]∧∃ys:List V,Hi D₁=some (.lst ys)∧PoursH Hi ys ((cA sk ms W R.length).take i) ms.length∧Same H Hi) ⟨none,none,rfl,[],jE,PoursH.nil _ _,jK hD₁ _⟩ (fun i σ Hi _ ⟨_,_,_,_,_,_,s⟩=>SqT.of (s _ _ hwl)) ?_ ?_
 ·rintro i v σ Hi T₁ hv ⟨c1,c2,rfl,ys,hY,hP,sm⟩ hT;have hi:i<us.length:=(ad.mp hv).1;rw [hA.1] at hi;obtain ⟨y,hy,t1,rfl,ht1⟩:=hA.2 i v hv;have u:=jK hT (.tup [V.int (i:Int),V.ref t1]);have smu:=sm.trans u;have hYu:=u _ _ hY;refine ⟨T₁,jA rfl (⟨SqT.of jE,rfl,_,jA rfl (⟨_,_,rfl,rfl,?_⟩)⟩)⟩;generalize upd Hi T₁ (.tup [V.int (i:Int),V.ref t1])=Hj at u smu hYu ⊢;refine v9 (qG ?_);refine (jA rfl (jA rfl (jA rfl (jI (SqT.of (smu _ _ ht1)) rfl ((jA rfl (jA rfl (jI (SqT.of (smu _ _ h2)) (yJ (by omega)) (⟨_,jA rfl (?_)⟩)))))))))
  try dsimp only
  first|rw [← DB hy]|rw [← RA hy]
  refine ⟨zz3,fun tp htp=>?_⟩;have u2:=jK htp (.tup [V.int (i:Int),V.int (sk:Int),V.int (dZ ms W i)]);have hY2:=u2 _ _ hYu;have hlen:=hP.1;rw [bj,i5] at hlen;refine ⟨ys,hY2,qX (by omega),_,jA rfl (⟨ys++[.ref tp],jE,?_,qA hD₁ (smu.trans u2)⟩)⟩;rw [OV (by omega)];exact (((hP.same u).same u2).snoc jE (by omega) (by omega)).put hY2
 rintro σ H1 ⟨c1,c2,rfl,ys1,hY1,hP1,s1⟩;rw [hA.1,hWR,bi (by rw [i5];exact aj _)] at hP1;refine (jA rfl (⟨wl,rfl,⟨_,SqT.of (s1 _ _ hwl)⟩,fun D₂ hD₂=>?_⟩));refine sD (K:=K) (a:=wl) (xs:=us) (fun i σ Hi=>∃c1 c2:Option V,σ=[c1,c2,some (.int (sk:Int))]∧∃ys:List V,Hi D₂=some (.lst ys)∧PoursH Hi ys ((bV sk W R.length).take i) ms.length∧Same H1 Hi) ⟨none,none,rfl,[],jE,PoursH.nil _ _,jK hD₂ _⟩ (fun i σ Hi _ ⟨_,_,_,_,_,_,s⟩=>SqT.of (s _ _ (s1 _ _ hwl))) ?_ ?_
 ·rintro i v σ Hi T₁ hv ⟨c1,c2,rfl,ys,hY,hP,sm⟩ hT;have hi:i<us.length:=(ad.mp hv).1;rw [hA.1] at hi;obtain ⟨y,hy,t1,rfl,ht1⟩:=hA.2 i v hv;have ht1:=s1 _ _ ht1;have u:=jK hT (.tup [V.int (i:Int),V.ref t1]);have smu:=sm.trans u;have hYu:=u _ _ hY;refine ⟨T₁,jA rfl (⟨SqT.of jE,rfl,_,jA rfl (⟨_,_,rfl,rfl,?_⟩)⟩)⟩;generalize upd Hi T₁ (.tup [V.int (i:Int),V.ref t1])=Hj at u smu hYu ⊢;refine v9 (qG ?_);refine (jA rfl (jA rfl (jA rfl (jI (SqT.of (smu _ _ ht1)) rfl (?_)))));rw [show y.1=(W.getD i (0,0)).1 by rw [FW hy]];refine ⟨zz3,fun tp htp=>?_⟩;have u2:=jK htp (.tup [V.int (sk:Int),V.int (i:Int),V.int (W.getD i (0,0)).1]);have hY2:=u2 _ _ hYu;have hlen:=hP.1;rw [bj,iZ] at hlen;refine ⟨ys,hY2,qX (by omega),_,jA rfl (⟨ys++[.ref tp],jE,?_,qA hD₂ (smu.trans u2)⟩)⟩;rw [N2 (by omega)];exact (((hP.same u).same u2).snoc jE (by omega) (by omega)).put hY2
 rintro σ H2 ⟨c1',c2',rfl,ys2,hY2,hP2,s2⟩;rw [hA.1,hWR,bi (by rw [iZ];exact aj _)] at hP2;have s12:=s1.trans s2;have hl1:=hP1.1;have hl2:=hP2.1;rw [i5] at hl1;rw [iZ] at hl2;refine (jA rfl (⟨x,dx,jA rfl (⟨(s12 _ _ hx),hf.no (by decide +kernel) (by decide +kernel) (by decide +kernel),yD x D R L N (vN rfl (hc0.same s12) hR100 (fun wq ws H3 s3 hwq0 hwq hW=>?_))⟩)⟩));have s13:=s12.trans s3;refine (jA rfl (jA rfl (jA rfl (⟨D₁,D₂,_,_,rfl,rfl,s3 _ _ (s2 _ _ hY1),s3 _ _ hY2,small (by omega),fun al hal=>?_⟩))));have s4:=jK hal (.lst (ys1++ys2));have hal4:upd H3 al (.lst (ys1++ys2)) al=_:=jE;have hP4:PoursH (upd H3 al (.lst (ys1++ys2))) (ys1++ys2) (QF sk ms W R.length) ms.length:=(((hP1.same s2).same s3).same s4).append ((hP2.same s3).same s4);have s14:=s13.trans s4;have hwq4:=s4 _ _ hwq;have hW4:=hW.mono (QAt.same s4);generalize upd H3 al (.lst (ys1++ys2))=H4 at s4 hal4 hP4 s14 hwq4 hW4 ⊢;refine ⟨al,rfl,⟨_,so hal4⟩,fun Df hDf=>?_⟩;refine bA (K:=K) (a:=al) (xs:=ys1++ys2) (caps:=[]) (fun i ys Hi=>PoursH Hi ys (((QF sk ms W R.length).take i).filter q9) ms.length) hDf (so hal4) (PoursH.nil _ _) ?_ ?_
 ·rintro i v ys Hi hv hi hle sm hY hP;rw [af] at hi;obtain ⟨a,s,tt,m,rfl,hq,hT,hs,ht⟩:=hP4.2 i v hv;have ef:((QF sk ms W R.length).take (i+1)).filter q9=((QF sk ms W R.length).take i).filter q9++[(s,tt,m)].filter q9:=by
   rw [aL,hq,hX];rfl
  refine (jA rfl (jI (SqT.of (sm _ _ hT)) rfl (⟨rfl,jA rfl (?_)⟩)))
  by_cases hz:m=0
  ·refine ZY (bu V.int hz) (tH sm hY hle (Same.refl _) ?_);rw [ef,fq,if_neg (by unfold q9;rw [aT (show m=0 from hz)];decide)];show PoursH Hi ys (_++[]) _;rw [bo];exact hP
  refine ZX (fun e=>hz (V.int.inj e)) (jA rfl (JH hDf sm hY hle (by omega) (Same.refl _) ?_));rw [ef,fq,if_pos (by unfold q9;rw [aJ (show ¬m=0 from hz)];rfl)];exact (hP.snoc (sm _ _ hT) hs ht).put hY
 rintro ys H5 s5 hY5 hle5 hP5;rw [hP4.1,bi (aj _)] at hP5;have s15:=s14.trans s5;refine ⟨wq,wt,Df,ws,ys,vC R L.length,ms,jA rfl (⟨iM hTg (hW4.mono (QAt.same s5)) (s5 _ _ hwq4) (.inr (SqT.of (s15 _ _ h2))) hms hR100 hL100,hY5,hP5,?_,fun r H' gs zs s' hr0 hr hP' hS=>?_⟩)⟩
 ·rw [af] at hle5;omega
 subst hsk;exact q r H' gs zs (s15.trans s') (s15.free hr0) hr hP' hS
theorem M3:jS 2 ["weather","other"] iC:=jR
include T in
theorem LB (F:kB K "wet_enough" iC f fd) : FnOk P w K mg base jQ 1 f fd ["weather","other"] (EH):=by
 refine F.ok2 M3 fun vs H Q E h=>?_
 refine ZB h fun a b us ws p p' h=>?_
 refine QL h fun e_ ha hb hA hB hpp h100 q=>?_
 subst e_;refine ⟨rfl,fun _ _ _ _ hr=>?_⟩;refine ⟨_,(jM (y7 (B3 rfl) (by rfl) T.jp PyProof.Rows.boot_all (jB (JR ["pair","wanted"] (vF 2 []) rfl (vM (j8 iC)) (cps 2 []) (ST (by rfl) T.jn (jB (pv 0) (jB (pv 1) jD))) (fun _ _ _ _ _=>(JJ (n:=2) K rfl (qI (kU (i:=0) (show List.Nodup (["pair","wanted"]:List Str) from by decide +kernel) rfl (.inl rfl)) (qI (kU (i:=1) (show List.Nodup (["pair","wanted"]:List Str) from by decide +kernel) rfl (.inl rfl)) zC)))) (fun _ _ _ _ _=>yR) (fun _ _ _ _ _=>(uU (JY mB (jH (jN K) (pv 0) jC) (jH (jN K) (pv 1) jC)) (uT (JY l9 (jH (jN K) (pv 0) jC) (jH (jN K) (pv 1) jC)))))) jD))),?_⟩
 try dsimp only [jU,jT]
 refine (jA rfl (jA rfl (⟨a,b,rfl,⟨_,SqT.of ha⟩,⟨_,so hb⟩,fun D₁ hD₁=>?_⟩)));refine AK (K:=K) (a1:=a) (a2:=b) (xs:=us) (ys:=ws) (fun i σ Hi=>∃c1 c2:Option V,σ=[c1,c2]∧Hi D₁=some (.lst (((List.range i).map (bZ p p')).map V.bl))∧Same H Hi) ⟨none,none,rfl,jE,jK hD₁ _⟩ (fun i σ Hi _ ⟨_,_,_,_,s⟩=>⟨SqT.of (s _ _ ha),so (s _ _ hb)⟩) (by rw [hA.1,hB.1,hpp]) ?_ ?_
 ·rintro i v z σ Hi T₁ hv hz ⟨c1,c2,rfl,hY,sm⟩ hT;have hi:i<us.length:=(ad.mp hv).1;rw [hA.1] at hi;obtain ⟨y1,hy1,t1,rfl,ht1⟩:=hA.2 i v hv;obtain ⟨y2,hy2,t2,rfl,ht2⟩:=hB.2 i z hz;have hw:=C9 hy1 hy2;have u:=jK hT (.tup [V.ref t1,V.ref t2]);have smu:=sm.trans u;have hYu:=u _ _ hY;refine ⟨T₁,jA rfl (⟨SqT.of jE,rfl,_,jA rfl (⟨_,_,rfl,rfl,?_⟩)⟩)⟩;generalize upd Hi T₁ (.tup [V.ref t1,V.ref t2])=Hj at u smu hYu ⊢;refine v9 (qG ?_);refine (jA rfl (jI (SqT.of (smu _ _ ht1)) rfl ((jA rfl (jI (SqT.of (smu _ _ ht2)) rfl (jY ((jA rfl (?_)))))))))
  by_cases h:y2.1≤y1.1
  ·refine kK h (jA rfl (jI (SqT.of (smu _ _ ht1)) rfl ((jA rfl (jI (SqT.of (smu _ _ ht2)) rfl (jY (?_)))))));exact ⟨_,hYu,qX (by rw [ae,ae,aY];omega),_,_,rfl,(by
    rw [jE,hU,aH,aH];show some (HO.lst (_++[V.bl _]))=some (HO.lst (_++[V.bl (bZ p p' i)]));rw [hw]
    first|rw [aT h]|rw [aJ h]
    rfl),qA hD₁ smu⟩
  ·refine j5 h ?_;exact ⟨_,hYu,qX (by rw [ae,ae,aY];omega),_,_,rfl,(by
    rw [jE,hU,aH,aH];show some (HO.lst (_++[V.bl _]))=some (HO.lst (_++[V.bl (bZ p p' i)]));rw [hw]
    first|rw [aT h]|rw [aJ h]
    rfl),qA hD₁ smu⟩
 rintro σ Hf ⟨c1,c2,rfl,hY,sm⟩;rw [hA.1] at hY;refine ⟨D₁,jA rfl (⟨so hY,?_⟩)⟩;rw [all_map];exact q Hf sm
theorem ML:jS 4 ["canal","ways","state","reach"] pD:=jR
include T in
theorem IV (F:kB K "has_no_berth" pD f fd) (xbD:Def P w K mg base 4 "lying" ["canal","ways","state","reach"] [] (DH (jF cP cB cU) cR cN)):FnOk P w K mg base jQ 5 f fd ["canal","ways","state","reach"] (sY (jF cP cB cU) cR cN):=by
 refine F.ok2 ML fun vs H Q E h=>?_
 refine wE h fun x wl st b r us ys d ms pl D R L N h=>?_
 refine Z5 h fun e_ hG hrc q=>?_
 subst e_;refine ⟨rfl,fun _ _ _ _ hr=>?_⟩;refine ⟨_,(jM (JY mB (jP xbD hr rfl (vG (pv 0) (pv 1) (pv 2) (pv 3))) (jZ K (jH (kR K) (jZ K (pv 0) rfl) (pv 3)) rfl))),?_⟩
 try dsimp only [jU,jT]
 obtain ⟨hc,hdr,hwl,hA,hst,hfl,hml⟩:=id hG;have hc0:=hc;obtain ⟨dx,rl,ll,nl,fs,rs,ls,nv,hx,hf,hrl,hll,hnl,hR,hL,hN,d1,d2,d3⟩:=hc;obtain ⟨z,hz,yr,rfl,dy,gs,hyr,hg⟩:=hR.get hrc;refine (jA rfl (jA rfl (jA rfl (jA rfl ((wM x wl st _ us ys d ms pl D R L N (vU rfl hc0 hwl hA hst hfl (fun H3 s3=>?_))))))));exact (jA rfl (j0 ((s3 _ _ hx)) (T.clN) (T.xf) (hf.1) ((jA rfl (kZ (so (s3 _ _ hrl)) (kY hz) (j0 ((s3 _ _ hyr)) (T.clR) (T.zi) (hg.2.2.2.1) (jY (q H3 s3))))))))
theorem MS:jS 2 ["way","place"] pJ:=jR
include T in
theorem KG (F:kB K "next_step" pJ f fd) : FnOk P w K mg base jQ 1 f fd ["way","place"] (uO):=by
 refine F.ok2 MS fun vs H Q E h=>?_
 refine cE h fun t y p s₁ h=>?_
 refine Z5 h fun e_ p0_ hs q=>?_
 subst e_;obtain ⟨t₂,st₂,vs₂,e,hw1,hw2,hw3⟩:=p0_;refine ⟨rfl,fun _ _ _ _ hr=>?_⟩;refine ⟨_,(jM (jH (jN K) (jH (jN K) (pv 0) jC) (pv 1))),?_⟩
 try dsimp only [jU,jT]
 cases e;obtain ⟨v3,hv3,hP3⟩:=hw3.get hs;exact (jA rfl (jI (SqT.of hw1) rfl ((jA rfl (jI (SqT.of hw2) (kY hv3) (q _ hP3))))))
theorem MU:jS 2 ["places","boat"] gY:=jR
include T in
theorem KK (F:kB K "one_step_on" gY f fd) : FnOk P w K mg base jQ 1 f fd ["places","boat"] (CF):=by
 refine F.ok2 MU fun vs H Q E h=>?_
 refine fX h fun pt pl b h=>?_
 refine Z5 h fun e_ hpt h100 q=>?_
 subst e_;refine ⟨rfl,fun _ _ _ _ hr=>?_⟩;refine ⟨_,(jM (vO (bC K) (by rfl) T.zg cf (jB (JR ["at","place","boat"] (vF 2 [1]) rfl (vM (j8 gY)) (cps 2 [1]) (tQ (by rfl) T.xp (jB (pv 0) jD)) (fun _ _ _ _ _=>(JJ (n:=2) K rfl (qI (kU (i:=0) (show List.Nodup (["at","place","boat"]:List Str) from by decide +kernel) rfl (.inl rfl)) (qI (kU (i:=1) (show List.Nodup (["at","place","boat"]:List Str) from by decide +kernel) rfl (.inl rfl)) zC)))) (fun _ _ _ _ _=>yR) (fun _ _ _ _ _=>(zL (j6 kO (pv 0) (pv 2)) (@jJ _ _ _ _ _ _ _ _ kI (pv 1) jC) (pv 1)))) jD))),?_⟩
 try dsimp only [jU,jT]
 refine (jA rfl (⟨pt,rfl,⟨_,SqT.of hpt⟩,fun D₁ hD₁=>?_⟩));refine sD (K:=K) (a:=pt) (xs:=pl.map fun (p:Nat)=>V.int (p:Int)) (fun i σ Hi=>∃c1 c2:Option V,σ=[c1,c2,some (.int (b:Int))]∧Hi D₁=some (.lst (((JS pl b).take i).map fun (p:Nat)=>V.int (p:Int)))∧Same H Hi) ⟨none,none,rfl,jE,jK hD₁ _⟩ (fun i σ Hi _ ⟨_,_,_,_,s⟩=>SqT.of (s _ _ hpt)) ?_ ?_
 ·rintro i v σ Hi T₁ hv ⟨c1,c2,rfl,hY,sm⟩ hT;have hi:i<pl.length:=by have:=(ad.mp hv).1;rw [ae] at this;exact this
  rw [ao,aa hi] at hv;cases hv;have u:=jK hT (.tup [V.int (i:Int),V.int ((pl[i]:Nat):Int)]);have smu:=sm.trans u;have hYu:=u _ _ hY;refine ⟨T₁,jA rfl (⟨SqT.of jE,rfl,_,jA rfl (⟨_,_,rfl,rfl,?_⟩)⟩)⟩;generalize upd Hi T₁ (.tup [V.int (i:Int),V.int ((pl[i]:Nat):Int)])=Hj at u smu hYu ⊢;have eg:pl.getD i 0=pl[i]:=by rw [ac,aa hi];rfl
  refine v9 (qG ?_);refine (jA rfl (⟨_,rfl,rfl,jA rfl (?_)⟩))
  by_cases h:i=b
  ·refine kK (by rw [h]) (jA rfl (jY (⟨_,hYu,qX (by rw [ae,bj,iR];omega),_,jA rfl (⟨?_,qA hD₁ smu⟩)⟩)));rw [jE,AE hi,if_pos h,eg,aH];rfl
  ·refine j5 (fun e=>h (by have:=V.int.inj e;omega)) (jA rfl (⟨_,hYu,qX (by rw [ae,bj,iR];omega),_,jA rfl (⟨?_,qA hD₁ smu⟩)⟩));rw [jE,AE hi,if_neg h,eg,aH];rfl
 rintro σ Hf ⟨c1,c2,rfl,hY,sm⟩;rw [ae,bi (by rw [iR];exact aj _)] at hY;refine ⟨D₁,jA rfl (.inl ⟨so hY,fun r hr0=>?_⟩)⟩;exact q r _ (sm.trans (jK hr0 _)) (sm.free hr0) jE
theorem MH:jS 3 ["state","deed","waters"] o9:=jR
include T in
theorem IP (F:kB K "counted_on" o9 f fd) (xay:Def P w K mg base 1 "one_step_on" ["places","boat"] [] (CF)):FnOk P w K mg base jQ 2 f fd ["state","deed","waters"] (BO):=by
 refine F.ok2 MH fun vs H Q E h=>?_
 refine ZA h fun st dd wo de d ms mo pl h=>?_
 refine y0 h fun e_ hst hdd hwo h100 q=>?_
 subst e_;refine ⟨rfl,fun _ _ _ _ hr=>?_⟩;refine ⟨_,(@jG _ _ _ _ _ (j9 (j6 kO (jH (jN K) (pv 1) jC) jO) (jM (kD (j7 (@jJ _ _ _ _ _ _ _ _ kI (jH (jN K) (pv 0) jC) jC) (pv 2) (jH (jN K) (pv 0) jC)))) kC)
   (@jG _ _ _ _ _ (j9 (j6 kO (jH (jN K) (pv 1) jC) jO) (jM (kD (j7 (jH (jN K) (pv 0) jC) (pv 2) (jP xay hr rfl (jB (jH (jN K) (pv 0) jC) (jB (jH (jN K) (pv 1) jC) jD)))))) kC)
   (jM (kD (j7 (jH (jN K) (pv 0) jC) (pv 2) (jH (jN K) (pv 0) jC)))))),?_⟩
 try dsimp only [jU,jT]
 obtain ⟨wt,pt,hst1,hwt,hpt⟩:=id hst;cases de with
 |night =>
  refine (jA rfl (jI (SqT.of hdd) rfl (⟨rfl,jA rfl (kK rfl ?_)⟩)));refine (jA rfl (jI (SqT.of hst1) rfl (jY ((jA rfl (jA rfl (jI (SqT.of hst1) rfl (⟨zz3,fun t3 ht3=>?_⟩))))))));have s3:=jK ht3 (.tup [V.int (d+1),V.ref wo,V.ref pt]);exact q t3 _ s3 ht3 ⟨wo,pt,jE,s3 _ _ hwo,s3 _ _ hpt⟩
 |pass b =>
  refine (jA rfl (jI (SqT.of hdd) rfl (⟨rfl,jA rfl (j5 (fun e=>absurd (V.str.inj e) (by decide +kernel)) ?_)⟩)));refine (jA rfl (jI (SqT.of hdd) rfl (⟨rfl,jA rfl (kK rfl ?_)⟩)));refine (jA rfl (jI (SqT.of hst1) rfl ((jA rfl (jA rfl (jI (SqT.of hst1) rfl ((jA rfl (jI (SqT.of hdd) rfl ((vK pt pl b (vN rfl hpt h100 (fun po H3 s3 hpo0 hpo=>?_)))))))))))));refine ⟨zz3,fun t3 ht3=>?_⟩;have s4:=jK ht3 (.tup [V.int d,V.ref wo,V.ref po]);exact q t3 _ (s3.trans s4) (s3.free ht3) ⟨wo,po,jE,s4 _ _ (s3 _ _ hwo),s4 _ _ hpo⟩
 |«let» k =>
  refine (jA rfl (jI (SqT.of hdd) rfl (⟨rfl,jA rfl (j5 (fun e=>absurd (V.str.inj e) (by decide +kernel)) ?_)⟩)));refine (jA rfl (jI (SqT.of hdd) rfl (⟨rfl,jA rfl (j5 (fun e=>absurd (V.str.inj e) (by decide +kernel)) ?_)⟩)));refine (jA rfl (jI (SqT.of hst1) rfl ((jA rfl (jA rfl (jI (SqT.of hst1) rfl (⟨zz3,fun t3 ht3=>?_⟩)))))));have s3:=jK ht3 (.tup [V.int d,V.ref wo,V.ref pt]);exact q t3 _ s3 ht3 ⟨wo,pt,jE,s3 _ _ hwo,s3 _ _ hpt⟩
theorem rN:jS 3 ["canal","k","named","lock","vessel"] gS:=jR
include T in
theorem IO (F:kB K "by_number" gS f fd) (za:MeD P w K mg base 1 cN "basin" ["self","k"] (bU (jF cP cB cU) cR cN yZ)) (zj:MeD P w K mg base 1 cN "chamber" ["self","k"] (bU (jF cP cB cU) cR cN JM)):FnOk P w K mg base jQ 2 f fd ["canal","k","named"] (uA (jF cP cB cU) cR cN):=by
 refine F.ok2 rN fun vs H Q E h=>?_
 refine dX h fun x p k l rp ps D R L N h=>?_
 refine wO h fun e_ hc hl' hg hp hP hok h10 q=>?_
 subst e_;refine ⟨rfl,fun _ _ _ _ hr=>?_⟩;have hu1:=FB hr;refine ⟨_,(@jG _ _ _ _ _ (jV 3 rN.nd (jH (kR K) (jZ K (pv 0) rfl) (pv 1)))
   (@jG _ _ _ _ _ (jV 4 rN.nd (SY (lA jO (jZ K (pv 3) rfl) (lA jO (jZ K (pv 3) rfl) (lA jO (Z3 zj hr (pv 0) (jB (pv 1) jD)) (lA jO (Z3 za hr (pv 0) (jB (pv 1) jD)) SS)))) rfl rfl (cons_ne_nil _ _) (by decide)))
   (jM (JR ["source","target","amount","vessel"] (vF 3 [4]) rfl (vM (j8 gS)) (cps 3 [4]) (yH (pv 2)) (fun _ _ _ _ _=>(JJ (n:=3) K rfl (qI (kU (i:=0) (show List.Nodup (["source","target","amount","vessel"]:List Str) from by decide +kernel) rfl (.inl rfl)) (qI (kU (i:=1) (show List.Nodup (["source","target","amount","vessel"]:List Str) from by decide +kernel) rfl (.inl rfl)) (qI (kU (i:=2) (show List.Nodup (["source","target","amount","vessel"]:List Str) from by decide +kernel) rfl (.inl rfl)) zC))))) (fun _ _ _ _ _=>yR) (fun _ _ _ _ _=>(kD (j7 (DR hu1 (pv 3) (pv 0) (fun _ _=>rfl)) (DR hu1 (pv 3) (pv 1) (fun _ _=>rfl)) (pv 2)))))))),?_⟩
 try dsimp only [jU,jT]
 have hc0:=hc;obtain ⟨dx,rl,ll,nl,fs,rs,ls,nv,hx,hf,hrl,hll,hnl,hR,hL,hN,d1,d2,d3⟩:=hc;obtain ⟨v,hv,y,rfl,dl,hl⟩:=hL.get hl';have hkL:k<L.length:=(ad.mp hl').1;refine (jA rfl (j0 hx (T.clN) (T.xh) (hf.2.1) ((jA rfl (kZ (so hll) (kY hv) (?_))))));refine fun w hw0=>?_
 have s0:=jK hw0 (.dK []);refine (jA rfl (j0 ((s0 _ _ hl)) (T.cl l.kd) (T.vt l.kd) (dH l.kd _ _ _ _ _) ((jA rfl (j0 ((s0 _ _ hl)) (T.cl l.kd) (T.uz l.kd) (dM l.kd _ _ _ _ _) ((jA rfl (⟨x,dx,jA rfl (⟨(s0 _ _ hx),hf.no (by decide +kernel) (by decide +kernel) (by decide +kernel),jA rfl (⟨x,D,R,L,N,jA rfl (⟨hc0.same s0,jA rfl (⟨x,dx,jA rfl (⟨(s0 _ _ hx),hf.no (by decide +kernel) (by decide +kernel) (by decide +kernel),jA rfl (⟨x,D,R,L,N,jA rfl (⟨hc0.same s0,?_⟩)⟩)⟩)⟩)⟩)⟩)⟩)⟩))))))));refine ⟨jE,[(.inr "high",.int l.high),(.inr "low",.int l.low),(.inr "chamber",.int (JM R.length L.length (k:Int))),(.inr "basin",.int (yZ R.length L.length (k:Int)))],rfl,(by show 4≤15;decide),?_⟩;rw [US];have s1:Same H (upd (upd H w (.dK [])) w (.dK (d4 (.int l.high) (.int l.low) (.int (JM R.length L.length (k:Int))) (.int (yZ R.length L.length (k:Int)))))):=qA hw0 s0;have hw:upd (upd H w (.dK [])) w (.dK (d4 (.int l.high) (.int l.low) (.int (JM R.length L.length (k:Int))) (.int (yZ R.length L.length (k:Int))))) w=_:=jE;generalize upd (upd H w (.dK [])) w (.dK (d4 (.int l.high) (.int l.low) (.int (JM R.length L.length (k:Int))) (.int (yZ R.length L.length (k:Int)))))=H1 at s1 hw ⊢;have hdg:∀(Hi:Hp) (s:Str),Same H1 Hi→okW s→DGet Hi w (.str s) (some (.int ((JB R.length L.length k l s:Nat):Int))):=fun Hi s sm hs=>by
  obtain ⟨e1,e2,e3,e4⟩:=VZ (sm _ _ hw);obtain ⟨g1,g2,g3,g4,_⟩:=hg;cases hs
  ·rw [CB,show ((l.high.toNat:Nat):Int)=l.high by omega];exact e1
  ·rw [DA,show ((l.low.toNat:Nat):Int)=l.low by omega];exact e2
  ·rw [BA,show ((R.length+k:Nat):Int)=JM R.length L.length (k:Int) by unfold JM;omega];exact e3
  ·rw [BB,show ((R.length+L.length+k:Nat):Int)=yZ R.length L.length (k:Int) by unfold yZ;omega];exact e4
 refine (jA rfl (⟨p,rfl,⟨_,so (s1 _ _ hp)⟩,fun D₁ hD₁=>?_⟩));refine bF (K:=K) (a:=p) (xs:=rp) (fun i σ Hi=>∃(c1 c2 c3:Option V) (zs:List V),σ=[c1,c2,c3,some (.ref w)]∧Hi D₁=some (.lst zs)∧PoursH Hi zs ((ps.take i).map (mO R.length L.length k l)) (R.length+2*L.length+2)∧Same H1 Hi)
  (yP none none none ([]) (vN rfl jE (PoursH.nil _ _) (jK hD₁ _))) (fun i σ Hi _ ⟨_,_,_,_,_,_,_,s⟩=>so (s _ _ (s1 _ _ hp))) ?_ ?_
 ·rintro i v σ Hi hv ⟨c1,c2,c3,zs,rfl,hY,hA,sm⟩;have hi:i<rp.length:=(ad.mp hv).1;rw [hP.1] at hi;obtain ⟨t,sS,sT,nN,rfl,hps,hT⟩:=hP.2 i v hv;obtain ⟨o1,o2⟩:=hok _ (au hps);have hlz:zs.length≤i:=by rw [hA.1,ae];exact gr _ _
  refine ⟨t,jA rfl (⟨SqT.of (sm _ _ (s1 _ _ hT)),rfl,_,jA rfl (⟨_,jA rfl (⟨_,_,rfl,rfl,?_⟩)⟩)⟩)⟩;refine v9 (qG ?_);refine (jA rfl (jA rfl (⟨w,jA rfl (⟨hdg Hi _ sm o1,jA rfl (jA rfl (⟨w,jA rfl (⟨hdg Hi _ sm o2,jA rfl (⟨zz3,fun tp htp=>?_⟩)⟩)⟩))⟩)⟩)));have u:=jK htp (.tup [V.int ((JB R.length L.length k l sS:Nat):Int),V.int ((JB R.length L.length k l sT:Nat):Int),V.int nN]);refine ⟨zs,u _ _ hY,qX (by omega),_,_,_,zs++[.ref tp],rfl,jE,?_,qA hD₁ (sm.trans u)⟩;rw [aL,hps,aH];exact ((hA.same u).snoc jE (EC o1 hg hkL) (EC o2 hg hkL)).put (u _ _ hY)
 rintro σ Hf ⟨c1,c2,c3,zs,rfl,hY,hA,sm⟩;rw [hP.1,aZ] at hA;exact q D₁ Hf zs (s1.trans sm) (s1.free hD₁) hY hA
theorem iI:jS 4 ["canal","ways","state","boat","step","k","basin"] pM:=jR
include T in
theorem KN (F:kB K "pass_pours" pM f fd) (vy:Def P w K mg base 1 "next_step" ["way","place"] [] (uO)) (za:MeD P w K mg base 1 cN "basin" ["self","k"] (bU (jF cP cB cU) cR cN yZ)) (vz:Def P w K mg base 2 "by_number" ["canal","k","named"] [] (uA (jF cP cB cU) cR cN)) (xbk:Def P w K mg base 4 "passage" ["lock","full","basin","way"] [] (BM (jF cP cB cU))) (zf:MeD P w K mg base 2 cN "full" ["self","waters","k"] (lF (jF cP cB cU) cR cN)):FnOk P w K mg base jQ 6 f fd ["canal","ways","state","boat"] (t9 (jF cP cB cU) cR cN):=by
 refine F.ok2 iI fun vs H Q E h=>?_
 refine FC h fun x wl st b us ys y p s₁ d ms pl D R L N h=>?_
 refine y0 h fun e_ hG hy hpp hs q=>?_
 subst e_;refine ⟨rfl,fun _ _ _ _ hr=>?_⟩;refine ⟨_,(@jG _ _ _ _ _ (jV 4 iI.nd (jP vy hr rfl (jB (jH (kR K) (pv 1) (pv 3)) (jB (jH (jN K) (jH (jN K) (pv 2) jC) (pv 3)) jD))))
   (@jG _ _ _ _ _ (jV 5 iI.nd (jH (jN K) (pv 4) jC))
   (@jG _ _ _ _ _ (jV 6 iI.nd (jH (jN K) (jH (jN K) (pv 2) jC) (Z3 za hr (pv 0) (jB (pv 5) jD))))
   (jM (jP vz hr rfl (j7 (pv 0) (pv 5) (jP xbk hr rfl (vG (jH (kR K) (jZ K (pv 0) rfl) (pv 5)) (Z3 zf hr (pv 0) (jB (jH (jN K) (pv 2) jC) (jB (pv 5) jD))) (pv 6) (jH (jN K) (pv 4) jC))))))))),?_⟩
 try dsimp only [jU,jT]
 obtain ⟨hc,hdr,hwl,hA,⟨wt,pt,hst1,hwt,hpt⟩,hfl,hml⟩:=id hG;have hc0:=hc;obtain ⟨dx,rl,ll,nl,fs,rs,ls,nv,hx,hf,hrl,hll,hnl,hR,hL,hN,d1,d2,d3⟩:=hc;obtain ⟨v,hvy,t,st₂,vs₂,rfl,hw1,hw2,hw3⟩:=hA.get hy;have hyok:=hfl.ok y (au hy);have hkL:=hyok.lt s₁ (au hs);obtain ⟨l,hl'⟩:∃l,L[s₁.1]?=some l:=⟨_,aa hkL⟩;obtain ⟨v4,hv4,y4,rfl,dl,hl⟩:=hL.get hl';have hgd:=hdr.lock _ _ hl';have ebas:yZ R.length L.length (s₁.1:Int)=((R.length+L.length+s₁.1:Nat):Int):=by unfold yZ;omega
 have hat:qU (ms.map V.int) (yZ R.length L.length (s₁.1:Int))=some (.int (ms.getD (R.length+L.length+s₁.1) 0)):=by rw [ebas];exact yJ (by omega)
 refine (jA rfl (jA rfl (⟨wl,_,_,_,rfl,rfl,so hwl,kY hvy,jA rfl (⟨st,_,_,_,rfl,rfl,SqT.of hst1,rfl,jA rfl (⟨pt,_,_,_,rfl,rfl,SqT.of hpt,kY (v:=.int (p:Int)) (by rw [ao,hpp];rfl),yP t y p s₁ (vN rfl (vK t st₂ vs₂ (vN rfl hw1 hw2 hw3)) hs (fun v3 ⟨t3,e3,ht3⟩=>?_))⟩)⟩)⟩)));subst e3;refine (jA rfl (⟨t3,_,_,_,rfl,rfl,SqT.of ht3,rfl,?_⟩));refine (jA rfl (⟨st,_,_,_,rfl,rfl,SqT.of hst1,rfl,jA rfl (⟨x,dx,jA rfl (⟨hx,hf.no (by decide +kernel) (by decide +kernel) (by decide +kernel),jA rfl (⟨x,D,R,L,N,jA rfl (⟨hc0,wt,_,_,_,rfl,rfl,SqT.of hwt,hat,?_⟩)⟩)⟩)⟩)⟩));refine (jA rfl (jA rfl (jA rfl (⟨x,cN,dx,_,jA rfl (⟨hx,T.clN,T.xh,hf.2.1,jA rfl (⟨ll,_,_,_,rfl,rfl,so hll,kY hv4,jA rfl (⟨x,dx,jA rfl (⟨hx,hf.no (by decide +kernel) (by decide +kernel) (by decide +kernel),jA rfl (⟨st,_,_,_,rfl,rfl,SqT.of hst1,rfl,jA rfl ((cI x wt D R L N ms s₁.1 (vX rfl hc0 hwt (by omega) (jA rfl (jA rfl (⟨t3,_,_,_,rfl,rfl,SqT.of ht3,rfl,y4,l.kd,_,_,_,l.room,l.extra,_,_,s₁.2,(by rw [U6];rfl),⟨dl,hl⟩,fun r H1 rs s1 hr0 hr hP=>?_⟩))))))⟩)⟩)⟩)⟩)⟩)⟩))));refine (Z4 x r s₁.1 l rs _ D R L N (mX rfl (hc0.same s1) hl' hgd hr hP (RK _ _ _ _ _ _) (aI (BQ _ _ _ _ _ _) (by decide)) (fun r2 H2 zs s2 hr20 hr2 hP2=>?_)));refine q r2 H2 zs (s1.trans s2) (s1.free hr20) hr2 ?_;unfold QI dW;rw [hl',hml];exact hP2
theorem MP:jS 3 ["canal","state","k"] pH:=jR
include T in
theorem KA (F:kB K "let_pours" pH f fd) (vz:Def P w K mg base 2 "by_number" ["canal","k","named"] [] (uA (jF cP cB cU) cR cN)) (wg:Def P w K mg base 3 "letting" ["lock","basin"] [] (fC (jF cP cB cU) yY)) (za:MeD P w K mg base 1 cN "basin" ["self","k"] (bU (jF cP cB cU) cR cN yZ)):FnOk P w K mg base jQ 4 f fd ["canal","state","k"] (DJ (jF cP cB cU) cR cN):=by
 refine F.ok2 MP fun vs H Q E h=>?_
 refine wF h fun x wl st k us ys d ms pl D R L N h=>?_
 refine Z5 h fun e_ hG hkL q=>?_
 subst e_;refine ⟨rfl,fun _ _ _ _ hr=>?_⟩;refine ⟨_,(jM (jP vz hr rfl (j7 (pv 0) (pv 2) (jP wg hr rfl (jB (jH (kR K) (jZ K (pv 0) rfl) (pv 2)) (jB (jH (jN K) (jH (jN K) (pv 1) jC) (Z3 za hr (pv 0) (jB (pv 2) jD))) jD)))))),?_⟩
 try dsimp only [jU,jT]
 obtain ⟨hc,hdr,hwl,hA,⟨wt,pt,hst1,hwt,hpt⟩,hfl,hml⟩:=id hG;have hc0:=hc;obtain ⟨dx,rl,ll,nl,fs,rs,ls,nv,hx,hf,hrl,hll,hnl,hR,hL,hN,d1,d2,d3⟩:=hc;obtain ⟨l,hl'⟩:∃l,L[k]?=some l:=⟨_,aa hkL⟩;obtain ⟨v4,hv4,y4,rfl,dl,hl⟩:=hL.get hl';have hgd:=hdr.lock _ _ hl';have hat:qU (ms.map V.int) (yZ R.length L.length (k:Int))=some (.int (ms.getD (R.length+L.length+k) 0)):=by
  rw [show yZ R.length L.length (k:Int)=((R.length+L.length+k:Nat):Int) by unfold yZ;omega];exact yJ (by omega)
 refine (jA rfl (jA rfl (jA rfl (j0 hx (T.clN) (T.xh) (hf.2.1) ((jA rfl (kZ (so hll) (kY hv4) ((jA rfl (jI (SqT.of hst1) rfl ((jA rfl (⟨x,dx,jA rfl (⟨hx,hf.no (by decide +kernel) (by decide +kernel) (by decide +kernel),jA rfl (⟨x,D,R,L,N,jA rfl (⟨hc0,jI (SqT.of hwt) hat (⟨y4,l.kd,_,_,_,l.room,l.extra,jA rfl (⟨⟨dl,hl⟩,fun r H1 rs s1 hr0 hr hP=>?_⟩)⟩)⟩)⟩)⟩)⟩)))))))))))));refine (Z4 x r k l rs _ D R L N (mX rfl (hc0.same s1) hl' hgd hr hP (lI _ _ _ _) (aI (bK _ _ _ _) (by decide)) (fun r2 H2 zs s2 hr20 hr2 hP2=>?_)));refine q r2 H2 zs (s1.trans s2) (s1.free hr20) hr2 ?_;unfold fW;rw [hl',hml];exact hP2
theorem MM:jS 3 ["canal","waters","vessel"] pE:=jR
include T in
theorem IW (F:kB K "is_below_least" pE f fd) : FnOk P w K mg base jQ 1 f fd ["canal","waters","vessel"] (E4 (jF cP cB cU) cR cN):=by
 refine F.ok2 MM fun vs H Q E h=>?_
 refine ZA h fun x w v ms D R L N h=>?_
 refine ZC h fun e_ hc hw hv q=>?_
 subst e_;refine ⟨rfl,fun _ _ _ _ hr=>?_⟩;refine ⟨_,(jM (uU (JY Q1 (pv 2) (qS K T.xl (jZ K (pv 0) rfl))) (uT (JY Q1 (jH (jN K) (pv 1) (pv 2)) (jZ K (jH (kR K) (jZ K (pv 0) rfl) (pv 2)) rfl))))),?_⟩
 try dsimp only [jU,jT]
 obtain ⟨dx,rl,ll,nl,fs,rs,ls,nv,hx,hf,hrl,hll,hnl,hR,hL,hN,d1,d2,d3⟩:=hc;refine (jA rfl (jA rfl (j0 hx (T.clN) (T.xf) (hf.1) (⟨rl,jA rfl (⟨.inl (so hrl),_,_,rfl,rfl,jA rfl (?_)⟩)⟩))));rw [hR.1]
 by_cases h:v<R.length
 ·obtain ⟨r,hr⟩:∃r,R[v]?=some r:=⟨_,aa h⟩;obtain ⟨z,hz,y,rfl,dy,gs,hy,hg⟩:=hR.get hr;refine kK (by omega) (jA rfl (jA rfl (jI (SqT.of hw) (yJ hv) ((jA rfl (j0 hx (T.clN) (T.xf) (hf.1) ((jA rfl (kZ (so hrl) (kY hz) (j0 hy (T.clR) (T.zm) (hg.2.1) (jY (?_))))))))))));rw [show Q7 R ms v=decide (ms.getD v 0<r.least) by unfold Q7;rw [hr]] at q;exact q
 ·refine j5 (by omega) ?_;rw [show Q7 R ms v=false by unfold Q7;rw [cx (by omega)]] at q;exact q
theorem iH:jS 3 ["canal","waters","moved","held","pour"] pC:=jR
include T in
theorem IS (F:kB K "falls_short" pC f fd) (xw:Def P w K mg base 1 "poured_all" ["waters","pours"] [] (fU K)) (uo:Def P w K mg base 1 "is_below_least" ["canal","waters","vessel"] [] (E4 (jF cP cB cU) cR cN)):FnOk P w K mg base jQ 2 f fd ["canal","waters","moved"] (CJ (jF cP cB cU) cR cN):=by
 refine F.ok2 iH fun vs H Q E h=>?_
 refine dX h fun x w p ms zs qs D R L N h=>?_
 refine zI h fun e_ hc hw hp hP h1000 q=>?_
 subst e_;refine ⟨rfl,fun _ _ _ _ hr=>?_⟩;refine ⟨_,(@jG _ _ _ _ _ (jV 3 iH.nd (pv 1))
   (@jG _ _ _ _ _ (JL ff rfl (yH (pv 2)) (kU (i:=4) iH.nd rfl (.inl rfl))
    (@jG _ _ _ _ _ (jV 3 iH.nd (jP xw hr rfl (jB (pv 3) (jB (kW (jB (pv 4) jD)) jD))))
   (@kH _ _ _ (j9 (vP (jP uo hr rfl (j7 (pv 0) (pv 3) (jH (jN K) (pv 4) jC)))) (jM Q0) kC))))
   (jM Q0))),?_⟩
 try dsimp only [jU,jT]
 refine (jA rfl (?_));refine ⟨_,rfl,p,rfl,⟨_,so hp⟩,lB (K:=K) (a:=p) (xs:=zs) (fun i σ Hi=>∃(h:Addr) (c:Option V),σ=[some (.ref x),some (.ref w),some (.ref p),some (.ref h),c]∧Hi h=some (.tup ((qM ms (qs.take i)).map V.int))∧QD R ms qs=QD R (qM ms (qs.take i)) (qs.drop i)∧Same H Hi)
  ⟨w,none,rfl,hw,rfl,Same.refl _⟩ (fun i σ Hi _ ⟨_,_,_,_,_,s⟩=>so (s _ _ hp)) ?_ ?_⟩
 ·rintro i v σ Hi hv ⟨h,c,rfl,hh,he,sm⟩;obtain ⟨a,s,t,m,rfl,hq,hT,hs,ht⟩:=hP.2 i v hv;have el:(qM ms (qs.take i)).length=ms.length:=J4 _ _;refine (jA rfl (jA rfl (⟨zz1,fun lp hlp=>?_⟩)));have u:=jK hlp (.lst [V.ref a]);refine ⟨h,yP lp _ ([.ref a]) ([(s,t,m)]) (qW rfl (.inr (SqT.of (u _ _ hh))) (so jE) ((PoursH.nil _ _ |>.snoc (u _ _ (sm _ _ hT)) (by rw [el];exact hs) (by rw [el];exact ht)).pa) (by rw [el];exact h1000) (fun r H' s' hr0 hr=>?_))⟩;have sm2:=(sm.trans u).trans s';have ep:qM (qM ms (qs.take i)) [(s,t,m)]=qM ms (qs.take (i+1)):=by rw [rZ ms qs i _ hq];rfl
  rw [ep] at hr;have ed:qs.drop i=(s,t,m)::qs.drop (i+1):=(drop_eq_getElem_cons (ad.mp hq).1).trans (by rw [(ad.mp hq).2]);have he2:QD R ms qs=(Q7 R (qM ms (qs.take (i+1))) s||QD R (qM ms (qs.take (i+1))) (qs.drop (i+1))):=by
   rw [he,ed];show (Q7 R (pour (qM ms (qs.take i)) (s,t,m)) s||QD R (pour (qM ms (qs.take i)) (s,t,m)) (qs.drop (i+1)))=_;rw [rZ ms qs i _ hq]
  have el2:(qM ms (qs.take (i+1))).length=ms.length:=J4 _ _;refine (jA rfl (jA rfl (jA rfl (jI (SqT.of (sm2 _ _ hT)) rfl ((cI x r s _ D R L N (vX rfl (hc.same sm2) hr (by rw [el2];exact hs) (jA rfl (?_)))))))));cases hb:Q7 R (qM ms (qs.take (i+1))) s with
  |true =>
   refine qG ?_;have:=q H' sm2;rw [he2,hb] at this;exact this
  |false =>
   refine vA ⟨r,jA rfl (⟨hr,?_,sm2⟩)⟩;rw [he2,hb];rfl
 rintro σ Hi ⟨h,c,rfl,hh,he,sm⟩;rw [hP.1,drop_length] at he;have:=q Hi sm;rw [he] at this;exact this
theorem rV:jS 4 ["canal","ways","state","boat","place","target"] rG:=jR
include T in
theorem LE (F:kB K "why_no_pass" rG f fd) (vg:Def P w K mg base 3 "reach_of" ["canal","way","place"] [] (sX (jF cP cB cU) cR cN)) (zr:Def P w K mg base 5 "has_no_berth" ["canal","ways","state","reach"] [] (sY (jF cP cB cU) cR cN)) (xaz:Def P w K mg base 2 "falls_short" ["canal","waters","moved"] [] (CJ (jF cP cB cU) cR cN)) (vh:Def P w K mg base 6 "pass_pours" ["canal","ways","state","boat"] [] (t9 (jF cP cB cU) cR cN)):FnOk P w K mg base jQ 7 f fd ["canal","ways","state","boat"] (EG (jF cP cB cU) cR cN):=by
  refine F.ok2 rV fun vs H Q E h=>?_
  refine wF h fun x wl st b us ys d ms pl D R L N h=>?_
  refine Z5 h fun e_ hG hb q=>?_
  subst e_;refine ⟨rfl,fun _ _ _ _ hr=>?_⟩;refine ⟨_,(@jG _ _ _ _ _ (jV 4 rV.nd (jH (jN K) (jH (jN K) (pv 2) jC) (pv 3)))
      (@jG _ _ _ _ _ (j9 (j6 kO (jP vg hr rfl (j7 (pv 0) (jH (kR K) (pv 1) (pv 3)) (pv 4))) (yK (v:=.int (-1)) rfl T.xaO ⟨_,rfl⟩)) (jM jO) kC)
      (@jG _ _ _ _ _ (jV 5 rV.nd (jP vg hr rfl (j7 (pv 0) (jH (kR K) (pv 1) (pv 3)) (@jJ _ _ _ _ _ _ _ _ kI (pv 4) jC))))
      (zB (j9 (PW.pt (fP (j6 ZW (pv 5) (yK (v:=.int (-1)) rfl T.xaO ⟨_,rfl⟩)) (fH (vP (jP zr hr rfl (vG (pv 0) (pv 1) (pv 2) (pv 5))))))) (jM jO) kC)
      (@jG _ _ _ _ _ (j9 (vP (jP xaz hr rfl (j7 (pv 0) (jH (jN K) (pv 2) jC) (jP vh hr rfl (vG (pv 0) (pv 1) (pv 2) (pv 3)))))) (jM jO) kC)
      (jM jO)))))),?_⟩
  try dsimp only [jU,jT]
  obtain ⟨hc,hdr,hwl,hA,hst,hfl,hml⟩:=id hG;obtain ⟨wt,pt,hst1,hwt,hpt⟩:=id hst;have hc0:=hc;obtain ⟨dx,rl,ll,nl,fs,rs,ls,nv,hx,hf,hrl,hll,hnl,hR,hL,hN,d1,d2,d3⟩:=hc;have b1:=hdr.r8;have b2:=hdr.l8;obtain ⟨y,hy⟩:∃y,ys[b]?=some y:=⟨_,aa hb⟩;obtain ⟨p,hp⟩:∃p,pl[b]?=some p:=⟨_,aa (by rw [hfl.len];exact hb)⟩;obtain ⟨v,hvy,hwy⟩:=hA.get hy;obtain ⟨t,st₂,vs₂,rfl,hw1,hw2,hw3⟩:=id hwy;have hple:=hfl.le b y p hy hp;have hyok:=hfl.ok y (au hy);have ey:ys.getD b (0,[])=y:=by rw [ac,hy];rfl
  have ep:pl.getD b 0=p:=by rw [ac,hp];rfl
  unfold bY at q;rw [ey,ep] at q;refine (jA rfl (jI (SqT.of hst1) rfl ((jA rfl (jI (SqT.of hpt) (kY (v:=.int (p:Int)) (by rw [ao,hp];rfl)) (?_))))));refine (jA rfl (jA rfl (jA rfl (kZ (so hwl) (kY hvy) ((jA rfl ((cI x t y p D R L N (qW rfl hc0 hwy hyok hple (fun H1 s1=>⟨rfl,jA rfl (?_)⟩))))))))))
  by_cases h0:p=y.2.length
  · refine kK (by rw [h0,DP]) ?_
    have:=q H1 s1;rw [if_pos h0] at this;exact this
  have hlt:p<y.2.length:=by omega
  have hpin:=EN hdr hyok hlt;refine j5 (fun e=>by have:=V.int.inj e;omega) ?_;have q:∀H',Same H H'→Q (.str (if ¬vR L y (p+1) = -1∧fF R (vR L y (p+1))≤(((yX L ys pl).countP fun z=>decide (z=vR L y (p+1)):Nat):Int) then "berth" else if QD R ms (QI R.length L ms (y.2.getD p (0,true)))=true then "water" else "")) H':=fun H' s'=>by
    have:=q H' s';rw [if_neg h0] at this;exact this
  have s01:=s1;refine (jA rfl (jA rfl (jA rfl (kZ (so (s1 _ _ hwl)) (kY hvy) ((jA rfl (jY ((cI x t y (p+1) D R L N (qW rfl (hc0.same s1) (WyAt.same s1 _ _ hwy) hyok (by omega) (fun H2 s2=>?_)))))))))));have s02:=s1.trans s2;refine ⟨fun σ' Ha=>σ'=[some (.ref x),some (.ref wl),some (.ref st),some (.int (b:Int)),some (.int (p:Int)),some (.int (vR L y (p+1)))]∧Same H Ha∧¬(¬vR L y (p+1) = -1∧fF R (vR L y (p+1))≤(((yX L ys pl).countP fun z=>decide (z=vR L y (p+1)):Nat):Int)),?_,?_⟩
  · refine ⟨_,rfl,rfl,jA rfl (?_)⟩
    by_cases h1:vR L y (p+1) = -1
    · exact ZY (bu V.int h1) (vA ⟨rfl,s02,fun z=>z.1 h1⟩)
    refine ZX (fun e=>h1 (V.int.inj e)) ?_;have hlt2:p+1<y.2.length:=by
      by_cases e:p+1=y.2.length
      · rw [e,DP] at h1;exact absurd rfl h1
      · omega
    have hpin2:=EN hdr hyok hlt2;obtain ⟨tn,htn⟩:∃tn:Nat,vR L y (p+1)=(tn:Int):=⟨(vR L y (p+1)).toNat,by omega⟩;rw [htn] at h1 ⊢;obtain ⟨r,hr⟩:∃r,R[tn]?=some r:=⟨_,aa (by omega)⟩;have eb:fF R (tn:Int)=r.berths:=by unfold fF;rw [show ((tn:Nat):Int).toNat=tn from rfl,hr]
    refine (jA rfl (jA rfl (jA rfl (jA rfl ((fY x wl st tn r us ys d ms pl D R L N (vN rfl (hG.same s02) hr (fun H3 s3=>(jA rfl (?_))))))))));have s03:=s02.trans s3
    by_cases h2:r.berths≤(((yX L ys pl).countP fun z=>decide (z=(tn:Int)):Nat):Int)
    · rw [aT h2]
      refine qG ?_;have:=q H3 s03;rw [htn,eb,if_pos ⟨h1,h2⟩] at this;exact this
    · rw [aJ h2]
      exact vA ⟨rfl,s03,fun z=>h2 (by rw [eb] at z;exact z.2)⟩
  rintro σ' H3 ⟨rfl,s03,hno⟩;obtain ⟨s₁,hs⟩:∃s,y.2[p]?=some s:=⟨_,aa hlt⟩;have es:y.2.getD p (0,true)=s₁:=by rw [ac,hs];rfl
  refine (jA rfl (jA rfl (jI (SqT.of (s03 _ _ hst1)) rfl ((jA rfl (jA rfl (jA rfl (jA rfl ((wL x wl st b us ys y p s₁ d ms pl D R L N (qW rfl (hG.same s03) hy hp hs (fun r H4 zs s4 hr0 hr hP=>?_))))))))))));have s04:=s03.trans s4;refine (Z4 x wt r ms zs _ D R L N (vU rfl (hc0.same s04) (s04 _ _ hwt) hr hP (by omega) (fun H5 s5=>(jA rfl (?_)))));have:=q H5 (s04.trans s5);rw [if_neg hno,es] at this;cases hsb:QD R ms (QI R.length L ms s₁) with
  |true =>
    refine qG ?_;rw [hsb,if_pos rfl] at this;exact this
  |false =>
    refine vA ?_;rw [hsb,if_neg (by decide)] at this;exact this
theorem M4:jS 4 ["canal","ways","state","deed"] rH:=jR
include T in
theorem LF (F:kB K "why_not" rH f fd) (xaA:Def P w K mg base 7 "why_no_pass" ["canal","ways","state","boat"] [] (EG (jF cP cB cU) cR cN)) (zf:MeD P w K mg base 2 cN "full" ["self","waters","k"] (lF (jF cP cB cU) cR cN)):FnOk P w K mg base jQ 8 f fd ["canal","ways","state","deed"] (uM (jF cP cB cU) cR cN):=by
 refine F.ok2 M4 fun vs H Q E h=>?_
 refine wE h fun x wl st dd de us ys d ms pl D R L N h=>?_
 refine ZC h fun e_ hG hdd hin q=>?_
 subst e_;refine ⟨rfl,fun _ _ _ _ hr=>?_⟩;refine ⟨_,(@jG _ _ _ _ _ (j9 (j6 kO (jH (jN K) (pv 3) jC) jO) (jM (jP xaA hr rfl (vG (pv 0) (pv 1) (pv 2) (jH (jN K) (pv 3) jC)))) kC)
   (@jG _ _ _ _ _ (j9 (j6 kO (jH (jN K) (pv 3) jC) jO) (jM (zL (vP (Z3 zf hr (pv 0) (jB (jH (jN K) (pv 2) jC) (jB (jH (jN K) (pv 3) jC) jD)))) jO jO)) kC)
   (jM (zL (j6 Q1 (jH (jN K) (pv 2) jC) (qS K T.xl (jZ K (pv 0) rfl))) jO jO)))),?_⟩
 try dsimp only [jU,jT]
 obtain ⟨hc,hdr,hwl,hA,hst,hfl,hml⟩:=id hG;obtain ⟨wt,pt,hst1,hwt,hpt⟩:=id hst;have hc0:=hc;obtain ⟨dx,rl,ll,nl,fs,rs,ls,nv,hx,hf,hrl,hll,hnl,hR,hL,hN,d1,d2,d3⟩:=hc;cases de with
 |pass b =>
  refine (jA rfl (jI (SqT.of hdd) rfl (⟨rfl,jA rfl (kK rfl ?_)⟩)));exact (jA rfl (jA rfl (jA rfl (jA rfl (jI (SqT.of hdd) rfl ((wM x wl st b us ys d ms pl D R L N (vN rfl hG hin q))))))))
 |«let» k =>
  have hk:k<L.length:=hin;refine (jA rfl (jI (SqT.of hdd) rfl (⟨rfl,jA rfl (j5 (fun e=>absurd (V.str.inj e) (by decide +kernel)) ?_)⟩)));refine (jA rfl (jI (SqT.of hdd) rfl (⟨rfl,jA rfl (kK rfl ?_)⟩)));refine (jA rfl (⟨x,dx,jA rfl (⟨hx,hf.no (by decide +kernel) (by decide +kernel) (by decide +kernel),jA rfl (jI (SqT.of hst1) rfl ((jA rfl (jI (SqT.of hdd) rfl ((cI x wt D R L N ms k (vX rfl hc0 hwt (by omega) (jA rfl (?_)))))))))⟩)⟩));have:=q H (Same.refl _)
  change Q (.str (if dW R.length ms k=true then "" else "empty")) H at this
  unfold dW at this
  by_cases h:0<ms.getD (R.length+k) 0
  ·rw [if_pos (aT h)] at this;exact kK h this
  ·rw [if_neg (by rw [fe];exact h)] at this;exact j5 h this
 |night =>
  refine (jA rfl (jI (SqT.of hdd) rfl (⟨rfl,jA rfl (j5 (fun e=>absurd (V.str.inj e) (by decide +kernel)) ?_)⟩)));refine (jA rfl (jI (SqT.of hdd) rfl (⟨rfl,jA rfl (j5 (fun e=>absurd (V.str.inj e) (by decide +kernel)) ?_)⟩)));refine (jA rfl (jI (SqT.of hst1) rfl ((jA rfl (j0 hx (T.clN) (T.xm) (hf.2.2.1) (⟨nl,jA rfl (⟨.inl (so hnl),_,_,rfl,rfl,jA rfl (?_)⟩)⟩))))));rw [hN.1];have:=q H (Same.refl _)
  change Q (.str (if d<(N.length:Int) then "" else "over")) H at this
  by_cases h:d<(N.length:Int)
  ·rw [if_pos h] at this;exact kK h this
  ·rw [if_neg h] at this;exact j5 h this
theorem iJ:jS 4 ["canal","ways","state","deed","word","passes","moved"] pS:=jR
include T in
theorem KU (F:kB K "pours" pS f fd) (uq:Def P w K mg base 8 "why_not" ["canal","ways","state","deed"] [] (uM (jF cP cB cU) cR cN)) (vh:Def P w K mg base 6 "pass_pours" ["canal","ways","state","boat"] [] (t9 (jF cP cB cU) cR cN)) (xa4:Def P w K mg base 4 "let_pours" ["canal","state","k"] [] (DJ (jF cP cB cU) cR cN)) (ze:Def P w K mg base 4 "with_spills" ["weirs","waters","pours"] [] (lE K)) (xo:MeD P w K mg base 2 cN "weirs" ["self"] (fB (jF cP cB cU) cR cN)):FnOk P w K mg base (kF P w) 9 f fd ["canal","ways","state","deed"] (CL (jF cP cB cU) cR cN eW):=by
 refine F.okX2 iJ fun vs H Q E h=>?_
 refine wE h fun x wl st dd de us ys d ms pl D R L N h=>?_
 refine QL h fun e_ hG hdd hin hd0 hnn qv qe=>?_
 subst e_;refine ⟨rfl,fun _ _ _ _ hr=>?_⟩;refine ⟨_,(@jG _ _ _ _ _ (jV 4 iJ.nd (jP uq hr rfl (vG (pv 0) (pv 1) (pv 2) (pv 3))))
   (@jG _ _ _ _ _ (j9 (j6 ZW (pv 4) jO) (@kH _ _ _ (QA J9 rfl rfl T.ud T.ju (jB (pv 4) jD))) kC)
   (@jG _ _ _ _ _ (j9 (j6 kO (jH (jN K) (pv 3) jC) jO) EM kC)
   (@jG _ _ _ _ _ (jV 5 iJ.nd (JY kO (jH (jN K) (pv 3) jC) jO))
   (@jG _ _ _ _ _ (jV 6 iJ.nd (zL (vP (pv 5)) (jP vh hr rfl (vG (pv 0) (pv 1) (pv 2) (jH (jN K) (pv 3) jC))) (jP xa4 hr rfl (j7 (pv 0) (pv 2) (jH (jN K) (pv 3) jC)))))
   (jM (jP ze hr rfl (j7 (kS xo hr (pv 0)) (jH (jN K) (pv 2) jC) (pv 6))))))))),?_⟩
 try dsimp only [jU,jT]
 obtain ⟨hc,hdr,hwl,hA,hst,hfl,hml⟩:=id hG;obtain ⟨wt,pt,hst1,hwt,hpt⟩:=id hst;have hc0:=hc;obtain ⟨dx,rl,ll,nl,fs,rs,ls,nv,hx,hf,hrl,hll,hnl,hR,hL,hN,d1,d2,d3⟩:=hc;have b1:=hdr.r8;have b2:=hdr.l8;have hTg:=sJ hdr;refine (jA rfl (jA rfl (jA rfl (jA rfl ((fY x wl st dd de us ys d ms pl D R L N (vX rfl hG hdd hin (fun H1 s1=>?_))))))));refine ⟨_,rfl,rfl,jA rfl (?_)⟩
 by_cases hw:JU R L N.length ys d ms pl de=""
 rotate_left
 ·exact ZX (fun e=>hw (V.str.inj e)) (jA rfl (⟨by show 1≤sizeLine;decide,qe hw _ s1⟩))
 refine ZY (bu V.str hw) ?_;have qv:=qv hw;have hdd1:=s1 _ _ hdd;have hst11:=s1 _ _ hst1;cases de with
 |night =>
  exact absurd rfl hnn
 |pass b =>
  have hb:b<ys.length:=hin;obtain ⟨y,hy⟩:∃y,ys[b]?=some y:=⟨_,aa hb⟩;obtain ⟨p,hp⟩:∃p,pl[b]?=some p:=⟨_,aa (by rw [hfl.len];exact hb)⟩;have hple:=hfl.le b y p hy hp;have ey:ys.getD b (0,[])=y:=by rw [ac,hy];rfl
  have ep:pl.getD b 0=p:=by rw [ac,hp];rfl
  have hne:=tK hw;rw [ey,ep] at hne;obtain ⟨s₁,hs⟩:∃s,y.2[p]?=some s:=⟨_,aa (by omega)⟩;have es:y.2.getD p (0,true)=s₁:=by rw [ac,hs];rfl
  refine (jA rfl (jI (SqT.of hdd1) rfl (⟨rfl,jA rfl (j5 (fun e=>absurd (V.str.inj e) (by decide +kernel)) ?_)⟩)));refine (jA rfl (jI (SqT.of hdd1) rfl (⟨rfl,?_⟩)));rw [aT rfl];refine (jA rfl (jA rfl (qG ?_)));refine (jA rfl (jA rfl (jA rfl (jA rfl (jI (SqT.of hdd1) rfl ((wL x wl st b us ys y p s₁ d ms pl D R L N (qW rfl (hG.same s1) hy hp hs (fun m H2 zs s2 hm0 hm hP=>?_)))))))));have s12:=s1.trans s2;refine (jA rfl (⟨x,dx,jA rfl (⟨(s12 _ _ hx),hf.no (by decide +kernel) (by decide +kernel) (by decide +kernel),yD x D R L N (vN rfl (hc0.same s12) (by omega) (fun wq ws H3 s3 hwq0 hwq hW=>?_))⟩)⟩));have s13:=s12.trans s3;have hl:=hP.1;refine (jA rfl (jI (SqT.of (s13 _ _ hst1)) rfl ((jA rfl (⟨wq,wt,m,ws,zs,vC R L.length,ms,jA rfl (⟨iM hTg hW hwq (.inr (SqT.of (s13 _ _ hwt))) hml (by omega) (by omega),s3 _ _ hm,hP.same s3,?_,fun r H4 gs zs4 s4 hr0 hr hP4 hS=>?_⟩)⟩)))))
  ·rw [hl];exact aI (BP _ _ _ _) (by decide)
  have e:mH R L N ys d ms pl (.pass b)=QI R.length L ms s₁:=by show QI R.length L ms _=_;rw [ey,ep,es]
  refine qv r H4 gs zs4 (s13.trans s4) (s13.free hr0) hr ?_ ?_
  ·unfold uJ;rw [e];exact hP4
  ·rw [e];exact hS
 |«let» k =>
  have hk:k<L.length:=hin;refine (jA rfl (jI (SqT.of hdd1) rfl (⟨rfl,jA rfl (j5 (fun e=>absurd (V.str.inj e) (by decide +kernel)) ?_)⟩)));refine (jA rfl (jI (SqT.of hdd1) rfl (⟨rfl,?_⟩)));rw [aJ (fun e=>absurd (V.str.inj e) (show ¬("let":Str)="pass" by decide +kernel))];refine (jA rfl (jA rfl (vA ?_)));refine (jA rfl (jA rfl (jA rfl (jI (SqT.of hdd1) rfl ((wM x wl st k us ys d ms pl D R L N (vN rfl (hG.same s1) hk (fun m H2 zs s2 hm0 hm hP=>?_))))))));have s12:=s1.trans s2;refine (jA rfl (⟨x,dx,jA rfl (⟨(s12 _ _ hx),hf.no (by decide +kernel) (by decide +kernel) (by decide +kernel),yD x D R L N (vN rfl (hc0.same s12) (by omega) (fun wq ws H3 s3 hwq0 hwq hW=>?_))⟩)⟩));have s13:=s12.trans s3;have hl:=hP.1;refine (jA rfl (jI (SqT.of (s13 _ _ hst1)) rfl ((jA rfl (⟨wq,wt,m,ws,zs,vC R L.length,ms,jA rfl (⟨iM hTg hW hwq (.inr (SqT.of (s13 _ _ hwt))) hml (by omega) (by omega),s3 _ _ hm,hP.same s3,?_,fun r H4 gs zs4 s4 hr0 hr hP4 hS=>?_⟩)⟩)))))
  ·rw [hl];exact aI (CZ _ _ _ _) (by decide)
  exact qv r H4 gs zs4 (s13.trans s4) (s13.free hr0) hr hP4 hS
theorem rR:jS 2 ["name","things","place","thing"] pQ:=jR
include T in
theorem KR (F:kB K "place_called" pQ f fd) : FnOk P w K mg base (kF P w) 1 f fd ["name","things"] (t7 K eU):=by
 refine F.okX2 rR fun vs H Q E h=>?_
 refine cE h fun nm l us zs h=>?_
 refine y0 h fun e_ hl hA h100 qv qe=>?_
 subst e_;refine ⟨rfl,fun _ _ _ _ hr=>?_⟩;refine ⟨_,(@jG _ _ _ _ _ (JL fR rfl (SV (by rfl) T.xp (jB (pv 1) jD)) (lN rfl (qI (kU (i:=2) rR.nd rfl (.inl rfl)) (qI (kU (i:=3) rR.nd rfl (.inl rfl)) zC)))
    (@kH _ _ _ (j9 (j6 kO (jZ K (pv 3) rfl) (pv 0)) (jM (pv 2)) kC)))
   (@kH _ _ _ (QA J9 rfl rfl T.wf T.um (jB jO jD)))),?_⟩
 try dsimp only [jU,jT]
 refine (jA rfl (⟨l,rfl,⟨_,so hl⟩,RZ (K:=K) (a:=l) (xs:=us) (fun i σ Hi=>∃c2 c3:Option V,σ=[some (.str nm),some (.ref l),c2,c3]∧(∀j:Nat,j<i→zs[j]?≠some nm)∧Same H Hi) ⟨none,none,rfl,fun j hj=>absurd hj (iu j),Same.refl _⟩ (fun i σ Hi _ ⟨_,_,_,_,s⟩=>so (s _ _ hl)) ?_ ?_⟩))
 ·rintro i v σ Hi T₁ hv ⟨c2,c3,rfl,hno,sm⟩ hT;obtain ⟨z,hz,x,C,dx,fs,rfl,hx,cC,nC,lk⟩:=hA.2 i v hv;have u:=jK hT (.tup [V.int (i:Int),V.ref x]);have smu:=sm.trans u;refine ⟨T₁,jA rfl (⟨SqT.of jE,rfl,_,jA rfl (⟨_,_,rfl,rfl,?_⟩)⟩)⟩;refine (jA rfl (⟨x,C,dx,_,jA rfl (⟨smu _ _ hx,cC,nC,lk,_,rfl,rfl,jA rfl (?_)⟩)⟩))
  by_cases h:z=nm
  ·exact kK (bu V.str h) (jA rfl (qv i ⟨by rw [← h];exact hz,hno⟩ _ smu))
  ·refine j5 (fun e=>h (V.str.inj e)) ⟨_,jA rfl (⟨fun j hj=>?_,smu⟩)⟩
   by_cases c:j=i
   ·rw [c,hz];exact fun e=>h (aA e)
   ·exact hno j (by omega)
 rintro σ Hi ⟨c2,c3,rfl,hno,sm⟩;refine ⟨by show 1≤sizeLine;decide,qe (fun i hi=>?_) _ sm⟩;have hl':i<zs.length:=(ad.mp hi).1;exact hno i (by rw [hA.1];exact hl') hi
theorem L4:jS 2 ["self","name"] oE:=jR
include T in
theorem HG (F:Fun K "reach_at" "Canal.reach_at" oE f fd) (zn:DefX P w K mg base 1 "place_called" ["name","things"] [] (t7 K eU)):FnOk P w K mg base (kF P w) 2 f fd ["self","name"] (QZ (jF cP cB cU) cR cN eU 0):=by
 refine F.okX2 L4 fun vs H Q E h=>?_
 refine ZB h fun x D R L N nm h=>?_
 refine y0 h fun e_ p0_ b1 b2 qv qe=>?_
 subst e_;obtain ⟨dx,rl,ll,nl,fs,rs,ls,ns,hx,hf,hrl,hll,hnl,hR,hL,hN,d1,d2,d3⟩:=p0_;refine ⟨rfl,fun _ _ _ _ hr=>?_⟩;refine ⟨_,(jM (qJ zn k7 hr rfl (jB (pv 1) (jB (jZ K (pv 0) rfl) jD)))),?_⟩
 try dsimp only [jU,jT]
 exact (jA rfl (jA rfl (j0 hx (T.clN) (T.xf) (hf.1) (⟨nm,rl,rs,lP 0 R L,rfl,hrl,NO T.clR T.zo hR,by rw [hR.1];omega,qv,qe⟩))))
theorem LZ:jS 2 ["self","name"] oA:=jR
include T in
theorem HE (F:Fun K "lock_at" "Canal.lock_at" oA f fd) (zn:DefX P w K mg base 1 "place_called" ["name","things"] [] (t7 K eU)):FnOk P w K mg base (kF P w) 2 f fd ["self","name"] (QZ (jF cP cB cU) cR cN eU 1):=by
 refine F.okX2 LZ fun vs H Q E h=>?_
 refine ZB h fun x D R L N nm h=>?_
 refine y0 h fun e_ p0_ b1 b2 qv qe=>?_
 subst e_;obtain ⟨dx,rl,ll,nl,fs,rs,ls,ns,hx,hf,hrl,hll,hnl,hR,hL,hN,d1,d2,d3⟩:=p0_;refine ⟨rfl,fun _ _ _ _ hr=>?_⟩;refine ⟨_,(jM (qJ zn k7 hr rfl (jB (pv 1) (jB (jZ K (pv 0) rfl) jD)))),?_⟩
 try dsimp only [jU,jT]
 exact (jA rfl (jA rfl (j0 hx (T.clN) (T.xh) (hf.2.1) (⟨nm,ll,ls,lP 1 R L,rfl,hll,N6 T.cl T.ul hL,by rw [hL.1];omega,qv,qe⟩))))
theorem xZ:jS 2 ["canal","entry","start"] iB:=jR
include T in
theorem K9 (F:kB K "way_told" iB f fd) (xq:MeX P w K mg base 2 cN "reach_at" ["self","name"] (QZ (jF cP cB cU) cR cN eU 0)) (zk:MeX P w K mg base 2 cN "lock_at" ["self","name"] (QZ (jF cP cB cU) cR cN eU 1)):FnOk P w K mg base (kF P w) 3 f fd ["canal","entry"] (sW (jF cP cB cU) cR cN eU):=by
 refine F.okX2 xZ fun vs H Q E h=>?_
 refine yC h fun x t e D R L N h=>?_
 refine QL h fun e_ hc b1 b2 p3_ h100 qv qe=>?_
 subst e_;obtain ⟨st,us,h1,h2,h3⟩:=p3_;refine ⟨rfl,fun _ _ _ _ hr=>?_⟩;refine ⟨_,(@jG _ _ _ _ _ (jV 2 xZ.nd (zO xq k7 hr (pv 0) (jB (jH (jN K) (pv 1) jC) jD)))
   (jM (kD (jB (pv 2) (jB (vO (bC K) (by rfl) T.zg cf (jB (RI ["name","side","canal"] (vF 2 [0]) (vM (j8 iB)) (cps 2 [0]) (uR (jH (jN K) (pv 1) jC)) (fun _ _ _ _ _=>(JJ (n:=2) K rfl (qI (kU (i:=0) (show List.Nodup (["name","side","canal"]:List Str) from by decide +kernel) rfl (.inl rfl)) (qI (kU (i:=1) (show List.Nodup (["name","side","canal"]:List Str) from by decide +kernel) rfl (.inl rfl)) zC)))) (fun _ _ _ _ _=>yR) (fun _ _ _ _ _=>(kD (jB (zO zk OF hr (pv 2) (jB (pv 0) jD)) (jB (pv 1) jD))))) jD)) jD))))),?_⟩
 try dsimp only [jU,jT]
 have hc0:=hc;obtain ⟨dx,rl,ll,nl,fs,rs,ls,nv,hx,hf,hrl,hll,hnl,hR,hL,hN,d1,d2,d3⟩:=hc;refine (jA rfl (⟨x,dx,jA rfl (⟨hx,hf.no (by decide +kernel) (by decide +kernel) (by decide +kernel),jA rfl (jI (SqT.of h1) rfl ((J3 x D R L N e.start (qW rfl hc0 b1 b2 (fun a ha H1 s1=>?_) (fun hno H1 s1=>qe ?_ H1 s1)))))⟩)⟩))
 case refine_2 =>
  unfold yW;rw [bH (show QC (R.map (·.name)) e.start from hno)]
 have ha:kM (R.map (·.name)) e.start=some a:=bG ha;have hus:=h3.1;refine (jA rfl (jA rfl (jI (SqT.of (s1 _ _ h1)) rfl (⟨st,rfl,⟨_,SqT.of (s1 _ _ h2)⟩,fun bt hbt=>?_⟩))));refine BE (K:=K) (a:=st) (xs:=us) (fun i σ Hi=>∃(c1 c2:Option V) (zs:List V) (ps:List (Nat×Bool)),σ=[c1,c2,some (.ref x)]∧v8 (L.map (·.name)) (e.steps.take i)=some ps∧Hi bt=some (.lst zs)∧AllAt (PAt Hi) zs ps∧Same H Hi) ⟨none,none,[],[],rfl,rfl,jE,AllAt.nil,s1.trans (jK hbt _)⟩ (fun i σ Hi _ ⟨_,_,_,_,_,_,_,_,s⟩=>SqT.of (s _ _ h2)) ?_ ?_
 ·rintro i v σ Hi hv ⟨c1,c2,zs,ps,rfl,hps,hY,hA,sm⟩;obtain ⟨p,hp,tp,rfl,htp⟩:=h3.2 i v hv;have hi:i<e.steps.length:=(ad.mp hp).1;have ht:e.steps.take (i+1)=e.steps.take i++[p]:=by rw [aL,hp];rfl
  have hpl:=(sV hps).1;rw [bj] at hpl;refine ⟨tp,jA rfl (⟨SqT.of (sm _ _ htp),rfl,_,jA rfl (⟨_,_,rfl,rfl,?_⟩)⟩)⟩;refine v9 (qG (jA rfl (⟨x,dx,jA rfl (⟨(sm _ _ hx),hf.no (by decide +kernel) (by decide +kernel) (by decide +kernel),jA rfl ((J3 x D R L N p.1 (qW rfl (hc0.same sm) b1 b2 (fun k hk H2 s2=>?_) (fun hno H2 s2=>qe ?_ H2 (sm.trans s2)))))⟩)⟩)))
  case refine_2 =>
   unfold yW;rw [ha];show (v8 (L.map (·.name)) e.steps).map _=none;rw [AM (bH (show QC (L.map (·.name)) p.1 from hno)) (au hp)];rfl
  have hk:kM (L.map (·.name)) p.1=some k:=bG hk;refine (jA rfl (⟨zz2,fun t2 ht2=>?_⟩));have u:=jK ht2 (.tup [V.int (k:Int),V.str (ZG p.2)]);have hY2:=u _ _ (s2 _ _ hY);refine ⟨zs,hY2,qX (by rw [hA.1];omega),_,_,zs++[.ref t2],ps++[(k,p.2)],rfl,by rw [ht];exact AD hk hps,jE,?_,qA (s1.free hbt) ((sm.trans s2).trans u)⟩;exact ((hA.mono (PAt.same (s2.trans u))).snoc (v:=.ref t2) (x:=(k,p.2)) ⟨t2,rfl,jE⟩).mono (PAt.put hY2)
 rintro σ Hf ⟨c1,c2,zs,ps,rfl,hps,hY,hA,sm⟩;rw [hus,aZ] at hps;refine ⟨bt,zs,rfl,.inl ⟨so hY,fun w1 hw1=>?_⟩⟩;have v1:=jK hw1 (.tup zs);refine ⟨zz2,fun w2 hw2=>?_⟩;have v2:=jK hw2 (.tup [V.int (a:Int),V.ref w1]);refine qv ((a:Int),ps) ?_ w2 _ ((sm.trans v1).trans v2) ((sm.trans v1).free hw2) (vK w2 w1 zs (vN rfl jE (v2 _ _ jE) (hA.mono (PAt.same (v1.trans v2)))));unfold yW;rw [ha];show (v8 (L.map (·.name)) e.steps).map _=_;rw [hps];rfl
theorem LM:jS 1 ["self"] nK:=jR
include T in
theorem GU (F:Fun K "canal" "Book.canal" nK f fd) : FnOk P w K mg base jQ 1 f fd ["self"] (QY (jF cP cB cU) cR cN cO):=by
 refine F.ok2 LM fun vs H Q E h=>?_
 refine yC h fun b x A R L N B h=>?_
 refine qT h fun e_ hq q=>?_
 subst e_;refine ⟨rfl,fun _ _ _ _ hr=>?_⟩;refine ⟨_,(jM (jZ K (pv 0) rfl)),?_⟩
 try dsimp only [jU,jT]
 obtain ⟨db,nl,wl,pl,ql,el,fs,hA,hb,hfl,hf,hnl,hpl,hql,hel,hnd,hwl⟩:=hq.ob;exact (jA rfl (j0 hb (T.clO) (T.nO_kept_canal) (hf.1) (q)))
theorem LS:jS 1 ["self"] nV:=jR
include T in
theorem G5 (F:Fun K "state" "Book.state" nV f fd) : FnOk P w K mg base jQ 1 f fd ["self"] (vD (jF cP cB cU) cR cN cO QG):=by
 refine F.ok2 LS fun vs H Q E h=>?_
 refine yC h fun b x A R L N B h=>?_
 refine qT h fun e_ hq q=>?_
 subst e_;refine ⟨rfl,fun _ _ _ _ hr=>?_⟩;refine ⟨_,(jM (jZ K (pv 0) rfl)),?_⟩
 try dsimp only [jU,jT]
 obtain ⟨db,nl,wl,pl,ql,el,fs,hA,hb,hfl,hf,hnl,hpl,hql,hel,hnd,hwl⟩:=hq.ob;exact (jA rfl (j0 hb (T.clO) (T.nO_kept_state) (hf.2.2.2.1) (q)))
theorem LR:jS 1 ["self"] nS:=jR
include T in
theorem G0 (F:Fun K "names" "Book.names" nS f fd) : FnOk P w K mg base jQ 1 f fd ["self"] (vD (jF cP cB cU) cR cN cO (zG fun B=>B.zs.map V.str)):=by
 refine F.ok2 LR fun vs H Q E h=>?_
 refine yC h fun b x A R L N B h=>?_
 refine qT h fun e_ hq q=>?_
 subst e_;refine ⟨rfl,fun _ _ _ _ hr=>?_⟩;refine ⟨_,(jM (vO (zV K) (by rfl) T.xu aS (jB (jZ K (pv 0) rfl) jD))),?_⟩
 try dsimp only [jU,jT]
 obtain ⟨db,nl,wl,pl,ql,el,fs,hA,hb,hfl,hf,hnl,hpl,hql,hel,hnd,hwl⟩:=hq.ob;exact (jA rfl (j0 hb (T.clO) (T.nO_kept_names) (hf.2.1) (⟨nl,jA rfl (⟨.inl (so hnl),fun l hl=>q l _ (jK hl _) hl jE⟩)⟩)))
theorem LU:jS 1 ["self"] nW:=jR
include T in
theorem G6 (F:Fun K "ways" "Book.ways" nW f fd) : FnOk P w K mg base jQ 1 f fd ["self"] (vD (jF cP cB cU) cR cN cO (zG BkS.us)):=by
 refine F.ok2 LU fun vs H Q E h=>?_
 refine yC h fun b x A R L N B h=>?_
 refine qT h fun e_ hq q=>?_
 subst e_;refine ⟨rfl,fun _ _ _ _ hr=>?_⟩;refine ⟨_,(jM (vO (zV K) (by rfl) T.xu aS (jB (jZ K (pv 0) rfl) jD))),?_⟩
 try dsimp only [jU,jT]
 obtain ⟨db,nl,wl,pl,ql,el,fs,hA,hb,hfl,hf,hnl,hpl,hql,hel,hnd,hwl⟩:=hq.ob;exact (jA rfl (j0 hb (T.clO) (T.nO_kept_ways) (hf.2.2.1) (⟨wl,jA rfl (⟨.inl (so (QB _ _ _ _ hwl)),fun l hl=>q l _ (jK hl _) hl jE⟩)⟩)))
theorem LQ:jS 1 ["self"] nQ:=jR
include T in
theorem GZ (F:Fun K "ledger" "Book.ledger" nQ f fd) : FnOk P w K mg base jQ 1 f fd ["self"] (vD (jF cP cB cU) cR cN cO (zG BkS.ps)):=by
 refine F.ok2 LQ fun vs H Q E h=>?_
 refine yC h fun b x A R L N B h=>?_
 refine qT h fun e_ hq q=>?_
 subst e_;refine ⟨rfl,fun _ _ _ _ hr=>?_⟩;refine ⟨_,(jM (vO (zV K) (by rfl) T.xu aS (jB (jZ K (pv 0) rfl) jD))),?_⟩
 try dsimp only [jU,jT]
 obtain ⟨db,nl,wl,pl,ql,el,fs,hA,hb,hfl,hf,hnl,hpl,hql,hel,hnd,hwl⟩:=hq.ob;exact (jA rfl (j0 hb (T.clO) (T.nO_kept_pours) (hf.2.2.2.2.1) (⟨pl,jA rfl (⟨.inl (so hpl),fun l hl=>q l _ (jK hl _) hl jE⟩)⟩)))
theorem LN:jS 1 ["self"] nO:=jR
include T in
theorem GW (F:Fun K "entries" "Book.entries" nO f fd) : FnOk P w K mg base jQ 1 f fd ["self"] (vD (jF cP cB cU) cR cN cO (zG BkS.es)):=by
 refine F.ok2 LN fun vs H Q E h=>?_
 refine yC h fun b x A R L N B h=>?_
 refine qT h fun e_ hq q=>?_
 subst e_;refine ⟨rfl,fun _ _ _ _ hr=>?_⟩;refine ⟨_,(jM (vO (zV K) (by rfl) T.xu aS (jB (jZ K (pv 0) rfl) jD))),?_⟩
 try dsimp only [jU,jT]
 obtain ⟨db,nl,wl,pl,ql,el,fs,hA,hb,hfl,hf,hnl,hpl,hql,hel,hnd,hwl⟩:=hq.ob;exact (jA rfl (j0 hb (T.clO) (T.nO_kept_entries) (hf.2.2.2.2.2.2.1) (⟨el,jA rfl (⟨.inl (so hel),fun l hl=>q l _ (jK hl _) hl jE⟩)⟩)))
theorem LP:jS 1 ["self"] gM:=jR
include T in
theorem GY (F:Fun K "gatework" "Book.gatework" gM f fd) : FnOk P w K mg base jQ 1 f fd ["self"] (vD (jF cP cB cU) cR cN cO ER):=by
 refine F.ok2 LP fun vs H Q E h=>?_
 refine yC h fun b x A R L N B h=>?_
 refine qT h fun e_ hq q=>?_
 subst e_;refine ⟨rfl,fun _ _ _ _ hr=>?_⟩;refine ⟨_,(jM (JR ["name","words"] (vF 2 []) rfl (vM (j8 gM)) (cps 2 []) (yH (jZ K (pv 0) rfl)) (fun _ _ _ _ _=>(JJ (n:=2) K rfl (qI (kU (i:=0) (show List.Nodup (["name","words"]:List Str) from by decide +kernel) rfl (.inl rfl)) (qI (kU (i:=1) (show List.Nodup (["name","words"]:List Str) from by decide +kernel) rfl (.inl rfl)) zC)))) (fun _ _ _ _ _=>yR) (fun _ _ _ _ _=>(kD (jB (pv 0) (jB (vO (zV K) (by rfl) T.xu aS (jB (pv 1) jD)) jD)))))),?_⟩
 try dsimp only [jU,jT]
 obtain ⟨db,nl,wl,pl,ql,el,fs,hA,hb,hfl,hf,hnl,hpl,hql,hel,hnd,hwl⟩:=hq.ob;refine (jA rfl (j0 hb (T.clO) (T.nO_kept_words) (hf.2.2.2.2.2.1) (⟨ql,rfl,⟨_,so hql⟩,fun l hl=>?_⟩)));have hwd:=hq.wd.mono (WdAt.same (QB H A));have o1:=hq.ok.e15;have o2:=hq.ok.qn;refine bF (K:=K) (a:=ql) (xs:=B.qs) (fun i σ Hi=>∃(c1 c2:Option V) (vs:List V),σ=[c1,c2]∧Hi l=some (.lst vs)∧AllAt (WdNew H l Hi) vs (B.qd.take i)∧Same H Hi) (vK none none ([]) (vN rfl jE AllAt.nil (jK hl _))) (fun i σ Hi _ ⟨_,_,_,_,_,_,s⟩=>so (s _ _ hql)) ?_ ?_
 ·rintro i v σ Hi hv ⟨c1,c2,vs,rfl,hY,hA,sm⟩;have hi:=(ad.mp hv).1;obtain ⟨p,hp,t,lw,rfl,ht,hlw⟩:=hwd.2 i v hv;refine ⟨t,jA rfl (⟨SqT.of (sm _ _ ht),rfl,_,jA rfl (⟨_,_,rfl,rfl,?_⟩)⟩)⟩;refine v9 (qG (jA rfl (jA rfl (⟨lw,jA rfl (⟨.inl (so (sm _ _ hlw)),fun l2 hl2=>⟨zz2,fun t2 ht2=>?_⟩⟩)⟩))));have u:=jK hl2 (.lst (p.2.map V.str));have u2:=jK ht2 (.tup [V.str p.1,V.ref l2]);have hl2':=u2 _ _ (jE (H:=Hi) (a:=l2) (o:=.lst (p.2.map V.str)));have hY2:=u2 _ _ (u _ _ hY);have hvl:=hA.1;rw [bj] at hvl;refine ⟨vs,hY2,qX (by omega),_,_,vs++[.ref t2],rfl,jE,?_,qA hl ((sm.trans u).trans u2)⟩;rw [aL,hp];exact ((hA.mono (WdNew.same (u.trans u2))).snoc (v:=.ref t2) (x:=p) ⟨t2,l2,rfl,(sm.trans u).free ht2,sm.free hl2,(kT hY hl2).symm,jE,hl2'⟩).mono (WdNew.put hY2)
 rintro σ Hf ⟨c1,c2,vs,rfl,hY,hA,sm⟩;rw [hwd.1,aZ] at hA;exact q l vs Hf sm hl hY hA
theorem LL:jS 2 ["self","canal"] nI:=jR
include T in
theorem GS (F:Fun K "__init__" "Book.__init__" nI f fd) (xbE:Def P w K mg base 6 "begun" ["canal","ways"] [] (DL (jF cP cB cU) cR cN)):FnOk P w K mg base jQ 7 f fd ["self","canal"] (sO (jF cP cB cU) cR cN cO):=by
 refine F.ok2 LL fun vs H Q E h=>?_
 refine ZB h fun b db x R L N h=>?_
 refine ZC h fun e_ hb hcn hdr q=>?_
 subst e_;refine ⟨rfl,fun _ _ _ _ hr=>?_⟩;refine ⟨_,(@jG _ _ _ _ _ (vJ (pv 0) (pv 1) rfl)
   (@jG _ _ _ _ _ (vJ (pv 0) (kW jD) rfl)
   (@jG _ _ _ _ _ (vJ (pv 0) (kW jD) rfl)
   (@jG _ _ _ _ _ (vJ (pv 0) (jP xbE hr rfl (jB (pv 1) (jB (kW jD) jD))) rfl)
   (@jG _ _ _ _ _ (vJ (pv 0) (kW jD) rfl)
   (@jG _ _ _ _ _ (vJ (pv 0) (kW jD) rfl)
   (@kH _ _ _ (vJ (pv 0) (kW jD) rfl)))))))),?_⟩
 try dsimp only [jU,jT]
 have hT:=sJ hdr;have r1:R.length≤100:=by have:=hdr.r8;omega
 have l1₀:L.length≤100:=by have:=hdr.l8;omega
 have ln:∀(f:Str) (z:V) (fs:List (Str×V)) (m:Nat),fs.length≤m→(jL f z fs).length≤m+1:=fun f z fs m h=>aI (zK f z fs) (by omega)
 refine (jA rfl (jA rfl (⟨b,cO,db,jA rfl (⟨hb,T.clO,T.nO_kept_canal,(by show 0<1000;decide),?_⟩)⟩)));have l1:=ln "kept_canal" (.ref x) [] 0 (aj _);have b1:upd H b (.ins cO db (jL "kept_canal" (.ref x) [])) b=some (.ins cO db (jL "kept_canal" (.ref x) [])):=jE;have d1:Same (kL H [b]) (kL (upd H b (.ins cO db (jL "kept_canal" (.ref x) []))) [b]):=by rw [fM (by simp)];exact Same.refl _
 generalize upd H b (.ins cO db (jL "kept_canal" (.ref x) []))=H1 at b1 d1 ⊢;generalize hf1:jL "kept_canal" (.ref x) []=f1 at b1 l1 ⊢;refine ⟨aO _,fun nl hnl0=>(jA rfl (⟨b,cO,db,jA rfl (⟨(jK hnl0 _) _ _ b1,T.clO,T.nO_kept_names,by omega,?_⟩)⟩))⟩;have b2:(upd (upd H1 nl (.lst [])) b (.ins cO db (jL "kept_names" (.ref nl) f1))) b=some (.ins cO db (jL "kept_names" (.ref nl) f1)):=jE;have hnl:(upd (upd H1 nl (.lst [])) b (.ins cO db (jL "kept_names" (.ref nl) f1))) nl=some (.lst []):=put3 hnl0 b1;have nnl:nl≠b:=(kT b1 hnl0).symm;have d2:=lK (o:=.lst []) (o':=.ins cO db (jL "kept_names" (.ref nl) f1)) (by simp) hnl0 d1;have l2:=ln "kept_names" (.ref nl) _ _ l1;clear d1;generalize (upd (upd H1 nl (.lst [])) b (.ins cO db (jL "kept_names" (.ref nl) f1)))=H2 at b2 d2 hnl ⊢;clear b1 l1;generalize hf2:jL "kept_names" (.ref nl) f1=f2 at b2 l2 ⊢;refine ⟨aO _,fun wl hwl0=>(jA rfl (⟨b,cO,db,jA rfl (⟨(jK hwl0 _) _ _ b2,T.clO,T.nO_kept_ways,by omega,?_⟩)⟩))⟩;have b3:(upd (upd H2 wl (.lst [])) b (.ins cO db (jL "kept_ways" (.ref wl) f2))) b=some (.ins cO db (jL "kept_ways" (.ref wl) f2)):=jE;have hwl:(upd (upd H2 wl (.lst [])) b (.ins cO db (jL "kept_ways" (.ref wl) f2))) wl=some (.lst []):=put3 hwl0 b2;have nwl:wl≠b:=(kT b2 hwl0).symm;have nwl_nl:wl≠nl:=(kT hnl hwl0).symm
 replace hnl:(upd (upd H2 wl (.lst [])) b (.ins cO db (jL "kept_ways" (.ref wl) f2))) nl=some _:=put2 hwl0 hnl (by first|exact nnl|exact qV hnl b2 (fun z=>nomatch z))
 have d3:=RV (o:=.lst []) (o':=.ins cO db (jL "kept_ways" (.ref wl) f2)) (by simp) hwl0 d2;have l3:=ln "kept_ways" (.ref wl) _ _ l2;clear d2;generalize (upd (upd H2 wl (.lst [])) b (.ins cO db (jL "kept_ways" (.ref wl) f2)))=H3 at b3 d3 hwl hnl ⊢;clear b2 l2;generalize hf3:jL "kept_ways" (.ref wl) f2=f3 at b3 l3 ⊢;refine (jA rfl (⟨aO _,fun e0 he0=>?_⟩));have u1:=jK he0 (.lst []);have hc3:CnAt (jF cP cB cU) cR cN [] (upd H3 e0 (.lst [])) x R L N:=(hcn.same d3).same ((y8 u1).trans (QB _ _));refine (kX x e0 ([]) ([]) R L N (zU rfl hc3 jE (aO _) r1 l1₀ hT (fun st wt zt Hs gs s4 g1 g2 hsp g3=>?_)));have hst:StAt Hs st 0 (Z2 (zN R L.length) (vC R L.length) gs) (List.replicate 0 0):=⟨wt,zt,g1,g2,g3⟩;have s34:=u1.trans s4
 replace b3:=s34 _ _ b3
 replace hnl:=s34 _ _ hnl
 replace hwl:=s34 _ _ hwl
 replace d3:=d3.trans (y8 s34)
 clear hc3 s34 s4 u1 g1 g2 g3;refine (jA rfl (⟨b,cO,db,jA rfl (⟨b3,T.clO,T.nO_kept_state,by omega,?_⟩)⟩));have l4:=ln "kept_state" (.ref st) _ _ l3;have b4:upd Hs b (.ins cO db (jL "kept_state" (.ref st) f3)) b=some (.ins cO db (jL "kept_state" (.ref st) f3)):=jE;have d4:Same (kL H [b]) (kL (upd Hs b (.ins cO db (jL "kept_state" (.ref st) f3))) [nl,b]):=by rw [fM (by simp)];exact d3
 have kp:Keep b Hs (upd Hs b (.ins cO db (jL "kept_state" (.ref st) f3))):=(Keep.refl b Hs).upd _
 replace hnl:=kp _ _ nnl hnl
 replace hwl:=kp _ _ nwl hwl
 replace hst:StAt (upd Hs b (.ins cO db (jL "kept_state" (.ref st) f3))) st 0 (Z2 (zN R L.length) (vC R L.length) gs) (List.replicate 0 0):=by
  obtain ⟨wt,zt,g1,g2,g3⟩:=hst;have k:∀(a:Addr) (l:List V),Hs a=some (.tup l)→_:=fun a l e=>kp a (.tup l) (qV e b3 (fun z=>nomatch z)) e
  exact ⟨wt,zt,k _ _ g1,k _ _ g2,k _ _ g3⟩
 generalize upd Hs b (.ins cO db (jL "kept_state" (.ref st) f3))=H4 at b4 d4 hnl hwl hst ⊢;clear kp b3 d3;generalize hf4:jL "kept_state" (.ref st) f3=f4 at b4 l4 ⊢;refine ⟨aO _,fun pl hpl0=>(jA rfl (⟨b,cO,db,jA rfl (⟨(jK hpl0 _) _ _ b4,T.clO,T.nO_kept_pours,by omega,?_⟩)⟩))⟩;have b5:(upd (upd H4 pl (.lst [])) b (.ins cO db (jL "kept_pours" (.ref pl) f4))) b=some (.ins cO db (jL "kept_pours" (.ref pl) f4)):=jE;have hpl:(upd (upd H4 pl (.lst [])) b (.ins cO db (jL "kept_pours" (.ref pl) f4))) pl=some (.lst []):=put3 hpl0 b4;have npl:pl≠b:=(kT b4 hpl0).symm;have npl_nl:pl≠nl:=(kT hnl hpl0).symm
 replace hnl:(upd (upd H4 pl (.lst [])) b (.ins cO db (jL "kept_pours" (.ref pl) f4))) nl=some _:=put2 hpl0 hnl (by first|exact nnl|exact qV hnl b4 (fun z=>nomatch z))
 have npl_wl:pl≠wl:=(kT hwl hpl0).symm
 replace hwl:(upd (upd H4 pl (.lst [])) b (.ins cO db (jL "kept_pours" (.ref pl) f4))) wl=some _:=put2 hpl0 hwl (by first|exact nwl|exact qV hwl b4 (fun z=>nomatch z))
 replace hst:=StAt.put2 (o:=.lst []) (o':=.ins cO db (jL "kept_pours" (.ref pl) f4)) hpl0 b4 hst
 have d5:=lK (o:=.lst []) (o':=.ins cO db (jL "kept_pours" (.ref pl) f4)) (by simp) hpl0 d4;have l5:=ln "kept_pours" (.ref pl) _ _ l4;clear d4;generalize (upd (upd H4 pl (.lst [])) b (.ins cO db (jL "kept_pours" (.ref pl) f4)))=H5 at b5 d5 hpl hnl hwl hst ⊢;clear b4 l4;generalize hf5:jL "kept_pours" (.ref pl) f4=f5 at b5 l5 ⊢;refine ⟨aO _,fun ql hql0=>(jA rfl (⟨b,cO,db,jA rfl (⟨(jK hql0 _) _ _ b5,T.clO,T.nO_kept_words,by omega,?_⟩)⟩))⟩;have b6:(upd (upd H5 ql (.lst [])) b (.ins cO db (jL "kept_words" (.ref ql) f5))) b=some (.ins cO db (jL "kept_words" (.ref ql) f5)):=jE;have hql:(upd (upd H5 ql (.lst [])) b (.ins cO db (jL "kept_words" (.ref ql) f5))) ql=some (.lst []):=put3 hql0 b5;have nql:ql≠b:=(kT b5 hql0).symm;have nql_nl:ql≠nl:=(kT hnl hql0).symm
 replace hnl:(upd (upd H5 ql (.lst [])) b (.ins cO db (jL "kept_words" (.ref ql) f5))) nl=some _:=put2 hql0 hnl (by first|exact nnl|exact qV hnl b5 (fun z=>nomatch z))
 have nql_wl:ql≠wl:=(kT hwl hql0).symm
 replace hwl:(upd (upd H5 ql (.lst [])) b (.ins cO db (jL "kept_words" (.ref ql) f5))) wl=some _:=put2 hql0 hwl (by first|exact nwl|exact qV hwl b5 (fun z=>nomatch z))
 have nql_pl:ql≠pl:=(kT hpl hql0).symm
 replace hpl:(upd (upd H5 ql (.lst [])) b (.ins cO db (jL "kept_words" (.ref ql) f5))) pl=some _:=put2 hql0 hpl (by first|exact npl|exact qV hpl b5 (fun z=>nomatch z))
 replace hst:=StAt.put2 (o:=.lst []) (o':=.ins cO db (jL "kept_words" (.ref ql) f5)) hql0 b5 hst
 have d6:=lK (o:=.lst []) (o':=.ins cO db (jL "kept_words" (.ref ql) f5)) (by simp) hql0 d5;have l6:=ln "kept_words" (.ref ql) _ _ l5;clear d5;generalize (upd (upd H5 ql (.lst [])) b (.ins cO db (jL "kept_words" (.ref ql) f5)))=H6 at b6 d6 hql hnl hwl hpl hst ⊢;clear b5 l5;generalize hf6:jL "kept_words" (.ref ql) f5=f6 at b6 l6 ⊢;refine ⟨aO _,fun el hel0=>(jA rfl (⟨b,cO,db,jA rfl (⟨(jK hel0 _) _ _ b6,T.clO,T.nO_kept_entries,by omega,?_⟩)⟩))⟩;have b7:(upd (upd H6 el (.lst [])) b (.ins cO db (jL "kept_entries" (.ref el) f6))) b=some (.ins cO db (jL "kept_entries" (.ref el) f6)):=jE;have hel:(upd (upd H6 el (.lst [])) b (.ins cO db (jL "kept_entries" (.ref el) f6))) el=some (.lst []):=put3 hel0 b6;have nel:el≠b:=(kT b6 hel0).symm;have nel_nl:el≠nl:=(kT hnl hel0).symm
 replace hnl:(upd (upd H6 el (.lst [])) b (.ins cO db (jL "kept_entries" (.ref el) f6))) nl=some _:=put2 hel0 hnl (by first|exact nnl|exact qV hnl b6 (fun z=>nomatch z))
 have nel_wl:el≠wl:=(kT hwl hel0).symm
 replace hwl:(upd (upd H6 el (.lst [])) b (.ins cO db (jL "kept_entries" (.ref el) f6))) wl=some _:=put2 hel0 hwl (by first|exact nwl|exact qV hwl b6 (fun z=>nomatch z))
 have nel_pl:el≠pl:=(kT hpl hel0).symm
 replace hpl:(upd (upd H6 el (.lst [])) b (.ins cO db (jL "kept_entries" (.ref el) f6))) pl=some _:=put2 hel0 hpl (by first|exact npl|exact qV hpl b6 (fun z=>nomatch z))
 have nel_ql:el≠ql:=(kT hql hel0).symm
 replace hql:(upd (upd H6 el (.lst [])) b (.ins cO db (jL "kept_entries" (.ref el) f6))) ql=some _:=put2 hel0 hql (by first|exact nql|exact qV hql b6 (fun z=>nomatch z))
 replace hst:=StAt.put2 (o:=.lst []) (o':=.ins cO db (jL "kept_entries" (.ref el) f6)) hel0 b6 hst
 have d7:=lK (o:=.lst []) (o':=.ins cO db (jL "kept_entries" (.ref el) f6)) (by simp) hel0 d6;have l7:=ln "kept_entries" (.ref el) _ _ l6;clear d6;generalize (upd (upd H6 el (.lst [])) b (.ins cO db (jL "kept_entries" (.ref el) f6)))=H7 at b7 d7 hel hnl hwl hpl hql hst ⊢;clear b6 l6;generalize hf7:jL "kept_entries" (.ref el) f6=f7 at b7 l7 ⊢;have F:=T7 (.ref x) (.ref nl) (.ref wl) (.ref st) (.ref pl) (.ref ql) (.ref el);rw [hf1,hf2,hf3,hf4,hf5,hf6,hf7] at F;have p5:∀a∈[b,nl,pl,ql,el],a∈[el,ql,pl,nl,b]:=fun a h=>by simp only [aq,aE,bx] at h ⊢;rcases h with h|h|h|h|h<;>simp [h]
 have d8:=d7.trans (SA p5);have nT:∀a∈[b,nl,pl,ql,el],∀l,H7 a≠some (.tup l):=fun a h l e=>by
  simp only [aq,aE,bx] at h
  rcases h with rfl|rfl|rfl|rfl|rfl
  ·rw [b7] at e;cases e
  ·rw [hnl] at e;cases e
  ·rw [hpl] at e;cases e
  ·rw [hql] at e;cases e
  ·rw [hel] at e;cases e
 have hwl':kL H7 [b,nl,pl,ql,el] wl=some (.lst []):=by
  rw [v7]
  ·exact hwl
  ·simp only [aq,aE,bx,not_or];exact ⟨nwl,nwl_nl,npl_wl.symm,nql_wl.symm,nel_wl.symm⟩
 have nd:[nl,pl,ql,el].Nodup:=by
  simp only [gb,aq,aE,bx,not_or,not_false_eq_true,nodup_nil,and_true];exact ⟨⟨npl_nl.symm,nql_nl.symm,nel_nl.symm⟩,⟨nql_pl.symm,nel_pl.symm⟩,nel_ql.symm⟩
 refine q [b,nl,pl,ql,el] ⟨[],[],0,Z2 (zN R L.length) (vC R L.length) gs,[],[],st,[],[],[],[]⟩ H7 ⟨(kX db nl wl pl ql el f7 (FT rfl b7 (by show f7.length≤7+2*0;omega) F hnl hpl hql hel nd hwl')),hcn.same d8,AllAt.nil,StAt.del nT hst,AllAt.nil,?_⟩ rfl rfl d8;exact ⟨hdr,⟨rfl,aO _,(fun y hy=>by cases hy),fun i y p hy=>by cases hy⟩,by show (Z2 _ _ _).length=_;unfold Z2;rw [J4,eY],Int.le_refl _,rfl,aO _,aO _,aO _,aO _,(fun z hz=>by cases hz),fun z hz=>by cases hz⟩
theorem M7:jS 2 ["word","signs"] iD:=jR
include T in
theorem LI (F:kB K "written_with" iD f fd) : FnOk P w K mg base jQ 1 f fd ["word","signs"] (EF):=by
 refine F.ok2 M7 fun vs H Q E h=>?_
 obtain ⟨w,S,rfl,hw,q⟩:=h;refine ⟨rfl,fun _ _ _ _ hr=>?_⟩;refine ⟨_,(jM (uU (RJ l9 l9 jC (y7 NI (by rfl) T.xl PySem.boot_len (jB (pv 0) jD)) (yK (v:=.int 12) rfl T.uf ⟨_,rfl⟩)) (uT (y7 (B3 rfl) (by rfl) T.jp PyProof.Rows.boot_all (jB (mL ["sign","signs"] [1] (vM (j8 iD)) (UL (pv 0)) (fun _ _ _ _ _=>(JY O3 (pv 0) (pv 1)))) jD))))),?_⟩
 try dsimp only [jU,jT]
 have hws:w.length≤sizeLine:=small (by omega);refine (jA rfl (⟨w,rfl,hws,_,_,rfl,rfl,jA rfl (?_)⟩));have bad:∀H':Hp,Same H H'→zE S w=false→Q (.bl false) H':=fun H' s e=>by
  have:=q H' s;rw [e] at this;exact this
 by_cases h1:(1:Int)≤((w.length:Nat):Int)
 ·refine kK h1 ⟨_,_,rfl,rfl,jA rfl (?_)⟩
  by_cases h2:((w.length:Nat):Int)≤12
  ·refine kK h2 (jA rfl (⟨w,rfl,fun D hD=>?_⟩));refine PZ (z:=w) (caps:=[some (.str S)]) (fun i ys Hi=>∃bs:List Bool,ys=bs.map V.bl∧bs.length=i∧bs.all id=cG S w i) hD ⟨[],rfl,rfl,rfl⟩ ?_ ?_
   ·rintro i c ys Hi hc hle sm hY ⟨bs,rfl,hbl,hba⟩;have hi:i<w.length:=(dm.mp hc).1;refine v9 (qG (jA rfl (jA rfl (⟨(⟨#[c]⟩:Str),S,rfl,rfl,?_⟩))));refine JH hD sm hY hle (by omega) (Same.refl _) ⟨bs++[mE S c],by rw [aH];rfl,by rw [af,hbl];rfl,?_⟩;rw [P6 hc,all_append,hba];simp
   ·rintro ys Hf sm hY hle ⟨bs,rfl,hbl,hba⟩;refine ⟨D,bs,rfl,so hY,?_⟩;have e:bs.all id=zE S w:=by
     unfold zE;rw [hba,aT (show 0<w.length by omega),aT (show w.length<13 by omega)];rfl
    rw [e];exact q Hf sm
  ·refine j5 h2 (bad H (Same.refl _) ?_);unfold zE;rw [aJ (show ¬w.length<13 by omega),Bool.and_false];rfl
 ·refine j5 h1 (jA rfl (vA (bad H (Same.refl _) ?_)));unfold zE;rw [aJ (show ¬0<w.length by omega)];rfl
theorem MN:jS 1 ["word"] pF:=jR
include T in
theorem IX (F:kB K "is_name" pF f fd) (jx:Def P w K mg base 1 "written_with" ["word","signs"] [] (EF)):FnOk P w K mg base jQ 2 f fd ["word"] (CO):=by
 refine F.ok2 MN fun vs H Q E h=>?_
 obtain ⟨w,rfl,hw,q⟩:=h;refine ⟨rfl,fun _ _ _ _ hr=>?_⟩;refine ⟨_,(jM (jP jx hr rfl (jB (pv 0) (jB (yK (v:=.str lettersS) rfl T.xaK ⟨_,rfl⟩) jD)))),?_⟩
 try dsimp only [jU,jT]
 exact (jA rfl (⟨w,lettersS,rfl,hw,q⟩))
theorem MG:jS 2 ["name","names"] o8:=jR
include T in
theorem IN (F:kB K "boat_called" o8 f fd) : FnOk P w K mg base (kF P w) 1 f fd ["name","names"] (EL eU):=by
 refine F.okX2 MG fun vs H Q E h=>?_
 refine fX h fun nm l zs h=>?_
 refine ZC h fun e_ hl h100 qv qe=>?_
 subst e_;refine ⟨rfl,fun _ _ _ _ hr=>?_⟩;refine ⟨_,(@jG _ _ _ _ _ (j9 (j6 NG (pv 0) (pv 1)) (@kH _ _ _ (QA J9 rfl rfl T.wf T.um (jB jO jD))) kC)
   (jM (yB aC PySem.F.slot_list_index PySem.F.type_list_index RP (pv 1) (jB (pv 0) jD)))),?_⟩
 try dsimp only [jU,jT]
 refine (jA rfl (jA rfl (⟨l,jA rfl (⟨.inl (so hl),rfl,sU zs,jA rfl (?_)⟩)⟩)));show if (!QN (V.str nm) (zs.map V.str))=true then _ else _
 cases hf:kM zs nm with
 |none =>
  rw [di.mpr fun h=>absurd (in_iff.mp h) (fun z=>z (iO hf))];exact qG ⟨by show 1≤sizeLine;decide,qe hf⟩
 |some i =>
  rw [mem_inV.mpr (au (cY hf).1)];obtain ⟨f1,f2,f3⟩:=PJ (cY hf);exact vA (jA rfl (⟨.inl ⟨rfl,_,so hl⟩,jA rfl (⟨l,_,_,i,rfl,rfl,hl,rfl,sU _,f1,by rw [ae] at f1;omega,f2,f3,qv i hf⟩)⟩))
theorem MT:jS 2 ["book","entry"] pK:=jR
include T in
theorem KJ (F:kB K "number_named" pK f fd) (jy:DefX P w K mg base 1 "boat_called" ["name","names"] [] (EL eU)) (xn:MeD P w K mg base 1 cO "names" ["self"] (vD (jF cP cB cU) cR cN cO (zG fun B=>B.zs.map V.str))) (zk:MeX P w K mg base 2 cN "lock_at" ["self","name"] (QZ (jF cP cB cU) cR cN eU 1)) (xc:MeD P w K mg base 1 cO "canal" ["self"] (QY (jF cP cB cU) cR cN cO)) (xq:MeX P w K mg base 2 cN "reach_at" ["self","name"] (QZ (jF cP cB cU) cR cN eU 0)):FnOk P w K mg base (kF P w) 3 f fd ["book","entry"] (qL (jF cP cB cU) cR cN cO (cD eU)):=by
 refine F.okX2 MT fun vs H Q E h=>?_
 refine yO h fun b t x A R L N B e h=>?_
 refine zI h fun e_ hq hen hsm hnum qv qe=>?_
 subst e_;refine ⟨rfl,fun _ _ _ _ hr=>?_⟩;refine ⟨_,(@jG _ _ _ _ _ (j9 (j6 kO (jH (jN K) (pv 1) jC) jO) (jM (qJ jy k7 hr rfl (jB (jH (jN K) (pv 1) jC) (jB (kS xn hr (pv 0)) jD)))) kC)
   (@jG _ _ _ _ _ (j9 (j6 kO (jH (jN K) (pv 1) jC) jO) (jM (zO zk k7 hr (kS xc hr (pv 0)) (jB (jH (jN K) (pv 1) jC) jD))) kC)
   (jM (zO xq k7 hr (kS xc hr (pv 0)) (jB (jH (jN K) (pv 1) jC) jD))))),?_⟩
 try dsimp only [jU,jT]
 obtain ⟨db,fs,hb,hno⟩:=hq.ins;have hcn:=hq.cnH;have hcn0:=hcn;have r8:=hq.ok.dr.r8;have l8:=hq.ok.dr.l8;have z9:=hq.ok.z9;cases e with
 |come e=>cases hnum
 |night W=>cases hnum
 |pas n =>
  refine (jA rfl (jI (SqT.of hen) rfl (⟨rfl,jA rfl (kK rfl (jA rfl (jI (SqT.of hen) rfl ((jA rfl (⟨b,db,jA rfl (⟨hb,hno _ (by decide +kernel),kX b x A R L N B (kJ rfl hq (fun l H1 s1 hl0 hl=>?_))⟩)⟩))))))⟩)));exact (vK n l B.zs (vX rfl hl (by omega) (fun i hi=>qv i hi H1 s1) (fun hi=>qe hi H1 s1)))
 |lt n =>
  refine (jA rfl (jI (SqT.of hen) rfl (⟨rfl,jA rfl (j5 (fun e=>absurd (V.str.inj e) (by decide +kernel)) (jA rfl (jI (SqT.of hen) rfl (⟨rfl,jA rfl (kK rfl ?_)⟩))))⟩)));refine (jA rfl (⟨b,db,jA rfl (⟨hb,hno _ (by decide +kernel),kX b x A R L N B (kJ rfl hq (?_))⟩)⟩));obtain ⟨dx,rl,ll,nl,gs,rs,ls,nv,hx,hf,hrl,hll,hnl,hR,hL,hN,d1,d2,d3⟩:=hcn;exact ⟨x,dx,jA rfl (⟨hx,hf.no (by decide +kernel) (by decide +kernel) (by decide +kernel),jA rfl (jI (SqT.of hen) rfl ((J3 x ([]) R L N n (qW rfl hcn0 (by omega) (by omega) (fun i hi H1 s1=>qv i (bG hi) H1 s1) (fun hi H1 s1=>qe (bH hi) H1 s1)))))⟩)⟩
 |take n a =>
  refine (jA rfl (jI (SqT.of hen) rfl (⟨rfl,jA rfl (j5 (fun e=>absurd (V.str.inj e) (by decide +kernel)) (jA rfl (jI (SqT.of hen) rfl (⟨rfl,jA rfl (j5 (fun e=>absurd (V.str.inj e) (by decide +kernel)) ?_)⟩))))⟩)));refine (jA rfl (⟨b,db,jA rfl (⟨hb,hno _ (by decide +kernel),kX b x A R L N B (kJ rfl hq (?_))⟩)⟩));obtain ⟨dx,rl,ll,nl,gs,rs,ls,nv,hx,hf,hrl,hll,hnl,hR,hL,hN,d1,d2,d3⟩:=hcn;exact ⟨x,dx,jA rfl (⟨hx,hf.no (by decide +kernel) (by decide +kernel) (by decide +kernel),jA rfl (jI (SqT.of hen) rfl ((J3 x ([]) R L N n (qW rfl hcn0 (by omega) (by omega) (fun i hi H1 s1=>qv i (bG hi) H1 s1) (fun hi H1 s1=>qe (bH hi) H1 s1)))))⟩)⟩
 |rain n a =>
  refine (jA rfl (jI (SqT.of hen) rfl (⟨rfl,jA rfl (j5 (fun e=>absurd (V.str.inj e) (by decide +kernel)) (jA rfl (jI (SqT.of hen) rfl (⟨rfl,jA rfl (j5 (fun e=>absurd (V.str.inj e) (by decide +kernel)) ?_)⟩))))⟩)));refine (jA rfl (⟨b,db,jA rfl (⟨hb,hno _ (by decide +kernel),kX b x A R L N B (kJ rfl hq (?_))⟩)⟩));obtain ⟨dx,rl,ll,nl,gs,rs,ls,nv,hx,hf,hrl,hll,hnl,hR,hL,hN,d1,d2,d3⟩:=hcn;exact ⟨x,dx,jA rfl (⟨hx,hf.no (by decide +kernel) (by decide +kernel) (by decide +kernel),jA rfl (jI (SqT.of hen) rfl ((J3 x ([]) R L N n (qW rfl hcn0 (by omega) (by omega) (fun i hi H1 s1=>qv i (bG hi) H1 s1) (fun hi H1 s1=>qe (bH hi) H1 s1)))))⟩)⟩
theorem xW:jS 2 ["book","entry","way"] pV:=jR
include T in
theorem KZ (F:kB K "refuse_wrong_come" pV f fd) (xbl:Def P w K mg base 2 "is_name" ["word"] [] (CO)) (xn:MeD P w K mg base 1 cO "names" ["self"] (vD (jF cP cB cU) cR cN cO (zG fun B=>B.zs.map V.str))) (wb:DefX P w K mg base 3 "way_told" ["canal","entry"] [] (sW (jF cP cB cU) cR cN eU)) (xc:MeD P w K mg base 1 cO "canal" ["self"] (QY (jF cP cB cU) cR cN cO)) (xbm:DefX P w K mg base 2 "linked" ["canal","start","steps"] [] (tO K (jF cP cB cU) cR cN eL)):FnOk P w K mg base (kF P w) 4 f fd ["book","entry"] (BL (jF cP cB cU) cR cN cO eB eT eM eU eL):=by
 refine F.okX2 xW fun vs H Q E h=>?_
 refine yO h fun b t x A R L N B e h=>?_
 refine y0 h fun e_ hq hco p2_ qv qe=>?_
 subst e_;obtain ⟨hl1,hl2,hl3⟩:=p2_;refine ⟨rfl,fun _ _ _ _ hr=>?_⟩;refine ⟨_,(@jG _ _ _ _ _ (j9 (bO (vP (jP xbl hr rfl (jB (jH (jN K) (pv 1) jC) jD)))) (@kH _ _ _ (QA J9 rfl rfl T.jr T.xa1 (jB jO jD))) kC)
   (@jG _ _ _ _ _ (j9 (j6 O4 (jH (jN K) (pv 1) jC) (kS xn hr (pv 0))) (@kH _ _ _ (QA J9 rfl rfl T.xaN T.xbi (jB jO jD))) kC)
   (@jG _ _ _ _ _ (j9 (j6 mB (qS K T.xl (kS xn hr (pv 0))) (yK (v:=.int 9) rfl T.ug ⟨_,rfl⟩)) (@kH _ _ _ (QA J9 rfl rfl T.xaG T.xaH (jB jO jD))) kC)
   (@jG _ _ _ _ _ (jV 2 xW.nd (qJ wb k7 hr rfl (jB (kS xc hr (pv 0)) (jB (pv 1) jD))))
   (@kH _ _ _ (qY (qJ xbm k7 hr rfl (j7 (kS xc hr (pv 0)) (jH (jN K) (pv 2) jC) (jH (jN K) (pv 2) jC))))))))),?_⟩
 try dsimp only [jU,jT]
 obtain ⟨db,fs,hb,hno⟩:=hq.ins;obtain ⟨st,us,h1,h2,h3⟩:=id hco;have r8:=hq.ok.dr.r8;have l8:=hq.ok.dr.l8;have bad:∀(n:Nat) (H':Hp),Same H H'→qZ R L B.zs e=n→n≠0→E (.ref (mQ eB eT eM eU eL n)) none H':=fun n H' s h1 h2=>by
  rw [← h1];exact qe (by rw [h1];exact h2) H' s
 refine (jA rfl (jI (SqT.of h1) rfl (⟨e.name,rfl,hl1,fun H1 s1=>(jA rfl (?_))⟩)));cases hg:zE lettersS e.name with
 |false =>
  have hc:qZ R L B.zs e=1:=by unfold qZ;rw [if_pos hg]
  exact qG ⟨by show 1≤sizeLine;decide,bad 1 H1 s1 hc (by decide)⟩
 |true =>
  have hg':¬zE lettersS e.name=false:=by rw [hg];decide
  refine vA (jA rfl (jI (SqT.of (s1 _ _ h1)) rfl ((jA rfl (⟨b,db,jA rfl (⟨(s1 _ _ hb),hno _ (by decide +kernel),kX b x A R L N B (kJ rfl (hq.same s1) (fun l H2 s2 hl0 hl=>?_))⟩)⟩)))));have s12:=s1.trans s2;refine ⟨l,jA rfl (⟨.inl (so hl),rfl,sU B.zs,jA rfl (?_)⟩)⟩;show if QN (V.str e.name) (B.zs.map V.str)=true then _ else _
  by_cases hz:e.name∈B.zs
  ·have hc:qZ R L B.zs e=2:=by unfold qZ;rw [if_neg hg',if_pos hz]
   rw [mem_inV.mpr hz];exact qG ⟨by show 1≤sizeLine;decide,bad 2 H2 s12 hc (by decide)⟩
  rw [di.mpr fun h=>hz (mem_inV.mp h)];refine vA (jA rfl (⟨b,db,jA rfl (⟨(s12 _ _ hb),hno _ (by decide +kernel),kX b x A R L N B (kJ rfl (hq.same s12) (fun l2 H3 s3 hl20 hl2'=>?_))⟩)⟩));have s13:=s12.trans s3;refine ⟨l2,jA rfl (⟨.inl (so hl2'),_,_,rfl,rfl,jA rfl (?_)⟩)⟩;rw [ae]
  by_cases h9:9≤B.zs.length
  ·have hc:qZ R L B.zs e=3:=by unfold qZ;rw [if_neg hg',if_neg hz,if_pos h9]
   exact kK (by omega) ⟨by show 1≤sizeLine;decide,bad 3 H3 s13 hc (by decide)⟩
  refine j5 (by omega) (jA rfl (⟨b,db,jA rfl (⟨(s13 _ _ hb),hno _ (by decide +kernel),kX b x A R L N B (kJ rfl (hq.same s13) (jA rfl ((kX x t e ([]) R L N (zU rfl ((hq.same s13).cnH) (by omega) (by omega) (hco.same s13) (by omega) (fun y hy w1 H4 s4 hw0 hwy=>?_) (fun hn H4 s4=>?_))))))⟩)⟩))
  case refine_2 =>
   have hc:qZ R L B.zs e=4:=by unfold qZ;rw [if_neg hg',if_neg hz,if_neg h9,hn]
   exact bad 4 H4 (s13.trans s4) hc (by decide)
  have s14:=s13.trans s4;obtain ⟨tw,sw,vs,ew,g1,g2,g3⟩:=id hwy;cases ew;obtain ⟨a,_,_,_,hyl,hlt⟩:=sR hy;refine (jA rfl (⟨b,db,jA rfl (⟨(s14 _ _ hb),hno _ (by decide +kernel),kX b x A R L N B (kJ rfl (hq.same s14) (jA rfl (jI (SqT.of g1) rfl ((jA rfl (jI (SqT.of g1) rfl ((vB x sw y.1 vs y.2 ([]) R L N (zU rfl ((hq.same s14).cnH) g2 g3 hlt (by omega) (fun hok r H5 s5 hr0 hr=>?_) (fun hnok H5 s5=>?_))))))))))⟩)⟩))
  ·have hc:qZ R L B.zs e=0:=by unfold qZ;rw [if_neg hg',if_neg hz,if_neg h9,hy];exact if_pos hok
   exact qv hc H5 (s14.trans s5)
  ·have hc:qZ R L B.zs e=5:=by unfold qZ;rw [if_neg hg',if_neg hz,if_neg h9,hy];exact if_neg hnok
   exact bad 5 H5 (s14.trans s5) hc (by decide)
theorem rS:jS 2 ["book","weather","canal","day"] pW:=jR
include T in
theorem K0 (F:kB K "refuse_wrong_night" pW f fd) (xc:MeD P w K mg base 1 cO "canal" ["self"] (QY (jF cP cB cU) cR cN cO)) (xb:MeD P w K mg base 1 cO "state" ["self"] (vD (jF cP cB cU) cR cN cO QG)) (xaP:Def P w K mg base 1 "wet_enough" ["weather","other"] [] (EH)):FnOk P w K mg base (kF P w) 3 f fd ["book","weather"] (AN (jF cP cB cU) cR cN cO eN eD):=by
 refine F.okX2 rS fun vs H Q E h=>?_
 refine dX h fun b wt x A R L N B us W h=>?_
 refine QL h fun e_ hq hwt hA h100 q0 q7 q8=>?_
 subst e_;refine ⟨rfl,fun _ _ _ _ hr=>?_⟩;refine ⟨_,(@jG _ _ _ _ _ (jV 2 rS.nd (kS xc hr (pv 0)))
   (@jG _ _ _ _ _ (jV 3 rS.nd (jH (jN K) (kS xb hr (pv 0)) jC))
   (@jG _ _ _ _ _ (j9 (j6 ZW (qS K T.xl (pv 1)) (qS K T.xl (jZ K (pv 2) rfl))) (@kH _ _ _ (QA J9 rfl rfl T.vx T.jd (jB jO jD))) kC)
   (@kH _ _ _ (j9 (PW.pt (fP (j6 Q1 (pv 3) (qS K T.xl (jZ K (pv 2) rfl))) (fH (bO (vP (jP xaP hr rfl (jB (pv 1) (jB (jH (kR K) (jZ K (pv 2) rfl) (pv 3)) jD)))))))) (@kH _ _ _ (QA J9 rfl rfl T.jt T.xa2 (jB jO jD))) kC))))),?_⟩
 try dsimp only [jU,jT]
 obtain ⟨db,fs,hb,hno⟩:=hq.ins;have hcn:=hq.cnH;obtain ⟨dx,rl,ll,nl,gs,rs,ls,nv,hx,hf,hrl,hll,hnl,hR,hL,hN,d1,d2,d3⟩:=id hcn;have hst:=hq.stH;obtain ⟨ww,pt,g1,g2,g3⟩:=hst;have r8:=hq.ok.dr.r8;have d0:=hq.ok.d0;refine (jA rfl (⟨b,db,jA rfl (⟨hb,hno _ (by decide +kernel),kX b x A R L N B (kJ rfl hq (?_))⟩)⟩));refine (jA rfl (⟨b,db,jA rfl (⟨hb,hno _ (by decide +kernel),kX b x A R L N B (kJ rfl hq (jI (SqT.of g1) rfl (?_)))⟩)⟩));refine (jA rfl (⟨wt,jA rfl (⟨.inr (SqT.of hwt),jA rfl (j0 hx (T.clN) (T.xf) (hf.1) (⟨rl,jA rfl (⟨.inl (so hrl),rfl,jA rfl (?_)⟩)⟩))⟩)⟩));have hul:=hA.1;have hrl':=hR.1;have hc:kE R L N B (.night W)=if W.length=R.length then (if B.d<(N.length:Int)∧JC W (N.getD B.d.toNat [])=false then 8 else 0) else 7:=rfl
 by_cases hw:W.length=R.length
 case neg =>
  rw [if_neg hw] at hc;exact ZX (fun z=>hw (by have:=V.int.inj z;omega)) ⟨by show 1≤sizeLine;decide,q7 hc H (Same.refl _)⟩
 rw [if_pos hw] at hc;refine ZY (bu V.int (by omega)) ?_;have hnl':=hN.1;refine (jA rfl (jA rfl (j0 hx (T.clN) (T.xm) (hf.2.2.1) (⟨nl,jA rfl (⟨.inl (so hnl),_,_,rfl,rfl,jA rfl (?_)⟩)⟩))))
 by_cases hd:B.d<(N.length:Int)
 case neg =>
  rw [if_neg (fun z=>hd z.1)] at hc;exact j5 (by omega) (q0 hc H (Same.refl _))
 obtain ⟨dn,hdn⟩:∃dn:Nat,B.d=(dn:Int):=⟨B.d.toNat,by omega⟩;obtain ⟨W',hW'⟩:∃W',N[dn]?=some W':=⟨_,aa (by omega)⟩;obtain ⟨v,hv,wn,qs,rfl,hwn,hqs,_⟩:=hN.get hW';have eW:N.getD B.d.toNat []=W':=by rw [hdn,ay,ac,hW'];rfl
 rw [eW] at hc;have hWl:=hq.ok.dr.night W' (au hW');refine kK (by omega) (jA rfl (jA rfl (j0 hx (T.clN) (T.xm) (hf.2.2.1) ((jA rfl (⟨nl,_,_,jA rfl (⟨by rw [hdn],so hnl,kY hv,J3 wt wn us qs W W' (zU rfl hwt hwn hA hqs (by omega) h100 (fun H1 s1=>(jA rfl (?_))))⟩)⟩))))));cases hb2:JC W W' with
 |true =>
  rw [hb2,if_neg (fun z=>nomatch z.2)] at hc;exact vA (q0 hc H1 s1)
 |false =>
  rw [hb2,if_pos ⟨hd,rfl⟩] at hc;exact qG ⟨by show 1≤sizeLine;decide,q8 hc H1 s1⟩
theorem MX:jS 2 ["book","entry"] pU:=jR
include T in
theorem KY (F:kB K "refuse_wrong" pU f fd) (wc:DefX P w K mg base 4 "refuse_wrong_come" ["book","entry"] [] (BL (jF cP cB cU) cR cN cO eB eT eM eU eL)) (vq:DefX P w K mg base 3 "refuse_wrong_night" ["book","weather"] [] (AN (jF cP cB cU) cR cN cO eN eD)) (xi:DefX P w K mg base 3 "number_named" ["book","entry"] [] (qL (jF cP cB cU) cR cN cO (cD eU))):FnOk P w K mg base (kF P w) 5 f fd ["book","entry"] (qL (jF cP cB cU) cR cN cO (FR eB eT eM eU eL eN eD)):=by
 refine F.okX2 MX fun vs H Q E h=>?_
 refine yO h fun b t x A R L N B e h=>?_
 refine y0 h fun e_ hq hen hsm qv qe=>?_
 subst e_;refine ⟨rfl,fun _ _ _ _ hr=>?_⟩;refine ⟨_,(@kH _ _ _ (j9 (j6 kO (jH (jN K) (pv 1) jC) jO) (@kH _ _ _ (qY (qJ wc k7 hr rfl (jB (pv 0) (jB (pv 1) jD))))) (@kH _ _ _ (j9 (j6 kO (jH (jN K) (pv 1) jC) jO) (@kH _ _ _ (qY (qJ vq k7 hr rfl (jB (pv 0) (jB (jH (jN K) (pv 1) jC) jD))))) (@kH _ _ _ (qY (qJ xi k7 hr rfl (jB (pv 0) (jB (pv 1) jD))))))))),?_⟩
 try dsimp only [jU,jT]
 have num:Q3 e=true→cD eU R L N B t e H (fun _ H'=>Q .non H') E:=fun h=>by
  have hc:kE R L N B e=if JV R L B.zs e=none then 4 else 0:=by cases e<;>first|rfl|cases h
  refine ⟨h,fun i hi H' s=>qv (by rw [hc,if_neg (by rw [hi];simp)]) H' s,fun hi H' s=>?_⟩;rw [if_pos hi] at hc;have:=qe (by rw [hc];decide) H' s;rw [hc] at this;exact this
 by_cases hnum:Q3 e=true
 ·obtain ⟨tl,hh⟩:=hen.head;obtain ⟨k1,k2⟩:=C3 hnum;exact (jA rfl (jI (SqT.of hh) yU (⟨rfl,jA rfl (j5 (fun z=>k1 (V.str.inj z)) (jA rfl (jI (SqT.of hh) yU (⟨rfl,jA rfl (j5 (fun z=>k2 (V.str.inj z)) (jA rfl (jA rfl ((vB b t x A R L N B e (vX rfl hq hen hsm (num hnum)))))))⟩))))⟩)))
 cases e with
 |pas n=>exact absurd rfl hnum
 |lt n=>exact absurd rfl hnum
 |take n a=>exact absurd rfl hnum
 |rain n a=>exact absurd rfl hnum
 |come e =>
  obtain ⟨st,us,h1,h2,h3⟩:=id hen;refine (jA rfl (jI (SqT.of h1) rfl (⟨rfl,jA rfl (kK rfl (jA rfl (jA rfl ((vB b t x A R L N B e (qW rfl hq hen hsm qv (fun hc H' s=>?_)))))))⟩)));have:=qe hc H' s;have hE:QK eB eT eM eU eL eN eD (kE R L N B (.come e))=mQ eB eT eM eU eL (qZ R L B.zs e):=by
   show QK eB eT eM eU eL eN eD (qZ R L B.zs e)=_;have:=SE R L B.zs e;unfold QK;rw [if_neg (by omega),if_neg (by omega)]
  rw [hE] at this;exact this
 |night W =>
  obtain ⟨wt,us,h1,h2,h3⟩:=id hen;refine (jA rfl (jI (SqT.of h1) rfl (⟨rfl,jA rfl (j5 (fun e=>absurd (V.str.inj e) (by decide +kernel)) (jA rfl (jI (SqT.of h1) rfl (⟨rfl,jA rfl (kK rfl (jA rfl (jA rfl (jI (SqT.of h1) rfl ((Z4 b wt x A R L N B us W (zU rfl hq h2 h3 hsm qv (fun hc H' s=>?_) (fun hc H' s=>?_))))))))⟩))))⟩)))
  ·have:=qe (by rw [hc];decide) H' s;rw [hc] at this;exact this
  ·have:=qe (by rw [hc];decide) H' s;rw [hc] at this;exact this
theorem MI:jS 2 ["book","entry"] pA:=jR
include T in
theorem IQ (F:kB K "deed_of" pA f fd) (xi:DefX P w K mg base 3 "number_named" ["book","entry"] [] (qL (jF cP cB cU) cR cN cO (cD eU))):FnOk P w K mg base (kF P w) 4 f fd ["book","entry"] (qL (jF cP cB cU) cR cN cO mD):=by
 refine F.okX2 MI fun vs H Q E h=>?_
 refine yO h fun b t x A R L N B e h=>?_
 refine ZC h fun e_ hq hen hsm p3_=>?_
 subst e_;obtain ⟨de,hde,q⟩:=p3_;refine ⟨rfl,fun _ _ _ _ hr=>?_⟩;refine ⟨_,(@jG _ _ _ _ _ (j9 (j6 kO (jH (jN K) (pv 1) jC) jO) (jM (kD (jB jO jD))) kC)
   (@jG _ _ _ _ _ (j9 (PW.pt (lY (j6 kO (jH (jN K) (pv 1) jC) jO) (lM (j6 kO (jH (jN K) (pv 1) jC) jO)))) (jM (kD (jB (jH (jN K) (pv 1) jC) (jB (qJ xi k7 hr rfl (jB (pv 0) (jB (pv 1) jD))) jD)))) kC)
   EM)),?_⟩
 try dsimp only [jU,jT]
 cases e with
 |come e=>cases hde
 |take n a=>cases hde
 |rain n a=>cases hde
 |night W =>
  cases hde;obtain ⟨wt,us,h1,h2,h3⟩:=id hen;exact (jA rfl (jI (SqT.of h1) rfl (⟨rfl,jA rfl (kK rfl ⟨zz1,fun dd hdd=>q dd _ (jK hdd _) jE⟩)⟩)))
 |pas n =>
  obtain ⟨i,hi,rfl⟩:=aW.mp hde;refine (jA rfl (jI (SqT.of hen) rfl (⟨rfl,jA rfl (j5 (fun e=>absurd (V.str.inj e) (by decide +kernel)) (jA rfl (jI (SqT.of hen) rfl (⟨rfl,jA rfl (kK rfl (jA rfl (jI (SqT.of hen) rfl ((jA rfl (jA rfl (⟨b,t,x,A,R,L,N,B,.pas n,rfl,hq,hen,hsm,rfl,fun j hj H1 s1=>⟨zz2,fun dd hdd=>?_⟩,fun hn=>absurd (hi.symm.trans hn) (by simp)⟩)))))))⟩))))⟩)));cases hi.symm.trans hj;exact q dd _ (s1.trans (jK hdd _)) jE
 |lt n =>
  obtain ⟨i,hi,rfl⟩:=aW.mp hde;refine (jA rfl (jI (SqT.of hen) rfl (⟨rfl,jA rfl (j5 (fun e=>absurd (V.str.inj e) (by decide +kernel)) (jA rfl (jI (SqT.of hen) rfl (⟨rfl,jA rfl (j5 (fun e=>absurd (V.str.inj e) (by decide +kernel)) (jA rfl (jI (SqT.of hen) rfl (⟨rfl,jA rfl (kK rfl (jA rfl (jI (SqT.of hen) rfl ((jA rfl (jA rfl (⟨b,t,x,A,R,L,N,B,.lt n,rfl,hq,hen,hsm,rfl,fun j hj H1 s1=>⟨zz2,fun dd hdd=>?_⟩,fun hn=>absurd (hi.symm.trans hn) (by simp)⟩)))))))⟩))))⟩))))⟩)));cases hi.symm.trans hj;exact q dd _ (s1.trans (jK hdd _)) jE
theorem xY:jS 2 ["book","entry","at"] rD:=jR
include T in
theorem K8 (F:kB K "takes_too_much" rD f fd) (xi:DefX P w K mg base 3 "number_named" ["book","entry"] [] (qL (jF cP cB cU) cR cN cO (cD eU))) (xb:MeD P w K mg base 1 cO "state" ["self"] (vD (jF cP cB cU) cR cN cO QG)) (xc:MeD P w K mg base 1 cO "canal" ["self"] (QY (jF cP cB cU) cR cN cO)):FnOk P w K mg base (kF P w) 4 f fd ["book","entry"] (qL (jF cP cB cU) cR cN cO FA):=by
 refine F.okX2 xY fun vs H Q E h=>?_
 obtain ⟨b,t,x,A,R,L,N,B,e,rfl,hq,hen,hsm,n,a,i,rfl,hi,q⟩:=h;refine ⟨rfl,fun _ _ _ _ hr=>?_⟩;refine ⟨_,(@jG _ _ _ _ _ (jV 2 xY.nd (qJ xi k7 hr rfl (jB (pv 0) (jB (pv 1) jD))))
   (jM (JY Q1 (@jJ _ _ _ _ _ _ _ _ yL (jH (jN K) (jH (jN K) (kS xb hr (pv 0)) jC) (pv 2)) (jH (jN K) (pv 1) jC)) (jZ K (jH (kR K) (jZ K (kS xc hr (pv 0)) rfl) (pv 2)) rfl)))),?_⟩
 try dsimp only [jU,jT]
 obtain ⟨db,fs,hb,hno⟩:=hq.ins;refine (jA rfl (jA rfl (⟨b,t,x,A,R,L,N,B,.take n a,rfl,hq,hen,hsm,rfl,fun j hj H1 s1=>?_,fun hn=>absurd (hi.symm.trans hn) (by simp)⟩)));cases hi.symm.trans hj;have hcn:=(hq.same s1).cnH;obtain ⟨dx,rl,ll,nl,gs,rs,ls,nv,hx,hf,hrl,hll,hnl,hR,hL,hN,d1,d2,d3⟩:=id hcn;obtain ⟨ww,pt,g1,g2,g3⟩:=(hq.same s1).stH;have ml:=hq.ok.ml;have hiR:=ZK hi;rw [ae] at hiR;obtain ⟨r,hr⟩:∃r,R[i]?=some r:=⟨_,aa hiR⟩;obtain ⟨z,hz,yr,rfl,dy,hs,hyr,hg⟩:=hR.get hr;have hen1:=s1 _ _ hen;refine (jA rfl (⟨b,db,jA rfl (⟨(s1 _ _ hb),hno _ (by decide +kernel),kX b x A R L N B (kJ rfl (hq.same s1) (jI (SqT.of g1) rfl ((jA rfl (jI (SqT.of g2) (yJ (by omega)) ((jA rfl (jI (SqT.of hen1) rfl (jY (?_))))))))))⟩)⟩));refine (jA rfl (⟨b,db,jA rfl (⟨(s1 _ _ hb),hno _ (by decide +kernel),kX b x A R L N B (kJ rfl (hq.same s1) (j0 hx (T.clN) (T.xf) (hf.1) ((jA rfl (kZ (so hrl) (kY hz) (j0 hyr (T.clR) (T.zm) (hg.2.1) (jY (?_))))))))⟩)⟩));have q:=q H1 s1;rw [hr] at q;exact q
theorem x0:jS 2 ["book","entry","start"] rF:=jR
include T in
theorem LD (F:kB K "why_no_entry" rF f fd) (xq:MeX P w K mg base 2 cN "reach_at" ["self","name"] (QZ (jF cP cB cU) cR cN eU 0)) (xc:MeD P w K mg base 1 cO "canal" ["self"] (QY (jF cP cB cU) cR cN cO)) (zr:Def P w K mg base 5 "has_no_berth" ["canal","ways","state","reach"] [] (sY (jF cP cB cU) cR cN)) (xk:MeD P w K mg base 1 cO "ways" ["self"] (vD (jF cP cB cU) cR cN cO (zG BkS.us))) (xb:MeD P w K mg base 1 cO "state" ["self"] (vD (jF cP cB cU) cR cN cO QG)) (uh:DefX P w K mg base 4 "takes_too_much" ["book","entry"] [] (qL (jF cP cB cU) cR cN cO FA)) (uq:Def P w K mg base 8 "why_not" ["canal","ways","state","deed"] [] (uM (jF cP cB cU) cR cN)) (zu:DefX P w K mg base 4 "deed_of" ["book","entry"] [] (qL (jF cP cB cU) cR cN cO mD)):FnOk P w K mg base (kF P w) 9 f fd ["book","entry"] (qL (jF cP cB cU) cR cN cO FQ):=by
 refine F.okX2 x0 fun vs H Q E h=>?_
 refine yO h fun b t x A R L N B e h=>?_
 refine y0 h fun e_ hq hen hsm hc q=>?_
 subst e_;refine ⟨rfl,fun _ _ _ _ hr=>?_⟩;refine ⟨_,(@jG _ _ _ _ _ (j9 (j6 kO (jH (jN K) (pv 1) jC) jO) (@jG _ _ _ _ _ (jV 2 x0.nd (zO xq k7 hr (kS xc hr (pv 0)) (jB (jH (jN K) (pv 1) jC) jD)))
   (jM (zL (vP (jP zr hr rfl (vG (kS xc hr (pv 0)) (kS xk hr (pv 0)) (kS xb hr (pv 0)) (pv 2)))) jO jO))) kC)
   (@jG _ _ _ _ _ (j9 (j6 kO (jH (jN K) (pv 1) jC) jO) (jM (zL (vP (qJ uh k7 hr rfl (jB (pv 0) (jB (pv 1) jD)))) jO jO)) kC)
   (@jG _ _ _ _ _ (j9 (j6 kO (jH (jN K) (pv 1) jC) jO) (jM jO) kC)
   (jM (jP uq hr rfl (vG (kS xc hr (pv 0)) (kS xk hr (pv 0)) (kS xb hr (pv 0)) (qJ zu k7 hr rfl (jB (pv 0) (jB (pv 1) jD))))))))),?_⟩
 try dsimp only [jU,jT]
 obtain ⟨db,fs,hb,hno⟩:=hq.ins;have r8:=hq.ok.dr.r8;have l8:=hq.ok.dr.l8
 by_cases hdd:dJ e=true
 ·obtain ⟨tl,hh⟩:=hen.head;obtain ⟨k1,k2,k3⟩:=tE hdd;obtain ⟨de,hde,hin,hwy,_⟩:=uI hq.ok.zl hdd hc;rw [hwy] at q;refine (jA rfl (jI (SqT.of hh) yU (⟨rfl,jA rfl (j5 (fun z=>k1 (V.str.inj z)) (jA rfl (jI (SqT.of hh) yU (⟨rfl,jA rfl (j5 (fun z=>k2 (V.str.inj z)) (jA rfl (jI (SqT.of hh) yU (⟨rfl,jA rfl (j5 (fun z=>k3 (V.str.inj z)) ?_)⟩))))⟩))))⟩)));refine (jA rfl (⟨b,db,jA rfl (⟨hb,hno _ (by decide +kernel),kX b x A R L N B (kJ rfl hq (jA rfl (⟨b,db,jA rfl (⟨hb,hno _ (by decide +kernel),kX b x A R L N B (kJ rfl hq (fun wl H2 s2 hwl0 hwl=>?_))⟩)⟩)))⟩)⟩));refine (jA rfl (⟨b,db,jA rfl (⟨(s2 _ _ hb),hno _ (by decide +kernel),kX b x A R L N B (kJ rfl (hq.same s2) (jA rfl (jA rfl ((vB b t x A R L N B e (vX rfl (hq.same s2) (hen.same s2) hsm ⟨de,hde,fun dd H3 s3 hdd=>?_⟩))))))⟩)⟩));have s23:=s2.trans s3;exact (fY x wl B.st dd de B.us B.ys B.d B.ms B.pl ([]) R L N (vX rfl ((hq.same s23).stage (s3 _ _ hwl)) hdd hin (fun H4 s4=>q H4 (s23.trans s4))))
 cases e with
 |pas n=>exact absurd rfl hdd
 |lt n=>exact absurd rfl hdd
 |night W=>exact absurd rfl hdd
 |come e =>
  obtain ⟨st0,eE,h1,h2,h3⟩:=id hen;obtain ⟨y,hy,hok,hnz,h9⟩:=tX (show qZ R L B.zs e=0 from hc);obtain ⟨a,ha,hfa,haR,hyl,hlt⟩:=sR hy;obtain ⟨r,hr⟩:∃r,R[a]?=some r:=⟨_,aa haR⟩;have hcn:=hq.cnH;refine (jA rfl (jI (SqT.of h1) rfl (⟨rfl,jA rfl (kK rfl (jA rfl (⟨b,db,jA rfl (⟨hb,hno _ (by decide +kernel),kX b x A R L N B (kJ rfl hq (?_))⟩)⟩)))⟩)));obtain ⟨dx,rl,ll,nl,gs,rs,ls,nv,hx,hf,hrl,hll,hnl,hR,hL,hN,d1,d2,d3⟩:=id hcn;refine ⟨x,dx,jA rfl (⟨hx,hf.no (by decide +kernel) (by decide +kernel) (by decide +kernel),jA rfl (jI (SqT.of h1) rfl ((J3 x ([]) R L N e.start (qW rfl hcn (by omega) (by omega) (fun i hi H1 s1=>?_) (fun hn=>absurd (bH (show QC (R.map (·.name)) e.start from hn)) (by rw [hfa];simp))))))⟩)⟩;have hi:kM (R.map (·.name)) e.start=some i:=bG hi;rw [hfa] at hi;cases hi;refine (jA rfl (⟨b,db,jA rfl (⟨(s1 _ _ hb),hno _ (by decide +kernel),kX b x A R L N B (kJ rfl (hq.same s1) (jA rfl (⟨b,db,jA rfl (⟨(s1 _ _ hb),hno _ (by decide +kernel),kX b x A R L N B (kJ rfl (hq.same s1) (fun wl H2 s2 hwl0 hwl=>?_))⟩)⟩)))⟩)⟩));have s12:=s1.trans s2;refine (jA rfl (⟨b,db,jA rfl (⟨(s12 _ _ hb),hno _ (by decide +kernel),kX b x A R L N B (kJ rfl (hq.same s12) (jA rfl ((fY x wl B.st a r B.us B.ys B.d B.ms B.pl ([]) R L N (vN rfl ((hq.same s12).stage hwl) hr (fun H3 s3=>(jA rfl (?_))))))))⟩)⟩));have hb2:lS R L B e=decide (r.berths≤(((yX L B.ys B.pl).countP fun z=>decide (z=(a:Int)):Nat):Int)):=by
   unfold lS;rw [hy];show decide (((R[y.1.toNat]?).map (·.berths)).getD 0≤_)=_;rw [ha,ay,hr];rfl
  have q:=q H3 (s12.trans s3);have q:Q (.str (if lS R L B e=true then "berth" else "")) H3:=q;rw [hb2] at q;cases hd:decide (r.berths≤(((yX L B.ys B.pl).countP fun z=>decide (z=(a:Int)):Nat):Int)) with
  |true=>rw [hd] at q;exact qG q
  |false=>rw [hd] at q;exact vA q
 |take n a =>
  obtain ⟨i,hi⟩:=ZN (e:=.take n a) rfl hc;have hi:kM (R.map (·.name)) n=some i:=hi;refine (jA rfl (jI (SqT.of hen) rfl (⟨rfl,jA rfl (j5 (fun e=>absurd (V.str.inj e) (by decide +kernel)) (jA rfl (jI (SqT.of hen) rfl (⟨rfl,jA rfl (kK rfl (jA rfl (jA rfl (⟨b,t,x,A,R,L,N,B,.take n a,rfl,hq,hen,hsm,vK n a i (kJ rfl hi (fun H1 s1=>(jA rfl (?_))))⟩))))⟩))))⟩)));have q:=q H1 s1;have q:Q (.str (match kM (R.map (·.name)) n with|some i=>if B.ms.getD i 0 - a<((R[i]?).map (·.least)).getD 0 then "water" else ""|none=>"")) H1:=q;rw [hi] at q
  by_cases hw:B.ms.getD i 0 - a<((R[i]?).map (·.least)).getD 0
  ·rw [aT hw];have q:Q (.str (if B.ms.getD i 0 - a<((R[i]?).map (·.least)).getD 0 then "water" else "")) H1:=q;rw [if_pos hw] at q;exact qG q
  ·rw [aJ hw];have q:Q (.str (if B.ms.getD i 0 - a<((R[i]?).map (·.least)).getD 0 then "water" else "")) H1:=q;rw [if_neg hw] at q;exact vA q
 |rain n a =>
  exact (jA rfl (jI (SqT.of hen) rfl (⟨rfl,jA rfl (j5 (fun e=>absurd (V.str.inj e) (by decide +kernel)) (jA rfl (jI (SqT.of hen) rfl (⟨rfl,jA rfl (j5 (fun e=>absurd (V.str.inj e) (by decide +kernel)) (jA rfl (jI (SqT.of hen) rfl (⟨rfl,jA rfl (kK rfl (q H (Same.refl _)))⟩))))⟩))))⟩)))
theorem MZ:jS 3 ["source","target","amount"] pY:=jR
include T in
theorem K2 (F:kB K "single_pour" pY f fd) : FnOk P w K mg base jQ 1 f fd ["source","target","amount"] (CI):=by
 refine F.ok2 MZ fun vs H Q E h=>?_
 refine cE h fun s t m a h=>?_
 refine Z5 h fun e_ hs ht q=>?_
 subst e_;refine ⟨rfl,fun _ _ _ _ hr=>?_⟩;refine ⟨_,(jM (zL (j6 kO (pv 2) jC) (kW jD) (kW (jB (kD (j7 (pv 0) (pv 1) (pv 2))) jD)))),?_⟩
 try dsimp only [jU,jT]
 refine ⟨_,rfl,rfl,jA rfl (?_)⟩
 by_cases h:a=0
 ·exact kK (bu V.int h) ⟨aO _,fun r hr=>q r [] [] _ (jK hr _) hr jE (PoursH.nil _ _) (aO _)⟩
 refine j5 (fun z=>h (V.int.inj z)) (jA rfl (jA rfl (jA rfl (⟨zz3,fun p hp=>⟨zz1,fun r hr=>?_⟩⟩))));have u1:=jK hp (.tup [V.int (s:Int),V.int (t:Int),V.int a]);have u2:=jK hr (.lst [V.ref p]);exact q r [.ref p] [(s,t,a)] _ (u1.trans u2) (u1.free hr) jE ((PoursH.nil _ _).snoc (u2 _ _ jE) hs ht) (aj _)
theorem rO:jS 2 ["book","entry","canal","fallen"] pB:=jR
include T in
theorem IR (F:kB K "entry_pours" pB f fd) (xc:MeD P w K mg base 1 cO "canal" ["self"] (QY (jF cP cB cU) cR cN cO)) (wk:Def P w K mg base 1 "single_pour" ["source","target","amount"] [] (CI)) (xi:DefX P w K mg base 3 "number_named" ["book","entry"] [] (qL (jF cP cB cU) cR cN cO (cD eU))) (zd:MeD P w K mg base 2 cN "sky" ["self"] (Q6 (jF cP cB cU) cR cN Z1)) (ze:Def P w K mg base 4 "with_spills" ["weirs","waters","pours"] [] (lE K)) (xo:MeD P w K mg base 2 cN "weirs" ["self"] (fB (jF cP cB cU) cR cN)) (xb:MeD P w K mg base 1 cO "state" ["self"] (vD (jF cP cB cU) cR cN cO QG)) (xaB:Def P w K mg base 5 "night_pours" ["canal","state","weather"] [] (CN K (jF cP cB cU) cR cN)) (xbs:DefX P w K mg base 9 "pours" ["canal","ways","state","deed"] [] (CL (jF cP cB cU) cR cN eW)) (xk:MeD P w K mg base 1 cO "ways" ["self"] (vD (jF cP cB cU) cR cN cO (zG BkS.us))) (zu:DefX P w K mg base 4 "deed_of" ["book","entry"] [] (qL (jF cP cB cU) cR cN cO mD)):FnOk P w K mg base (kF P w) 10 f fd ["book","entry"] (qL (jF cP cB cU) cR cN cO uV):=by
 refine F.okX2 rO fun vs H Q E h=>?_
 refine yO h fun b t x A R L N B e h=>?_
 refine zI h fun e_ hq hen hsm hc hw q=>?_
 subst e_;refine ⟨rfl,fun _ _ _ _ hr=>?_⟩;refine ⟨_,(@jG _ _ _ _ _ (jV 2 rO.nd (kS xc hr (pv 0)))
   (@jG _ _ _ _ _ (j9 (j6 kO (jH (jN K) (pv 1) jC) jO) (jM (kW jD)) kC)
   (@jG _ _ _ _ _ (j9 (j6 kO (jH (jN K) (pv 1) jC) jO) (jM (jP wk hr rfl (j7 (qJ xi k7 hr rfl (jB (pv 0) (jB (pv 1) jD))) (kS zd hr (pv 2)) (jH (jN K) (pv 1) jC)))) kC)
   (@jG _ _ _ _ _ (j9 (j6 kO (jH (jN K) (pv 1) jC) jO) (@jG _ _ _ _ _ (jV 3 rO.nd (jP wk hr rfl (j7 (kS zd hr (pv 2)) (qJ xi k7 hr rfl (jB (pv 0) (jB (pv 1) jD))) (jH (jN K) (pv 1) jC))))
   (jM (jP ze hr rfl (j7 (kS xo hr (pv 2)) (jH (jN K) (kS xb hr (pv 0)) jC) (pv 3))))) kC)
   (@jG _ _ _ _ _ (j9 (j6 kO (jH (jN K) (pv 1) jC) jO) (jM (jP xaB hr rfl (j7 (pv 2) (kS xb hr (pv 0)) (jH (jN K) (pv 1) jC)))) kC)
   (jM (qJ xbs k7 hr rfl (vG (pv 2) (kS xk hr (pv 0)) (kS xb hr (pv 0)) (qJ zu k7 hr rfl (jB (pv 0) (jB (pv 1) jD))))))))))),?_⟩
 try dsimp only [jU,jT]
 obtain ⟨db,fs,hb,hno⟩:=hq.ins;have hcn:=hq.cnH;have dr:=hq.ok.dr;have r8:=dr.r8;have l8:=dr.l8;have ml:=hq.ok.ml;have hTg:=sJ dr;obtain ⟨ww,pt,g1,g2,g3⟩:=hq.stH;obtain ⟨dx,rl,ll,nl,gs,rs,ls,nv,hx,hf,hrl,hll,hnl,hR,hL,hN,d1,d2,d3⟩:=id hcn;have esk:Z1 R.length L.length=((R.length+2*L.length+1:Nat):Int):=by unfold Z1;omega
 refine (jA rfl (⟨b,db,jA rfl (⟨hb,hno _ (by decide +kernel),kX b x A R L N B (kJ rfl hq (?_))⟩)⟩))
 by_cases hdd:dJ e=true∧Q3 e=true
 ·obtain ⟨tl,hh⟩:=hen.head;obtain ⟨k1,k2,k3⟩:=tE hdd.1;obtain ⟨_,k4⟩:=C3 hdd.2;obtain ⟨de,hde,hin,hwy,hdn⟩:=uI hq.ok.zl hdd.1 hc;obtain ⟨hnn,h4⟩:=hdn hdd.2;rw [hwy] at hw;refine (jA rfl (jI (SqT.of hh) yU (⟨rfl,jA rfl (j5 (fun z=>k1 (V.str.inj z)) (jA rfl (jI (SqT.of hh) yU (⟨rfl,jA rfl (j5 (fun z=>k2 (V.str.inj z)) (jA rfl (jI (SqT.of hh) yU (⟨rfl,jA rfl (j5 (fun z=>k3 (V.str.inj z)) (jA rfl (jI (SqT.of hh) yU (⟨rfl,jA rfl (j5 (fun z=>k4 (V.str.inj z)) ?_)⟩))))⟩))))⟩))))⟩)));refine (jA rfl (jA rfl (⟨b,db,jA rfl (⟨hb,hno _ (by decide +kernel),kX b x A R L N B (kJ rfl hq (fun wl H2 s2 hwl0 hwl=>?_))⟩)⟩)));refine (jA rfl (⟨b,db,jA rfl (⟨(s2 _ _ hb),hno _ (by decide +kernel),kX b x A R L N B (kJ rfl (hq.same s2) (jA rfl (jA rfl ((vB b t x A R L N B e (vX rfl (hq.same s2) (hen.same s2) hsm ⟨de,hde,fun dd H3 s3 hdd=>?_⟩))))))⟩)⟩));have s23:=s2.trans s3;refine (fY x wl B.st dd de B.us B.ys B.d B.ms B.pl ([]) R L N (zU rfl ((hq.same s23).stage (s3 _ _ hwl)) hdd hin hq.ok.d0 hnn (fun _ r H4 gs' zs s4 hr0 hr hP hS=>?_) (fun h=>absurd hw h)));refine q r zs _ H4 (s23.trans s4) (s23.free hr0) hr hP ?_;rw [hP.1];unfold uJ;rw [af];have h1:=@tM R L.length fun a=>gs'.getD a 0
  omega
 cases e with
 |pas n=>exact absurd ⟨rfl,rfl⟩ hdd
 |lt n=>exact absurd ⟨rfl,rfl⟩ hdd
 |come e =>
  obtain ⟨st0,eE,h1,h2,h3⟩:=id hen;exact (jA rfl (jI (SqT.of h1) rfl (⟨rfl,jA rfl (kK rfl ⟨aO _,fun r hr=>q r [] [] _ (jK hr _) hr jE (PoursH.nil _ _) (aO _)⟩)⟩)))
 |take n a =>
  obtain ⟨i,hi⟩:=ZN (e:=.take n a) rfl hc;have hi':=ZK (show kM (R.map (·.name)) n=some i from hi);rw [ae] at hi';refine (jA rfl (jI (SqT.of hen) rfl (⟨rfl,jA rfl (j5 (fun e=>absurd (V.str.inj e) (by decide +kernel)) (jA rfl (jI (SqT.of hen) rfl (⟨rfl,jA rfl (kK rfl (jA rfl (jA rfl (⟨b,t,x,A,R,L,N,B,.take n a,rfl,hq,hen,hsm,rfl,fun j hj H1 s1=>?_,fun hn=>absurd (hi.symm.trans hn) (by simp)⟩))))⟩))))⟩)));cases hi.symm.trans hj;have hen1:=s1 _ _ hen;refine (jA rfl (⟨x,dx,jA rfl (⟨(s1 _ _ hx),hf.no (by decide +kernel) (by decide +kernel) (by decide +kernel),yD x ([]) R L N (kJ rfl (hcn.same s1) (?_))⟩)⟩));rw [esk];exact (jA rfl (jI (SqT.of hen1) rfl (⟨i,R.length+2*L.length+1,B.ms.length,a,rfl,by omega,by omega,fun r zs qs H2 s2 hr0 hr hP hl=>q r zs qs H2 (s1.trans s2) (s1.free hr0) hr hP (by omega)⟩)))
 |rain n a =>
  obtain ⟨i,hi⟩:=ZN (e:=.rain n a) rfl hc;have hi':=ZK (show kM (R.map (·.name)) n=some i from hi);rw [ae] at hi';refine (jA rfl (jI (SqT.of hen) rfl (⟨rfl,jA rfl (j5 (fun e=>absurd (V.str.inj e) (by decide +kernel)) (jA rfl (jI (SqT.of hen) rfl (⟨rfl,jA rfl (j5 (fun e=>absurd (V.str.inj e) (by decide +kernel)) (jA rfl (jI (SqT.of hen) rfl (⟨rfl,jA rfl (kK rfl ?_)⟩))))⟩))))⟩)));refine (jA rfl (⟨x,dx,jA rfl (⟨hx,hf.no (by decide +kernel) (by decide +kernel) (by decide +kernel),yD x ([]) R L N (kJ rfl hcn (?_))⟩)⟩));rw [esk];refine (jA rfl (jA rfl (⟨b,t,x,A,R,L,N,B,.rain n a,rfl,hq,hen,hsm,rfl,fun j hj H1 s1=>?_,fun hn=>absurd (hi.symm.trans hn) (by simp)⟩)));cases hi.symm.trans hj;have hen1:=s1 _ _ hen;refine (jA rfl (jI (SqT.of hen1) rfl (⟨R.length+2*L.length+1,vK i B.ms.length a (vN rfl (by omega) (by omega) (fun fl zs qs H2 s2 hr0 hr hP hl=>?_))⟩)));have s12:=s1.trans s2;refine (jA rfl (⟨x,dx,jA rfl (⟨(s12 _ _ hx),hf.no (by decide +kernel) (by decide +kernel) (by decide +kernel),yD x ([]) R L N (vN rfl (hcn.same s12) (by omega) (fun wq ws H3 s3 hwq0 hwq hW=>?_))⟩)⟩));have s13:=s12.trans s3;refine (jA rfl (⟨b,db,jA rfl (⟨(s13 _ _ hb),hno _ (by decide +kernel),kX b x A R L N B (kJ rfl (hq.same s13) (jI (SqT.of (s13 _ _ g1)) rfl ((jA rfl (⟨wq,ww,fl,ws,zs,vC R L.length,B.ms,qs,rfl,iM hTg hW hwq (.inr (SqT.of (s13 _ _ g2))) ml (by omega) (by omega),s3 _ _ hr,hP.same s3,by omega,fun r H4 gs' zs4 s4 hr40 hr4 hP4 hS=>?_⟩)))))⟩)⟩));refine q r zs4 _ H4 (s13.trans s4) (s13.free hr40) hr4 hP4 ?_;rw [hP4.1,af,← hP.1];have:=@tM R L.length fun a=>gs'.getD a 0
  omega
 |night W =>
  obtain ⟨wt,us,h1,h2,h3⟩:=id hen;have hWl:=RN hc;refine (jA rfl (jI (SqT.of h1) rfl (⟨rfl,jA rfl (j5 (fun e=>absurd (V.str.inj e) (by decide +kernel)) (jA rfl (jI (SqT.of h1) rfl (⟨rfl,jA rfl (j5 (fun e=>absurd (V.str.inj e) (by decide +kernel)) (jA rfl (jI (SqT.of h1) rfl (⟨rfl,jA rfl (j5 (fun e=>absurd (V.str.inj e) (by decide +kernel)) (jA rfl (jI (SqT.of h1) rfl (⟨rfl,jA rfl (kK rfl ?_)⟩))))⟩))))⟩))))⟩)));refine (jA rfl (jA rfl (⟨b,db,jA rfl (⟨hb,hno _ (by decide +kernel),kX b x A R L N B (kJ rfl hq (jA rfl (jI (SqT.of h1) rfl ((mP x B.st wt _ B.ms _ us W ([]) R L N (WR rfl hcn hq.stH.toI h2 h3 hWl ml (by omega) (by omega) hTg (fun r H2 gs' zs s2 hr0 hr hP hS=>?_)))))))⟩)⟩)));refine q r zs _ H2 s2 hr0 hr hP ?_;rw [hP.1];unfold CY;rw [af];have h1:=@tM R L.length fun a=>gs'.getD a 0
  have h2:=bg q9 (QF (R.length+2*L.length+1) B.ms W R.length);rw [N5] at h2;omega
theorem rQ:jS 2 ["full","way","made_ready"] pP:=jR
include T in
theorem KQ (F:kB K "passing" pP f fd) : FnOk P w K mg base jQ 1 f fd ["full","way"] (CM):=by
 refine F.ok2 rQ fun vs H Q E h=>?_
 obtain ⟨f,w₁,rfl,q⟩:=h;refine ⟨rfl,fun _ _ _ _ hr=>?_⟩;refine ⟨_,(@jG _ _ _ _ _ (j9 (j6 kO (pv 1) jO) (@jG _ _ _ _ _ (jV 2 rQ.nd (zL (vP (pv 0)) (kW (jB jO jD)) (kW jD)))
   (jM (@jJ _ _ _ _ _ _ _ _ ZS (pv 2) (vO (zV K) (by rfl) T.xu aS (jB (yK (v:=.ref aU) rfl T.xcm rfl) jD))))) kC)
   (@jG _ _ _ _ _ (jV 2 rQ.nd (zL (vP (pv 0)) (kW jD) (kW (jB jO jD))))
   (jM (@jJ _ _ _ _ _ _ _ _ ZS (pv 2) (vO (zV K) (by rfl) T.xu aS (jB (yK (v:=.ref aD) rfl T.xbp rfl) jD)))))),?_⟩
 try dsimp only [jU,jT]
 cases w₁ with
 |true =>
  refine ⟨_,rfl,rfl,jA rfl (kK rfl ?_)⟩;cases f with
  |true =>
   refine (jA rfl (jA rfl (qG ?_)));refine ⟨(by show _≤sizeLine;decide),fun m hm0=>?_⟩;have s1:=jK hm0 (.lst ((["let"]:List Str).map V.str));refine (jA rfl (⟨aU,jA rfl (⟨.inr (T.up _),fun c hc=>?_⟩)⟩));have s2:=jK hc (.lst (upT.map V.str));refine ⟨m,c,_,_,rfl,rfl,s2 _ _ jE,jE,(by show _≤sizeLine;decide),fun r hr=>?_⟩;exact q r ((["let"]:List Str)++upT) _ ((s1.trans s2).trans (jK hr _)) ((s1.trans s2).free hr) jE
  |false =>
   refine (jA rfl (jA rfl (vA ?_)));refine ⟨(by show _≤sizeLine;decide),fun m hm0=>?_⟩;have s1:=jK hm0 (.lst (([]:List Str).map V.str));refine (jA rfl (⟨aU,jA rfl (⟨.inr (T.up _),fun c hc=>?_⟩)⟩));have s2:=jK hc (.lst (upT.map V.str));refine ⟨m,c,_,_,rfl,rfl,s2 _ _ jE,jE,(by show _≤sizeLine;decide),fun r hr=>?_⟩;exact q r (([]:List Str)++upT) _ ((s1.trans s2).trans (jK hr _)) ((s1.trans s2).free hr) jE
 |false =>
  refine ⟨_,rfl,rfl,jA rfl (j5 (fun e=>absurd (V.str.inj e) (by decide +kernel)) ?_)⟩;cases f with
  |true =>
   refine (jA rfl (jA rfl (qG ?_)));refine ⟨(by show _≤sizeLine;decide),fun m hm0=>?_⟩;have s1:=jK hm0 (.lst (([]:List Str).map V.str));refine (jA rfl (⟨aD,jA rfl (⟨.inr (T.down _),fun c hc=>?_⟩)⟩));have s2:=jK hc (.lst (downT.map V.str));refine ⟨m,c,_,_,rfl,rfl,s2 _ _ jE,jE,(by show _≤sizeLine;decide),fun r hr=>?_⟩;exact q r (([]:List Str)++downT) _ ((s1.trans s2).trans (jK hr _)) ((s1.trans s2).free hr) jE
  |false =>
   refine (jA rfl (jA rfl (vA ?_)));refine ⟨(by show _≤sizeLine;decide),fun m hm0=>?_⟩;have s1:=jK hm0 (.lst ((["fill"]:List Str).map V.str));refine (jA rfl (⟨aD,jA rfl (⟨.inr (T.down _),fun c hc=>?_⟩)⟩));have s2:=jK hc (.lst (downT.map V.str));refine ⟨m,c,_,_,rfl,rfl,s2 _ _ jE,jE,(by show _≤sizeLine;decide),fun r hr=>?_⟩;exact q r ((["fill"]:List Str)++downT) _ ((s1.trans s2).trans (jK hr _)) ((s1.trans s2).free hr) jE
theorem xV:jS 4 ["canal","ways","state","boat","step"] pN:=jR
include T in
theorem KO (F:kB K "pass_worked" pN f fd) (vy:Def P w K mg base 1 "next_step" ["way","place"] [] (uO)) (xbn:Def P w K mg base 1 "passing" ["full","way"] [] (CM)) (zf:MeD P w K mg base 2 cN "full" ["self","waters","k"] (lF (jF cP cB cU) cR cN)):FnOk P w K mg base jQ 3 f fd ["canal","ways","state","boat"] (CD (jF cP cB cU) cR cN):=by
 refine F.ok2 xV fun vs H Q E h=>?_
 refine FC h fun x wl st b us ys y p s₁ d ms pl D R L N h=>?_
 refine y0 h fun e_ hG hy hpp hs q=>?_
 subst e_;refine ⟨rfl,fun _ _ _ _ hr=>?_⟩;refine ⟨_,(@jG _ _ _ _ _ (jV 4 xV.nd (jP vy hr rfl (jB (jH (kR K) (pv 1) (pv 3)) (jB (jH (jN K) (jH (jN K) (pv 2) jC) (pv 3)) jD))))
   (jM (kD (jB (jZ K (jH (kR K) (jZ K (pv 0) rfl) (jH (jN K) (pv 4) jC)) rfl) (jB (jP xbn hr rfl (jB (Z3 zf hr (pv 0) (jB (jH (jN K) (pv 2) jC) (jB (jH (jN K) (pv 4) jC) jD))) (jB (jH (jN K) (pv 4) jC) jD))) jD))))),?_⟩
 try dsimp only [jU,jT]
 obtain ⟨hc,hdr,hwl,hA,hst,hfl,hml⟩:=id hG;obtain ⟨wt,pt,hst1,hwt,hpt⟩:=id hst;have hc0:=hc;obtain ⟨dx,rl,ll,nl,fs,rs,ls,nv,hx,hf,hrl,hll,hnl,hR,hL,hN,d1,d2,d3⟩:=hc;obtain ⟨v,hv,hWy⟩:=hA.get hy;obtain ⟨t₁,st₁,us₁,rfl,g1,g2,g3⟩:=id hWy;have hkL:s₁.1<L.length:=(hfl.ok y (au hy)).lt s₁ (au hs);obtain ⟨l,hl'⟩:∃l,L[s₁.1]?=some l:=⟨_,aa hkL⟩;obtain ⟨vl,hvl,yl,rfl,dl,hl⟩:=hL.get hl';refine (jA rfl (jA rfl (kZ (so hwl) (kY hv) ((jA rfl (jI (SqT.of hst1) rfl ((jA rfl (jI (SqT.of hpt) (kY (v:=.int (p:Int)) (by rw [ao,hpp];rfl)) ((yP t₁ y p s₁ (vN rfl hWy hs (fun v₂ hPs=>?_)))))))))))));obtain ⟨ts,rfl,hts⟩:=hPs;refine (jA rfl (j0 hx (T.clN) (T.xh) (hf.2.1) ((jA rfl (jI (SqT.of hts) rfl (kZ (so hll) (kY hvl) (j0 hl (T.cl l.kd) (T.ul l.kd) (fL l.kd _ _ _ _ _) (?_))))))));refine (jA rfl (⟨x,dx,jA rfl (⟨hx,hf.no (by decide +kernel) (by decide +kernel) (by decide +kernel),jA rfl (jI (SqT.of hst1) rfl ((jA rfl (jI (SqT.of hts) rfl ((cI x wt D R L N ms s₁.1 (vX rfl hc0 hwt (by omega) (jA rfl (jI (SqT.of hts) rfl (⟨dW R.length ms s₁.1,s₁.2,rfl,fun lw ws H1 s1 hlw0 hlw=>⟨zz2,fun tt htt=>?_⟩⟩))))))))))⟩)⟩));have u:=jK htt (.tup [V.str l.name,V.ref lw]);exact q tt lw l.name ws _ (s1.trans u) (s1.free htt) hlw0 jE (u _ _ hlw)
theorem M2:jS 2 ["book","entry"] rE:=jR
include T in
theorem LA (F:kB K "ways_behind" rE f fd) (xk:MeD P w K mg base 1 cO "ways" ["self"] (vD (jF cP cB cU) cR cN cO (zG BkS.us))) (wb:DefX P w K mg base 3 "way_told" ["canal","entry"] [] (sW (jF cP cB cU) cR cN eU)) (xc:MeD P w K mg base 1 cO "canal" ["self"] (QY (jF cP cB cU) cR cN cO)):FnOk P w K mg base (kF P w) 4 f fd ["book","entry"] (qL (jF cP cB cU) cR cN cO ES):=by
 refine F.okX2 M2 fun vs H Q E h=>?_
 refine yO h fun b t x A R L N B e h=>?_
 refine y0 h fun e_ hq hen hsm hc q=>?_
 subst e_;refine ⟨rfl,fun _ _ _ _ hr=>?_⟩;refine ⟨_,(@jG _ _ _ _ _ (j9 (j6 kO (jH (jN K) (pv 1) jC) jO) (jM (@jJ _ _ _ _ _ _ _ _ ZS (kS xk hr (pv 0)) (kW (jB (qJ wb k7 hr rfl (jB (kS xc hr (pv 0)) (jB (pv 1) jD))) jD)))) kC)
   (jM (kS xk hr (pv 0)))),?_⟩
 try dsimp only [jU,jT]
 obtain ⟨db,fs,hb,hno⟩:=hq.ins;have r8:=hq.ok.dr.r8;have l8:=hq.ok.dr.l8;have z9:=hq.ok.z9;have zl:=hq.ok.zl
 rcases BS e with hk|⟨e,rfl⟩
 ·obtain ⟨tl,hh⟩:=hen.head;refine (jA rfl (jI (SqT.of hh) yU (⟨rfl,jA rfl (j5 (fun z=>hk (V.str.inj z)) (jA rfl (⟨b,db,jA rfl (⟨hb,hno _ (by decide +kernel),kX b x A R L N B (kJ rfl hq (fun l H1 s1 hl0 hl=>q l _ H1 s1 hl0 hl ?_))⟩)⟩)))⟩)));have he:ZT R L B e=B.ys:=by cases e<;>first|rfl|exact absurd rfl hk
  rw [he];exact (hq.same s1).wyH
 obtain ⟨st0,eE,h1,h2,h3⟩:=id hen;obtain ⟨y,hy,hok,hnz,h9⟩:=tX (show qZ R L B.zs e=0 from hc);have hl8:=hsm.2.1;have hwe:ZT R L B (.come e)=B.ys++[y]:=by show B.ys++(yW R L e).toList=_;rw [hy];rfl
 refine (jA rfl (jI (SqT.of h1) rfl (⟨rfl,jA rfl (kK rfl (jA rfl (⟨b,db,jA rfl (⟨hb,hno _ (by decide +kernel),kX b x A R L N B (kJ rfl hq (fun wl H1 s1 hwl0 hwl=>?_))⟩)⟩)))⟩)));have hA:=(hq.same s1).wyH;refine (jA rfl (⟨b,db,jA rfl (⟨(s1 _ _ hb),hno _ (by decide +kernel),kX b x A R L N B (kJ rfl (hq.same s1) (jA rfl ((kX x t e ([]) R L N (zU rfl ((hq.same s1).cnH) (by omega) (by omega) (CoAt.same s1 hen) (by omega) (fun y' hy' w1 H2 s2 hw0 hwy=>?_) (fun hn=>absurd hn (by rw [hy];simp)))))))⟩)⟩));rw [hy] at hy';cases hy';refine ⟨zz1,fun l2 hl20=>?_⟩;have u:=jK hl20 (.lst [V.ref w1]);have hul:=hA.1;refine ⟨wl,l2,_,_,rfl,rfl,u _ _ (s2 _ _ hwl),jE,bD (by rw [aF];omega),fun p hp=>?_⟩;have v:=jK hp (.lst (B.us++[V.ref w1]));have w2:=(s2.trans u).trans v;refine q p _ _ ((s1.trans s2).trans (u.trans v)) (((s1.trans s2).trans u).free hp) jE ?_;rw [hwe];exact (hA.mono (WyAt.same w2)).snoc (WyAt.same (u.trans v) _ _ hwy)
theorem rT:jS 2 ["book","entry","state","waters"] rA:=jR
include T in
theorem K5 (F:kB K "state_behind" rA f fd) (xb:MeD P w K mg base 1 cO "state" ["self"] (vD (jF cP cB cU) cR cN cO QG)) (xw:Def P w K mg base 1 "poured_all" ["waters","pours"] [] (fU K)) (zv:DefX P w K mg base 10 "entry_pours" ["book","entry"] [] (qL (jF cP cB cU) cR cN cO uV)) (xaQ:Def P w K mg base 2 "counted_on" ["state","deed","waters"] [] (BO)) (zu:DefX P w K mg base 4 "deed_of" ["book","entry"] [] (qL (jF cP cB cU) cR cN cO mD)):FnOk P w K mg base (kF P w) 11 f fd ["book","entry"] (qL (jF cP cB cU) cR cN cO DU):=by
 refine F.okX2 rT fun vs H Q E h=>?_
 refine yO h fun b t x A R L N B e h=>?_
 refine zI h fun e_ hq hen hsm hc hw q=>?_
 subst e_;refine ⟨rfl,fun _ _ _ _ hr=>?_⟩;refine ⟨_,(@jG _ _ _ _ _ (jV 2 rT.nd (kS xb hr (pv 0)))
   (@jG _ _ _ _ _ (jV 3 rT.nd (jP xw hr rfl (jB (jH (jN K) (pv 2) jC) (jB (qJ zv k7 hr rfl (jB (pv 0) (jB (pv 1) jD))) jD))))
   (@jG _ _ _ _ _ (j9 (j6 kO (jH (jN K) (pv 1) jC) jO) (jM (kD (j7 (jH (jN K) (pv 2) jC) (pv 3) (@jJ _ _ _ _ _ _ _ _ CV (jH (jN K) (pv 2) jC) (kD (jB jC jD)))))) kC)
   (@jG _ _ _ _ _ (j9 (PW.pt (lY (j6 kO (jH (jN K) (pv 1) jC) jO) (lM (j6 kO (jH (jN K) (pv 1) jC) jO)))) (jM (kD (j7 (jH (jN K) (pv 2) jC) (pv 3) (jH (jN K) (pv 2) jC)))) kC)
   (jM (jP xaQ hr rfl (j7 (pv 2) (qJ zu k7 hr rfl (jB (pv 0) (jB (pv 1) jD))) (pv 3)))))))),?_⟩
 try dsimp only [jU,jT]
 obtain ⟨db,fs,hb,hno⟩:=hq.ins;obtain ⟨wt,pt,g1,g2,g3⟩:=hq.stH;have ml:=hq.ok.ml;have r8:=hq.ok.dr.r8;have l8:=hq.ok.dr.l8;have hpl:=hq.ok.fl.len;have hp10:=hq.ok.fl.n10;refine (jA rfl (⟨b,db,jA rfl (⟨hb,hno _ (by decide +kernel),kX b x A R L N B (kJ rfl hq (?_))⟩)⟩));refine (jA rfl (jI (SqT.of g1) rfl ((jA rfl (jA rfl ((vB b t x A R L N B e (vU rfl hq hen hsm hc hw (fun l zs qs H1 s1 hl0 hl hP hzl=>?_)))))))));refine (yD wt l B.ms zs qs (qW rfl (.inr (SqT.of (s1 _ _ g2))) (so hl) hP.pa (by omega) (fun r H2 s2 hr0 hr=>?_)));have s12:=s1.trans s2;obtain ⟨tl,hh⟩:=(EnAt.same s12 hen).head;have g1':=s12 _ _ g1
 by_cases hdd:dJ e=true
 ·obtain ⟨k1,k2,k3⟩:=tE hdd;obtain ⟨de,hde,_⟩:=uI hq.ok.zl hdd hc;refine (jA rfl (jI (SqT.of hh) yU (⟨rfl,jA rfl (j5 (fun z=>k1 (V.str.inj z)) (jA rfl (jI (SqT.of hh) yU (⟨rfl,jA rfl (j5 (fun z=>k2 (V.str.inj z)) (jA rfl (jI (SqT.of hh) yU (⟨rfl,jA rfl (j5 (fun z=>k3 (V.str.inj z)) ?_)⟩))))⟩))))⟩)));refine (jA rfl (jA rfl (jA rfl ((vB b t x A R L N B e (vX rfl (hq.same s12) (hen.same s12) hsm ⟨de,hde,fun dd H3 s3 hdd=>?_⟩))))));have s13:=s12.trans s3;refine (jA rfl ((cI B.st dd r de B.d B.ms _ B.pl (qW rfl ((hq.same s13).stH) hdd (s3 _ _ hr) (by omega) (fun st H4 s4 hst0 hst=>?_)))));have e1:=U5 (e:=e) ‹_› hde;rw [e1.1,e1.2] at q;exact q st (qM B.ms qs) H4 (s13.trans s4) hst (J4 _ _)
 have tr:(e=e∧JW R L B e=B.pl∧d9 B e=B.d)→(3≤sizeLine∧∀t3,H2 t3=none→Q (.ref t3) (upd H2 t3 (.tup [.int B.d,.ref r,.ref pt]))):=fun ⟨_,p1,p2⟩=>⟨by decide,fun t3 ht3=>by
  have v:=jK ht3 (.tup [V.int B.d,V.ref r,V.ref pt]);rw [p1,p2] at q;exact q t3 _ _ (s12.trans v) ⟨r,pt,jE,v _ _ hr,v _ _ (s12 _ _ g3)⟩ (J4 _ _)⟩
 cases e with
 |pas n=>exact absurd rfl hdd
 |lt n=>exact absurd rfl hdd
 |night W=>exact absurd rfl hdd
 |take n a=>exact (jA rfl (jI (SqT.of (s12 _ _ hen)) rfl (⟨rfl,jA rfl (j5 (fun e=>absurd (V.str.inj e) (by decide +kernel)) (jA rfl (jI (SqT.of (s12 _ _ hen)) rfl (⟨rfl,jA rfl (kK rfl (jA rfl (jI (SqT.of g1') rfl ((jA rfl (jA rfl (jI (SqT.of g1') rfl (tr ⟨rfl,rfl,rfl⟩))))))))⟩))))⟩)))
 |rain n a=>exact (jA rfl (jI (SqT.of (s12 _ _ hen)) rfl (⟨rfl,jA rfl (j5 (fun e=>absurd (V.str.inj e) (by decide +kernel)) (jA rfl (jI (SqT.of (s12 _ _ hen)) rfl (⟨rfl,jA rfl (j5 (fun e=>absurd (V.str.inj e) (by decide +kernel)) (jA rfl (jI (SqT.of (s12 _ _ hen)) rfl (⟨rfl,jA rfl (kK rfl (jA rfl (jI (SqT.of g1') rfl ((jA rfl (jA rfl (jI (SqT.of g1') rfl (tr ⟨rfl,rfl,rfl⟩))))))))⟩))))⟩))))⟩)))
 |come e =>
  obtain ⟨st0,eE,h1,h2,h3⟩:=id hen;refine (jA rfl (jI (SqT.of (s12 _ _ h1)) rfl (⟨rfl,jA rfl (kK rfl ?_)⟩)));refine (jA rfl (jI (SqT.of g1') rfl ((jA rfl (jA rfl (jI (SqT.of g1') rfl (⟨zz1,fun p hp=>?_⟩)))))));have u:=jK hp (.tup [V.int 0]);have fin:∀(pt2:Addr) (H3:Hp),Same (upd H2 p (.tup [V.int 0])) H3→H3 pt2=some (.tup ((B.pl++[0]).map fun (p:Nat)=>V.int (p:Int)))→(3≤sizeLine∧∀t3,H3 t3=none→Q (.ref t3) (upd H3 t3 (.tup [.int B.d,.ref r,.ref pt2]))):=fun pt2 H3 s3 h=>⟨by decide,fun t3 ht3=>by
   have v:=jK ht3 (.tup [V.int B.d,V.ref r,V.ref pt2]);exact q t3 _ _ ((s12.trans u).trans (s3.trans v)) ⟨r,pt2,jE,v _ _ (s3 _ _ (u _ _ hr)),v _ _ h⟩ (J4 _ _)⟩
  refine ⟨pt,p,_,_,rfl,rfl,SqT.of (u _ _ (s12 _ _ g3)),SqT.of jE,(by simp),bD (by rw [ae];show B.pl.length+1≤1000;omega),fun hn=>?_,fun hn p2 hp2=>?_⟩
  ·have h0:B.pl=[]:=map_eq_nil_iff.mp hn;exact fin p _ (Same.refl _) (by rw [h0];exact jE)
  ·have v:=jK hp2 (.tup ((B.pl.map fun (p:Nat)=>V.int (p:Int))++[V.int 0]));exact fin p2 _ v (by rw [jE,aH];rfl)
theorem M6:jS 2 ["book","entry"] rK:=jR
include T in
theorem LH (F:kB K "words_worked" rK f fd) (xaC:Def P w K mg base 3 "pass_worked" ["canal","ways","state","boat"] [] (CD (jF cP cB cU) cR cN)) (xc:MeD P w K mg base 1 cO "canal" ["self"] (QY (jF cP cB cU) cR cN cO)) (xk:MeD P w K mg base 1 cO "ways" ["self"] (vD (jF cP cB cU) cR cN cO (zG BkS.us))) (xb:MeD P w K mg base 1 cO "state" ["self"] (vD (jF cP cB cU) cR cN cO QG)) (xi:DefX P w K mg base 3 "number_named" ["book","entry"] [] (qL (jF cP cB cU) cR cN cO (cD eU))):FnOk P w K mg base (kF P w) 4 f fd ["book","entry"] (qL (jF cP cB cU) cR cN cO E9):=by
 refine F.okX2 M6 fun vs H Q E h=>?_
 refine yO h fun b t x A R L N B e h=>?_
 refine zI h fun e_ hq hen hsm hc hw q=>?_
 subst e_;refine ⟨rfl,fun _ _ _ _ hr=>?_⟩;refine ⟨_,(@jG _ _ _ _ _ (j9 (j6 kO (jH (jN K) (pv 1) jC) jO) (jM (kW (jB (kD (jB (jH (jN K) (pv 1) jC) (jB (kW (jB jO jD)) jD))) jD))) kC)
   (@jG _ _ _ _ _ (j9 (j6 kO (jH (jN K) (pv 1) jC) jO) (jM (kW (jB (jP xaC hr rfl (vG (kS xc hr (pv 0)) (kS xk hr (pv 0)) (kS xb hr (pv 0)) (qJ xi k7 hr rfl (jB (pv 0) (jB (pv 1) jD))))) jD))) kC)
   (jM (kW jD)))),?_⟩
 try dsimp only [jU,jT]
 obtain ⟨db,fs,hb,hno⟩:=hq.ins
 rcases PD e with hk|⟨n,rfl⟩|⟨n,rfl⟩
 ·obtain ⟨tl,hh⟩:=hen.head;exact (jA rfl (jI (SqT.of hh) yU (⟨rfl,jA rfl (j5 (fun z=>hk.1 (V.str.inj z)) (jA rfl (jI (SqT.of hh) yU (⟨rfl,jA rfl (j5 (fun z=>hk.2 (V.str.inj z)) ⟨aO _,fun l hl=>q l [] [] _ (jK hl _) hl jE AllAt.nil (aO _)⟩)⟩))))⟩)))
 ·have h1:=id hen;obtain ⟨i,hi⟩:=ZN (e:=.pas n) rfl hc;have hi:kM B.zs n=some i:=hi;have hiz:=ZK hi;have zl:=hq.ok.zl;have fl:=hq.ok.fl;have hwd:bY R L B.ys B.ms B.pl i="":=by
   have e1:vV R L N B (.pas n)=match yV R L B.zs (.pas n) with|some de=>JU R L N.length B.ys B.d B.ms B.pl de|none=>"":=rfl
   rw [e1,(show yV R L B.zs (.pas n)=some (.pass i) from by show (kM B.zs n).map Deed.pass=_;rw [hi];rfl)] at hw;exact hw
  obtain ⟨y,hy⟩:∃y,B.ys[i]?=some y:=⟨_,aa (by omega)⟩;obtain ⟨p,hp⟩:∃p,B.pl[i]?=some p:=⟨_,aa (by rw [fl.len];omega)⟩;have hple:=fl.le i y p hy hp;have hne:=tK hwd;rw [show B.ys.getD i (0,[])=y by rw [ac,hy];rfl,show B.pl.getD i 0=p by rw [ac,hp];rfl] at hne;obtain ⟨s₁,hs⟩:∃s,y.2[p]?=some s:=⟨_,aa (by omega)⟩;refine (jA rfl (jI (SqT.of h1) rfl (⟨rfl,jA rfl (j5 (fun e=>absurd (V.str.inj e) (by decide +kernel)) (jA rfl (jI (SqT.of h1) rfl (⟨rfl,jA rfl (kK rfl (jA rfl (⟨b,db,jA rfl (⟨hb,hno _ (by decide +kernel),kX b x A R L N B (kJ rfl hq (jA rfl (⟨b,db,jA rfl (⟨hb,hno _ (by decide +kernel),kX b x A R L N B (kJ rfl hq (fun wl H2 s2 hwl0 hwl=>?_))⟩)⟩)))⟩)⟩)))⟩))))⟩)));refine (jA rfl (⟨b,db,jA rfl (⟨(s2 _ _ hb),hno _ (by decide +kernel),kX b x A R L N B (kJ rfl (hq.same s2) (jA rfl (jA rfl (⟨b,t,x,A,R,L,N,B,.pas n,rfl,hq.same s2,EnAt.same s2 hen,hsm,rfl,fun j hj H3 s3=>?_,fun hn=>absurd (hi.symm.trans hn) (by simp)⟩))))⟩)⟩));cases hi.symm.trans hj;have s23:=s2.trans s3;refine (wL x wl B.st i B.us B.ys y p s₁ B.d B.ms B.pl ([]) R L N (qW rfl ((hq.same s23).stage (s3 _ _ hwl)) hy hp hs (fun tt lw nm ws H4 s4 htt0 hlw0 htt hlw=>⟨zz1,fun l hl=>?_⟩)));have v:=jK hl (.lst [V.ref tt]);have s24:=s23.trans s4;exact q l [.ref tt] [(nm,ws)] _ (s24.trans v) (s24.free hl) jE (AllAt.nil.snoc (v:=.ref tt) (x:=(nm,ws)) ⟨tt,lw,rfl,s23.free htt0,s23.free hlw0,kT hlw hl,v _ _ htt,v _ _ hlw⟩) (aj _)
 ·have h1:=id hen;refine (jA rfl (jI (SqT.of h1) rfl (⟨rfl,jA rfl (kK rfl (jA rfl (jI (SqT.of h1) rfl (⟨zz1,fun lw hlw=>⟨zz2,fun tt htt=>⟨zz1,fun l hl=>?_⟩⟩⟩))))⟩)));have u1:=jK hlw (.lst [V.str "let"]);have u2:=jK htt (.tup [V.str n,V.ref lw]);have u3:=jK hl (.lst [V.ref tt]);have hlw':=u2 _ _ (jE (H:=H) (a:=lw) (o:=.lst [V.str "let"]));exact q l [.ref tt] [(n,[("let":Str)])] _ ((u1.trans u2).trans u3) ((u1.trans u2).free hl) jE (AllAt.nil.snoc (v:=.ref tt) (x:=(n,[("let":Str)])) ⟨tt,lw,rfl,u1.free htt,hlw,kT hlw' hl,u3 _ _ jE,u3 _ _ hlw'⟩) (aj _)
theorem LO:jS 2 ["self","entry"] nP:=jR
include T in
theorem GX (F:Fun K "fault" "Book.fault" nP f fd) (je:DefX P w K mg base 5 "refuse_wrong" ["book","entry"] [] (qL (jF cP cB cU) cR cN cO (FR eB eT eM eU eL eN eD))) (jf:DefX P w K mg base 9 "why_no_entry" ["book","entry"] [] (qL (jF cP cB cU) cR cN cO FQ)):FnOk P w K mg base (kF P w) 10 f fd ["self","entry"] (qL (jF cP cB cU) cR cN cO (fS eB eT eM eU eL eN eD)):=by
 refine F.okX2 LO fun vs H Q E h=>?_
 refine yO h fun b t x A R L N B e h=>?_
 refine y0 h fun e_ hq hen hsm qv qe=>?_
 subst e_;refine ⟨rfl,fun _ _ _ _ hr=>?_⟩;refine ⟨_,(@jG _ _ _ _ _ (qY (qJ je k7 hr rfl (jB (pv 0) (jB (pv 1) jD))))
   (jM (qJ jf k7 hr rfl (jB (pv 0) (jB (pv 1) jD))))),?_⟩
 try dsimp only [jU,jT]
 refine (jA rfl (jA rfl ((vB b t x A R L N B e (qW rfl hq hen hsm (fun h0 H1 s1=>?_) qe)))));exact (jA rfl (jA rfl ((vB b t x A R L N B e (qW rfl (hq.same s1) (hen.same s1) hsm h0 (fun H2 s2=>qv h0 H2 (s1.trans s2)))))))
theorem xK:jS 2 ["self","entry","word"] nJ:=jR
include T in
theorem GT (F:Fun K "behind" "Book.behind" nJ f fd) (xx:MeX P w K mg base 10 cO "fault" ["self","entry"] (qL (jF cP cB cU) cR cN cO (fS eB eT eM eU eL eN eD))) (jg:DefX P w K mg base 11 "state_behind" ["book","entry"] [] (qL (jF cP cB cU) cR cN cO DU)) (jz:DefX P w K mg base 4 "ways_behind" ["book","entry"] [] (qL (jF cP cB cU) cR cN cO ES)):FnOk P w K mg base (kF P w) 12 f fd ["self","entry"] (qL (jF cP cB cU) cR cN cO (lJ eB eT eM eU eL eN eD eW)):=by
 refine F.okX2 xK fun vs H Q E h=>?_
 refine yO h fun b t x A R L N B e h=>?_
 refine zI h fun e_ hq hen hsm qv qn qe=>?_
 subst e_;refine ⟨rfl,fun _ _ _ _ hr=>?_⟩;refine ⟨_,(@jG _ _ _ _ _ (jV 2 xK.nd (zO xx k7 hr (pv 0) (jB (pv 1) jD)))
   (@jG _ _ _ _ _ (j9 (j6 ZW (pv 2) jO) (@kH _ _ _ (QA J9 rfl rfl T.ud T.ju (jB (pv 2) jD))) kC)
   (jM (kD (jB (qJ jz k7 hr rfl (jB (pv 0) (jB (pv 1) jD))) (jB (qJ jg k7 hr rfl (jB (pv 0) (jB (pv 1) jD))) jD)))))),?_⟩
 try dsimp only [jU,jT]
 obtain ⟨db,fs,hb,hno⟩:=hq.ins;refine (jA rfl (⟨b,db,jA rfl (⟨hb,hno _ (by decide +kernel),jA rfl ((vB b t x A R L N B e (qW rfl hq hen hsm (fun h0 H1 s1=>?_) qe)))⟩)⟩))
 by_cases hw:vV R L N B e=""
 case neg=>exact ⟨_,rfl,rfl,jA rfl (ZX (fun z=>hw (V.str.inj z)) (jA rfl (⟨by show 1≤sizeLine;decide,qn h0 hw H1 s1⟩)))⟩
 refine ⟨_,rfl,rfl,jA rfl (ZY (bu V.str hw) ?_)⟩;refine (jA rfl (jA rfl ((vB b t x A R L N B e (qW rfl (hq.same s1) (hen.same s1) hsm h0 (fun l us H2 s2 hl0 hl hA=>?_))))));have s12:=s1.trans s2;refine (jA rfl (jA rfl ((vB b t x A R L N B e (vU rfl (hq.same s12) (hen.same s12) hsm h0 hw (fun st ms H3 s3 hst hms=>?_))))));refine ⟨zz2,fun p hp=>?_⟩;have u:=jK hp (.tup [V.ref l,V.ref st]);have s3u:=s3.trans u;exact qv h0 hw p l st us ms _ (s12.trans s3u) jE (s1.free hl0) (s3u _ _ hl) (hA.mono (WyAt.same s3u)) (hst.same u) hms
theorem iE:jS 2 ["self","entry","come_to","poured","worked"] nM:=jR
include T in
theorem GV (F:Fun K "do" "Book.do" nM f fd) (zw:MeX P w K mg base 12 cO "behind" ["self","entry"] (qL (jF cP cB cU) cR cN cO (lJ eB eT eM eU eL eN eD eW))) (zv:DefX P w K mg base 10 "entry_pours" ["book","entry"] [] (qL (jF cP cB cU) cR cN cO uV)) (jh:DefX P w K mg base 4 "words_worked" ["book","entry"] [] (qL (jF cP cB cU) cR cN cO E9)):FnOk P w K mg base (kF P w) 13 f fd ["self","entry"] (mJ (jF cP cB cU) cR cN cO eB eT eM eU eL eN eD eW):=by
 refine F.okX2 iE fun vs H Q E h=>?_
 refine yO h fun b t x A R L N B e h=>?_
 refine zI h fun e_ hq hen hsm qv qn qe=>?_
 subst e_;refine ⟨rfl,fun _ _ _ _ hr=>?_⟩;refine ⟨_,(@jG _ _ _ _ _ (jV 2 iE.nd (zO zw k7 hr (pv 0) (jB (pv 1) jD)))
   (@jG _ _ _ _ _ (jV 3 iE.nd (qJ zv k7 hr rfl (jB (pv 0) (jB (pv 1) jD))))
   (@jG _ _ _ _ _ (jV 4 iE.nd (qJ jh k7 hr rfl (jB (pv 0) (jB (pv 1) jD))))
   (zB (j9 (j6 kO (jH (jN K) (pv 1) jC) jO) (@kH _ _ _ (qY (yB aC aM aN yS (jZ K (pv 0) rfl) (jB (jH (jN K) (pv 1) jC) jD)))) kC)
   (@jG _ _ _ _ _ (vJ (pv 0) (jH (jN K) (pv 2) jC) rfl)
   (@jG _ _ _ _ _ (vJ (pv 0) (jH (jN K) (pv 2) jC) rfl)
   (@jG _ _ _ _ _ (qY (yB aC PySem.F.slot_list_extend PySem.F.type_list_extend BR (jZ K (pv 0) rfl) (jB (pv 3) jD)))
   (@jG _ _ _ _ _ (qY (yB aC PySem.F.slot_list_extend PySem.F.type_list_extend BR (jZ K (pv 0) rfl) (jB (pv 4) jD)))
   (@kH _ _ _ (qY (yB aC aM aN yS (jZ K (pv 0) rfl) (jB (pv 1) jD)))))))))))),?_⟩
 try dsimp only [jU,jT]
 obtain ⟨db,fs,hb,hno⟩:=hq.ins;obtain ⟨db',nl,wl,pl,ql,el,fs',hA,hb',hfl,hf,hnl,hpl,hql,hel,hnd,hwl⟩:=hq.ob;obtain ⟨rfl,rfl⟩:db=db'∧fs=fs':=by rw [hb] at hb';cases hb';exact ⟨rfl,rfl⟩
 clear hb' hwl;have z9:=hq.ok.z9;have o1:=hq.ok.pn;have o2:=hq.ok.qn;refine (jA rfl (⟨b,db,jA rfl (⟨hb,hno _ (by decide +kernel),jA rfl ((vB b t x A R L N B e (vU rfl hq hen hsm (fun hc hw p l st us ms' H1 s1 hp hl0 hl hAw hst hms=>?_) qn qe)))⟩)⟩));obtain ⟨he15,qv⟩:=qv hc hw;refine (jA rfl (jA rfl ((vB b t x A R L N B e (vU rfl (hq.same s1) (hen.same s1) hsm hc hw (fun l1 ps1 qs1 H2 s2 hl10 hl1 hP hp1=>?_))))));have s12:=s1.trans s2;refine (jA rfl (jA rfl ((vB b t x A R L N B e (vU rfl (hq.same s12) (hen.same s12) hsm hc hw (fun l2 vs ds H3 s3 hl20 hl2 hW hv1=>?_))))));have s13:=s12.trans s3;have s23:=s2.trans s3
 replace hl1:=s3 _ _ hl1
 replace hp:=s23 _ _ hp
 replace hl:=s23 _ _ hl
 replace hAw:=hAw.mono (WyAt.same s23)
 replace hst:=hst.same s23
 replace hP:=hP.same s3
 have hb3:=s13 _ _ hb;have hnl3:=s13 _ _ hnl;have hpl3:=s13 _ _ hpl;have hql3:=s13 _ _ hql;have hel3:=s13 _ _ hel;have old:∀(a c:Addr) (o:HO) (G:Hp),H a=some o→Same H G→G c=none→c≠a:=fun a c o G h s hc=>(kT (s _ _ h) hc).symm
 have nn:=hnd;simp only [gb,aq,aE,bx,not_or,not_false_eq_true,nodup_nil,and_true] at nn;obtain ⟨⟨n12,n13,n14⟩,⟨n23,n24⟩,n34⟩:=nn;have nnb:nl≠b:=qV hnl hb (fun z=>nomatch z);have npb:pl≠b:=qV hpl hb (fun z=>nomatch z);have nqb:ql≠b:=qV hql hb (fun z=>nomatch z);have neb:el≠b:=qV hel hb (fun z=>nomatch z);have np:p≠nl:=qV hp hnl3 (fun z=>nomatch z);have npB:p≠b:=qV hp hb3 (fun z=>nomatch z);refine ⟨fun σ Hj=>σ=[some (.ref b),some (.ref t),some (.ref p),some (.ref l1),some (.ref l2)]∧Hj nl=some (.lst ((QM B e).map V.str))∧∀a,a≠nl→Hj a=H3 a,?_,?_⟩
 ·have hen3:=EnAt.same s13 hen
  rcases BS e with hk|⟨e,rfl⟩
  ·obtain ⟨tl,hh⟩:=hen3.head;have he:QM B e=B.zs:=by cases e<;>first|rfl|exact absurd rfl hk
   exact (jA rfl (jI (SqT.of hh) yU (⟨rfl,jA rfl (j5 (fun z=>hk (V.str.inj z)) ⟨rfl,by rw [he];exact hnl3,fun _ _=>rfl⟩)⟩)))
  obtain ⟨st0,eE,h1,h2,h3⟩:=id hen3;refine (jA rfl (jI (SqT.of h1) rfl (⟨rfl,jA rfl (kK rfl (jA rfl (j0 hb3 (T.clO) (T.nO_kept_names) (hf.2.1) (⟨.inl ⟨rfl,_,so hnl3⟩,jA rfl (jI (SqT.of h1) rfl (⟨nl,_,_,rfl,rfl,hnl3,qX (by rw [ae];omega),rfl,?_,fun a ha=>jX ha⟩))⟩))))⟩)));rw [jE];show some (HO.lst _)=some (HO.lst ((B.zs++[e.name]).map V.str));rw [aH];rfl
 rintro σ H4 ⟨rfl,hnl4,g4⟩;refine (jA rfl (jI (SqT.of (show H4 p=_ by rw [g4 p np];exact hp)) rfl ((jA rfl ((yP b cO db fs (qW rfl (by rw [g4 b nnb.symm];exact hb3) T.clO T.nO_kept_ways (by omega) (?_))))))));refine (jA rfl (jI (SqT.of (show upd H4 b _ p=_ by rw [jX npB,g4 p np];exact hp)) rfl ((jA rfl (⟨b,cO,db,jL "kept_ways" (.ref l) fs,rfl,jE,T.clO,T.nO_kept_state,(by have:=zK "kept_ways" (.ref l) fs;omega),?_⟩)))));have F:=(hf.put2 (.ref l)).put3 (.ref st);have hb6:upd (upd H4 b (.ins cO db (jL "kept_ways" (.ref l) fs))) b (.ins cO db (jL "kept_state" (.ref st) (jL "kept_ways" (.ref l) fs))) b=some (.ins cO db (jL "kept_state" (.ref st) (jL "kept_ways" (.ref l) fs))):=jE;have g6:∀a,a≠nl→a≠b→upd (upd H4 b (.ins cO db (jL "kept_ways" (.ref l) fs))) b (.ins cO db (jL "kept_state" (.ref st) (jL "kept_ways" (.ref l) fs))) a=H3 a:=fun a h1 h2=>by rw [jX h2,jX h2,g4 a h1]
 have n6:upd (upd H4 b (.ins cO db (jL "kept_ways" (.ref l) fs))) b (.ins cO db (jL "kept_state" (.ref st) (jL "kept_ways" (.ref l) fs))) nl=some (.lst ((QM B e).map V.str)):=by rw [jX nnb,jX nnb];exact hnl4
 generalize upd (upd H4 b (.ins cO db (jL "kept_ways" (.ref l) fs))) b (.ins cO db (jL "kept_state" (.ref st) (jL "kept_ways" (.ref l) fs)))=H6 at hb6 g6 n6 ⊢;have lf:(jL "kept_state" (.ref st) (jL "kept_ways" (.ref l) fs)).length≤7+2*(B.es.length+1):=by
  have h1:=zK "kept_ways" (.ref l) fs;have h2:=zK "kept_state" (.ref st) (jL "kept_ways" (.ref l) fs);omega
 generalize jL "kept_state" (.ref st) (jL "kept_ways" (.ref l) fs)=fs6 at hb6 F lf;have p6:H6 pl=some (.lst B.ps):=by rw [g6 pl (Ne.symm n12) npb];exact hpl3
 have l16:H6 l1=some (.lst ps1):=by rw [g6 l1 (old _ _ _ _ hnl s1 hl10) (old _ _ _ _ hb s1 hl10)];exact hl1
 refine (jA rfl (j0 hb6 (T.clO) (T.nO_kept_pours) (F.2.2.2.2.1) (⟨.inl ⟨rfl,_,so p6⟩,jA rfl (⟨pl,l1,B.ps,ps1,rfl,rfl,p6,l16,bD (by omega),?_⟩)⟩)));have q7:upd H6 pl (.lst (B.ps++ps1)) ql=some (.lst B.qs):=by rw [jX (Ne.symm n23),g6 ql (Ne.symm n13) nqb];exact hql3
 have l27:upd H6 pl (.lst (B.ps++ps1)) l2=some (.lst vs):=by rw [jX (old _ _ _ _ hpl s12 hl20),g6 l2 (old _ _ _ _ hnl s12 hl20) (old _ _ _ _ hb s12 hl20)];exact hl2
 refine (jA rfl (j0 (by rw [jX (Ne.symm npb)];exact hb6) (T.clO) (T.nO_kept_words) (F.2.2.2.2.2.1) (⟨.inl ⟨rfl,_,so q7⟩,jA rfl (⟨ql,l2,B.qs,vs,rfl,rfl,q7,l27,bD (by omega),?_⟩)⟩)));have e8:upd (upd H6 pl (.lst (B.ps++ps1))) ql (.lst (B.qs++vs)) el=some (.lst B.es):=by rw [jX (Ne.symm n34),jX (Ne.symm n24),g6 el (Ne.symm n14) neb];exact hel3
 refine (jA rfl (j0 (by rw [jX (Ne.symm nqb),jX (Ne.symm npb)];exact hb6) (T.clO) (T.nO_kept_entries) (F.2.2.2.2.2.2.1) (⟨.inl ⟨rfl,_,so e8⟩,jA rfl (⟨el,_,_,rfl,rfl,e8,qX (by omega),?_⟩)⟩)));have memA:∀a,a∉A→a≠b∧a≠nl∧a≠pl∧a≠ql∧a≠el:=fun a h=>by
  rw [hA] at h;simp only [aq,aE,bx,not_or] at h;exact h
 have hd9:kL (upd (upd (upd H6 pl (.lst (B.ps++ps1))) ql (.lst (B.qs++vs))) el (.lst (B.es++[.ref t]))) A=kL H3 A:=T1 fun a ha=>by
  obtain ⟨m1,m2,m3,m4,m5⟩:=memA a ha;rw [jX m5,jX m4,jX m3,g6 a m2 m1]
 have inA:∀a∈A,∃o,H a=some o∧∀l',o≠.tup l':=fun a h=>by
  rw [hA] at h;simp only [aq,aE,bx] at h
  rcases h with rfl|rfl|rfl|rfl|rfl
  ·exact ⟨_,hb,fun _ z=>nomatch z⟩
  ·exact ⟨_,hnl,fun _ z=>nomatch z⟩
  ·exact ⟨_,hpl,fun _ z=>nomatch z⟩
  ·exact ⟨_,hql,fun _ z=>nomatch z⟩
  ·exact ⟨_,hel,fun _ z=>nomatch z⟩
 have nT:∀a∈A,∀l',H3 a≠some (.tup l'):=fun a h l' e=>by
  obtain ⟨o,ho,hn⟩:=inA a h;rw [s13 _ _ ho] at e;exact hn l' (aA e)
 have nF:∀(a:Addr) (G:Hp),Same H G→G a=none→a∉A:=fun a G s h z=>by
  obtain ⟨o,ho,_⟩:=inA a z;rw [s _ _ ho] at h;cases h
 obtain ⟨fl',zl',z9'⟩:=R0 hq.ok hsm hc hw;refine qv ⟨QM B e,ZT R L B e,d9 B e,ms',JW R L B e,us,st,B.ps++ps1,B.qs++vs,B.qd++ds,B.es++[.ref t]⟩ _ ⟨⟨db,nl,l,pl,ql,el,fs6,hA,?_,?_,F,?_,?_,?_,jE,hnd,?_⟩,?_,?_,?_,?_,?_⟩ rfl (by show (B.es++[_]).length=_;rw [af];rfl) ?_
 ·rw [jX (Ne.symm neb),jX (Ne.symm nqb),jX (Ne.symm npb)];exact hb6
 ·show fs6.length≤7+2*(B.es++[V.ref t]).length;rw [af];exact lf
 ·rw [jX n14,jX n13,jX n12];exact n6
 ·rw [jX n24,jX n23];exact jE
 ·rw [jX n34];exact jE
 ·rw [hd9,v7 (nF l H (Same.refl _) hl0)];exact hl
 ·rw [hd9];exact hq.cn.same (y8 s13)
 ·rw [hd9];exact hAw.mono (WyAt.del nT)
 ·rw [hd9];exact StAt.del nT hst
 ·rw [hd9];refine (hq.wd.mono (WdAt.same (y8 s13))).app (hW.mono fun v d ⟨t',l',e1,w1,w2,w3,w4,w5⟩=>⟨t',l',e1,?_,?_⟩)
  ·rw [v7 (nF t' H2 s12 w1)];exact w4
  ·rw [v7 (nF l' H2 s12 w2)];exact w5
 ·refine ⟨hq.ok.dr,fl',by show ms'.length=_;rw [hms];exact hq.ok.ml,SB hq.ok.d0,zl',z9',by show (B.es++[_]).length≤15;rw [af];exact he15,?_,?_,?_,?_⟩
  ·show (B.ps++ps1).length≤24*(B.es++[_]).length;rw [af,af,aF];omega
  ·show (B.qs++vs).length≤(B.es++[_]).length;rw [af,af,aF];omega
  ·intro z hz
   rcases aV.mp hz with h|h
   ·exact hq.ok.pr z h
   ·obtain ⟨i,hi⟩:=cy.mp h;obtain ⟨a,s',t',m',ez,hz'⟩:=hP.2 i z hi;exact ⟨a,ez⟩
  ·intro z hz
   rcases aV.mp hz with h|h
   ·exact hq.ok.er z h
   ·exact ⟨t,aR.mp h⟩
 ·rw [hd9];exact y8 s13
def zF (ns:List Int) (k m:Int):Int:=if ns.length=0 then (k*k*7+3*k)%m else (ns.getD (k%(((ns.map V.int).length:Nat):Int)).toNat 0%1000003*(k*k+48271)+k*7919)%2147483647%m
theorem ZM (ns:List Int) (k:Int) {m:Int} (h:1≤m):0≤zF ns k m∧zF ns k m<m:=by
 unfold zF
 split
 ·exact ⟨bp _ (by omega),ba _ (by omega)⟩
 ·exact ⟨bp _ (by omega),ba _ (by omega)⟩
def lG (K:W.Frag):Sp:=fun vs H Q _=>∃(s:Addr) (ns:List Int) (k:Int) (m:Int),vs=[.ref s,.int k,.int m]∧SqL K H s (ns.map V.int)∧ns.length≤63∧0≤k∧k≤100000∧1≤m∧Q (.int (zF ns k m)) H
theorem R8 {K:W.Frag}:∀vs H Q E,bN K vs H Q E→lG K vs H Q (fun _ _ _=>False):=by
 rintro vs H Q E ⟨s,ns,k,m,e,h1,h2,h3,h4,h5,q⟩;exact ⟨s,ns,k,m,e,h1,h2,h3,h4,h5,q _ (ZM ns k h5).1 (ZM ns k h5).2⟩
theorem dB (c n:Nat):(qF ⟨#[c]⟩ n).cps.toList=List.replicate n c:=by
 rw [tP];show (List.replicate n [c]).flatten=_;simp
theorem B9:("xyz":Str).cps.toList=[120,121,122]:=by decide +kernel
theorem iY (c s a b:Nat):(qF ⟨#[c]⟩ a++(⟨#[s]⟩:Str)++qF ⟨#[c]⟩ b).cps.toList=List.replicate a c++[s]++List.replicate b c:=by
 show ((qF ⟨#[c]⟩ a).cps++#[s]++(qF ⟨#[c]⟩ b).cps).toList=_;rw [Array.toList_append,Array.toList_append,dB,dB]
theorem UG (c n:Nat):qF ⟨#[c]⟩ n≠"xyz":=fun h=>by
 have h1:(qF ⟨#[c]⟩ n).cps.toList=[120,121,122]:=by rw [h];exact B9
 rw [dB] at h1;have a1:(120:Nat)=c:=bq (n:=n) (by rw [h1];simp);have a2:(121:Nat)=c:=bq (n:=n) (by rw [h1];simp);omega
theorem SO (c s a b:Nat):qF ⟨#[c]⟩ a++(⟨#[s]⟩:Str)++qF ⟨#[c]⟩ b≠"xyz":=fun h=>by
 have h2:(qF ⟨#[c]⟩ a++(⟨#[s]⟩:Str)++qF ⟨#[c]⟩ b).cps.toList=[120,121,122]:=by rw [h];exact B9
 rw [iY] at h2
 match a,h2 with
 |0,h2 =>
  have h3:s::List.replicate b c=[120,121,122]:=h2;have h4:=(fk h3).2;have a1:(121:Nat)=c:=bq (n:=b) (by rw [h4];simp);have a2:(122:Nat)=c:=bq (n:=b) (by rw [h4];simp);omega
 |1,h2 =>
  have h3:c::s::List.replicate b c=[120,121,122]:=h2;have h4:=(fk (fk h3).2).2;have a1:(122:Nat)=c:=bq (n:=b) (by rw [h4];simp);have a2:=(fk h3).1;omega
 |a+2,h2 =>
  have h3:c::c::(List.replicate a c++[s]++List.replicate b c)=[120,121,122]:=h2;have a1:=(fk h3).1;have a2:=(fk (fk h3).2).1;omega
def wS (z:Str):Prop:=zE lettersS z=true∧z≠"xyz"∧z.length≤50
def NmsOk (zs:List Str):Prop:=zs.Nodup∧∀z∈zs,wS z
theorem NmsOk.take {zs:List Str} (h:NmsOk zs) (n:Nat):NmsOk (zs.take n):=⟨h.1.sublist (take_sublist n zs),fun z hz=>h.2 z (ik hz)⟩
theorem AT:∀z:Nat,z<26→lH z=97+z∧mE lettersS (97+z)=true:=by decide +kernel
theorem DW {z:Str} (h1:1≤z.length) (h2:z.length≤12) (h:∀c∈z.cps.toList,97≤c∧c<123):zE lettersS z=true:=by
 unfold zE;rw [aT (show 0<z.length by omega),aT (show z.length<13 by omega)];show cG lettersS z z.cps.size=true;unfold cG;rw [cm];intro c hc;obtain ⟨g1,g2⟩:=h c (ik hc);have:=(AT (c - 97) (by omega)).2
 rwa [show 97+(c - 97)=c by omega] at this
def JZ (br:Bool) (ch a b e:Nat) (j:Nat):Str:=if br=true then qF ⟨#[97+ch]⟩ (j+1) else qF ⟨#[97+ch]⟩ a++(⟨#[97+(e+j)%26]⟩:Str)++qF ⟨#[97+ch]⟩ b
theorem sM (a b:Str):(a++b).length=a.length+b.length:=by
 show (a.cps++b.cps).size=a.cps.size+b.cps.size;exact Array.size_append
theorem UQ {br:Bool} {ch a b e j:Nat} (hc:ch<26) (hab:a+b≤11) (hj:j<12):wS (JZ br ch a b e j):=by
 have one:∀(c n:Nat),(qF ⟨#[c]⟩ n).length=n:=fun c n=>by rw [i6];show n*1=n;omega
 unfold JZ
 split
 ·refine ⟨DW (by rw [one];omega) (by rw [one];omega) fun c h=>?_,UG _ _,by rw [one];omega⟩;rw [dB] at h;rw [bq h];omega
 ·have hl:(qF ⟨#[97+ch]⟩ a++(⟨#[97+(e+j)%26]⟩:Str)++qF ⟨#[97+ch]⟩ b).length=a+1+b:=by rw [sM,sM,one,one];rfl
  refine ⟨DW (by omega) (by omega) fun c h=>?_,SO _ _ _ _,by omega⟩;rw [iY] at h
  rcases aV.mp h with h|h
  ·rcases aV.mp h with h|h
   ·rw [bq h];omega
   ·rw [aR.mp h];omega
  ·rw [bq h];omega
theorem TF {br:Bool} {ch a b e i j:Nat} (hi:i<12) (hj:j<12) (h:JZ br ch a b e i=JZ br ch a b e j):i=j:=by
 unfold JZ at h;have h:=bu (fun z:Str=>z.cps.toList) h;cases br
 ·simp only [Bool.false_eq_true,if_false] at h;rw [iY,iY] at h;have h:=append_cancel_left (append_cancel_right h);have h:=(fk h).1;omega
 ·simp only [if_true] at h;rw [dB,dB] at h;have:=bu List.length h;rw [bf,bf] at this;omega
theorem TH {br:Bool} {ch a b e m:Nat} (hc:ch<26) (hab:a+b≤11) (hm:m≤12):NmsOk ((List.range m).map (JZ br ch a b e)):=by
 refine ⟨?_,fun z hz=>?_⟩
 ·refine pairwise_map.mpr (List.Pairwise.imp_of_mem (fun {i j} hi hj h z=>h (TF (e:=e) ?_ ?_ z)) nodup_range)
  ·have:=em.mp hi;omega
  ·have:=em.mp hj;omega
 ·obtain ⟨j,hj,rfl⟩:=gd.mp hz;have:=em.mp hj;exact UQ hc hab (by omega)
def cZ (K:W.Frag):Sp:=fun vs H Q _=>∃(s:Addr) (ns:List Int) (k:Int) (m:Nat),vs=[.ref s,.int k,.int (m:Int)]∧SqL K H s (ns.map V.int)∧ns.length≤63∧0≤k∧k≤90000∧m≤12∧∀(l:Addr) (zs:List Str) (H':Hp),Same H H'→H l=none→H' l=some (.lst (zs.map V.str))→zs.length=m→NmsOk zs→Q (.ref l) H'
theorem O7 {K:W.Frag}:∀vs H Q E,cZ K vs H Q E→cZ K vs H Q (fun _ _ _=>False):=fun vs H Q E h=>h
theorem D9 {i:Int} (h0:0≤i) (h1:i<26):qU ("abcdefghijklmnopqrstuvwxyz":Str).cps.toList i=some (97+i.toNat):=by
 rw [← (AT i.toNat (by omega)).1];exact OL h0 h1
def CK (K:W.Frag) (cR:Addr):Sp:=fun vs H Q _=>∃(s:Addr) (ns:List Int) (k:Nat) (u:Int) (nm:Str),vs=[.ref s,.int (k:Int),.int u,.str nm]∧SqL K H s (ns.map V.int)∧ns.length≤63∧k<8∧1≤u∧u≤10000000000∧∀(x:Addr) (r:RC) (H':Hp),r.good k→r.name=nm→Same H H'→H x=none→RcAt cR H' x r→Q (.ref x) H'
def DI (K:W.Frag) (cs:Kd→Addr):Sp:=fun vs H Q _=>∃(s:Addr) (ns:List Int) (k n:Nat) (u:Int) (nm:Str),vs=[.ref s,.int (k:Int),.int (n:Int),.int u,.str nm]∧SqL K H s (ns.map V.int)∧ns.length≤63∧k<4∧2≤n∧n≤8∧1≤u∧u≤10000000000∧∀(x:Addr) (l:LC) (H':Hp),l.good n→l.name=nm→Same H H'→H x=none→LkO cs H' (.ref x) l→Q (.ref x) H'
def CQ (K:W.Frag) (cs:Kd→Addr) (cR cN:Addr):Sp:=fun vs H Q _=>∃(s:Addr) (ns:List Int) (mr ml mn:Nat),vs=[.ref s,.int (mr:Int),.int (ml:Int),.int (mn:Int)]∧SqL K H s (ns.map V.int)∧ns.length≤63∧2≤mr∧mr≤8∧1≤ml∧ml≤4∧mn≤5∧∀(x:Addr) (R:List RC) (L:List LC) (N:List (List (Int×Int))) (H':Hp),Drawn R L N→(∀p∈N,∀q∈p,0≤q.1∧0≤q.2)→NmsOk (R.map (·.name))→NmsOk (L.map (·.name))→R.length≤mr→L.length≤ml→N.length≤mn→2≤R.length→1≤L.length→Same H H'→H x=none→CnAt cs cR cN [] H' x R L N→Q (.ref x) H'
theorem PX {zs:List Str} {c:Nat} (h:c≤zs.length):JE (zs.map V.str) none (some (c:Int))=(zs.take c).map V.str:=by
 unfold JE;rw [ae,HT.sIx_none,HT.sIx_nat,Nat.min_eq_left h,drop_zero,Nat.sub_zero,map_take]
def DF (K:W.Frag) (cs:Kd→Addr) (cR cN:Addr):Sp:=fun vs H Q _=>∃(s x:Addr) (ns:List Int) (k mo:Nat) (D:List Addr) (R:List RC) (L:List LC) (N:List (List (Int×Int))),vs=[.ref s,.int (k:Int),.ref x,.int (mo:Int)]∧SqL K H s (ns.map V.int)∧ns.length≤63∧k<20∧1≤mo∧mo≤8∧CnAt cs cR cN D H x R L N∧Drawn R L N∧1≤L.length∧∀(t:Addr) (y:qD) (H':Hp),WyOk L y→1≤y.2.length→(∃a:Nat,y.1=(a:Int)∧a<R.length)→Same H H'→H t=none→WyAt H' (.ref t) y→Q (.ref t) H'
theorem PQ {R:List RC} {L:List LC} {N:List (List (Int×Int))} (d:Drawn R L N) {a:Int} (h:EndAt L a):∃n:Nat,a=(n:Int)∧n<R.length:=by
 obtain ⟨⟨k,b⟩,h1,h2⟩:=h;obtain ⟨l,hl,hg⟩:=sQ d h1;have hl:L[k]?=some l:=hl;obtain ⟨g1,g2,g3,g4,_⟩:=hg;cases b
 ·rw [ZL hl] at h2;have h2:l.high=a:=h2;exact ⟨a.toNat,by omega,by omega⟩
 ·rw [ZP hl] at h2;have h2:l.low=a:=h2;exact ⟨a.toNat,by omega,by omega⟩
def zZ (L:List LC) (k:Nat):Str:=((L[k]?).map (·.name)).getD ""
def QE (R:List RC) (k:Nat):Str:=((R[k]?).map (·.name)).getD ""
def CP (cs:Kd→Addr) (cR cN:Addr):Sp:=fun vs H Q _=>∃(x t:Addr) (nm:Str) (y:qD) (a:Nat) (D:List Addr) (R:List RC) (L:List LC) (N:List (List (Int×Int))),vs=[.ref x,.str nm,.ref t]∧CnAt cs cR cN D H x R L N∧WyAt H (.ref t) y∧WyOk L y∧y.1=(a:Int)∧a<R.length∧
 ∀(e:Addr) (H':Hp),Same H H'→H e=none→CoAt H' e ⟨nm,QE R a,y.2.map fun p=>(zZ L p.1,p.2)⟩→Q (.ref e) H'
theorem iL {zs:List Str} {n:Str} {i:Nat} (h:zs.Nodup) (hi:zs[i]?=some n):kM zs n=some i:=by
 refine bG ⟨hi,fun j hj e=>?_⟩;obtain ⟨h1,e1⟩:=ad.mp hi;obtain ⟨h2,e2⟩:=ad.mp e;have:=(pairwise_iff_getElem.mp h) j i h2 h1 hj;exact this (by rw [e1,e2])
theorem sP {zs:List Str} {n:Str} (h:n∈zs):∃i,kM zs n=some i:=by
 cases hf:kM zs n with
 |some i=>exact ⟨i,rfl⟩
 |none =>
  obtain ⟨i,hi⟩:=cy.mp h;exact absurd hi (iO hf i)
theorem iU {zs:List Str} {n:Str} (h:n∉zs):kM zs n=none:=bH fun i hi=>h (au hi)
theorem PC {L:List LC} {k:Nat} (h:k<L.length):(L.map (·.name))[k]?=some (zZ L k):=by
 unfold zZ;rw [ao,aa h];rfl
theorem OY {R:List RC} {k:Nat} (h:k<R.length):(R.map (·.name))[k]?=some (QE R k):=by
 unfold QE;rw [ao,aa h];rfl
theorem AL {L:List LC} (h:(L.map (·.name)).Nodup):∀{ps:List (Nat×Bool)},(∀p∈ps,p.1<L.length)→v8 (L.map (·.name)) (ps.map fun p=>(zZ L p.1,p.2))=some ps
 |[],_=>rfl
 |p::ps,hp=>by
  rw [fi];unfold v8;rw [iL h (PC (hp p bd)),AL h fun q hq=>hp q (aK _ hq)];rfl
theorem P0 {R:List RC} {L:List LC} (nR:NmsOk (R.map (·.name))) (nL:NmsOk (L.map (·.name))) {y:qD} {a:Nat} (ok:WyOk L y) (ha:y.1=(a:Int)) (haR:a<R.length) {nm:Str} {zs:List Str} (hn:wS nm) (hz:nm∉zs) (h9:zs.length<9):qZ R L zs ⟨nm,QE R a,y.2.map fun p=>(zZ L p.1,p.2)⟩=0:=by
 have hy:yW R L ⟨nm,QE R a,y.2.map fun p=>(zZ L p.1,p.2)⟩=some y:=by
  unfold yW;show (match kM (R.map fun r:RC=>r.name) (QE R a) with|none=>none|some a=>(v8 (L.map fun l:LC=>l.name) (y.2.map fun p:Nat×Bool=>(zZ L p.1,p.2))).map fun ps=>((a:Int),ps))=_;rw [iL nR.1 (OY haR),AL nL.1 ok.lt];show some ((a:Int),y.2)=some y;rw [← ha]
 unfold qZ;rw [if_neg (show ¬zE lettersS nm=false by rw [hn.1];decide),if_neg hz,if_neg (by omega),hy];exact if_pos ok.ok
def GA (N:List (List (Int×Int))):Prop:=∀p∈N,∀q∈p,0≤q.1∧0≤q.2
def zY (N:List (List (Int×Int))) (d:Int) (r:Nat):Int×Int:=if d<(N.length:Int) then (N.getD d.toNat []).getD r (0,0) else (0,0)
def AF (cs:Kd→Addr) (cR cN:Addr):Sp:=fun vs H Q _=>∃(x:Addr) (d mo:Int) (R:List RC) (L:List LC) (N:List (List (Int×Int))),vs=[.ref x,.int d,.int mo]∧CnAt cs cR cN [] H x R L N∧Drawn R L N∧GA N∧0≤d∧0≤mo∧mo≤100000000000∧
 ∀(wt:Addr) (us:List V) (W:List (Int×Int)) (H':Hp),Same H H'→H wt=none→H' wt=some (.tup us)→AllAt (QAt H') us W→W.length=R.length→(d<(N.length:Int)→JC W (N.getD d.toNat [])=true)→Q (.ref wt) H'
def BN (cs:Kd→Addr) (cR cN:Addr):Sp:=fun vs H Q _=>∃(x nl:Addr) (zs:List Str) (d c u:Int) (R:List RC) (L:List LC) (N:List (List (Int×Int))),vs=[.ref x,.ref nl,.int d,.int c,.int u]∧CnAt cs cR cN [] H x R L N∧Drawn R L N∧GA N∧1≤R.length∧1≤L.length∧0≤d∧1≤u∧u≤10000000000∧H nl=some (.lst (zs.map V.str))∧zs.length≤100∧
 ∀(t:Addr) (e:Ent) (H':Hp),Same H H'→EnAt H' t e→ZE e→(∀B:BkS,B.zs=zs→B.d=d→kE R L N B e=0)→(∀B:BkS,QM B e=B.zs)→Q (.ref t) H'
theorem T4 (zs:List Str) {d:Int} (h0:0≤d) (h1:d<(zs.length:Int)):∃z,z∈zs∧qU (zs.map V.str) d=some (.str z):=by
 obtain ⟨k,rfl⟩:∃k:Nat,d=(k:Int):=⟨d.toNat,by omega⟩;have hk:k<zs.length:=by omega
 exact ⟨zs[k],dq hk,kY (by rw [ao,aa hk];rfl)⟩
theorem iP {R:List RC} {L:List LC} {N:List (List (Int×Int))} {B:BkS} {e:Ent} {i:Nat} (h:Q3 e=true) (hi:JV R L B.zs e=some i):kE R L N B e=0:=by
 have:kE R L N B e=if JV R L B.zs e=none then 4 else 0:=by cases e<;>first|rfl|cases h
 rw [this,hi,if_neg (by simp)]
def vS (eB eT eM eU eL eN eD eW:Addr) (c:Nat):Addr:=if c=6 then eW else QK eB eT eM eU eL eN eD c
def Rf (c:Nat):Prop:=c=4∨c=6∨c=7∨c=8
def cF (c:Nat):Str:=if c=4 then "Unknown" else if c=7 then "BadNumber" else if c=8 then "TooDry" else "NotNow"
def AnsAt (H:Hp) (r:Addr) (c:Nat):Prop:=(c=9∧H r=some (.tup [.str "told",.str "over"]))∨(Rf c∧∃l,H r=some (.tup [.str "refused",.ref l])∧H l=some (.lst [.str (cF c)]))
theorem AnsAt.same {H H':Hp} {r:Addr} {c:Nat} (s:Same H H') (h:AnsAt H r c):AnsAt H' r c:=by
 rcases h with ⟨e,h⟩|⟨e,l,h1,h2⟩
 ·exact .inl ⟨e,s _ _ h⟩
 ·exact .inr ⟨e,l,s _ _ h1,s _ _ h2⟩
structure Seen (K:W.Frag) (eB eT eM eU eL eN eD eW eS:Addr) (c:Nat):Prop where
 at_:ExcAttr K (vS eB eT eM eU eL eN eD eW c)
 cl:(W.clsIn K (vS eB eT eM eU eL eN eD eW c)).isSome=true
 kv:W.kitOne K (.ref (vS eB eT eM eU eL eN eD eW c)) (.type "ValueError")=some true
 ka:W.kitAny K (.ref (vS eB eT eM eU eL eN eD eW c)) [.ref eT,.ref eB,.ref eS]=some false
 k:∀i,Rf i→W.kitOne K (.ref (vS eB eT eM eU eL eN eD eW c)) (.ref (vS eB eT eM eU eL eN eD eW i))=some (decide (c=i))
def BK (eB eT eM eU eL eN eD eW:Addr):Sp:=fun vs H Q _=>∃(x:Addr) (c:Nat),vs=[.ref x]∧H x=some (Z6 x (vS eB eT eM eU eL eN eD eW c))∧Rf c∧∀(r:Addr) (H':Hp),Same H H'→AnsAt H' r c→Q (.ref r) H'
theorem U3 {eB eT eM eU eL eN eD eW:Addr} {c:Nat} (h:c≠6):vS eB eT eM eU eL eN eD eW c=QK eB eT eM eU eL eN eD c:=if_neg h
noncomputable def vT (R:List RC) (L:List LC) (N:List (List (Int×Int))) (B:BkS) (e:Ent) (w:Nat):Nat:=if kE R L N B e=0 then (if w=0 then 9 else 6) else kE R L N B e
def xF (R:List RC) (L:List LC) (N:List (List (Int×Int))) (B:BkS) (e:Ent):Prop:=(kE R L N B e=0∧vV R L N B e="over")∨kE R L N B e=4∨kE R L N B e=7∨kE R L N B e=8
def DM (cs:Kd→Addr) (cR cN cO:Addr):Sp:=fun vs H Q _=>∃(b t x:Addr) (A:List Addr) (R:List RC) (L:List LC) (N:List (List (Int×Int))) (B:BkS) (e:Ent) (w:Nat),vs=[.ref b,.ref t,.int (w:Int)]∧w≤2∧BkAt cs cR cN cO A H b x R L N B∧EnAt H t e∧ZE e∧xF R L N B e∧∀(r:Addr) (H':Hp),Same H H'→AnsAt H' r (vT R L N B e w)→Q (.ref r) H'
theorem uZ {K:W.Frag} {H:Hp} {r r':Addr} {c:Nat} {Q:VK} (h:AnsAt H r c) (h':AnsAt H r' c) (q:Q (.bl false) H):u8 K (.ref r) (.ref r') H Q:=by
 have ds:∀z:Str,DEq K H (.str z) (.str z) true:=fun z=>by
  have:=DEq.flat (K:=K) (H:=H) (x:=.str z) (y:=.str z) rfl rfl;rw [tV rfl] at this;exact this
 have two:∀(a b:V) (xs ys:List V),xs=[a,b]→∀(c d:V),ys=[c,d]→H r=some (.tup xs)→H r'=some (.tup ys)→DEq K H a c true→DEq K H b d true→u8 K (.ref r) (.ref r') H Q:=fun a b xs ys e1 c d e2 h1 h2 d1 d2=>by
  subst e1 e2;refine ⟨r,r',_,_,[true,true],rfl,rfl,SqT.of h1,SqT.of h2,rfl,rfl,fun j hj=>?_,q⟩
  match j,hj with
  |0,_=>exact d1
  |1,_=>exact d2
 rcases h with ⟨c9,h1⟩|⟨hr,l,h1,h2⟩
 ·rcases h' with ⟨_,g1⟩|⟨hr,_⟩
  ·exact two _ _ _ _ rfl _ _ rfl h1 g1 (ds _) (ds _)
  ·unfold Rf at hr;omega
 ·rcases h' with ⟨g9,_⟩|⟨_,l',g1,g2⟩
  ·unfold Rf at hr;omega
  ·refine two _ _ _ _ rfl _ _ rfl h1 g1 (ds _) ?_
   by_cases e:l=l'
   ·rw [e];exact .same l'
   ·have:=DEq.lst (K:=K) e (so h2) (so g2) (by rfl) (by rfl);rw [R6 (by rfl)] at this;exact this
theorem AllAt.setI {α:Type} {P:V→α→Prop} {us:List V} {ss:List α} {v:V} {p:α} (h:AllAt P us ss) (i:Nat) (hv:P v p):AllAt P (us.set i v) (ss.set i p):=by
 refine ⟨by rw [bc,bc];exact h.1,fun j z hz=>?_⟩
 by_cases e:i=j
 ·subst e;have hi:i<us.length:=by have:=(ad.mp hz).1;rwa [bc] at this
  rw [ci hi] at hz;cases hz;exact ⟨p,ci (by rw [← h.1];exact hi),hv⟩
 ·rw [dc e] at hz;obtain ⟨x,hx,px⟩:=h.2 j z hz;exact ⟨x,by rw [dc e];exact hx,px⟩
def TldAt (H0 H:Hp) (r:Addr) (B:BkS):Prop:=∃(l1 l2 l3 l4 l5 l6:Addr) (vs:List V),H r=some (.lst [.ref l1,.ref l2,.ref l3,.ref l4,.ref l5,.ref l6])∧(H l1=some (.lst (B.zs.map V.str))∧H l2=some (.lst B.us)∧H l3=some (.lst [.ref B.st])∧H l4=some (.lst B.ps)∧H l5=some (.lst vs)∧H l6=some (.lst B.es))∧AllAt (WdNew H0 l5 H) vs B.qd∧(H0 l1=none∧H0 l2=none∧H0 l3=none∧H0 l4=none∧H0 l5=none∧H0 l6=none)
theorem TldAt.same {H0 H H':Hp} {r:Addr} {B:BkS} (s:Same H H') (h:TldAt H0 H r B):TldAt H0 H' r B:=by
 obtain ⟨l1,l2,l3,l4,l5,l6,vs,h0,⟨h1,h2,h3,h4,h5,h6⟩,hw,hn⟩:=h;exact ⟨l1,l2,l3,l4,l5,l6,vs,s _ _ h0,⟨s _ _ h1,s _ _ h2,s _ _ h3,s _ _ h4,s _ _ h5,s _ _ h6⟩,hw.mono (WdNew.same s),hn⟩
def t6 (cs:Kd→Addr) (cR cN cO:Addr):Sp:=fun vs H Q _=>∃(b x:Addr) (A:List Addr) (R:List RC) (L:List LC) (N:List (List (Int×Int))) (B:BkS),vs=[.ref b]∧BkAt cs cR cN cO A H b x R L N B∧∀(r:Addr) (H':Hp),Same H H'→TldAt H H' r B→Q (.ref r) H'
theorem C8 {K:W.Frag} {H:Hp} {x:V} (h:qR x=true∨∃c,x=.ref c):∀n,AEq K H n x x
 |0=>⟨rfl,h⟩
 |_+1=>.inl ⟨rfl,h⟩
theorem RS {xs:List V} {j:Nat} (h:j<xs.length):xs.getD j .non∈xs:=by
 rw [ac,aa h];exact dq h
theorem dE {K:W.Frag} {H:Hp} {a b:Addr} {xs:List V} (ne:a≠b) (ha:H a=some (.lst xs)) (hb:H b=some (.lst xs)) (h:∀z∈xs,qR z=true∨∃c,z=.ref c) (n:Nat):AEq K H (n+1) (.ref a) (.ref b) :=
 .inr ⟨a,b,xs,xs,rfl,rfl,ne,.inl ⟨so ha,so hb⟩,rfl,fun j hj=>C8 (h _ (RS hj)) n⟩
theorem DD (zs:List Str):∀z∈zs.map V.str,qR z=true∨∃c,z=.ref c:=fun z hz=>by
 obtain ⟨s,_,rfl⟩:=gd.mp hz;exact .inl rfl
theorem SG {K:W.Frag} {H0 H1 H2:Hp} {r r0:Addr} {B:BkS} {Q:VK} (h:TldAt H1 H2 r B) (h':TldAt H0 H1 r0 B) (s:Same H1 H2) (hu:∀z∈B.us,∃c,z=.ref c) (hp:∀z∈B.ps,∃c,z=.ref c) (he:∀z∈B.es,∃c,z=.ref c) (q:Q (.bl true) H2):FO K 3 (.ref r) (.ref r0) H2 Q:=by
 obtain ⟨l1,l2,l3,l4,l5,l6,vs,g0,⟨g1,g2,g3,g4,g5,g6⟩,gw,⟨n1,n2,n3,n4,n5,n6⟩⟩:=h;obtain ⟨k1,k2,k3,k4,k5,k6,ws,f0,⟨f1,f2,f3,f4,f5,f6⟩,fw,_⟩:=h';have ne:∀{a b:Addr} {o:HO},H1 a=none→H1 b=some o→a≠b:=fun h1 h2 z=>by rw [z,h2] at h1;cases h1
 refine ⟨r,r0,_,_,rfl,rfl,so g0,so (s _ _ f0),rfl,fun j hj=>?_,q⟩
 match j,hj with
 |0,_=>exact dE (ne n1 f1) g1 (s _ _ f1) (DD _) 2
 |1,_=>exact dE (ne n2 f2) g2 (s _ _ f2) (fun z hz=>.inr (hu z hz)) 2
 |2,_=>exact dE (ne n3 f3) g3 (s _ _ f3) (fun z hz=>.inr ⟨_,aR.mp hz⟩) 2
 |3,_=>exact dE (ne n4 f4) g4 (s _ _ f4) (fun z hz=>.inr (hp z hz)) 2
 |5,_=>exact dE (ne n6 f6) g6 (s _ _ f6) (fun z hz=>.inr (he z hz)) 2
 |4,_ =>
  refine .inr ⟨l5,k5,vs,ws,rfl,rfl,ne n5 f5,.inl ⟨so g5,so (s _ _ f5)⟩,gw.1.trans fw.1.symm,fun i hi=>?_⟩;have hi2:i<ws.length:=by rw [fw.1,← gw.1];exact hi
  obtain ⟨p,hp1,t,lw,e1,a1,a2,_,a3,a4⟩:=gw.2 i _ (aa hi);obtain ⟨p',hp2,t',lw',e2,_,_,_,b3,b4⟩:=fw.2 i _ (aa hi2);rw [hp1] at hp2;cases hp2;rw [ac,aa hi,ac,aa hi2];show AEq K H2 2 vs[i] ws[i];rw [e1,e2];refine .inr ⟨t,t',[.str p.1,.ref lw],[.str p.1,.ref lw'],rfl,rfl,ne a1 b3,.inr ⟨SqT.of a3,SqT.of (s _ _ b3)⟩,rfl,fun m hm=>?_⟩
  match m,hm with
  |0,_=>exact C8 (.inl rfl) 1
  |1,_=>exact dE (ne a2 b4) a4 (s _ _ b4) (DD _) 0
def BJ (cs:Kd→Addr) (cR cN cO:Addr):Sp:=fun vs H Q _=>∃(b t du sd x:Addr) (A:List Addr) (R:List RC) (L:List LC) (N:List (List (Int×Int))) (B:BkS) (e:Ent) (H0:Hp),vs=[.ref b,.ref t,.ref du,.ref sd]∧BkAt cs cR cN cO A H b x R L N B∧EnAt H t e∧ZE e∧xF R L N B e∧AnsAt H du (vT R L N B e 0)∧TldAt H0 H sd B∧∀H',Same H H'→Q (.bl true) H'
theorem uH {P:List (Int×Int)} {j:Nat} {p q:Int×Int} (hp:P[j]?=some p) (h:q.1<p.1∨p.2<q.2):JC (P.set j q) P=false:=by
 have hj:=(ad.mp hp).1;cases hw:JC (P.set j q) P with
 |false=>rfl
 |true =>
  have:=cm.mp hw j (em.mpr (by rw [bc];exact hj));rw [C9 (ci hj) hp,da] at this;have h1:=bv this.1;have h2:=bv this.2;omega
def E5 (cs:Kd→Addr) (cR cN:Addr):Sp:=fun vs H Q _=>∃(s x:Addr) (d c:Int) (R:List RC) (L:List LC) (N:List (List (Int×Int))),vs=[.ref s,.ref x,.int d,.int c]∧CnAt cs cR cN [] H x R L N∧Drawn R L N∧1≤R.length∧0≤d∧
 ∀(wt:Addr) (us:List V) (W:List (Int×Int)) (H':Hp),Same H H'→H wt=none→H' wt=some (.tup us)→AllAt (QAt H') us W→W.length=R.length→(d<(N.length:Int)→JC W (N.getD d.toNat [])=false)→Q (.ref wt) H'
theorem WO {us:List V}:JE us (some 1) none=us.drop 1:=by
 unfold JE;rw [HT.sIx_none,show (some (1:Int))=some ((1:Nat):Int) from rfl,HT.sIx_nat];cases us with
 |nil=>rfl
 |cons a l =>
  rw [bz,Nat.min_eq_left (by omega),bi (by rw [fm,bz];exact aj _)]
theorem AllAt.drop1 {α:Type} {P:V→α→Prop} {us:List V} {ss:List α} (h:AllAt P us ss):AllAt P (us.drop 1) (ss.drop 1):=by
 refine ⟨by rw [fm,fm,h.1],fun i v hv=>?_⟩;rw [List.getElem?_drop] at hv ⊢;exact h.2 _ v hv
def CS (cs:Kd→Addr) (cR cN cO:Addr):Sp:=fun vs H Q _=>∃(s b x:Addr) (c:Int) (A:List Addr) (R:List RC) (L:List LC) (N:List (List (Int×Int))) (B:BkS),vs=[.ref s,.ref b,.ref x,.int c]∧BkAt cs cR cN cO A H b x R L N B∧2≤R.length∧("xyz":Str)∉B.zs∧("xyz":Str)∉R.map (·.name)∧("xyz":Str)∉L.map (·.name)∧∀H',Same H H'→Q (.bl true) H'
theorem i4 {R:List RC} {L:List LC} {N:List (List (Int×Int))} {B:BkS} {e:Ent} (h:Q3 e=true) (hi:JV R L B.zs e=none):kE R L N B e=4:=by
 have:kE R L N B e=if JV R L B.zs e=none then 4 else 0:=by cases e<;>first|rfl|cases h
 rw [this,if_pos hi]
theorem JT {H:Hp} {a:Addr} (o:HO) (h:H a=none):∃H',upd H a o=H'∧Same H H'∧H' a=some o:=⟨_,rfl,jK h o,jE⟩
theorem uX {H:Hp} {l d:Addr} {c:Nat} (z:Str) (hz:cF c=z) (hr:Rf c) (h1:H l=none) (h2:upd H l (.lst [.str z]) d=none):∃H',upd (upd H l (.lst [.str z])) d (.tup [.str "refused",.ref l])=H'∧Same H H'∧AnsAt H' d c:=by
 have u:=jK h2 (.tup [.str "refused",.ref l]);exact ⟨_,rfl,(jK h1 _).trans u,.inr ⟨hr,l,jE,by rw [hz];exact u _ _ jE⟩⟩
theorem WN {c:Int}:c%4=0∨c%4=1∨c%4=2∨c%4=3:=by omega
theorem TM {K:W.Frag}:∀vs H Q E,bT K vs H Q E→bT K vs H Q (fun _ _ _=>False):=fun vs H Q E h=>h
theorem BkAt.out {cs:Kd→Addr} {cR cN cO:Addr} {A:List Addr} {H:Hp} {b x a:Addr} {R:List RC} {L:List LC} {N:List (List (Int×Int))} {B:BkS} (h:BkAt cs cR cN cO A H b x R L N B) (ha:H a=none):a∉A:=fun z=>by
 obtain ⟨db,nl,wl,pl,ql,el,fs,h0,h1,h2,h3,h4,h5,h6,h7,h8,h9⟩:=h.ob;rw [h0] at z;simp only [aq,aE,bx] at z
 rcases z with rfl|rfl|rfl|rfl|rfl
 ·rw [h1] at ha;cases ha
 ·rw [h4] at ha;cases ha
 ·rw [h5] at ha;cases ha
 ·rw [h6] at ha;cases ha
 ·rw [h7] at ha;cases ha
theorem V0 (ns:List Int):JE (ns.map V.int) none (some 12)=(ns.take 12).map V.int:=by
 unfold JE;rw [HT.sIx_none,show (some (12:Int))=some ((12:Nat):Int) from rfl,HT.sIx_nat,ae,drop_zero,Nat.sub_zero,map_take]
 by_cases h:12≤ns.length
 ·rw [Nat.min_eq_left h]
 ·rw [Nat.min_eq_right (by omega),bi (by rw [ae];exact aj _),bi (by rw [ae];omega)]
theorem xO:jS 3 ["script","k","many","cell"] oQ:=jR
include T in
theorem HX (F:kB K "_law_draw" oQ f fd) : FnOk P w K mg base (kF P w) 1 f fd ["script","k","many"] (lG K):=by
 refine F.okX2 xO fun vs H Q E h=>?_
 refine cE h fun s ns k m h=>?_
 refine zI h fun e_ hS h63 hk0 hk1 hm q=>?_
 subst e_;refine ⟨rfl,fun _ _ _ _ hr=>?_⟩;refine ⟨_,(@jG _ _ _ _ _ (j9 (j6 kO (qS K T.xl (pv 0)) jC) (jM (@jJ _ _ _ _ _ _ _ _ vQ (@jJ _ _ _ _ _ _ _ _ kI (@jJ _ _ _ _ _ _ _ _ qE (@jJ _ _ _ _ _ _ _ _ qE (pv 1) (pv 1)) jC) (@jJ _ _ _ _ _ _ _ _ qE jC (pv 1))) (pv 2))) kC)
   (@jG _ _ _ _ _ (jV 3 xO.nd (@jJ _ _ _ _ _ _ _ _ vQ (jH (kR K) (pv 0) (@jJ _ _ _ _ _ _ _ _ vQ (pv 1) (qS K T.xl (pv 0)))) jC))
   (jM (@jJ _ _ _ _ _ _ _ _ vQ (@jJ _ _ _ _ _ _ _ _ vQ (@jJ _ _ _ _ _ _ _ _ kI (@jJ _ _ _ _ _ _ _ _ qE (pv 3) (@jJ _ _ _ _ _ _ _ _ kI (@jJ _ _ _ _ _ _ _ _ qE (pv 1) (pv 1)) jC)) (@jJ _ _ _ _ _ _ _ _ qE (pv 1) jC)) jC) (pv 2))))),?_⟩
 try dsimp only [jU,jT]
 have hml:(ns.map V.int).length=ns.length:=ae _;obtain ⟨kk0,kk1⟩:=VR hk0 hk1;have hm0:(0:Int)<m:=by omega
 refine (jA rfl (⟨s,jA rfl (⟨.inl hS,rfl,jA rfl (?_)⟩)⟩))
 by_cases h0:ns.length=0
 ·refine kK (by rw [hml,h0];rfl) ?_;refine (jA rfl (jA rfl (jY (⟨.inl ⟨by omega,by omega⟩,_,_,rfl,rfl,.inr ⟨by decide,by decide⟩,jA rfl (jY (⟨.inl ⟨by decide,by decide⟩,_,_,rfl,rfl,jA rfl (jY (⟨hm0,?_⟩))⟩))⟩))));unfold zF at q;rw [if_pos h0] at q;exact q
 refine j5 (fun z=>h0 (by have:=V.int.inj z;rw [hml] at this;omega)) ?_;have hl0:(0:Int)<(((ns.map V.int).length:Nat):Int):=by rw [hml];omega
 obtain ⟨j,ej,lj⟩:=iW (a:=k) hl0;have lj:j<ns.length:=by rw [hml] at lj;omega
 refine (jA rfl (jA rfl (jA rfl (⟨s,jA rfl (⟨.inl hS,_,_,rfl,rfl,hl0,?_⟩)⟩))))
 try dsimp only
 rw [ej];have eF:zF ns k m=(ns.getD j 0%1000003*(k*k+48271)+k*7919)%2147483647%m:=by unfold zF;rw [if_neg h0,ej,ay]
 refine ⟨s,_,_,_,rfl,rfl,hS,yJ lj,_,_,rfl,rfl,(by show (0:Int)<1000003;decide),?_⟩;have c0:=bp (ns.getD j 0) (by decide:(1000003:Int)≠0);have c1:=ba (ns.getD j 0) (by decide:(0:Int)<1000003)
 try dsimp only
 generalize ns.getD j 0%1000003=cell at c0 c1 eF ⊢;refine (jA rfl (jA rfl (jA rfl (jY (⟨.inl ⟨by omega,by omega⟩,_,_,rfl,rfl,_,_,rfl,rfl,.inl ⟨by omega,by omega⟩,jA rfl (jY (⟨.inr ⟨by decide,by decide⟩,_,_,rfl,rfl,_,_,rfl,rfl,(by show (0:Int)<2147483647;decide),jA rfl (jY (⟨hm0,?_⟩))⟩))⟩)))));rw [eF] at q;exact q
theorem ME:jS 1 ["script"] o3:=jR
include T in
theorem IH (F:kB K "_law_unit" o3 f fd) : FnOk P w K mg base jQ 1 f fd ["script"] (uN K):=by
 refine F.ok2 ME fun vs H Q E h=>?_
 obtain ⟨s,ns,rfl,hS,h63,q⟩:=h;refine ⟨rfl,fun _ _ _ _ hr=>?_⟩;refine ⟨_,(@jG _ _ _ _ _ (j9 (j6 kO (qS K T.xl (pv 0)) jC) (jM jC) kC)
   (jM (@jJ _ _ _ _ _ _ _ _ kI jC (@jJ _ _ _ _ _ _ _ _ vQ (jH (kR K) (pv 0) jC) (@jJ _ _ _ _ _ _ _ _ lO jC jC))))),?_⟩
 try dsimp only [jU,jT]
 have hml:(ns.map V.int).length=ns.length:=ae _;refine (jA rfl (⟨s,jA rfl (⟨.inl hS,rfl,jA rfl (?_)⟩)⟩))
 by_cases h0:ns.length=0
 ·exact kK (by rw [hml,h0];rfl) (q 1 (by decide) (by decide))
 refine j5 (fun z=>h0 (by have:=V.int.inj z;rw [hml] at this;omega)) ?_;have e10:(10:Int) ^ Int.toNat 10=10000000000:=by decide +kernel
 have u0:=bp (ns.getD 0 0) (show (10:Int) ^ Int.toNat 10≠0 from by decide +kernel);have u1:=ba (ns.getD 0 0) (show (0:Int)<10 ^ Int.toNat 10 from by decide +kernel);refine (jA rfl (⟨s,_,_,_,rfl,rfl,hS,yJ (s:=0) (by omega),_,_,rfl,rfl,⟨by decide,by decide,by decide⟩,_,_,rfl,rfl,(show (0:Int)<10 ^ Int.toNat 10 from by decide +kernel),_,_,rfl,rfl,?_⟩));rw [e10] at u0 u1
 try dsimp only
 rw [e10];exact q _ (by omega) (by omega)
theorem ZI:jS 3 ["script","k","many","signs","size","at","letter","some","j","sign"] oV:=jR
include T in
theorem IB (F:kB K "_law_names" oV f fd) (xt:DefX P w K mg base 1 "_law_draw" ["script","k","many"] [] (lG K)):FnOk P w K mg base (kF P w) 2 f fd ["script","k","many"] (cZ K):=by
  refine F.okX2 ZI fun vs H Q E h=>?_
  refine cE h fun s ns k m h=>?_
  refine zI h fun e_ hS h63 hk0 hk1 hm q=>?_
  subst e_;refine ⟨rfl,fun _ _ _ _ hr=>?_⟩;refine ⟨_,(@jG _ _ _ _ _ (jV 3 ZI.nd jO)
      (@jG _ _ _ _ _ (jV 4 ZI.nd (@jJ _ _ _ _ _ _ _ _ kI jC (qJ xt k7 hr rfl (j7 (pv 0) (pv 1) jC))))
      (@jG _ _ _ _ _ (jV 5 ZI.nd (qJ xt k7 hr rfl (j7 (pv 0) (@jJ _ _ _ _ _ _ _ _ kI (pv 1) jC) (pv 4))))
      (@jG _ _ _ _ _ (jV 6 ZI.nd (jH uW (pv 3) (qJ xt k7 hr rfl (j7 (pv 0) (@jJ _ _ _ _ _ _ _ _ kI (pv 1) jC) jC))))
      (@jG _ _ _ _ _ (jV 7 ZI.nd (kW jD))
      (@jG _ _ _ _ _ (JL fR rfl (QU (by rfl) T.xv (jB (pv 2) jD)) (kU (i:=8) ZI.nd rfl (.inl rfl))
        (@kH _ _ _ (j9 (j6 kO (qJ xt k7 hr rfl (j7 (pv 0) (@jJ _ _ _ _ _ _ _ _ kI (pv 1) jC) jC)) jC) (@kH _ _ _ (qY (yB aC aM aN yS (pv 7) (jB (@jJ _ _ _ _ _ _ _ _ uD (pv 6) (@jJ _ _ _ _ _ _ _ _ kI (pv 8) jC)) jD)))) (@jG _ _ _ _ _ (jV 9 ZI.nd (jH uW (pv 3) (@jJ _ _ _ _ _ _ _ _ vQ (@jJ _ _ _ _ _ _ _ _ kI (qJ xt k7 hr rfl (j7 (pv 0) (@jJ _ _ _ _ _ _ _ _ kI (pv 1) jC) jC)) (pv 8)) jC)))
      (@kH _ _ _ (qY (yB aC aM aN yS (pv 7) (jB (@jJ _ _ _ _ _ _ _ _ AQ (@jJ _ _ _ _ _ _ _ _ AQ (@jJ _ _ _ _ _ _ _ _ uD (pv 6) (pv 5)) (pv 9)) (@jJ _ _ _ _ _ _ _ _ uD (pv 6) (@jJ _ _ _ _ _ _ _ _ yL (@jJ _ _ _ _ _ _ _ _ yL (pv 4) jC) (pv 5)))) jD))))))))
      (jM (pv 7)))))))),?_⟩
  try dsimp only [jU,jT]
  obtain ⟨sz0,sz1⟩:=ZM ns k (show (1:Int)≤12 by decide);refine (jA rfl (jA rfl (⟨s,ns,_,jA rfl (⟨hS,h63,by omega,by omega,by omega,_,_,rfl,rfl,?_⟩)⟩)));generalize zF ns k 12=sz at sz0 sz1 ⊢;obtain ⟨a0,a1⟩:=ZM ns (k+1) (show (1:Int)≤1+sz by omega);refine (jA rfl (jA rfl (jY ((jA rfl (⟨s,ns,_,jA rfl (⟨hS,h63,by omega,by omega,by omega,?_⟩)⟩))))));generalize zF ns (k+1) (1+sz)=a at a0 a1 ⊢;obtain ⟨c0,c1⟩:=ZM ns (k+2) (show (1:Int)≤26 by decide);refine (jA rfl (jA rfl (jA rfl (jY (⟨s,ns,_,jA rfl (⟨hS,h63,by omega,by omega,by omega,?_⟩)⟩)))));generalize zF ns (k+2) 26=c at c0 c1 ⊢;refine ⟨_,_,97+c.toNat,rfl,rfl,(by decide +kernel),D9 c0 c1,?_⟩;obtain ⟨ch,rfl⟩:∃ch:Nat,c=(ch:Int):=⟨c.toNat,by omega⟩;rw [ay];have hch:ch<26:=by omega
  refine ⟨aO _,fun l hl0=>?_⟩;have l1:(⟨#[97+ch]⟩:Str).length=1:=rfl;obtain ⟨d0,d1⟩:=ZM ns (k+3) (show (1:Int)≤3 by decide);obtain ⟨e0,e1⟩:=ZM ns (k+4) (show (1:Int)≤26 by decide);obtain ⟨eN,heN⟩:∃eN:Nat,zF ns (k+4) 26=(eN:Int):=⟨(zF ns (k+4) 26).toNat,by omega⟩;generalize hbr:decide (zF ns (k+3) 3=0)=br;refine (jA rfl (jA rfl (⟨by omega,by omega,c7 (n:=((m:Nat):Int).toNat) (fun i σ Hi=>∃(zs:List Str) (c8 c9:Option V),σ=[some (.ref s),some (.int k),some (.int (m:Int)),some (.str "abcdefghijklmnopqrstuvwxyz"),some (.int (1+sz)),some (.int a),some (.str ⟨#[97+ch]⟩),some (.ref l),c8,c9]∧Hi l=some (.lst (zs.map V.str))∧zs=(List.range i).map (JZ br ch a.toNat (1+sz - 1 - a).toNat eN)∧Same H Hi) ⟨[],none,none,rfl,jE,rfl,jK hl0 _⟩ ?_ ?_⟩)))
  · rintro i σ Hi hi ⟨zs,c8,c9,rfl,hl,hzs,sm⟩
    rw [ay] at hi;rw [fh];have hzl:zs.length=i:=by rw [hzs,ae,aY]
    have put:∀z:Str,z=JZ br ch a.toNat (1+sz - 1 - a).toNat eN i→zs++[z]=(List.range (i+1)).map (JZ br ch a.toNat (1+sz - 1 - a).toNat eN):=fun z h=>by rw [hU,aH,← hzs,h];rfl
    refine (jA rfl (jA rfl (jY (⟨s,ns,_,jA rfl (⟨sm.seq hS,h63,by omega,by omega,by omega,rfl,jA rfl (?_)⟩)⟩))))
    by_cases hd:zF ns (k+3) 3=0
    · have hb:br=true:=by rw [← hbr,aT hd]
      refine kK (by rw [hd]) (jA rfl (⟨.inl ⟨rfl,_,so hl⟩,jA rfl (jA rfl (jY (⟨(⟨#[97+ch]⟩:Str),_,rfl,rfl,by omega,by omega,by rw [l1];decide,?_⟩)))⟩));refine ⟨l,_,_,rfl,rfl,hl,qX (by rw [ae];omega),zs++[qF ⟨#[97+ch]⟩ ((i:Int)+1).toNat],_,jA rfl (⟨?_,put _ ?_,qA hl0 sm⟩)⟩
      · rw [jE,aH];rfl
      · unfold JZ;rw [if_pos hb,show ((i:Int)+1).toNat=i+1 by omega]
    have hb:¬br=true:=by rw [← hbr,aJ hd];decide
    refine j5 (fun z=>hd (V.int.inj z)) (jA rfl (jA rfl (jA rfl (jY (⟨s,ns,_,jA rfl (⟨sm.seq hS,h63,by omega,by omega,by omega,?_⟩)⟩)))));rw [heN];refine (jA rfl (jY (jY (⟨(show (0:Int)<26 from by decide),?_⟩))));have hc2:=D9 (bp ((eN:Int)+(i:Int)) (by decide:(26:Int)≠0)) (ba ((eN:Int)+(i:Int)) (by decide:(0:Int)<26));have hc3:(((eN:Int)+(i:Int))%26).toNat=(eN+i)%26:=by omega
    rw [hc3] at hc2;have l2:(⟨#[97+(eN+i)%26]⟩:Str).length=1:=rfl;have r1:(qF ⟨#[97+ch]⟩ a.toNat).length=a.toNat:=by rw [i6,l1,Nat.mul_one]
    have r2:(qF ⟨#[97+ch]⟩ (1+sz - 1 - a).toNat).length=(1+sz - 1 - a).toNat:=by rw [i6,l1,Nat.mul_one]
    have w1:(qF ⟨#[97+ch]⟩ a.toNat++(⟨#[97+(eN+i)%26]⟩:Str)).length=a.toNat+1:=by rw [sM,r1,l2]
    refine ⟨_,_,97+(eN+i)%26,rfl,rfl,(by decide +kernel),hc2,?_⟩;refine (jA rfl (⟨.inl ⟨rfl,_,so hl⟩,jA rfl (jA rfl (⟨(⟨#[97+ch]⟩:Str),_,rfl,rfl,by omega,by omega,by rw [l1];decide,jA rfl (⟨(qF ⟨#[97+ch]⟩ a.toNat),_,rfl,rfl,bD (by rw [r1,l2];omega),jA rfl (jA rfl (jY ((jA rfl (jY (⟨(⟨#[97+ch]⟩:Str),_,rfl,rfl,by omega,by omega,by rw [l1];decide,(qF ⟨#[97+ch]⟩ a.toNat++(⟨#[97+(eN+i)%26]⟩:Str)),_,rfl,rfl,bD (by rw [w1,r2];omega),?_⟩))))))⟩)⟩))⟩));refine ⟨l,_,_,rfl,rfl,hl,qX (by rw [ae];omega),zs++[qF ⟨#[97+ch]⟩ a.toNat++(⟨#[97+(eN+i)%26]⟩:Str)++qF ⟨#[97+ch]⟩ (1+sz - 1 - a).toNat],_,jA rfl (⟨?_,put _ ?_,qA hl0 sm⟩)⟩
    · rw [jE,aH];rfl
    · unfold JZ;rw [if_neg hb]
  rintro σ Hi ⟨zs,c8,c9,rfl,hl,hzs,sm⟩;rw [ay] at hzs;exact (jA rfl (q l zs Hi sm hl0 hl (by rw [hzs,ae,aY]) (by rw [hzs];exact TH hch (by omega) hm)))
theorem eK:jS 4 ["script","k","unit","named","least","crest","water","berths"] oW:=jR
include T in
theorem IC (F:kB K "_law_reach" oW f fd) (xa:Def P w K mg base 1 "_law_draw" ["script","k","many"] [] (bN K)) (xbF:MkD P w K mg base 1 "Reach" cR ["self","name","least","crest","berths","water","target"] (sE cR)):FnOk P w K mg base jQ 3 f fd ["script","k","unit","named"] (CK K cR):=by
 refine F.ok2 eK fun vs H Q E h=>?_
 refine JN h fun s ns k u nm h=>?_
 refine zI h fun e_ hS h63 hk hv0 hv1 q=>?_
 subst e_;refine ⟨rfl,fun _ _ _ _ hr=>?_⟩;refine ⟨_,(@jG _ _ _ _ _ (jV 4 eK.nd (@jJ _ _ _ _ _ _ _ _ qE (jP xa hr rfl (j7 (pv 0) (@jJ _ _ _ _ _ _ _ _ kI (@jJ _ _ _ _ _ _ _ _ qE jC (pv 1)) jC) jC)) (pv 2)))
   (@jG _ _ _ _ _ (jV 5 eK.nd (@jJ _ _ _ _ _ _ _ _ kI (@jJ _ _ _ _ _ _ _ _ kI (pv 4) (@jJ _ _ _ _ _ _ _ _ qE (jP xa hr rfl (j7 (pv 0) (@jJ _ _ _ _ _ _ _ _ kI (@jJ _ _ _ _ _ _ _ _ qE jC (pv 1)) jC) jC)) (pv 2))) (jP xa hr rfl (j7 (pv 0) (@jJ _ _ _ _ _ _ _ _ kI (@jJ _ _ _ _ _ _ _ _ qE jC (pv 1)) jC) jC))))
   (@jG _ _ _ _ _ (jV 6 eK.nd (@jJ _ _ _ _ _ _ _ _ kI (@jJ _ _ _ _ _ _ _ _ qE (jP xa hr rfl (j7 (pv 0) (@jJ _ _ _ _ _ _ _ _ kI (@jJ _ _ _ _ _ _ _ _ qE jC (pv 1)) jC) jC)) (pv 2)) (jP xa hr rfl (j7 (pv 0) (@jJ _ _ _ _ _ _ _ _ kI (@jJ _ _ _ _ _ _ _ _ qE jC (pv 1)) jC) jC))))
   (@jG _ _ _ _ _ (jV 7 eK.nd (jH (kR K) (kW (vG jC jC jC jC)) (jP xa hr rfl (j7 (pv 0) (@jJ _ _ _ _ _ _ _ _ kI (@jJ _ _ _ _ _ _ _ _ qE jC (pv 1)) jC) jC))))
   (jM (dP xbF hr rfl (FZ (pv 3) (pv 4) (pv 5) (pv 7) (pv 6) (@jJ _ _ _ _ _ _ _ _ yL (jP xa hr rfl (j7 (pv 0) (@jJ _ _ _ _ _ _ _ _ kI (@jJ _ _ _ _ _ _ _ _ qE jC (pv 1)) jC) (@jJ _ _ _ _ _ _ _ _ kI (pv 1) jC))) jC)))))))),?_⟩
 try dsimp only [jU,jT]
 refine (jA rfl (jA rfl (jY (⟨.inl ⟨by decide,by decide⟩,_,_,rfl,rfl,s,ns,_,jA rfl (⟨hS,h63,by omega,by omega,by omega,fun d1 d10 d11=>?_⟩)⟩))));obtain ⟨a1,a2⟩:=bP d10 (show d1≤3 by omega) hv0 hv1 (by decide);refine (jA rfl (jY (⟨.inl ⟨by omega,by omega⟩,?_⟩)))
 try dsimp only
 generalize d1*u=le at a1 a2 ⊢;refine (jA rfl (jA rfl (jA rfl (jY (⟨.inl ⟨by decide,by decide⟩,_,_,rfl,rfl,s,ns,_,jA rfl (⟨hS,h63,by omega,by omega,by omega,fun d2 d20 d21=>?_⟩)⟩)))));obtain ⟨b1,b2⟩:=bP d20 (show d2≤15 by omega) hv0 hv1 (by decide);refine (jA rfl (jY (⟨.inl ⟨by omega,by omega⟩,_,_,rfl,rfl,?_⟩)))
 try dsimp only
 generalize d2*u=cr at b1 b2 ⊢;refine (jA rfl (jA rfl (jY (⟨.inl ⟨by decide,by decide⟩,_,_,rfl,rfl,s,ns,_,jA rfl (⟨hS,h63,by omega,by omega,by omega,fun d3 d30 d31=>?_⟩)⟩))));refine ⟨_,_,rfl,rfl,?_⟩;refine (jA rfl (jA rfl (jY (⟨.inl ⟨by decide,by decide⟩,_,_,rfl,rfl,s,ns,_,jA rfl (⟨hS,h63,by omega,by omega,by omega,fun d4 d40 d41=>?_⟩)⟩))));obtain ⟨c1,c2⟩:=bP d40 (show d4≤24 by omega) hv0 hv1 (by decide);refine (jA rfl (jY (⟨.inl ⟨by omega,by omega⟩,?_⟩)))
 try dsimp only
 generalize d4*u=wa at c1 c2 ⊢;refine (jA rfl (jA rfl (jY (⟨.inl ⟨by decide,by decide⟩,_,_,rfl,rfl,s,ns,_,jA rfl (⟨hS,h63,by omega,by omega,by omega,fun d5 d50 d51=>?_⟩)⟩))));refine ⟨_,_,rfl,rfl,?_⟩;refine ⟨zz4,fun p2 hp2=>?_⟩;have s2:=jK hp2 (.lst ([(1:Int),2,2,9].map V.int));have hS2:=s2.seq hS;refine (jA rfl (jA rfl (jY (⟨.inl ⟨by decide,by decide⟩,_,_,rfl,rfl,s,ns,_,jA rfl (⟨hS2,h63,by omega,by omega,by omega,fun d6 d60 d61=>?_⟩)⟩))));obtain ⟨be,hbe,hat⟩:=EX [(1:Int),2,2,9] d60 d61;refine (kZ (so jE) hat (?_));have hbe':1≤be∧be≤9:=by
  simp only [aq,aE,bx] at hbe
  rcases hbe with rfl|rfl|rfl|rfl<;>decide
 obtain ⟨hb1,hb2⟩:=hbe';have hS3:=hS2;have s3:=s2;refine (jA rfl (jA rfl (jA rfl (jA rfl (jA rfl (?_))))));refine (jA rfl (jA rfl (jY (⟨.inl ⟨by decide,by decide⟩,_,_,rfl,rfl,jA rfl (jY (⟨s,ns,_,jA rfl (⟨hS3,h63,by omega,by omega,by omega,fun d7 d70 d71=>?_⟩)⟩))⟩))));refine ⟨_,_,rfl,rfl,?_⟩;intro x dx nx ndx nex;refine ⟨x,dx,_,_,_,_,_,jA rfl (⟨jE,fun H' fs kp hx hfl=>⟨rfl,?_⟩⟩)⟩;exact q x ⟨nm,le,le+cr+d3,be,wa+d5,d7 - 1⟩ H' ⟨a1,by show le≤le+cr+d3;omega,by show le+cr+d3≤999999999999;omega,hb1,hb2,by show 0≤wa+d5;omega,by show wa+d5≤999999999999;omega,by show -1≤d7 - 1;omega,by show d7 - 1<(k:Int);omega⟩ rfl (s3.trans (fD nx (fJ nx ndx) kp)) (s3.free nx) ⟨dx,fs,hx,hfl⟩
theorem cS:jS 5 ["script","k","reaches","unit","named","high","low","room","part","made"] oS:=jR
include T in
theorem IA (F:kB K "_law_lock" oS f fd) (xa:Def P w K mg base 1 "_law_draw" ["script","k","many"] [] (bN K)) (xa5:MkD P w K mg base 2 "BasinLock" cB ["self","name","high","low","room","side"] (dF (jF cP cB cU) .basin)) (xbc:MkD P w K mg base 2 "PumpLock" cU ["self","name","high","low","room","lift"] (dF (jF cP cB cU) .pump)) (xa6:MkD P w K mg base 1 "PlainLock" cP ["self","name","high","low","room"] (dG (jF cP cB cU))):FnOk P w K mg base jQ 4 f fd ["script","k","reaches","unit","named"] (DI K (jF cP cB cU)):=by
 refine F.ok2 cS fun vs H Q E h=>?_
 refine ZB h fun s ns k n u nm h=>?_
 refine wO h fun e_ hS h63 hk hn2 hn8 hv0 hv1 q=>?_
 subst e_;refine ⟨rfl,fun _ _ _ _ hr=>?_⟩;refine ⟨_,(@jG _ _ _ _ _ (jV 5 cS.nd (@jJ _ _ _ _ _ _ _ _ kI jC (jP xa hr rfl (j7 (pv 0) (@jJ _ _ _ _ _ _ _ _ kI jC (@jJ _ _ _ _ _ _ _ _ qE jC (pv 1))) (@jJ _ _ _ _ _ _ _ _ yL (pv 2) jC)))))
   (@jG _ _ _ _ _ (jV 6 cS.nd (jP xa hr rfl (j7 (pv 0) (@jJ _ _ _ _ _ _ _ _ kI jC (@jJ _ _ _ _ _ _ _ _ qE jC (pv 1))) (pv 5))))
   (@jG _ _ _ _ _ (jV 7 cS.nd (@jJ _ _ _ _ _ _ _ _ kI (@jJ _ _ _ _ _ _ _ _ qE (@jJ _ _ _ _ _ _ _ _ kI jC (jP xa hr rfl (j7 (pv 0) (@jJ _ _ _ _ _ _ _ _ kI jC (@jJ _ _ _ _ _ _ _ _ qE jC (pv 1))) jC))) (pv 3)) (jP xa hr rfl (j7 (pv 0) (@jJ _ _ _ _ _ _ _ _ kI jC (@jJ _ _ _ _ _ _ _ _ qE jC (pv 1))) jC))))
   (@jG _ _ _ _ _ (jV 8 cS.nd (jH (kR K) (kW (vG jC (pv 7) (@jJ _ _ _ _ _ _ _ _ kI jC (@jJ _ _ _ _ _ _ _ _ zX (pv 7) jC)) (@jJ _ _ _ _ _ _ _ _ yL (pv 7) (@jJ _ _ _ _ _ _ _ _ zX (pv 7) jC)))) (jP xa hr rfl (j7 (pv 0) (@jJ _ _ _ _ _ _ _ _ kI jC (@jJ _ _ _ _ _ _ _ _ qE jC (pv 1))) jC))))
   (@jG _ _ _ _ _ (jV 9 cS.nd (jP xa hr rfl (j7 (pv 0) (@jJ _ _ _ _ _ _ _ _ kI jC (@jJ _ _ _ _ _ _ _ _ qE jC (pv 1))) jC)))
   (@jG _ _ _ _ _ (j9 (j6 kO (pv 9) jC) (jM (dP xa5 hr rfl (eG (pv 4) (pv 5) (pv 6) (pv 7) (pv 8)))) kC)
   (@jG _ _ _ _ _ (j9 (j6 kO (pv 9) jC) (jM (dP xbc hr rfl (eG (pv 4) (pv 5) (pv 6) (pv 7) (pv 8)))) kC)
   (jM (dP xa6 hr rfl (vG (pv 4) (pv 5) (pv 6) (pv 7))))))))))),?_⟩
 try dsimp only [jU,jT]
 refine (jA rfl (jA rfl (jY (⟨.inl ⟨by decide,by decide⟩,_,_,rfl,rfl,jA rfl (jY (⟨s,ns,_,jA rfl (⟨hS,h63,by omega,by omega,by omega,fun h1 h10 h11=>?_⟩)⟩))⟩))));refine ⟨_,_,rfl,rfl,?_⟩;refine (jA rfl (jA rfl (jY (⟨.inl ⟨by decide,by decide⟩,_,_,rfl,rfl,jA rfl (⟨s,ns,_,jA rfl (⟨hS,h63,by omega,by omega,by omega,fun lo lo0 lo1=>?_⟩)⟩)⟩))));refine (jA rfl (jA rfl (jY (⟨.inl ⟨by decide,by decide⟩,_,_,rfl,rfl,s,ns,_,jA rfl (⟨hS,h63,by omega,by omega,by omega,fun d2 d20 d21=>?_⟩)⟩))));obtain ⟨b1,b2⟩:=bP (a:=1+d2) (by omega) (show 1+d2≤4 by omega) hv0 hv1 (by decide);refine ⟨_,_,rfl,rfl,jA rfl (jY (⟨.inl ⟨by omega,by omega⟩,?_⟩))⟩;have b3:1≤(1+d2)*u:=by
  have:=Int.mul_le_mul (show (1:Int)≤1+d2 by omega) hv0 (by decide) (by omega);omega
 try dsimp only
 generalize (1+d2)*u=r0 at b1 b2 b3 ⊢;refine (jA rfl (jA rfl (jY (⟨.inl ⟨by decide,by decide⟩,_,_,rfl,rfl,s,ns,_,jA rfl (⟨hS,h63,by omega,by omega,by omega,fun d3 d30 d31=>?_⟩)⟩))));refine ⟨_,_,rfl,rfl,?_⟩;have ro1:1≤r0+d3:=by omega
 have ro2:r0+d3≤999999999999:=by omega
 try dsimp only
 generalize r0+d3=ro at ro1 ro2 ⊢;refine (jA rfl (jA rfl (jY (⟨⟨by decide,by decide⟩,_,_,rfl,rfl,jA rfl (jA rfl (jY (⟨⟨by decide,by decide⟩,_,_,rfl,rfl,zz4,fun p2 hp2=>?_⟩)))⟩))));have s2:=jK hp2 (.lst ([(1:Int),ro,1+ro / 2,ro - ro / 3].map V.int));have hS2:=s2.seq hS;refine (jA rfl (jA rfl (jY (⟨.inl ⟨by decide,by decide⟩,_,_,rfl,rfl,s,ns,_,jA rfl (⟨hS2,h63,by omega,by omega,by omega,fun d4 d40 d41=>?_⟩)⟩))));obtain ⟨pa,hpa,hat⟩:=EX [(1:Int),ro,1+ro / 2,ro - ro / 3] d40 d41;refine (kZ (so jE) hat (?_));have hpa:1≤pa∧pa≤ro:=by
  simp only [aq,aE,bx] at hpa
  rcases hpa with rfl|rfl|rfl|rfl<;>omega
 refine (jA rfl (jA rfl (jY (⟨.inl ⟨by decide,by decide⟩,_,_,rfl,rfl,s,ns,_,jA rfl (⟨hS2,h63,by omega,by omega,by omega,fun d5 d50 d51=>?_⟩)⟩))));have w12:=s2;refine ⟨_,rfl,rfl,jA rfl (zH (fun _=>?_) (fun _=>?_))⟩
 ·refine (jA rfl (jA rfl (jA rfl (jA rfl (jA rfl (?_))))));intro x dx nx ndx nex;refine ⟨x,dx,_,_,_,_,jA rfl (⟨jE,fun H' kp hx=>⟨rfl,?_⟩⟩)⟩;refine q x ⟨nm,1+h1,lo,ro,.basin,pa⟩ H' ⟨by show 1≤1+h1;omega,by show 1+h1<(n:Int);omega,lo0,by show lo<1+h1;omega,ro1,ro2,(fun z=>nomatch z),fun _=>hpa⟩ rfl (w12.trans (fD nx (fJ nx ndx) kp)) (w12.free nx) ⟨x,rfl,dx,hx⟩
 refine ⟨_,rfl,rfl,jA rfl (zH (fun _=>?_) (fun _=>?_))⟩
 ·refine (jA rfl (jA rfl (jA rfl (jA rfl (jA rfl (?_))))));intro x dx nx ndx nex;refine ⟨x,dx,_,_,_,_,jA rfl (⟨jE,fun H' kp hx=>⟨rfl,?_⟩⟩)⟩;refine q x ⟨nm,1+h1,lo,ro,.pump,pa⟩ H' ⟨by show 1≤1+h1;omega,by show 1+h1<(n:Int);omega,lo0,by show lo<1+h1;omega,ro1,ro2,(fun z=>nomatch z),fun _=>hpa⟩ rfl (w12.trans (fD nx (fJ nx ndx) kp)) (w12.free nx) ⟨x,rfl,dx,hx⟩
 refine (jA rfl (jA rfl (jA rfl (jA rfl (?_)))));intro x dx nx ndx nex;refine ⟨.plain,x,dx,_,_,_,jA rfl (⟨jE,fun H' kp hx=>⟨rfl,?_⟩⟩)⟩;refine q x ⟨nm,1+h1,lo,ro,.plain,0⟩ H' ⟨by show 1≤1+h1;omega,by show 1+h1<(n:Int);omega,lo0,by show lo<1+h1;omega,ro1,ro2,fun _=>rfl,fun z=>absurd rfl z⟩ rfl (w12.trans (fD nx (fJ nx ndx) kp)) (w12.free nx) ⟨x,rfl,dx,hx⟩
theorem iG:jS 4 ["script","k","reaches","unit","some","r","comes"] o5:=jR
include T in
theorem IJ (F:kB K "_law_weather" o5 f fd) (xa:Def P w K mg base 1 "_law_draw" ["script","k","many"] [] (bN K)):FnOk P w K mg base jQ 2 f fd ["script","k","reaches","unit"] (BH K):=by
 refine F.ok2 iG fun vs H Q E h=>?_
 refine JN h fun s ns k n u h=>?_
 refine QL h fun e_ hS h63 hk hn8 hv0 hv1 q=>?_
 subst e_;refine ⟨rfl,fun _ _ _ _ hr=>?_⟩;refine ⟨_,(@jG _ _ _ _ _ (jV 4 iG.nd (kW jD))
   (@jG _ _ _ _ _ (JL ff rfl (QU (by rfl) T.xv (jB (pv 2) jD)) (kU (i:=5) iG.nd rfl (.inl rfl))
    (@jG _ _ _ _ _ (jV 6 iG.nd (@jJ _ _ _ _ _ _ _ _ qE (jP xa hr rfl (j7 (pv 0) (@jJ _ _ _ _ _ _ _ _ kI (@jJ _ _ _ _ _ _ _ _ kI jC (@jJ _ _ _ _ _ _ _ _ qE jC (pv 1))) (@jJ _ _ _ _ _ _ _ _ qE jC (pv 5))) jC)) (pv 3)))
   (@kH _ _ _ (qY (yB aC aM aN yS (pv 4) (jB (kD (jB (pv 6) (jB (@jJ _ _ _ _ _ _ _ _ zX (@jJ _ _ _ _ _ _ _ _ qE (jP xa hr rfl (j7 (pv 0) (@jJ _ _ _ _ _ _ _ _ kI (@jJ _ _ _ _ _ _ _ _ kI jC (@jJ _ _ _ _ _ _ _ _ qE jC (pv 1))) (@jJ _ _ _ _ _ _ _ _ qE jC (pv 5))) jC)) (pv 3)) jC) jD))) jD))))))
   (jM (pv 4)))),?_⟩
 try dsimp only [jU,jT]
 refine ⟨zz0,fun l hl0=>?_⟩;refine ⟨_,rfl,_,rfl,by omega,by omega,c7 (n:=((n:Nat):Int).toNat) (fun i σ Hi=>∃(us:List V) (p:List (Int×Int)) (c5 c6:Option V),σ=[some (.ref s),some (.int (k:Int)),some (.int (n:Int)),some (.int u),some (.ref l),c5,c6]∧Hi l=some (.lst us)∧AllAt (QAt Hi) us p∧p.length=i∧(∀q∈p,0≤q.1∧0≤q.2)∧Same H Hi)
  ⟨[],[],none,none,rfl,jE,AllAt.nil,rfl,(fun q hq=>by cases hq),jK hl0 _⟩ ?_ ?_⟩
 ·rintro i σ Hi hi ⟨us,p,c5,c6,rfl,hl,hA,hp,hnn,sm⟩;rw [ay] at hi;rw [fh];have hSi:=sm.seq hS;refine (jA rfl (jA rfl (jY (⟨.inl ⟨by decide,by decide⟩,_,_,rfl,rfl,jA rfl (jY (⟨.inl ⟨by decide,by decide⟩,_,_,rfl,rfl,s,ns,_,jA rfl (⟨hSi,h63,by omega,by omega,by omega,fun d1 d10 d11=>?_⟩)⟩))⟩))));refine (jA rfl (jY (⟨.inl ⟨by omega,by omega⟩,?_⟩)));refine (jA rfl (⟨.inl ⟨rfl,_,so hl⟩,jA rfl (jA rfl (jA rfl (jY (⟨.inl ⟨by decide,by decide⟩,_,_,rfl,rfl,jA rfl (jY (⟨.inl ⟨by decide,by decide⟩,_,_,rfl,rfl,s,ns,_,jA rfl (⟨hSi,h63,by omega,by omega,by omega,fun d2 d20 d21=>?_⟩)⟩))⟩))))⟩));refine (jA rfl (jY (⟨.inl ⟨by omega,by omega⟩,_,_,rfl,rfl,⟨by decide,by decide⟩,zz2,fun tp htp=>?_⟩)));have v:=jK htp (.tup [V.int (d1*u),V.int (d2*u / 2)]);refine ⟨l,_,_,rfl,rfl,v _ _ hl,qX (by rw [hA.1];omega),?_⟩;refine ⟨us++[.ref tp],p++[(d1*u,d2*u / 2)],_,jA rfl (⟨jE,?_,by rw [af,hp];rfl,fun q hq=>?_,qA hl0 (sm.trans v)⟩)⟩
  rotate_left
  ·rcases aV.mp hq with h|h
   ·exact hnn q h
   ·rw [aR.mp h];have m1:=(bP d10 (show d1≤3 by omega) hv0 hv1 (by decide)).1;have m2:=(bP d20 (show d2≤3 by omega) hv0 hv1 (by decide)).1;exact ⟨m1,by show 0≤d2*u / 2;omega⟩
  exact ((hA.mono (QAt.same v)).snoc (v:=.ref tp) (x:=(d1*u,d2*u / 2)) ⟨tp,rfl,jE⟩).mono (QAt.put (v _ _ hl))
 rintro σ Hi ⟨us,p,c5,c6,rfl,hl,hA,hp,hnn,sm⟩;rw [ay] at hp;exact (jA rfl (q l p Hi hp hnn sm hl0 ⟨l,us,rfl,hl,hA,by simp⟩))
theorem QR:jS 4 ["script","most_reaches","most_locks","most_nights","unit","many","locks","called","named","nights","reaches"] cM:=jR
include T in
theorem HV (F:kB K "_law_canal" cM f fd) (we:Def P w K mg base 1 "_law_unit" ["script"] [] (uN K)) (xa:Def P w K mg base 1 "_law_draw" ["script","k","many"] [] (bN K)) (ui:Def P w K mg base 2 "_law_names" ["script","k","many"] [] (cZ K)) (xaa:Def P w K mg base 2 "_law_weather" ["script","k","reaches","unit"] [] (BH K)) (xaR:Def P w K mg base 3 "_law_reach" ["script","k","unit","named"] [] (CK K cR)) (xbG:MkD P w K mg base 1 "Canal" cN ["self","reaches","locks","nights"] (sF (jF cP cB cU) cR cN)) (xa7:Def P w K mg base 4 "_law_lock" ["script","k","reaches","unit","named"] [] (DI K (jF cP cB cU))):FnOk P w K mg base jQ 6 f fd ["script","most_reaches","most_locks","most_nights"] (CQ K (jF cP cB cU) cR cN):=by
 refine F.ok2 QR fun vs H Q E h=>?_
 refine JN h fun s ns mr ml mn h=>?_
 refine wO h fun e_ hS h63 hr2 hr8 hl1 hl4 hn5 q=>?_
 subst e_;refine ⟨rfl,fun _ _ _ _ hr=>?_⟩;refine ⟨_,(@jG _ _ _ _ _ (jV 4 QR.nd (jP we hr rfl (jB (pv 0) jD)))
   (@jG _ _ _ _ _ (jV 5 QR.nd (@jJ _ _ _ _ _ _ _ _ kI jC (jP xa hr rfl (j7 (pv 0) jC (@jJ _ _ _ _ _ _ _ _ yL (pv 1) jC)))))
   (@jG _ _ _ _ _ (jV 6 QR.nd (@jJ _ _ _ _ _ _ _ _ kI jC (jP xa hr rfl (j7 (pv 0) jC (pv 2)))))
   (@jG _ _ _ _ _ (jV 7 QR.nd (jP ui hr rfl (j7 (pv 0) jC (pv 5))))
   (@jG _ _ _ _ _ (jV 8 QR.nd (jP ui hr rfl (j7 (pv 0) jC (pv 6))))
   (zB (j9 (PW.pt (fP (j6 l9 (pv 6) (pv 5)) (fH (j6 kO (jP xa hr rfl (j7 (pv 0) jC jC)) jC)))) (@kH _ _ _ (jV 8 QR.nd (tR (CT K) (pv 7) uC (nB (pv 6))))) kC)
   (@jG _ _ _ _ _ (bE (i:=9) ["k","script","many","unit"] (vF 1 [0,5,4]) QR.nd rfl (.inl rfl) rfl (vM (j8 cM)) (cps 1 [0,5,4]) (QU (by rfl) T.xv (jB (jP xa hr rfl (j7 (pv 0) jC (@jJ _ _ _ _ _ _ _ _ kI (pv 3) jC))) jD)) (fun _ _ _ _ _=>(kU (i:=0) (show List.Nodup (["k","script","many","unit"]:List Str) from by decide +kernel) rfl (.inl rfl))) (fun _ _ _ _ _=>yR) (fun _ _ _ _ _=>(jP xaa hr rfl (vG (pv 1) (pv 0) (pv 2) (pv 3)))))
   (@jG _ _ _ _ _ (bE (i:=10) ["k","script","unit","called"] (vF 1 [0,4,7]) QR.nd rfl (.inl rfl) rfl (vM (j8 cM)) (cps 1 [0,4,7]) (QU (by rfl) T.xv (jB (pv 5) jD)) (fun _ _ _ _ _=>(kU (i:=0) (show List.Nodup (["k","script","unit","called"]:List Str) from by decide +kernel) rfl (.inl rfl))) (fun _ _ _ _ _=>yR) (fun _ _ _ _ _=>(jP xaR hr rfl (vG (pv 1) (pv 0) (pv 2) (jH (kR K) (pv 3) (pv 0))))))
   (jM (dP xbG hr rfl (j7 (pv 10) (mL ["k","script","many","unit","named"] [0,5,4,8] (vM (j8 cM)) (QU (by rfl) T.xv (jB (pv 6) jD)) (fun _ _ _ _ _=>(jP xa7 hr rfl (eG (pv 1) (pv 0) (pv 2) (pv 3) (jH (kR K) (pv 4) (pv 0)))))) (pv 9)))))))))))),?_⟩
 try dsimp only [jU,jT]
 refine (jA rfl (⟨s,ns,rfl,hS,h63,fun u hv0 hv1=>?_⟩));refine (jA rfl (jA rfl (jY (⟨s,ns,_,jA rfl (⟨hS,h63,by omega,by omega,by omega,fun m0 m00 m01=>⟨_,_,rfl,rfl,?_⟩⟩)⟩))));obtain ⟨n,hn⟩:∃n:Nat,2+m0=(n:Int):=⟨(2+m0).toNat,by omega⟩
 try dsimp only
 rw [hn];have hn2:2≤n:=by omega
 have hn8:n≤8:=by omega
 refine (jA rfl (jA rfl (⟨s,ns,_,jA rfl (⟨hS,h63,by omega,by omega,by omega,fun m1 m10 m11=>⟨_,_,rfl,rfl,?_⟩⟩)⟩)));obtain ⟨m,hm⟩:∃m:Nat,1+m1=(m:Int):=⟨(1+m1).toNat,by omega⟩
 try dsimp only
 rw [hm];refine (jA rfl (jA rfl ((yP s ns _ n (vU rfl hS h63 (by decide) (by decide) (by omega) (fun cl cs H1 s1 hcl0 hcl hcsl hcs50=>?_))))));refine (jA rfl (jA rfl ((yP s ns _ m (vU rfl (s1.seq hS) h63 (by decide) (by decide) (by omega) (fun n0 z0 H2 s2 hn00 hn0 hz0l hz050=>?_))))));have s12:=s1.trans s2;refine ⟨fun σ Hj=>∃(na:Addr) (zs:List Str),σ=[some (.ref s),some (.int (mr:Int)),some (.int (ml:Int)),some (.int (mn:Int)),some (.int u),some (.int (n:Int)),some (.int (m:Int)),some (.ref cl),some (.ref na),none,none]∧Hj na=some (.lst (zs.map V.str))∧zs.length=m∧NmsOk zs∧Hj cl=some (.lst (cs.map V.str))∧Same H Hj,?_,?_⟩
 ·refine (jA rfl (jA rfl (jY ((jA rfl (zH (fun c=>?_) (fun c=>⟨n0,z0,rfl,hn0,hz0l,hz050,s2 _ _ hcl,s12⟩)))))));have hle:m≤n:=by have:(m:Int)≤(n:Int):=bv c;omega
  refine (jA rfl (⟨s,ns,_,jA rfl (⟨s12.seq hS,h63,by decide,by decide,by decide,fun d d0 d1=>⟨rfl,jA rfl (zH (fun c=>?_) (fun c=>⟨n0,z0,rfl,hn0,hz0l,hz050,s2 _ _ hcl,s12⟩))⟩⟩)⟩));refine (jA rfl (jA rfl (jA rfl (⟨cl,jA rfl (⟨so (s2 _ _ hcl),fun p hp=>?_⟩)⟩))));rw [PX (show m≤cs.length by omega)];have u:=jK hp (.lst ((cs.take m).map V.str));exact ⟨p,cs.take m,rfl,jE,by rw [bj];omega,hcs50.take m,u _ _ (s2 _ _ hcl),s12.trans u⟩
 rintro σ H3 ⟨na,zs,rfl,hna,hzl,hzx,hcl3,s3⟩;refine (jA rfl (jA rfl (jY (⟨s,ns,_,jA rfl (⟨s3.seq hS,h63,by omega,by omega,by omega,fun m2 m20 m21=>?_⟩)⟩))));obtain ⟨c,hc⟩:∃c:Nat,m2=(c:Int):=⟨m2.toNat,by omega⟩;rw [hc];refine (jA rfl (⟨by omega,by omega,fun nl hnl0=>?_⟩));refine sK (n:=((c:Nat):Int).toNat) (caps:=[some (.ref s),some (.int (n:Int)),some (.int u)]) (fun i ys Hi=>∃N:List (List (Int×Int)),AllAt (NAt [nl] Hi) ys N∧N.length=i∧(∀p∈N,∀q∈p,0≤q.1∧0≤q.2)∧∀p∈N,p.length=n) hnl0 ⟨[],AllAt.nil,rfl,(fun l hl=>by cases hl),fun l hl=>by cases hl⟩ ?_ ?_
 ·rintro i ys Hi hi hle sm hY ⟨N,hN,hNl,hNn,hNg⟩;rw [ay] at hi;rw [fh];refine v9 (qG (jA rfl (jA rfl (jA rfl (jA rfl ((yD s ns i n u (zU rfl ((s3.trans sm).seq hS) h63 (by omega) hn8 hv0 hv1 (fun l p H' hg hgn s' hl0 hl=>JH hnl0 sm hY hle (by omega) s' ?_)))))))));obtain ⟨l',qs,e,h1,h2,_⟩:=hl;cases e;refine ⟨N++[p],((hN.mono (NAt.same s')).snoc (v:=.ref l) (x:=p) ⟨l,qs,rfl,h1,h2,fun z=>kT hY hl0 (aR.mp z).symm⟩).mono (NAt.put (s' _ _ hY) (by simp)),by rw [af,hNl];rfl,(fun p' hp'=>(aV.mp hp').elim (hNn p') fun h=>by rw [aR.mp h];exact hgn),fun p' hp'=>?_⟩
  rcases aV.mp hp' with hp'|hp'
  ·exact hNg p' hp'
  ·rw [aR.mp hp'];exact hg
 rintro nv H4 s4 hnl hle3 ⟨N,hN,hNl,hNn,hNg⟩;rw [ay] at hNl;have s34:=s3.trans s4;refine (jA rfl (jA rfl (⟨by omega,by omega,fun rl hrl0=>?_⟩)));refine sK (n:=((n:Nat):Int).toNat) (caps:=[some (.ref s),some (.int u),some (.ref cl)]) (fun i ys Hi=>∃R:List RC,AllAt (RcO cR Hi) ys R∧R.length=i∧R.map (·.name)=cs.take i∧∀(j:Nat) (r:RC),R[j]?=some r→r.good j) hrl0 ⟨[],AllAt.nil,rfl,rfl,fun j r hj=>by cases hj⟩ ?_ ?_
 ·rintro i ys Hi hi hle sm hY ⟨R,hR,hRl,hRx,hRg⟩;rw [ay] at hi;rw [fh];obtain ⟨nm,hnc⟩:∃nm,cs[i]?=some nm:=⟨_,aa (show i<cs.length by omega)⟩;have hnm:(cs.map V.str)[i]?=some (.str nm):=by rw [ao,hnc];rfl
  refine v9 (qG (jA rfl (jA rfl (jA rfl (jA rfl (jA rfl (kZ (so (sm _ _ (s4 _ _ hcl3))) (kY hnm) ((yD s ns i u nm (vU rfl ((s34.trans sm).seq hS) h63 (by omega) hv0 hv1 (fun x r H' hg hrn s' hx0 hx=>JH hrl0 sm hY hle (by omega) s' ?_)))))))))));refine ⟨R++[r],((hR.mono (RcO.same s')).snoc (v:=.ref x) (x:=r) ⟨x,rfl,hx⟩).mono (RcO.keep ((Keep.refl rl H').upd _) (s' _ _ hY)),by rw [af,hRl];rfl,(by rw [aH,hRx,aL,hnc,← hrn];rfl),fun j r' hj=>?_⟩
  by_cases hl:j<R.length
  ·rw [av hl] at hj;exact hRg j r' hj
  ·rw [aw (by omega)] at hj;have hz:j - R.length=0:=by
    have:=(ad.mp hj).1;rw [aF] at this;omega
   rw [hz] at hj;cases hj;rw [show j=i by omega];exact hg
 rintro rs H5 s5 hrl hle1 ⟨R,hR,hRl,hRx,hRg⟩;rw [ay] at hRl;have s45:=s4.trans s5;have s35:=s3.trans s45;refine (jA rfl (jA rfl (jA rfl (⟨by omega,by omega,fun ll hll0=>?_⟩))));refine sK (n:=((m:Nat):Int).toNat) (caps:=[some (.ref s),some (.int (n:Int)),some (.int u),some (.ref na)]) (fun i ys Hi=>∃L:List LC,AllAt (LkO (jF cP cB cU) Hi) ys L∧L.length=i∧L.map (·.name)=zs.take i∧∀l∈L,l.good n) hll0 ⟨[],AllAt.nil,rfl,rfl,fun l hl=>by cases hl⟩ ?_ ?_
 ·rintro i ys Hi hi hle sm hY ⟨L,hL,hLl,hLx,hLg⟩;rw [ay] at hi;rw [fh];obtain ⟨nm,hnc⟩:∃nm,zs[i]?=some nm:=⟨_,aa (show i<zs.length by omega)⟩;have hnm:(zs.map V.str)[i]?=some (.str nm):=by rw [ao,hnc];rfl
  refine v9 (qG (jA rfl (jA rfl (jA rfl (jA rfl (jA rfl (jA rfl (kZ (so (sm _ _ (s45 _ _ hna))) (kY hnm) ((J3 s ns i n u nm (mX rfl ((s35.trans sm).seq hS) h63 (by omega) hn2 hn8 hv0 hv1 (fun x l H' hg hln s' hx0 hx=>JH hll0 sm hY hle (by omega) s' ?_))))))))))));refine ⟨L++[l],((hL.mono (LkO.same s')).snoc (v:=.ref x) (x:=l) hx).mono (LkO.keep ((Keep.refl ll H').upd _) (s' _ _ hY)),by rw [af,hLl];rfl,(by rw [aH,hLx,aL,hnc,← hln];rfl),fun l' hl'=>?_⟩
  rcases aV.mp hl' with hl'|hl'
  ·exact hLg l' hl'
  ·rw [aR.mp hl'];exact hg
 rintro ls H6 s6 hll hle2 ⟨L,hL,hLl,hLx,hLg⟩;rw [ay] at hLl;refine (jA rfl (?_));intro x dx nx ndx nex;have v:=fun o o'=>fJ (o:=o) (o':=o') nx ndx
 refine (Z4 x dx rl ll _ rs ls R L N (zU rfl jE (v _ _ _ _ (s6 _ _ hrl)) (v _ _ _ _ hll) ((hR.mono (RcO.same s6)).mono (RcO.same (v _ _))) (hL.mono (LkO.same (v _ _))) (.inr ⟨nl,nv,rfl,v _ _ _ _ (s6 _ _ (s5 _ _ hnl)),(hN.mono (NAt.same (s5.trans s6))).mono (NAt.same (v _ _)) |>.mono (NAt.less (by simp)),by rw [hN.1];omega⟩) (fun H' kp hC=>⟨rfl,?_⟩)));have w:=s35.trans s6;exact q x R L N H' ⟨by omega,by omega,by omega,by omega,hRg,fun i l hl=>by rw [hRl];exact hLg l (au hl),fun p hp=>by rw [hRl];exact hNg p hp⟩ hNn (by rw [hRx,ay];exact hcs50.take n) (by rw [hLx,ay];exact hzx.take m) (by omega) (by omega) (by omega) (by omega) (by omega) (w.trans (fD nx (v _ _) kp)) (w.free nx) (hC [] (fun d hd=>nomatch hd))
theorem rM:jS 2 ["canal","reach","some","k"] o0:=jR
include T in
theorem IG (F:kB K "_law_turns" o0 f fd) : FnOk P w K mg base jQ 1 f fd ["canal","reach"] (DG (jF cP cB cU) cR cN):=by
 refine F.ok2 rM fun vs H Q E h=>?_
 refine ZB h fun x r D R L N h=>?_
 refine Z5 h fun e_ p0_ b8 q=>?_
 subst e_;obtain ⟨dx,rl,ll,nl,fs,rs,ls,ns,hx,hf,hrl,hll,hnl,hR,hL,hN,d1,d2,d3⟩:=p0_;refine ⟨rfl,fun _ _ _ _ hr=>?_⟩;refine ⟨_,(@jG _ _ _ _ _ (jV 2 rM.nd (kW jD))
   (@jG _ _ _ _ _ (JL ff rfl (QU (by rfl) T.xv (jB (qS K T.xl (jZ K (pv 0) rfl)) jD)) (kU (i:=3) rM.nd rfl (.inl rfl))
    (zB (j9 (j6 kO (jZ K (jH (kR K) (jZ K (pv 0) rfl) (pv 3)) rfl) (pv 1)) (@kH _ _ _ (qY (yB aC aM aN yS (pv 2) (jB (kD (jB (pv 3) (jB jO jD))) jD)))) kC)
   (@kH _ _ _ (j9 (j6 kO (jZ K (jH (kR K) (jZ K (pv 0) rfl) (pv 3)) rfl) (pv 1)) (@kH _ _ _ (qY (yB aC aM aN yS (pv 2) (jB (kD (jB (pv 3) (jB jO jD))) jD)))) kC))))
   (jM (pv 2)))),?_⟩
 try dsimp only [jU,jT]
 refine ⟨zz0,fun ol hol0=>?_⟩;have s1:=jK hol0 (.lst []);refine ⟨_,rfl,x,cN,dx,_,_,rfl,(s1 _ _ hx),T.clN,T.xh,hf.2.1,ll,_,rfl,.inl (so (s1 _ _ hll)),_,rfl,by omega,by rw [hL.1];omega,c7 (n:=((ls.length:Nat):Int).toNat) (fun i σ Hi=>∃(us:List V) (c:Option V),σ=[some (.ref x),some (.int r),some (.ref ol),c]∧Hi ol=some (.lst us)∧AllAt (PAt Hi) us (ZO L r i)∧Same H Hi)
  ⟨[],none,rfl,jE,AllAt.nil,s1⟩ ?_ ?_⟩
 ·rintro i σ Hi hi ⟨us,c,rfl,hol,hA,sm⟩;rw [ay,hL.1] at hi;rw [fh];obtain ⟨l,hl'⟩:∃l,L[i]?=some l:=⟨_,aa hi⟩;obtain ⟨v,hv,y,rfl,dl,hl⟩:=hL.get hl';have hlen:=NL L r i;have ek:ZU L r i=(if l.low=r then [(i,true)] else [])++(if l.high=r then [(i,false)] else []):=by unfold ZU;rw [hl']
  refine ⟨fun σ' H'=>∃us:List V,σ'=[some (.ref x),some (.int r),some (.ref ol),some (.int (i:Int))]∧H' ol=some (.lst us)∧AllAt (PAt H') us (ZO L r i++(if l.low=r then [(i,true)] else []))∧Same H H',?_,?_⟩
  ·refine (jA rfl (j0 ((sm _ _ hx)) (T.clN) (T.xh) (hf.2.1) ((jA rfl (kZ (so (sm _ _ hll)) (kY hv) (j0 ((sm _ _ hl)) (T.cl l.kd) (T.uz l.kd) (dM l.kd _ _ _ _ _) (⟨_,rfl,rfl,jA rfl (?_)⟩)))))))
   by_cases h:l.low=r
   ·refine kK (bu V.int h) (jA rfl (⟨.inl ⟨rfl,_,so hol⟩,jA rfl (⟨zz2,fun tp htp=>?_⟩)⟩));have u:=jK htp (.tup [V.int (i:Int),V.str "up"]);refine ⟨ol,_,_,rfl,rfl,u _ _ hol,qX (by rw [hA.1];omega),jA rfl (⟨jE,?_,qA hol0 (sm.trans u)⟩)⟩;rw [if_pos h];exact ((hA.mono (PAt.same u)).snoc (v:=.ref tp) (x:=(i,true)) ⟨tp,rfl,jE⟩).mono (PAt.put (u _ _ hol))
   ·refine j5 (fun z=>h (V.int.inj z)) ⟨us,rfl,hol,?_,sm⟩;rw [if_neg h,bo];exact hA
  rintro σ' H' ⟨us,rfl,hol,hA,sm⟩;have hl2:(if l.low=r then [(i,true)] else ([]:List (Nat×Bool))).length≤1:=by split<;>simp
  refine (jA rfl (j0 ((sm _ _ hx)) (T.clN) (T.xh) (hf.2.1) ((jA rfl (kZ (so (sm _ _ hll)) (kY hv) (j0 ((sm _ _ hl)) (T.cl l.kd) (T.vt l.kd) (dH l.kd _ _ _ _ _) (⟨_,rfl,rfl,jA rfl (?_)⟩)))))))
  by_cases h:l.high=r
  ·refine kK (bu V.int h) (jA rfl (⟨.inl ⟨rfl,_,so hol⟩,jA rfl (⟨zz2,fun tp htp=>?_⟩)⟩));have u:=jK htp (.tup [V.int (i:Int),V.str "down"]);refine ⟨ol,_,_,rfl,rfl,u _ _ hol,qX (by rw [hA.1,af];omega),_,jA rfl (⟨jE,?_,qA hol0 (sm.trans u)⟩)⟩;rw [rY,ek,if_pos h,← append_assoc];exact ((hA.mono (PAt.same u)).snoc (v:=.ref tp) (x:=(i,false)) ⟨tp,rfl,jE⟩).mono (PAt.put (u _ _ hol))
  ·refine j5 (fun z=>h (V.int.inj z)) ⟨us,jA rfl (⟨hol,?_,sm⟩)⟩;rw [rY,ek,if_neg h,bo];exact hA
 rintro σ Hi ⟨us,c,rfl,hol,hA,sm⟩;rw [ay,hL.1] at hA;exact (jA rfl (q ol us Hi sm hol0 hol hA))
theorem QS:jS 4 ["script","k","canal","most","lock","at","start","steps","j","some","step"] o4:=jR
include T in
theorem II (F:kB K "_law_way" o4 f fd) (xa:Def P w K mg base 1 "_law_draw" ["script","k","many"] [] (bN K)) (xaS:Def P w K mg base 1 "_law_turns" ["canal","reach"] [] (DG (jF cP cB cU) cR cN)):FnOk P w K mg base jQ 2 f fd ["script","k","canal","most"] (DF K (jF cP cB cU) cR cN):=by
 refine F.ok2 QS fun vs H Q E h=>?_
 refine yO h fun s x ns k mo D R L N h=>?_
 refine V3 h fun e_ hS h63 hk hm1 hm8 hc hdr b1 q=>?_
 subst e_;refine ⟨rfl,fun _ _ _ _ hr=>?_⟩;refine ⟨_,(@jG _ _ _ _ _ (jV 4 QS.nd (jH (kR K) (jZ K (pv 2) rfl) (jP xa hr rfl (j7 (pv 0) (@jJ _ _ _ _ _ _ _ _ kI jC (@jJ _ _ _ _ _ _ _ _ qE jC (pv 1))) (qS K T.xl (jZ K (pv 2) rfl))))))
   (@jG _ _ _ _ _ (jV 5 QS.nd (jH (kR K) (kW (jB (jZ K (pv 4) rfl) (jB (jZ K (pv 4) rfl) jD))) (jP xa hr rfl (j7 (pv 0) (@jJ _ _ _ _ _ _ _ _ kI jC (@jJ _ _ _ _ _ _ _ _ qE jC (pv 1))) jC))))
   (@jG _ _ _ _ _ (jV 6 QS.nd (pv 5))
   (@jG _ _ _ _ _ (jV 7 QS.nd (kW jD))
   (@jG _ _ _ _ _ (JL ff rfl (QU (by rfl) T.xv (jB (@jJ _ _ _ _ _ _ _ _ kI jC (jP xa hr rfl (j7 (pv 0) (@jJ _ _ _ _ _ _ _ _ kI jC (@jJ _ _ _ _ _ _ _ _ qE jC (pv 1))) (pv 3)))) jD)) (kU (i:=8) QS.nd rfl (.inl rfl))
    (@jG _ _ _ _ _ (jV 9 QS.nd (jP xaS hr rfl (jB (pv 2) (jB (pv 5) jD))))
   (@jG _ _ _ _ _ (jV 10 QS.nd (jH (kR K) (pv 9) (jP xa hr rfl (j7 (pv 0) (@jJ _ _ _ _ _ _ _ _ kI (@jJ _ _ _ _ _ _ _ _ kI jC (@jJ _ _ _ _ _ _ _ _ qE jC (pv 1))) (pv 8)) (qS K T.xl (pv 9))))))
   (@jG _ _ _ _ _ (qY (yB aC aM aN yS (pv 7) (jB (pv 10) jD)))
   (@kH _ _ _ (jV 5 QS.nd (jH (kR K) (kW (jB (jZ K (jH (kR K) (jZ K (pv 2) rfl) (jH (jN K) (pv 10) jC)) rfl) (jB (jZ K (jH (kR K) (jZ K (pv 2) rfl) (jH (jN K) (pv 10) jC)) rfl) jD))) (vO P5 (by rfl) T.xaF PyProof.Rows.boot_int (jB (JY kO (jH (jN K) (pv 10) jC) jO) jD)))))))))
   (jM (kD (jB (pv 6) (jB (vO (bC K) (by rfl) T.zg cf (jB (pv 7) jD)) jD))))))))),?_⟩
 try dsimp only [jU,jT]
 have hc0:=hc;obtain ⟨dx,rl,ll,nl,fs,rs,ls,nv,hx,hf,hrl,hll,hnl,hR,hL,hN,d1,d2,d3⟩:=hc;have b8:=hdr.l8;refine (jA rfl (j0 hx (T.clN) (T.xh) (hf.2.1) ((jA rfl (jA rfl (jY (⟨.inl ⟨by decide,by decide⟩,_,_,rfl,rfl,jA rfl (j0 hx (T.clN) (T.xh) (hf.2.1) (⟨ll,jA rfl (⟨.inl (so hll),s,ns,_,jA rfl (⟨hS,h63,by omega,by omega,by rw [hL.1];omega,fun d1 d10 d11=>?_⟩)⟩)⟩))⟩)))))));obtain ⟨k1,hk1⟩:∃k1:Nat,d1=(k1:Int):=⟨d1.toNat,by omega⟩;subst hk1;have hk1L:k1<L.length:=by rw [hL.1] at d11;omega
 obtain ⟨l0,hl0⟩:∃l,L[k1]?=some l:=⟨_,aa hk1L⟩;obtain ⟨v,hv,yl,rfl,dl,hl⟩:=hL.get hl0;refine (kZ (so hll) (kY hv) (?_));refine (jA rfl (j0 hl (T.cl l0.kd) (T.uz l0.kd) (dM l0.kd _ _ _ _ _) ((jA rfl (j0 hl (T.cl l0.kd) (T.vt l0.kd) (dH l0.kd _ _ _ _ _) (⟨zz2,fun p1 hp1=>?_⟩))))));have s1:=jK hp1 (.lst [V.int l0.low,V.int l0.high]);refine (jA rfl (jA rfl (jY (⟨.inl ⟨by decide,by decide⟩,_,_,rfl,rfl,s,ns,_,jA rfl (⟨s1.seq hS,h63,by omega,by omega,by omega,fun d2 d20 d21=>?_⟩)⟩))));obtain ⟨a0,hat,hend⟩:∃a0:Int,qU [V.int l0.low,V.int l0.high] d2=some (.int a0)∧EndAt L a0:=by
  obtain ⟨k2,hk2⟩:∃k2:Nat,d2=(k2:Int):=⟨d2.toNat,by omega⟩;subst hk2
  rcases k2 with _|_|k2
  ·exact ⟨l0.low,rfl,(k1,true),hk1L,by rw [ZP hl0]⟩
  ·exact ⟨l0.high,rfl,(k1,false),hk1L,by rw [ZL hl0]⟩
  ·omega
 refine (kZ (so jE) hat (?_));refine (jA rfl (⟨zz0,fun sp hsp0=>?_⟩));have s2:=jK hsp0 (.lst []);have s12:=s1.trans s2;have hsp:upd (upd H p1 (.lst [V.int l0.low,V.int l0.high])) sp (.lst []) sp=some (.lst []):=jE;have hspf:=s1.free hsp0;generalize upd (upd H p1 (.lst [V.int l0.low,V.int l0.high])) sp (.lst [])=H2 at s2 s12 hsp ⊢;refine (jA rfl (jA rfl (jY (⟨.inl ⟨by decide,by decide⟩,_,_,rfl,rfl,jA rfl (⟨s,ns,_,jA rfl (⟨s12.seq hS,h63,by omega,by omega,by omega,fun m0 m00 m01=>?_⟩)⟩)⟩))));obtain ⟨n,hn⟩:∃n:Nat,1+m0=(n:Int):=⟨(1+m0).toNat,by omega⟩;refine ⟨_,_,rfl,rfl,(n:Int),(by show [V.int (1+m0)]=_;rw [hn]),by omega,by omega,?_⟩;refine c7 (n:=((n:Nat):Int).toNat) (fun i σ Hi=>∃(a:Int) (ps:List (Nat×Bool)) (us:List V) (c8 c9 c10:Option V),σ=[some (.ref s),some (.int (k:Int)),some (.ref x),some (.int (mo:Int)),some (.ref yl),some (.int a),some (.int a0),some (.ref sp),c8,c9,c10]∧Hi sp=some (.lst us)∧AllAt (PAt Hi) us ps∧(∀p∈ps,p.1<L.length)∧ps.length=i∧(vE L a0 ps)[ps.length]?=some a∧JO L a0 ps∧EndAt L a∧Same H Hi)
  ⟨a0,[],[],none,none,none,rfl,hsp,AllAt.nil,fun p hp=>(by cases hp),rfl,rfl,S8 _ _,hend,s12⟩ ?_ ?_
 ·rintro i σ Hi hi ⟨a,ps,us,c8,c9,c10,rfl,hsp,hA,hlt,hpl,hlast,hok,hen,sm⟩;rw [ay] at hi;rw [fh];refine (jA rfl (jA rfl ((J3 x a _ R L N (vN rfl (hc0.same sm) b8 (fun sOo tus H4 s4 hso0 hso hTA=>?_))))));have sm4:=sm.trans s4;have htl:=hen.turns;refine (jA rfl (jA rfl (jA rfl (jY (⟨.inl ⟨by decide,by decide⟩,_,_,rfl,rfl,jA rfl (jY ((jA rfl (⟨sOo,jA rfl (⟨.inl (so hso),s,ns,_,jA rfl (⟨sm4.seq hS,h63,by omega,by omega,by rw [hTA.1];omega,fun d4 d40 d41=>?_⟩)⟩)⟩))))⟩)))));obtain ⟨m,hm⟩:∃m:Nat,d4=(m:Int):=⟨d4.toNat,by omega⟩;subst hm;have hml:m<tus.length:=by omega
  obtain ⟨p,hp,t,et,ht⟩:=hTA.2 m _ (aa hml);obtain ⟨hpL,hpe⟩:=turns_mem.mp (au hp);refine (kZ (so hso) (kY (v:=.ref t) (by rw [aa hml,et])) (?_));have hsp4:=s4 _ _ hsp;refine (jA rfl (⟨.inl ⟨rfl,_,so hsp4⟩,jA rfl (⟨sp,_,_,rfl,rfl,hsp4,qX (by rw [hA.1];omega),?_⟩)⟩));have hA5:AllAt (PAt (upd H4 sp (.lst (us++[.ref t])))) (us++[.ref t]) (ps++[p]):=((hA.mono (PAt.same s4)).snoc ⟨t,rfl,ht⟩).mono (PAt.put hsp4);have sm5:Same H (upd H4 sp (.lst (us++[.ref t]))):=qA hspf sm4;have hsp5:upd H4 sp (.lst (us++[.ref t])) sp=some (.lst (us++[.ref t])):=jE;have ht:upd H4 sp (.lst (us++[.ref t])) t=some (.tup [.int (p.1:Int),.str (ZG p.2)]):=by rw [jX (fun z=>by rw [z,hsp4] at ht;cases ht)];exact ht
  generalize upd H4 sp (.lst (us++[.ref t]))=H5 at hA5 sm5 hsp5 ht ⊢;obtain ⟨l,hl',hlg⟩:=sQ hdr hpL;obtain ⟨w,hw,y,rfl,dl,hl⟩:=hL.get hl';refine (jA rfl (j0 ((sm5 _ _ hx)) (T.clN) (T.xh) (hf.2.1) ((jA rfl (jI (SqT.of ht) rfl (kZ (so (sm5 _ _ hll)) (kY hw) (j0 ((sm5 _ _ hl)) (T.cl l.kd) (T.uz l.kd) (dM l.kd _ _ _ _ _) ((jA rfl (j0 ((sm5 _ _ hx)) (T.clN) (T.xh) (hf.2.1) ((jA rfl (jI (SqT.of ht) rfl (kZ (so (sm5 _ _ hll)) (kY hw) (j0 ((sm5 _ _ hl)) (T.cl l.kd) (T.vt l.kd) (dH l.kd _ _ _ _ _) (⟨zz2,fun pl hpl0=>?_⟩))))))))))))))));have u:=jK hpl0 (.lst [V.int l.low,V.int l.high]);refine (jA rfl (jI (SqT.of (u _ _ ht)) rfl (⟨rfl,.inr (jA rfl (?_))⟩)));rw [EV];have hat:qU [V.int l.low,V.int l.high] (if p.2=true then 1 else 0)=some (.int (yA L p).2):=by
   obtain ⟨pk,pb⟩:=p;cases pb
   ·rw [ZL hl'];rfl
   ·rw [ZP hl'];rfl
  refine (kZ (so jE) hat (?_));refine ⟨_,ps++[p],us++[.ref t],_,_,jA rfl (⟨u _ _ hsp5,hA5.mono (PAt.same u),fun p' hp'=>?_,by rw [af,hpl];rfl,?_,(RL hlast).mpr ⟨hok,hpe⟩,EndAt.next hpL,sm5.trans u⟩)⟩
  ·rcases aV.mp hp' with h|h
   ·exact hlt p' h
   ·rw [aR.mp h];exact hpL
  ·rw [tG,af,aw (by rw [fE];exact aj _),fE];show [(yA L p).2][ps.length+1 - (ps.length+1)]?=_;rw [iw];rfl
 rintro σ Hi ⟨a,ps,us,c8,c9,c10,rfl,hsp,hA,hlt,hpl,hlast,hok,hen,sm⟩;rw [ay] at hpl;refine (jA rfl (jA rfl (⟨sp,us,rfl,.inl ⟨so hsp,fun st hst0=>?_⟩⟩)));have v1:=jK hst0 (.tup us);refine ⟨zz2,fun t ht0=>?_⟩;have v2:=jK ht0 (.tup [V.int a0,V.ref st]);have w:=(sm.trans v1).trans v2;exact q t (a0,ps) _ ⟨hlt,hok,by show ps.length≤8;omega⟩ (by show 1≤ps.length;omega) (PQ hdr hend) w ((sm.trans v1).free ht0) (vK t st us (vN rfl jE (v2 _ _ jE) (hA.mono (PAt.same (v1.trans v2)))))
theorem xN:jS 3 ["canal","name","way","steps"] gP:=jR
include T in
theorem HW (F:kB K "_law_come" gP f fd) : FnOk P w K mg base jQ 1 f fd ["canal","name","way"] (CP (jF cP cB cU) cR cN):=by
 refine F.ok2 xN fun vs H Q E h=>?_
 refine yO h fun x t nm y a D R L N h=>?_
 refine zI h fun e_ hc p1_ ok ha haR q=>?_
 subst e_;obtain ⟨t₂,st,us,e,h1,h2,h3⟩:=p1_;refine ⟨rfl,fun _ _ _ _ hr=>?_⟩;refine ⟨_,(@jG _ _ _ _ _ (bE (i:=3) ["step","canal"] (vF 1 [0]) xN.nd rfl (.inl rfl) rfl (vM (j8 gP)) (cps 1 [0]) (uR (jH (jN K) (pv 2) jC)) (fun _ _ _ _ _=>(kU (i:=0) (show List.Nodup (["step","canal"]:List Str) from by decide +kernel) rfl (.inl rfl))) (fun _ _ _ _ _=>yR) (fun _ _ _ _ _=>(kD (jB (jZ K (jH (kR K) (jZ K (pv 1) rfl) (jH (jN K) (pv 0) jC)) rfl) (jB (jH (jN K) (pv 0) jC) jD)))))
   (jM (kD (vG jO (pv 1) (jZ K (jH (kR K) (jZ K (pv 0) rfl) (jH (jN K) (pv 2) jC)) rfl) (vO (bC K) (by rfl) T.zg cf (jB (pv 3) jD)))))),?_⟩
 try dsimp only [jU,jT]
 cases e;have hc0:=hc;obtain ⟨dx,rl,ll,nl,fs,rs,ls,nv,hx,hf,hrl,hll,hnl,hR,hL,hN,d1,d2,d3⟩:=hc;have hus:=h3.1;have h8:=ok.le;refine (jA rfl (jI (SqT.of h1) rfl (⟨st,rfl,⟨_,SqT.of h2⟩,fun bt hbt=>?_⟩)));refine PY (K:=K) (a:=st) (xs:=us) (caps:=[some (.ref x)]) (fun i zs Hi=>AllAt (SAt Hi) zs ((y.2.take i).map fun p=>(zZ L p.1,p.2))) hbt h2 AllAt.nil ?_ ?_
 ·rintro i v zs Hi hv hi hle sm hY hR0;obtain ⟨p,hp,tp,rfl,htp⟩:=h3.2 i v hv;obtain ⟨l,hl'⟩:∃l,L[p.1]?=some l:=⟨_,aa (ok.lt p (au hp))⟩;obtain ⟨w,hw,yl,rfl,dl,hl⟩:=hL.get hl';refine v9 (qG (jA rfl (j0 ((sm _ _ hx)) (T.clN) (T.xh) (hf.2.1) ((jA rfl (jI (SqT.of (sm _ _ htp)) rfl (kZ (so (sm _ _ hll)) (kY hw) (j0 ((sm _ _ hl)) (T.cl l.kd) (T.ul l.kd) (fL l.kd _ _ _ _ _) ((jA rfl (jI (SqT.of (sm _ _ htp)) rfl (⟨zz2,fun t3 ht3=>?_⟩))))))))))));have u:=jK ht3 (.tup [V.str l.name,V.str (ZG p.2)]);refine JH hbt sm hY hle (by omega) u ?_;rw [aL,hp,aH];refine ((hR0.mono (SAt.same u)).snoc (v:=.ref t3) (x:=(zZ L p.1,p.2)) ⟨t3,rfl,?_⟩).mono (SAt.put (u _ _ hY));rw [jE];unfold zZ;rw [hl'];rfl
 rintro zs Hg sg hbg hleg hR0;rw [hus,aZ] at hR0;obtain ⟨r,hr⟩:∃r,R[a]?=some r:=⟨_,aa haR⟩;obtain ⟨w,hw,xr,rfl,dr,gs,hxr,hg⟩:=hR.get hr;refine (jA rfl (jA rfl (j0 ((sg _ _ hx)) (T.clN) (T.xf) (hf.1) ((jA rfl (jI (SqT.of (sg _ _ h1)) rfl (⟨rl,_,_,jA rfl (⟨by rw [ha],so (sg _ _ hrl),kY hw,j0 (sg _ _ hxr) (T.clR) (T.zo) (hg.1) ((jA rfl (⟨bt,zs,rfl,.inl ⟨so hbg,fun s2 hs2=>?_⟩⟩)))⟩)⟩)))))));have u1:=jK hs2 (.tup zs);refine ⟨zz4,fun t4 ht4=>?_⟩;have u2:=jK ht4 (.tup [V.str "come",V.str nm,V.str r.name,V.ref s2]);have w2:=(sg.trans u1).trans u2;refine q t4 _ w2 ((sg.trans u1).free ht4) ⟨s2,zs,?_,u2 _ _ jE,(hR0.mono (SAt.same u1)).mono (SAt.same u2)⟩;rw [jE];unfold QE;rw [hr];rfl
theorem eO:jS 3 ["canal","day","more","some","r","told"] o6:=jR
include T in
theorem IK (F:kB K "_law_weather_of" o6 f fd) : FnOk P w K mg base jQ 1 f fd ["canal","day","more"] (AF (jF cP cB cU) cR cN):=by
 refine F.ok2 eO fun vs H Q E h=>?_
 refine ZB h fun x d mo R L N h=>?_
 refine QL h fun e_ hcn hdr hnn hd0 hm0 hm1 q=>?_
 subst e_;refine ⟨rfl,fun _ _ _ _ hr=>?_⟩;refine ⟨_,(@jG _ _ _ _ _ (jV 3 eO.nd (kW jD))
   (@jG _ _ _ _ _ (JL ff rfl (QU (by rfl) T.xv (jB (qS K T.xl (jZ K (pv 0) rfl)) jD)) (kU (i:=4) eO.nd rfl (.inl rfl))
    (@jG _ _ _ _ _ (jV 5 eO.nd (kD (jB jC (jB jC jD))))
   (zB (j9 (j6 Q1 (pv 1) (qS K T.xl (jZ K (pv 0) rfl))) (@kH _ _ _ (jV 5 eO.nd (jH (kR K) (jH (kR K) (jZ K (pv 0) rfl) (pv 1)) (pv 4)))) kC)
   (@kH _ _ _ (qY (yB aC aM aN yS (pv 3) (jB (kD (jB (@jJ _ _ _ _ _ _ _ _ kI (jH (jN K) (pv 5) jC) (@jJ _ _ _ _ _ _ _ _ qE (pv 2) (@jJ _ _ _ _ _ _ _ _ vQ (pv 4) jC))) (jB (@jJ _ _ _ _ _ _ _ _ yL (jH (jN K) (pv 5) jC) (y7 (B2 rfl) (by rfl) T.jo PyProof.Rows.boot_min (jB (jH (jN K) (pv 5) jC) (jB (pv 2) jD)))) jD))) jD)))))))
   (jM (vO (bC K) (by rfl) T.zg cf (jB (pv 3) jD))))),?_⟩
 try dsimp only [jU,jT]
 obtain ⟨dx,rl,ll,nl,gs,rs,ls,nv,hx,hf,hrl,hll,hnl,hR,hL,hN,d1,d2,d3⟩:=id hcn;have r8:=hdr.r8;have hrl':=hR.1;have hnl':=hN.1;refine ⟨aO _,fun l hl0=>?_⟩;have u0:=jK hl0 (.lst []);refine (jA rfl (j0 ((u0 _ _ hx)) (T.clN) (T.xf) (hf.1) (⟨rl,jA rfl (⟨.inl (so (u0 _ _ hrl)),jA rfl (⟨by omega,by omega,c7 (n:=((rs.length:Nat):Int).toNat) (fun i σ Hi=>∃(us:List V) (W:List (Int×Int)) (c4 c5:Option V),σ=[some (.ref x),some (.int d),some (.int mo),some (.ref l),c4,c5]∧Hi l=some (.lst us)∧AllAt (QAt Hi) us W∧W.length=i∧(∀(j:Nat) (p:Int×Int),W[j]?=some p→d<(N.length:Int)→(zY N d j).1≤p.1∧p.2≤(zY N d j).2)∧Same H Hi) ⟨[],[],none,none,rfl,jE,AllAt.nil,rfl,(fun j p hj=>by cases hj),u0⟩ ?_ ?_⟩)⟩)⟩)))
 ·rintro i σ Hi hi ⟨us,W,c4,c5,rfl,hl,hA,hWl,hwet,sm⟩;rw [ay] at hi;rw [fh];have hpn:0≤(zY N d i).1∧0≤(zY N d i).2:=by
   unfold zY
   by_cases hd:d<(N.length:Int)
   ·rw [if_pos hd];obtain ⟨W',hW'⟩:∃W',N[d.toNat]?=some W':=⟨_,aa (by omega)⟩;rw [ac (l:=N),hW'];show 0≤(W'.getD i (0,0)).1∧0≤(W'.getD i (0,0)).2;have hWl':=hdr.night W' (au hW');rw [ac,aa (show i<W'.length by omega)];exact hnn W' (au hW') _ (dq _)
   ·rw [if_neg hd];exact ⟨Int.le_refl _,Int.le_refl _⟩
  refine ⟨zz2,fun t0 ht0=>?_⟩;have u1:=jK ht0 (.tup [V.int 0,V.int 0]);have smu:=sm.trans u1;refine ⟨fun σ Hj=>∃tt:Addr,σ=[some (.ref x),some (.int d),some (.int mo),some (.ref l),some (.int (i:Int)),some (.ref tt)]∧Hj tt=some (.tup [.int (zY N d i).1,.int (zY N d i).2])∧Hj l=some (.lst us)∧Same Hi Hj,?_,?_⟩
  ·refine (jA rfl (jA rfl (j0 ((smu _ _ hx)) (T.clN) (T.xm) (hf.2.2.1) (⟨nl,jA rfl (⟨.inl (so (smu _ _ hnl)),_,_,rfl,rfl,jA rfl (?_)⟩)⟩))))
   by_cases hd:d<(N.length:Int)
   case neg =>
    refine j5 (by omega) ⟨t0,rfl,?_,u1 _ _ hl,u1⟩;unfold zY;rw [if_neg hd];exact jE
   obtain ⟨dn,rfl⟩:∃dn:Nat,d=(dn:Int):=⟨d.toNat,by omega⟩;obtain ⟨W',hW'⟩:∃W',N[dn]?=some W':=⟨_,aa (by omega)⟩;obtain ⟨v,hv,wn,qs,rfl,hwn,hqs,_⟩:=hN.get hW';have hWl':=hdr.night W' (au hW');obtain ⟨p,hp⟩:∃p,W'[i]?=some p:=⟨_,aa (by omega)⟩;obtain ⟨v2,hv2,tp,rfl,htp⟩:=hqs.get hp;refine kK (by omega) (jA rfl (j0 ((smu _ _ hx)) (T.clN) (T.xm) (hf.2.2.1) ((jA rfl (kZ (so (smu _ _ hnl)) (kY hv) ((jA rfl (kZ (so (smu _ _ hwn)) (kY hv2) (⟨tp,rfl,?_,u1 _ _ hl,u1⟩)))))))));have e:zY N (dn:Int) i=p:=by
    unfold zY;rw [if_pos hd,ay,ac (l:=N),hW'];show W'.getD i (0,0)=p;rw [ac,hp];rfl
   rw [e];exact smu _ _ htp
  rintro σ Hj ⟨tt,rfl,htt,hl2,sij⟩;generalize hP:zY N d i=P at htt hpn;obtain ⟨p1,p2⟩:=P;have m2:=bp (i:Int) (by decide:(2:Int)≠0);have m3:=ba (i:Int) (by decide:(0:Int)<2);refine (jA rfl (⟨.inl ⟨rfl,_,so hl2⟩,jA rfl (jI (SqT.of htt) rfl ((jA rfl (jA rfl (jY (⟨(by show (0:Int)<2;decide),_,_,rfl,rfl,.inr ⟨by omega,by omega⟩,_,_,rfl,rfl,?_⟩))))))⟩));refine (jA rfl (jI (SqT.of htt) rfl ((jA rfl (jI (SqT.of htt) rfl ((jA rfl (⟨_,jA rfl (⟨_,_,rfl,rfl,zz2,fun tp htp=>?_⟩)⟩))))))));have v:=jK htp (.tup [V.int (p1+mo*((i:Int)%2)),V.int (p2 - (if mo<p2 then mo else p2))]);refine ⟨l,_,_,rfl,rfl,v _ _ hl2,qX (by rw [hA.1];omega),?_⟩;refine ⟨us++[.ref tp],W++[(p1+mo*((i:Int)%2),p2 - (if mo<p2 then mo else p2))],_,jA rfl (⟨jE,?_,by rw [af,hWl];rfl,fun j p hj hd=>?_,qA hl0 ((sm.trans sij).trans v)⟩)⟩
  ·exact ((hA.mono (QAt.same (sij.trans v))).snoc (v:=.ref tp) (x:=(p1+mo*((i:Int)%2),p2 - (if mo<p2 then mo else p2))) ⟨tp,rfl,jE⟩).mono (QAt.put (v _ _ hl2))
  ·by_cases hji:j<W.length
   ·rw [av hji] at hj;exact hwet j p hj hd
   ·rw [aw (by omega)] at hj;have h0:j - W.length=0:=by
     have:=(ad.mp hj).1;rw [aF] at this;omega
    rw [h0] at hj;cases hj;rw [show j=i by omega,hP];have hpn:0≤p1∧0≤p2:=hpn;have hmm:0≤mo*((i:Int)%2):=Int.mul_nonneg hm0 m2;show p1≤p1+mo*((i:Int)%2)∧p2 - (if mo<p2 then mo else p2)≤p2
    split<;>omega
 rintro σ Hi ⟨us,W,c4,c5,rfl,hl,hA,hWl,hwet,sm⟩;rw [ay] at hWl;refine (jA rfl (⟨l,us,rfl,.inl ⟨so hl,fun wt hwt=>?_⟩⟩));have u:=jK hwt (.tup us);refine q wt us W _ (sm.trans u) (sm.free hwt) jE (hA.mono (QAt.same u)) (by omega) fun hd=>?_
 unfold JC;rw [cm];intro j hj;have hj:=em.mp hj;obtain ⟨p,hp⟩:∃p,W[j]?=some p:=⟨_,aa hj⟩;obtain ⟨h1,h2⟩:=hwet j p hp hd;have e:zY N d j=(N.getD d.toNat []).getD j (0,0):=by unfold zY;rw [if_pos hd]
 rw [e] at h1 h2;unfold bZ;rw [show W.getD j (0,0)=p by rw [ac,hp];rfl,aT h1,aT h2];rfl
theorem eJ:jS 5 ["canal","names","day","cell","unit","what","k","amount","name"] oR:=jR
include T in
theorem HZ (F:kB K "_law_entry" oR f fd) (uj:Def P w K mg base 1 "_law_weather_of" ["canal","day","more"] [] (AF (jF cP cB cU) cR cN)):FnOk P w K mg base jQ 2 f fd ["canal","names","day","cell","unit"] (BN (jF cP cB cU) cR cN):=by
 refine F.ok2 eJ fun vs H Q E h=>?_
 refine yO h fun x nl₁ zs d c u R L N h=>?_
 refine V1 h fun e_ hcn hdr hnn hr1 hl1 hd0 hu0 hu1₀ hnz hz100 q=>?_
 subst e_;refine ⟨rfl,fun _ _ _ _ hr=>?_⟩;refine ⟨_,(@jG _ _ _ _ _ (jV 5 eJ.nd (@jJ _ _ _ _ _ _ _ _ vQ (pv 3) jC))
   (@jG _ _ _ _ _ (jV 6 eJ.nd (@jJ _ _ _ _ _ _ _ _ vQ (@jJ _ _ _ _ _ _ _ _ zX (pv 3) jC) jC))
   (@jG _ _ _ _ _ (jV 7 eJ.nd (@jJ _ _ _ _ _ _ _ _ kI (@jJ _ _ _ _ _ _ _ _ qE (@jJ _ _ _ _ _ _ _ _ vQ (@jJ _ _ _ _ _ _ _ _ zX (pv 3) jC) jC) (pv 4)) (@jJ _ _ _ _ _ _ _ _ vQ (@jJ _ _ _ _ _ _ _ _ zX (pv 3) jC) jC)))
   (zB (j9 (PW.pt (fP (j6 Q1 (pv 5) jC) (fH (j6 wA (qS K T.xl (pv 1)) jC)))) (jM (kD (jB jO (jB (jH (kR K) (pv 1) (@jJ _ _ _ _ _ _ _ _ vQ (pv 6) (qS K T.xl (pv 1)))) jD)))) kC)
   (@jG _ _ _ _ _ (j9 (j6 Q1 (pv 5) jC) (jM (kD (jB jO (jB (jZ K (jH (kR K) (jZ K (pv 0) rfl) (@jJ _ _ _ _ _ _ _ _ vQ (pv 6) (qS K T.xl (jZ K (pv 0) rfl)))) rfl) jD)))) kC)
   (@jG _ _ _ _ _ (j9 (j6 kO (pv 5) jC) (jM (kD (jB jO (jB (jP uj hr rfl (j7 (pv 0) (pv 2) (pv 7))) jD)))) kC)
   (@jG _ _ _ _ _ (jV 8 eJ.nd (jZ K (jH (kR K) (jZ K (pv 0) rfl) (@jJ _ _ _ _ _ _ _ _ vQ (pv 6) (qS K T.xl (jZ K (pv 0) rfl)))) rfl))
   (@jG _ _ _ _ _ (j9 (j6 kO (pv 5) jC) (jM (kD (j7 jO (pv 8) (pv 7)))) kC)
   (jM (kD (j7 jO (pv 8) (@jJ _ _ _ _ _ _ _ _ vQ (@jJ _ _ _ _ _ _ _ _ zX (pv 3) jC) (@jJ _ _ _ _ _ _ _ _ lO jC jC))))))))))))),?_⟩
 try dsimp only [jU,jT]
 obtain ⟨dx,rl,ll,nl,gs,rs,ls,nv,hx,hf,hrl,hll,hnl,hR,hL,hN,d1,d2,d3⟩:=id hcn;have r8:=hdr.r8;have l8:=hdr.l8;have hrl':=hR.1;have hll':=hL.1;have W7:(10:Int) ^ Int.toNat 12=1000000000000:=by decide +kernel
 have w0:=bp c (by decide:(8:Int)≠0);have w1:=ba c (by decide:(0:Int)<8);have k0:=bp (c / 8) (by decide:(97:Int)≠0);have k1:=ba (c / 8) (by decide:(0:Int)<97);have a0:=bp (c / 776) (by decide:(3:Int)≠0);have a1:=ba (c / 776) (by decide:(0:Int)<3);have b0:=bp (c / 2328) (by decide:(2:Int)≠0);have b1:=ba (c / 2328) (by decide:(0:Int)<2);obtain ⟨m1,m2⟩:=bP a0 (show c / 776%3≤2 by omega) hu0 hu1₀ (by decide);refine (jA rfl (jY (⟨(by show (0:Int)<8;decide),?_⟩)));refine (jA rfl (jY (⟨⟨by decide,by decide⟩,_,_,rfl,rfl,(by show (0:Int)<97;decide),?_⟩)));refine (jA rfl (jY (⟨⟨by decide,by decide⟩,_,_,rfl,rfl,(by show (0:Int)<3;decide),jA rfl (jY (⟨.inl ⟨by omega,by omega⟩,jA rfl (jY (⟨⟨by decide,by decide⟩,_,_,rfl,rfl,(by show (0:Int)<2;decide),_,_,rfl,rfl,?_⟩))⟩))⟩)));have am0:0≤c / 776%3*u+c / 2328%2:=by omega
 have am1:c / 776%3*u+c / 2328%2≤100000000000:=by omega
 try dsimp only
 generalize c / 776%3*u+c / 2328%2=am at am0 am1 ⊢;generalize c / 8%97=k at k0 k1 ⊢;generalize c%8=wh at w0 w1 ⊢;have hzl:(zs.map V.str).length=zs.length:=ae _;refine ⟨fun σ Hj=>σ=[some (.ref x),some (.ref nl₁),some (.int d),some (.int c),some (.int u),some (.int wh),some (.int k),some (.int am),none]∧Hj=H,?_,?_⟩
 ·refine (jA rfl (jY ((jA rfl (zH (fun _=>?_) (fun _=>⟨rfl,rfl⟩))))));refine (jA rfl (⟨nl₁,jA rfl (⟨.inl (so hnz),_,_,rfl,rfl,jA rfl (zH (fun h=>?_) (fun _=>⟨rfl,rfl⟩))⟩)⟩));have h:=bv h;have hz0:(0:Int)<(((zs.map V.str).length:Nat):Int):=by omega
  obtain ⟨z,hz,hat⟩:=T4 zs (bp k (by omega:(((zs.map V.str).length:Nat):Int)≠0)) (by have:=ba k hz0;omega);refine (jA rfl (jA rfl (jA rfl (⟨nl₁,jA rfl (⟨.inl (so hnz),_,_,rfl,rfl,hz0,kZ (so hnz) hat (⟨zz2,fun t ht=>?_⟩)⟩)⟩))));obtain ⟨i,hi⟩:=sP hz;exact q t (.pas z) _ (jK ht _) jE trivial (fun B e1 e2=>iP (i:=i) rfl (by show kM B.zs z=some i;rw [e1];exact hi)) fun _=>rfl
 rintro σ Hj ⟨rfl,rfl⟩;refine (jA rfl (jY ((jA rfl (zH (fun _=>?_) (fun _=>?_))))))
 ·have hp:(0:Int)<((ls.length:Nat):Int):=by omega
  obtain ⟨j,ej,lj⟩:=iW (a:=k) hp;obtain ⟨l,hl⟩:∃l,L[j]?=some l:=⟨_,aa (by omega)⟩;obtain ⟨v,hv,yl,rfl,dl,hyl⟩:=hL.get hl;refine (jA rfl (j0 hx (T.clN) (T.xh) (hf.2.1) ((jA rfl (jA rfl (j0 hx (T.clN) (T.xh) (hf.2.1) (⟨ll,jA rfl (⟨.inl (so hll),_,_,rfl,rfl,hp,?_⟩)⟩)))))))
  try dsimp only
  rw [ej];refine (kZ (so hll) (kY hv) (j0 hyl (T.cl l.kd) (T.ul l.kd) (fL l.kd _ _ _ _ _) (⟨zz2,fun t ht=>?_⟩)));obtain ⟨i,hi⟩:=sP (zs:=L.map (·.name)) (n:=l.name) (gd.mpr ⟨l,au hl,rfl⟩);exact q t (.lt l.name) _ (jK ht _) jE trivial (fun B e1 e2=>iP (i:=i) rfl hi) fun _=>rfl
 refine ⟨_,rfl,rfl,jA rfl (zH (fun _=>?_) (fun _=>?_))⟩
 ·refine (jA rfl (jA rfl (jA rfl ((J3 x d am R L N (zU rfl hcn hdr hnn hd0 am0 am1 (fun wt us W H1 s1 hwt0 hwt hA hWl hwet=>⟨zz2,fun t ht=>?_⟩)))))));have v:=jK ht (.tup [V.str "night",V.ref wt]);refine q t (.night W) _ (s1.trans v) ⟨wt,us,jE,v _ _ hwt,hA.mono (QAt.same v)⟩ (by show W.length≤100;omega) (fun B e1 e2=>?_) fun _=>rfl
  show (if W.length=R.length then (if B.d<(N.length:Int)∧JC W (N.getD B.d.toNat [])=false then 8 else 0) else 7)=0;rw [if_pos hWl,e2,if_neg fun z=>by rw [hwet z.1] at z;exact nomatch z.2]
 have hp:(0:Int)<((rs.length:Nat):Int):=by omega
 obtain ⟨j,ej,lj⟩:=iW (a:=k) hp;obtain ⟨r,hr⟩:∃r,R[j]?=some r:=⟨_,aa (by omega)⟩;obtain ⟨v,hv,xr,rfl,dr,fs',hxr,hg⟩:=hR.get hr;obtain ⟨i,hi⟩:=sP (zs:=R.map (·.name)) (n:=r.name) (gd.mpr ⟨r,au hr,rfl⟩);refine (jA rfl (j0 hx (T.clN) (T.xf) (hf.1) ((jA rfl (jA rfl (j0 hx (T.clN) (T.xf) (hf.1) (⟨rl,jA rfl (⟨.inl (so hrl),_,_,rfl,rfl,hp,?_⟩)⟩)))))))
 try dsimp only
 rw [ej];refine (kZ (so hrl) (kY hv) (j0 hxr (T.clR) (T.zo) (hg.1) (?_)));refine ⟨_,rfl,rfl,jA rfl (zH (fun _=>?_) (fun _=>?_))⟩
 ·refine (jA rfl (jA rfl (⟨zz3,fun t ht=>?_⟩)));exact q t (.take r.name am) _ (jK ht _) jE trivial (fun B e1 e2=>iP (i:=i) rfl hi) fun _=>rfl
 refine (jA rfl (jA rfl (jY (⟨⟨by decide,by decide⟩,_,_,rfl,rfl,⟨by decide,by decide,by decide⟩,_,_,rfl,rfl,(show (0:Int)<10 ^ Int.toNat 12 from by decide +kernel),zz3,fun t ht=>?_⟩))));exact q t (.rain r.name _) _ (jK ht _) jE trivial (fun B e1 e2=>iP (i:=i) rfl hi) fun _=>rfl
theorem xP:jS 1 ["e","some"] oX:=jR
include T in
theorem ID (F:kB K "_law_refusal" oX f fd) : FnOkH P w K mg base 1 f fd ["e"] (BK eB eT eM eU eL eN eD eW):=by
 refine F.okH2 xP fun vs H Q E h=>?_
 obtain ⟨x,c,rfl,hx,hc,q⟩:=h;refine ⟨rfl,fun _ _ _ _ hr=>?_⟩;refine ⟨_,(@jG _ _ _ _ _ (jV 1 xP.nd (kW jD))
   (@jG _ _ _ _ _ (j9 (PW.pt (lY (bO (vP (y7 (dC (K:=K)) (by rfl) T.xj bw (jB (pv 0) (jB (S4 (v:=.ty "ValueError") rfl T.zc PyProof.Rows.Boot.«ValueError» rfl) jD))))) (lM (vP (y7 (dC (K:=K)) (by rfl) T.xj bw (jB (pv 0) (jB (kD (j7 (yK (v:=.ref eT) rfl T.xaN rfl) (yK (v:=.ref eB) rfl T.jr rfl) (yK (v:=.ref eS) rfl T.xbh rfl))) jD))))))) (@kH _ _ _ (qY (yB aC aM aN yS (pv 1) (jB jO jD)))) kC)
   (zB (j9 (vP (y7 (dC (K:=K)) (by rfl) T.xj bw (jB (pv 0) (jB (yK (v:=.ref eU) rfl T.wf rfl) jD)))) (@kH _ _ _ (qY (yB aC aM aN yS (pv 1) (jB jO jD)))) kC)
   (zB (j9 (vP (y7 (dC (K:=K)) (by rfl) T.xj bw (jB (pv 0) (jB (yK (v:=.ref eN) rfl T.vx rfl) jD)))) (@kH _ _ _ (qY (yB aC aM aN yS (pv 1) (jB jO jD)))) kC)
   (zB (j9 (vP (y7 (dC (K:=K)) (by rfl) T.xj bw (jB (pv 0) (jB (yK (v:=.ref eD) rfl T.jt rfl) jD)))) (@kH _ _ _ (qY (yB aC aM aN yS (pv 1) (jB jO jD)))) kC)
   (zB (j9 (vP (y7 (dC (K:=K)) (by rfl) T.xj bw (jB (pv 0) (jB (yK (v:=.ref eW) rfl T.ud rfl) jD)))) (@kH _ _ _ (qY (yB aC aM aN yS (pv 1) (jB jO jD)))) kC)
   (jM (kD (jB jO (jB (pv 1) jD)))))))))),?_⟩
 try dsimp only [jU,jT]
 have S:Seen K eB eT eM eU eL eN eD eW eS c:=by
  rcases hc with rfl|rfl|rfl|rfl
  ·exact ⟨T.at_Unknown,T.jv,T.k_Unknown_ValueError,T.ka_Unknown_0,fun i hi=>by rcases hi with rfl|rfl|rfl|rfl;exact T.k_Unknown_Unknown;exact T.k_Unknown_NotNow;exact T.k_Unknown_BadNumber;exact T.k_Unknown_TooDry⟩
  ·exact ⟨T.at_NotNow,T.xaI,T.k_NotNow_ValueError,T.ka_NotNow_0,fun i hi=>by rcases hi with rfl|rfl|rfl|rfl;exact T.k_NotNow_Unknown;exact T.k_NotNow_NotNow;exact T.k_NotNow_BadNumber;exact T.k_NotNow_TooDry⟩
  ·exact ⟨T.at_BadNumber,T.ue,T.k_BadNumber_ValueError,T.ka_BadNumber_0,fun i hi=>by rcases hi with rfl|rfl|rfl|rfl;exact T.k_BadNumber_Unknown;exact T.k_BadNumber_NotNow;exact T.k_BadNumber_BadNumber;exact T.k_BadNumber_TooDry⟩
  ·exact ⟨T.at_TooDry,T.xaJ,T.k_TooDry_ValueError,T.ka_TooDry_0,fun i hi=>by rcases hi with rfl|rfl|rfl|rfl;exact T.k_TooDry_Unknown;exact T.k_TooDry_NotNow;exact T.k_TooDry_BadNumber;exact T.k_TooDry_TooDry⟩
 refine ⟨aO _,fun l hl0=>?_⟩;have sm:=jK hl0 (.lst []);have hl:upd H l (.lst []) l=some (.lst []):=jE;generalize upd H l (.lst [])=Hi at sm hl ⊢;refine (jA rfl (⟨x,vS eB eT eM eU eL eN eD eW c,.ty "ValueError",true,rfl,sm _ _ hx,S.at_,S.cl,.inl (jA rfl (S.kv)),jA rfl (vA ?_)⟩));refine (jA rfl (⟨zz3,fun tp htp=>?_⟩));have t1:=jK htp (.tup [.ref eT,.ref eB,.ref eS]);refine ⟨x,vS eB eT eM eU eL eN eD eW c,.ref tp,false,rfl,t1 _ _ (sm _ _ hx),S.at_,S.cl,.inr ⟨tp,[eT,eB,eS],rfl,jE,S.ka⟩,jA rfl (vA ?_)⟩
 replace hl:upd Hi tp (.tup [.ref eT,.ref eB,.ref eS]) l=some (.lst (if False then [V.str (cF c)] else [])):=by rw [if_neg id];exact t1 _ _ hl
 replace sm:=sm.trans t1
 generalize upd Hi tp (.tup [.ref eT,.ref eB,.ref eS])=Hi at sm hl ⊢;refine ⟨fun σ Hi=>σ=[some (.ref x),some (.ref l)]∧Hi l=some (.lst (if c=4 then [V.str (cF c)] else []))∧Same H Hi,?_,?_⟩
 ·refine (jA rfl (⟨x,vS eB eT eM eU eL eN eD eW c,.ref (vS eB eT eM eU eL eN eD eW 4),decide (c=4),rfl,sm _ _ hx,S.at_,S.cl,.inl (jA rfl (S.k 4 (by unfold Rf;decide))),jA rfl (zH (fun z=>?_) (fun z=>⟨rfl,?_,sm⟩))⟩))
  ·obtain rfl:=bv z;have hl':Hi l=some (.lst []):=by rw [hl,if_neg (by decide)]
   refine (jA rfl (⟨.inl ⟨rfl,_,so hl'⟩,l,_,_,rfl,rfl,hl',(by show 0<sizeLine;decide),rfl,?_,qA hl0 sm⟩));rw [jE,if_pos (by decide)];rfl
  ·have z:¬c=4:=fun h=>z (aT h)
   rw [hl]
   by_cases h:False
   ·exact h.elim
   ·rw [if_neg h,if_neg (by omega)]
 rintro σ Hi ⟨rfl,hl,sm⟩;refine ⟨fun σ Hi=>σ=[some (.ref x),some (.ref l)]∧Hi l=some (.lst (if c=4∨c=7 then [V.str (cF c)] else []))∧Same H Hi,?_,?_⟩
 ·refine (jA rfl (⟨x,vS eB eT eM eU eL eN eD eW c,.ref (vS eB eT eM eU eL eN eD eW 7),decide (c=7),rfl,sm _ _ hx,S.at_,S.cl,.inl (jA rfl (S.k 7 (by unfold Rf;decide))),jA rfl (zH (fun z=>?_) (fun z=>⟨rfl,?_,sm⟩))⟩))
  ·obtain rfl:=bv z;have hl':Hi l=some (.lst []):=by rw [hl,if_neg (by decide)]
   refine (jA rfl (⟨.inl ⟨rfl,_,so hl'⟩,l,_,_,rfl,rfl,hl',(by show 0<sizeLine;decide),rfl,?_,qA hl0 sm⟩));rw [jE,if_pos (by decide)];rfl
  ·have z:¬c=7:=fun h=>z (aT h)
   rw [hl]
   by_cases h:c=4
   ·rw [if_pos h,if_pos (by omega)]
   ·rw [if_neg h,if_neg (by omega)]
 rintro σ Hi ⟨rfl,hl,sm⟩;refine ⟨fun σ Hi=>σ=[some (.ref x),some (.ref l)]∧Hi l=some (.lst (if c=4∨c=7∨c=8 then [V.str (cF c)] else []))∧Same H Hi,?_,?_⟩
 ·refine (jA rfl (⟨x,vS eB eT eM eU eL eN eD eW c,.ref (vS eB eT eM eU eL eN eD eW 8),decide (c=8),rfl,sm _ _ hx,S.at_,S.cl,.inl (jA rfl (S.k 8 (by unfold Rf;decide))),jA rfl (zH (fun z=>?_) (fun z=>⟨rfl,?_,sm⟩))⟩))
  ·obtain rfl:=bv z;have hl':Hi l=some (.lst []):=by rw [hl,if_neg (by decide)]
   refine (jA rfl (⟨.inl ⟨rfl,_,so hl'⟩,l,_,_,rfl,rfl,hl',(by show 0<sizeLine;decide),rfl,?_,qA hl0 sm⟩));rw [jE,if_pos (by decide)];rfl
  ·have z:¬c=8:=fun h=>z (aT h)
   rw [hl]
   by_cases h:c=4∨c=7
   ·rw [if_pos h,if_pos (by omega)]
   ·rw [if_neg h,if_neg (by omega)]
 rintro σ Hi ⟨rfl,hl,sm⟩;refine ⟨fun σ Hi=>σ=[some (.ref x),some (.ref l)]∧Hi l=some (.lst (if c=4∨c=7∨c=8∨c=6 then [V.str (cF c)] else []))∧Same H Hi,?_,?_⟩
 ·refine (jA rfl (⟨x,vS eB eT eM eU eL eN eD eW c,.ref (vS eB eT eM eU eL eN eD eW 6),decide (c=6),rfl,sm _ _ hx,S.at_,S.cl,.inl (jA rfl (S.k 6 (by unfold Rf;decide))),jA rfl (zH (fun z=>?_) (fun z=>⟨rfl,?_,sm⟩))⟩))
  ·obtain rfl:=bv z;have hl':Hi l=some (.lst []):=by rw [hl,if_neg (by decide)]
   refine (jA rfl (⟨.inl ⟨rfl,_,so hl'⟩,l,_,_,rfl,rfl,hl',(by show 0<sizeLine;decide),rfl,?_,qA hl0 sm⟩));rw [jE,if_pos (by decide)];rfl
  ·have z:¬c=6:=fun h=>z (aT h)
   rw [hl]
   by_cases h:c=4∨c=7∨c=8
   ·rw [if_pos h,if_pos (by omega)]
   ·rw [if_neg h,if_neg (by omega)]
 rintro σ Hi ⟨rfl,hl,sm⟩;refine (jA rfl (⟨zz2,fun t ht=>?_⟩));have u:=jK ht (.tup [V.str "refused",V.ref l]);rw [if_pos (by unfold Rf at hc;omega)] at hl;exact q t _ (sm.trans u) (.inr ⟨hc,l,jE,u _ _ hl⟩)
theorem xM:jS 3 ["book","entry","way","e"] oP:=jR
include T in
theorem HU (F:kB K "_law_asked" oP f fd) (xx:MeX P w K mg base 10 cO "fault" ["self","entry"] (qL (jF cP cB cU) cR cN cO (fS eB eT eM eU eL eN eD))) (zw:MeX P w K mg base 12 cO "behind" ["self","entry"] (qL (jF cP cB cU) cR cN cO (lJ eB eT eM eU eL eN eD eW))) (vi:MeX P w K mg base 13 cO "do" ["self","entry"] (mJ (jF cP cB cU) cR cN cO eB eT eM eU eL eN eD eW)) (xab:DefH P w K mg base 1 "_law_refusal" ["e"] (BK eB eT eM eU eL eN eD eW)):FnOk P w K mg base jQ 14 f fd ["book","entry","way"] (DM (jF cP cB cU) cR cN cO):=by
 refine F.ok2 xM fun vs H Q E h=>?_
 refine dX h fun b t x A R L N B e w₁ h=>?_
 refine zI h fun e_ hw hq hen hsm hbad q=>?_
 subst e_;refine ⟨rfl,fun _ _ _ _ hr=>?_⟩;refine ⟨_,(@jG _ _ _ _ _ (RF (i:=3) rfl rfl rfl xM.nd rfl rfl rfl T.ua (fun _ _ hx=>(@jG _ _ _ _ _ (j9 (j6 kO (pv 2) jC) (kH (@xH _ _ _ _ (kD (jB jO (jB (zO xx hx hr (pv 0) (jB (pv 1) jD)) jD))))) kC)
   (kH (j9 (j6 kO (pv 2) jC) (kH (qY (zO zw hx hr (pv 0) (jB (pv 1) jD)))) (kH (qY (zO vi hx hr (pv 0) (jB (pv 1) jD)))))))) (fun _=>(jM (SZ xab (hr.hand _) rfl (jB (pv 3) jD)))))
   (jM (kD (jB jO (jB jO jD))))),?_⟩
 try dsimp only [jU,jT]
 obtain ⟨db,fs,hb,hno⟩:=hq.ins;have bad:kE R L N B e≠0→Rf (kE R L N B e)∧kE R L N B e≠6∧vT R L N B e w₁=kE R L N B e:=fun h=>by
  refine ⟨?_,?_,if_neg h⟩
  ·unfold Rf;rcases hbad with h'|h'|h'|h'<;>omega
  ·rcases hbad with h'|h'|h'|h'<;>omega
 have over:kE R L N B e=0→vV R L N B e="over":=fun h=>by
  rcases hbad with h'|h'|h'|h'
  ·exact h'.2
  ·omega
  ·omega
  ·omega
 have nov:kE R L N B e=0→vV R L N B e≠"":=fun h=>by rw [over h];decide +kernel
 refine ⟨fun σ' k H'=>∃c,σ'=[some (.ref b),some (.ref t),some (.int (w₁:Int)),none]∧k=.ref (vS eB eT eM eU eL eN eD eW c)∧Rf c∧c=vT R L N B e w₁∧Same H H',?_,?_⟩
 ·have be:kE R L N B e≠0→∀H',Same H H'→∃c,[some (.ref b),some (.ref t),some (.int (w₁:Int)),none]=[some (V.ref b),some (V.ref t),some (V.int (w₁:Int)),none]∧Value.ref (QK eB eT eM eU eL eN eD (kE R L N B e))=.ref (vS eB eT eM eU eL eN eD eW c)∧Rf c∧c=vT R L N B e w₁∧Same H H':=fun h H' s=>by
   obtain ⟨h1,h2,h3⟩:=bad h;exact ⟨kE R L N B e,rfl,by rw [U3 h2],h1,h3.symm,s⟩
  have bn:w₁≠0→kE R L N B e=0→vV R L N B e≠""→∀H',Same H H'→∃c,[some (.ref b),some (.ref t),some (.int (w₁:Int)),none]=[some (V.ref b),some (V.ref t),some (V.int (w₁:Int)),none]∧Value.ref eW=.ref (vS eB eT eM eU eL eN eD eW c)∧Rf c∧c=vT R L N B e w₁∧Same H H':=fun h0 h _ H' s=>by
   refine ⟨6,rfl,rfl,.inr (.inl rfl),?_,s⟩;unfold vT;rw [if_pos h,if_neg h0]
  refine ⟨_,rfl,rfl,jA rfl (?_)⟩
  by_cases w0:w₁=0
  ·subst w0;refine kK rfl (jA rfl (⟨b,db,jA rfl (⟨hb,hno _ (by decide +kernel),jA rfl ((vB b t x A R L N B e (qW rfl hq hen hsm (fun h0 H1 s1=>⟨zz2,fun r hr=>?_⟩) be)))⟩)⟩));rw [over h0];refine q r _ (s1.trans (jK hr _)) (.inl ⟨?_,jE⟩);unfold vT;rw [if_pos h0,if_pos rfl]
  refine j5 (fun z=>w0 (by have:=V.int.inj z;omega)) ⟨_,rfl,rfl,jA rfl (?_)⟩
  by_cases w1:w₁=1
  ·subst w1;exact kK rfl (jA rfl (⟨b,db,jA rfl (⟨hb,hno _ (by decide +kernel),jA rfl ((vB b t x A R L N B e (vU rfl hq hen hsm (fun h0 hw=>absurd hw (nov h0)) (bn (by decide)) be)))⟩)⟩))
  obtain rfl:w₁=2:=by omega
  exact j5 (fun z=>nomatch z) (jA rfl (⟨b,db,jA rfl (⟨hb,hno _ (by decide +kernel),jA rfl ((vB b t x A R L N B e (vU rfl hq hen hsm (fun h0 hw=>absurd hw (nov h0)) (bn (by decide)) be)))⟩)⟩))
 rintro σ' k H' ⟨c,rfl,rfl,hc,ec,sm⟩;refine ⟨vS eB eT eM eU eL eN eD eW c,rfl,?_,fun ex hex=>?_⟩
 ·rcases hc with rfl|rfl|rfl|rfl
  ·exact T.exm_Unknown
  ·exact T.exm_NotNow
  ·exact T.exm_BadNumber
  ·exact T.exm_TooDry
 have u:=jK hex (Z6 ex (vS eB eT eM eU eL eN eD eW c));exact (jA rfl (⟨ex,c,rfl,jE,hc,fun r H2 s2 ha=>q r H2 ((sm.trans u).trans s2) (ec▸ha)⟩))
theorem xS:jS 1 ["book","told"] oZ:=jR
include T in
theorem IF (F:kB K "_law_stand" oZ f fd) (xn:MeD P w K mg base 1 cO "names" ["self"] (vD (jF cP cB cU) cR cN cO (zG fun B=>B.zs.map V.str))) (xk:MeD P w K mg base 1 cO "ways" ["self"] (vD (jF cP cB cU) cR cN cO (zG BkS.us))) (xb:MeD P w K mg base 1 cO "state" ["self"] (vD (jF cP cB cU) cR cN cO QG)) (xac:MeD P w K mg base 1 cO "ledger" ["self"] (vD (jF cP cB cU) cR cN cO (zG BkS.ps))) (ur:MeD P w K mg base 1 cO "gatework" ["self"] (vD (jF cP cB cU) cR cN cO ER)) (ji:MeD P w K mg base 1 cO "entries" ["self"] (vD (jF cP cB cU) cR cN cO (zG BkS.es))):FnOk P w K mg base jQ 2 f fd ["book"] (t6 (jF cP cB cU) cR cN cO):=by
 refine F.ok2 xS fun vs H Q E h=>?_
 refine yC h fun b x A R L N B h=>?_
 refine qT h fun e_ hq q=>?_
 subst e_;refine ⟨rfl,fun _ _ _ _ hr=>?_⟩;refine ⟨_,(@jG _ _ _ _ _ (jV 1 xS.nd (kW (FZ (kS xn hr (pv 0)) (kS xk hr (pv 0)) (kW (jB (kS xb hr (pv 0)) jD)) (kS xac hr (pv 0)) (kS ur hr (pv 0)) (kS ji hr (pv 0)))))
   (jM (pv 1))),?_⟩
 try dsimp only [jU,jT]
 obtain ⟨db,fs,hb,hno⟩:=hq.ins;refine (jA rfl (⟨b,db,jA rfl (⟨hb,hno _ (by decide +kernel),kX b x A R L N B (kJ rfl hq (fun l1 H1 s1 n1 h1=>?_))⟩)⟩));refine (jA rfl (⟨b,db,jA rfl (⟨(s1 _ _ hb),hno _ (by decide +kernel),kX b x A R L N B (kJ rfl (hq.same s1) (fun l2 H2 s2 n2 h2=>?_))⟩)⟩));have t2:=s1.trans s2;refine (jA rfl (⟨b,db,jA rfl (⟨(t2 _ _ hb),hno _ (by decide +kernel),kX b x A R L N B (vN rfl (hq.same t2) zz1 (fun l3 n3=>?_))⟩)⟩));have s3:=jK n3 (.lst [V.ref B.st]);have t3:=t2.trans s3;have h3:upd H2 l3 (.lst [V.ref B.st]) l3=_:=jE;generalize upd H2 l3 (.lst [V.ref B.st])=H3 at s3 t3 h3 ⊢;refine (jA rfl (⟨b,db,jA rfl (⟨(t3 _ _ hb),hno _ (by decide +kernel),kX b x A R L N B (kJ rfl (hq.same t3) (fun l4 H4 s4 n4 h4=>?_))⟩)⟩));have t4:=t3.trans s4;refine (jA rfl (⟨b,db,jA rfl (⟨(t4 _ _ hb),hno _ (by decide +kernel),kX b x A R L N B (kJ rfl (hq.same t4) (fun l5 vs H5 s5 n5 h5 hw=>?_))⟩)⟩));have t5:=t4.trans s5;refine (jA rfl (⟨b,db,jA rfl (⟨(t5 _ _ hb),hno _ (by decide +kernel),kX b x A R L N B (kJ rfl (hq.same t5) (fun l6 H6 s6 n6 h6=>⟨zz6,fun r hr=>(jA rfl (?_))⟩))⟩)⟩));have u:=jK hr (.lst [V.ref l1,V.ref l2,V.ref l3,V.ref l4,V.ref l5,V.ref l6]);have w6:=s6.trans u;have w5:=s5.trans w6;have w4:=s4.trans w5;have w3:=s3.trans w4;have w2:=s2.trans w3;refine q r _ (s1.trans w2) ⟨l1,l2,l3,l4,l5,l6,vs,jE,⟨w2 _ _ h1,w3 _ _ h2,w4 _ _ h3,w5 _ _ h4,w6 _ _ h5,u _ _ h6⟩,?_,⟨n1,s1.free n2,t2.free n3,t3.free n4,t4.free n5,t5.free n6⟩⟩;exact hw.mono fun v p ⟨t,l,e,m1,m2,m3,m4,m5⟩=>⟨t,l,e,t4.free m1,t4.free m2,m3,w6 _ _ m4,w6 _ _ m5⟩
theorem xQ:jS 4 ["book","entry","due","stand"] oY:=jR
include T in
theorem IE (F:kB K "_law_refuses" oY f fd) (vj:Def P w K mg base 14 "_law_asked" ["book","entry","way"] [] (DM (jF cP cB cU) cR cN cO)) (vk:Def P w K mg base 2 "_law_stand" ["book"] [] (t6 (jF cP cB cU) cR cN cO)):FnOk P w K mg base jQ 15 f fd ["book","entry","due","stand"] (BJ (jF cP cB cU) cR cN cO):=by
 refine F.ok2 xQ fun vs H Q E h=>?_
 refine FD h fun b t du sd x A R L N B e H0 h=>?_
 refine QL h fun e_ hq hen hsm hbad hdu hsd q=>?_
 subst e_;refine ⟨rfl,fun _ _ _ _ hr=>?_⟩;have hu1:=FB hr;have hu15:=TQ hr;refine ⟨_,(@jG _ _ _ _ _ (j9 (j6 (uE hu1) (jP vj hr rfl (j7 (pv 0) (pv 1) jC)) (pv 2)) (jM Q0) kC)
   (zB (j9 (j6 kO (jH (jN K) (pv 2) jC) jO) (@kH _ _ _ (jV 2 xQ.nd (kD (jB jO (jB (kW (jB jO jD)) jD))))) kC)
   (@jG _ _ _ _ _ (j9 (PW.pt (lY (j6 (uE hu1) (jP vj hr rfl (j7 (pv 0) (pv 1) jC)) (pv 2)) (lM (j6 (uE hu1) (jP vj hr rfl (j7 (pv 0) (pv 1) jC)) (pv 2))))) (jM Q0) kC)
   (jM (JY (S6 3 (VW hr)) (jP vk hr rfl (jB (pv 0) jD)) (pv 3)))))),?_⟩
 try dsimp only [jU,jT]
 refine (jA rfl (jA rfl ((Z4 b t x A R L N B e 0 (vU rfl (by decide) hq hen hsm hbad (fun r H1 s1 ha=>(jA rfl (uZ (K:=K) ha (hdu.same s1) (jA rfl (vA ?_))))))))));refine ⟨fun σ Hj=>∃dv:Addr,σ=[some (.ref b),some (.ref t),some (.ref dv),some (.ref sd)]∧AnsAt Hj dv (vT R L N B e 1)∧Same H1 Hj,?_,?_⟩
 ·have hd1:=hdu.same s1
  by_cases hc:kE R L N B e=0
  ·have e0:vT R L N B e 0=9:=by unfold vT;rw [if_pos hc,if_pos rfl]
   have e1:vT R L N B e 1=6:=by unfold vT;rw [if_pos hc,if_neg (by decide)]
   rw [e0] at hd1
   rcases hd1 with ⟨_,g⟩|⟨hr,_⟩
   ·refine (jA rfl (jI (SqT.of g) rfl (⟨rfl,jA rfl (kK rfl ⟨zz1,fun l hl=>⟨zz2,fun dv hdv=>⟨dv,rfl,?_,?_⟩⟩⟩)⟩)))
    ·rw [e1];have u:=jK hdv (.tup [V.str "refused",V.ref l]);exact .inr ⟨.inr (.inl rfl),l,jE,u _ _ jE⟩
    ·exact (jK hl _).trans (jK hdv _)
   ·unfold Rf at hr;omega
  ·have e0:vT R L N B e 0=kE R L N B e:=if_neg hc;have e1:vT R L N B e 1=kE R L N B e:=if_neg hc;rw [e0] at hd1;have hd2:=hd1
   rcases hd1 with ⟨h9,_⟩|⟨hr,l,g,_⟩
   ·rcases hbad with h'|h'|h'|h'<;>omega
   ·exact (jA rfl (jI (SqT.of g) rfl (⟨rfl,jA rfl (j5 (fun e=>absurd (V.str.inj e) (by decide +kernel)) ⟨du,rfl,by rw [e1];exact hd2,Same.refl _⟩)⟩)))
 rintro σ Hj ⟨dv,rfl,hdv,s2⟩;have t2:=s1.trans s2;refine (jA rfl (jA rfl ((Z4 b t x A R L N B e 1 (vU rfl (by decide) (hq.same t2) (hen.same t2) hsm hbad (fun r1 H3 s3 ha1=>(jA rfl (uZ (K:=K) ha1 (hdv.same s3) (jA rfl (vA ?_))))))))));have t3:=t2.trans s3;have e2:vT R L N B e 2=vT R L N B e 1:=rfl;refine (jA rfl (jA rfl ((Z4 b t x A R L N B e 2 (vU rfl (by decide) (hq.same t3) (hen.same t3) hsm hbad (fun r2 H4 s4 ha2=>(jA rfl (uZ (K:=K) (c:=vT R L N B e 1) (by rw [← e2];exact ha2) (hdv.same (s3.trans s4)) (jA rfl (vA ?_))))))))));have t4:=t3.trans s4;refine (jA rfl ((kX b x A R L N B (kJ rfl (hq.same t4) (fun r5 H5 s5 ht5=>(jA rfl (SG ht5 (hsd.same t4) s5 ?_ hq.ok.pr hq.ok.er (q H5 (t4.trans s5)))))))));intro z hz;obtain ⟨i,hi⟩:=cy.mp hz;obtain ⟨_,_,tz,_,_,e,_⟩:=hq.wy.2 i z hi;exact ⟨tz,e⟩
theorem iF:jS 4 ["script","canal","day","cell","pairs","at"] gQ:=jR
include T in
theorem HY (F:kB K "_law_dry_weather" gQ f fd) : FnOk P w K mg base jQ 1 f fd ["script","canal","day","cell"] (E5 (jF cP cB cU) cR cN):=by
 refine F.ok2 iF fun vs H Q E h=>?_
 refine yC h fun s x d c R L N h=>?_
 refine y0 h fun e_ hcn hdr hr1 hd0 q=>?_
 subst e_;refine ⟨rfl,fun _ _ _ _ hr=>?_⟩;refine ⟨_,(@jG _ _ _ _ _ (bE (i:=4) ["reach"] (vF 1 []) iF.nd rfl (.inl rfl) rfl (vM (j8 gQ)) (cps 1 []) (yH (jZ K (pv 1) rfl)) (fun _ _ _ _ _=>(kU (i:=0) (show List.Nodup (["reach"]:List Str) from by decide +kernel) rfl (.inl rfl))) (fun _ _ _ _ _=>yR) (fun _ _ _ _ _=>(kD (jB jC (jB jC jD)))))
   (zB (j9 (j6 Q1 (pv 2) (qS K T.xl (jZ K (pv 1) rfl))) (@kH _ _ _ (jV 4 iF.nd (vO (zV K) (by rfl) T.xu aS (jB (jH (kR K) (jZ K (pv 1) rfl) (pv 2)) jD)))) kC)
   (@jG _ _ _ _ _ (jV 5 iF.nd (@jJ _ _ _ _ _ _ _ _ vQ (pv 3) (qS K T.xl (pv 4))))
   (zB (j9 (PW.pt (fP (j6 kO (@jJ _ _ _ _ _ _ _ _ vQ (@jJ _ _ _ _ _ _ _ _ zX (pv 3) jC) jC) jC) (fH (j6 wA (jH (jN K) (jH (kR K) (pv 4) (pv 5)) jC) jC)))) (@kH _ _ _ (uQ (kD (jB (@jJ _ _ _ _ _ _ _ _ vQ (@jJ _ _ _ _ _ _ _ _ zX (pv 3) jC) (jH (jN K) (jH (kR K) (pv 4) (pv 5)) jC)) (jB (jH (jN K) (jH (kR K) (pv 4) (pv 5)) jC) jD))) (uS (pv 4) (pv 5) dA))) (@kH _ _ _ (uQ (kD (jB (jH (jN K) (jH (kR K) (pv 4) (pv 5)) jC) (jB (@jJ _ _ _ _ _ _ _ _ kI (@jJ _ _ _ _ _ _ _ _ kI (jH (jN K) (jH (kR K) (pv 4) (pv 5)) jC) jC) (@jJ _ _ _ _ _ _ _ _ vQ (@jJ _ _ _ _ _ _ _ _ zX (pv 3) jC) (@jJ _ _ _ _ _ _ _ _ lO jC jC))) jD))) (uS (pv 4) (pv 5) dA))))
   (jM (vO (bC K) (by rfl) T.zg cf (jB (pv 4) jD))))))),?_⟩
 try dsimp only [jU,jT]
 obtain ⟨dx,rl,ll,nl,gs,rs,ls,nv,hx,hf,hrl,hll,hnl,hR,hL,hN,d1,d2,d3⟩:=id hcn;have r8:=hdr.r8;have hrl':=hR.1;have hnl':=hN.1;refine (jA rfl (j0 hx (T.clN) (T.xf) (hf.1) (⟨rl,rfl,⟨_,so hrl⟩,fun bt hbt=>?_⟩)));refine bA (K:=K) (a:=rl) (xs:=rs) (caps:=[]) (fun i ys Hi=>AllAt (QAt Hi) ys (List.replicate i ((0:Int),(0:Int)))) hbt (so hrl) AllAt.nil ?_ ?_
 ·rintro i v ys Hi hv hi hle sm hY hA;refine v9 (qG ⟨zz2,fun t2 ht2=>?_⟩);have u:=jK ht2 (.tup [V.int 0,V.int 0]);refine JH hbt sm hY hle (by omega) u ?_;rw [replicate_succ'];exact ((hA.mono (QAt.same u)).snoc (v:=.ref t2) (x:=((0:Int),(0:Int))) ⟨t2,rfl,jE⟩).mono (QAt.put (u _ _ hY))
 rintro ys H1 s1 hbt1 hle1 hA1;refine ⟨fun σ Hj=>∃(pl:Addr) (us:List V) (P:List (Int×Int)),σ=[some (.ref s),some (.ref x),some (.int d),some (.int c),some (.ref pl),none]∧Hj pl=some (.lst us)∧AllAt (QAt Hj) us P∧P.length=R.length∧(d<(N.length:Int)→P=N.getD d.toNat [])∧H pl=none∧Same H Hj,?_,?_⟩
 ·refine (jA rfl (jA rfl (j0 ((s1 _ _ hx)) (T.clN) (T.xm) (hf.2.2.1) (⟨nl,jA rfl (⟨.inl (so (s1 _ _ hnl)),_,_,rfl,rfl,jA rfl (?_)⟩)⟩))))
  by_cases hd:d<(N.length:Int)
  case neg=>exact j5 (by omega) ⟨bt,ys,jA rfl (⟨hbt1,hA1,by rw [bf];omega,fun h=>absurd h hd,hbt,s1⟩)⟩
  obtain ⟨dn,rfl⟩:∃dn:Nat,d=(dn:Int):=⟨d.toNat,by omega⟩;obtain ⟨W',hW'⟩:∃W',N[dn]?=some W':=⟨_,aa (by omega)⟩;obtain ⟨v,hv,wn,qs,rfl,hwn,hqs,_⟩:=hN.get hW';have hWl':=hdr.night W' (au hW');refine kK (by omega) (jA rfl (j0 ((s1 _ _ hx)) (T.clN) (T.xm) (hf.2.2.1) ((jA rfl (kZ (so (s1 _ _ hnl)) (kY hv) (⟨wn,jA rfl (⟨.inl (so (s1 _ _ hwn)),fun p hp=>?_⟩)⟩))))));have u:=s1.trans (jK hp (.lst qs));exact (vK p qs W' (vU rfl jE (hqs.mono (QAt.same u)) hWl' (fun _=>by rw [ay,ac,hW'];rfl) (s1.free hp) u))
 rintro σ H2 ⟨pl,us,P,rfl,hpl,hA,hPl,hPN,fr,sm⟩;have hul:=hA.1;have hp0:(0:Int)<((us.length:Nat):Int):=by omega
 obtain ⟨j,ej,lj⟩:=iW (a:=c) hp0;refine (jA rfl (jA rfl (⟨pl,jA rfl (⟨.inl (so hpl),_,_,rfl,rfl,hp0,?_⟩)⟩)))
 try dsimp only
 rw [ej];obtain ⟨v,hv⟩:∃v,us[j]?=some v:=⟨_,aa (by omega)⟩;obtain ⟨p,hp,tp,rfl,htp⟩:=hA.2 j v hv;have lj:j<us.length:=by omega
 refine ⟨fun σ Hj=>∃(us':List V) (P':List (Int×Int)),σ=[some (.ref s),some (.ref x),some (.int d),some (.int c),some (.ref pl),some (.int (j:Int))]∧Hj pl=some (.lst us')∧AllAt (QAt Hj) us' P'∧P'.length=R.length∧(d<(N.length:Int)→JC P' (N.getD d.toNat [])=false)∧Same H Hj,?_,?_⟩
 ·refine (jA rfl (jY (⟨⟨by decide,by decide⟩,_,_,rfl,rfl,(by show (0:Int)<2;decide),rfl,jA rfl (zH (fun _=>?_) (fun _=>?_))⟩)))
  rotate_left
  ·refine (jA rfl (jA rfl (kZ (so hpl) (kY hv) (jI (SqT.of htp) rfl ((jA rfl (jA rfl (kZ (so hpl) (kY hv) (jI (SqT.of htp) rfl (jY ((jA rfl (jY (⟨⟨by decide,by decide⟩,_,_,rfl,rfl,⟨by decide,by decide,by decide⟩,_,_,rfl,rfl,(show (0:Int)<10 ^ Int.toNat 11 from by decide +kernel),_,_,rfl,rfl,zz2,fun t2 ht2=>?_⟩))))))))))))));have v2:=jK ht2 (.tup [V.int (p.1),V.int (p.2+1+c / 14%10 ^ Int.toNat 11)]);refine (jA rfl (jA rfl (⟨pl,us,_,j,rfl,rfl,v2 _ _ hpl,bM lj,_,P.set j (p.1,p.2+1+c / 14%10 ^ Int.toNat 11),rfl,jE,((hA.mono (QAt.same v2)).setI j (v:=.ref t2) (p:=(p.1,p.2+1+c / 14%10 ^ Int.toNat 11)) ⟨t2,rfl,jE⟩).mono (QAt.put (v2 _ _ hpl)),by rw [bc];exact hPl,fun hd=>?_,qA fr (sm.trans v2)⟩)));rw [← hPN hd];exact uH hp (.inr (by have:=bp (c / 14) (show (10:Int) ^ Int.toNat 11≠0 from by decide +kernel);show p.2<p.2+1+c / 14%10 ^ Int.toNat 11;omega))
  refine (jA rfl (jA rfl (kZ (so hpl) (kY hv) (jI (SqT.of htp) rfl (jY ((jA rfl (zH (fun h=>?_) (fun _=>?_)))))))))
  rotate_left
  ·refine (jA rfl (jA rfl (kZ (so hpl) (kY hv) (jI (SqT.of htp) rfl ((jA rfl (jA rfl (kZ (so hpl) (kY hv) (jI (SqT.of htp) rfl (jY ((jA rfl (jY (⟨⟨by decide,by decide⟩,_,_,rfl,rfl,⟨by decide,by decide,by decide⟩,_,_,rfl,rfl,(show (0:Int)<10 ^ Int.toNat 11 from by decide +kernel),_,_,rfl,rfl,zz2,fun t2 ht2=>?_⟩))))))))))))));have v2:=jK ht2 (.tup [V.int (p.1),V.int (p.2+1+c / 14%10 ^ Int.toNat 11)]);refine (jA rfl (jA rfl (⟨pl,us,_,j,rfl,rfl,v2 _ _ hpl,bM lj,_,P.set j (p.1,p.2+1+c / 14%10 ^ Int.toNat 11),rfl,jE,((hA.mono (QAt.same v2)).setI j (v:=.ref t2) (p:=(p.1,p.2+1+c / 14%10 ^ Int.toNat 11)) ⟨t2,rfl,jE⟩).mono (QAt.put (v2 _ _ hpl)),by rw [bc];exact hPl,fun hd=>?_,qA fr (sm.trans v2)⟩)));rw [← hPN hd];exact uH hp (.inr (by have:=bp (c / 14) (show (10:Int) ^ Int.toNat 11≠0 from by decide +kernel);show p.2<p.2+1+c / 14%10 ^ Int.toNat 11;omega))
  have h:0<p.1:=bv h;refine (jA rfl (jY (⟨⟨by decide,by decide⟩,jA rfl (jA rfl (kZ (so hpl) (kY hv) (jI (SqT.of htp) rfl (jY (⟨h,jA rfl (jA rfl (kZ (so hpl) (kY hv) (jI (SqT.of htp) rfl (⟨zz2,fun t2 ht2=>?_⟩))))⟩)))))⟩)));have v2:=jK ht2 (.tup [V.int (c / 14%p.1),V.int (p.2)]);refine (jA rfl (jA rfl (⟨pl,us,_,j,rfl,rfl,v2 _ _ hpl,bM lj,_,P.set j (c / 14%p.1,p.2),rfl,jE,((hA.mono (QAt.same v2)).setI j (v:=.ref t2) (p:=(c / 14%p.1,p.2)) ⟨t2,rfl,jE⟩).mono (QAt.put (v2 _ _ hpl)),by rw [bc];exact hPl,fun hd=>?_,qA fr (sm.trans v2)⟩)));rw [← hPN hd];exact uH hp (.inl (ba _ h))
 rintro σ H3 ⟨us',P',rfl,hpl',hA',hPl',hwet,sm'⟩;refine (jA rfl (⟨pl,us',rfl,.inl ⟨so hpl',fun wt hwt=>?_⟩⟩));have u:=jK hwt (.tup us');exact q wt us' P' _ (sm'.trans u) (sm'.free hwt) jE (hA'.mono (QAt.same u)) hPl' hwet
theorem QQ:jS 4 ["script","book","canal","cell","day","stand","amount","strange","dry","short","due"] oO:=jR
include T in
theorem HS (F:kB K "_law_all_refused" oO f fd) (xb:MeD P w K mg base 1 cO "state" ["self"] (vD (jF cP cB cU) cR cN cO QG)) (vk:Def P w K mg base 2 "_law_stand" ["book"] [] (t6 (jF cP cB cU) cR cN cO)) (zx:Def P w K mg base 15 "_law_refuses" ["book","entry","due","stand"] [] (BJ (jF cP cB cU) cR cN cO)) (wp:Def P w K mg base 1 "_law_dry_weather" ["script","canal","day","cell"] [] (E5 (jF cP cB cU) cR cN)):FnOk P w K mg base jQ 16 f fd ["script","book","canal","cell"] (CS (jF cP cB cU) cR cN cO):=by
 refine F.ok2 QQ fun vs H Q E h=>?_
 refine yO h fun s b x c A R L N B h=>?_
 refine zI h fun e_ hq hr2 x1 x2 x3 q=>?_
 subst e_;refine ⟨rfl,fun _ _ _ _ hr=>?_⟩;refine ⟨_,(@jG _ _ _ _ _ (jV 4 QQ.nd (jH (jN K) (kS xb hr (pv 1)) jC))
   (@jG _ _ _ _ _ (jV 5 QQ.nd (jP vk hr rfl (jB (pv 1) jD)))
   (@jG _ _ _ _ _ (jV 6 QQ.nd (@jJ _ _ _ _ _ _ _ _ vQ (@jJ _ _ _ _ _ _ _ _ zX (pv 3) jC) (@jJ _ _ _ _ _ _ _ _ lO jC jC)))
   (@jG _ _ _ _ _ (jV 7 QQ.nd (jH (kR K) (kW (vG (kD (jB jO (jB jO jD))) (kD (jB jO (jB jO jD))) (kD (j7 jO jO (pv 6))) (kD (j7 jO jO (pv 6))))) (@jJ _ _ _ _ _ _ _ _ vQ (pv 3) jC)))
   (@jG _ _ _ _ _ (j9 (bO (vP (jP zx hr rfl (vG (pv 1) (pv 7) (kD (jB jO (jB (kW (jB jO jD)) jD))) (pv 5))))) (jM Q0) kC)
   (@jG _ _ _ _ _ (jV 8 QQ.nd (jP wp hr rfl (vG (pv 0) (pv 2) (pv 4) (@jJ _ _ _ _ _ _ _ _ zX (pv 3) jC))))
   (@jG _ _ _ _ _ (jV 9 QQ.nd (jH (kR K) (kW (jB (tR (SK K) (pv 8) (nB jC) uC) (jB (@jJ _ _ _ _ _ _ _ _ CV (pv 8) (kD (jB (kD (jB (pv 6) (jB jC jD))) jD))) jD))) (@jJ _ _ _ _ _ _ _ _ vQ (@jJ _ _ _ _ _ _ _ _ zX (pv 3) jC) jC)))
   (@jG _ _ _ _ _ (j9 (bO (vP (jP zx hr rfl (vG (pv 1) (kD (jB jO (jB (pv 9) jD))) (kD (jB jO (jB (kW (jB jO jD)) jD))) (pv 5))))) (jM Q0) kC)
   (@jG _ _ _ _ _ (jV 10 QQ.nd (kD (jB jO (jB (kW (jB jO jD)) jD))))
   (zB (j9 (j6 mB (pv 4) (qS K T.xl (jZ K (pv 2) rfl))) (@kH _ _ _ (jV 10 QQ.nd (kD (jB jO (jB jO jD))))) kC)
   (jM (jP zx hr rfl (vG (pv 1) (kD (jB jO (jB (pv 8) jD))) (pv 10) (pv 5)))))))))))))),?_⟩
 try dsimp only [jU,jT]
 obtain ⟨db,fs,hb,hno⟩:=hq.ins;have hdr:=hq.ok.dr;have r8:=hdr.r8;have d0:=hq.ok.d0;obtain ⟨ww,pt,g1,g2,g3⟩:=hq.stH;refine (jA rfl (⟨b,db,jA rfl (⟨hb,hno _ (by decide +kernel),kX b x A R L N B (kJ rfl hq (jI (SqT.of g1) rfl (?_)))⟩)⟩));refine (jA rfl ((kX b x A R L N B (kJ rfl hq (fun sd H1 s1 hT=>?_)))));refine (jA rfl (jY (⟨⟨by decide,by decide⟩,_,_,rfl,rfl,⟨by decide,by decide,by decide⟩,_,_,rfl,rfl,(show (0:Int)<10 ^ Int.toNat 12 from by decide +kernel),?_⟩)))
 try dsimp only
 generalize c / 5%10 ^ Int.toNat 12=am;refine ⟨zz2,fun t1 ht1=>?_⟩;obtain ⟨G1,e1,v1,k1⟩:=JT (.tup [V.str "pass",V.str "xyz"]) ht1;rw [e1];refine ⟨zz2,fun t2 ht2=>?_⟩;obtain ⟨G2,e2,v2,k2⟩:=JT (.tup [V.str "let",V.str "xyz"]) ht2;rw [e2];refine (jA rfl (⟨zz3,fun t3 ht3=>?_⟩));obtain ⟨G3,e3,v3,k3⟩:=JT (.tup [V.str "take",V.str "xyz",V.int am]) ht3;rw [e3];refine (jA rfl (⟨zz3,fun t4 ht4=>?_⟩));obtain ⟨G4,e4,v4,k4⟩:=JT (.tup [V.str "rain",V.str "xyz",V.int am]) ht4;rw [e4];refine ⟨zz4,fun lq hlq=>?_⟩;obtain ⟨H2,e5,v5,hlq'⟩:=JT (.lst [V.ref t1,V.ref t2,V.ref t3,V.ref t4]) hlq;rw [e5];have v45:=v4.trans v5;have v35:=v3.trans v45;have v25:=v2.trans v35;have vv:=v1.trans v25;obtain ⟨tq,e,hat,hen,hsm,hco⟩:∃(tq:Addr) (e:Ent),qU [V.ref t1,V.ref t2,V.ref t3,V.ref t4] (c%4)=some (.ref tq)∧EnAt H2 tq e∧ZE e∧kE R L N B e=4:=by
  rcases WN (c:=c) with h|h|h|h<;>rw [h]
  ·exact ⟨t1,.pas "xyz",rfl,v25 _ _ k1,trivial,i4 rfl (iU x1)⟩
  ·exact ⟨t2,.lt "xyz",rfl,v35 _ _ k2,trivial,i4 rfl (iU x3)⟩
  ·exact ⟨t3,.take "xyz" am,rfl,v45 _ _ k3,trivial,i4 rfl (iU x2)⟩
  ·exact ⟨t4,.rain "xyz" am,rfl,v5 _ _ k4,trivial,i4 rfl (iU x2)⟩
 refine (jA rfl (jY (⟨(by show (0:Int)<4;decide),kZ (so hlq') hat (?_)⟩)));have s2:=s1.trans vv;refine (jA rfl (jA rfl (⟨zz1,fun ld hld=>⟨zz2,fun du hdu=>?_⟩⟩)));obtain ⟨Ga,ea,u12,hda⟩:=uX (c:=4) "Unknown" rfl (.inl rfl) hld hdu;rw [ea];have s3:=s2.trans u12;have ha:vT R L N B e 0=4:=by show (if kE R L N B e=0 then _ else kE R L N B e)=4;rw [hco];rfl
 refine (jA rfl ((mP b tq du sd x A R L N B e H (zU rfl (hq.same s3) (hen.same u12) hsm (.inr (.inl hco)) (by rw [ha];exact hda) ((hT.same vv).same u12) (fun H3 s4=>(jA rfl (vA ?_)))))));have s5:=s3.trans s4;have hT3:=((hT.same vv).same u12).same s4;refine (jA rfl (jA rfl (jA rfl (jA rfl (jY (⟨⟨by decide,by decide⟩,kX s x B.d _ R L N (qW rfl ((hq.same s5).cnH) hdr (by omega) d0 (fun wt us W H4 s6 hwt0 hwt hA hWl hwet=>?_))⟩))))));have s7:=s5.trans s6;have hul:=hA.1;have hT4:=hT3.same s6;refine (jA rfl (jA rfl (⟨wt,jA rfl (⟨SqT.of hwt,(fun z=>?_),fun p1 hp1=>?_⟩)⟩)))
 case refine_1 =>
  have h:=z.1;rw [show (some (1:Int))=some ((1:Nat):Int) from rfl,HT.sIx_nat] at h;omega
 obtain ⟨G1',e1',y1,j1⟩:=JT (.tup (JE us (some 1) none)) hp1;rw [e1'];refine (jA rfl (jA rfl (⟨zz2,fun q1 hq1=>?_⟩)));obtain ⟨G2',e2',y2,j2⟩:=JT (.tup [V.int am,V.int 0]) hq1;rw [e2'];refine ⟨zz1,fun q2 hq2=>?_⟩;obtain ⟨G3',e3',y3,j3'⟩:=JT (.tup [V.ref q1]) hq2;rw [e3'];refine ⟨wt,q2,_,_,rfl,rfl,SqT.of (y3 _ _ (y2 _ _ (y1 _ _ hwt))),SqT.of j3',(by simp),bD (by rw [aF];omega),(fun hn=>absurd (bu List.length hn) (by rw [hul,hWl];show ¬R.length=0;omega)),fun hn p2 hp2=>?_⟩;obtain ⟨G4',e4',y4,j3⟩:=JT (.tup (us++[V.ref q1])) hp2;rw [e4'];refine ⟨zz2,fun lr hlr=>?_⟩;obtain ⟨H5,e5',y5,j4⟩:=JT (.lst [V.ref p1,V.ref p2]) hlr;rw [e5'];have y45:=y4.trans y5;have y35:=y3.trans y45;have y25:=y2.trans y35;have yy:=y1.trans y25;rw [WO] at j1;have hA5:=hA.mono (QAt.same yy);obtain ⟨sh,us2,W2,hat2,hsh,hA2,hW2,hW3⟩:∃(sh:Addr) (us2:List V) (W2:List (Int×Int)),qU [V.ref p1,V.ref p2] (c / 4%2)=some (.ref sh)∧H5 sh=some (.tup us2)∧AllAt (QAt H5) us2 W2∧W2.length≠R.length∧W2.length≤100:=by
  rcases (show c / 4%2=0∨c / 4%2=1 by omega) with h|h<;>rw [h]
  ·exact ⟨p1,_,W.drop 1,rfl,y25 _ _ j1,hA5.drop1,by rw [fm];omega,by rw [fm];omega⟩
  ·exact ⟨p2,_,W++[(am,0)],rfl,y5 _ _ j3,hA5.snoc (v:=.ref q1) (x:=(am,0)) ⟨q1,rfl,y35 _ _ j2⟩,by rw [af,aF];omega,by rw [af,aF];omega⟩
 refine (jA rfl (jY (⟨⟨by decide,by decide⟩,_,_,rfl,rfl,(by show (0:Int)<2;decide),kZ (so j4) hat2 (?_)⟩)));have s8:=s7.trans yy;have hwt5:=yy _ _ hwt;have hT5:=hT4.same yy;refine (jA rfl (jA rfl (⟨zz2,fun tn htn=>?_⟩)));obtain ⟨Gn,en,z1,ktn⟩:=JT (.tup [V.str "night",V.ref sh]) htn;rw [en];refine ⟨zz1,fun ld hld=>⟨zz2,fun du hdu=>?_⟩⟩;obtain ⟨Gb,eb,z23,hdb⟩:=uX (c:=7) "BadNumber" rfl (.inr (.inr (.inl rfl))) hld hdu;rw [eb];have zz:=z1.trans z23;have hco:kE R L N B (.night W2)=7:=if_neg hW2;have ha:vT R L N B (.night W2) 0=7:=by show (if kE R L N B (.night W2)=0 then _ else kE R L N B (.night W2))=7;rw [hco];rfl
 have s9:=s8.trans zz;refine (jA rfl ((mP b tn du sd x A R L N B (.night W2) H (zU rfl (hq.same s9) ⟨sh,us2,z23 _ _ ktn,zz _ _ hsh,hA2.mono (QAt.same zz)⟩ hW3 (.inr (.inr (.inl hco))) (by rw [ha];exact hdb) (hT5.same zz) (fun H6 s10=>(jA rfl (vA ?_)))))));have sA:=zz.trans s10;have s11:=s8.trans sA;have hwt6:=sA _ _ hwt5;have hT6:=hT5.same sA;have hA6:=hA5.mono (QAt.same sA);refine ⟨zz1,fun ld hld=>⟨zz2,fun du hdu=>?_⟩⟩;obtain ⟨H7,ed,u12,hdd⟩:=uX (c:=8) "TooDry" rfl (.inr (.inr (.inr rfl))) hld hdu;rw [ed];have s12:=s11.trans u12;have hcn:=(hq.same s12).cnH;obtain ⟨dx,rl,ll,nl,gs,rs,ls,nv,hx,hf,hrl,hll,hnl,hR,hL,hN,d1,d2,d3⟩:=id hcn;have hnl':=hN.1;have hcode:kE R L N B (.night W)=if B.d<(N.length:Int)∧JC W (N.getD B.d.toNat [])=false then 8 else 0:=if_pos hWl
 have hwhy:vV R L N B (.night W)=JU R L N.length B.ys B.d B.ms B.pl .night:=rfl;refine ⟨fun σ Hj=>∃dv:Addr,σ=[some (.ref s),some (.ref b),some (.ref x),some (.int c),some (.int B.d),some (.ref sd),some (.int am),some (.ref tq),some (.ref wt),some (.ref sh),some (.ref dv)]∧AnsAt Hj dv (vT R L N B (.night W) 0)∧Same H7 Hj,?_,?_⟩
 ·refine (jA rfl (jA rfl (j0 hx (T.clN) (T.xm) (hf.2.2.1) (⟨nl,jA rfl (⟨.inl (so hnl),_,_,rfl,rfl,jA rfl (?_)⟩)⟩))))
  by_cases hd:B.d<(N.length:Int)
  ·rw [if_pos ⟨hd,hwet hd⟩] at hcode;have ha:vT R L N B (.night W) 0=8:=by show (if kE R L N B (.night W)=0 then _ else kE R L N B (.night W))=8;rw [hcode];rfl
   exact j5 (by omega) ⟨du,rfl,by rw [ha];exact hdd,Same.refl _⟩
  ·rw [if_neg (fun z=>hd z.1)] at hcode;have ha:vT R L N B (.night W) 0=9:=by show (if kE R L N B (.night W)=0 then _ else kE R L N B (.night W))=9;rw [hcode];rfl
   exact kK (by omega) ⟨zz2,fun dv hdv=>⟨dv,rfl,by rw [ha];exact .inl ⟨rfl,jE⟩,jK hdv _⟩⟩
 rintro σ H8 ⟨dv,rfl,hdv,s13⟩;have sB:=u12.trans s13;have s14:=s11.trans sB;refine (jA rfl (jA rfl (⟨zz2,fun tn htn=>?_⟩)));have u:=jK htn (.tup [V.str "night",V.ref wt]);have sC:=sB.trans u;have hbad:xF R L N B (.night W):=by
  by_cases hd:B.d<(N.length:Int)
  ·rw [if_pos ⟨hd,hwet hd⟩] at hcode;exact .inr (.inr (.inr hcode))
  ·rw [if_neg (fun z=>hd z.1)] at hcode;exact .inl ⟨hcode,hwhy.trans (if_neg hd)⟩
 exact (jA rfl (jA rfl ((mP b tn dv sd x A R L N B (.night W) H (zU rfl (hq.same (s14.trans u)) ⟨wt,us,jE,sC _ _ hwt6,hA6.mono (QAt.same sC)⟩ (by show W.length≤100;omega) hbad (hdv.same u) (hT6.same sC) (fun H9 s15=>q H9 ((s14.trans u).trans s15)))))))
theorem ZJ:jS 1 ["script","canal","book","called","k","entry","cell"] QP:=jR
include T in
theorem IZ (F:kB K "law" QP f fd) (xaT:Def P w K mg base 6 "_law_canal" ["script","most_reaches","most_locks","most_nights"] [] (CQ K (jF cP cB cU) cR cN)) (xbL:MkD P w K mg base 7 "Book" cO ["self","canal"] (sO (jF cP cB cU) cR cN cO)) (xaD:DefX P w K mg base 2 "_law_names" ["script","k","many"] [] (cZ K)) (xt:DefX P w K mg base 1 "_law_draw" ["script","k","many"] [] (lG K)) (xa8:Def P w K mg base 1 "_law_come" ["canal","name","way"] [] (CP (jF cP cB cU) cR cN)) (xbd:Def P w K mg base 2 "_law_way" ["script","k","canal","most"] [] (DF K (jF cP cB cU) cR cN)) (xx:MeX P w K mg base 10 cO "fault" ["self","entry"] (qL (jF cP cB cU) cR cN cO (fS eB eT eM eU eL eN eD))) (vi:MeX P w K mg base 13 cO "do" ["self","entry"] (mJ (jF cP cB cU) cR cN cO eB eT eM eU eL eN eD eW)) (zy:Def P w K mg base 16 "_law_all_refused" ["script","book","canal","cell"] [] (CS (jF cP cB cU) cR cN cO)) (xaU:Def P w K mg base 2 "_law_entry" ["canal","names","day","cell","unit"] [] (BN (jF cP cB cU) cR cN)) (xn:MeD P w K mg base 1 cO "names" ["self"] (vD (jF cP cB cU) cR cN cO (zG fun B=>B.zs.map V.str))) (xb:MeD P w K mg base 1 cO "state" ["self"] (vD (jF cP cB cU) cR cN cO QG)) (we:Def P w K mg base 1 "_law_unit" ["script"] [] (uN K)):FnOk P w K mg base (kF P w) 17 f fd ["script"] (bT K):=by
 refine F.okX2 ZJ fun vs H Q E h=>?_
 obtain ⟨s,ns,rfl,hS,h63,q⟩:=h;refine ⟨rfl,fun _ _ _ _ hr=>?_⟩;refine ⟨_,(@jG _ _ _ _ _ (jV 1 ZJ.nd (jP xaT hr rfl (vG (pv 0) jC jC jC)))
   (@jG _ _ _ _ _ (jV 2 ZJ.nd (dP xbL hr rfl (jB (pv 1) jD)))
   (@jG _ _ _ _ _ (jV 3 ZJ.nd (qJ xaD k7 hr rfl (j7 (pv 0) jC jC)))
   (@jG _ _ _ _ _ (JL fR rfl (QU (by rfl) T.xv (jB (qJ xt k7 hr rfl (j7 (pv 0) jC jC)) jD)) (kU (i:=4) ZJ.nd rfl (.inl rfl))
    (@jG _ _ _ _ _ (jV 5 ZJ.nd (jP xa8 hr rfl (j7 (pv 1) (jH (kR K) (pv 3) (pv 4)) (jP xbd hr rfl (vG (pv 0) (pv 4) (pv 1) jC)))))
   (@kH _ _ _ (j9 (j6 kO (zO xx k7 hr (pv 2) (jB (pv 5) jD)) jO) (@kH _ _ _ (qY (zO vi k7 hr (pv 2) (jB (pv 5) jD)))) kC))))
   (@jG _ _ _ _ _ (j9 (bO (vP (jP zy hr rfl (vG (pv 0) (pv 2) (pv 1) (qJ xt k7 hr rfl (j7 (pv 0) jC jC)))))) (jM Q0) kC)
   (@jG _ _ _ _ _ (JL fR rfl (yH (tR (CT K) (pv 0) uC (nB jC))) (kU (i:=6) ZJ.nd rfl (.inl rfl))
    (@jG _ _ _ _ _ (jV 5 ZJ.nd (jP xaU hr rfl (eG (pv 1) (kS xn hr (pv 2)) (jH (jN K) (kS xb hr (pv 2)) jC) (pv 6) (jP we hr rfl (jB (pv 0) jD)))))
   (zB (j9 (j6 kO (zO xx k7 hr (pv 2) (jB (pv 5) jD)) jO) (@kH _ _ _ (qY (zO vi k7 hr (pv 2) (jB (pv 5) jD)))) kC)
   (@kH _ _ _ (j9 (bO (vP (jP zy hr rfl (vG (pv 0) (pv 2) (pv 1) (pv 6))))) (jM Q0) kC)))))
   (jM Q0))))))),?_⟩
 try dsimp only [jU,jT]
 refine (jA rfl ((yD s ns 4 3 2 (mX rfl hS h63 (by decide) (by decide) (by decide) (by decide) (by decide) (fun x R L N H1 hdr hnn nR nL hR4 hL3 hN2 hr2 hl1 s1 hx0 hcn=>?_)))));refine (jA rfl (?_));intro b db nb ndb neb;have m1:Same H1 (kL (upd (upd H1 db (.own b)) b (.ins cO db [])) [b]):=fun a o e=>by
  rw [v7 (fun z=>kT e nb (aR.mp z)),jX (kT e nb),jX (kT e ndb)];exact e
 refine (J3 b db x R L N (vX rfl jE (hcn.same m1) hdr (fun A B H2 hB hz0 he0 hd=>⟨rfl,?_⟩)));have s12:=s1.trans (m1.trans hd);refine (jA rfl ((yP s ns _ 3 (vU rfl ((s12.trans (QB _ _)).seq hS) h63 (by decide) (by decide) (by decide) (fun cl cs H3 s3 hcl0 hcl hcsl hcs=>?_)))));have hB3:=hB.same s3;have sc:=s12.trans (y8 s3);have hclG:kL H3 A cl=some (.lst (cs.map V.str)):=by rw [v7 (hB.out hcl0)];exact hcl
 clear hcl hcl0 s12 hd m1 hB neb ndb nb hcn hx0 s1 s3;have xz:("xyz":Str)∉cs:=fun h=>(hcs.2 _ h).2.1 rfl
 have xR:("xyz":Str)∉R.map (·.name):=fun h=>(nR.2 _ h).2.1 rfl
 have xL:("xyz":Str)∉L.map (·.name):=fun h=>(nL.2 _ h).2.1 rfl
 generalize hG:kL H3 A=G at sc hclG;have hSi:∀Hi,Same G (kL Hi A)→SqL K Hi s (ns.map V.int):=fun Hi sG=>((sc.trans sG).trans (QB _ _)).seq hS
 have hci:∀Hi,Same G (kL Hi A)→Hi cl=some (.lst (cs.map V.str)):=fun Hi sG=>(sG.trans (QB _ _)) _ _ hclG
 have sG3:Same G (kL H3 A):=fun a o e=>by rw [hG];exact e
 obtain ⟨d0,d1⟩:=ZM ns 93 (show (1:Int)≤4 by decide);refine (jA rfl (⟨s,ns,_,jA rfl (⟨(hSi _ sG3),h63,by decide,by decide,by decide,?_⟩)⟩));generalize zF ns 93 4=d at d0 d1 ⊢;refine (jA rfl (⟨by omega,by omega,c7 (n:=d.toNat) (fun i σ Hi=>∃(B:BkS) (c4 c5:Option V),σ=[some (.ref s),some (.ref x),some (.ref b),some (.ref cl),c4,c5,none]∧BkAt (jF cP cB cU) cR cN cO A Hi b x R L N B∧(∀z∈B.zs,z∈cs.take i)∧B.zs.length≤i∧B.es.length≤i∧Same G (kL Hi A)) (vK B none none (qW rfl hB3 (fun z hz=>by rw [hz0] at hz;cases hz) (by rw [hz0];exact aj _) (by rw [he0];exact aj _) sG3)) ?_ ?_⟩))
 ·rintro i σ Hi hi ⟨B,c4,c5,rfl,hq,hz,hzl,hel,sG⟩;rw [fh];have hic:i<cs.length:=by omega
  obtain ⟨nm,hnm⟩:∃nm,cs[i]?=some nm:=⟨_,aa hic⟩;have hnmV:(cs.map V.str)[i]?=some (.str nm):=by rw [ao,hnm];rfl
  refine (jA rfl (jA rfl (jA rfl (kZ (so (hci _ sG)) (kY hnmV) ((jA rfl (jA rfl (jA rfl ((vB s x ns i 4 ([]) R L N (FT rfl (hSi _ sG) h63 (by omega) (by decide) (by decide) hq.cnH hdr hl1 (fun t y H7 hyo hy1 hya s7 ht0 hwy=>?_))))))))))));obtain ⟨a,ha,haR⟩:=hya;refine (vB x t nm y a ([]) R L N (vU rfl (hq.cnH.same s7) hwy hyo ha haR (fun te H8 s8 he0 hco=>?_)));have s78:=s7.trans s8;have hin:nm∉B.zs:=fun h=>by
   obtain ⟨j,hj⟩:=cy.mp (hz nm h);have hji:j<i:=by have:=(ad.mp hj).1;rw [bj] at this;omega
   rw [List.getElem?_take_of_lt hji] at hj;have f1:=iL hcs.1 hj;rw [iL hcs.1 hnm] at f1;have:=aA f1;omega
  have hc0:kE R L N B (.come ⟨nm,QE R a,y.2.map fun p=>(zZ L p.1,p.2)⟩)=0:=P0 nR nL hyo ha haR (hcs.2 nm (au hnm)) hin (by omega);have hsm:ZE (.come ⟨nm,QE R a,y.2.map fun p=>(zZ L p.1,p.2)⟩):=⟨by show nm.length≤100;have:=(hcs.2 nm (au hnm)).2.2;omega,by show (y.2.map _).length≤8;rw [ae];exact hyo.le,by show 1≤(y.2.map _).length;rw [ae];exact hy1⟩;have htk:∀z∈cs.take i,z∈cs.take (i+1):=fun z h=>by rw [aL];exact gj _ h
  obtain ⟨db,fs,hb,hno⟩:=hq.ins;generalize hE:Ent.come ⟨nm,QE R a,y.2.map fun p=>(zZ L p.1,p.2)⟩=e at hc0 hsm;have hen:EnAt H8 te e:=by rw [← hE];exact hco
  have hze:QM B e=B.zs++[nm]:=by rw [← hE];rfl
  refine (jA rfl (⟨b,db,jA rfl (⟨(s78 _ _ hb),hno _ (by decide +kernel),jA rfl ((vB b te x A R L N B e (qW rfl (hq.same s78) hen hsm (fun _ H9 s9=>⟨rfl,jA rfl (?_)⟩) (fun h=>absurd hc0 h))))⟩)⟩));have s79:=s78.trans s9
  by_cases hw:vV R L N B e=""
  case neg=>exact j5 (fun z=>hw (V.str.inj z)) ⟨B,_,jA rfl (⟨hq.same s79,(fun z h=>htk z (hz z h)),by omega,by omega,sG.trans (y8 s79)⟩)⟩
  refine kK (bu V.str hw) (jA rfl (⟨b,db,jA rfl (⟨(s79 _ _ hb),hno _ (by decide +kernel),jA rfl ((vB b te x A R L N B e (vU rfl (hq.same s79) (hen.same s9) hsm (fun _ _=>⟨by omega,fun B' H10 hB' hz' he' hd'=>?_⟩) (fun _ h=>absurd hw h) (fun h=>absurd hc0 h))))⟩)⟩));refine ⟨B',_,jA rfl (⟨hB',fun z h=>?_,by rw [hz',hze,af];show B.zs.length+1≤i+1;omega,by omega,(sG.trans (y8 s79)).trans hd'⟩)⟩;rw [hz',hze] at h
  rcases aV.mp h with h|h
  ·exact htk z (hz z h)
  ·rw [aR.mp h,aL,hnm];exact aX _ (by simp)
 rintro σ Hi ⟨B,c4,c5,rfl,hq,hz,hzl,hel,sG⟩;have hzc:∀z∈B.zs,z∈cs:=fun z h=>ik (hz z h)
 have hel:B.es.length≤3:=by omega
 clear hz hzl;refine (jA rfl (jA rfl (jA rfl (jA rfl (⟨s,ns,_,jA rfl (⟨(hSi _ sG),h63,by decide,by decide,by decide,vB s b x _ A R L N B (vU rfl hq hr2 (fun h=>xz (hzc _ h)) xR xL (fun H4 s4=>(jA rfl (vA ?_))))⟩)⟩)))));have sG4:=sG.trans (y8 s4);have hq4:=hq.same s4;clear hq sG s4;refine (jA rfl (jA rfl (⟨s,jA rfl (⟨hSi _ sG4,fun p hp=>?_⟩)⟩)));rw [V0];have u5:=jK hp (.lst ((ns.take 12).map V.int));have hq5:=hq4.same u5;have sG5:=sG4.trans (y8 u5);have hpA:=hq4.out hp;have hp5:upd H4 p (.lst ((ns.take 12).map V.int)) p=some (.lst ((ns.take 12).map V.int)):=jE;generalize upd H4 p (.lst ((ns.take 12).map V.int))=H5 at u5 hq5 sG5 hp5 ⊢;have hpG:∀Hi,Same (kL H5 A) (kL Hi A)→Hi p=some (.lst ((ns.take 12).map V.int)):=fun Hi s=>(s.trans (QB _ _)) _ _ (by rw [v7 hpA];exact hp5)
 refine ⟨p,rfl,⟨_,so hp5⟩,lB (K:=K) (a:=p) (xs:=(ns.take 12).map V.int) (fun i σ Hi=>∃(B:BkS) (c5 c6:Option V),σ=[some (.ref s),some (.ref x),some (.ref b),some (.ref cl),c4,c5,c6]∧BkAt (jF cP cB cU) cR cN cO A Hi b x R L N B∧(∀z∈B.zs,z∈cs)∧B.es.length≤3+i∧Same (kL H5 A) (kL Hi A)) (vK B c5 none (vX rfl hq5 hzc (by omega) (Same.refl _))) (fun i σ Hi _ ⟨_,_,_,_,_,_,_,s⟩=>so (hpG Hi s)) ?_ ?_⟩
 ·rintro i v σ Hi hv ⟨B,c5,c6,rfl,hq,hz,hel,sH⟩;have sG:=sG5.trans sH;have hi:i<12:=by
   have:=(ad.mp hv).1;rw [ae,bj] at this;omega
  obtain ⟨c,rfl⟩:∃c:Int,v=.int c:=by
   rw [ao] at hv;obtain ⟨c,_,rfl⟩:=aW.mp hv;exact ⟨c,rfl⟩
  obtain ⟨db,fs,hb,hno⟩:=hq.ins;have z9:=hq.ok.z9;refine (jA rfl (jA rfl (⟨b,db,jA rfl (⟨hb,hno _ (by decide +kernel),kX b x A R L N B (kJ rfl hq (fun l6 H6 s6 hl60 hl6=>?_))⟩)⟩)));obtain ⟨ww,pt,g1,g2,g3⟩:=(hq.same s6).stH;refine (jA rfl (⟨b,db,jA rfl (⟨(s6 _ _ hb),hno _ (by decide +kernel),kX b x A R L N B (kJ rfl (hq.same s6) (jI (SqT.of g1) rfl ((jA rfl (jA rfl (⟨s,ns,rfl,s6.seq (hSi _ sG),h63,fun u hv0 hv1=>?_⟩))))))⟩)⟩));refine (vB x l6 B.zs B.d c u R L N (WQ rfl ((hq.same s6).cnH) hdr hnn (by omega) hl1 hq.ok.d0 hv0 hv1 hl6 (by omega) (fun te e H8 s8 hen hsm hcode hze=>?_)));have hc0:=hcode B rfl rfl;have hze:=hze B;have s78:=s6.trans s8;refine ⟨fun σ Hj=>∃(B':BkS),σ=[some (.ref s),some (.ref x),some (.ref b),some (.ref cl),c4,some (.ref te),some (.int c)]∧BkAt (jF cP cB cU) cR cN cO A Hj b x R L N B'∧B'.zs=B.zs∧B'.es.length≤3+i+1∧Same (kL H5 A) (kL Hj A),?_,?_⟩
  ·refine (jA rfl (⟨b,db,jA rfl (⟨(s78 _ _ hb),hno _ (by decide +kernel),jA rfl ((vB b te x A R L N B e (qW rfl (hq.same s78) hen hsm (fun _ H9 s9=>⟨rfl,jA rfl (?_)⟩) (fun h=>absurd hc0 h))))⟩)⟩));have s79:=s78.trans s9
   by_cases hw:vV R L N B e=""
   case neg=>exact j5 (fun z=>hw (V.str.inj z)) ⟨B,rfl,hq.same s79,rfl,by omega,sH.trans (y8 s79)⟩
   exact kK (bu V.str hw) (jA rfl (⟨b,db,jA rfl (⟨(s79 _ _ hb),hno _ (by decide +kernel),jA rfl ((vB b te x A R L N B e (vU rfl (hq.same s79) (hen.same s9) hsm (fun _ _=>⟨by omega,fun B' H10 hB' hz' he' hd'=>⟨B',rfl,hB',hz'.trans hze,by omega,(sH.trans (y8 s79)).trans hd'⟩⟩) (fun _ h=>absurd hw h) (fun h=>absurd hc0 h))))⟩)⟩))
  rintro σ Hj ⟨B',rfl,hq',hz',he',sH'⟩;have hz2:∀z∈B'.zs,z∈cs:=fun z h=>hz z (by rw [← hz'];exact h)
  refine (jA rfl (jA rfl (jA rfl (jA rfl ((vB s b x c A R L N B' (vU rfl hq' hr2 (fun h=>xz (hz2 _ h)) xR xL (fun H9 s9=>(jA rfl (vA ?_))))))))));exact ⟨B',_,jA rfl (⟨hq'.same s9,hz2,by omega,sH'.trans (y8 s9)⟩)⟩
 rintro σ Hf _;exact q _
end
theorem all_mk {l:W.OpenLaw} {w:World} {h:Heap} {mg:Str→Option Value} {fa f8 f9 f10 f11 f15 f17 f101:Addr} {cP cB cU:Addr} {dn0:Nat} {tkS:Tok} {eC eS eB eT eM eU eL eW eN eD:Addr} {cd_eU:ClassData} {cd_eW:ClassData} {cd_eN:ClassData} {cd_eD:ClassData} {tkH:Tok} {cO:Addr} {cT:Tok} {cW:Tok} {cV:Tok} {aU aD:Addr} {oU oD:Obj} {nU nD:Nat} {tu0 td0 tu1 td1 tu2 td2 tu3 td3 tu4 td4 tu5 td5 tu6 td6:Tok} (X:K.In h) (G:h.Ns mainGlobals mg) (hfa:mg "law"=some (.ref fa))
 {od17 an17 od101 an101:Option Addr} {sl17 sl101:Array (Option Value)} {oc17 kV17 dc17 pm17 cd17 ct17 oc101 kV101 dc101 pm101 cd101 ct101:Value} {T17:Addr} {oT17:Obj}
  (xbM:qC K "PlainLock" (some (.ref cP)))
  (xbN:qC K "BasinLock" (some (.ref cB)))
  (xbO:qC K "PumpLock" (some (.ref cU)))
  (xbP:qC K "Reach" (some (.ref cR)))
  (xbQ:qC K "Canal" (some (.ref cN)))
  (vc:qC K "CanalError" (some (.ref eC)))
  (xad:qC K "Short" (some (.ref eS)))
  (ut:qC K "BadRow" (some (.ref eB)))
  (xae:qC K "Twice" (some (.ref eT)))
  (wr:qC K "TooMany" (some (.ref eM)))
  (wu:qC K "Unknown" (some (.ref eU)))
  (vm:qC K "NotLinked" (some (.ref eL)))
  (uu:qC K "NotNow" (some (.ref eW)))
  (vn:qC K "BadNumber" (some (.ref eN)))
  (uv:qC K "TooDry" (some (.ref eD)))
  (xbR:qC K "Book" (some (.ref cO)))
  (p0:kA K "poured_all" pR)
  (p1:kA K "over" pL)
  (p2:kA K "last_first" pG)
  (p3:kA K "spills" pZ)
  (p4:kA K "spill_pours" iA)
  (p5:kA K "settled" pX)
  (p6:kA K "with_spills" rJ)
  (p7:kA K "parts_not_nought" gZ)
  (a8:kN K cP "__init__" (some (.ref f8)))
  (i8:W.isFn K (.ref f8)=true)
  (ac8:W.findCls K (.ref cP) (.type "type") "__init__"=some (.val (.ref f8)))
  (p8:gK K "__init__" "PlainLock.__init__" oH f8)
  (a9:kN K cB "__init__" (some (.ref f9)))
  (i9:W.isFn K (.ref f9)=true)
  (p9:gK K "__init__" "BasinLock.__init__" nE f9)
  (a10:kN K cU "__init__" (some (.ref f10)))
  (i10:W.isFn K (.ref f10)=true)
  (p10:gK K "__init__" "PumpLock.__init__" oK f10)
  (a11:kN K cR "__init__" (some (.ref f11)))
  (i11:W.isFn K (.ref f11)=true)
  (p11:gK K "__init__" "Reach.__init__" oN f11)
  (p12:vH K cP "fill_parts" "PlainLock.fill_parts" oI)
  (p13:vH K cB "fill_parts" "BasinLock.fill_parts" nG)
  (p14:vH K cU "fill_parts" "PumpLock.fill_parts" oM)
  (a15:kN K cP "let_parts" (some (.ref f15)))
  (a15_U:kN K cU "let_parts" (some (.ref f15)))
  (i15:W.isFn K (.ref f15)=true)
  (p15:gK K "let_parts" "PlainLock.let_parts" oJ f15)
  (p16:vH K cB "let_parts" "BasinLock.let_parts" nH)
  (a17:kN K cN "__init__" (some (.ref f17)))
  (i17:W.isFn K (.ref f17)=true)
  (l17:K.lookup f17=some ⟨oc17,od17,.func (W.fnOf "__init__" "Canal.__init__" (vI bB) (qN bB) (j8 bB) (.ref T17) kV17 dc17 pm17 an17 cd17 ct17),sl17⟩)
  (c17:W.codeIn K cd17 "Canal.__init__"=true)
  (k17:W.keepIn K (.ref f17)=true)
  (lT17:K.lookup T17=some oT17)
  (dT17:oT17.data=.seq ([.none]:List Value).toArray dn0)
  (p18:vH K cN "sea" "Canal.sea" oF)
  (p19:vH K cN "sky" "Canal.sky" oG)
  (p20:vH K cN "many" "Canal.many" oB)
  (p21:vH K cN "chamber" "Canal.chamber" nY)
  (p22:vH K cN "basin" "Canal.basin" nX)
  (p23:vH K cN "weirs" "Canal.weirs" gO)
  (p24:vH K cN "full" "Canal.full" nZ)
  (p25:vH K cN "start" "Canal.start" gN)
  (p26:kA K "filling" gT)
  (p27:kA K "letting" gW)
  (p28:kA K "given_by" gU)
  (p29:kA K "basin_after" gR)
  (p30:kA K "passage" pO)
  (p31:kA K "step_ends" rB)
  (p32:kA K "linked" pI)
  (p33:kA K "steps_to_do" rC)
  (p34:kA K "reach_of" pT)
  (p35:kA K "lying" gX)
  (p36:kA K "begun" o7)
  (p37:kA K "night_pours" cQ)
  (p38:kA K "wet_enough" iC)
  (p39:kA K "has_no_berth" pD)
  (p40:kA K "next_step" pJ)
  (p41:kA K "one_step_on" gY)
  (p42:kA K "counted_on" o9)
  (p43:kA K "by_number" gS)
  (p44:kA K "pass_pours" pM)
  (p45:kA K "let_pours" pH)
  (p46:kA K "is_below_least" pE)
  (p47:kA K "falls_short" pC)
  (p48:kA K "why_no_pass" rG)
  (p49:kA K "why_not" rH)
  (p50:kA K "pours" pS)
  (p51:kA K "place_called" pQ)
  (p52:vH K cN "reach_at" "Canal.reach_at" oE)
  (p53:vH K cN "lock_at" "Canal.lock_at" oA)
  (p54:kA K "way_told" iB)
  (p55:vH K cO "canal" "Book.canal" nK)
  (p56:vH K cO "state" "Book.state" nV)
  (p57:vH K cO "names" "Book.names" nS)
  (p58:vH K cO "ways" "Book.ways" nW)
  (p59:vH K cO "ledger" "Book.ledger" nQ)
  (p60:vH K cO "entries" "Book.entries" nO)
  (p61:vH K cO "gatework" "Book.gatework" gM)
  (p62:vH K cO "__init__" "Book.__init__" nI)
  (p63:kA K "written_with" iD)
  (p64:kA K "is_name" pF)
  (p65:kA K "boat_called" o8)
  (p66:kA K "number_named" pK)
  (p67:kA K "refuse_wrong_come" pV)
  (p68:kA K "refuse_wrong_night" pW)
  (p69:kA K "refuse_wrong" pU)
  (p70:kA K "deed_of" pA)
  (p71:kA K "takes_too_much" rD)
  (p72:kA K "why_no_entry" rF)
  (p73:kA K "single_pour" pY)
  (p74:kA K "entry_pours" pB)
  (p75:kA K "passing" pP)
  (p76:kA K "pass_worked" pN)
  (p77:kA K "ways_behind" rE)
  (p78:kA K "state_behind" rA)
  (p79:kA K "words_worked" rK)
  (p80:vH K cO "fault" "Book.fault" nP)
  (p81:vH K cO "behind" "Book.behind" nJ)
  (p82:vH K cO "do" "Book.do" nM)
  (p83:kA K "_law_draw" oQ)
  (p84:kA K "_law_unit" o3)
  (p85:kA K "_law_names" oV)
  (p86:kA K "_law_reach" oW)
  (p87:kA K "_law_lock" oS)
  (p88:kA K "_law_weather" o5)
  (p89:kA K "_law_canal" cM)
  (p90:kA K "_law_turns" o0)
  (p91:kA K "_law_way" o4)
  (p92:kA K "_law_come" gP)
  (p93:kA K "_law_weather_of" o6)
  (p94:kA K "_law_entry" oR)
  (p95:kA K "_law_refusal" oX)
  (p96:kA K "_law_asked" oP)
  (p97:kA K "_law_stand" oZ)
  (p98:kA K "_law_refuses" oY)
  (p99:kA K "_law_dry_weather" gQ)
  (p100:kA K "_law_all_refused" oO)
  (a101:qC K "law" (some (.ref f101)))
  (l101:K.lookup f101=some ⟨oc101,od101,.func (W.fnOf "law" "law" (vI QP) (qN QP) (j8 QP) .none kV101 dc101 pm101 an101 cd101 ct101),sl101⟩)
  (c101:W.codeIn K cd101 "law"=true)
  (k101:W.keepIn K (.ref f101)=true)
  (xu:qC K "list" none)
  (zg:qC K "tuple" none)
  (xaE:qC K "max" none)
  (xv:qC K "range" none)
  (xl:qC K "len" none)
  (jm:qC K "sum" none)
  (jn:qC K "zip" none)
  (xp:qC K "enumerate" none)
  (jo:qC K "min" none)
  (jp:qC K "all" none)
  (xaF:qC K "int" none)
  (xj:qC K "isinstance" none)
  (zc:qC K "ValueError" none)
  (xbS:W.plainGet K cP Str.empty=true)
  (xbt:W.hasDictIn K cP=true)
  (xbT:W.plainOver K cP=true)
  (xbU:kN K cP "__setattr__" (some (.builtin "object.__setattr__")))
  (xbV:W.makesIn K cP=true)
  (xbW:W.keepIn K (.ref cP)=true)
  (xaf:kN K cP "name" none)
  (xag:kN K cP "high" none)
  (xaV:kN K cP "low" none)
  (xah:kN K cP "room" none)
  (xbX:W.plainGet K cB Str.empty=true)
  (xbu:W.hasDictIn K cB=true)
  (xbY:W.plainOver K cB=true)
  (xbZ:kN K cB "__setattr__" (some (.builtin "object.__setattr__")))
  (xb0:W.makesIn K cB=true)
  (xb1:W.keepIn K (.ref cB)=true)
  (xai:kN K cB "name" none)
  (xaj:kN K cB "high" none)
  (xaW:kN K cB "low" none)
  (xak:kN K cB "room" none)
  (xal:kN K cB "side" none)
  (xb2:W.plainGet K cU Str.empty=true)
  (xbv:W.hasDictIn K cU=true)
  (xb3:W.plainOver K cU=true)
  (xb4:kN K cU "__setattr__" (some (.builtin "object.__setattr__")))
  (xb5:W.makesIn K cU=true)
  (xb6:W.keepIn K (.ref cU)=true)
  (xam:kN K cU "name" none)
  (xan:kN K cU "high" none)
  (xaX:kN K cU "low" none)
  (xao:kN K cU "room" none)
  (xap:kN K cU "lift" none)
  (g1:W.specialIn K (.ref cP) "__getattribute__"=some (some (.builtin "type.__getattribute__")))
  (g2:W.readsIn K cP (.type "type")=true)
  (xb7:W.plainGet K cR Str.empty=true)
  (xbw:W.hasDictIn K cR=true)
  (xb8:W.plainOver K cR=true)
  (xb9:kN K cR "__setattr__" (some (.builtin "object.__setattr__")))
  (xca:W.makesIn K cR=true)
  (xcb:W.keepIn K (.ref cR)=true)
  (zo:kN K cR "name" none)
  (zm:kN K cR "least" none)
  (zp:kN K cR "crest" none)
  (zi:kN K cR "berths" none)
  (zq:kN K cR "water" none)
  (zh:kN K cR "target" none)
  (xcc:W.plainGet K cN Str.empty=true)
  (xbx:W.hasDictIn K cN=true)
  (xcd:W.plainOver K cN=true)
  (xce:kN K cN "__setattr__" (some (.builtin "object.__setattr__")))
  (xcf:W.makesIn K cN=true)
  (xcg:W.keepIn K (.ref cN)=true)
  (xf:kN K cN "reaches" none)
  (xh:kN K cN "locks" none)
  (xm:kN K cN "nights" none)
  (gSEA:qC K "SEA" (some (.int (-1) tkS)))
  (uw:W.excIn K eB [.type "ValueError",.type "Exception",.type "BaseException",.type "object"] "ValueError.__new__"=true)
  (xaq:W.excIn K eT [.type "ValueError",.type "Exception",.type "BaseException",.type "object"] "ValueError.__new__"=true)
  (wx:W.excIn K eM [.type "ValueError",.type "Exception",.type "BaseException",.type "object"] "ValueError.__new__"=true)
  (wz:W.excIn K eU [.type "ValueError",.type "Exception",.type "BaseException",.type "object"] "ValueError.__new__"=true)
  (vo:W.excIn K eL [.type "ValueError",.type "Exception",.type "BaseException",.type "object"] "ValueError.__new__"=true)
  (ux:W.excIn K eW [.type "ValueError",.type "Exception",.type "BaseException",.type "object"] "ValueError.__new__"=true)
  (vp:W.excIn K eN [.type "ValueError",.type "Exception",.type "BaseException",.type "object"] "ValueError.__new__"=true)
  (uy:W.excIn K eD [.type "ValueError",.type "Exception",.type "BaseException",.type "object"] "ValueError.__new__"=true)
  (eg_eU:kN K eU "__getattribute__" (some (.builtin "BaseException.__getattribute__")))
  (en_eU:kN K eU "__getattr__" none)
  (ec_eU:kN K eU "__class__" (some (.builtin "object.__class__")))
  (eo_eU:W.mroIn K eU (.type "object")=some true)
  (eb_eU:W.subIn K (.ref eU) (.type "BaseException")=some true)
  (cX_eU:W.clsIn K eU=some cd_eU)
  (exmX_eU:W.exmOne K (.ref eU) (.ref eC)=some true)
  (kX_eU_0:W.kitOne K (.ref eU) (.type "ValueError")=some true)
  (kX_eU_1:W.kitOne K (.ref eU) (.ref eU)=some true)
  (kX_eU_2:W.kitOne K (.ref eU) (.ref eW)=some false)
  (kX_eU_3:W.kitOne K (.ref eU) (.ref eN)=some false)
  (kX_eU_4:W.kitOne K (.ref eU) (.ref eD)=some false)
  (kY_eU_0:W.kitAny K (.ref eU) [.ref eT,.ref eB,.ref eS]=some false)
  (eg_eW:kN K eW "__getattribute__" (some (.builtin "BaseException.__getattribute__")))
  (en_eW:kN K eW "__getattr__" none)
  (ec_eW:kN K eW "__class__" (some (.builtin "object.__class__")))
  (eo_eW:W.mroIn K eW (.type "object")=some true)
  (eb_eW:W.subIn K (.ref eW) (.type "BaseException")=some true)
  (cX_eW:W.clsIn K eW=some cd_eW)
  (exmX_eW:W.exmOne K (.ref eW) (.ref eC)=some true)
  (kX_eW_0:W.kitOne K (.ref eW) (.type "ValueError")=some true)
  (kX_eW_1:W.kitOne K (.ref eW) (.ref eU)=some false)
  (kX_eW_2:W.kitOne K (.ref eW) (.ref eW)=some true)
  (kX_eW_3:W.kitOne K (.ref eW) (.ref eN)=some false)
  (kX_eW_4:W.kitOne K (.ref eW) (.ref eD)=some false)
  (kY_eW_0:W.kitAny K (.ref eW) [.ref eT,.ref eB,.ref eS]=some false)
  (eg_eN:kN K eN "__getattribute__" (some (.builtin "BaseException.__getattribute__")))
  (en_eN:kN K eN "__getattr__" none)
  (ec_eN:kN K eN "__class__" (some (.builtin "object.__class__")))
  (eo_eN:W.mroIn K eN (.type "object")=some true)
  (eb_eN:W.subIn K (.ref eN) (.type "BaseException")=some true)
  (cX_eN:W.clsIn K eN=some cd_eN)
  (exmX_eN:W.exmOne K (.ref eN) (.ref eC)=some true)
  (kX_eN_0:W.kitOne K (.ref eN) (.type "ValueError")=some true)
  (kX_eN_1:W.kitOne K (.ref eN) (.ref eU)=some false)
  (kX_eN_2:W.kitOne K (.ref eN) (.ref eW)=some false)
  (kX_eN_3:W.kitOne K (.ref eN) (.ref eN)=some true)
  (kX_eN_4:W.kitOne K (.ref eN) (.ref eD)=some false)
  (kY_eN_0:W.kitAny K (.ref eN) [.ref eT,.ref eB,.ref eS]=some false)
  (eg_eD:kN K eD "__getattribute__" (some (.builtin "BaseException.__getattribute__")))
  (en_eD:kN K eD "__getattr__" none)
  (ec_eD:kN K eD "__class__" (some (.builtin "object.__class__")))
  (eo_eD:W.mroIn K eD (.type "object")=some true)
  (eb_eD:W.subIn K (.ref eD) (.type "BaseException")=some true)
  (cX_eD:W.clsIn K eD=some cd_eD)
  (exmX_eD:W.exmOne K (.ref eD) (.ref eC)=some true)
  (kX_eD_0:W.kitOne K (.ref eD) (.type "ValueError")=some true)
  (kX_eD_1:W.kitOne K (.ref eD) (.ref eU)=some false)
  (kX_eD_2:W.kitOne K (.ref eD) (.ref eW)=some false)
  (kX_eD_3:W.kitOne K (.ref eD) (.ref eN)=some false)
  (kX_eD_4:W.kitOne K (.ref eD) (.ref eD)=some true)
  (kY_eD_0:W.kitAny K (.ref eD) [.ref eT,.ref eB,.ref eS]=some false)
  (gHOME:qC K "HOME" (some (.int (-1) tkH)))
  (xch:W.plainGet K cO Str.empty=true)
  (xby:W.hasDictIn K cO=true)
  (xci:W.plainOver K cO=true)
  (xcj:kN K cO "__setattr__" (some (.builtin "object.__setattr__")))
  (xck:W.makesIn K cO=true)
  (xcl:W.keepIn K (.ref cO)=true)
  (nO_kept_canal:kN K cO "kept_canal" none)
  (nO_kept_names:kN K cO "kept_names" none)
  (nO_kept_ways:kN K cO "kept_ways" none)
  (nO_kept_state:kN K cO "kept_state" none)
  (nO_kept_pours:kN K cO "kept_pours" none)
  (nO_kept_words:kN K cO "kept_words" none)
  (nO_kept_entries:kN K cO "kept_entries" none)
  (gLETTERS:qC K "LETTERS" (some (.str lettersS cT)))
  (gMOST_SIGNS:qC K "MOST_SIGNS" (some (.int 12 cW)))
  (gMOST_BOATS:qC K "MOST_BOATS" (some (.int 9 cV)))
  (agU:qC K "UP" (some (.ref aU)))
  (agD:qC K "DOWN" (some (.ref aD)))
  (lU:K.lookup aU=some oU)
  (lD:K.lookup aD=some oD)
  (cU_:oU.cls=.type "tuple")
  (cD_:oD.cls=.type "tuple")
  (dU:oU.data=.seq ([.str "open low" tu0,.str "in low" tu1,.str "shut low" tu2,.str "fill" tu3,.str "open high" tu4,.str "out high" tu5,.str "shut high" tu6]:List Value).toArray nU)
  (dD:oD.data=.seq ([.str "open high" td0,.str "in high" td1,.str "shut high" td2,.str "let" td3,.str "open low" td4,.str "out low" td5,.str "shut low" td6]:List Value).toArray nD) :
  ∃fd:FuncData,(∀(s:Shared) (v:Value),BindsTo s fd ⟨[v],[]⟩ [("script",v)])∧∀base:Heap,K.In base→base.Ns mainGlobals mg→FnOk l.prog w K mg base jQ 17 fa fd ["script"] (bT K):=by
 have e:=hfa.symm.trans (aG X G a101);cases e;obtain ⟨_,_,a0,F0⟩:=p0;obtain ⟨_,_,a1,F1⟩:=p1;obtain ⟨_,_,a2,F2⟩:=p2;obtain ⟨_,_,a3,F3⟩:=p3;obtain ⟨_,_,a4,F4⟩:=p4;obtain ⟨_,_,a5,F5⟩:=p5;obtain ⟨_,_,a6,F6⟩:=p6;obtain ⟨_,_,a7,F7⟩:=p7;obtain ⟨_,F8⟩:=p8;have k8:=F8.kp;have b8:=F8.binds (ps:=["self","name","high","low","room"]) fun _ _ _ _ _ _=>wW fun _ _ _ _ _=>rfl
 obtain ⟨_,F9⟩:=p9;have k9:=F9.kp;have b9:=F9.binds (ps:=["self","name","high","low","room","side"]) fun _ _ _ _ _ _=>wV fun _ _ _ _ _ _=>rfl
 obtain ⟨_,F10⟩:=p10;have k10:=F10.kp;have b10:=F10.binds (ps:=["self","name","high","low","room","lift"]) fun _ _ _ _ _ _=>wV fun _ _ _ _ _ _=>rfl
 obtain ⟨_,F11⟩:=p11;have k11:=F11.kp;have b11:=F11.binds (ps:=["self","name","least","crest","berths","water","target"]) fun _ _ _ _ _ _=>WW fun _ _ _ _ _ _ _=>rfl
 obtain ⟨_,_,a12,i12,F12⟩:=p12;obtain ⟨_,_,a13,i13,F13⟩:=p13;obtain ⟨_,_,a14,i14,F14⟩:=p14;obtain ⟨_,F15⟩:=p15;have k15:=F15.kp;have b15:=F15.binds (ps:=["self","basin"]) fun _ _ _ _ _ _=>us2 fun _ _=>rfl
 obtain ⟨_,_,a16,i16,F16⟩:=p16;have F17:=TU (st:=bB) (ds:=[.none]) (n:=dn0) l17 c17 k17 lT17 (by first|exact dT17|rfl);have b17:Binds K _ ["self","reaches","locks","nights"] []:=F17.binds [] 4 rfl fun _ _ _ _ _ _ _=>mU fun _ _ _ _=>⟨_,rfl,rfl⟩
 have b17_1:Binds K _ ["self","reaches","locks","nights"] [.none]:=F17.binds [.none] 3 rfl fun _ _ _ _ _ _ _=>gB fun _ _ _=>⟨_,rfl,rfl⟩
 obtain ⟨_,_,a18,i18,F18⟩:=p18;obtain ⟨_,_,a19,i19,F19⟩:=p19;obtain ⟨_,_,a20,i20,F20⟩:=p20;obtain ⟨_,_,a21,i21,F21⟩:=p21;obtain ⟨_,_,a22,i22,F22⟩:=p22;obtain ⟨_,_,a23,i23,F23⟩:=p23;obtain ⟨_,_,a24,i24,F24⟩:=p24;obtain ⟨_,_,a25,i25,F25⟩:=p25;obtain ⟨_,_,a26,F26⟩:=p26;obtain ⟨_,_,a27,F27⟩:=p27;obtain ⟨_,_,a28,F28⟩:=p28;obtain ⟨_,_,a29,F29⟩:=p29;obtain ⟨_,_,a30,F30⟩:=p30;obtain ⟨_,_,a31,F31⟩:=p31;obtain ⟨_,_,a32,F32⟩:=p32;obtain ⟨_,_,a33,F33⟩:=p33;obtain ⟨_,_,a34,F34⟩:=p34;obtain ⟨_,_,a35,F35⟩:=p35;obtain ⟨_,_,a36,F36⟩:=p36;obtain ⟨_,_,a37,F37⟩:=p37;obtain ⟨_,_,a38,F38⟩:=p38;obtain ⟨_,_,a39,F39⟩:=p39;obtain ⟨_,_,a40,F40⟩:=p40;obtain ⟨_,_,a41,F41⟩:=p41;obtain ⟨_,_,a42,F42⟩:=p42;obtain ⟨_,_,a43,F43⟩:=p43;obtain ⟨_,_,a44,F44⟩:=p44;obtain ⟨_,_,a45,F45⟩:=p45;obtain ⟨_,_,a46,F46⟩:=p46;obtain ⟨_,_,a47,F47⟩:=p47;obtain ⟨_,_,a48,F48⟩:=p48;obtain ⟨_,_,a49,F49⟩:=p49;obtain ⟨_,_,a50,F50⟩:=p50;obtain ⟨_,_,a51,F51⟩:=p51;obtain ⟨_,_,a52,i52,F52⟩:=p52;have k52:=F52.kp;have b52:=F52.binds (ps:=["self","name"]) fun _ _ _ _ _ _=>us2 fun _ _=>rfl
 obtain ⟨_,_,a53,i53,F53⟩:=p53;have k53:=F53.kp;have b53:=F53.binds (ps:=["self","name"]) fun _ _ _ _ _ _=>us2 fun _ _=>rfl
 obtain ⟨_,_,a54,F54⟩:=p54;obtain ⟨_,_,a55,i55,F55⟩:=p55;obtain ⟨_,_,a56,i56,F56⟩:=p56;obtain ⟨_,_,a57,i57,F57⟩:=p57;obtain ⟨_,_,a58,i58,F58⟩:=p58;obtain ⟨_,_,a59,i59,F59⟩:=p59;obtain ⟨_,_,a60,i60,F60⟩:=p60;obtain ⟨_,_,a61,i61,F61⟩:=p61;obtain ⟨_,_,a62,i62,F62⟩:=p62;have b62:=F62.binds (ps:=["self","canal"]) fun _ _ _ _ _ _=>us2 fun _ _=>rfl
 obtain ⟨_,_,a63,F63⟩:=p63;obtain ⟨_,_,a64,F64⟩:=p64;obtain ⟨_,_,a65,F65⟩:=p65;obtain ⟨_,_,a66,F66⟩:=p66;obtain ⟨_,_,a67,F67⟩:=p67;obtain ⟨_,_,a68,F68⟩:=p68;obtain ⟨_,_,a69,F69⟩:=p69;obtain ⟨_,_,a70,F70⟩:=p70;obtain ⟨_,_,a71,F71⟩:=p71;obtain ⟨_,_,a72,F72⟩:=p72;obtain ⟨_,_,a73,F73⟩:=p73;obtain ⟨_,_,a74,F74⟩:=p74;obtain ⟨_,_,a75,F75⟩:=p75;obtain ⟨_,_,a76,F76⟩:=p76;obtain ⟨_,_,a77,F77⟩:=p77;obtain ⟨_,_,a78,F78⟩:=p78;obtain ⟨_,_,a79,F79⟩:=p79;obtain ⟨_,_,a80,i80,F80⟩:=p80;have k80:=F80.kp;have b80:=F80.binds (ps:=["self","entry"]) fun _ _ _ _ _ _=>us2 fun _ _=>rfl
 obtain ⟨_,_,a81,i81,F81⟩:=p81;have k81:=F81.kp;have b81:=F81.binds (ps:=["self","entry"]) fun _ _ _ _ _ _=>us2 fun _ _=>rfl
 obtain ⟨_,_,a82,i82,F82⟩:=p82;have k82:=F82.kp;have b82:=F82.binds (ps:=["self","entry"]) fun _ _ _ _ _ _=>us2 fun _ _=>rfl
 obtain ⟨_,_,a83,F83⟩:=p83;obtain ⟨_,_,a84,F84⟩:=p84;obtain ⟨_,_,a85,F85⟩:=p85;obtain ⟨_,_,a86,F86⟩:=p86;obtain ⟨_,_,a87,F87⟩:=p87;obtain ⟨_,_,a88,F88⟩:=p88;obtain ⟨_,_,a89,F89⟩:=p89;obtain ⟨_,_,a90,F90⟩:=p90;obtain ⟨_,_,a91,F91⟩:=p91;obtain ⟨_,_,a92,F92⟩:=p92;obtain ⟨_,_,a93,F93⟩:=p93;obtain ⟨_,_,a94,F94⟩:=p94;obtain ⟨_,_,a95,F95⟩:=p95;obtain ⟨_,_,a96,F96⟩:=p96;obtain ⟨_,_,a97,F97⟩:=p97;obtain ⟨_,_,a98,F98⟩:=p98;obtain ⟨_,_,a99,F99⟩:=p99;obtain ⟨_,_,a100,F100⟩:=p100;have F101:=gL (st:=QP) l101 c101 k101;have b101:=F101.binds (ps:=["script"]) fun _ _ _ _ _ _=>gC fun _=>rfl
 refine ⟨W.fnOf "law" "law" (vI QP) (qN QP) (j8 QP) .none kV101 dc101 pm101 an101 cd101 ct101,fun s v=>.of_eq rfl,fun base _ _=>?_⟩;have T:Txt l.prog w base K mg cP cB cU cR cN tkS eC eS eB eT eM eU eL eW eN eD tkH cO cT cW cV aU aD:={xu:=bb X G xu,zg:=bb X G zg,xaE:=bb X G xaE,xv:=bb X G xv,xl:=bb X G xl,jm:=bb X G jm,jn:=bb X G jn,xp:=bb X G xp,jo:=bb X G jo,jp:=bb X G jp,xaF:=bb X G xaF,xj:=bb X G xj,zc:=bb X G zc,cl:=fun kd=>match kd with|.plain=>⟨xbS,xbt,xbT,xbU⟩|.basin=>⟨xbX,xbu,xbY,xbZ⟩|.pump=>⟨xb2,xbv,xb3,xb4⟩,ul:=fun kd=>match kd with|.plain=>xaf|.basin=>xai|.pump=>xam,vt:=fun kd=>match kd with|.plain=>xag|.basin=>xaj|.pump=>xan,uz:=fun kd=>match kd with|.plain=>xaV|.basin=>xaW|.pump=>xaX,wm:=fun kd=>match kd with|.plain=>xah|.basin=>xak|.pump=>xao,xba:=xal,xaM:=xap,vw:=aG X G xbM,ja:=aG X G xbN,jq:=aG X G xbO,clR:=⟨xb7,xbw,xb8,xb9⟩,zo:=zo,zm:=zm,zp:=zp,zi:=zi,zq:=zq,zh:=zh,xbf:=aG X G xbP,clN:=⟨xcc,xbx,xcd,xce⟩,xf:=xf,xh:=xh,xm:=xm,xbg:=aG X G xbQ,xbJ:=aG X G gSEA,ua:=aG X G vc,xbh:=aG X G xad,jr:=aG X G ut,xaN:=aG X G xae,xaG:=aG X G wr,wf:=aG X G wu,jb:=aG X G vm,ud:=aG X G uu,vx:=aG X G vn,jt:=aG X G uv,xa1:=uw,xbi:=xaq,xaH:=wx,um:=wz,jc:=vo,ju:=ux,jd:=vp,xa2:=uy,at_Unknown:=⟨eg_eU,en_eU,ec_eU,eo_eU,eb_eU⟩,jv:=by rw [cX_eU];rfl,exm_Unknown:=exmX_eU,k_Unknown_ValueError:=kX_eU_0,k_Unknown_Unknown:=kX_eU_1,k_Unknown_NotNow:=kX_eU_2,k_Unknown_BadNumber:=kX_eU_3,k_Unknown_TooDry:=kX_eU_4,ka_Unknown_0:=kY_eU_0,at_NotNow:=⟨eg_eW,en_eW,ec_eW,eo_eW,eb_eW⟩,xaI:=by rw [cX_eW];rfl,exm_NotNow:=exmX_eW,k_NotNow_ValueError:=kX_eW_0,k_NotNow_Unknown:=kX_eW_1,k_NotNow_NotNow:=kX_eW_2,k_NotNow_BadNumber:=kX_eW_3,k_NotNow_TooDry:=kX_eW_4,ka_NotNow_0:=kY_eW_0,at_BadNumber:=⟨eg_eN,en_eN,ec_eN,eo_eN,eb_eN⟩,ue:=by rw [cX_eN];rfl,exm_BadNumber:=exmX_eN,k_BadNumber_ValueError:=kX_eN_0,k_BadNumber_Unknown:=kX_eN_1,k_BadNumber_NotNow:=kX_eN_2,k_BadNumber_BadNumber:=kX_eN_3,k_BadNumber_TooDry:=kX_eN_4,ka_BadNumber_0:=kY_eN_0,at_TooDry:=⟨eg_eD,en_eD,ec_eD,eo_eD,eb_eD⟩,xaJ:=by rw [cX_eD];rfl,exm_TooDry:=exmX_eD,k_TooDry_ValueError:=kX_eD_0,k_TooDry_Unknown:=kX_eD_1,k_TooDry_NotNow:=kX_eD_2,k_TooDry_BadNumber:=kX_eD_3,k_TooDry_TooDry:=kX_eD_4,ka_TooDry_0:=kY_eD_0,xaO:=aG X G gHOME,clO:=⟨xch,xby,xci,xcj⟩,nO_kept_canal:=nO_kept_canal,nO_kept_names:=nO_kept_names,nO_kept_ways:=nO_kept_ways,nO_kept_state:=nO_kept_state,nO_kept_pours:=nO_kept_pours,nO_kept_words:=nO_kept_words,nO_kept_entries:=nO_kept_entries,xbo:=aG X G xbR,xaK:=aG X G gLETTERS,uf:=aG X G gMOST_SIGNS,ug:=aG X G gMOST_BOATS,xcm:=aG X G agU,xbp:=aG X G agD,up:=fun H=>DE (its:=[.str "open low" tu0,.str "in low" tu1,.str "shut low" tu2,.str "fill" tu3,.str "open high" tu4,.str "out high" tu5,.str "shut high" tu6]) lU cU_ dU zz7 (.cons ⟨_,rfl⟩ (.cons ⟨_,rfl⟩ (.cons ⟨_,rfl⟩ (.cons ⟨_,rfl⟩ (.cons ⟨_,rfl⟩ (.cons ⟨_,rfl⟩ (.cons ⟨_,rfl⟩ .nil))))))),down:=fun H=>DE (its:=[.str "open high" td0,.str "in high" td1,.str "shut high" td2,.str "let" td3,.str "open low" td4,.str "out low" td5,.str "shut low" td6]) lD cD_ dD zz7 (.cons ⟨_,rfl⟩ (.cons ⟨_,rfl⟩ (.cons ⟨_,rfl⟩ (.cons ⟨_,rfl⟩ (.cons ⟨_,rfl⟩ (.cons ⟨_,rfl⟩ (.cons ⟨_,rfl⟩ .nil)))))))}
 have D0:=yQ X G a0 F0 (KS T F0);have D1:=y6 X G a1 F1 (KL T F1);have D2:=gE X G a2 F2 (IY T F2);have D3:=yQ X G a3 F3 (K4 T F3 D2 D1);have D4:=yQ X G a4 F4 (K3 T F4 D3 D2);have D5:=yQ X G a5 F5 (K1 T F5 D0 D4);have D6:=y6 X G a6 F6 (LG T F6 D4 D0);have D7:=gE X G a7 F7 (KM T F7);have G8:=HL T F8;have xaY:MkD l.prog w K mg base 1 "PlainLock" cP ["self","name","high","low","room"] (dG (jF cP cB cU)):=⟨T.vw,_,_,⟨xbV,a8,i8,xbW⟩,G8,b8⟩;have CM8:CmD l.prog w K mg base 1 "PlainLock" cP "__init__" ["self","name","high","low","room"] (dG (jF cP cB cU)):=⟨T.vw,_,_,⟨g1,g2,ac8,k8⟩,G8,b8⟩;have G9:=GP T F9 CM8;have xaZ:MkD l.prog w K mg base 2 "BasinLock" cB ["self","name","high","low","room","side"] (dF (jF cP cB cU) .basin):=⟨T.ja,_,_,⟨xb0,a9,i9,xb1⟩,G9,b9⟩;have G10:=HP T F10 CM8;have xa9:MkD l.prog w K mg base 2 "PumpLock" cU ["self","name","high","low","room","lift"] (dF (jF cP cB cU) .pump):=⟨T.jq,_,_,⟨xb5,a10,i10,xb6⟩,G10,b10⟩;have G11:=HR T F11;have xbz:MkD l.prog w K mg base 1 "Reach" cR ["self","name","least","crest","berths","water","target"] (sE cR):=⟨T.xbf,_,_,⟨xca,a11,i11,xcb⟩,G11,b11⟩;have G12:=HM T F12 D7;have jj:=eH (T.cl .plain) a12 i12 F12 G12;have G13:=GQ T F13 D7;have jk:=eH (T.cl .basin) a13 i13 F13 G13;have G14:=HQ T F14 D7;have jl:=eH (T.cl .pump) a14 i14 F14 G14;have vb:MeK l.prog w K mg base 2 (jF cP cB cU) "fill_parts" ["self","basin"] (JI (jF cP cB cU) ZZ):=⟨fun kd=>by cases kd;exact jj;exact jk;exact jl⟩;have G15:=HN T F15 D7;have xar:MeD l.prog w K mg base 2 cP "let_parts" ["self","basin"] (JI (jF cP cB cU) QJ .plain):=⟨T.cl .plain,_,_,⟨a15,i15,k15⟩,(G15.imp (sp':=JI (jF cP cB cU) QJ .plain) (fun vs H Q E ⟨x,n,h,l,room,v,b,e,a,q⟩=>⟨.plain,x,n,h,l,room,v,b,e,a,q⟩)),b15⟩;have xas:MeD l.prog w K mg base 2 cU "let_parts" ["self","basin"] (JI (jF cP cB cU) QJ .pump):=⟨T.cl .pump,_,_,⟨a15_U,i15,k15⟩,(G15.imp (sp':=JI (jF cP cB cU) QJ .pump) (fun vs H Q E ⟨x,n,h,l,room,v,b,e,a,q⟩=>⟨.pump,x,n,h,l,room,v,b,e,a,q⟩)),b15⟩;have G16:=GR T F16 D7;have xat:=eH (T.cl .basin) a16 i16 F16 G16;have vf:MeK l.prog w K mg base 2 (jF cP cB cU) "let_parts" ["self","basin"] (JI (jF cP cB cU) QJ):=⟨fun kd=>by cases kd;exact xar;exact xat;exact xas⟩;have G17:=G7 T F17;have xbA:MkD l.prog w K mg base 1 "Canal" cN ["self","reaches","locks","nights"] (sF (jF cP cB cU) cR cN):=⟨T.xbg,_,_,⟨xcf,a17,i17,xcg⟩,G17,b17⟩;have G18:=HH T F18;have xbB:=JP T.clN a18 i18 F18 G18;have G19:=HI T F19 xbB;have xbe:=JP T.clN a19 i19 F19 G19;have G20:=HF T F20 xbe;have xbH:=JP T.clN a20 i20 F20 G20;have G21:=HB T F21;have xau:=eH T.clN a21 i21 F21 G21;have G22:=HA T F22;have xav:=eH T.clN a22 i22 F22 G22;have G23:=HK T F23 xbB;have uk:=JP T.clN a23 i23 F23 G23;have G24:=HD T F24 xau;have xa0:=W6 T.clN a24 i24 F24 G24;have G25:=HJ T F25 xbH D5 uk;have xbC:=JP T.clN a25 i25 F25 G25;have D26:=yQ X G a26 F26 (IT T F26 vb);have D27:=yQ X G a27 F27 (KB T F27 vf);have D28:=yQ X G a28 F28 (IU T F28);have D29:=yQ X G a29 F29 (IL T F29 D28);have D30:=zT X G a30 F30 (KP T F30 D27 D26 D29);have D31:=yQ X G a31 F31 (K6 T F31)
 have GX32:=(KC T F32 D31);have DX32:=w9 X G a32 F32 GX32;have D32:=y6 X G a32 F32 (GX32.noX (sp':=sZ K (jF cP cB cU) cR cN) OC);have D33:=yQ X G a33 F33 (K7 T F33);have D34:=y6 X G a34 F34 (KW T F34 D33 D32);have D35:=zT X G a35 F35 (KD T F35 D34);have D36:=yQ X G a36 F36 (IM T F36 xbC);have D37:=y6 X G a37 F37 (KH T F37 xbe D6 uk);have D38:=yQ X G a38 F38 (LB T F38);have D39:=zT X G a39 F39 (IV T F39 D35);have D40:=yQ X G a40 F40 (KG T F40);have D41:=yQ X G a41 F41 (KK T F41);have D42:=y6 X G a42 F42 (IP T F42 D41);have D43:=y6 X G a43 F43 (IO T F43 xav xau);have D44:=zT X G a44 F44 (KN T F44 D40 xav D43 D30 xa0);have D45:=y6 X G a45 F45 (KA T F45 D43 D27 xav);have D46:=y6 X G a46 F46 (IW T F46);have D47:=y6 X G a47 F47 (IS T F47 D0 D46);have D48:=zT X G a48 F48 (LE T F48 D34 D39 D47 D44);have D49:=zT X G a49 F49 (LF T F49 D48 xa0);have GX50:=(KU T F50 D49 D44 D45 D6 uk);have DX50:=W8 X G a50 F50 GX50;have GX51:=(KR T F51);have DX51:=zS X G a51 F51 GX51;have G52:=HG T F52 DX51;have GX52:=G52;have MXN_reach_at:MeX l.prog w K mg base 2 cN "reach_at" ["self","name"] (QZ (jF cP cB cU) cR cN eU 0):=⟨T.clN,_,_,⟨a52,i52,k52⟩,GX52,b52⟩;have G53:=HE T F53 DX51;have GX53:=G53;have MXN_lock_at:MeX l.prog w K mg base 2 cN "lock_at" ["self","name"] (QZ (jF cP cB cU) cR cN eU 1):=⟨T.clN,_,_,⟨a53,i53,k53⟩,GX53,b53⟩;have GX54:=(K9 T F54 MXN_reach_at MXN_lock_at);have DX54:=zS X G a54 F54 GX54;have G55:=GU T F55;have MB_canal:=JP T.clO a55 i55 F55 G55;have G56:=G5 T F56;have MB_state:=JP T.clO a56 i56 F56 G56;have G57:=G0 T F57;have MB_names:=JP T.clO a57 i57 F57 G57;have G58:=G6 T F58;have MB_ways:=JP T.clO a58 i58 F58 G58;have G59:=GZ T F59;have MB_ledger:=JP T.clO a59 i59 F59 G59;have G60:=GW T F60;have MB_entries:=JP T.clO a60 i60 F60 G60;have G61:=GY T F61;have MB_gatework:=JP T.clO a61 i61 F61 G61;have G62:=GS T F62 D36;have xbI:MkD l.prog w K mg base 7 "Book" cO ["self","canal"] (sO (jF cP cB cU) cR cN cO):=⟨T.xbo,_,_,⟨xck,a62,i62,xcl⟩,G62,b62⟩;have D63:=yQ X G a63 F63 (LI T F63);have D64:=gE X G a64 F64 (IX T F64 D63);have GX65:=(IN T F65);have DX65:=zS X G a65 F65 GX65;have GX66:=(KJ T F66 DX65 MB_names MXN_lock_at MB_canal MXN_reach_at);have DX66:=zS X G a66 F66 GX66;have GX67:=(KZ T F67 D64 MB_names DX54 MB_canal DX32);have DX67:=zS X G a67 F67 GX67;have GX68:=(K0 T F68 MB_canal MB_state D38);have DX68:=zS X G a68 F68 GX68;have GX69:=(KY T F69 DX67 DX68 DX66);have DX69:=zS X G a69 F69 GX69;have GX70:=(IQ T F70 DX66);have DX70:=zS X G a70 F70 GX70;have GX71:=(K8 T F71 DX66 MB_state MB_canal);have DX71:=zS X G a71 F71 GX71;have GX72:=(LD T F72 MXN_reach_at MB_canal D39 MB_ways MB_state DX71 D49 DX70);have DX72:=zS X G a72 F72 GX72;have D73:=y6 X G a73 F73 (K2 T F73);have GX74:=(IR T F74 MB_canal D73 DX66 xbe D6 uk MB_state D37 DX50 MB_ways DX70);have DX74:=zS X G a74 F74 GX74;have D75:=yQ X G a75 F75 (KQ T F75);have D76:=zT X G a76 F76 (KO T F76 D40 D75 xa0);have GX77:=(LA T F77 MB_ways DX54 MB_canal);have DX77:=zS X G a77 F77 GX77;have GX78:=(K5 T F78 MB_state D0 DX74 D42 DX70)
 have DX78:=zS X G a78 F78 GX78;have GX79:=(LH T F79 D76 MB_canal MB_ways MB_state DX66);have DX79:=zS X G a79 F79 GX79;have G80:=GX T F80 DX69 DX72;have GX80:=G80;have MXB_fault:MeX l.prog w K mg base 10 cO "fault" ["self","entry"] (qL (jF cP cB cU) cR cN cO (fS eB eT eM eU eL eN eD)):=⟨T.clO,_,_,⟨a80,i80,k80⟩,GX80,b80⟩;have G81:=GT T F81 MXB_fault DX78 DX77;have GX81:=G81;have MXB_behind:MeX l.prog w K mg base 12 cO "behind" ["self","entry"] (qL (jF cP cB cU) cR cN cO (lJ eB eT eM eU eL eN eD eW)):=⟨T.clO,_,_,⟨a81,i81,k81⟩,GX81,b81⟩;have G82:=GV T F82 MXB_behind DX74 DX79;have GX82:=G82;have MXB_do:MeX l.prog w K mg base 13 cO "do" ["self","entry"] (mJ (jF cP cB cU) cR cN cO eB eT eM eU eL eN eD eW):=⟨T.clO,_,_,⟨a82,i82,k82⟩,GX82,b82⟩;have GX83:=(HX T F83);have DX83:=w9 X G a83 F83 GX83;have D83:=y6 X G a83 F83 (GX83.noX (sp':=bN K) R8);have D84:=gE X G a84 F84 (IH T F84);have GX85:=(IB T F85 DX83);have DX85:=w9 X G a85 F85 GX85;have D85:=y6 X G a85 F85 (GX85.noX (sp':=cZ K) O7);have D86:=zT X G a86 F86 (IC T F86 D83 xbz);have D87:=GC X G a87 F87 (IA T F87 D83 xaZ xa9 xaY);have D88:=zT X G a88 F88 (IJ T F88 D83);have D89:=zT X G a89 F89 (HV T F89 D84 D83 D85 D88 D86 xbA D87);have D90:=yQ X G a90 F90 (IG T F90);have D91:=zT X G a91 F91 (II T F91 D83 D90);have D92:=y6 X G a92 F92 (HW T F92);have D93:=y6 X G a93 F93 (IK T F93);have D94:=GC X G a94 F94 (HZ T F94 D93);have D95:=W9 X G a95 F95 (ID T F95);have D96:=y6 X G a96 F96 (HU T F96 MXB_fault MXB_behind MXB_do D95);have D97:=gE X G a97 F97 (IF T F97 MB_names MB_ways MB_state MB_ledger MB_gatework MB_entries);have D98:=zT X G a98 F98 (IE T F98 D96 D97);have D99:=zT X G a99 F99 (HY T F99);have D100:=zT X G a100 F100 (HS T F100 MB_state D97 D98 D99);have G101:=IZ T F101 D89 xbI DX85 DX83 D92 D91 MXB_fault MXB_do D100 D94 MB_names MB_state D84;have GX101:=G101;have DX101:=lQ GX101 (aG X G a101) k101 b101;have G101:=GX101.noX (sp':=bT K) TM;exact G101
theorem walk {l:W.OpenLaw} {q:Program} {loose:List Str} {XP:(Str→Option Value)→Heap→Prop} {YP:World→Heap→Prop} {d:DefRec} {K:Params→W.Frag} (hn:l.most=some 63) (hdf:d.params.defaults=[])
  (hY:∀(w:World) (h:Heap),YP w h→(K w.params).In h)
  (F:∀(w:World) (mg:Str→Option Value) (fa:Addr) (h:Heap),(K w.params).In h→h.Ns mainGlobals mg→mg d.name=some (.ref fa)→
   ∃fd:FuncData,(∀(s:Shared) (u:Value),BindsTo s fd ⟨[u],[]⟩ [("script",u)])∧∀base:Heap,(K w.params).In base→base.Ns mainGlobals mg→FnOk l.prog w (K w.params) mg base jQ 17 fa fd ["script"] (bT (K w.params))) :
  W.WalkO q loose XP YP l.row.toRowW d [] (fun f vs=>PySem.call f vs) :=
 L2.walk_of (n:=63) (k:=17) (x:="script") (CX:=fun _=>jQ) (sp:=fun w=>bT (K w.params)) hn (by decide) hdf ⟨rfl,by decide,by decide⟩ hY F (fun _ _ a ns hl _ hS=>⟨a,ns,rfl,hS,hl,fun _=>rfl⟩) fun _ _ _ _ _ z=>z
end My
/- These names are taken here so that the head below leaves out its twins of whole states (they are not needed,and make the compiled file larger than a hand-in may be). -/
namespace PySem.W.Fast
def tw16454425273728248309:Nat:=0
def tw12722306589140200170:Nat:=0
def tw3911636366272804073:Nat:=0
def tw3673022784015629592:Nat:=0
def tw6245850881201442735:Nat:=0
def tw7066174176463595811:Nat:=0
def tw9273518314102367946:Nat:=0
def tw13264894872468192799:Nat:=0
def tw7861484246922631974:Nat:=0
def tw9899975184763506831:Nat:=0
def tw2051586769898473799:Nat:=0
def tw17206179946805245775:Nat:=0
def tw14777630102747302416:Nat:=0
def tw8289029159655601859:Nat:=0
def tw7147327861421268403:Nat:=0
def tw1586810589437231873:Nat:=0
def tw14553991306114369723:Nat:=0
def tw5783146976367160323:Nat:=0
def tw817537066170496493:Nat:=0
def tw12220311055627815082:Nat:=0
def tw7603478958099847097:Nat:=0
def tw17289685982774368344:Nat:=0
def tw7135393755314571062:Nat:=0
def tw11959425271200503339:Nat:=0
def tw17127200934685607775:Nat:=0
def tw7005514046950609956:Nat:=0
def tw11842463479419009393:Nat:=0
def tw10244716982801379194:Nat:=0
def tw4788865681238288028:Nat:=0
def tw5049522381750156712:Nat:=0
def tw11838712104963485109:Nat:=0
def tw12952907686454673834:Nat:=0
def tw8922874579292917751:Nat:=0
def tw13569622673338516846:Nat:=0
def tw11813987027900165399:Nat:=0
def tw17788954051237348538:Nat:=0
def tw18186559938166805632:Nat:=0
def tw9995649737869378112:Nat:=0
def tw12990924607616439238:Nat:=0
def tw9528554835620783025:Nat:=0
def tw17496083250202559315:Nat:=0
def tw17268611476480129252:Nat:=0
def tw5812355112065186288:Nat:=0
def tw14472676762687494809:Nat:=0
def tw17120365559658858692:Nat:=0
def tw15977190167909244689:Nat:=0
def tw11584472548477876240:Nat:=0
def tw13503049798417647941:Nat:=0
def tw14717742385253261553:Nat:=0
def tw18267392498485139338:Nat:=0
def tw17980822831285824988:Nat:=0
def tw4255552425293614023:Nat:=0
def tw10824617660051748512:Nat:=0
def tw3080898643679599365:Nat:=0
def tw13628800087773339910:Nat:=0
def tw13427470791610553619:Nat:=0
def tw15205557524796335815:Nat:=0
def tw8907849480863087423:Nat:=0
def tw12927356245467076083:Nat:=0
def tw14696721300013351012:Nat:=0
def tw7141232697543502306:Nat:=0
def tw5232156313813489607:Nat:=0
def tw8453082184718512493:Nat:=0
def tw14470415496792885048:Nat:=0
def tw2681971373201134708:Nat:=0
def tw3143881941587470000:Nat:=0
def tw7983902941379050625:Nat:=0
def tw15035103017924478807:Nat:=0
def tw6651363519024310533:Nat:=0
def tw11413411758070019584:Nat:=0
def tw5745877699407828299:Nat:=0
def tw3604555864581813801:Nat:=0
def tw2555548316519726274:Nat:=0
def tw1022924825978796473:Nat:=0
def tw16705834462575153996:Nat:=0
def tw6203204853280276851:Nat:=0
def tw16415351946355903144:Nat:=0
def tw6398732222867957961:Nat:=0
def tw3058926758927044111:Nat:=0
def tw10226996364153313601:Nat:=0
def tw2029496871075382772:Nat:=0
def tw7863906088001558131:Nat:=0
def tw81142721367028088:Nat:=0
def tw17774999962513011385:Nat:=0
def tw12211978737594512625:Nat:=0
def tw14056092436751704842:Nat:=0
def tw7038677543182613110:Nat:=0
def tw15900729822995558416:Nat:=0
def tw6621594348647031164:Nat:=0
def tw11974533854556378830:Nat:=0
def tw18137923160075692700:Nat:=0
def tw16651980205320603534:Nat:=0
def tw14279380349660046523:Nat:=0
def tw8232865050972389141:Nat:=0
def tw14524292371616532350:Nat:=0
def tw7526206916645586522:Nat:=0
def tw9843183088452263512:Nat:=0
def tw10596651271195917702:Nat:=0
def tw15803369402946598192:Nat:=0
def tw17084459229698195858:Nat:=0
def tw11896165252866282121:Nat:=0
def tw10680609595037130022:Nat:=0
def tw6002216960928698079:Nat:=0
def tw6711697749547536794:Nat:=0
def tw1739683186966582688:Nat:=0
def tw18285739075093583837:Nat:=0
def tw642415955964202286:Nat:=0
def tw8714664443260898158:Nat:=0
def tw12236264782267332365:Nat:=0
def tw6581556330148241762:Nat:=0
def tw7097118027431533847:Nat:=0
def tw2914693986295199605:Nat:=0
def tw6289157743004571269:Nat:=0
def tw7477092006279889211:Nat:=0
def tw15176490439707490435:Nat:=0
def tw7876838579698777980:Nat:=0
def tw1659565166934684094:Nat:=0
def tw4248936305557752722:Nat:=0
def tw15078557259557593123:Nat:=0
def tw8724258443959988318:Nat:=0
def tw7711929483059626199:Nat:=0
def tw550074970332282131:Nat:=0
def tw1194905168079271048:Nat:=0
def tw8089903774270177887:Nat:=0
def tw11604736989447334103:Nat:=0
def tw3439526469536450629:Nat:=0
def tw6339274573237170236:Nat:=0
def tw15694979153317631607:Nat:=0
def tw13470603823345635782:Nat:=0
def tw5411427256094771687:Nat:=0
def tw18424799529992249322:Nat:=0
def tw14346429438461328987:Nat:=0
def tw7837895533937670175:Nat:=0
def tw4332673128432940927:Nat:=0
def tw24965373168019307:Nat:=0
def tw16628271535378187268:Nat:=0
def tw16905839536110807065:Nat:=0
def tw15992481993799510404:Nat:=0
def tw9941896095672758942:Nat:=0
def tw11364551166897704166:Nat:=0
def tw6437159239473603375:Nat:=0
def tw14960104242626066798:Nat:=0
def tw10573712792346969733:Nat:=0
def tw6843053649405128696:Nat:=0
def tw3312508978371199767:Nat:=0
def tw1535776274592694325:Nat:=0
def tw6475893493080751682:Nat:=0
def tw12188644061777007165:Nat:=0
def tw5817413537946439275:Nat:=0
def tw6011654191239314213:Nat:=0
def tw17665155252751293636:Nat:=0
def tw12917796094250474720:Nat:=0
def tw4482842836664561631:Nat:=0
def tw7202807440439572865:Nat:=0
def tw5491754344472048312:Nat:=0
def tw10201837501585412324:Nat:=0
def tw8272764207065560835:Nat:=0
def tw5372646942829984553:Nat:=0
def tw7518092135402173920:Nat:=0
def tw2221200572095451215:Nat:=0
def tw17324329193941921150:Nat:=0
def tw13052266378214217328:Nat:=0
def tw8416922127723398879:Nat:=0
def tw17126298004003211782:Nat:=0
def tw7010612509576088667:Nat:=0
def tw7880902578666135031:Nat:=0
def tw1542455412966789031:Nat:=0
def tw221648877450409288:Nat:=0
def tw5726522273828162723:Nat:=0
def tw802140057112796092:Nat:=0
def tw5628929200238060577:Nat:=0
def tw4020464551968056520:Nat:=0
def tw11403269076740735598:Nat:=0
def tw14925241587947561975:Nat:=0
def tw1240918734998066625:Nat:=0
def tw12268046248372613698:Nat:=0
def tw6530395454523659268:Nat:=0
def tw3577794338729180579:Nat:=0
def tw17852098446973396398:Nat:=0
def tw3953630939166250717:Nat:=0
def tw120832169270364805:Nat:=0
def tw4758357600573949936:Nat:=0
def tw1709782748824345:Nat:=0
def tw14323659084843571026:Nat:=0
def tw14623717467017733266:Nat:=0
def tw11421733602132965616:Nat:=0
def tw11537520142006676986:Nat:=0
def tw3216220152806981346:Nat:=0
def tw5866422761672168189:Nat:=0
def tw15773646304981962194:Nat:=0
def tw8424099430724260922:Nat:=0
def tw14147584540446569800:Nat:=0
def tw1880680256367960732:Nat:=0
def tw7537742042362848644:Nat:=0
def tw17678800160743192213:Nat:=0
def tw5266373808751953412:Nat:=0
def tw14795032633671927702:Nat:=0
def tw5343644806204811537:Nat:=0
def tw6606476368258515647:Nat:=0
def tw14217470268667009213:Nat:=0
def tw7718544126364595986:Nat:=0
def tw6354832149515765068:Nat:=0
def tw15580823354164984424:Nat:=0
def tw10919642262904066512:Nat:=0
def tw190324093283637207:Nat:=0
def tw7651656667373723500:Nat:=0
def tw3615745929585607296:Nat:=0
def tw6725147348809070500:Nat:=0
def tw1121536279160204217:Nat:=0
def tw16400999414230423350:Nat:=0
def tw16652000522540139840:Nat:=0
def tw13450877254234425427:Nat:=0
def tw10871278860624172513:Nat:=0
def tw14148815751851410622:Nat:=0
def tw17402130616945342216:Nat:=0
def tw4524521214977959911:Nat:=0
def tw15111565720140044021:Nat:=0
def tw3359251249173871298:Nat:=0
def tw7559980771522074534:Nat:=0
def tw14292718381726704249:Nat:=0
def tw12508058469665764329:Nat:=0
def tw789965840123441353:Nat:=0
def tw11187810869795466209:Nat:=0
def tw6604286589687346221:Nat:=0
def tw3279695522599636611:Nat:=0
def tw9697045716032900644:Nat:=0
def tw2201008205546557714:Nat:=0
def tw4413187157235895054:Nat:=0
def tw16548854436854297827:Nat:=0
def tw3359720975194231909:Nat:=0
def tw417715082711917971:Nat:=0
def tw933848287502721377:Nat:=0
def tw12368917747027834359:Nat:=0
def tw6639440159538080713:Nat:=0
def tw7483463064602650520:Nat:=0
def tw1710003262775603045:Nat:=0
def tw247535922202985193:Nat:=0
def tw11428426243591648898:Nat:=0
def tw18092737438017238058:Nat:=0
def tw6500012877634742376:Nat:=0
def tw11690326898092887732:Nat:=0
def tw15512581270136051160:Nat:=0
def tw6983266622119979381:Nat:=0
def tw13932369946910643331:Nat:=0
def tw16287656744689751099:Nat:=0
def tw2329286179911879742:Nat:=0
def tw2409241349662159954:Nat:=0
def tw6031974976219373423:Nat:=0
def tw17299975496272570993:Nat:=0
def tw14277005671187205961:Nat:=0
def tw12985383056448961856:Nat:=0
def tw9692150081779948538:Nat:=0
def tw1227099722079855557:Nat:=0
def tw11161228135851096192:Nat:=0
def tw5603320485886607728:Nat:=0
def tw14040614606765820114:Nat:=0
def tw15556119256024627879:Nat:=0
def tw2308175682032614617:Nat:=0
def tw381972564189559321:Nat:=0
def tw396392248231539301:Nat:=0
def tw6810053878676058496:Nat:=0
def tw16141614196434250893:Nat:=0
def tw15840857861692207064:Nat:=0
def tw2720013075953502202:Nat:=0
def tw2744828422508180087:Nat:=0
def tw13116954341938255066:Nat:=0
def tw1221236240329892351:Nat:=0
def tw18434672339747195769:Nat:=0
def tw12508922249795407341:Nat:=0
def tw5728919440766692254:Nat:=0
def tw13177475976688384036:Nat:=0
def tw10203508167692697539:Nat:=0
def tw17188237616425332948:Nat:=0
def tw12250664485812638450:Nat:=0
def tw12535924580348243895:Nat:=0
def tw15467503454306205483:Nat:=0
def tw4441571374917548055:Nat:=0
def tw17070793121725554626:Nat:=0
def tw14876244988433636621:Nat:=0
def tw10527863711078704437:Nat:=0
def tw6084866207268398172:Nat:=0
def tw11380691548877622449:Nat:=0
def tw2909729591763940010:Nat:=0
def tw7573728074154860154:Nat:=0
def tw14356715527532677863:Nat:=0
def tw12449394171583346065:Nat:=0
def tw3036779184317972877:Nat:=0
def tw2956623211526561738:Nat:=0
def tw708290248955824540:Nat:=0
def tw5840019452298137353:Nat:=0
def tw10650056138322569259:Nat:=0
def tw4609058885194350959:Nat:=0
def tw17338838133070092153:Nat:=0
def tw15633920829051043346:Nat:=0
def tw7293720052170438018:Nat:=0
def tw1034006842849865555:Nat:=0
def tw7798453569539435662:Nat:=0
def tw17544045099685473316:Nat:=0
def tw1118193054634570617:Nat:=0
def tw2800527539228641555:Nat:=0
def tw14787984465755241456:Nat:=0
def tw9987976663241058082:Nat:=0
def tw6126945993190418719:Nat:=0
def tw8260945446210390646:Nat:=0
def tw1187398081347369780:Nat:=0
def tw6104788997119773769:Nat:=0
def tw8469507230982981567:Nat:=0
def tw125422982621107258:Nat:=0
def tw5812322939871130815:Nat:=0
def tw639432606641539294:Nat:=0
def tw18170796080503422733:Nat:=0
def tw8955939237079708494:Nat:=0
def tw11885149551339990271:Nat:=0
def tw9739132405434776021:Nat:=0
def tw15773664693056331058:Nat:=0
def tw6418931805548522774:Nat:=0
def tw8153655050095227158:Nat:=0
def tw5073743894877669623:Nat:=0
def tw16120790332775909808:Nat:=0
def tw13981876750796854672:Nat:=0
def tw1165998873726913444:Nat:=0
def tw3686141135028335112:Nat:=0
def tw10430559037036002676:Nat:=0
def tw4466094302856135133:Nat:=0
def tw2897714621158208590:Nat:=0
def tw6976276529371402997:Nat:=0
def tw11468644714681416892:Nat:=0
def tw14413828219155931415:Nat:=0
def tw8698315274476976249:Nat:=0
def tw16074861169272771321:Nat:=0
def tw7339067017918866628:Nat:=0
def tw8589799587744550262:Nat:=0
def tw7274559925953330960:Nat:=0
def tw7984429511678975393:Nat:=0
def tw13731906571376688920:Nat:=0
def tw7617851996506284551:Nat:=0
def tw2741015675909392958:Nat:=0
def tw2045136466526983444:Nat:=0
def tw12612302883275401317:Nat:=0
def tw17774132007748846403:Nat:=0
def tw15999002781303031697:Nat:=0
def tw10772901137751099892:Nat:=0
def tw6075663702078618236:Nat:=0
def tw2962318162507229821:Nat:=0
def tw14704989820382540773:Nat:=0
def tw13028123493204960229:Nat:=0
def tw11178097548467186774:Nat:=0
def tw13151944321458857714:Nat:=0
def tw9298473802027384911:Nat:=0
def tw2942407525636755675:Nat:=0
def tw5178587014188137814:Nat:=0
def tw809241282487374320:Nat:=0
def tw9781001728903317595:Nat:=0
def tw368151495126024511:Nat:=0
def tw14358609855921328494:Nat:=0
def tw18353697501693171052:Nat:=0
def tw14410341108157946233:Nat:=0
def tw13058606132127550050:Nat:=0
def tw13606427765297837776:Nat:=0
def tw16691365375797399858:Nat:=0
def tw16350718989830574662:Nat:=0
def tw9098382159777734423:Nat:=0
def tw16768795949540163064:Nat:=0
def tw10925514176634516680:Nat:=0
def tw1717459397018394876:Nat:=0
def tw4216175716936290483:Nat:=0
def tw15197679923526502043:Nat:=0
def tw12579672349296649066:Nat:=0
def tw11641834540743392119:Nat:=0
def tw6768064590327313952:Nat:=0
def tw8641538744788769288:Nat:=0
def tw18095630415344400818:Nat:=0
def tw2600342630644740137:Nat:=0
def tw3682151412709804169:Nat:=0
def tw3606998526871417447:Nat:=0
def tw6011502014034560392:Nat:=0
def tw5071510329190106810:Nat:=0
def tw6521253592375765354:Nat:=0
def tw10615066299193004673:Nat:=0
def tw6622806791954156144:Nat:=0
def tw16382548710886721959:Nat:=0
def tw5348795709604668968:Nat:=0
def tw13863267580034264008:Nat:=0
def tw224077383728043742:Nat:=0
def tw7597179656031006473:Nat:=0
def tw13084748641320160259:Nat:=0
def tw16166062479162293791:Nat:=0
def tw410415022048549273:Nat:=0
def tw7197775661183408412:Nat:=0
def tw11523226741091415525:Nat:=0
def tw10272649914040141564:Nat:=0
def tw12353183105090717011:Nat:=0
def tw11912658696537217957:Nat:=0
def tw2460935102142863765:Nat:=0
def tw9142696940250415174:Nat:=0
def tw10110894690274693011:Nat:=0
def tw1499663290647822002:Nat:=0
def tw513760178346844791:Nat:=0
def tw8880029033615338110:Nat:=0
def tw8863439816800897709:Nat:=0
def tw632347099937821305:Nat:=0
def tw213758783439927161:Nat:=0
def tw9075595402180193551:Nat:=0
def tw2313115096993553482:Nat:=0
def tw13868547389143171740:Nat:=0
def tw15358868385418932261:Nat:=0
def tw10116547181116942139:Nat:=0
def tw13517556202481758757:Nat:=0
def tw6807001783641704301:Nat:=0
def tw8750784802466435381:Nat:=0
def tw10392623288797926372:Nat:=0
def tw5727584075499123950:Nat:=0
def tw7059367184672474053:Nat:=0
def tw16593655400990994332:Nat:=0
def tw18181192871872302592:Nat:=0
def tw3987703081286687954:Nat:=0
def tw17086337626464215067:Nat:=0
def tw9271279553189793333:Nat:=0
def tw11356756811847365740:Nat:=0
def tw8805596100649112893:Nat:=0
def tw4466854732189124190:Nat:=0
def tw15885305721161450770:Nat:=0
def tw1900047048806579952:Nat:=0
def tw6889857583393290753:Nat:=0
def tw12869733125001843635:Nat:=0
def tw13214133983122893936:Nat:=0
def tw4514218505098768044:Nat:=0
def tw1109090091528148922:Nat:=0
def tw1902712145917101829:Nat:=0
def tw14601010183949212058:Nat:=0
def tw2697530842065299744:Nat:=0
def tw7245143404196389107:Nat:=0
def tw1997863173574691653:Nat:=0
def tw7519347802327576923:Nat:=0
def tw1520186119689413059:Nat:=0
def tw14360349880914351080:Nat:=0
def tw8412345748331316958:Nat:=0
def tw18046334930866639878:Nat:=0
def tw10174933649734685971:Nat:=0
def tw1213131277867343631:Nat:=0
def tw1929709084692549186:Nat:=0
def tw18269487046109607787:Nat:=0
def tw2960358902489500617:Nat:=0
def tw15022622081711251066:Nat:=0
def tw12063140807345421304:Nat:=0
def tw5564374400091537773:Nat:=0
def tw15815457705992008091:Nat:=0
def tw772065758907596701:Nat:=0
def tw17486371763625643353:Nat:=0
def tw5231417759146615601:Nat:=0
def tw2186322022591491547:Nat:=0
def tw15067988719969687698:Nat:=0
def tw11628455864680166971:Nat:=0
def tw4918762307080544470:Nat:=0
def tw8277745262651625725:Nat:=0
def tw3996543869001013688:Nat:=0
def tw2117717594210858893:Nat:=0
def tw6438640142971895108:Nat:=0
def tw2875085128006103012:Nat:=0
def tw9470509907009050677:Nat:=0
def tw1004420317936060609:Nat:=0
def tw8992103041528046207:Nat:=0
def tw15905520795042111469:Nat:=0
def tw10857413456545498977:Nat:=0
def tw5632851385288777999:Nat:=0
def tw9676985859122613520:Nat:=0
def tw13941203109428334371:Nat:=0
def tw769237912719848748:Nat:=0
def tw2852681881714321449:Nat:=0
def tw15159365743220331533:Nat:=0
def tw15919069303324453926:Nat:=0
def tw6111471947172709836:Nat:=0
def tw8675651364266750345:Nat:=0
def tw9273692059533955855:Nat:=0
def tw2381951970078957887:Nat:=0
def tw4444799393411807905:Nat:=0
def tw17044457250192062592:Nat:=0
def tw11836269695178046904:Nat:=0
def tw16564219276104422794:Nat:=0
def tw15003154892181181217:Nat:=0
def tw9185299005540398856:Nat:=0
def tw5599668111607336333:Nat:=0
def tw15311446565397309830:Nat:=0
def tw9413000010559559752:Nat:=0
def tw2546465675439833240:Nat:=0
def tw18372195018908076279:Nat:=0
def tw5492959666446019223:Nat:=0
def tw11317490269724478953:Nat:=0
def tw4882128192662387511:Nat:=0
def tw1661487505026052429:Nat:=0
def tw1612146366619964784:Nat:=0
def tw858799461339993092:Nat:=0
def tw794579661675117959:Nat:=0
def tw4034105721701367160:Nat:=0
def tw18003246359101669806:Nat:=0
def tw7148748043286745061:Nat:=0
def tw17017652871763595892:Nat:=0
def tw6691684452631515929:Nat:=0
def tw14696868401862503654:Nat:=0
def tw11212333628841304254:Nat:=0
def tw5538503261766271318:Nat:=0
def tw15189800243340163615:Nat:=0
def tw4193978767320850393:Nat:=0
def tw14970985069391963542:Nat:=0
def tw10494785782352224535:Nat:=0
def tw6329609512704695258:Nat:=0
def tw16591425391325884250:Nat:=0
def tw14801161227987471654:Nat:=0
def tw6740586375342788865:Nat:=0
def tw203431079570994033:Nat:=0
def tw6027200937407161926:Nat:=0
def tw10964903130410024490:Nat:=0
def tw15978941919527080162:Nat:=0
def tw11180226096370762422:Nat:=0
def tw17031338212159467890:Nat:=0
def tw6349410233550019035:Nat:=0
def tw4217323883517356116:Nat:=0
def tw16642541798190146463:Nat:=0
def tw10053769585235484462:Nat:=0
def tw6340560968636792146:Nat:=0
def tw701857897573998631:Nat:=0
def tw16410023524126099493:Nat:=0
def tw18390668335087372880:Nat:=0
def tw979140433638073920:Nat:=0
def tw6949857130141257259:Nat:=0
def tw13758178754709226405:Nat:=0
def tw16832685660961284184:Nat:=0
def tw15519121858938663687:Nat:=0
def tw9624875653329668998:Nat:=0
def tw3897030169863510966:Nat:=0
def tw7093612332463198761:Nat:=0
def tw15510898785728403027:Nat:=0
def tw11222654136300881924:Nat:=0
def tw16182167626087431221:Nat:=0
def tw11265378361576165018:Nat:=0
def tw6870604887255670790:Nat:=0
def tw2908929859305248152:Nat:=0
def tw8842195114124589047:Nat:=0
def tw17425949074901036124:Nat:=0
def tw2932382893356755236:Nat:=0
def tw9969559731167575834:Nat:=0
end PySem.W.Fast
open PySem PySem.W PyProof.Rows
set_option maxRecDepth 100000 in
set_option maxHeartbeats 0 in
theorem PySem.Challenge.cw_lockhouse_k63_entries_refused_holds : PySem.Challenge.rw_lockhouse_k63_entries_refused.Holds := by
 w_on;o_law;k_head;(case hw=>w_witness2)
 k_fill
 refine My.walk (l:=PySem.Challenge.rw_lockhouse_k63_entries_refused) rfl rfl (fun w h Y=>PySem.W.kIn_of Y) ?F
 case F =>
  intro w mg fa h KX G hmg
  refine' My.all_mk KX G hmg ?xbM ?xbN ?xbO ?xbP ?xbQ ?vc ?xad ?ut ?xae ?wr ?wu ?vm ?uu ?vn ?uv ?xbR ?p0 ?p1 ?p2 ?p3 ?p4 ?p5 ?p6 ?p7 ?a8 ?i8 ?ac8 ?p8 ?a9 ?i9 ?p9 ?a10 ?i10 ?p10 ?a11 ?i11 ?p11 ?p12 ?p13 ?p14 ?a15 ?a15_U ?i15 ?p15 ?p16 ?a17 ?i17 ?l17 ?c17 ?k17 ?lT17 ?dT17 ?p18 ?p19 ?p20 ?p21 ?p22 ?p23 ?p24 ?p25 ?p26 ?p27 ?p28 ?p29 ?p30 ?p31 ?p32 ?p33 ?p34 ?p35 ?p36 ?p37 ?p38 ?p39 ?p40 ?p41 ?p42 ?p43 ?p44 ?p45 ?p46 ?p47 ?p48 ?p49 ?p50 ?p51 ?p52 ?p53 ?p54 ?p55 ?p56 ?p57 ?p58 ?p59 ?p60 ?p61 ?p62 ?p63 ?p64 ?p65 ?p66 ?p67 ?p68 ?p69 ?p70 ?p71 ?p72 ?p73 ?p74 ?p75 ?p76 ?p77 ?p78 ?p79 ?p80 ?p81 ?p82 ?p83 ?p84 ?p85 ?p86 ?p87 ?p88 ?p89 ?p90 ?p91 ?p92 ?p93 ?p94 ?p95 ?p96 ?p97 ?p98 ?p99 ?p100 ?a101 ?l101 ?c101 ?k101 ?xu ?zg ?xaE ?xv ?xl ?jm ?jn ?xp ?jo ?jp ?xaF ?xj ?zc ?xbS ?xbt ?xbT ?xbU ?xbV ?xbW ?xaf ?xag ?xaV ?xah ?xbX ?xbu ?xbY ?xbZ ?xb0 ?xb1 ?xai ?xaj ?xaW ?xak ?xal ?xb2 ?xbv ?xb3 ?xb4 ?xb5 ?xb6 ?xam ?xan ?xaX ?xao ?xap ?g1 ?g2 ?xb7 ?xbw ?xb8 ?xb9 ?xca ?xcb ?zo ?zm ?zp ?zi ?zq ?zh ?xcc ?xbx ?xcd ?xce ?xcf ?xcg ?xf ?xh ?xm ?gSEA ?uw ?xaq ?wx ?wz ?vo ?ux ?vp ?uy ?eg_eU ?en_eU ?ec_eU ?eo_eU ?eb_eU ?cX_eU ?exmX_eU ?kX_eU_0 ?kX_eU_1 ?kX_eU_2 ?kX_eU_3 ?kX_eU_4 ?kY_eU_0 ?eg_eW ?en_eW ?ec_eW ?eo_eW ?eb_eW ?cX_eW ?exmX_eW ?kX_eW_0 ?kX_eW_1 ?kX_eW_2 ?kX_eW_3 ?kX_eW_4 ?kY_eW_0 ?eg_eN ?en_eN ?ec_eN ?eo_eN ?eb_eN ?cX_eN ?exmX_eN ?kX_eN_0 ?kX_eN_1 ?kX_eN_2 ?kX_eN_3 ?kX_eN_4 ?kY_eN_0 ?eg_eD ?en_eD ?ec_eD ?eo_eD ?eb_eD ?cX_eD ?exmX_eD ?kX_eD_0 ?kX_eD_1 ?kX_eD_2 ?kX_eD_3 ?kX_eD_4 ?kY_eD_0 ?gHOME ?xch ?xby ?xci ?xcj ?xck ?xcl ?nO_kept_canal ?nO_kept_names ?nO_kept_ways ?nO_kept_state ?nO_kept_pours ?nO_kept_words ?nO_kept_entries ?gLETTERS ?gMOST_SIGNS ?gMOST_BOATS ?agU ?agD ?lU ?lD ?cU_ ?cD_ ?dU ?dD
  (case xbM|xbN|xbO|xbP|xbQ|vc|xad|ut|xae|wr|wu|vm|uu|vn|uv|xbR|a101|xu|zg|xaE|xv|xl|jm|jn|xp|jo|jp|xaF|xj|zc|gSEA|gHOME|gLETTERS|gMOST_SIGNS|gMOST_BOATS|agU|agD=>refine' L2.nsP_mk ?_;first|k_is|k_exc|kit_is|kts_exm|rfl)
  (case a8|a9|a10|a11|a15|a15_U|a17|xbU|xaf|xag|xaV|xah|xbZ|xai|xaj|xaW|xak|xal|xb4|xam|xan|xaX|xao|xap|xb9|zo|zm|zp|zi|zq|zh|xce|xf|xh|xm|eg_eU|en_eU|ec_eU|eg_eW|en_eW=>refine' L2.fnP_mk ?_;first|k_is|k_exc|kit_is|kts_exm|rfl)
  (case ec_eW|eg_eN|en_eN|ec_eN|eg_eD|en_eD|ec_eD|xcj|nO_kept_canal|nO_kept_names|nO_kept_ways|nO_kept_state|nO_kept_pours|nO_kept_words|nO_kept_entries=>refine' L2.fnP_mk ?_;first|k_is|k_exc|kit_is|kts_exm|rfl)
  (case i8|ac8|i9|i10|i11|i15|i17|l17|c17|k17|lT17|dT17|l101|c101|k101|xbS|xbt|xbT|xbV|xbW|xbX|xbu|xbY|xb0|xb1|xb2|xbv|xb3|xb5|xb6|g1|g2|xb7|xbw|xb8|xca|xcb|xcc|xbx|xcd=>first|k_is|k_exc|kit_is|kts_exm|rfl)
  (case xcf|xcg|uw|xaq|wx|wz|vo|ux|vp|uy|eo_eU|eb_eU|cX_eU|exmX_eU|kX_eU_0|kX_eU_1|kX_eU_2|kX_eU_3|kX_eU_4|kY_eU_0|eo_eW|eb_eW|cX_eW|exmX_eW|kX_eW_0|kX_eW_1|kX_eW_2|kX_eW_3|kX_eW_4|kY_eW_0|eo_eN|eb_eN|cX_eN|exmX_eN|kX_eN_0|kX_eN_1|kX_eN_2|kX_eN_3|kX_eN_4|kY_eN_0=>first|k_is|k_exc|kit_is|kts_exm|rfl)
  (case eo_eD|eb_eD|cX_eD|exmX_eD|kX_eD_0|kX_eD_1|kX_eD_2|kX_eD_3|kX_eD_4|kY_eD_0|xch|xby|xci|xck|xcl|lU|lD|cU_|cD_|dU|dD=>first|k_is|k_exc|kit_is|kts_exm|rfl)
  (case p8|p9|p10|p11|p15=>refine' ⟨_,L2.gL ?l ?c ?k⟩;(case l=>k_is);(case c=>k_is);(case k=>k_is))
  (case p0|p1|p2|p3|p4|p5|p6|p7|p26|p27|p28|p29|p30|p31|p32|p33|p34|p35|p36|p37|p38|p39|p40|p41|p42|p43|p44|p45|p46|p47|p48|p49|p50|p51|p54|p63|p64|p65|p66|p67=>refine' L2.fnT_mk ?a ?l ?c ?k;(case a=>k_is);(case l=>k_is);(case c=>k_is);(case k=>k_is))
  (case p68|p69|p70|p71|p72|p73|p74|p75|p76|p77|p78|p79|p83|p84|p85|p86|p87|p88|p89|p90|p91|p92|p93|p94|p95|p96|p97|p98|p99|p100=>refine' L2.fnT_mk ?a ?l ?c ?k;(case a=>k_is);(case l=>k_is);(case c=>k_is);(case k=>k_is))
  (case p12|p13|p14|p16|p18|p19|p20|p21|p22|p23|p24|p25|p52|p53|p55|p56|p57|p58|p59|p60|p61|p62|p80|p81|p82=>refine' L2.fnC_mk ?a ?i ?l ?c ?k;(case a=>k_is);(case i=>first|k_is|rfl);(case l=>k_is);(case c=>k_is);(case k=>k_is))
